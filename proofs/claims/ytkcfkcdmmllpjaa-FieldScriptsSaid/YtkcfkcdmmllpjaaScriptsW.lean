/- The walk of FieldScripts. -/
import Derived.Test.YtkcfkcdmmllpjaaLive
import Derived.Test.YtkcfkcdmmllpjaaBoth
import Derived.Test.YtkcfkcdmmllpjaaScr
import Derived.Deep.RegionHeld3
import Derived.Deep.DeepCutAuto
namespace Go.Proofs.Ytkcfkcdmmllpjaa
open Go.RowKit
open Go.Lib

set_option maxRecDepth 100000 in
set_option maxHeartbeats 1000000 in
theorem Scripts_none (z : Int) (a : Option Addr) (len cap : Nat) (w : World) (h : z < 0 ∨ 4096 < z) :
    Calls Try.prog 3 #[.int .i64 z, .slice a len cap] w fun e w' => e = .returned (.bool true) ∧ Below w.heap.size w w' := by
  have HB := hid (Below.refl w.heap.size w)
  go_enter Try.func3, Try.ntmps3
  go_wp2_with fail
  refine (new_no _ _ h).mono ?_; rintro e w' ⟨rfl, rfl⟩
  go_wp2_with fail
  refine (refNew_no _ _ h).mono ?_; rintro e w' ⟨rfl, rfl⟩
  go_wp2_with fail
  go_loop [9] (fun i => i = .int .i64 0) (fun _ => 0)
  case atStart => rfl
  case round =>
    subst hrel
    go_wp2_with fail
    all_goals (refine (live_any _).mono ?_; rintro e w' ⟨rfl, hb⟩; replace HB := on_below HB hb; clear hb; go_wp2_with fail; go_ret; exact ⟨rfl, HB.out⟩)

/-- what a call of FieldScripts has behind some rounds -/
structure Scr (w : World) (wr : World) (l : List UInt8) : Prop where
  a : Area 60 wr (w.heap.size + 1) w.heap.size l
  k : Area 44 wr (w.heap.size + 2 + 1) (w.heap.size + 2) l
  below : Below w.heap.size w wr

theorem quiet_eq {f : FuncId} {args : Array Value} {w : World} {n : Nat} {v : Value} (h : Calls Try.prog f args (w.drewN n) fun e w' => e = .returned v ∧ w.drewN n = w') :
    Calls Try.prog f args (w.drewN n) fun e w'' => e = .returned v ∧ ∃ m, w'' = w.drewN m := h.mono fun _ _ ⟨he, hm⟩ => ⟨he, n, hm.symm⟩

/-- the variable o of a round -/
structure Vars (w : World) (C : Nat) (d o c n : Int) (t : ByteArray) : Prop where
  row : w.heap[C]? = some (.cells #[.int .i64 d, .int .i64 o, .int .i64 c, .int .u32 n, .string t] 32 (0, 0))

theorem Vars.c0 {w : World} {C : Nat} {d o c n : Int} {t : ByteArray} (h : Vars w C d o c n t) : w.cell? ⟨C, 0, none⟩ = some (.int .i64 d) := by rw [cell_of_row _ _ _ _ _ _ h.row]; rfl
theorem Vars.c1 {w : World} {C : Nat} {d o c n : Int} {t : ByteArray} (h : Vars w C d o c n t) : w.cell? ⟨C, 1, none⟩ = some (.int .i64 o) := by rw [cell_of_row _ _ _ _ _ _ h.row]; rfl
theorem Vars.c2 {w : World} {C : Nat} {d o c n : Int} {t : ByteArray} (h : Vars w C d o c n t) : w.cell? ⟨C, 2, none⟩ = some (.int .i64 c) := by rw [cell_of_row _ _ _ _ _ _ h.row]; rfl
theorem Vars.c3 {w : World} {C : Nat} {d o c n : Int} {t : ByteArray} (h : Vars w C d o c n t) : w.cell? ⟨C, 3, none⟩ = some (.int .u32 n) := by rw [cell_of_row _ _ _ _ _ _ h.row]; rfl
theorem Vars.c4 {w : World} {C : Nat} {d o c n : Int} {t : ByteArray} (h : Vars w C d o c n t) : w.cell? ⟨C, 4, none⟩ = some (.string t) := by rw [cell_of_row _ _ _ _ _ _ h.row]; rfl
theorem Vars.lt {w : World} {C : Nat} {d o c n : Int} {t : ByteArray} (h : Vars w C d o c n t) : C < w.heap.size := (Array.getElem?_eq_some_iff.1 h.row).1
theorem Vars.upd {w w' : World} {C B : Nat} {d o c n : Int} {t : ByteArray} {l : List UInt8} (h : Vars w C d o c n t) (hu : Upd B l w w') (hB : C ≠ B) : Vars w' C d o c n t :=
  ⟨by rw [hu.block _ h.lt hB]; exact h.row⟩

theorem Scr.alloc {w wr : World} {l : List UInt8} (h : Scr w wr l) (x : Obj) : Scr w (wr.alloc x) l :=
  ⟨h.a.below ((Below.refl _ _).alloc (Nat.le_refl _) _), h.k.below ((Below.refl _ _).alloc (Nat.le_refl _) _), h.below.alloc h.below.size _⟩
theorem Scr.both {w w4 w5 w6 : World} {l l' : List UInt8} (h : Scr w w4 l) (hl : l'.length = l.length) (h1 : Upd w.heap.size l' w4 w5) (h2 : Upd (w.heap.size + 2) l' w5 w6) : Scr w w6 l' := by
  have a1 := h.a.upd h1 hl
  have k1 := h.k.other h1 (by omega) (by omega)
  exact ⟨a1.other h2 (by omega) (by omega), k1.upd h2 hl, (on_upd (hid (on_upd (hid h.below) h1 (Nat.le_refl _)).out) h2 (by omega)).out⟩
theorem Scr.drewN {w wr : World} {l : List UInt8} (h : Scr w wr l) (m : Nat) : Scr w (wr.drewN m) l :=
  ⟨⟨h.a.ptr, h.a.row, h.a.ne, h.a.len⟩, ⟨h.k.ptr, h.k.row, h.k.ne, h.k.len⟩, below_drewN h.below m⟩
theorem Scr.first {w w4 w5 : World} {l l' : List UInt8} (h : Scr w w4 l) (h1 : Upd w.heap.size l' w4 w5) : Area 44 w5 (w.heap.size + 2 + 1) (w.heap.size + 2) l :=
  h.k.other h1 (by omega) (by omega)

set_option maxRecDepth 100000 in
set_option maxHeartbeats 8000000 in
theorem Scripts_go (z : Nat) (a : Option Addr) (len cap : Nat) (w : World) (h : z ≤ 4096) (hs : IsScript w a len) :
    Calls Try.prog 3 #[.int .i64 (z : Int), .slice a len cap] w fun e w' => e = .returned (.bool true) ∧ Below w.heap.size w w' := by
  have hl : len ≤ 9223372036854775807 := by
    rcases hs with rfl | ⟨_, _, _, _, hm, _⟩
    · omega
    · unfold maxLen at hm; omega
  have HS := hid hs; clear hs
  go_enter Try.func3, Try.ntmps3
  go_wp2_with fail
  refine (new_ok _ _ h).mono ?_; rintro e w1 ⟨rfl, rfl⟩
  go_wp2_with fail
  refine (refNew_ok _ _ h).mono ?_; rintro e w2 ⟨rfl, rfl⟩
  have hsz : (madeArea 60 z w).heap.size = w.heap.size + 2 := madeArea_size 60 z w
  rw [hsz]
  have hS : Scr w (madeArea 44 z (madeArea 60 z w)) (List.replicate z 0) := by
    have h1 := madeArea_area 44 z (madeArea 60 z w) h
    have hb := madeArea_below 44 z (madeArea 60 z w)
    rw [hsz] at h1
    exact ⟨(madeArea_area 60 z w h).below hb, h1, (madeArea_below 60 z w).trans (hb.mono (by rw [hsz]; omega))⟩
  have HR := hid hS; clear hS hsz
  generalize madeArea 44 z (madeArea 60 z w) = w3 at HR ⊢
  go_wp2_with fail
  go_loopw [9] (fun i wr => ∃ (k : Nat) (l : List UInt8), k ≤ 60 ∧ i = .int .i64 k ∧ Scr w wr l) (fun i _ => 60 - (intOf i).toNat)
  case atStart => exact ⟨0, _, by omega, rfl, HR.out⟩
  case round =>
    clear HR
    obtain ⟨k, l, hk, rfl, hR⟩ := hrel
    have HR := hid hR; clear hR
    by_cases hlt : k < len ∧ k < 60
    · obtain ⟨hlt, h60⟩ := hlt
      rcases HS.out with e | ⟨b, off, rfl, hb, _, hop⟩
      · omega
      obtain ⟨d, o, c, n, t, hO⟩ := hop k hlt
      have HO := hid hO; clear hO hop
      have e0 : wr.cell? ⟨b, off + k * 5, none⟩ = some (.int .i64 d) := by rw [HR.out.below.cell (p := ⟨b, _, none⟩) hb]; exact HO.out.c0
      have e1 : wr.cell? ⟨b, off + k * 5 + 1, none⟩ = some (.int .i64 o) := by rw [HR.out.below.cell (p := ⟨b, _, none⟩) hb]; exact HO.out.c1
      have e2 : wr.cell? ⟨b, off + k * 5 + 2, none⟩ = some (.int .i64 c) := by rw [HR.out.below.cell (p := ⟨b, _, none⟩) hb]; exact HO.out.c2
      have e3 : wr.cell? ⟨b, off + k * 5 + 3, none⟩ = some (.int .u32 n) := by rw [HR.out.below.cell (p := ⟨b, _, none⟩) hb]; exact HO.out.c3
      have e4 : wr.cell? ⟨b, off + k * 5 + 4, none⟩ = some (.string t) := by rw [HR.out.below.cell (p := ⟨b, _, none⟩) hb]; exact HO.out.c4
      go_upto_region 9 with (fail)
      clear e0 e1 e2 e3 e4
      have hV : Vars (wr.alloc (.cells #[.int .i64 d, .int .i64 o, .int .i64 c, .int .u32 n, .string t] 32)) wr.heap.size d o c n t := ⟨heap_alloc_new _ _⟩
      have hR4 := HR.out.alloc (.cells #[.int .i64 d, .int .i64 o, .int .i64 c, .int .u32 n, .string t] 32)
      have hC : w.heap.size + 2 + 1 < wr.heap.size := HR.out.k.ltA
      generalize wr.alloc (.cells #[.int .i64 d, .int .i64 o, .int .i64 c, .int .u32 n, .string t] 32) = w4 at hV hR4 ⊢
      generalize wr.heap.size = C at hV hC ⊢
      clear HR
      have HR := hid hR4; clear hR4
      have HV := hid hV; clear hV
      have v0 := HV.out.c0
      have v1 := HV.out.c1
      have v2 := HV.out.c2
      have v3 := HV.out.c3
      have v4 := HV.out.c4
      by_cases ht : 300 < t.size
      · have hwt := HO.out.wt
        unfold maxLen at hwt
        go_wp2_with fail
        refine (live_any _).mono ?_; rintro e w' ⟨rfl, hb'⟩; have HB := on_below (hid HR.out.below) hb'; clear hb'
        go_wp2_with fail
        go_ret
        exact ⟨rfl, HB.out⟩
      · by_cases hd : d = 0
        · subst hd
          obtain ⟨E, l', hl', p11, p12⟩ := put_both l o c n HO.out.wo HO.out.wc HO.out.wn.1
          have P11 := hid p11; clear p11
          have P12 := hid p12; clear p12
          go_wp2_with fail
          go_region_held3 (fun w' => w'.cell? ⟨C, 1, none⟩ = some (.int .i64 o) ∧ w'.cell? ⟨C, 2, none⟩ = some (.int .i64 c) ∧ w'.cell? ⟨C, 3, none⟩ = some (.int .u32 n)) (first | exact ⟨v1, v2, v3⟩ | exact ⟨x1, x2, x3⟩ | exact ⟨y1, y2, y3⟩ | go_keep)
            (first
              | (go_at_call 11; refine (P11.out _ _ _ (by exact ⟨HR.out.a.ptr, HR.out.a.row, HR.out.a.ne, HR.out.a.len⟩)).mono ?_; rintro e w5 ⟨rfl, hU⟩; have hU' : Upd w.heap.size l' w4 w5 := ⟨hU.os, hU.tape, hU.output, hU.size, hU.block, hU.row⟩; have HU1 := hid hU'; clear hU hU'; have x1 := (HV.out.upd HU1.out (by omega)).c1; have x2 := (HV.out.upd HU1.out (by omega)).c2; have x3 := (HV.out.upd HU1.out (by omega)).c3)
              | (go_at_call 12; refine (P12.out _ _ _ (HR.out.first HU1.out)).mono ?_; rintro e w6 ⟨rfl, hU⟩; have HU2 := hid hU; clear hU; have y1 := ((HV.out.upd HU1.out (by omega)).upd HU2.out (by omega)).c1; have y2 := ((HV.out.upd HU1.out (by omega)).upd HU2.out (by omega)).c2; have y3 := ((HV.out.upd HU1.out (by omega)).upd HU2.out (by omega)).c3))
          have HR6 := hid (HR.out.both hl' HU1.out HU2.out)
          clear x1 x2 x3 y1 y2 y3 HU1 HU2 HV v0 v1 v2 v3 v4 P11 P12 HR hl'
          go_wp2_with fail
          have hk := HR6.out.k.cell
          have hbk := fun m => back_run (w := w6.drewN m) HR6.out.k.row 0 l'.length l'.length (by omega)
          rw [getAt_all] at hbk
          have hl := HR6.out.k.len
          go_quiet ((first
            | (go_at_call 21; exact quiet_eq (bytes_ok _ _ _ _ (by exact ⟨HR6.out.a.ptr, HR6.out.a.row, HR6.out.a.ne, HR6.out.a.len⟩)))
            | (go_at_call 22; exact quiet_eq (size_ok _ _ _ _ (by exact ⟨HR6.out.a.ptr, HR6.out.a.row, HR6.out.a.ne, HR6.out.a.len⟩)))))
          clear hk hbk
          go_wp2_with fail
          go_roundw
          case rel => exact ⟨k + 1, l', by omega, by go_num, HR6.out.drewN _⟩
          case measure => simp [intOf]; omega
        · by_cases hd1 : d = 1
          · subst hd1
            obtain ⟨x, E, p13, p14⟩ := get_both l o c HO.out.wo HO.out.wc
            have P13 := hid p13; clear p13
            have P14 := hid p14; clear p14
            clear hd
            go_wp2_with (first
              | (go_at_call 13; refine (P13.out _ _ _ HR.out.a).mono ?_; rintro e w5 ⟨rfl, rfl⟩)
              | (go_at_call 14; refine (P14.out _ _ _ HR.out.k).mono ?_; rintro e w5 ⟨rfl, rfl⟩))
            have HR6 := HR
            clear HV v0 v1 v2 v3 v4 P13 P14 HR
            obtain ⟨l', rfl⟩ : ∃ l', l' = l := ⟨l, rfl⟩
            obtain ⟨w6, rfl⟩ : ∃ w6, w6 = w4 := ⟨w4, rfl⟩
            have hk := HR6.out.k.cell
            have hbk := fun m => back_run (w := w6.drewN m) HR6.out.k.row 0 l'.length l'.length (by omega)
            rw [getAt_all] at hbk
            have hl := HR6.out.k.len
            go_quiet ((first
              | (go_at_call 21; exact quiet_eq (bytes_ok _ _ _ _ (by exact ⟨HR6.out.a.ptr, HR6.out.a.row, HR6.out.a.ne, HR6.out.a.len⟩)))
              | (go_at_call 22; exact quiet_eq (size_ok _ _ _ _ (by exact ⟨HR6.out.a.ptr, HR6.out.a.row, HR6.out.a.ne, HR6.out.a.len⟩)))))
            clear hk hbk
            go_wp2_with fail
            go_roundw
            case rel => exact ⟨k + 1, l', by omega, by go_num, HR6.out.drewN _⟩
            case measure => simp [intOf]; omega
          · by_cases hd2 : d = 2
            · subst hd2
              clear hd hd1
              obtain ⟨E, l', hl', p11, p12⟩ := putText_both l o t HO.out.wo (by omega)
              have P11 := hid p11; clear p11
              have P12 := hid p12; clear p12
              go_wp2_with fail
              go_region_held3 (fun w' => w'.cell? ⟨C, 1, none⟩ = some (.int .i64 o) ∧ w'.cell? ⟨C, 4, none⟩ = some (.string t)) (first | exact ⟨v1, v4⟩ | exact ⟨x1, x4⟩ | exact ⟨y1, y4⟩ | go_keep)
                (first
                  | (go_at_call 15; refine (P11.out _ _ _ (by exact ⟨HR.out.a.ptr, HR.out.a.row, HR.out.a.ne, HR.out.a.len⟩)).mono ?_; rintro e w5 ⟨rfl, hU⟩; have hU' : Upd w.heap.size l' w4 w5 := ⟨hU.os, hU.tape, hU.output, hU.size, hU.block, hU.row⟩; have HU1 := hid hU'; clear hU hU'; have x1 := (HV.out.upd HU1.out (by omega)).c1; have x4 := (HV.out.upd HU1.out (by omega)).c4)
                  | (go_at_call 16; refine (P12.out _ _ _ (HR.out.first HU1.out)).mono ?_; rintro e w6 ⟨rfl, hU⟩; have HU2 := hid hU; clear hU; have y1 := ((HV.out.upd HU1.out (by omega)).upd HU2.out (by omega)).c1; have y4 := ((HV.out.upd HU1.out (by omega)).upd HU2.out (by omega)).c4))
              have HR6 := hid (HR.out.both hl' HU1.out HU2.out)
              clear x1 x4 y1 y4 HU1 HU2 HV v0 v1 v2 v3 v4 P11 P12 HR hl'
              go_wp2_with fail
              have hk := HR6.out.k.cell
              have hbk := fun m => back_run (w := w6.drewN m) HR6.out.k.row 0 l'.length l'.length (by omega)
              rw [getAt_all] at hbk
              have hl := HR6.out.k.len
              go_quiet ((first
                | (go_at_call 21; exact quiet_eq (bytes_ok _ _ _ _ (by exact ⟨HR6.out.a.ptr, HR6.out.a.row, HR6.out.a.ne, HR6.out.a.len⟩)))
                | (go_at_call 22; exact quiet_eq (size_ok _ _ _ _ (by exact ⟨HR6.out.a.ptr, HR6.out.a.row, HR6.out.a.ne, HR6.out.a.len⟩)))))
              clear hk hbk
              go_wp2_with fail
              go_roundw
              case rel => exact ⟨k + 1, l', by omega, by go_num, HR6.out.drewN _⟩
              case measure => simp [intOf]; omega
            · by_cases hd3 : d = 3
              · subst hd3
                clear hd hd1 hd2
                obtain ⟨x, E, p13, p14⟩ := getText_both l o c HO.out.wo HO.out.wc
                have P13 := hid p13; clear p13
                have P14 := hid p14; clear p14
                go_wp2_with (first
                  | (go_at_call 17; refine (P13.out _ _ _ HR.out.a).mono ?_; rintro e w5 ⟨rfl, rfl⟩)
                  | (go_at_call 18; refine (P14.out _ _ _ HR.out.k).mono ?_; rintro e w5 ⟨rfl, rfl⟩))
                have HR6 := HR
                clear HV v0 v1 v2 v3 v4 P13 P14 HR
                obtain ⟨l', rfl⟩ : ∃ l', l' = l := ⟨l, rfl⟩
                obtain ⟨w6, rfl⟩ : ∃ w6, w6 = w4 := ⟨w4, rfl⟩
                have hk := HR6.out.k.cell
                have hbk := fun m => back_run (w := w6.drewN m) HR6.out.k.row 0 l'.length l'.length (by omega)
                rw [getAt_all] at hbk
                have hl := HR6.out.k.len
                go_quiet ((first
                  | (go_at_call 21; exact quiet_eq (bytes_ok _ _ _ _ (by exact ⟨HR6.out.a.ptr, HR6.out.a.row, HR6.out.a.ne, HR6.out.a.len⟩)))
                  | (go_at_call 22; exact quiet_eq (size_ok _ _ _ _ (by exact ⟨HR6.out.a.ptr, HR6.out.a.row, HR6.out.a.ne, HR6.out.a.len⟩)))))
                clear hk hbk
                go_wp2_with fail
                go_roundw
                case rel => exact ⟨k + 1, l', by omega, by go_num, HR6.out.drewN _⟩
                case measure => simp [intOf]; omega
              · have b0 : (d == 0) = false := by rw [beq_eq_false_iff_ne]; exact hd
                have b1 : (d == 1) = false := by rw [beq_eq_false_iff_ne]; exact hd1
                have b2 : (d == 2) = false := by rw [beq_eq_false_iff_ne]; exact hd2
                have b3 : (d == 3) = false := by rw [beq_eq_false_iff_ne]; exact hd3
                clear hd hd1 hd2 hd3
                have hn0 := HO.out.wn.1
                obtain ⟨f, hf1, hf2, hf3, hf4, hf5, hf6⟩ : ∃ f : Int, n.tmod 5000 = f ∧ n % 5000 = f ∧ IntKind.i64.wrap f = f ∧ IntKind.u32.wrap f = f ∧ 0 ≤ f ∧ f < 5000 := by
                  refine ⟨n % 5000, Int.tmod_eq_emod_of_nonneg hn0, rfl, ?_, ?_, by omega, by omega⟩
                  · exact IntWalk.i64_in _ (by omega)
                  · rw [IntKind.wrap_u32]; omega
                obtain ⟨E, l', hl', p11, p12⟩ := move_both l o f c HO.out.wo (by unfold isInt; omega) HO.out.wc
                have P11 := hid p11; clear p11
                have P12 := hid p12; clear p12
                go_wp2_with fail
                go_region_held3 (fun w' => w'.cell? ⟨C, 1, none⟩ = some (.int .i64 o) ∧ w'.cell? ⟨C, 2, none⟩ = some (.int .i64 c) ∧ w'.cell? ⟨C, 3, none⟩ = some (.int .u32 n)) (first | exact ⟨v1, v2, v3⟩ | exact ⟨x1, x2, x3⟩ | exact ⟨y1, y2, y3⟩ | go_keep)
                  (first
                    | (go_at_call 19; refine (P11.out _ _ _ (by exact ⟨HR.out.a.ptr, HR.out.a.row, HR.out.a.ne, HR.out.a.len⟩)).mono ?_; rintro e w5 ⟨rfl, hU⟩; have hU' : Upd w.heap.size l' w4 w5 := ⟨hU.os, hU.tape, hU.output, hU.size, hU.block, hU.row⟩; have HU1 := hid hU'; clear hU hU'; have x1 := (HV.out.upd HU1.out (by omega)).c1; have x2 := (HV.out.upd HU1.out (by omega)).c2; have x3 := (HV.out.upd HU1.out (by omega)).c3)
                    | (go_at_call 20; refine (P12.out _ _ _ (HR.out.first HU1.out)).mono ?_; rintro e w6 ⟨rfl, hU⟩; have HU2 := hid hU; clear hU; have y1 := ((HV.out.upd HU1.out (by omega)).upd HU2.out (by omega)).c1; have y2 := ((HV.out.upd HU1.out (by omega)).upd HU2.out (by omega)).c2; have y3 := ((HV.out.upd HU1.out (by omega)).upd HU2.out (by omega)).c3))
                have HR6 := hid (HR.out.both hl' HU1.out HU2.out)
                clear x1 x2 x3 y1 y2 y3 HU1 HU2 HV v0 v1 v2 v3 v4 P11 P12 HR hl'
                go_wp2_with fail
                have hk := HR6.out.k.cell
                have hbk := fun m => back_run (w := w6.drewN m) HR6.out.k.row 0 l'.length l'.length (by omega)
                rw [getAt_all] at hbk
                have hl := HR6.out.k.len
                go_quiet ((first
                  | (go_at_call 21; exact quiet_eq (bytes_ok _ _ _ _ (by exact ⟨HR6.out.a.ptr, HR6.out.a.row, HR6.out.a.ne, HR6.out.a.len⟩)))
                  | (go_at_call 22; exact quiet_eq (size_ok _ _ _ _ (by exact ⟨HR6.out.a.ptr, HR6.out.a.row, HR6.out.a.ne, HR6.out.a.len⟩)))))
                clear hk hbk
                go_wp2_with fail
                go_roundw
                case rel => exact ⟨k + 1, l', by omega, by go_num, HR6.out.drewN _⟩
                case measure => simp [intOf]; omega
    · have hx : len ≤ k ∨ 60 ≤ k := by omega
      by_cases h1 : k < len
      · have h2 : 60 ≤ k := by omega
        go_wp2_with fail
        refine (live_any _).mono ?_; rintro e w' ⟨rfl, hb'⟩; have HB := on_below (hid HR.out.below) hb'; clear hb'
        go_wp2_with fail
        go_ret
        exact ⟨rfl, HB.out⟩
      · go_wp2_with fail
        refine (live_any _).mono ?_; rintro e w' ⟨rfl, hb'⟩; have HB := on_below (hid HR.out.below) hb'; clear hb'
        go_wp2_with fail
        go_ret
        exact ⟨rfl, HB.out⟩

theorem FieldScripts_walk (z : Int) (v : Value) (_ : (Lit.int .i64 z).wf = true) (w : World) (h : ∃ a len cap, v = .slice a len cap ∧ IsScript w a len) :
    Calls Try.prog 3 #[.int .i64 z, v] w fun e w' => e = .returned (.bool true) ∧ Below w.heap.size w w' := by
  obtain ⟨a, len, cap, rfl, hs⟩ := h
  by_cases h1 : z < 0 ∨ 4096 < z
  · exact Scripts_none z a len cap w h1
  · obtain ⟨z, rfl⟩ := Int.eq_ofNat_of_zero_le (show 0 ≤ z by omega)
    exact Scripts_go z a len cap w (by omega) hs
end Go.Proofs.Ytkcfkcdmmllpjaa
