/- A slab grown by a script. -/
import Derived.Test.YtpbidpgpehicmaaSlLv
import Derived.Test.YtpbidpgpehicmaaSlNone
import Derived.Test.YtpbidpgpehicmaaSlOpen
namespace Go.Proofs.Ytpbidpgpehicmaa.Sl
open Go.RowKit Go.Shelf
open Go.Lib (hid)

/-- a slab that was made since w -/
def Made (w V : World) (b D : Nat) : Prop := ∃ S C, Lv (fun j => j < w.heap.size) V b S C ∧ S.length = D ∧ Below w.heap.size w V
theorem Made.below {w V : World} {b D : Nat} (h : Made w V b D) : Below w.heap.size w V := by obtain ⟨_, _, _, _, hb⟩ := h; exact hb
theorem Made.next {w V V' : World} {b D : Nat} (h : Made w V b D) (hb : Below V.heap.size V V') : Made w V' b D := by
  obtain ⟨S, C, hl, hd, h2⟩ := h
  exact ⟨S, C, hl.next hb, hd, h2.trans (hb.mono h2.size)⟩
theorem growU_len (S : List Nat) (C : List Int) (d i : Int) : (growU S C d i).2.1.length = S.length := by
  unfold growU
  split
  · split
    · simp
    · rfl
  · rfl
theorem Made.grow {w V : World} {b D : Nat} (h : Made w V b D) (d i : Int) :
    Calls Try.prog 12 #[.pointer (some ⟨b, 0, none⟩), .int .i64 d, .int .i64 i] V fun e V' => (∃ x, e = .returned (.int .i64 x)) ∧ Made w V' b D := by
  obtain ⟨S, C, hl, hd, hb⟩ := h
  refine (lv_grow hl d i).mono ?_
  rintro e V' ⟨rfl, h1, h2⟩
  exact ⟨⟨_, rfl⟩, _, _, h1, by rw [growU_len]; exact hd, hb.trans (h2.below hb.size fun j hj => hj)⟩
theorem Is.low {w V : World} {p : Option Addr} {l : List Int} (h : Is w p l) (hb : Below w.heap.size w V) : CellsD (fun j => ¬ j < w.heap.size) V p (iv l) := fun j hj => by
  obtain ⟨b, off, e, hlt, hc⟩ := h.cells j hj
  exact ⟨b, off, e, Nat.lt_of_lt_of_le hlt hb.size, fun hn => hn hlt, (hb.cell (p := ⟨b, off + j, none⟩) hlt).trans hc⟩
theorem Made.fill {w V : World} {b D : Nat} (h : Made w V b D) (lo hi : List Int) (p q : Option Addr) (c1 c2 : Nat) (hp : Is w p lo) (hq : Is w q hi) (hl : lo.length ≤ 1000000) (hl2 : hi.length ≤ 1000000) (n : Int) (hw : (Lit.int .i64 n).wf = true) :
    Calls Try.prog 16 #[.pointer (some ⟨b, 0, none⟩), .slice p lo.length c1, .slice q hi.length c2, .int .i64 n] V fun e V' => (∃ x, e = .returned (.int .i64 x)) ∧ Made w V' b D := by
  obtain ⟨S, C, hx, hd, hb⟩ := h
  refine (lv_fill hx lo hi p q c1 c2 (hp.low hb) (hq.low hb) hl hl2 n hw).mono ?_
  rintro e V' ⟨rfl, h1, h2⟩
  exact ⟨⟨_, rfl⟩, _, _, h1, hd, hb.trans (h2.below hb.size fun j hj => hj)⟩
theorem Made.cells {w V : World} {b D : Nat} (h : Made w V b D) :
    Calls Try.prog 26 #[.pointer (some ⟨b, 0, none⟩)] V fun e V' => ∃ p n c, e = .returned (.slice p n c) ∧ n ≤ 4096 ∧ Made w V' b D := by
  obtain ⟨S, C, hl, hd, hb⟩ := id h
  refine (lv_cells hl).mono ?_
  rintro e V' ⟨p, c, rfl, _, h1, _⟩
  exact ⟨p, _, c, rfl, by rw [hl.fit.len]; exact hl.fit.most, h.next h1⟩
set_option maxRecDepth 100000 in
set_option maxHeartbeats 4000000 in
theorem grown_yes (D : Int) (a : Option Addr) (len cap : Nat) (w : World) (hd : 1 ≤ D ∧ D ≤ 6) (hs : IsOps w a len) :
    Calls Try.prog 29 #[.int .i64 D, .slice a len cap] w fun e w' => ∃ b, e = .returned (.pointer (some ⟨b, 0, none⟩)) ∧ Made w w' b D.toNat := by
  have HN := hid (lv_new (K := fun j => j < w.heap.size) (V := w) (fun j hj => hj) D 0 hd.1 hd.2 (by decide))
  have HS := hid hs
  clear hd hs
  go_enter Try.func29, Try.ntmps29
  go_wp2_with fail
  refine HN.out.mono ?_
  rintro e w1 ⟨b, rfl, hl, hb⟩
  have HM := hid (show Made w w1 b D.toNat from ⟨_, _, hl, by simp, hb⟩)
  clear hl hb HN
  go_wp2_with fail
  go_loopw [7] (fun i wr => ∃ k : Nat, k ≤ len ∧ k ≤ 40 ∧ i = .int .i64 k ∧ Made w wr b D.toNat) (fun i _ => 40 - (intOf i).toNat)
  case atStart => exact ⟨0, by omega, by omega, rfl, HM.out⟩
  case round =>
    obtain ⟨k, hk, hk6, rfl, hm⟩ := hrel
    have HR := hid hm
    clear hm HM
    by_cases hlt : k < len
    · have e1 : decide ((k : Int) < (len : Int)) = true := by simpa using hlt
      have e1' : decide (k < len) = true := by simpa using hlt
      by_cases h6 : k < 40
      · have e2 : decide ((k : Int) < 40) = true := by simp; omega
        have e2' : decide (k < 40) = true := by simp; omega
        obtain ⟨bb, off, rfl, hbl, hops⟩ : ∃ bb off, a = some ⟨bb, off, none⟩ ∧ bb < w.heap.size ∧ ∀ i, i < len → ∃ d, OpAt w bb (off + i * 6) d := by
          rcases HS.out.2 with h | h
          · omega
          · exact h
        obtain ⟨⟨a0, a1, a2, a3, p4, l4, c4, p5, l5, c5⟩, ho⟩ := hops k hlt
        have HO := hid fun (X : World) (hX : Below w.heap.size w X) => ho.below hbl hX
        have HF := hid (And.intro ho.ok.f3 (And.intro ho.ok.f4 ho.ok.f5))
        have HKL := hid (And.intro hlt h6)
        have HW := hid (show wrap64 ((k : Int) + 1) = ((k + 1 : Nat) : Int) from Go.IntWalk.wrap64_in _ (by omega))
        have z0 : (0 : Int) ≤ (k : Int) := by omega
        have z1 : (k : Int) < (len : Int) := by omega
        clear hops ho hlt h6 hk hk6 hbl
        go_wp2_with fail
        refine HR.out.cells.mono ?_
        rintro e w2 ⟨pc, n, cc, rfl, hn, hm⟩
        have HR2 := hid hm
        by_cases hn2 : n ≤ 200
        · have e3 : decide ((n : Int) ≤ 200) = true := decide_eq_true (by omega)
          have e3' : decide (n ≤ 200) = true := decide_eq_true (by omega)
          obtain ⟨d0, d1, d2, d3, d4, d5, _⟩ := HO.out _ hm.below
          change w2.cell? _ = some (Value.int .i64 a0) at d0
          change w2.cell? _ = some (Value.int .i64 a1) at d1
          change w2.cell? _ = some (Value.int .i64 a2) at d2
          change w2.cell? _ = some (Value.int .i64 a3) at d3
          change w2.cell? _ = some (Value.slice p4 l4.length c4) at d4
          change w2.cell? _ = some (Value.slice p5 l5.length c5) at d5
          obtain ⟨V, hV⟩ : ∃ V, w2.alloc (.cells #[.int .i64 a0, .int .i64 a1, .int .i64 a2, .int .i64 a3, .slice p4 l4.length c4, .slice p5 l5.length c5] 34 (0, 0)) = V := ⟨_, rfl⟩
          have HV := hid (show Made w V b D.toNat from hm.next (by rw [← hV]; exact below_alloc _ _))
          have hh : V.heap[w2.heap.size]? = some (.cells #[.int .i64 a0, .int .i64 a1, .int .i64 a2, .int .i64 a3, .slice p4 l4.length c4, .slice p5 l5.length c5] 34 (0, 0)) := by rw [← hV]; exact heap_alloc_new _ _
          have y0 : V.cell? ⟨w2.heap.size, 0, none⟩ = some (.int .i64 a0) := by rw [cell_of_row _ _ _ _ _ _ hh]; rfl
          have y1 : V.cell? ⟨w2.heap.size, 1, none⟩ = some (.int .i64 a1) := by rw [cell_of_row _ _ _ _ _ _ hh]; rfl
          have y2 : V.cell? ⟨w2.heap.size, 2, none⟩ = some (.int .i64 a2) := by rw [cell_of_row _ _ _ _ _ _ hh]; rfl
          have y3 : V.cell? ⟨w2.heap.size, 3, none⟩ = some (.int .i64 a3) := by rw [cell_of_row _ _ _ _ _ _ hh]; rfl
          have y4 : V.cell? ⟨w2.heap.size, 4, none⟩ = some (.slice p4 l4.length c4) := by rw [cell_of_row _ _ _ _ _ _ hh]; rfl
          have y5 : V.cell? ⟨w2.heap.size, 5, none⟩ = some (.slice p5 l5.length c5) := by rw [cell_of_row _ _ _ _ _ _ hh]; rfl
          clear hh hm hn2 hn HR
          by_cases h4 : l4.length ≤ 20
          · have f4 : decide ((20 : Int) < (l4.length : Int)) = false := decide_eq_false (by omega)
            by_cases h5 : l5.length ≤ 20
            · have f5 : decide ((20 : Int) < (l5.length : Int)) = false := decide_eq_false (by omega)
              by_cases h0 : a0 = 0
              · subst h0
                clear h4 h5
                go_wp2_with fail
                clear hV d0 d1 d2 d3 d4 d5
                refine (HV.out.grow a1 a2).mono ?_
                rintro e w4 ⟨⟨x, rfl⟩, hm⟩
                have HM4 := hid hm
                clear hm
                go_wp2_with fail
                go_roundw
                case rel => exact ⟨k + 1, HKL.out.1, HKL.out.2, by rw [HW.out], HM4.out⟩
                case measure => have := HKL.out.2; rw [HW.out]; simp [intOf]; omega
              · have g0 : (a0 == 0) = false := by simpa using h0
                have HFL := hid (HV.out.fill l4 l5 p4 p5 c4 c5 HF.out.2.1.1 HF.out.2.2.1 (by omega) (by omega) a3 (i64_wf HF.out.1))
                clear h4 h5 h0
                go_wp2_with fail
                clear hV d0 d1 d2 d3 d4 d5
                refine HFL.out.mono ?_
                rintro e w4 ⟨⟨x, rfl⟩, hm⟩
                have HM4 := hid hm
                clear hm
                go_wp2_with fail
                go_roundw
                case rel => exact ⟨k + 1, HKL.out.1, HKL.out.2, by rw [HW.out], HM4.out⟩
                case measure => have := HKL.out.2; rw [HW.out]; simp [intOf]; omega
            · have f5 : decide ((20 : Int) < (l5.length : Int)) = true := decide_eq_true (by omega)
              clear h4 h5
              go_wp2_with fail
              go_roundw
              case rel => exact ⟨k + 1, HKL.out.1, HKL.out.2, by rw [HW.out], HV.out⟩
              case measure => have := HKL.out.2; rw [HW.out]; simp [intOf]; omega
          · have f4 : decide ((20 : Int) < (l4.length : Int)) = true := decide_eq_true (by omega)
            clear h4
            go_wp2_with fail
            go_roundw
            case rel => exact ⟨k + 1, HKL.out.1, HKL.out.2, by rw [HW.out], HV.out⟩
            case measure => have := HKL.out.2; rw [HW.out]; simp [intOf]; omega
        · have e3 : decide ((n : Int) ≤ 200) = false := decide_eq_false (by omega)
          have e3' : decide (n ≤ 200) = false := decide_eq_false (by omega)
          clear hm hn2 hn HR
          go_wp2_with fail
          go_ret
          exact ⟨_, rfl, HR2.out⟩
      · have e2 : decide ((k : Int) < 40) = false := by simp; omega
        have e2' : decide (k < 40) = false := by simp; omega
        go_wp2_with fail
        go_ret
        exact ⟨_, rfl, HR.out⟩
    · have e1 : decide ((k : Int) < (len : Int)) = false := by simp; omega
      have e1' : decide (k < len) = false := by simp; omega
      go_wp2_with fail
      go_ret
      exact ⟨_, rfl, HR.out⟩
set_option maxRecDepth 100000 in
set_option maxHeartbeats 4000000 in
theorem grown_no (D : Int) (a : Option Addr) (len cap : Nat) (w : World) (hd : ¬ (1 ≤ D ∧ D ≤ 6)) (hs : IsOps w a len) :
    Calls Try.prog 29 #[.int .i64 D, .slice a len cap] w fun e w' => e = .returned (.pointer none) ∧ Below w.heap.size w w' := by
  have HN := hid (new_bad D 0 w hd)
  have HS := hid hs
  clear hd hs
  go_enter Try.func29, Try.ntmps29
  go_wp2_with fail
  refine HN.out.mono ?_
  rintro e w1 ⟨rfl, rfl⟩
  have HM := hid (Below.refl w1.heap.size w1)
  clear HN
  go_wp2_with fail
  go_loopw [7] (fun i wr => ∃ k : Nat, k ≤ len ∧ k ≤ 40 ∧ i = .int .i64 k ∧ Below w1.heap.size w1 wr) (fun i _ => 40 - (intOf i).toNat)
  case atStart => exact ⟨0, by omega, by omega, rfl, HM.out⟩
  case round =>
    obtain ⟨k, hk, hk6, rfl, hm⟩ := hrel
    have HR := hid hm
    clear hm HM
    by_cases hlt : k < len
    · have e1 : decide ((k : Int) < (len : Int)) = true := by simpa using hlt
      have e1' : decide (k < len) = true := by simpa using hlt
      by_cases h6 : k < 40
      · have e2 : decide ((k : Int) < 40) = true := by simp; omega
        have e2' : decide (k < 40) = true := by simp; omega
        obtain ⟨bb, off, rfl, hbl, hops⟩ : ∃ bb off, a = some ⟨bb, off, none⟩ ∧ bb < w1.heap.size ∧ ∀ i, i < len → ∃ d, OpAt w1 bb (off + i * 6) d := by
          rcases HS.out.2 with h | h
          · omega
          · exact h
        obtain ⟨⟨a0, a1, a2, a3, p4, l4, c4, p5, l5, c5⟩, ho⟩ := hops k hlt
        have HO := hid fun (X : World) (hX : Below w1.heap.size w1 X) => ho.below hbl hX
        have HKL := hid (And.intro hlt h6)
        have HW := hid (show wrap64 ((k : Int) + 1) = ((k + 1 : Nat) : Int) from Go.IntWalk.wrap64_in _ (by omega))
        have z0 : (0 : Int) ≤ (k : Int) := by omega
        have z1 : (k : Int) < (len : Int) := by omega
        clear hops ho hlt h6 hk hk6 hbl
        go_wp2_with fail
        refine (Cells_none _).mono ?_
        rintro e w2 ⟨rfl, hb⟩
        have hm := HR.out.trans (hb.mono HR.out.size)
        have HR2 := hid hm
        · obtain ⟨d0, d1, d2, d3, d4, d5, _⟩ := HO.out _ hm
          change w2.cell? _ = some (Value.int .i64 a0) at d0
          change w2.cell? _ = some (Value.int .i64 a1) at d1
          change w2.cell? _ = some (Value.int .i64 a2) at d2
          change w2.cell? _ = some (Value.int .i64 a3) at d3
          change w2.cell? _ = some (Value.slice p4 l4.length c4) at d4
          change w2.cell? _ = some (Value.slice p5 l5.length c5) at d5
          obtain ⟨V, hV⟩ : ∃ V, w2.alloc (.cells #[.int .i64 a0, .int .i64 a1, .int .i64 a2, .int .i64 a3, .slice p4 l4.length c4, .slice p5 l5.length c5] 34 (0, 0)) = V := ⟨_, rfl⟩
          have HV := hid (show Below w1.heap.size w1 V from by rw [← hV]; exact hm.alloc hm.size _)
          have hh : V.heap[w2.heap.size]? = some (.cells #[.int .i64 a0, .int .i64 a1, .int .i64 a2, .int .i64 a3, .slice p4 l4.length c4, .slice p5 l5.length c5] 34 (0, 0)) := by rw [← hV]; exact heap_alloc_new _ _
          have y0 : V.cell? ⟨w2.heap.size, 0, none⟩ = some (.int .i64 a0) := by rw [cell_of_row _ _ _ _ _ _ hh]; rfl
          have y1 : V.cell? ⟨w2.heap.size, 1, none⟩ = some (.int .i64 a1) := by rw [cell_of_row _ _ _ _ _ _ hh]; rfl
          have y2 : V.cell? ⟨w2.heap.size, 2, none⟩ = some (.int .i64 a2) := by rw [cell_of_row _ _ _ _ _ _ hh]; rfl
          have y3 : V.cell? ⟨w2.heap.size, 3, none⟩ = some (.int .i64 a3) := by rw [cell_of_row _ _ _ _ _ _ hh]; rfl
          have y4 : V.cell? ⟨w2.heap.size, 4, none⟩ = some (.slice p4 l4.length c4) := by rw [cell_of_row _ _ _ _ _ _ hh]; rfl
          have y5 : V.cell? ⟨w2.heap.size, 5, none⟩ = some (.slice p5 l5.length c5) := by rw [cell_of_row _ _ _ _ _ _ hh]; rfl
          clear hh hm hb HR
          by_cases h4 : l4.length ≤ 20
          · have f4 : decide ((20 : Int) < (l4.length : Int)) = false := decide_eq_false (by omega)
            by_cases h5 : l5.length ≤ 20
            · have f5 : decide ((20 : Int) < (l5.length : Int)) = false := decide_eq_false (by omega)
              by_cases h0 : a0 = 0
              · subst h0
                clear h4 h5
                go_wp2_with fail
                clear hV d0 d1 d2 d3 d4 d5
                refine (Grow_none a1 a2 V).mono ?_
                rintro e w4 ⟨rfl, hb⟩
                have HM4 := hid (HV.out.trans (hb.mono HV.out.size))
                clear hb
                go_wp2_with fail
                go_roundw
                case rel => exact ⟨k + 1, HKL.out.1, HKL.out.2, by rw [HW.out], HM4.out⟩
                case measure => have := HKL.out.2; rw [HW.out]; simp [intOf]; omega
              · have g0 : (a0 == 0) = false := by simpa using h0
                clear h4 h5 h0
                go_wp2_with fail
                clear hV d0 d1 d2 d3 d4 d5
                refine (Fill_none _ _ a3 V).mono ?_
                rintro e w4 ⟨rfl, hb⟩
                have HM4 := hid (HV.out.trans (hb.mono HV.out.size))
                clear hb
                go_wp2_with fail
                go_roundw
                case rel => exact ⟨k + 1, HKL.out.1, HKL.out.2, by rw [HW.out], HM4.out⟩
                case measure => have := HKL.out.2; rw [HW.out]; simp [intOf]; omega
            · have f5 : decide ((20 : Int) < (l5.length : Int)) = true := decide_eq_true (by omega)
              clear h4 h5
              go_wp2_with fail
              go_roundw
              case rel => exact ⟨k + 1, HKL.out.1, HKL.out.2, by rw [HW.out], HV.out⟩
              case measure => have := HKL.out.2; rw [HW.out]; simp [intOf]; omega
          · have f4 : decide ((20 : Int) < (l4.length : Int)) = true := decide_eq_true (by omega)
            clear h4
            go_wp2_with fail
            go_roundw
            case rel => exact ⟨k + 1, HKL.out.1, HKL.out.2, by rw [HW.out], HV.out⟩
            case measure => have := HKL.out.2; rw [HW.out]; simp [intOf]; omega
      · have e2 : decide ((k : Int) < 40) = false := by simp; omega
        have e2' : decide (k < 40) = false := by simp; omega
        go_wp2_with fail
        go_ret
        exact ⟨rfl, HR.out⟩
    · have e1 : decide ((k : Int) < (len : Int)) = false := by simp; omega
      have e1' : decide (k < len) = false := by simp; omega
      go_wp2_with fail
      go_ret
      exact ⟨rfl, HR.out⟩
end Go.Proofs.Ytpbidpgpehicmaa.Sl
