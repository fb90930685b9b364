/- The walk of DiskStays. -/
import Derived.Test.YtonfibcmpfhppaaDkOpen
import Derived.Deep.RegionHeld3
namespace Go.Proofs.Ytonfibcmpfhppaa
open Go.RowKit
open Go.Lib (hid)
open Go.ChangeShapes Go.WideShapes Go.Joins
open Go.Proofs.Ytonfibcmpfhppaa.Dk

/-- what is written in between: the pages stay, and a few wait -/
structure Mid (s : St) (pages : List ByteArray) (k : Nat) : Prop where
  pages : s.pages = pages
  fuse : s.fuse = -1
  waits : s.waits.length ≤ k
  writes : s.writes ≤ k + 1
theorem Mid.write {s : St} {pages : List ByteArray} {k : Nat} (h : Mid s pages k) (n : Nat) (t : ByteArray) : Mid (writeS s n t) pages (k + 1) := by
  have h3 := h.waits
  have h4 := h.writes
  refine ⟨h.pages, ?_, by simp [writeS, burnS, countW, pushS]; omega, by show s.writes + 1 ≤ _; omega⟩
  show burnI s.fuse = -1
  rw [h.fuse]; rfl
theorem Mid.skip {s : St} {pages : List ByteArray} {k : Nat} (h : Mid s pages k) : Mid s pages (k + 1) :=
  ⟨h.pages, h.fuse, by have := h.waits; omega, by have := h.writes; omega⟩
/-- a crash that keeps none -/
theorem come_none (s : St) : comeS s [] (-1) 0 = some (none0 s) := by simp [comeS, keepL]
theorem crashP_all (s : St) (k : Nat) : crashP s (none0 s) k = s.pages := by
  induction k with
  | zero => rfl
  | succ k ih =>
    unfold crashP
    have : ((none0 s).getD k emptyB).toList.isEmpty = true := by
      have : (none0 s).getD k emptyB = emptyB := by
        unfold none0
        rw [List.getD_eq_getElem?_getD, List.getElem?_replicate]
        split <;> rfl
      rw [this]; exact emptyB_nil
    rw [if_pos this]; exact ih
theorem crash_none_pages (s : St) : (crashS s (none0 s)).pages = s.pages := crashP_all s _
/-- the law's page, and the others -/
def P0 (p n : Nat) (c : UInt8) : List ByteArray := (blanks p).set n (filledB c)
theorem P0_length (p n : Nat) (c : UInt8) : (P0 p n c).length = p := by simp [P0, blanks]
theorem P0_at (p n : Nat) (c : UInt8) (i : Nat) (hi : i < p) : (P0 p n c)[i]'(by rw [P0_length]; exact hi) = if n = i then filledB c else blankB := by
  simp [P0, blanks, List.getElem_set]
theorem st_first (p n : Nat) (c : UInt8) : (writeS (newS (blanks p)) n (filledB c)).waits.length = 1 := by simp [writeS, burnS, countW, pushS, newS]
theorem st_flush (p n : Nat) (c : UInt8) : Mid (flushS (writeS (newS (blanks p)) n (filledB c))) (P0 p n c) 0 := by
  refine ⟨?_, rfl, by simp [flushS, noWaits], by show (0 : Int) + 1 ≤ _; omega⟩
  simp [flushS, noWaits, burnS, countF, partS, writeS, countW, pushS, newS, applyW, P0]

theorem image_P0 {w wr : World} {D : Nat} {s : St} {p n : Nat} {c : UInt8} (h : Lv w wr D s) (hp : s.pages = P0 p n c) :
    Calls Try.prog 23 #[.pointer (some ⟨D, 0, none⟩)] wr fun e w' => ∃ g cap, e = .returned (.slice (some ⟨g, 0, none⟩) p cap) ∧ g < w'.heap.size ∧ (∀ j, j < p → w'.cell? ⟨g, j, none⟩ = some (.string (if n = j then filledB c else blankB))) ∧ Below wr.heap.size wr w' := by
  refine (lv_image h).mono ?_
  rintro e w' ⟨g, cap, rfl, _, hg2, hg3, hb⟩
  have hl : s.pages.length = p := by rw [hp, P0_length]
  refine ⟨g, cap, by rw [hl], hg2, fun j hj => ?_, hb⟩
  rw [hg3 j (by omega), ← P0_at p n c j hj]
  congr 2
  simp only [hp]
set_option maxRecDepth 100000 in
set_option maxHeartbeats 4000000 in
theorem Stays_go (p : Nat) (a : Option Addr) (len cap : Nat) (n : Nat) (c : UInt8) (w : World) (h1 : 1 ≤ p) (h2 : p ≤ 30) (hn : n < p) (hs : IsScript w a len) :
    Calls Try.prog 5 #[.agg #[.int .i64 (p : Int), .slice a len cap, .int .i64 (n : Int), .int .u8 (c.toNat : Int)]] w fun e w' => e = .returned (.bool true) ∧ Below w.heap.size w w' := by
  have hlen := hs.1
  unfold maxLen at hlen
  have HS := hid hs; clear hs
  have hB0 : Below w.heap.size w (w.alloc (.cells #[.int .i64 (p : Int), .slice a len cap, .int .i64 (n : Int), .int .u8 (c.toNat : Int)] 56)) := (Below.refl _ _).alloc (Nat.le_refl _) _
  have b0 : (w.alloc (.cells #[.int .i64 (p : Int), .slice a len cap, .int .i64 (n : Int), .int .u8 (c.toNat : Int)] 56)).cell? ⟨w.heap.size, 0, none⟩ = some (.int .i64 (p : Int)) := by rw [cell_of_row _ _ _ _ _ _ (heap_alloc_new _ _)]; rfl
  have b1 : (w.alloc (.cells #[.int .i64 (p : Int), .slice a len cap, .int .i64 (n : Int), .int .u8 (c.toNat : Int)] 56)).cell? ⟨w.heap.size, 1, none⟩ = some (.slice a len cap) := by rw [cell_of_row _ _ _ _ _ _ (heap_alloc_new _ _)]; rfl
  have b2 : (w.alloc (.cells #[.int .i64 (p : Int), .slice a len cap, .int .i64 (n : Int), .int .u8 (c.toNat : Int)] 56)).cell? ⟨w.heap.size, 2, none⟩ = some (.int .i64 (n : Int)) := by rw [cell_of_row _ _ _ _ _ _ (heap_alloc_new _ _)]; rfl
  have b3 : (w.alloc (.cells #[.int .i64 (p : Int), .slice a len cap, .int .i64 (n : Int), .int .u8 (c.toNat : Int)] 56)).cell? ⟨w.heap.size, 3, none⟩ = some (.int .u8 (c.toNat : Int)) := by rw [cell_of_row _ _ _ _ _ _ (heap_alloc_new _ _)]; rfl
  go_enter Try.func5, Try.ntmps5
  go_wp2_with fail
  go_quiet (fail)
  have HB : Hid (Below w.heap.size w ((w.alloc (.cells #[.int .i64 (p : Int), .slice a len cap, .int .i64 (n : Int), .int .u8 (c.toNat : Int)] 56)).drewN nq)) := hid ⟨hB0.os, hB0.tape, hB0.output, hB0.size, hB0.block⟩
  clear hB0 b0 b1 b2 b3
  generalize (w.alloc (.cells #[.int .i64 (p : Int), .slice a len cap, .int .i64 (n : Int), .int .u8 (c.toNat : Int)] 56)).drewN nq = w0 at HB ⊢
  have e1 : decide ((30 : Int) < (p : Int)) = false := by simp; omega
  have e2 : decide ((n : Int) < 0) = false := by simp
  have e3 : decide (p ≤ n) = false := by simp; omega
  have HNL : Hid (n < (newS (blanks p)).pages.length) := hid (by simp [newS, blanks]; omega)
  have HS1 := hid (st_first p n c)
  go_wp2_with (first
    | (go_at_call 8; refine (lv_new p w _ HB.out h1 (by omega)).mono ?_; rintro e w1 ⟨D, rfl, hl⟩; have HL := hid hl; clear hl)
    | (go_at_call 12; refine (filled_ok c _).mono ?_; rintro e w2 ⟨rfl, hb⟩; replace HL := hid (HL.out.next hb); clear hb)
    | (go_at_call 11; refine (lv_write n (filledB c) HL.out HNL.out (filledB_size c) (by show (-1 : Int) ≠ 0; decide) (by show 0 < 1000000; decide) (by show (0 : Int) < 1000000; decide)).mono ?_; rintro e w3 ⟨rfl, hl⟩; replace HL := hid hl; clear hl)
    | (go_at_call 16; refine (lv_flush HL.out (by show burnI (-1) ≠ 0; decide) (by show (0 : Int) < 1000000; decide)).mono ?_; rintro e w4 ⟨rfl, hl⟩; rw [HS1.out]; replace HL := hid hl; clear hl))
  clear e1 e2 e3
  have HM := hid (st_flush p n c)
  generalize flushS (writeS (newS (blanks p)) n (filledB c)) = s0 at HL HM
  obtain ⟨m, hm⟩ : ∃ m, min len 50 = m := ⟨_, rfl⟩
  have HC := hid hm
  have hml : m ≤ len := by omega
  have hm5 : m ≤ 50 := by omega
  clear hm
  go_loopw [9] (fun i wr => ∃ (k : Nat) (s : St), k ≤ m ∧ i = .int .i64 k ∧ Mid s (P0 p n c) k ∧ Lv w wr D s) (fun i _ => m - (intOf i).toNat)
  case atStart => exact ⟨0, s0, by omega, rfl, HM.out, HL.out⟩
  case round =>
    clear HL HM
    obtain ⟨k, s, hk, rfl, hmid, hl⟩ := hrel
    have HL := hid hl; have HM := hid hmid; clear hl hmid
    by_cases hlt : k < m
    · rcases HS.out.2 with h0 | ⟨b, off, rfl, hbw, hop⟩
      · omega
      obtain ⟨x, y, cc, ka, kl, kc, tt, uu, hop'⟩ := hop k (by omega)
      have HOP := hid (And.intro hbw hop'); clear hop hop'
      have d1 : wr.cell? ⟨b, off + k * 6 + 1, none⟩ = some (.int .i64 y) := by rw [HL.out.below.cell (p := ⟨b, _, none⟩) hbw]; exact HOP.out.2.c1
      have d2 : wr.cell? ⟨b, off + k * 6 + 2, none⟩ = some (.int .u8 (cc.toNat : Int)) := by rw [HL.out.below.cell (p := ⟨b, _, none⟩) hbw]; exact HOP.out.2.c2
      by_cases hy : y = n
      · have e4 : (y != (n : Int)) = false := by simp [hy]
        have HMK := hid HM.out.skip
        clear hy
        go_wp2_with fail
        go_roundw
        case rel => exact ⟨k + 1, s, by omega, by go_num, HMK.out, HL.out⟩
        case measure => simp [intOf]; omega
      · have e4 : (y != (n : Int)) = true := by simpa using hy
        clear hy
        by_cases hin : 0 ≤ y ∧ y < p
        · obtain ⟨z, rfl⟩ : ∃ z : Nat, y = (z : Int) := ⟨y.toNat, by omega⟩
          have HZ : Hid (z < s.pages.length) := hid (by rw [HM.out.pages, P0_length]; omega)
          have HF : Hid (s.fuse ≠ 0 ∧ s.waits.length < 1000000 ∧ s.writes < 1000000) := hid (by have a1 := HM.out.fuse; have a2 := HM.out.waits; have a3 := HM.out.writes; refine ⟨?_, ?_, ?_⟩ <;> omega)
          have HMK := hid (HM.out.write z (filledB cc))
          clear hin
          go_wp2_with fail
          replace HL := hid HL.out.drew
          have f1 := d1; have f2 := d2
          go_region_held3 (fun w' => w'.cell? ⟨b, off + k * 6 + 1, none⟩ = some (.int .i64 (z : Int)) ∧ w'.cell? ⟨b, off + k * 6 + 2, none⟩ = some (.int .u8 (cc.toNat : Int))) (first | exact ⟨d1, d2⟩ | exact ⟨x1, x2⟩ | exact ⟨y1, y2⟩ | go_keep)
            (first
              | (go_at_call 12; refine (filled_ok cc _).mono ?_; rintro e w5 ⟨rfl, hb⟩; replace HL := hid (HL.out.next hb); clear hb; have x1 : w5.cell? ⟨b, off + k * 6 + 1, none⟩ = some (.int .i64 (z : Int)) := (by rw [HL.out.below.cell (p := ⟨b, _, none⟩) HOP.out.1]; exact HOP.out.2.c1); have x2 : w5.cell? ⟨b, off + k * 6 + 2, none⟩ = some (.int .u8 (cc.toNat : Int)) := (by rw [HL.out.below.cell (p := ⟨b, _, none⟩) HOP.out.1]; exact HOP.out.2.c2))
              | (go_at_call 11; refine (lv_write z (filledB cc) HL.out HZ.out (filledB_size cc) HF.out.1 HF.out.2.1 HF.out.2.2).mono ?_; rintro e w6 ⟨rfl, hl⟩; replace HL := hid hl; clear hl; have y1 : w6.cell? ⟨b, off + k * 6 + 1, none⟩ = some (.int .i64 (z : Int)) := (by rw [HL.out.below.cell (p := ⟨b, _, none⟩) HOP.out.1]; exact HOP.out.2.c1); have y2 : w6.cell? ⟨b, off + k * 6 + 2, none⟩ = some (.int .u8 (cc.toNat : Int)) := (by rw [HL.out.below.cell (p := ⟨b, _, none⟩) HOP.out.1]; exact HOP.out.2.c2)))
          clear f1 f2 d1 d2 x1 x2 y1 y2
          go_wp2_with fail
          go_roundw
          case rel => exact ⟨k + 1, writeS s z (filledB cc), by omega, by go_num, HMK.out, HL.out⟩
          case measure => simp [intOf]; omega
        · have HZ : Hid (y < 0 ∨ (s.pages.length : Int) ≤ y ∨ (filledB cc).size ≠ 256 ∨ s.fuse = 0) := hid (by rw [HM.out.pages, P0_length]; omega)
          have HMK := hid HM.out.skip
          clear hin
          go_wp2_with fail
          replace HL := hid HL.out.drew
          go_region_held3 (fun w' => w'.cell? ⟨b, off + k * 6 + 1, none⟩ = some (.int .i64 y) ∧ w'.cell? ⟨b, off + k * 6 + 2, none⟩ = some (.int .u8 (cc.toNat : Int))) (first | exact ⟨d1, d2⟩ | exact ⟨x1, x2⟩ | go_keep)
            (first
              | (go_at_call 12; refine (filled_ok cc _).mono ?_; rintro e w5 ⟨rfl, hb⟩; replace HL := hid (HL.out.next hb); clear hb; have x1 : w5.cell? ⟨b, off + k * 6 + 1, none⟩ = some (.int .i64 y) := (by rw [HL.out.below.cell (p := ⟨b, _, none⟩) HOP.out.1]; exact HOP.out.2.c1); have x2 : w5.cell? ⟨b, off + k * 6 + 2, none⟩ = some (.int .u8 (cc.toNat : Int)) := (by rw [HL.out.below.cell (p := ⟨b, _, none⟩) HOP.out.1]; exact HOP.out.2.c2))
              | (go_at_call 11; refine (lv_write_bad y (filledB cc) HL.out HZ.out).mono ?_; rintro e w6 ⟨rfl, rfl⟩))
          clear d1 d2 x1 x2
          go_wp2_with fail
          go_roundw
          case rel => exact ⟨k + 1, s, by omega, by go_num, HMK.out, HL.out⟩
          case measure => simp [intOf]; omega
    · obtain rfl : k = m := by omega
      have HEXIT : Hid (k = len ∨ (k < len ∧ k = 50)) := hid (by have := HC.out; omega)
      clear HC hlt hk hml
      have HK0 : Hid (∀ wq, Kept wq none []) := hid fun wq j hj => by simp at hj
      have HCN := hid (come_none s)
      have HPG : Hid ((crashS s (none0 s)).pages = P0 p n c) := hid (by rw [crash_none_pages, HM.out.pages])
      have key : ∀ (Q : Prop), (k = len → Q) → (k < len ∧ k = 50 → Q) → Q := fun Q h1 h2 => HEXIT.out.elim h1 h2
      refine key _ (fun hkl => ?_) (fun hkl => ?_)
      · have e1 : decide (k < len) = false := by simp; omega
        clear hkl key HEXIT
        go_wp2_with (first
          | (go_at_call 19; refine (lv_crash none 0 [] (-1) 0 (none0 s) HL.out (HK0.out _) (by decide) HCN.out).mono ?_; rintro e w7 ⟨rfl, hl⟩; replace HL := hid hl; clear hl)
          | (go_at_call 23; refine (image_P0 HL.out HPG.out).mono ?_; rintro e w8 ⟨g, gc, rfl, hg2, hg3, hb⟩; replace HL := hid (HL.out.next hb); have HG := hid (And.intro hg2 hg3); clear hb hg2 hg3))
        go_loopw [11] (fun i wq => ∃ j : Nat, j ≤ p ∧ i = .int .i64 j ∧ g < wq.heap.size ∧ (∀ j, j < p → wq.cell? ⟨g, j, none⟩ = some (.string (if n = j then filledB c else blankB))) ∧ Below w.heap.size w wq) (fun i _ => p - (intOf i).toNat)
        case atStart => exact ⟨0, by omega, rfl, HG.out.1, HG.out.2, HL.out.below⟩
        case round =>
          obtain ⟨j, hj, rfl, hg, hcs, hb⟩ := hrel
          have HB2 := hid hb; have HG2 := hid hg; have HCS := hid hcs; clear hb hg hcs
          by_cases hjp : j < p
          · have cj := HCS.out j hjp
            have HBB : Hid (∀ w', Calls Try.prog 30 #[] w' fun e w2 => e = .returned (.string blankB) ∧ Below w'.heap.size w' w2) := hid fun w' => Pg.refBlank_any w'
            have HFF : Hid (∀ w', Calls Try.prog 12 #[.int .u8 (c.toNat : Int)] w' fun e w2 => e = .returned (.string (filledB c)) ∧ Below w'.heap.size w' w2) := hid fun w' => filled_ok c w'
            have HCX : ∀ w' : World, Below wr.heap.size wr w' → g < w'.heap.size ∧ (∀ j, j < p → w'.cell? ⟨g, j, none⟩ = some (.string (if n = j then filledB c else blankB))) := fun w' hb => ⟨Nat.lt_of_lt_of_le HG2.out hb.size, fun i hi => (hb.cell (p := ⟨g, i, none⟩) HG2.out).trans (HCS.out i hi)⟩
            have HCX' := hid HCX; clear HCX
            by_cases hnj : n = j
            · subst hnj
              rw [if_pos rfl] at cj
              have HBC : Hid (∀ w' : World, Below wr.heap.size wr w' → w'.cell? ⟨g, n, none⟩ = some (.string (filledB c))) := hid fun w' hb => by have := (HCX'.out w' hb).2 n hjp; rwa [if_pos rfl] at this
              generalize ht : filledB c = t at cj HFF HBC
              have HT := hid ht; clear ht
              have e7 : ((n : Int) != (n : Int)) = false := by simp
              have e8 : ((n : Int) == (n : Int)) = true := by simp
              go_wp2_with fail
              have cj2 : wr.drew.cell? ⟨g, n, none⟩ = some (.string t) := cj
              refine wp_region_held_drew (S := fun w' => w'.cell? ⟨g, n, none⟩ = some (.string t)) (by kernel_rfl) (by first | exact cj | exact cj2) (fun hHeld => ?_)
              refine wpAnyH_take (i := 0) (oi := { dst := some 97, op := Op.move (Operand.tmp 11), type := 3, pos := "law.go:144", after := #[], guard := none }) (v := ?v1x0) rfl (by kernel_rfl) (by kernel_rfl) (by kernel_rfl) (fun _ _ _ h => h) (Or.inl ⟨by rfl, ?hy1x0⟩) (by assumption) ?rest1x0
              case hy1x0 => (intro w hSw; (try dsimp only at hSw); go_simp; (try with_reducible rfl))
              simp only [Act.put, List.setIfInBounds_toArray, List.set_cons_zero, List.set_cons_succ]
              refine wpAnyH_take (i := 1) (oi := { dst := some 98, op := Op.move (Operand.tmp 5), type := 3, pos := "law.go:144", after := #[], guard := none }) (v := ?v1x1) rfl (by kernel_rfl) (by kernel_rfl) (by kernel_rfl) (fun _ _ _ h => h) (Or.inl ⟨by rfl, ?hy1x1⟩) (by assumption) ?rest1x1
              case hy1x1 => (intro w hSw; (try dsimp only at hSw); go_simp; (try with_reducible rfl))
              simp only [Act.put, List.setIfInBounds_toArray, List.set_cons_zero, List.set_cons_succ]
              refine wpAnyH_take (i := 2) (oi := { dst := some 99, op := Op.binOp BinOp.eql 3 (Operand.tmp 97) (Operand.tmp 98) 3, type := 4, pos := "law.go:144", after := #[{ on := 0, ground := Ground.data }, { on := 1, ground := Ground.data }], guard := none }) (v := ?v1x2) rfl (by kernel_rfl) (by kernel_rfl) (by kernel_rfl) (fun _ _ _ h => h) (Or.inl ⟨by rfl, ?hy1x2⟩) (by assumption) ?rest1x2
              case hy1x2 => (intro w hSw; (try dsimp only at hSw); go_simp; (try with_reducible rfl))
              simp only [Act.put, List.setIfInBounds_toArray, List.set_cons_zero, List.set_cons_succ]
              refine wpAnyH_take (i := 3) (oi := { dst := some 100, op := Op.move (Operand.tmp 99), type := 4, pos := "law.go:144", after := #[{ on := 2, ground := Ground.data }], guard := none }) (v := ?v1x3) rfl (by kernel_rfl) (by kernel_rfl) (by kernel_rfl) (fun _ _ _ h => h) (Or.inl ⟨by rfl, ?hy1x3⟩) (by assumption) ?rest1x3
              case hy1x3 => (intro w hSw; (try dsimp only at hSw); go_simp; (try with_reducible rfl))
              simp only [Act.put, List.setIfInBounds_toArray, List.set_cons_zero, List.set_cons_succ]
              refine wpAnyH_take (i := 4) (oi := { dst := some 101, op := Op.move (Operand.tmp 10), type := 40, pos := "law.go:144", after := #[{ on := 3, ground := Ground.guard }], guard := some (3, true) }) (v := ?v1x4) rfl (by kernel_rfl) (by kernel_rfl) (by kernel_rfl) (fun _ _ _ h => h) (Or.inl ⟨by rfl, ?hy1x4⟩) (by assumption) ?rest1x4
              case hy1x4 => (intro w hSw; (try dsimp only at hSw); go_simp; (try with_reducible rfl))
              simp only [Act.put, List.setIfInBounds_toArray, List.set_cons_zero, List.set_cons_succ]
              refine wpAnyH_take (i := 5) (oi := { dst := some 102, op := Op.move (Operand.tmp 11), type := 3, pos := "law.go:144", after := #[{ on := 3, ground := Ground.guard }], guard := some (3, true) }) (v := ?v1x5) rfl (by kernel_rfl) (by kernel_rfl) (by kernel_rfl) (fun _ _ _ h => h) (Or.inl ⟨by rfl, ?hy1x5⟩) (by assumption) ?rest1x5
              case hy1x5 => (intro w hSw; (try dsimp only at hSw); go_simp; (try with_reducible rfl))
              simp only [Act.put, List.setIfInBounds_toArray, List.set_cons_zero, List.set_cons_succ]
              refine wpAnyH_take (i := 6) (oi := { dst := some 103, op := Op.indexAddr 40 (Operand.tmp 101) (Operand.tmp 102), type := 0, pos := "law.go:144", after := #[{ on := 4, ground := Ground.data }, { on := 5, ground := Ground.data }, { on := 3, ground := Ground.guard }], guard := some (3, true) }) (v := ?v1x6) rfl (by kernel_rfl) (by kernel_rfl) (by kernel_rfl) (fun _ _ _ h => h) (Or.inl ⟨by rfl, ?hy1x6⟩) (by assumption) ?rest1x6
              case hy1x6 => (intro w hSw; (try dsimp only at hSw); go_simp; (try with_reducible rfl))
              simp only [Act.put, List.setIfInBounds_toArray, List.set_cons_zero, List.set_cons_succ]
              refine wpAnyH_take (i := 7) (oi := { dst := some 104, op := Op.load 9 (Operand.tmp 103), type := 9, pos := "law.go:144", after := #[{ on := 6, ground := Ground.data }, { on := 3, ground := Ground.guard }], guard := some (3, true) }) (v := ?v1x7) rfl (by kernel_rfl) (by kernel_rfl) (by kernel_rfl) (fun _ _ _ h => h) (Or.inl ⟨by rfl, ?hy1x7⟩) (by assumption) ?rest1x7
              case hy1x7 => (intro w hSw; (try dsimp only at hSw); go_simp; (try with_reducible rfl))
              simp only [Act.put, List.setIfInBounds_toArray, List.set_cons_zero, List.set_cons_succ]
              refine wpAnyH_take (i := 8) (oi := { dst := some 105, op := Op.move (Operand.tmp 6), type := 5, pos := "law.go:144", after := #[{ on := 3, ground := Ground.guard }], guard := some (3, true) }) (v := ?v1x8) rfl (by kernel_rfl) (by kernel_rfl) (by kernel_rfl) (fun _ _ _ h => h) (Or.inl ⟨by rfl, ?hy1x8⟩) (by assumption) ?rest1x8
              case hy1x8 => (intro w hSw; (try dsimp only at hSw); go_simp; (try with_reducible rfl))
              simp only [Act.put, List.setIfInBounds_toArray, List.set_cons_zero, List.set_cons_succ]
              refine wpAnyH_ready (rs := [9]) (by kernel_rfl) (by simp) (AllReadyH.cons (o := { dst := some 106, op := Op.call { callee := Callee.value (Operand.func 12), args := #[Operand.tmp 105], argTypes := #[5] }, type := 9, pos := "law.go:144", after := #[{ on := 8, ground := Ground.data }, { on := 3, ground := Ground.chain }, { on := 3, ground := Ground.guard }], guard := some (3, true) }) rfl (fun K hK => ?_) AllReadyH.nil)
              try go_simp
              go_at_call 12
              refine (HFF.out _).mono ?_
              rintro e w9 ⟨rfl, hb⟩
              have HB9 := hid (show Below wr.heap.size wr w9 from ⟨hb.os, hb.tape, hb.output, hb.size, hb.block⟩)
              have z1 := HBC.out w9 HB9.out
              clear hb
              refine hK.out _ _ z1 (fun hHeld => ?_)
              clear hK K
              refine wpAnyH_take (i := 10) (oi := { dst := some 107, op := Op.binOp BinOp.neq 9 (Operand.tmp 104) (Operand.tmp 106) 9, type := 4, pos := "law.go:144", after := #[{ on := 7, ground := Ground.data }, { on := 9, ground := Ground.data }, { on := 3, ground := Ground.guard }], guard := some (3, true) }) (v := ?v1x10) rfl (by kernel_rfl) (by kernel_rfl) (by kernel_rfl) (fun _ _ _ h => h) (Or.inl ⟨by rfl, ?hy1x10⟩) (by assumption) ?rest1x10
              case hy1x10 => (intro w hSw; (try dsimp only at hSw); go_simp; (try with_reducible rfl))
              simp only [Act.put, List.setIfInBounds_toArray, List.set_cons_zero, List.set_cons_succ]
              refine wpAnyH_take (i := 11) (oi := { dst := some 108, op := Op.pick (Operand.tmp 100) (Operand.tmp 107) (Operand.const (Value.bool false)), type := 4, pos := "law.go:144", after := #[{ on := 3, ground := Ground.data }, { on := 10, ground := Ground.data }], guard := none }) (v := ?v1x11) rfl (by kernel_rfl) (by kernel_rfl) (by kernel_rfl) (fun _ _ _ h => h) (Or.inl ⟨by rfl, ?hy1x11⟩) (by assumption) ?rest1x11
              case hy1x11 => (intro w hSw; (try dsimp only at hSw); go_simp; (try with_reducible rfl))
              simp only [Act.put, List.setIfInBounds_toArray, List.set_cons_zero, List.set_cons_succ]
              refine wpAnyH_take (i := 12) (oi := { dst := some 109, op := Op.move (Operand.tmp 108), type := 4, pos := "law.go:144", after := #[{ on := 11, ground := Ground.data }, { on := 9, ground := Ground.chain }], guard := none }) (v := ?v1x12) rfl (by kernel_rfl) (by kernel_rfl) (by kernel_rfl) (fun _ _ _ h => h) (Or.inl ⟨by rfl, ?hy1x12⟩) (by assumption) ?rest1x12
              case hy1x12 => (intro w hSw; (try dsimp only at hSw); go_simp; (try with_reducible rfl))
              simp only [Act.put, List.setIfInBounds_toArray, List.set_cons_zero, List.set_cons_succ]
              refine wpAnyH_take (i := 13) (oi := { dst := some 110, op := Op.move (Operand.tmp 11), type := 3, pos := "law.go:144", after := #[{ on := 12, ground := Ground.guard }], guard := some (12, false) }) (v := ?v1x13) rfl (by kernel_rfl) (by kernel_rfl) (by kernel_rfl) (fun _ _ _ h => h) (Or.inl ⟨by rfl, ?hy1x13⟩) (by assumption) ?rest1x13
              case hy1x13 => (intro w hSw; (try dsimp only at hSw); go_simp; (try with_reducible rfl))
              simp only [Act.put, List.setIfInBounds_toArray, List.set_cons_zero, List.set_cons_succ]
              refine wpAnyH_take (i := 14) (oi := { dst := some 111, op := Op.move (Operand.tmp 5), type := 3, pos := "law.go:144", after := #[{ on := 12, ground := Ground.guard }], guard := some (12, false) }) (v := ?v1x14) rfl (by kernel_rfl) (by kernel_rfl) (by kernel_rfl) (fun _ _ _ h => h) (Or.inl ⟨by rfl, ?hy1x14⟩) (by assumption) ?rest1x14
              case hy1x14 => (intro w hSw; (try dsimp only at hSw); go_simp; (try with_reducible rfl))
              simp only [Act.put, List.setIfInBounds_toArray, List.set_cons_zero, List.set_cons_succ]
              refine wpAnyH_take (i := 15) (oi := { dst := some 112, op := Op.binOp BinOp.neq 3 (Operand.tmp 110) (Operand.tmp 111) 3, type := 4, pos := "law.go:144", after := #[{ on := 13, ground := Ground.data }, { on := 14, ground := Ground.data }, { on := 12, ground := Ground.guard }], guard := some (12, false) }) (v := ?v1x15) rfl (by kernel_rfl) (by kernel_rfl) (by kernel_rfl) (fun _ _ _ h => h) (Or.inl ⟨by rfl, ?hy1x15⟩) (by assumption) ?rest1x15
              case hy1x15 => (intro w hSw; (try dsimp only at hSw); go_simp; (try with_reducible rfl))
              simp only [Act.put, List.setIfInBounds_toArray, List.set_cons_zero, List.set_cons_succ]
              refine wpAnyH_take (i := 16) (oi := { dst := some 113, op := Op.move (Operand.tmp 112), type := 4, pos := "law.go:144", after := #[{ on := 15, ground := Ground.data }, { on := 12, ground := Ground.chain }, { on := 12, ground := Ground.guard }], guard := some (12, false) }) (v := ?v1x16) rfl (by kernel_rfl) (by kernel_rfl) (by kernel_rfl) (fun _ _ _ h => h) (Or.inl ⟨by rfl, ?hy1x16⟩) (by assumption) ?rest1x16
              case hy1x16 => (intro w hSw; (try dsimp only at hSw); go_simp; (try with_reducible rfl))
              simp only [Act.put, List.setIfInBounds_toArray, List.set_cons_zero, List.set_cons_succ]
              refine wpAnyH_take (i := 17) (oi := { dst := some 114, op := Op.move (Operand.tmp 10), type := 40, pos := "law.go:144", after := #[{ on := 16, ground := Ground.guard }], guard := some (16, true) }) (v := _) rfl (by kernel_rfl) (by kernel_rfl) (by kernel_rfl) (fun _ _ _ h => h) (Or.inr ⟨by rfl, rfl⟩) (by assumption) ?_
              simp only [Act.put, List.setIfInBounds_toArray, List.set_cons_zero, List.set_cons_succ]
              refine wpAnyH_take (i := 18) (oi := { dst := some 115, op := Op.move (Operand.tmp 11), type := 3, pos := "law.go:144", after := #[{ on := 16, ground := Ground.guard }], guard := some (16, true) }) (v := _) rfl (by kernel_rfl) (by kernel_rfl) (by kernel_rfl) (fun _ _ _ h => h) (Or.inr ⟨by rfl, rfl⟩) (by assumption) ?_
              simp only [Act.put, List.setIfInBounds_toArray, List.set_cons_zero, List.set_cons_succ]
              refine wpAnyH_take (i := 19) (oi := { dst := some 116, op := Op.indexAddr 40 (Operand.tmp 114) (Operand.tmp 115), type := 0, pos := "law.go:144", after := #[{ on := 17, ground := Ground.data }, { on := 18, ground := Ground.data }, { on := 16, ground := Ground.guard }], guard := some (16, true) }) (v := _) rfl (by kernel_rfl) (by kernel_rfl) (by kernel_rfl) (fun _ _ _ h => h) (Or.inr ⟨by rfl, rfl⟩) (by assumption) ?_
              simp only [Act.put, List.setIfInBounds_toArray, List.set_cons_zero, List.set_cons_succ]
              refine wpAnyH_take (i := 20) (oi := { dst := some 117, op := Op.load 9 (Operand.tmp 116), type := 9, pos := "law.go:144", after := #[{ on := 19, ground := Ground.data }, { on := 16, ground := Ground.guard }], guard := some (16, true) }) (v := _) rfl (by kernel_rfl) (by kernel_rfl) (by kernel_rfl) (fun _ _ _ h => h) (Or.inr ⟨by rfl, rfl⟩) (by assumption) ?_
              simp only [Act.put, List.setIfInBounds_toArray, List.set_cons_zero, List.set_cons_succ]
              refine wpAnyH_take (i := 21) (oi := { dst := some 118, op := Op.call { callee := Callee.value (Operand.func 30), args := #[], argTypes := #[] }, type := 9, pos := "law.go:144", after := #[{ on := 16, ground := Ground.chain }, { on := 16, ground := Ground.guard }], guard := some (16, true) }) (v := _) rfl (by kernel_rfl) (by kernel_rfl) (by kernel_rfl) (fun _ _ _ h => h) (Or.inr ⟨by rfl, rfl⟩) (by assumption) ?_
              simp only [Act.put, List.setIfInBounds_toArray, List.set_cons_zero, List.set_cons_succ]
              refine wpAnyH_take (i := 22) (oi := { dst := some 119, op := Op.binOp BinOp.neq 9 (Operand.tmp 117) (Operand.tmp 118) 9, type := 4, pos := "law.go:144", after := #[{ on := 20, ground := Ground.data }, { on := 21, ground := Ground.data }, { on := 16, ground := Ground.guard }], guard := some (16, true) }) (v := _) rfl (by kernel_rfl) (by kernel_rfl) (by kernel_rfl) (fun _ _ _ h => h) (Or.inr ⟨by rfl, rfl⟩) (by assumption) ?_
              simp only [Act.put, List.setIfInBounds_toArray, List.set_cons_zero, List.set_cons_succ]
              refine wpAnyH_take (i := 23) (oi := { dst := some 120, op := Op.pick (Operand.tmp 113) (Operand.tmp 119) (Operand.const (Value.bool false)), type := 4, pos := "law.go:144", after := #[{ on := 16, ground := Ground.data }, { on := 22, ground := Ground.data }, { on := 12, ground := Ground.guard }], guard := some (12, false) }) (v := ?v1x23) rfl (by kernel_rfl) (by kernel_rfl) (by kernel_rfl) (fun _ _ _ h => h) (Or.inl ⟨by rfl, ?hy1x23⟩) (by assumption) ?rest1x23
              case hy1x23 => (intro w hSw; (try dsimp only at hSw); go_simp; (try with_reducible rfl))
              simp only [Act.put, List.setIfInBounds_toArray, List.set_cons_zero, List.set_cons_succ]
              refine wpAnyH_take (i := 24) (oi := { dst := some 121, op := Op.pick (Operand.tmp 109) (Operand.const (Value.bool true)) (Operand.tmp 120), type := 4, pos := "law.go:144", after := #[{ on := 12, ground := Ground.data }, { on := 23, ground := Ground.data }], guard := none }) (v := ?v1x24) rfl (by kernel_rfl) (by kernel_rfl) (by kernel_rfl) (fun _ _ _ h => h) (Or.inl ⟨by rfl, ?hy1x24⟩) (by assumption) ?rest1x24
              case hy1x24 => (intro w hSw; (try dsimp only at hSw); go_simp; (try with_reducible rfl))
              simp only [Act.put, List.setIfInBounds_toArray, List.set_cons_zero, List.set_cons_succ]
              refine wpAnyH_done (by kernel_rfl) ?_ _
              clear cj cj2 z1
              go_wp2_with fail
              go_roundw
              case rel => have ht := HT.out; subst ht; exact ⟨n + 1, by omega, by go_num, (HCX'.out _ HB9.out).1, (HCX'.out _ HB9.out).2, HB2.out.trans (HB9.out.mono HB2.out.size)⟩
              case measure => simp [intOf]; omega
            · have e5 : ((j : Int) == (n : Int)) = false := by simp; omega
              have e6 : ((j : Int) != (n : Int)) = true := by simp; omega
              rw [if_neg hnj] at cj
              have HBC : Hid (∀ w' : World, Below wr.heap.size wr w' → w'.cell? ⟨g, j, none⟩ = some (.string blankB)) := hid fun w' hb => by have := (HCX'.out w' hb).2 j hjp; rwa [if_neg hnj] at this
              clear hnj
              generalize ht : blankB = t at cj HBB HBC
              have HT := hid ht; clear ht
              go_wp2_with fail
              have cj2 : wr.drew.cell? ⟨g, j, none⟩ = some (.string t) := cj
              refine wp_region_held_drew (S := fun w' => w'.cell? ⟨g, j, none⟩ = some (.string t)) (by kernel_rfl) (by first | exact cj | exact cj2) (fun hHeld => ?_)
              refine wpAnyH_take (i := 0) (oi := { dst := some 97, op := Op.move (Operand.tmp 11), type := 3, pos := "law.go:144", after := #[], guard := none }) (v := ?v2x0) rfl (by kernel_rfl) (by kernel_rfl) (by kernel_rfl) (fun _ _ _ h => h) (Or.inl ⟨by rfl, ?hy2x0⟩) (by assumption) ?rest2x0
              case hy2x0 => (intro w hSw; (try dsimp only at hSw); go_simp; (try with_reducible rfl))
              simp only [Act.put, List.setIfInBounds_toArray, List.set_cons_zero, List.set_cons_succ]
              refine wpAnyH_take (i := 1) (oi := { dst := some 98, op := Op.move (Operand.tmp 5), type := 3, pos := "law.go:144", after := #[], guard := none }) (v := ?v2x1) rfl (by kernel_rfl) (by kernel_rfl) (by kernel_rfl) (fun _ _ _ h => h) (Or.inl ⟨by rfl, ?hy2x1⟩) (by assumption) ?rest2x1
              case hy2x1 => (intro w hSw; (try dsimp only at hSw); go_simp; (try with_reducible rfl))
              simp only [Act.put, List.setIfInBounds_toArray, List.set_cons_zero, List.set_cons_succ]
              refine wpAnyH_take (i := 2) (oi := { dst := some 99, op := Op.binOp BinOp.eql 3 (Operand.tmp 97) (Operand.tmp 98) 3, type := 4, pos := "law.go:144", after := #[{ on := 0, ground := Ground.data }, { on := 1, ground := Ground.data }], guard := none }) (v := ?v2x2) rfl (by kernel_rfl) (by kernel_rfl) (by kernel_rfl) (fun _ _ _ h => h) (Or.inl ⟨by rfl, ?hy2x2⟩) (by assumption) ?rest2x2
              case hy2x2 => (intro w hSw; (try dsimp only at hSw); go_simp; (try with_reducible rfl))
              simp only [Act.put, List.setIfInBounds_toArray, List.set_cons_zero, List.set_cons_succ]
              refine wpAnyH_take (i := 3) (oi := { dst := some 100, op := Op.move (Operand.tmp 99), type := 4, pos := "law.go:144", after := #[{ on := 2, ground := Ground.data }], guard := none }) (v := ?v2x3) rfl (by kernel_rfl) (by kernel_rfl) (by kernel_rfl) (fun _ _ _ h => h) (Or.inl ⟨by rfl, ?hy2x3⟩) (by assumption) ?rest2x3
              case hy2x3 => (intro w hSw; (try dsimp only at hSw); go_simp; (try with_reducible rfl))
              simp only [Act.put, List.setIfInBounds_toArray, List.set_cons_zero, List.set_cons_succ]
              refine wpAnyH_take (i := 4) (oi := { dst := some 101, op := Op.move (Operand.tmp 10), type := 40, pos := "law.go:144", after := #[{ on := 3, ground := Ground.guard }], guard := some (3, true) }) (v := _) rfl (by kernel_rfl) (by kernel_rfl) (by kernel_rfl) (fun _ _ _ h => h) (Or.inr ⟨by rfl, rfl⟩) (by assumption) ?_
              simp only [Act.put, List.setIfInBounds_toArray, List.set_cons_zero, List.set_cons_succ]
              refine wpAnyH_take (i := 5) (oi := { dst := some 102, op := Op.move (Operand.tmp 11), type := 3, pos := "law.go:144", after := #[{ on := 3, ground := Ground.guard }], guard := some (3, true) }) (v := _) rfl (by kernel_rfl) (by kernel_rfl) (by kernel_rfl) (fun _ _ _ h => h) (Or.inr ⟨by rfl, rfl⟩) (by assumption) ?_
              simp only [Act.put, List.setIfInBounds_toArray, List.set_cons_zero, List.set_cons_succ]
              refine wpAnyH_take (i := 6) (oi := { dst := some 103, op := Op.indexAddr 40 (Operand.tmp 101) (Operand.tmp 102), type := 0, pos := "law.go:144", after := #[{ on := 4, ground := Ground.data }, { on := 5, ground := Ground.data }, { on := 3, ground := Ground.guard }], guard := some (3, true) }) (v := _) rfl (by kernel_rfl) (by kernel_rfl) (by kernel_rfl) (fun _ _ _ h => h) (Or.inr ⟨by rfl, rfl⟩) (by assumption) ?_
              simp only [Act.put, List.setIfInBounds_toArray, List.set_cons_zero, List.set_cons_succ]
              refine wpAnyH_take (i := 7) (oi := { dst := some 104, op := Op.load 9 (Operand.tmp 103), type := 9, pos := "law.go:144", after := #[{ on := 6, ground := Ground.data }, { on := 3, ground := Ground.guard }], guard := some (3, true) }) (v := _) rfl (by kernel_rfl) (by kernel_rfl) (by kernel_rfl) (fun _ _ _ h => h) (Or.inr ⟨by rfl, rfl⟩) (by assumption) ?_
              simp only [Act.put, List.setIfInBounds_toArray, List.set_cons_zero, List.set_cons_succ]
              refine wpAnyH_take (i := 8) (oi := { dst := some 105, op := Op.move (Operand.tmp 6), type := 5, pos := "law.go:144", after := #[{ on := 3, ground := Ground.guard }], guard := some (3, true) }) (v := _) rfl (by kernel_rfl) (by kernel_rfl) (by kernel_rfl) (fun _ _ _ h => h) (Or.inr ⟨by rfl, rfl⟩) (by assumption) ?_
              simp only [Act.put, List.setIfInBounds_toArray, List.set_cons_zero, List.set_cons_succ]
              refine wpAnyH_take (i := 9) (oi := { dst := some 106, op := Op.call { callee := Callee.value (Operand.func 12), args := #[Operand.tmp 105], argTypes := #[5] }, type := 9, pos := "law.go:144", after := #[{ on := 8, ground := Ground.data }, { on := 3, ground := Ground.chain }, { on := 3, ground := Ground.guard }], guard := some (3, true) }) (v := _) rfl (by kernel_rfl) (by kernel_rfl) (by kernel_rfl) (fun _ _ _ h => h) (Or.inr ⟨by rfl, rfl⟩) (by assumption) ?_
              simp only [Act.put, List.setIfInBounds_toArray, List.set_cons_zero, List.set_cons_succ]
              refine wpAnyH_take (i := 10) (oi := { dst := some 107, op := Op.binOp BinOp.neq 9 (Operand.tmp 104) (Operand.tmp 106) 9, type := 4, pos := "law.go:144", after := #[{ on := 7, ground := Ground.data }, { on := 9, ground := Ground.data }, { on := 3, ground := Ground.guard }], guard := some (3, true) }) (v := _) rfl (by kernel_rfl) (by kernel_rfl) (by kernel_rfl) (fun _ _ _ h => h) (Or.inr ⟨by rfl, rfl⟩) (by assumption) ?_
              simp only [Act.put, List.setIfInBounds_toArray, List.set_cons_zero, List.set_cons_succ]
              refine wpAnyH_take (i := 11) (oi := { dst := some 108, op := Op.pick (Operand.tmp 100) (Operand.tmp 107) (Operand.const (Value.bool false)), type := 4, pos := "law.go:144", after := #[{ on := 3, ground := Ground.data }, { on := 10, ground := Ground.data }], guard := none }) (v := ?v2x11) rfl (by kernel_rfl) (by kernel_rfl) (by kernel_rfl) (fun _ _ _ h => h) (Or.inl ⟨by rfl, ?hy2x11⟩) (by assumption) ?rest2x11
              case hy2x11 => (intro w hSw; (try dsimp only at hSw); go_simp; (try with_reducible rfl))
              simp only [Act.put, List.setIfInBounds_toArray, List.set_cons_zero, List.set_cons_succ]
              refine wpAnyH_take (i := 12) (oi := { dst := some 109, op := Op.move (Operand.tmp 108), type := 4, pos := "law.go:144", after := #[{ on := 11, ground := Ground.data }, { on := 9, ground := Ground.chain }], guard := none }) (v := ?v2x12) rfl (by kernel_rfl) (by kernel_rfl) (by kernel_rfl) (fun _ _ _ h => h) (Or.inl ⟨by rfl, ?hy2x12⟩) (by assumption) ?rest2x12
              case hy2x12 => (intro w hSw; (try dsimp only at hSw); go_simp; (try with_reducible rfl))
              simp only [Act.put, List.setIfInBounds_toArray, List.set_cons_zero, List.set_cons_succ]
              refine wpAnyH_take (i := 13) (oi := { dst := some 110, op := Op.move (Operand.tmp 11), type := 3, pos := "law.go:144", after := #[{ on := 12, ground := Ground.guard }], guard := some (12, false) }) (v := ?v2x13) rfl (by kernel_rfl) (by kernel_rfl) (by kernel_rfl) (fun _ _ _ h => h) (Or.inl ⟨by rfl, ?hy2x13⟩) (by assumption) ?rest2x13
              case hy2x13 => (intro w hSw; (try dsimp only at hSw); go_simp; (try with_reducible rfl))
              simp only [Act.put, List.setIfInBounds_toArray, List.set_cons_zero, List.set_cons_succ]
              refine wpAnyH_take (i := 14) (oi := { dst := some 111, op := Op.move (Operand.tmp 5), type := 3, pos := "law.go:144", after := #[{ on := 12, ground := Ground.guard }], guard := some (12, false) }) (v := ?v2x14) rfl (by kernel_rfl) (by kernel_rfl) (by kernel_rfl) (fun _ _ _ h => h) (Or.inl ⟨by rfl, ?hy2x14⟩) (by assumption) ?rest2x14
              case hy2x14 => (intro w hSw; (try dsimp only at hSw); go_simp; (try with_reducible rfl))
              simp only [Act.put, List.setIfInBounds_toArray, List.set_cons_zero, List.set_cons_succ]
              refine wpAnyH_take (i := 15) (oi := { dst := some 112, op := Op.binOp BinOp.neq 3 (Operand.tmp 110) (Operand.tmp 111) 3, type := 4, pos := "law.go:144", after := #[{ on := 13, ground := Ground.data }, { on := 14, ground := Ground.data }, { on := 12, ground := Ground.guard }], guard := some (12, false) }) (v := ?v2x15) rfl (by kernel_rfl) (by kernel_rfl) (by kernel_rfl) (fun _ _ _ h => h) (Or.inl ⟨by rfl, ?hy2x15⟩) (by assumption) ?rest2x15
              case hy2x15 => (intro w hSw; (try dsimp only at hSw); go_simp; (try with_reducible rfl))
              simp only [Act.put, List.setIfInBounds_toArray, List.set_cons_zero, List.set_cons_succ]
              refine wpAnyH_take (i := 16) (oi := { dst := some 113, op := Op.move (Operand.tmp 112), type := 4, pos := "law.go:144", after := #[{ on := 15, ground := Ground.data }, { on := 12, ground := Ground.chain }, { on := 12, ground := Ground.guard }], guard := some (12, false) }) (v := ?v2x16) rfl (by kernel_rfl) (by kernel_rfl) (by kernel_rfl) (fun _ _ _ h => h) (Or.inl ⟨by rfl, ?hy2x16⟩) (by assumption) ?rest2x16
              case hy2x16 => (intro w hSw; (try dsimp only at hSw); go_simp; (try with_reducible rfl))
              simp only [Act.put, List.setIfInBounds_toArray, List.set_cons_zero, List.set_cons_succ]
              refine wpAnyH_take (i := 17) (oi := { dst := some 114, op := Op.move (Operand.tmp 10), type := 40, pos := "law.go:144", after := #[{ on := 16, ground := Ground.guard }], guard := some (16, true) }) (v := ?v2x17) rfl (by kernel_rfl) (by kernel_rfl) (by kernel_rfl) (fun _ _ _ h => h) (Or.inl ⟨by rfl, ?hy2x17⟩) (by assumption) ?rest2x17
              case hy2x17 => (intro w hSw; (try dsimp only at hSw); go_simp; (try with_reducible rfl))
              simp only [Act.put, List.setIfInBounds_toArray, List.set_cons_zero, List.set_cons_succ]
              refine wpAnyH_take (i := 18) (oi := { dst := some 115, op := Op.move (Operand.tmp 11), type := 3, pos := "law.go:144", after := #[{ on := 16, ground := Ground.guard }], guard := some (16, true) }) (v := ?v2x18) rfl (by kernel_rfl) (by kernel_rfl) (by kernel_rfl) (fun _ _ _ h => h) (Or.inl ⟨by rfl, ?hy2x18⟩) (by assumption) ?rest2x18
              case hy2x18 => (intro w hSw; (try dsimp only at hSw); go_simp; (try with_reducible rfl))
              simp only [Act.put, List.setIfInBounds_toArray, List.set_cons_zero, List.set_cons_succ]
              refine wpAnyH_take (i := 19) (oi := { dst := some 116, op := Op.indexAddr 40 (Operand.tmp 114) (Operand.tmp 115), type := 0, pos := "law.go:144", after := #[{ on := 17, ground := Ground.data }, { on := 18, ground := Ground.data }, { on := 16, ground := Ground.guard }], guard := some (16, true) }) (v := ?v2x19) rfl (by kernel_rfl) (by kernel_rfl) (by kernel_rfl) (fun _ _ _ h => h) (Or.inl ⟨by rfl, ?hy2x19⟩) (by assumption) ?rest2x19
              case hy2x19 => (intro w hSw; (try dsimp only at hSw); go_simp; (try with_reducible rfl))
              simp only [Act.put, List.setIfInBounds_toArray, List.set_cons_zero, List.set_cons_succ]
              refine wpAnyH_take (i := 20) (oi := { dst := some 117, op := Op.load 9 (Operand.tmp 116), type := 9, pos := "law.go:144", after := #[{ on := 19, ground := Ground.data }, { on := 16, ground := Ground.guard }], guard := some (16, true) }) (v := ?v2x20) rfl (by kernel_rfl) (by kernel_rfl) (by kernel_rfl) (fun _ _ _ h => h) (Or.inl ⟨by rfl, ?hy2x20⟩) (by assumption) ?rest2x20
              case hy2x20 => (intro w hSw; (try dsimp only at hSw); go_simp; (try with_reducible rfl))
              simp only [Act.put, List.setIfInBounds_toArray, List.set_cons_zero, List.set_cons_succ]
              refine wpAnyH_ready (rs := [21]) (by kernel_rfl) (by simp) (AllReadyH.cons (o := { dst := some 118, op := Op.call { callee := Callee.value (Operand.func 30), args := #[], argTypes := #[] }, type := 9, pos := "law.go:144", after := #[{ on := 16, ground := Ground.chain }, { on := 16, ground := Ground.guard }], guard := some (16, true) }) rfl (fun K hK => ?_) AllReadyH.nil)
              try go_simp
              go_at_call 30
              refine (HBB.out _).mono ?_
              rintro e w9 ⟨rfl, hb⟩
              have HB9 := hid (show Below wr.heap.size wr w9 from ⟨hb.os, hb.tape, hb.output, hb.size, hb.block⟩)
              have z1 := HBC.out w9 HB9.out
              clear hb
              refine hK.out _ _ z1 (fun hHeld => ?_)
              clear hK K
              refine wpAnyH_take (i := 22) (oi := { dst := some 119, op := Op.binOp BinOp.neq 9 (Operand.tmp 117) (Operand.tmp 118) 9, type := 4, pos := "law.go:144", after := #[{ on := 20, ground := Ground.data }, { on := 21, ground := Ground.data }, { on := 16, ground := Ground.guard }], guard := some (16, true) }) (v := ?v2x22) rfl (by kernel_rfl) (by kernel_rfl) (by kernel_rfl) (fun _ _ _ h => h) (Or.inl ⟨by rfl, ?hy2x22⟩) (by assumption) ?rest2x22
              case hy2x22 => (intro w hSw; (try dsimp only at hSw); go_simp; (try with_reducible rfl))
              simp only [Act.put, List.setIfInBounds_toArray, List.set_cons_zero, List.set_cons_succ]
              refine wpAnyH_take (i := 23) (oi := { dst := some 120, op := Op.pick (Operand.tmp 113) (Operand.tmp 119) (Operand.const (Value.bool false)), type := 4, pos := "law.go:144", after := #[{ on := 16, ground := Ground.data }, { on := 22, ground := Ground.data }, { on := 12, ground := Ground.guard }], guard := some (12, false) }) (v := ?v2x23) rfl (by kernel_rfl) (by kernel_rfl) (by kernel_rfl) (fun _ _ _ h => h) (Or.inl ⟨by rfl, ?hy2x23⟩) (by assumption) ?rest2x23
              case hy2x23 => (intro w hSw; (try dsimp only at hSw); go_simp; (try with_reducible rfl))
              simp only [Act.put, List.setIfInBounds_toArray, List.set_cons_zero, List.set_cons_succ]
              refine wpAnyH_take (i := 24) (oi := { dst := some 121, op := Op.pick (Operand.tmp 109) (Operand.const (Value.bool true)) (Operand.tmp 120), type := 4, pos := "law.go:144", after := #[{ on := 12, ground := Ground.data }, { on := 23, ground := Ground.data }], guard := none }) (v := ?v2x24) rfl (by kernel_rfl) (by kernel_rfl) (by kernel_rfl) (fun _ _ _ h => h) (Or.inl ⟨by rfl, ?hy2x24⟩) (by assumption) ?rest2x24
              case hy2x24 => (intro w hSw; (try dsimp only at hSw); go_simp; (try with_reducible rfl))
              simp only [Act.put, List.setIfInBounds_toArray, List.set_cons_zero, List.set_cons_succ]
              refine wpAnyH_done (by kernel_rfl) ?_ _
              clear cj cj2 z1
              go_wp2_with fail
              go_roundw
              case rel => have ht := HT.out; subst ht; exact ⟨j + 1, by omega, by go_num, (HCX'.out _ HB9.out).1, (HCX'.out _ HB9.out).2, HB2.out.trans (HB9.out.mono HB2.out.size)⟩
              case measure => simp [intOf]; omega
          · obtain rfl : j = p := by omega
            go_wp2_with (go_at_call 10; refine (live_any _).mono ?_; rintro e w9 ⟨rfl, hb⟩; replace HB2 := hid (HB2.out.trans (hb.mono HB2.out.size)); clear hb)
            go_ret
            exact ⟨rfl, HB2.out⟩
      · have e0 := hkl.1
        have e1 : decide ((k : Int) < 50) = false := by simp; omega
        clear hkl key HEXIT
        go_wp2_with (first
          | (go_at_call 19; refine (lv_crash none 0 [] (-1) 0 (none0 s) HL.out (HK0.out _) (by decide) HCN.out).mono ?_; rintro e w7 ⟨rfl, hl⟩; replace HL := hid hl; clear hl)
          | (go_at_call 23; refine (image_P0 HL.out HPG.out).mono ?_; rintro e w8 ⟨g, gc, rfl, hg2, hg3, hb⟩; replace HL := hid (HL.out.next hb); have HG := hid (And.intro hg2 hg3); clear hb hg2 hg3))
        go_loopw [11] (fun i wq => ∃ j : Nat, j ≤ p ∧ i = .int .i64 j ∧ g < wq.heap.size ∧ (∀ j, j < p → wq.cell? ⟨g, j, none⟩ = some (.string (if n = j then filledB c else blankB))) ∧ Below w.heap.size w wq) (fun i _ => p - (intOf i).toNat)
        case atStart => exact ⟨0, by omega, rfl, HG.out.1, HG.out.2, HL.out.below⟩
        case round =>
          obtain ⟨j, hj, rfl, hg, hcs, hb⟩ := hrel
          have HB2 := hid hb; have HG2 := hid hg; have HCS := hid hcs; clear hb hg hcs
          by_cases hjp : j < p
          · have cj := HCS.out j hjp
            have HBB : Hid (∀ w', Calls Try.prog 30 #[] w' fun e w2 => e = .returned (.string blankB) ∧ Below w'.heap.size w' w2) := hid fun w' => Pg.refBlank_any w'
            have HFF : Hid (∀ w', Calls Try.prog 12 #[.int .u8 (c.toNat : Int)] w' fun e w2 => e = .returned (.string (filledB c)) ∧ Below w'.heap.size w' w2) := hid fun w' => filled_ok c w'
            have HCX : ∀ w' : World, Below wr.heap.size wr w' → g < w'.heap.size ∧ (∀ j, j < p → w'.cell? ⟨g, j, none⟩ = some (.string (if n = j then filledB c else blankB))) := fun w' hb => ⟨Nat.lt_of_lt_of_le HG2.out hb.size, fun i hi => (hb.cell (p := ⟨g, i, none⟩) HG2.out).trans (HCS.out i hi)⟩
            have HCX' := hid HCX; clear HCX
            by_cases hnj : n = j
            · subst hnj
              rw [if_pos rfl] at cj
              have HBC : Hid (∀ w' : World, Below wr.heap.size wr w' → w'.cell? ⟨g, n, none⟩ = some (.string (filledB c))) := hid fun w' hb => by have := (HCX'.out w' hb).2 n hjp; rwa [if_pos rfl] at this
              generalize ht : filledB c = t at cj HFF HBC
              have HT := hid ht; clear ht
              have e7 : ((n : Int) != (n : Int)) = false := by simp
              have e8 : ((n : Int) == (n : Int)) = true := by simp
              go_wp2_with fail
              have cj2 : wr.drew.cell? ⟨g, n, none⟩ = some (.string t) := cj
              refine wp_region_held_drew (S := fun w' => w'.cell? ⟨g, n, none⟩ = some (.string t)) (by kernel_rfl) (by first | exact cj | exact cj2) (fun hHeld => ?_)
              refine wpAnyH_take (i := 0) (oi := { dst := some 97, op := Op.move (Operand.tmp 11), type := 3, pos := "law.go:144", after := #[], guard := none }) (v := ?v3x0) rfl (by kernel_rfl) (by kernel_rfl) (by kernel_rfl) (fun _ _ _ h => h) (Or.inl ⟨by rfl, ?hy3x0⟩) (by assumption) ?rest3x0
              case hy3x0 => (intro w hSw; (try dsimp only at hSw); go_simp; (try with_reducible rfl))
              simp only [Act.put, List.setIfInBounds_toArray, List.set_cons_zero, List.set_cons_succ]
              refine wpAnyH_take (i := 1) (oi := { dst := some 98, op := Op.move (Operand.tmp 5), type := 3, pos := "law.go:144", after := #[], guard := none }) (v := ?v3x1) rfl (by kernel_rfl) (by kernel_rfl) (by kernel_rfl) (fun _ _ _ h => h) (Or.inl ⟨by rfl, ?hy3x1⟩) (by assumption) ?rest3x1
              case hy3x1 => (intro w hSw; (try dsimp only at hSw); go_simp; (try with_reducible rfl))
              simp only [Act.put, List.setIfInBounds_toArray, List.set_cons_zero, List.set_cons_succ]
              refine wpAnyH_take (i := 2) (oi := { dst := some 99, op := Op.binOp BinOp.eql 3 (Operand.tmp 97) (Operand.tmp 98) 3, type := 4, pos := "law.go:144", after := #[{ on := 0, ground := Ground.data }, { on := 1, ground := Ground.data }], guard := none }) (v := ?v3x2) rfl (by kernel_rfl) (by kernel_rfl) (by kernel_rfl) (fun _ _ _ h => h) (Or.inl ⟨by rfl, ?hy3x2⟩) (by assumption) ?rest3x2
              case hy3x2 => (intro w hSw; (try dsimp only at hSw); go_simp; (try with_reducible rfl))
              simp only [Act.put, List.setIfInBounds_toArray, List.set_cons_zero, List.set_cons_succ]
              refine wpAnyH_take (i := 3) (oi := { dst := some 100, op := Op.move (Operand.tmp 99), type := 4, pos := "law.go:144", after := #[{ on := 2, ground := Ground.data }], guard := none }) (v := ?v3x3) rfl (by kernel_rfl) (by kernel_rfl) (by kernel_rfl) (fun _ _ _ h => h) (Or.inl ⟨by rfl, ?hy3x3⟩) (by assumption) ?rest3x3
              case hy3x3 => (intro w hSw; (try dsimp only at hSw); go_simp; (try with_reducible rfl))
              simp only [Act.put, List.setIfInBounds_toArray, List.set_cons_zero, List.set_cons_succ]
              refine wpAnyH_take (i := 4) (oi := { dst := some 101, op := Op.move (Operand.tmp 10), type := 40, pos := "law.go:144", after := #[{ on := 3, ground := Ground.guard }], guard := some (3, true) }) (v := ?v3x4) rfl (by kernel_rfl) (by kernel_rfl) (by kernel_rfl) (fun _ _ _ h => h) (Or.inl ⟨by rfl, ?hy3x4⟩) (by assumption) ?rest3x4
              case hy3x4 => (intro w hSw; (try dsimp only at hSw); go_simp; (try with_reducible rfl))
              simp only [Act.put, List.setIfInBounds_toArray, List.set_cons_zero, List.set_cons_succ]
              refine wpAnyH_take (i := 5) (oi := { dst := some 102, op := Op.move (Operand.tmp 11), type := 3, pos := "law.go:144", after := #[{ on := 3, ground := Ground.guard }], guard := some (3, true) }) (v := ?v3x5) rfl (by kernel_rfl) (by kernel_rfl) (by kernel_rfl) (fun _ _ _ h => h) (Or.inl ⟨by rfl, ?hy3x5⟩) (by assumption) ?rest3x5
              case hy3x5 => (intro w hSw; (try dsimp only at hSw); go_simp; (try with_reducible rfl))
              simp only [Act.put, List.setIfInBounds_toArray, List.set_cons_zero, List.set_cons_succ]
              refine wpAnyH_take (i := 6) (oi := { dst := some 103, op := Op.indexAddr 40 (Operand.tmp 101) (Operand.tmp 102), type := 0, pos := "law.go:144", after := #[{ on := 4, ground := Ground.data }, { on := 5, ground := Ground.data }, { on := 3, ground := Ground.guard }], guard := some (3, true) }) (v := ?v3x6) rfl (by kernel_rfl) (by kernel_rfl) (by kernel_rfl) (fun _ _ _ h => h) (Or.inl ⟨by rfl, ?hy3x6⟩) (by assumption) ?rest3x6
              case hy3x6 => (intro w hSw; (try dsimp only at hSw); go_simp; (try with_reducible rfl))
              simp only [Act.put, List.setIfInBounds_toArray, List.set_cons_zero, List.set_cons_succ]
              refine wpAnyH_take (i := 7) (oi := { dst := some 104, op := Op.load 9 (Operand.tmp 103), type := 9, pos := "law.go:144", after := #[{ on := 6, ground := Ground.data }, { on := 3, ground := Ground.guard }], guard := some (3, true) }) (v := ?v3x7) rfl (by kernel_rfl) (by kernel_rfl) (by kernel_rfl) (fun _ _ _ h => h) (Or.inl ⟨by rfl, ?hy3x7⟩) (by assumption) ?rest3x7
              case hy3x7 => (intro w hSw; (try dsimp only at hSw); go_simp; (try with_reducible rfl))
              simp only [Act.put, List.setIfInBounds_toArray, List.set_cons_zero, List.set_cons_succ]
              refine wpAnyH_take (i := 8) (oi := { dst := some 105, op := Op.move (Operand.tmp 6), type := 5, pos := "law.go:144", after := #[{ on := 3, ground := Ground.guard }], guard := some (3, true) }) (v := ?v3x8) rfl (by kernel_rfl) (by kernel_rfl) (by kernel_rfl) (fun _ _ _ h => h) (Or.inl ⟨by rfl, ?hy3x8⟩) (by assumption) ?rest3x8
              case hy3x8 => (intro w hSw; (try dsimp only at hSw); go_simp; (try with_reducible rfl))
              simp only [Act.put, List.setIfInBounds_toArray, List.set_cons_zero, List.set_cons_succ]
              refine wpAnyH_ready (rs := [9]) (by kernel_rfl) (by simp) (AllReadyH.cons (o := { dst := some 106, op := Op.call { callee := Callee.value (Operand.func 12), args := #[Operand.tmp 105], argTypes := #[5] }, type := 9, pos := "law.go:144", after := #[{ on := 8, ground := Ground.data }, { on := 3, ground := Ground.chain }, { on := 3, ground := Ground.guard }], guard := some (3, true) }) rfl (fun K hK => ?_) AllReadyH.nil)
              try go_simp
              go_at_call 12
              refine (HFF.out _).mono ?_
              rintro e w9 ⟨rfl, hb⟩
              have HB9 := hid (show Below wr.heap.size wr w9 from ⟨hb.os, hb.tape, hb.output, hb.size, hb.block⟩)
              have z1 := HBC.out w9 HB9.out
              clear hb
              refine hK.out _ _ z1 (fun hHeld => ?_)
              clear hK K
              refine wpAnyH_take (i := 10) (oi := { dst := some 107, op := Op.binOp BinOp.neq 9 (Operand.tmp 104) (Operand.tmp 106) 9, type := 4, pos := "law.go:144", after := #[{ on := 7, ground := Ground.data }, { on := 9, ground := Ground.data }, { on := 3, ground := Ground.guard }], guard := some (3, true) }) (v := ?v3x10) rfl (by kernel_rfl) (by kernel_rfl) (by kernel_rfl) (fun _ _ _ h => h) (Or.inl ⟨by rfl, ?hy3x10⟩) (by assumption) ?rest3x10
              case hy3x10 => (intro w hSw; (try dsimp only at hSw); go_simp; (try with_reducible rfl))
              simp only [Act.put, List.setIfInBounds_toArray, List.set_cons_zero, List.set_cons_succ]
              refine wpAnyH_take (i := 11) (oi := { dst := some 108, op := Op.pick (Operand.tmp 100) (Operand.tmp 107) (Operand.const (Value.bool false)), type := 4, pos := "law.go:144", after := #[{ on := 3, ground := Ground.data }, { on := 10, ground := Ground.data }], guard := none }) (v := ?v3x11) rfl (by kernel_rfl) (by kernel_rfl) (by kernel_rfl) (fun _ _ _ h => h) (Or.inl ⟨by rfl, ?hy3x11⟩) (by assumption) ?rest3x11
              case hy3x11 => (intro w hSw; (try dsimp only at hSw); go_simp; (try with_reducible rfl))
              simp only [Act.put, List.setIfInBounds_toArray, List.set_cons_zero, List.set_cons_succ]
              refine wpAnyH_take (i := 12) (oi := { dst := some 109, op := Op.move (Operand.tmp 108), type := 4, pos := "law.go:144", after := #[{ on := 11, ground := Ground.data }, { on := 9, ground := Ground.chain }], guard := none }) (v := ?v3x12) rfl (by kernel_rfl) (by kernel_rfl) (by kernel_rfl) (fun _ _ _ h => h) (Or.inl ⟨by rfl, ?hy3x12⟩) (by assumption) ?rest3x12
              case hy3x12 => (intro w hSw; (try dsimp only at hSw); go_simp; (try with_reducible rfl))
              simp only [Act.put, List.setIfInBounds_toArray, List.set_cons_zero, List.set_cons_succ]
              refine wpAnyH_take (i := 13) (oi := { dst := some 110, op := Op.move (Operand.tmp 11), type := 3, pos := "law.go:144", after := #[{ on := 12, ground := Ground.guard }], guard := some (12, false) }) (v := ?v3x13) rfl (by kernel_rfl) (by kernel_rfl) (by kernel_rfl) (fun _ _ _ h => h) (Or.inl ⟨by rfl, ?hy3x13⟩) (by assumption) ?rest3x13
              case hy3x13 => (intro w hSw; (try dsimp only at hSw); go_simp; (try with_reducible rfl))
              simp only [Act.put, List.setIfInBounds_toArray, List.set_cons_zero, List.set_cons_succ]
              refine wpAnyH_take (i := 14) (oi := { dst := some 111, op := Op.move (Operand.tmp 5), type := 3, pos := "law.go:144", after := #[{ on := 12, ground := Ground.guard }], guard := some (12, false) }) (v := ?v3x14) rfl (by kernel_rfl) (by kernel_rfl) (by kernel_rfl) (fun _ _ _ h => h) (Or.inl ⟨by rfl, ?hy3x14⟩) (by assumption) ?rest3x14
              case hy3x14 => (intro w hSw; (try dsimp only at hSw); go_simp; (try with_reducible rfl))
              simp only [Act.put, List.setIfInBounds_toArray, List.set_cons_zero, List.set_cons_succ]
              refine wpAnyH_take (i := 15) (oi := { dst := some 112, op := Op.binOp BinOp.neq 3 (Operand.tmp 110) (Operand.tmp 111) 3, type := 4, pos := "law.go:144", after := #[{ on := 13, ground := Ground.data }, { on := 14, ground := Ground.data }, { on := 12, ground := Ground.guard }], guard := some (12, false) }) (v := ?v3x15) rfl (by kernel_rfl) (by kernel_rfl) (by kernel_rfl) (fun _ _ _ h => h) (Or.inl ⟨by rfl, ?hy3x15⟩) (by assumption) ?rest3x15
              case hy3x15 => (intro w hSw; (try dsimp only at hSw); go_simp; (try with_reducible rfl))
              simp only [Act.put, List.setIfInBounds_toArray, List.set_cons_zero, List.set_cons_succ]
              refine wpAnyH_take (i := 16) (oi := { dst := some 113, op := Op.move (Operand.tmp 112), type := 4, pos := "law.go:144", after := #[{ on := 15, ground := Ground.data }, { on := 12, ground := Ground.chain }, { on := 12, ground := Ground.guard }], guard := some (12, false) }) (v := ?v3x16) rfl (by kernel_rfl) (by kernel_rfl) (by kernel_rfl) (fun _ _ _ h => h) (Or.inl ⟨by rfl, ?hy3x16⟩) (by assumption) ?rest3x16
              case hy3x16 => (intro w hSw; (try dsimp only at hSw); go_simp; (try with_reducible rfl))
              simp only [Act.put, List.setIfInBounds_toArray, List.set_cons_zero, List.set_cons_succ]
              refine wpAnyH_take (i := 17) (oi := { dst := some 114, op := Op.move (Operand.tmp 10), type := 40, pos := "law.go:144", after := #[{ on := 16, ground := Ground.guard }], guard := some (16, true) }) (v := _) rfl (by kernel_rfl) (by kernel_rfl) (by kernel_rfl) (fun _ _ _ h => h) (Or.inr ⟨by rfl, rfl⟩) (by assumption) ?_
              simp only [Act.put, List.setIfInBounds_toArray, List.set_cons_zero, List.set_cons_succ]
              refine wpAnyH_take (i := 18) (oi := { dst := some 115, op := Op.move (Operand.tmp 11), type := 3, pos := "law.go:144", after := #[{ on := 16, ground := Ground.guard }], guard := some (16, true) }) (v := _) rfl (by kernel_rfl) (by kernel_rfl) (by kernel_rfl) (fun _ _ _ h => h) (Or.inr ⟨by rfl, rfl⟩) (by assumption) ?_
              simp only [Act.put, List.setIfInBounds_toArray, List.set_cons_zero, List.set_cons_succ]
              refine wpAnyH_take (i := 19) (oi := { dst := some 116, op := Op.indexAddr 40 (Operand.tmp 114) (Operand.tmp 115), type := 0, pos := "law.go:144", after := #[{ on := 17, ground := Ground.data }, { on := 18, ground := Ground.data }, { on := 16, ground := Ground.guard }], guard := some (16, true) }) (v := _) rfl (by kernel_rfl) (by kernel_rfl) (by kernel_rfl) (fun _ _ _ h => h) (Or.inr ⟨by rfl, rfl⟩) (by assumption) ?_
              simp only [Act.put, List.setIfInBounds_toArray, List.set_cons_zero, List.set_cons_succ]
              refine wpAnyH_take (i := 20) (oi := { dst := some 117, op := Op.load 9 (Operand.tmp 116), type := 9, pos := "law.go:144", after := #[{ on := 19, ground := Ground.data }, { on := 16, ground := Ground.guard }], guard := some (16, true) }) (v := _) rfl (by kernel_rfl) (by kernel_rfl) (by kernel_rfl) (fun _ _ _ h => h) (Or.inr ⟨by rfl, rfl⟩) (by assumption) ?_
              simp only [Act.put, List.setIfInBounds_toArray, List.set_cons_zero, List.set_cons_succ]
              refine wpAnyH_take (i := 21) (oi := { dst := some 118, op := Op.call { callee := Callee.value (Operand.func 30), args := #[], argTypes := #[] }, type := 9, pos := "law.go:144", after := #[{ on := 16, ground := Ground.chain }, { on := 16, ground := Ground.guard }], guard := some (16, true) }) (v := _) rfl (by kernel_rfl) (by kernel_rfl) (by kernel_rfl) (fun _ _ _ h => h) (Or.inr ⟨by rfl, rfl⟩) (by assumption) ?_
              simp only [Act.put, List.setIfInBounds_toArray, List.set_cons_zero, List.set_cons_succ]
              refine wpAnyH_take (i := 22) (oi := { dst := some 119, op := Op.binOp BinOp.neq 9 (Operand.tmp 117) (Operand.tmp 118) 9, type := 4, pos := "law.go:144", after := #[{ on := 20, ground := Ground.data }, { on := 21, ground := Ground.data }, { on := 16, ground := Ground.guard }], guard := some (16, true) }) (v := _) rfl (by kernel_rfl) (by kernel_rfl) (by kernel_rfl) (fun _ _ _ h => h) (Or.inr ⟨by rfl, rfl⟩) (by assumption) ?_
              simp only [Act.put, List.setIfInBounds_toArray, List.set_cons_zero, List.set_cons_succ]
              refine wpAnyH_take (i := 23) (oi := { dst := some 120, op := Op.pick (Operand.tmp 113) (Operand.tmp 119) (Operand.const (Value.bool false)), type := 4, pos := "law.go:144", after := #[{ on := 16, ground := Ground.data }, { on := 22, ground := Ground.data }, { on := 12, ground := Ground.guard }], guard := some (12, false) }) (v := ?v3x23) rfl (by kernel_rfl) (by kernel_rfl) (by kernel_rfl) (fun _ _ _ h => h) (Or.inl ⟨by rfl, ?hy3x23⟩) (by assumption) ?rest3x23
              case hy3x23 => (intro w hSw; (try dsimp only at hSw); go_simp; (try with_reducible rfl))
              simp only [Act.put, List.setIfInBounds_toArray, List.set_cons_zero, List.set_cons_succ]
              refine wpAnyH_take (i := 24) (oi := { dst := some 121, op := Op.pick (Operand.tmp 109) (Operand.const (Value.bool true)) (Operand.tmp 120), type := 4, pos := "law.go:144", after := #[{ on := 12, ground := Ground.data }, { on := 23, ground := Ground.data }], guard := none }) (v := ?v3x24) rfl (by kernel_rfl) (by kernel_rfl) (by kernel_rfl) (fun _ _ _ h => h) (Or.inl ⟨by rfl, ?hy3x24⟩) (by assumption) ?rest3x24
              case hy3x24 => (intro w hSw; (try dsimp only at hSw); go_simp; (try with_reducible rfl))
              simp only [Act.put, List.setIfInBounds_toArray, List.set_cons_zero, List.set_cons_succ]
              refine wpAnyH_done (by kernel_rfl) ?_ _
              clear cj cj2 z1
              go_wp2_with fail
              go_roundw
              case rel => have ht := HT.out; subst ht; exact ⟨n + 1, by omega, by go_num, (HCX'.out _ HB9.out).1, (HCX'.out _ HB9.out).2, HB2.out.trans (HB9.out.mono HB2.out.size)⟩
              case measure => simp [intOf]; omega
            · have e5 : ((j : Int) == (n : Int)) = false := by simp; omega
              have e6 : ((j : Int) != (n : Int)) = true := by simp; omega
              rw [if_neg hnj] at cj
              have HBC : Hid (∀ w' : World, Below wr.heap.size wr w' → w'.cell? ⟨g, j, none⟩ = some (.string blankB)) := hid fun w' hb => by have := (HCX'.out w' hb).2 j hjp; rwa [if_neg hnj] at this
              clear hnj
              generalize ht : blankB = t at cj HBB HBC
              have HT := hid ht; clear ht
              go_wp2_with fail
              have cj2 : wr.drew.cell? ⟨g, j, none⟩ = some (.string t) := cj
              refine wp_region_held_drew (S := fun w' => w'.cell? ⟨g, j, none⟩ = some (.string t)) (by kernel_rfl) (by first | exact cj | exact cj2) (fun hHeld => ?_)
              refine wpAnyH_take (i := 0) (oi := { dst := some 97, op := Op.move (Operand.tmp 11), type := 3, pos := "law.go:144", after := #[], guard := none }) (v := ?v4x0) rfl (by kernel_rfl) (by kernel_rfl) (by kernel_rfl) (fun _ _ _ h => h) (Or.inl ⟨by rfl, ?hy4x0⟩) (by assumption) ?rest4x0
              case hy4x0 => (intro w hSw; (try dsimp only at hSw); go_simp; (try with_reducible rfl))
              simp only [Act.put, List.setIfInBounds_toArray, List.set_cons_zero, List.set_cons_succ]
              refine wpAnyH_take (i := 1) (oi := { dst := some 98, op := Op.move (Operand.tmp 5), type := 3, pos := "law.go:144", after := #[], guard := none }) (v := ?v4x1) rfl (by kernel_rfl) (by kernel_rfl) (by kernel_rfl) (fun _ _ _ h => h) (Or.inl ⟨by rfl, ?hy4x1⟩) (by assumption) ?rest4x1
              case hy4x1 => (intro w hSw; (try dsimp only at hSw); go_simp; (try with_reducible rfl))
              simp only [Act.put, List.setIfInBounds_toArray, List.set_cons_zero, List.set_cons_succ]
              refine wpAnyH_take (i := 2) (oi := { dst := some 99, op := Op.binOp BinOp.eql 3 (Operand.tmp 97) (Operand.tmp 98) 3, type := 4, pos := "law.go:144", after := #[{ on := 0, ground := Ground.data }, { on := 1, ground := Ground.data }], guard := none }) (v := ?v4x2) rfl (by kernel_rfl) (by kernel_rfl) (by kernel_rfl) (fun _ _ _ h => h) (Or.inl ⟨by rfl, ?hy4x2⟩) (by assumption) ?rest4x2
              case hy4x2 => (intro w hSw; (try dsimp only at hSw); go_simp; (try with_reducible rfl))
              simp only [Act.put, List.setIfInBounds_toArray, List.set_cons_zero, List.set_cons_succ]
              refine wpAnyH_take (i := 3) (oi := { dst := some 100, op := Op.move (Operand.tmp 99), type := 4, pos := "law.go:144", after := #[{ on := 2, ground := Ground.data }], guard := none }) (v := ?v4x3) rfl (by kernel_rfl) (by kernel_rfl) (by kernel_rfl) (fun _ _ _ h => h) (Or.inl ⟨by rfl, ?hy4x3⟩) (by assumption) ?rest4x3
              case hy4x3 => (intro w hSw; (try dsimp only at hSw); go_simp; (try with_reducible rfl))
              simp only [Act.put, List.setIfInBounds_toArray, List.set_cons_zero, List.set_cons_succ]
              refine wpAnyH_take (i := 4) (oi := { dst := some 101, op := Op.move (Operand.tmp 10), type := 40, pos := "law.go:144", after := #[{ on := 3, ground := Ground.guard }], guard := some (3, true) }) (v := _) rfl (by kernel_rfl) (by kernel_rfl) (by kernel_rfl) (fun _ _ _ h => h) (Or.inr ⟨by rfl, rfl⟩) (by assumption) ?_
              simp only [Act.put, List.setIfInBounds_toArray, List.set_cons_zero, List.set_cons_succ]
              refine wpAnyH_take (i := 5) (oi := { dst := some 102, op := Op.move (Operand.tmp 11), type := 3, pos := "law.go:144", after := #[{ on := 3, ground := Ground.guard }], guard := some (3, true) }) (v := _) rfl (by kernel_rfl) (by kernel_rfl) (by kernel_rfl) (fun _ _ _ h => h) (Or.inr ⟨by rfl, rfl⟩) (by assumption) ?_
              simp only [Act.put, List.setIfInBounds_toArray, List.set_cons_zero, List.set_cons_succ]
              refine wpAnyH_take (i := 6) (oi := { dst := some 103, op := Op.indexAddr 40 (Operand.tmp 101) (Operand.tmp 102), type := 0, pos := "law.go:144", after := #[{ on := 4, ground := Ground.data }, { on := 5, ground := Ground.data }, { on := 3, ground := Ground.guard }], guard := some (3, true) }) (v := _) rfl (by kernel_rfl) (by kernel_rfl) (by kernel_rfl) (fun _ _ _ h => h) (Or.inr ⟨by rfl, rfl⟩) (by assumption) ?_
              simp only [Act.put, List.setIfInBounds_toArray, List.set_cons_zero, List.set_cons_succ]
              refine wpAnyH_take (i := 7) (oi := { dst := some 104, op := Op.load 9 (Operand.tmp 103), type := 9, pos := "law.go:144", after := #[{ on := 6, ground := Ground.data }, { on := 3, ground := Ground.guard }], guard := some (3, true) }) (v := _) rfl (by kernel_rfl) (by kernel_rfl) (by kernel_rfl) (fun _ _ _ h => h) (Or.inr ⟨by rfl, rfl⟩) (by assumption) ?_
              simp only [Act.put, List.setIfInBounds_toArray, List.set_cons_zero, List.set_cons_succ]
              refine wpAnyH_take (i := 8) (oi := { dst := some 105, op := Op.move (Operand.tmp 6), type := 5, pos := "law.go:144", after := #[{ on := 3, ground := Ground.guard }], guard := some (3, true) }) (v := _) rfl (by kernel_rfl) (by kernel_rfl) (by kernel_rfl) (fun _ _ _ h => h) (Or.inr ⟨by rfl, rfl⟩) (by assumption) ?_
              simp only [Act.put, List.setIfInBounds_toArray, List.set_cons_zero, List.set_cons_succ]
              refine wpAnyH_take (i := 9) (oi := { dst := some 106, op := Op.call { callee := Callee.value (Operand.func 12), args := #[Operand.tmp 105], argTypes := #[5] }, type := 9, pos := "law.go:144", after := #[{ on := 8, ground := Ground.data }, { on := 3, ground := Ground.chain }, { on := 3, ground := Ground.guard }], guard := some (3, true) }) (v := _) rfl (by kernel_rfl) (by kernel_rfl) (by kernel_rfl) (fun _ _ _ h => h) (Or.inr ⟨by rfl, rfl⟩) (by assumption) ?_
              simp only [Act.put, List.setIfInBounds_toArray, List.set_cons_zero, List.set_cons_succ]
              refine wpAnyH_take (i := 10) (oi := { dst := some 107, op := Op.binOp BinOp.neq 9 (Operand.tmp 104) (Operand.tmp 106) 9, type := 4, pos := "law.go:144", after := #[{ on := 7, ground := Ground.data }, { on := 9, ground := Ground.data }, { on := 3, ground := Ground.guard }], guard := some (3, true) }) (v := _) rfl (by kernel_rfl) (by kernel_rfl) (by kernel_rfl) (fun _ _ _ h => h) (Or.inr ⟨by rfl, rfl⟩) (by assumption) ?_
              simp only [Act.put, List.setIfInBounds_toArray, List.set_cons_zero, List.set_cons_succ]
              refine wpAnyH_take (i := 11) (oi := { dst := some 108, op := Op.pick (Operand.tmp 100) (Operand.tmp 107) (Operand.const (Value.bool false)), type := 4, pos := "law.go:144", after := #[{ on := 3, ground := Ground.data }, { on := 10, ground := Ground.data }], guard := none }) (v := ?v4x11) rfl (by kernel_rfl) (by kernel_rfl) (by kernel_rfl) (fun _ _ _ h => h) (Or.inl ⟨by rfl, ?hy4x11⟩) (by assumption) ?rest4x11
              case hy4x11 => (intro w hSw; (try dsimp only at hSw); go_simp; (try with_reducible rfl))
              simp only [Act.put, List.setIfInBounds_toArray, List.set_cons_zero, List.set_cons_succ]
              refine wpAnyH_take (i := 12) (oi := { dst := some 109, op := Op.move (Operand.tmp 108), type := 4, pos := "law.go:144", after := #[{ on := 11, ground := Ground.data }, { on := 9, ground := Ground.chain }], guard := none }) (v := ?v4x12) rfl (by kernel_rfl) (by kernel_rfl) (by kernel_rfl) (fun _ _ _ h => h) (Or.inl ⟨by rfl, ?hy4x12⟩) (by assumption) ?rest4x12
              case hy4x12 => (intro w hSw; (try dsimp only at hSw); go_simp; (try with_reducible rfl))
              simp only [Act.put, List.setIfInBounds_toArray, List.set_cons_zero, List.set_cons_succ]
              refine wpAnyH_take (i := 13) (oi := { dst := some 110, op := Op.move (Operand.tmp 11), type := 3, pos := "law.go:144", after := #[{ on := 12, ground := Ground.guard }], guard := some (12, false) }) (v := ?v4x13) rfl (by kernel_rfl) (by kernel_rfl) (by kernel_rfl) (fun _ _ _ h => h) (Or.inl ⟨by rfl, ?hy4x13⟩) (by assumption) ?rest4x13
              case hy4x13 => (intro w hSw; (try dsimp only at hSw); go_simp; (try with_reducible rfl))
              simp only [Act.put, List.setIfInBounds_toArray, List.set_cons_zero, List.set_cons_succ]
              refine wpAnyH_take (i := 14) (oi := { dst := some 111, op := Op.move (Operand.tmp 5), type := 3, pos := "law.go:144", after := #[{ on := 12, ground := Ground.guard }], guard := some (12, false) }) (v := ?v4x14) rfl (by kernel_rfl) (by kernel_rfl) (by kernel_rfl) (fun _ _ _ h => h) (Or.inl ⟨by rfl, ?hy4x14⟩) (by assumption) ?rest4x14
              case hy4x14 => (intro w hSw; (try dsimp only at hSw); go_simp; (try with_reducible rfl))
              simp only [Act.put, List.setIfInBounds_toArray, List.set_cons_zero, List.set_cons_succ]
              refine wpAnyH_take (i := 15) (oi := { dst := some 112, op := Op.binOp BinOp.neq 3 (Operand.tmp 110) (Operand.tmp 111) 3, type := 4, pos := "law.go:144", after := #[{ on := 13, ground := Ground.data }, { on := 14, ground := Ground.data }, { on := 12, ground := Ground.guard }], guard := some (12, false) }) (v := ?v4x15) rfl (by kernel_rfl) (by kernel_rfl) (by kernel_rfl) (fun _ _ _ h => h) (Or.inl ⟨by rfl, ?hy4x15⟩) (by assumption) ?rest4x15
              case hy4x15 => (intro w hSw; (try dsimp only at hSw); go_simp; (try with_reducible rfl))
              simp only [Act.put, List.setIfInBounds_toArray, List.set_cons_zero, List.set_cons_succ]
              refine wpAnyH_take (i := 16) (oi := { dst := some 113, op := Op.move (Operand.tmp 112), type := 4, pos := "law.go:144", after := #[{ on := 15, ground := Ground.data }, { on := 12, ground := Ground.chain }, { on := 12, ground := Ground.guard }], guard := some (12, false) }) (v := ?v4x16) rfl (by kernel_rfl) (by kernel_rfl) (by kernel_rfl) (fun _ _ _ h => h) (Or.inl ⟨by rfl, ?hy4x16⟩) (by assumption) ?rest4x16
              case hy4x16 => (intro w hSw; (try dsimp only at hSw); go_simp; (try with_reducible rfl))
              simp only [Act.put, List.setIfInBounds_toArray, List.set_cons_zero, List.set_cons_succ]
              refine wpAnyH_take (i := 17) (oi := { dst := some 114, op := Op.move (Operand.tmp 10), type := 40, pos := "law.go:144", after := #[{ on := 16, ground := Ground.guard }], guard := some (16, true) }) (v := ?v4x17) rfl (by kernel_rfl) (by kernel_rfl) (by kernel_rfl) (fun _ _ _ h => h) (Or.inl ⟨by rfl, ?hy4x17⟩) (by assumption) ?rest4x17
              case hy4x17 => (intro w hSw; (try dsimp only at hSw); go_simp; (try with_reducible rfl))
              simp only [Act.put, List.setIfInBounds_toArray, List.set_cons_zero, List.set_cons_succ]
              refine wpAnyH_take (i := 18) (oi := { dst := some 115, op := Op.move (Operand.tmp 11), type := 3, pos := "law.go:144", after := #[{ on := 16, ground := Ground.guard }], guard := some (16, true) }) (v := ?v4x18) rfl (by kernel_rfl) (by kernel_rfl) (by kernel_rfl) (fun _ _ _ h => h) (Or.inl ⟨by rfl, ?hy4x18⟩) (by assumption) ?rest4x18
              case hy4x18 => (intro w hSw; (try dsimp only at hSw); go_simp; (try with_reducible rfl))
              simp only [Act.put, List.setIfInBounds_toArray, List.set_cons_zero, List.set_cons_succ]
              refine wpAnyH_take (i := 19) (oi := { dst := some 116, op := Op.indexAddr 40 (Operand.tmp 114) (Operand.tmp 115), type := 0, pos := "law.go:144", after := #[{ on := 17, ground := Ground.data }, { on := 18, ground := Ground.data }, { on := 16, ground := Ground.guard }], guard := some (16, true) }) (v := ?v4x19) rfl (by kernel_rfl) (by kernel_rfl) (by kernel_rfl) (fun _ _ _ h => h) (Or.inl ⟨by rfl, ?hy4x19⟩) (by assumption) ?rest4x19
              case hy4x19 => (intro w hSw; (try dsimp only at hSw); go_simp; (try with_reducible rfl))
              simp only [Act.put, List.setIfInBounds_toArray, List.set_cons_zero, List.set_cons_succ]
              refine wpAnyH_take (i := 20) (oi := { dst := some 117, op := Op.load 9 (Operand.tmp 116), type := 9, pos := "law.go:144", after := #[{ on := 19, ground := Ground.data }, { on := 16, ground := Ground.guard }], guard := some (16, true) }) (v := ?v4x20) rfl (by kernel_rfl) (by kernel_rfl) (by kernel_rfl) (fun _ _ _ h => h) (Or.inl ⟨by rfl, ?hy4x20⟩) (by assumption) ?rest4x20
              case hy4x20 => (intro w hSw; (try dsimp only at hSw); go_simp; (try with_reducible rfl))
              simp only [Act.put, List.setIfInBounds_toArray, List.set_cons_zero, List.set_cons_succ]
              refine wpAnyH_ready (rs := [21]) (by kernel_rfl) (by simp) (AllReadyH.cons (o := { dst := some 118, op := Op.call { callee := Callee.value (Operand.func 30), args := #[], argTypes := #[] }, type := 9, pos := "law.go:144", after := #[{ on := 16, ground := Ground.chain }, { on := 16, ground := Ground.guard }], guard := some (16, true) }) rfl (fun K hK => ?_) AllReadyH.nil)
              try go_simp
              go_at_call 30
              refine (HBB.out _).mono ?_
              rintro e w9 ⟨rfl, hb⟩
              have HB9 := hid (show Below wr.heap.size wr w9 from ⟨hb.os, hb.tape, hb.output, hb.size, hb.block⟩)
              have z1 := HBC.out w9 HB9.out
              clear hb
              refine hK.out _ _ z1 (fun hHeld => ?_)
              clear hK K
              refine wpAnyH_take (i := 22) (oi := { dst := some 119, op := Op.binOp BinOp.neq 9 (Operand.tmp 117) (Operand.tmp 118) 9, type := 4, pos := "law.go:144", after := #[{ on := 20, ground := Ground.data }, { on := 21, ground := Ground.data }, { on := 16, ground := Ground.guard }], guard := some (16, true) }) (v := ?v4x22) rfl (by kernel_rfl) (by kernel_rfl) (by kernel_rfl) (fun _ _ _ h => h) (Or.inl ⟨by rfl, ?hy4x22⟩) (by assumption) ?rest4x22
              case hy4x22 => (intro w hSw; (try dsimp only at hSw); go_simp; (try with_reducible rfl))
              simp only [Act.put, List.setIfInBounds_toArray, List.set_cons_zero, List.set_cons_succ]
              refine wpAnyH_take (i := 23) (oi := { dst := some 120, op := Op.pick (Operand.tmp 113) (Operand.tmp 119) (Operand.const (Value.bool false)), type := 4, pos := "law.go:144", after := #[{ on := 16, ground := Ground.data }, { on := 22, ground := Ground.data }, { on := 12, ground := Ground.guard }], guard := some (12, false) }) (v := ?v4x23) rfl (by kernel_rfl) (by kernel_rfl) (by kernel_rfl) (fun _ _ _ h => h) (Or.inl ⟨by rfl, ?hy4x23⟩) (by assumption) ?rest4x23
              case hy4x23 => (intro w hSw; (try dsimp only at hSw); go_simp; (try with_reducible rfl))
              simp only [Act.put, List.setIfInBounds_toArray, List.set_cons_zero, List.set_cons_succ]
              refine wpAnyH_take (i := 24) (oi := { dst := some 121, op := Op.pick (Operand.tmp 109) (Operand.const (Value.bool true)) (Operand.tmp 120), type := 4, pos := "law.go:144", after := #[{ on := 12, ground := Ground.data }, { on := 23, ground := Ground.data }], guard := none }) (v := ?v4x24) rfl (by kernel_rfl) (by kernel_rfl) (by kernel_rfl) (fun _ _ _ h => h) (Or.inl ⟨by rfl, ?hy4x24⟩) (by assumption) ?rest4x24
              case hy4x24 => (intro w hSw; (try dsimp only at hSw); go_simp; (try with_reducible rfl))
              simp only [Act.put, List.setIfInBounds_toArray, List.set_cons_zero, List.set_cons_succ]
              refine wpAnyH_done (by kernel_rfl) ?_ _
              clear cj cj2 z1
              go_wp2_with fail
              go_roundw
              case rel => have ht := HT.out; subst ht; exact ⟨j + 1, by omega, by go_num, (HCX'.out _ HB9.out).1, (HCX'.out _ HB9.out).2, HB2.out.trans (HB9.out.mono HB2.out.size)⟩
              case measure => simp [intOf]; omega
          · obtain rfl : j = p := by omega
            go_wp2_with (go_at_call 10; refine (live_any _).mono ?_; rintro e w9 ⟨rfl, hb⟩; replace HB2 := hid (HB2.out.trans (hb.mono HB2.out.size)); clear hb)
            go_ret
            exact ⟨rfl, HB2.out⟩
set_option maxRecDepth 100000 in
set_option maxHeartbeats 2000000 in
theorem DiskStays_walk (v : Value) (w : World) (hv : ∃ (g : Int) (a : Option Addr) (len cap : Nat) (n : Int) (c : UInt8), v = .agg #[.int .i64 g, .slice a len cap, .int .i64 n, .int .u8 (c.toNat : Int)] ∧ IsScript w a len) :
    Calls Try.prog 5 #[v] w fun e w' => e = .returned (.bool true) ∧ Below w.heap.size w w' := by
  obtain ⟨g, a, len, cap, n, c, rfl, hs⟩ := hv
  by_cases hgo : 1 ≤ g ∧ g ≤ 30 ∧ 0 ≤ n ∧ n < g
  · obtain ⟨p, rfl⟩ : ∃ p : Nat, g = (p : Int) := ⟨g.toNat, by omega⟩
    obtain ⟨m, rfl⟩ : ∃ m : Nat, n = (m : Int) := ⟨n.toNat, by omega⟩
    exact Stays_go p a len cap m c w (by omega) (by omega) (by omega) hs
  · have hlen := hs.1
    clear hs
    have hB0 : Below w.heap.size w (w.alloc (.cells #[.int .i64 g, .slice a len cap, .int .i64 n, .int .u8 (c.toNat : Int)] 56)) := (Below.refl _ _).alloc (Nat.le_refl _) _
    have b0 : (w.alloc (.cells #[.int .i64 g, .slice a len cap, .int .i64 n, .int .u8 (c.toNat : Int)] 56)).cell? ⟨w.heap.size, 0, none⟩ = some (.int .i64 g) := by rw [cell_of_row _ _ _ _ _ _ (heap_alloc_new _ _)]; rfl
    have b1 : (w.alloc (.cells #[.int .i64 g, .slice a len cap, .int .i64 n, .int .u8 (c.toNat : Int)] 56)).cell? ⟨w.heap.size, 1, none⟩ = some (.slice a len cap) := by rw [cell_of_row _ _ _ _ _ _ (heap_alloc_new _ _)]; rfl
    have b2 : (w.alloc (.cells #[.int .i64 g, .slice a len cap, .int .i64 n, .int .u8 (c.toNat : Int)] 56)).cell? ⟨w.heap.size, 2, none⟩ = some (.int .i64 n) := by rw [cell_of_row _ _ _ _ _ _ (heap_alloc_new _ _)]; rfl
    have b3 : (w.alloc (.cells #[.int .i64 g, .slice a len cap, .int .i64 n, .int .u8 (c.toNat : Int)] 56)).cell? ⟨w.heap.size, 3, none⟩ = some (.int .u8 (c.toNat : Int)) := by rw [cell_of_row _ _ _ _ _ _ (heap_alloc_new _ _)]; rfl
    by_cases hbad : g < 1 ∨ 1000 < g
    · have HBD := hid hbad
      clear hbad hgo
      go_enter Try.func5, Try.ntmps5
      go_wp2_with fail
      go_quiet (fail)
      have HB : Hid (Below w.heap.size w ((w.alloc (.cells #[.int .i64 g, .slice a len cap, .int .i64 n, .int .u8 (c.toNat : Int)] 56)).drewN nq)) := hid ⟨hB0.os, hB0.tape, hB0.output, hB0.size, hB0.block⟩
      clear hB0 b0 b1 b2 b3
      generalize (w.alloc (.cells #[.int .i64 g, .slice a len cap, .int .i64 n, .int .u8 (c.toNat : Int)] 56)).drewN nq = w0 at HB ⊢
      go_wp2_with (first
        | (go_at_call 8; refine (new_bad g _ HBD.out).mono ?_; rintro e w' ⟨rfl, rfl⟩)
        | (go_at_call 10; refine (live_any _).mono ?_; rintro e w9 ⟨rfl, hb⟩; replace HB := hid (HB.out.trans (hb.mono HB.out.size)); clear hb))
      go_ret
      exact ⟨rfl, HB.out⟩
    · obtain ⟨p, rfl⟩ : ∃ p : Nat, g = (p : Int) := ⟨g.toNat, by omega⟩
      have HP : Hid (1 ≤ p ∧ p ≤ 1000) := hid (by omega)
      have e4 : (decide ((30 : Int) < (p : Int)) || (decide (n < 0) || decide ((p : Int) ≤ n))) = true := by simp; omega
      go_enter Try.func5, Try.ntmps5
      go_wp2_with fail
      go_quiet (fail)
      have HB : Hid (Below w.heap.size w ((w.alloc (.cells #[.int .i64 (p : Int), .slice a len cap, .int .i64 n, .int .u8 (c.toNat : Int)] 56)).drewN nq)) := hid ⟨hB0.os, hB0.tape, hB0.output, hB0.size, hB0.block⟩
      clear hB0 b0 b1 b2 b3
      generalize (w.alloc (.cells #[.int .i64 (p : Int), .slice a len cap, .int .i64 n, .int .u8 (c.toNat : Int)] 56)).drewN nq = w0 at HB ⊢
      by_cases h30 : p ≤ 30
      · by_cases hn0 : n < 0
        · have e5 : decide ((30 : Int) < (p : Int)) = false := by simp; omega
          have e6 : decide (n < 0) = true := by simpa using hn0
          clear e4 hgo hbad
          go_wp2_with (first
            | (go_at_call 8; refine (lv_new p w _ HB.out HP.out.1 HP.out.2).mono ?_; rintro e w1 ⟨D, rfl, hl⟩; replace HB := hid hl.below; clear hl)
            | (go_at_call 10; refine (live_any _).mono ?_; rintro e w9 ⟨rfl, hb⟩; replace HB := hid (HB.out.trans (hb.mono HB.out.size)); clear hb))
          go_ret
          exact ⟨rfl, HB.out⟩
        · have e5 : decide ((30 : Int) < (p : Int)) = false := by simp; omega
          have e6 : decide (n < 0) = false := by simpa using hn0
          have e7 : decide ((p : Int) ≤ n) = true := by simp; omega
          clear e4 hgo hbad
          go_wp2_with (first
            | (go_at_call 8; refine (lv_new p w _ HB.out HP.out.1 HP.out.2).mono ?_; rintro e w1 ⟨D, rfl, hl⟩; replace HB := hid hl.below; clear hl)
            | (go_at_call 10; refine (live_any _).mono ?_; rintro e w9 ⟨rfl, hb⟩; replace HB := hid (HB.out.trans (hb.mono HB.out.size)); clear hb))
          go_ret
          exact ⟨rfl, HB.out⟩
      · have e5 : decide ((30 : Int) < (p : Int)) = true := by simp; omega
        clear e4 hgo hbad
        go_wp2_with (first
          | (go_at_call 8; refine (lv_new p w _ HB.out HP.out.1 HP.out.2).mono ?_; rintro e w1 ⟨D, rfl, hl⟩; replace HB := hid hl.below; clear hl)
          | (go_at_call 10; refine (live_any _).mono ?_; rintro e w9 ⟨rfl, hb⟩; replace HB := hid (HB.out.trans (hb.mono HB.out.size)); clear hb))
        go_ret
        exact ⟨rfl, HB.out⟩
set_option maxRecDepth 100000 in
theorem DiskStays_open0 {H : Type} {enc : TypeId × Value → H} {W : World} {base : Nat} {v : Value} {d : DataW H} {p : List MemPlace}
    (hv : Value.okWide Try.prog W .any base 56 v) (h : DataW.Trod enc Try.prog W 0 (fun _ => true) true 56 v d p) :
    ∃ (g : Int) (a : Option Addr) (len cap : Nat) (n : Int) (c : UInt8), v = .agg #[.int .i64 g, .slice a len cap, .int .i64 n, .int .u8 (c.toNat : Int)] ∧ IsScript W a len := open_stays hv h
end Go.Proofs.Ytonfibcmpfhppaa
