/- The reference's map in memory, its New and its small calls. -/
import Derived.Test.YtefnofipcjjfpaaFrDec
import Derived.Deep.AppendLies
namespace Go.Proofs.Ytefnofipcjjfpaa.Fr
open Go.RowKit
open Go.Lib (hid)

/-- truths as cells -/
def bv (B : List Bool) : List Value := B.map Value.bool
theorem bv_length (B : List Bool) : (bv B).length = B.length := by simp [bv]
structure RPtrs where
  M : Nat
  W : Nat
  cp : Nat
structure Rf (w : World) (r : RPtrs) (B : List Bool) : Prop where
  head : w.heap[r.M]? = some (.cells #[.slice (some ⟨r.W, 0, none⟩) B.length r.cp] 53 (0, 0))
  row : ∃ cur, w.heap[r.W]? = some (.cells cur 4 (0, 0)) ∧ cur.size = r.cp ∧ B.length ≤ r.cp ∧ cur.toList.take B.length = bv B
  ne : r.M ≠ r.W
  n1 : 1 ≤ B.length
  n2 : B.length ≤ 1000
theorem Rf.ltM {w : World} {d : RPtrs} {B : List Bool} (h : Rf w d B) : d.M < w.heap.size := (Array.getElem?_eq_some_iff.1 h.head).1
theorem Rf.ltW {w : World} {d : RPtrs} {B : List Bool} (h : Rf w d B) : d.W < w.heap.size := by
  obtain ⟨cur, hc, _⟩ := h.row; exact (Array.getElem?_eq_some_iff.1 hc).1
theorem Rf.kept {w w' : World} {d : RPtrs} {B : List Bool} (h : Rf w d B) (hm : w'.heap[d.M]? = w.heap[d.M]?) (hw : w'.heap[d.W]? = w.heap[d.W]?) : Rf w' d B :=
  ⟨by rw [hm]; exact h.head, by rw [hw]; exact h.row, h.ne, h.n1, h.n2⟩
theorem Rf.below {w w' : World} {d : RPtrs} {B : List Bool} (h : Rf w d B) (hb : Below w.heap.size w w') : Rf w' d B := h.kept (hb.block _ h.ltM) (hb.block _ h.ltW)
theorem Rf.other {w w' : World} {d : RPtrs} {B : List Bool} {b : Nat} (h : Rf w d B) (ho : Only b w w') (h1 : d.M ≠ b) (h2 : d.W ≠ b) : Rf w' d B := h.kept (ho.block _ h.ltM h1) (ho.block _ h.ltW h2)
theorem Rf.drew {w : World} {d : RPtrs} {B : List Bool} (h : Rf w d B) : Rf w.drew d B := ⟨h.head, h.row, h.ne, h.n1, h.n2⟩
theorem Rf.drewN {w : World} {d : RPtrs} {B : List Bool} (h : Rf w d B) (n : Nat) : Rf (w.drewN n) d B := ⟨h.head, h.row, h.ne, h.n1, h.n2⟩
theorem Rf.cells {w : World} {d : RPtrs} {B : List Bool} (h : Rf w d B) : w.cell? ⟨d.M, 0, none⟩ = some (.slice (some ⟨d.W, 0, none⟩) B.length d.cp) := by
  rw [cell_of_row _ _ _ _ _ _ h.head]; rfl
theorem Rf.page {w : World} {d : RPtrs} {B : List Bool} (h : Rf w d B) (i : Nat) (hi : i < B.length) : w.cell? ⟨d.W, i, none⟩ = some (.bool (bitAt B i)) := by
  obtain ⟨cur, hc, _, _, ht⟩ := h.row
  rw [cell_of_row _ _ _ _ _ _ hc]
  have e : (cur.toList.take B.length)[i]? = (bv B)[i]? := by rw [ht]
  rw [List.getElem?_take_of_lt hi] at e
  simp [bv, hi] at e
  rw [e]; simp [bitAt, hi]
theorem Rf.wfree {w : World} {d : RPtrs} {B : List Bool} (h : Rf w d B) (i : Nat) : w.frozen? ⟨d.W, i, none⟩ = false := by
  obtain ⟨cur, hc, _⟩ := h.row
  exact frozen_of_row _ _ _ _ _ hc
/-- a page is set -/
theorem Rf.set {w : World} {d : RPtrs} {B : List Bool} (h : Rf w d B) (i : Nat) (b : Bool) : Rf (w.setCell ⟨d.W, i, none⟩ (.bool b)) d (B.set i b) := by
  obtain ⟨cur, hc, hsz, hle, ht⟩ := h.row
  refine ⟨?_, ⟨cur.setIfInBounds i (.bool b), ?_, by simpa using hsz, by simpa using hle, ?_⟩, h.ne, by simpa using h.n1, by simpa using h.n2⟩
  · rw [heap_setCell_other _ _ _ _ h.ne, h.head]; simp
  · exact heap_setCell_same _ _ _ _ _ _ hc
  · rw [List.length_set, Array.toList_setIfInBounds, List.take_set, ht]; simp [bv, List.map_set]
theorem turnB_set (B : List Bool) (n : Nat) (b : Bool) (h : bitAt B n = !b) : turnB B n = B.set n b := by
  unfold turnB; rw [h]; simp

theorem info4 : (Try.prog.info? 4).map (fun i => (i.zero, i.size, i.bytes)) = some (some (.bool false), 1, 1) := by kernel_rfl
/-- the reference's map while its pages are laid -/
structure Part (w0 w : World) (M : Nat) (v : Value) (n f k : Nat) : Prop where
  head : w.heap[M]? = some (.cells #[v] 53 (0, 0))
  own : w.ownsRow (M + 1) 4 1 v k (bv ((frontB n f).take k))
  below : Below M w0 w
theorem Part.lt {w0 w : World} {M : Nat} {v : Value} {n f k : Nat} (h : Part w0 w M v n f k) : M < w.heap.size := (Array.getElem?_eq_some_iff.1 h.head).1
theorem Part.ne {w0 w : World} {M : Nat} {v : Value} {n f k : Nat} (h : Part w0 w M v n f k) : some M ≠ v.ownBlock := fun e => by
  have := (h.own.lt M e.symm).1; omega
theorem Part.more {w0 w w2 : World} {M : Nat} {v v' : Value} {n f k : Nat} (h : Part w0 w M v n f k) (hg : w.grownBy w2 v.ownBlock) (ho : w2.ownsRow (M + 1) 4 1 v' (k + 1) (bv ((frontB n f).take (k + 1)))) :
    Part w0 (w2.setCell ⟨M, 0, none⟩ v') M v' n f (k + 1) := by
  have hM : w2.heap[M]? = w.heap[M]? := hg.block _ h.lt h.ne
  refine ⟨?_, ?_, ?_⟩
  · rw [heap_setCell_same _ _ _ _ _ _ (by rw [hM]; exact h.head)]; rfl
  · refine ⟨ho.1, ?_⟩
    rcases ho.2 with ⟨hv, h0⟩ | ⟨g, cap, cur, hv, hb0, hg', rest⟩
    · exact .inl ⟨hv, h0⟩
    · refine .inr ⟨g, cap, cur, hv, hb0, ?_, rest⟩
      have hne : g ≠ M := by omega
      rw [heap_setCell_other _ _ _ _ hne]; exact hg'
  · refine ⟨hg.os.trans h.below.os, hg.tape.trans h.below.tape, hg.output.trans h.below.output, by rw [World.size_setCell]; exact Nat.le_trans h.below.size hg.size, fun k hk => ?_⟩
    have hne : k ≠ M := by omega
    rw [heap_setCell_other _ _ _ _ hne, hg.block k (by have := h.lt; omega) (fun e => by have := (h.own.lt k e.symm).1; omega), h.below.block k hk]
theorem front_take (n f k : Nat) (h : k < n) : bv ((frontB n f).take k) ++ [.bool (decide (k < f))] = bv ((frontB n f).take (k + 1)) := by
  have hl : k < (frontB n f).length := by rw [frontB_length]; exact h
  rw [List.take_succ_eq_append_getElem hl]
  have e : (frontB n f)[k] = decide (k < f) := by
    have := frontB_at n f k
    unfold bitAt at this
    rw [List.getD_eq_getElem?_getD, List.getElem?_eq_getElem hl] at this
    simpa [h] using this
  rw [e]; simp [bv]

set_option maxRecDepth 100000 in
set_option maxHeartbeats 2000000 in
theorem refNew_ok (n f : Nat) (w : World) (h1 : 1 ≤ n) (h2 : n ≤ 1000) (hf : f ≤ n) :
    Calls Try.prog 9 #[.int .i64 (n : Int), .int .i64 (f : Int)] w fun e w' => ∃ r, e = .returned (.tuple #[.pointer (some ⟨r.M, 0, none⟩), .int .i64 0]) ∧ Rf w' r (frontB n f) ∧ Below w.heap.size w w' ∧ w.heap.size ≤ r.M ∧ w.heap.size ≤ r.W := by
  obtain ⟨i0, hi0, hz0, hz1, hz2⟩ := info_parts info4
  have HP : Hid (Part w (w.alloc (.cells #[.slice none 0 0] 53)) w.heap.size (.slice none 0 0) n f 0) := hid
    ⟨heap_alloc_new _ _, ⟨rfl, .inl ⟨rfl, rfl⟩⟩, (Below.refl _ _).alloc (Nat.le_refl _) _⟩
  have e1 : decide ((n : Int) < 1) = false := by simp; omega
  have e2 : decide (1000 < (n : Int)) = false := by simp; omega
  have e3 : decide ((f : Int) < 0) = false := by simp
  have e4 : decide (n < f) = false := by simp; omega
  have hf2 : f ≤ 1000 := by omega
  have H1 := hid (And.intro h1 hf)
  clear h1 hf
  go_enter Try.func9, Try.ntmps9
  go_wp2_with fail
  clear e1 e2 e3 e4
  generalize w.alloc (.cells #[.slice none 0 0] 53) = w1 at HP ⊢
  obtain ⟨M, hM⟩ : ∃ M, w.heap.size = M := ⟨_, rfl⟩
  have HM := hid hM
  rw [hM] at HP ⊢
  clear hM
  go_loopw [7] (fun i wr => ∃ (k : Nat) (v : Value), k ≤ n ∧ i = .int .i64 k ∧ Part w wr M v n f k) (fun i _ => n - (intOf i).toNat)
  case atStart => exact ⟨0, _, by omega, rfl, HP.out⟩
  case round =>
    obtain ⟨k, v, hk, rfl, hp⟩ := hrel
    have HK := hid hp; clear hp
    by_cases hlt : k < n
    · have c1 : wr.cell? ⟨M, 0, none⟩ = some v := by rw [cell_of_row _ _ _ _ _ _ HK.out.head]; rfl
      have hmax : k + 1 ≤ maxLen := by unfold maxLen; omega
      have hby : (k + 1) * 1 ≤ 140737488355328 := by omega
      have HOWN := hid (HK.out.own.alloc (.cells #[.bool (decide (k < f))] 4))
      have hbase : M + 1 ≤ wr.heap.size := HK.out.lt
      go_wp2_with (at_builtin; refine wpList_append_own _ rfl _ _ 51 rfl (M + 1) 4 i0 (.bool false) 1 1 Try.underlying51 hi0 hz0 hz1 hz2 rfl (by decide) _ _ _ rfl HOWN.out ⟨wr.heap.size, 0, none⟩ 1 1 [.bool (decide (k < f))] (by rfl) rfl ?c1 ?c2 ?c3 ?c4 ?c5 ?_)
      case c1 => exact World.news_of_block (cs := #[.bool (decide (k < f))]) (t := 4) (fr := (0, 0)) (heap_alloc_new wr _)
      case c2 => simp [Value.oneCell']
      case c3 => exact hmax
      case c4 => exact hby
      case c5 => simp; omega
      intro v' w2 hown hgrow hiff
      have hP2 : Part w (wr.alloc (.cells #[.bool (decide (k < f))] 4)) M v n f k := ⟨by rw [Below.heap_alloc wr _ _ HK.out.lt]; exact HK.out.head, HOWN.out, HK.out.below.alloc (by omega) _⟩
      have cM : w2.heap[M]? = some (.cells #[v] 53 (0, 0)) := by rw [hgrow.block _ hP2.lt hP2.ne]; exact hP2.head
      have HP3 := hid (hP2.more hgrow (by rw [← front_take n f k hlt]; exact hown))
      have c3 : w2.frozen? ⟨M, 0, none⟩ = false := frozen_of_row _ _ _ _ _ cM
      have c4 : w2.cell? ⟨M, 0, none⟩ = some v := by rw [cell_of_row _ _ _ _ _ _ cM]; rfl
      obtain ⟨g, cap, rfl⟩ : ∃ g cap, v' = .slice (some ⟨g, 0, none⟩) (k + 1) cap := by
        rcases hown.2 with ⟨_, h0⟩ | ⟨g, cap, _, h, _⟩
        · omega
        · exact ⟨g, cap, h⟩
      clear hown hgrow hiff hP2 cM c1 HOWN HK
      go_wp2_with fail
      go_roundw
      case rel => exact ⟨k + 1, _, by omega, by go_num, HP3.out⟩
      case measure => simp [intOf]; omega
    · obtain rfl : k = n := by omega
      obtain ⟨g, cap, cur, rfl, h3, h4, h5, h6, h7, h8⟩ : ∃ g cap cur, v = .slice (some ⟨g, 0, none⟩) k cap ∧ M + 1 ≤ g ∧ wr.heap[g]? = some (.cells cur 4 (0, 0)) ∧ k ≤ cap ∧ cap ≤ maxLen ∧ cur.size = cap * 1 ∧ cur.toList.take (k * 1) = bv ((frontB k f).take k) := by
        rcases HK.out.own.2 with ⟨_, h0⟩ | h
        · have := H1.out.1; omega
        · exact h
      have hlen := frontB_length k f
      have HR : Hid (Rf wr ⟨M, g, cap⟩ (frontB k f)) := hid (by
        refine ⟨by rw [hlen]; exact HK.out.head, ⟨cur, h4, by rw [h7]; exact Nat.mul_one _, by rw [hlen]; exact h5, ?_⟩, by show M ≠ g; omega, by rw [hlen]; exact H1.out.1, by rw [hlen]; exact h2⟩
        have e : (frontB k f).take k = frontB k f := List.take_of_length_le (by rw [hlen]; exact Nat.le_refl _)
        rw [e, Nat.mul_one] at h8
        rw [hlen]; exact h8)
      have HB := hid HK.out.below
      have HG : Hid (M ≤ g) := hid (by omega)
      clear h3 h4 h5 h6 h7 h8 hlen
      go_wp2_with fail
      go_ret2
      exact ⟨⟨M, g, cap⟩, rfl, HR.out, by rw [HM.out]; exact HB.out, by rw [HM.out]; exact Nat.le_refl _, by rw [HM.out]; exact HG.out⟩
end Go.Proofs.Ytefnofipcjjfpaa.Fr
