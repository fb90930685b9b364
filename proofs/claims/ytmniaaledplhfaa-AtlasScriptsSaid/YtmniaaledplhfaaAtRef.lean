/- The reference's atlas in memory; what is read of it. -/
import Derived.Test.YtmniaaledplhfaaAtRSort
import Derived.Deep.DeepCutAuto
namespace Go.Proofs.Ytmniaaledplhfaa.At
open Go.RowKit
open Go.Lib (hid)
open Go.Proofs.Ytmniaaledplhfaa.Ky Go.Proofs.Ytmniaaledplhfaa.Bk Go.Proofs.Ytmniaaledplhfaa.Pt

/-- the reference's atlas at b, whose row is v: records K in the order in which they came -/
structure Ra (N : Nat) (w : World) (X : Nat → Prop) (b : Nat) (v : Value) (d : Int) (K : List Rec) : Prop where
  head : w.heap[b]? = some (.cells #[.int .i64 d, v] 55 (0, 0))
  row : ∃ xs, w.ownsRow N 33 2 v K.length xs ∧ RC (fun k => FT b v k ∨ X k) w xs K
  lo : N ≤ b
  ne : v.ownBlock ≠ some b
  big : bigR K
section
variable {N b : Nat} {w w' : World} {X X' : Nat → Prop} {v : Value} {d : Int} {K : List Rec}
theorem Ra.ltb (h : Ra N w X b v d K) : b < w.heap.size := (Array.getElem?_eq_some_iff.1 h.head).1
theorem Ra.lt (h : Ra N w X b v d K) : ∀ k, FT b v k → k < w.heap.size := by
  rintro k (rfl | hk)
  · exact h.ltb
  · obtain ⟨xs, h1, _⟩ := h.row; exact (h1.lt k hk).2
theorem Ra.ge (h : Ra N w X b v d K) : ∀ k, FT b v k → N ≤ k := by
  rintro k (rfl | hk)
  · exact h.lo
  · obtain ⟨xs, h1, _⟩ := h.row; exact (h1.lt k hk).1
theorem Ra.other {F : Nat → Prop} (h : Ra N w X b v d K) (ho : Onl F w w') (hX : ∀ k, F k → X k) (ha : ∀ k, F k → ¬ FT b v k) : Ra N w' X b v d K := by
  have hb : ∀ k, FT b v k → w'.heap[k]? = w.heap[k]? := fun k hk => ho.block k (h.lt k hk) (fun hf => ha k hf hk)
  obtain ⟨xs, h1, h2⟩ := h.row
  exact ⟨by rw [hb b (.inl rfl)]; exact h.head, ⟨xs, own_keep h1 (fun g hg => hb g (.inr hg)), h2.keep ⟨ho.size, fun k hk hD => ho.block k hk (fun hf => hD (.inr (hX k hf)))⟩⟩, h.lo, h.ne, h.big⟩
theorem Ra.next (h : Ra N w X b v d K) (hb : Below w.heap.size w w') : Ra N w' X b v d K := h.other (F := fun _ => False) ⟨hb.os, hb.tape, hb.output, hb.size, fun k hk _ => hb.block k hk⟩ (fun _ h => h.elim) (fun _ h => h.elim)
theorem Ra.less (h : Ra N w X b v d K) (hX : ∀ k, k < w.heap.size → X' k → FT b v k ∨ X k) : Ra N w X' b v d K := by
  obtain ⟨xs, h1, h2⟩ := h.row
  exact ⟨h.head, ⟨xs, h1, h2.less fun k hk hD => hD.elim .inl (hX k hk)⟩, h.lo, h.ne, h.big⟩
theorem Ra.form (h : Ra N w X b v d K) : ∃ p c, v = .slice p K.length c ∧ K.length ≤ c ∧ c ≤ 9223372036854775807 := by
  obtain ⟨xs, h1, _⟩ := h.row
  rcases h1.2 with ⟨rfl, h0⟩ | ⟨g, cap, cur, rfl, _, _, hc, hm, _⟩
  · exact ⟨none, 0, by rw [h0], by omega, by omega⟩
  · unfold maxLen at hm; exact ⟨_, cap, rfl, hc, by omega⟩
theorem Ra.cells (h : Ra N w X b v d K) : w.cell? ⟨b, 0, none⟩ = some (.int .i64 d) ∧ w.cell? ⟨b, 1, none⟩ = some v ∧ w.frozen? ⟨b, 0, none⟩ = false ∧ w.frozen? ⟨b, 1, none⟩ = false :=
  ⟨by rw [cell_of_row _ _ _ _ _ _ h.head]; rfl, by rw [cell_of_row _ _ _ _ _ _ h.head]; rfl, frozen_of_row _ _ _ _ _ h.head, frozen_of_row _ _ _ _ _ h.head⟩
theorem Ra.rs {p : Option Addr} {c : Nat} (h : Ra N w X b (.slice p K.length c) d K) : Rs (fun _ => False) w p K := by
  obtain ⟨xs, h1, h2⟩ := h.row
  obtain ⟨p', c', e, hr⟩ := Rs.of_row h1 (h2.less (D' := fun _ => False) (fun _ _ h => h.elim)) (fun _ _ h => h)
  cases e
  exact hr
end
set_option maxHeartbeats 400000 in
theorem rnew_ok (d : Int) (w : World) (h : 1 ≤ d ∧ d ≤ 6) :
    Calls Try.prog 5 #[.int .i64 d] w fun e w' => e = .returned (.tuple #[.pointer (some ⟨w.heap.size, 0, none⟩), .int .i64 0]) ∧ w' = w.alloc (.cells #[.int .i64 d, .slice none 0 0] 55 (0, 0)) := by
  have e1 : decide (d < 1) = false := by simp; omega
  have e2 : decide (6 < d) = false := by simp; omega
  clear h
  go_enter Try.func5, Try.ntmps5
  go_wp2_with fail
  go_ret2
  exact ⟨rfl, rfl⟩
theorem ra_new (d : Int) (w : World) (N : Nat) (hN : N ≤ w.heap.size) (X : Nat → Prop) : Ra N (w.alloc (.cells #[.int .i64 d, .slice none 0 0] 55 (0, 0))) X w.heap.size (.slice none 0 0) d [] :=
  ⟨heap_alloc_new _ _, ⟨[], World.ownsRow_nil _ _ _ _, RC.nil⟩, hN, by simp [Value.ownBlock], by unfold bigR; simp⟩
set_option maxHeartbeats 400000 in
theorem rnew_bad (d : Int) (w : World) (h : d < 1 ∨ 6 < d) : Calls Try.prog 5 #[.int .i64 d] w fun e w' => e = .returned (.tuple #[.pointer none, .int .i64 1]) ∧ w = w' := by
  by_cases h1 : d < 1
  · have e1 : decide (d < 1) = true := by simpa using h1
    clear h h1
    go_enter Try.func5, Try.ntmps5
    go_wp2_with fail
    go_ret2
    exact ⟨rfl, rfl⟩
  · have e1 : decide (d < 1) = false := by simpa using h1
    have e2 : decide (6 < d) = true := by simp; omega
    clear h h1
    go_enter Try.func5, Try.ntmps5
    go_wp2_with fail
    go_ret2
    exact ⟨rfl, rfl⟩
/-- what 'find' answers -/
def FndR (K : List Rec) (k : List Nat) (i : Int) : Prop := (∃ j, ∃ h : j < K.length, i = (j : Int) ∧ K[j].1 = k) ∨ (i = -1 ∧ ∀ j, (h : j < K.length) → K[j].1 ≠ k)
theorem sameB_no {l m : List Nat} (h : ¬ l = m) : sameB l m = false := by unfold sameB; simpa using h
theorem sameB_yes {l m : List Nat} (h : l = m) : sameB l m = true := by unfold sameB; simpa using h
set_option maxHeartbeats 4000000 in
theorem rfind_ok {N b : Nat} {X : Nat → Prop} {v : Value} {d : Int} {K : List Rec} (k : List Nat) (q : Option Addr) (c' : Nat) (w : World) (h : Ra N w X b v d K) (hq : Pt w q k) :
    Calls Try.prog 33 #[.pointer (some ⟨b, 0, none⟩), .slice q k.length c'] w fun e w' => ∃ i, e = .returned (.int .i64 i) ∧ FndR K k i ∧ ∃ n, w' = w.drewN n := by
  obtain ⟨p, c, rfl, _, _⟩ := h.form
  have HC := hid fun (n : Nat) => (show (w.drewN n).cell? ⟨b, 1, none⟩ = some (.slice p K.length c) from h.cells.2.1)
  have HR := hid h.rs
  have HQ := hid hq
  have HL := hid h.big
  have hlen := h.big.1
  clear h hq
  go_enter Try.func33, Try.ntmps33
  go_wp2_with fail
  go_loopw [5] (fun i wr => ∃ j : Nat, j ≤ K.length ∧ i = .int .i64 (j : Int) ∧ (∀ t, (ht : t < K.length) → t < j → K[t].1 ≠ k) ∧ ∃ n, wr = w.drewN n) (fun i _ => K.length - (intOf i).toNat)
  case atStart => exact ⟨0, by omega, rfl, fun _ _ h => absurd h (by omega), 0, rfl⟩
  case round =>
    obtain ⟨j, hj, rfl, hno, n, hwr⟩ := hrel
    have HN := hid hno; clear hno
    subst hwr
    have c1 := HC.out n
    by_cases hlt : j < K.length
    · obtain ⟨g, off, q1, c2, rfl, hg, e1, _, hq1⟩ := (HR.out.drewN n).at j hlt
      have hb := (HL.out.2 _ (List.getElem_mem hlt)).1
      have HS := hid (same_ok K[j].1 k q1 q c2 c' (w.drewN n) hq1.pt (HQ.out.drewN n) (by omega))
      clear hq1 hb
      by_cases hs : K[j].1 = k
      · have HF := hid (show FndR K k (j : Int) from .inl ⟨j, hlt, rfl, hs⟩)
        rw [sameB_yes hs] at HS
        clear hs
        generalize K[j].1 = x at HS e1
        go_wp2_with (go_at_call 40; refine HS.out.mono ?_; rintro e w2 ⟨rfl, m, hm⟩; have HM := hid (show w2 = w.drewN (n + m) by rw [hm]; exact World.drewN_drewN _ _ _); clear hm)
        go_ret
        exact ⟨_, rfl, HF.out, _, HM.out⟩
      · have HF := hid (show ∀ t, (ht : t < K.length) → t < j + 1 → K[t].1 ≠ k from fun t ht h => by
          by_cases e : t = j
          · subst e; exact hs
          · exact HN.out t ht (by omega))
        rw [sameB_no hs] at HS
        clear hs
        generalize K[j].1 = x at HS e1
        go_wp2_with (go_at_call 40; refine HS.out.mono ?_; rintro e w2 ⟨rfl, m, hm⟩; have HM := hid (show w2 = w.drewN (n + m) by rw [hm]; exact World.drewN_drewN _ _ _); clear hm)
        go_roundw
        case rel => exact ⟨j + 1, by omega, by go_num, HF.out, _, HM.out⟩
        case measure => simp [intOf]; omega
    · obtain rfl : j = K.length := by omega
      have HF := hid (show FndR K k (-1) from .inr ⟨rfl, fun t ht => HN.out t ht ht⟩)
      clear hlt hj
      go_wp2_with fail
      go_ret
      exact ⟨_, rfl, HF.out, n, rfl⟩
set_option maxHeartbeats 1000000 in
theorem rall_ok {N b : Nat} {X : Nat → Prop} {v : Value} {d : Int} {K : List Rec} (w : World) (h : Ra N w X b v d K) :
    Calls Try.prog 8 #[.pointer (some ⟨b, 0, none⟩)] w fun e w' => ∃ p' c', e = .returned (.slice p' (sortR K).length c') ∧ Rs (Lt w.heap.size) w' p' (sortR K) ∧ Below w.heap.size w w' := by
  obtain ⟨p, c, rfl, _, _⟩ := h.form
  have c1 := h.cells.2.1
  have HR := hid (sorted_ok K p c w h.rs h.big)
  clear h
  go_enter Try.func8, Try.ntmps8
  go_wp2_with (go_at_call 25; refine HR.out.mono ?_; rintro e w6 ⟨p6, c6, rfl, hr, hb⟩; have H6 := hid (And.intro hr hb); clear hr hb)
  go_ret
  exact ⟨p6, c6, rfl, H6.out.1, H6.out.2⟩
/-- what 'Get' answers -/
def GetR (K : List Rec) (k : List Nat) (d : Int) (s : ByteArray) (c : Int) : Prop :=
  (checkB k.length d = false ∧ s = ⟨#[]⟩ ∧ c = 1) ∨ (checkB k.length d = true ∧ (∀ j, (h : j < K.length) → K[j].1 ≠ k) ∧ s = ⟨#[]⟩ ∧ c = 5) ∨ (checkB k.length d = true ∧ ∃ j, ∃ h : j < K.length, K[j] = (k, s) ∧ c = 0)
set_option maxHeartbeats 4000000 in
theorem rget_ok {N b : Nat} {X : Nat → Prop} {v : Value} {d : Int} {K : List Rec} (k : List Nat) (q : Option Addr) (c' : Nat) (w : World) (h : Ra N w X b v d K) (hq : Pt w q k) :
    Calls Try.prog 17 #[.pointer (some ⟨b, 0, none⟩), .slice q k.length c'] w fun e w' => ∃ s c, e = .returned (.tuple #[.string s, .int .i64 c]) ∧ GetR K k d s c ∧ ∃ n, w' = w.drewN n := by
  have HF := hid (rfind_ok k q c' w h hq)
  obtain ⟨p, c, rfl, _, _⟩ := h.form
  have HC := hid fun (n : Nat) => (show (w.drewN n).cell? ⟨b, 1, none⟩ = some (.slice p K.length c) from h.cells.2.1)
  have c0 := h.cells.1
  have HR := hid h.rs
  have hlen := h.big.1
  have HK := hid (refCheck_ok q k.length c' d w)
  clear h hq
  cases hb : checkB k.length d with
  | false =>
    rw [hb] at HK
    have HG := hid (show GetR K k d ⟨#[]⟩ 1 from .inl ⟨hb, rfl, rfl⟩)
    clear hb
    go_enter Try.func17, Try.ntmps17
    rw [err_false false rfl] at HK
    go_wp2_with (go_at_call 28; refine HK.out.mono ?_; rintro e w2 ⟨rfl, rfl⟩)
    go_ret2
    exact ⟨_, _, rfl, HG.out, 0, rfl⟩
  | true =>
    rw [hb, err_true true rfl] at HK
    have HB := hid hb
    clear hb
    go_enter Try.func17, Try.ntmps17
    go_upto_region 3 with (go_at_call 28; refine HK.out.mono ?_; rintro e w2 ⟨rfl, rfl⟩)
    go_wp2_with fail
    refine HF.out.mono ?_
    rintro e w2 ⟨i, rfl, hi, n, rfl⟩
    have c1 := HC.out n
    rcases hi with ⟨j, hj, rfl, hk⟩ | ⟨rfl, hno⟩
    · have HG := hid (show GetR K k d K[j].2 0 from .inr (.inr ⟨HB.out, j, hj, by rw [← hk], rfl⟩))
      obtain ⟨g, off, q1, c2, rfl, hg, _, e2, _⟩ := (HR.out.drewN n).at j hj
      clear hk
      have z1 : (0 : Int) ≤ (j : Int) := by omega
      have z2 : (j : Int) < (K.length : Int) := by omega
      have z3 : decide ((j : Int) < 0) = false := by simp
      generalize K[j].2 = t at HG e2
      go_wp2_with fail
      go_ret2
      exact ⟨_, _, rfl, HG.out, n, rfl⟩
    · have HG := hid (show GetR K k d ⟨#[]⟩ 5 from .inr (.inl ⟨HB.out, hno, rfl, rfl⟩))
      clear hno
      go_wp2_with fail
      go_ret2
      exact ⟨_, _, rfl, HG.out, n, rfl⟩
end Go.Proofs.Ytmniaaledplhfaa.At
