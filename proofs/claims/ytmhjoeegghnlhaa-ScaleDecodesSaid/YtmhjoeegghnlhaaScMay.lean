/- Whether the numbers of a coordinate may be; all of them. -/
import Derived.Test.YtmhjoeegghnlhaaScEncode
namespace Go.Proofs.Ytmhjoeegghnlhaa.Sc
open Go.RowKit
open Go.Lib (hid)
open Go.Proofs.Ytmhjoeegghnlhaa.Ky Go.Proofs.Ytmhjoeegghnlhaa.Bk
open Go.Proofs.Ytmhjoeegghnlhaa

set_option maxRecDepth 100000 in
set_option maxHeartbeats 1000000 in
theorem allMay_ok (n : Nat) (p : Nat → Bool) (x : Value) (w : World) (hn : n ≤ 1000000)
    (hf : ∀ (V : World) (i : Nat), Below w.heap.size w V → i < n → Calls Try.prog 75 #[.int .i64 (i : Int), x] V fun e w' => e = .returned (.bool (p i)) ∧ Below V.heap.size V w') :
    Calls Try.prog 48 #[.int .i64 (n : Int), .func (.func 75) #[] #[x]] w fun e w' => e = .returned (.bool ((List.range n).all p)) ∧ Below w.heap.size w w' := by
  have HF := hid hf; clear hf
  go_enter Try.func48, Try.ntmps48
  go_wp2_with fail
  go_loopw [7] (fun s7 wr => ∃ i : Nat, s7 = .int .i64 i ∧ i ≤ n ∧ Below w.heap.size w wr ∧ Hid (∀ t, t < i → p t = true)) (fun s7 _ => n - (intOf s7).toNat)
  case atStart => exact ⟨0, rfl, by omega, Below.refl _ _, hid fun t h => absurd h (by omega)⟩
  case round =>
    obtain ⟨i, rfl, hi, hb, I⟩ := hrel
    have HB := hid hb; clear hb
    by_cases hlt : i < n
    · have HC := hid (HF.out wr i HB.out hlt)
      have e1 : decide ((i : Int) < (n : Int)) = true := by simpa using hlt
      have e1' : decide (i < n) = true := by simpa using hlt
      have s1 : IntKind.i64.wrap ((i : Int) + 1) = ((i + 1 : Nat) : Int) := Go.IntWalk.i64_in _ (by omega)
      have HI := hid hlt
      clear hi hlt
      cases hp : p i with
      | false =>
        rw [hp] at HC
        have HN := hid (show (List.range n).all p = false by rw [List.all_eq_false]; exact ⟨i, List.mem_range.2 HI.out, by rw [hp]; simp⟩)
        clear hp I
        go_wp2_with (go_at_call 75; refine HC.out.mono ?_; rintro e w' ⟨rfl, hw'⟩; have HW2 := hid (HB.out.trans (hw'.mono HB.out.size)); clear hw')
        go_ret
        exact ⟨by rw [HN.out]; rfl, HW2.out⟩
      | true =>
        rw [hp] at HC
        have HN : Hid (∀ t, t < i + 1 → p t = true) := hid fun t ht => by
          rcases Nat.lt_or_ge t i with h | h
          · exact I.out t h
          · obtain rfl : t = i := by omega
            exact hp
        clear hp I
        go_wp2_with (go_at_call 75; refine HC.out.mono ?_; rintro e w' ⟨rfl, hw'⟩; have HW2 := hid (HB.out.trans (hw'.mono HB.out.size)); clear hw')
        go_roundw
        case rel => exact ⟨i + 1, rfl, HI.out, HW2.out, HN⟩
        case measure => simp [intOf]; have := HI.out; omega
    · obtain rfl : i = n := by omega
      have HN := hid (show (List.range i).all p = true by rw [List.all_eq_true]; exact fun t ht => I.out t (List.mem_range.1 ht))
      have e1 : decide ((i : Int) < (i : Int)) = false := by simp
      clear I hlt hi
      go_wp2_with fail
      go_ret
      exact ⟨by rw [HN.out]; rfl, HB.out⟩
set_option maxRecDepth 100000 in
set_option maxHeartbeats 1000000 in
theorem allDec_ok (n : Nat) (p : Nat → Bool) (x : Value) (w : World) (hn : n ≤ 1000000)
    (hf : ∀ (V : World) (i : Nat), Below w.heap.size w V → i < n → Calls Try.prog 56 #[.int .i64 (i : Int), x] V fun e w' => e = .returned (.bool (p i)) ∧ Below V.heap.size V w') :
    Calls Try.prog 48 #[.int .i64 (n : Int), .func (.func 56) #[] #[x]] w fun e w' => e = .returned (.bool ((List.range n).all p)) ∧ Below w.heap.size w w' := by
  have HF := hid hf; clear hf
  go_enter Try.func48, Try.ntmps48
  go_wp2_with fail
  go_loopw [7] (fun s7 wr => ∃ i : Nat, s7 = .int .i64 i ∧ i ≤ n ∧ Below w.heap.size w wr ∧ Hid (∀ t, t < i → p t = true)) (fun s7 _ => n - (intOf s7).toNat)
  case atStart => exact ⟨0, rfl, by omega, Below.refl _ _, hid fun t h => absurd h (by omega)⟩
  case round =>
    obtain ⟨i, rfl, hi, hb, I⟩ := hrel
    have HB := hid hb; clear hb
    by_cases hlt : i < n
    · have HC := hid (HF.out wr i HB.out hlt)
      have e1 : decide ((i : Int) < (n : Int)) = true := by simpa using hlt
      have e1' : decide (i < n) = true := by simpa using hlt
      have s1 : IntKind.i64.wrap ((i : Int) + 1) = ((i + 1 : Nat) : Int) := Go.IntWalk.i64_in _ (by omega)
      have HI := hid hlt
      clear hi hlt
      cases hp : p i with
      | false =>
        rw [hp] at HC
        have HN := hid (show (List.range n).all p = false by rw [List.all_eq_false]; exact ⟨i, List.mem_range.2 HI.out, by rw [hp]; simp⟩)
        clear hp I
        go_wp2_with (go_at_call 56; refine HC.out.mono ?_; rintro e w' ⟨rfl, hw'⟩; have HW2 := hid (HB.out.trans (hw'.mono HB.out.size)); clear hw')
        go_ret
        exact ⟨by rw [HN.out]; rfl, HW2.out⟩
      | true =>
        rw [hp] at HC
        have HN : Hid (∀ t, t < i + 1 → p t = true) := hid fun t ht => by
          rcases Nat.lt_or_ge t i with h | h
          · exact I.out t h
          · obtain rfl : t = i := by omega
            exact hp
        clear hp I
        go_wp2_with (go_at_call 56; refine HC.out.mono ?_; rintro e w' ⟨rfl, hw'⟩; have HW2 := hid (HB.out.trans (hw'.mono HB.out.size)); clear hw')
        go_roundw
        case rel => exact ⟨i + 1, rfl, HI.out, HW2.out, HN⟩
        case measure => simp [intOf]; have := HI.out; omega
    · obtain rfl : i = n := by omega
      have HN := hid (show (List.range i).all p = true by rw [List.all_eq_true]; exact fun t ht => I.out t (List.mem_range.1 ht))
      have e1 : decide ((i : Int) < (i : Int)) = false := by simp
      clear I hlt hi
      go_wp2_with fail
      go_ret
      exact ⟨by rw [HN.out]; rfl, HB.out⟩

def mayI (l : List Nat) (i : Nat) : Bool := decide (0 < l.getD i 0) && (decide (i = 0) || decide (l.getD (i - 1) 0 < l.getD i 0))
def mayL (l : List Nat) : Bool := decide (l.length ≤ 63) && (List.range l.length).all (mayI l)
theorem mayL_iff (l : List Nat) : mayL l = true ↔ up l ∧ (∀ x ∈ l, 0 < x) ∧ l.length ≤ 63 := by
  have hg : ∀ j, (hj : j < l.length) → l.getD j 0 = l[j] := fun j hj => by rw [List.getD_eq_getElem?_getD, List.getElem?_eq_getElem hj]; rfl
  unfold mayL
  rw [Bool.and_eq_true, decide_eq_true_eq, List.all_eq_true]
  constructor
  · rintro ⟨h1, h2⟩
    have h3 : ∀ i, (hi : i < l.length) → 0 < l[i] ∧ (i = 0 ∨ l.getD (i - 1) 0 < l[i]) := fun i hi => by
      have := h2 i (List.mem_range.2 hi)
      unfold mayI at this
      rw [hg i hi] at this
      simpa using this
    refine ⟨?_, ?_, h1⟩
    · unfold up
      rw [List.pairwise_iff_getElem]
      intro i j hi hj hij
      induction j with
      | zero => omega
      | succ k ih =>
        have h4 := (h3 (k + 1) hj).2
        rw [Nat.add_sub_cancel, hg k (by omega)] at h4
        rcases Nat.lt_or_ge i k with h | h
        · have := ih (by omega) h; omega
        · obtain rfl : i = k := by omega
          omega
    · intro x hx
      obtain ⟨i, hi, rfl⟩ := List.getElem_of_mem hx
      exact (h3 i hi).1
  · rintro ⟨h1, h2, h3⟩
    refine ⟨h3, fun i hi => ?_⟩
    have hi := List.mem_range.1 hi
    unfold mayI
    rw [hg i hi]
    have h4 := h2 _ (List.getElem_mem hi)
    by_cases h0 : i = 0
    · simp [h0] at h4 ⊢; exact h4
    · have h5 := List.pairwise_iff_getElem.1 h1 (i - 1) i (by omega) hi (by omega)
      rw [hg (i - 1) (by omega)]
      simp [h4, h5]
set_option maxRecDepth 100000 in
set_option maxHeartbeats 2000000 in
theorem mayI_ok (l : List Nat) (p : Option Addr) (c g n i : Nat) (w : World) (hp : Pt w p l) (hn : l.length = n) (hi : i < n) (h63 : n ≤ 63) (hg : w.cell? ⟨g, 0, none⟩ = some (.slice p n c)) :
    Calls Try.prog 75 #[.int .i64 (i : Int), .pointer (some ⟨g, 0, none⟩)] w fun e w' => e = .returned (.bool (mayI l i)) ∧ Below w.heap.size w w' := by
  have DB := hid fun m => below_drewN (Below.refl w.heap.size w) m
  obtain ⟨b, o, rfl, hb, hcs⟩ := pt_base hp (by omega)
  have d1 := hcs i (by omega)
  have z1 : (0 : Int) ≤ (i : Int) := by omega
  have z2 : (i : Int) < (n : Int) := by omega
  have e1 : l.getD i 0 = l[i] := by rw [List.getD_eq_getElem?_getD, List.getElem?_eq_getElem (by omega)]; rfl
  have hfi := hp.fit i (by omega)
  by_cases h0 : i = 0
  · have HR := hid (show mayI l i = (decide (0 < l[i]) && true) by unfold mayI; rw [e1]; simp [h0])
    rw [HR.out]
    subst h0
    generalize l[0] = x at d1 hfi ⊢
    clear hcs hp hfi e1 HR z1
    rw [Nat.add_zero] at d1
    rw [show ((0 : Nat) : Int) = 0 from rfl] at z2 ⊢
    have z1 : (0 : Int) ≤ 0 := by omega
    have z3 : 0 < n := by omega
    by_cases t1 : 0 < x
    · have k1 : decide ((0 : Int) < (x : Int)) = true := by simpa using t1
      have k2 : decide (0 < x) = true := by simpa using t1
      rw [k2]
      clear t1
      go_enter Try.func75, Try.ntmps75
      go_wp2_with fail
      go_quiet (fail)
      go_wp2_with fail
      go_ret
      exact ⟨rfl, DB.out _⟩
    · have k1 : decide ((0 : Int) < (x : Int)) = false := by simpa using t1
      have k2 : decide (0 < x) = false := by simpa using t1
      rw [k2]
      clear t1
      go_enter Try.func75, Try.ntmps75
      go_wp2_with fail
      go_quiet (fail)
      go_wp2_with fail
      go_ret
      exact ⟨rfl, DB.out _⟩
  · obtain ⟨j, rfl⟩ : ∃ j, i = j + 1 := ⟨i - 1, by omega⟩
    have d2 := hcs j (by omega)
    have e2 : l.getD j 0 = l[j] := by rw [List.getD_eq_getElem?_getD, List.getElem?_eq_getElem (by omega)]; rfl
    have HR := hid (show mayI l (j + 1) = (decide (0 < l[j + 1]) && decide (l[j] < l[j + 1])) by unfold mayI; rw [e1, Nat.add_sub_cancel, e2]; simp)
    rw [HR.out]
    clear e1 e2 HR hfi hcs
    generalize l[j + 1] = x at d1 ⊢
    generalize l[j] = y at d2 ⊢
    obtain ⟨q, hq⟩ : ∃ q, j + 1 = q := ⟨_, rfl⟩
    rw [hq] at d1 z1 z2 ⊢
    have s1 : IntKind.i64.wrap ((q : Int) - 1) = (j : Int) := by rw [Go.IntWalk.i64_in _ (by omega)]; omega
    have k0 : ((q : Int) == 0) = false := by rw [beq_eq_false_iff_ne]; omega
    have z3 : (j : Int) < (n : Int) := by omega
    clear hp hi h0 hq
    by_cases t1 : 0 < x
    · have k1 : decide ((0 : Int) < (x : Int)) = true := by simpa using t1
      have k2 : decide (0 < x) = true := by simpa using t1
      rw [k2]
      clear t1
      by_cases t2 : y < x
      · have k3 : decide ((y : Int) < (x : Int)) = true := by simpa using t2
        have k4 : decide (y < x) = true := by simpa using t2
        rw [k4]
        clear t2
        go_enter Try.func75, Try.ntmps75
        go_wp2_with fail
        go_quiet (fail)
        go_wp2_with fail
        go_ret
        exact ⟨rfl, DB.out _⟩
      · have k3 : decide ((y : Int) < (x : Int)) = false := by simpa using t2
        have k4 : decide (y < x) = false := by simpa using t2
        rw [k4]
        clear t2
        go_enter Try.func75, Try.ntmps75
        go_wp2_with fail
        go_quiet (fail)
        go_wp2_with fail
        go_ret
        exact ⟨rfl, DB.out _⟩
    · have k1 : decide ((0 : Int) < (x : Int)) = false := by simpa using t1
      have k2 : decide (0 < x) = false := by simpa using t1
      rw [k2]
      clear t1
      go_enter Try.func75, Try.ntmps75
      go_wp2_with fail
      go_quiet (fail)
      go_wp2_with fail
      go_ret
      exact ⟨rfl, DB.out _⟩
end Go.Proofs.Ytmhjoeegghnlhaa.Sc
