/- BinarySearch in rising numbers; Insert and Remove of a scale. -/
import Derived.Test.YtmhjoeegghnlhaaScBase
namespace Go.Proofs.Ytmhjoeegghnlhaa.Sc
open Go.RowKit
open Go.Lib (hid)
open Go.Proofs.Ytmhjoeegghnlhaa.Ky Go.Proofs.Ytmhjoeegghnlhaa.Bk

/-- numbers that rise -/
def up (l : List Nat) : Prop := l.Pairwise (· < ·)
/-- how many of them are below a number -/
def posU (l : List Nat) (t : Nat) : Nat := (l.takeWhile fun x => decide (x < t)).length
theorem posU_le (l : List Nat) (t : Nat) : posU l t ≤ l.length := (List.takeWhile_prefix _).length_le
theorem posU_of {l : List Nat} {t r : Nat} (hr : r ≤ l.length) (h1 : ∀ j, (hj : j < l.length) → j < r → l[j] < t) (h2 : ∀ j, (hj : j < l.length) → r ≤ j → t ≤ l[j]) : posU l t = r := by
  unfold posU
  have e : l.takeWhile (fun x => decide (x < t)) = l.take r := by
    conv => lhs; rw [← List.take_append_drop r l]
    rw [List.takeWhile_append_of_pos (fun x hx => by
      obtain ⟨j, hj, rfl⟩ := List.getElem_of_mem hx
      rw [List.length_take] at hj
      rw [List.getElem_take]
      exact decide_eq_true (h1 j (by omega) (by omega)))]
    have : (l.drop r).takeWhile (fun x => decide (x < t)) = [] := by
      cases hd : l.drop r with
      | nil => rfl
      | cons y ys =>
        have hlt : r < l.length := by
          rcases Nat.lt_or_ge r l.length with h | h
          · exact h
          · rw [List.drop_eq_nil_of_le h] at hd; cases hd
        rw [List.drop_eq_getElem_cons hlt] at hd
        injection hd with e1 e2
        have := h2 r hlt (Nat.le_refl _)
        rw [List.takeWhile_cons_of_neg (by rw [← e1]; simpa using this)]
    rw [this, List.append_nil]
  rw [e, List.length_take]; omega
theorem up_lt {l : List Nat} (h : up l) {i j : Nat} (hi : i < l.length) (hj : j < l.length) (hij : i < j) : l[i] < l[j] := List.pairwise_iff_getElem.1 h i j hi hj hij
theorem posU_lo {l : List Nat} (h : up l) {t j : Nat} (hj : j < l.length) : j < posU l t ↔ l[j] < t := by
  induction l generalizing j with
  | nil => simp at hj
  | cons a l ih =>
    unfold posU
    by_cases ha : a < t
    · rw [List.takeWhile_cons_of_pos (by simpa using ha)]
      cases j with
      | zero => simp [ha]
      | succ j =>
        have hj' : j < l.length := by simpa using hj
        have := ih (List.pairwise_cons.1 h).2 hj'
        unfold posU at this
        simp only [List.length_cons, List.getElem_cons_succ]
        omega
    · rw [List.takeWhile_cons_of_neg (by simpa using ha)]
      have hle : a ≤ (a :: l)[j] := by
        cases j with
        | zero => exact Nat.le_refl _
        | succ j =>
          have hj' : j < l.length := by simpa using hj
          have := (List.pairwise_cons.1 h).1 _ (List.getElem_mem hj')
          simp only [List.getElem_cons_succ]; omega
      simp only [List.length_nil]
      omega
/-- is a number one of them? -/
def isU (l : List Nat) (t : Nat) : Bool := decide (l[posU l t]? = some t)
set_option maxHeartbeats 400000 in
theorem less_ok (a b : Nat) (w : World) : Calls Try.prog 59 #[.int .u32 (a : Int), .int .u32 (b : Int)] w fun e w' => e = .returned (.bool (decide (a < b))) ∧ w = w' := by
  have HN := hid fun (x : Nat) (V : World) => (show Calls Try.prog 76 #[.int .u32 (x : Int)] V fun e w' => e = .returned (.bool false) ∧ V = w' from by
    have e : ((x : Int) != (x : Int)) = false := by simp
    go_enter Try.func76, Try.ntmps76
    go_wp2_with fail
    go_ret
    exact ⟨rfl, rfl⟩)
  go_enter Try.func59, Try.ntmps59
  go_wp2_with (go_at_call 76; refine (HN.out _ _).mono ?_; rintro e w' ⟨rfl, rfl⟩)
  go_ret
  exact ⟨rfl, rfl⟩
set_option maxHeartbeats 400000 in
theorem nan_ok (x : Nat) (V : World) : Calls Try.prog 60 #[.int .u32 (x : Int)] V fun e w' => e = .returned (.bool false) ∧ V = w' := by
  have e : ((x : Int) != (x : Int)) = false := by simp
  go_enter Try.func60, Try.ntmps60
  go_wp2_with fail
  go_ret
  exact ⟨rfl, rfl⟩
set_option maxRecDepth 100000 in
set_option maxHeartbeats 2000000 in
theorem bin_ok (l : List Nat) (t : Nat) (p : Option Addr) (c : Nat) (w : World) (hp : Pt w p l) (hu : up l) (hl : l.length ≤ 1000000) :
    Calls Try.prog 40 #[.slice p l.length c, .int .u32 (t : Int)] w fun e w' => e = .returned (.tuple #[.int .i64 (posU l t : Nat), .bool (isU l t)]) ∧ ∃ m, w' = w.drewN m := by
  have HP := hid hp.cells; have HU := hid hu; have HL := hid hl
  have HLE := hid fun (x : Nat) (V : World) => less_ok x t V
  have HNN := hid fun (x : Nat) (V : World) => nan_ok x V
  clear hp hu hl
  go_enter Try.func40, Try.ntmps40
  go_wp2_with fail
  go_loopw [7, 8] (fun s7 s8 wr => ∃ lo hi q : Nat, s7 = .int .i64 lo ∧ s8 = .int .i64 hi ∧ lo ≤ hi ∧ hi ≤ l.length ∧ wr = w.drewN q ∧ Hid ((∀ j, (h : j < l.length) → j < lo → l[j] < t) ∧ ∀ j, (h : j < l.length) → hi ≤ j → t ≤ l[j])) (fun s7 s8 _ => (intOf s8).toNat - (intOf s7).toNat)
  case atStart => exact ⟨0, l.length, 0, rfl, rfl, by omega, by omega, rfl, hid ⟨fun t h h' => absurd h' (by omega), fun t h h' => absurd h (by omega)⟩⟩
  case round =>
    obtain ⟨lo, hi, q, rfl, rfl, hlh, hin, rfl, I⟩ := hrel
    have hll := HL.out
    by_cases hlt : lo < hi
    · obtain ⟨m, hm⟩ : ∃ m, (lo + hi) / 2 = m := ⟨_, rfl⟩
      have hml : m < l.length := by omega
      have hmZ : ((lo : Int) + (hi : Int)) / 2 = (m : Int) := by omega
      obtain ⟨b0, o0, rfl, _, c0⟩ := HP.out m hml
      have d0 : (w.drewN q).cell? ⟨b0, o0 + m, none⟩ = some (.int .u32 (l[m] : Int)) := c0
      have HC := hid (HLE.out l[m] (w.drewN q))
      by_cases hp : l[m] < t
      · rw [decide_eq_true hp] at HC
        have HN : Hid ((∀ j, (h : j < l.length) → j < m + 1 → l[j] < t) ∧ ∀ j, (h : j < l.length) → hi ≤ j → t ≤ l[j]) := hid ⟨fun j hj hj2 => by
          rcases Nat.lt_or_ge j m with h | h
          · have := up_lt HU.out hj hml h; omega
          · obtain rfl : j = m := by omega
            exact hp, I.out.2⟩
        generalize l[m] = y at d0 HC
        have HM := hid (show m + 1 ≤ hi by omega)
        have HM2 := hid (show lo ≤ m by omega)
        clear hp I c0 hm
        go_wp2_with fail
        refine HC.out.mono ?_
        rintro e w' ⟨rfl, rfl⟩
        go_wp2_with fail
        go_roundw
        case rel => exact ⟨m + 1, hi, q, by go_num, rfl, HM.out, hin, rfl, HN⟩
        case measure => simp [intOf]; have := HM2.out; omega
      · rw [decide_eq_false hp] at HC
        have HN : Hid ((∀ j, (h : j < l.length) → j < lo → l[j] < t) ∧ ∀ j, (h : j < l.length) → m ≤ j → t ≤ l[j]) := hid ⟨I.out.1, fun j hj hj2 => by
          rcases Nat.lt_or_ge m j with h | h
          · have := up_lt HU.out hml hj h; omega
          · obtain rfl : j = m := by omega
            omega⟩
        generalize l[m] = y at d0 HC
        have HM := hid (show lo ≤ m ∧ m < hi by omega)
        clear hp I c0 hm
        go_wp2_with fail
        refine HC.out.mono ?_
        rintro e w' ⟨rfl, rfl⟩
        go_wp2_with fail
        go_roundw
        case rel => exact ⟨lo, m, q, rfl, by go_num, HM.out.1, by have := HM.out.2; omega, rfl, HN⟩
        case measure => simp [intOf]; have := HM.out; omega
    · obtain rfl : hi = lo := by omega
      have HR := hid (posU_of hin I.out.1 I.out.2)
      by_cases hil : hi < l.length
      · obtain ⟨b0, o0, rfl, _, c0⟩ := HP.out hi hil
        have d0 : (w.drewN q).cell? ⟨b0, o0 + hi, none⟩ = some (.int .u32 (l[hi] : Int)) := c0
        by_cases hq : l[hi] = t
        · have HI := hid (show isU l t = true by unfold isU; rw [HR.out, List.getElem?_eq_getElem hil, hq]; simp)
          rw [hq] at d0
          clear I c0 hq
          go_wp2_with fail
          go_ret2
          exact ⟨by rw [HI.out, HR.out]; rfl, q, rfl⟩
        · have HI := hid (show isU l t = false by unfold isU; rw [HR.out, List.getElem?_eq_getElem hil]; simpa using hq)
          have HC := hid (HNN.out l[hi] (w.drewN q))
          have e1 : ((l[hi] : Int) == (t : Int)) = false := by rw [beq_eq_false_iff_ne]; omega
          generalize l[hi] = y at d0 HC e1
          clear I c0 hq
          go_wp2_with fail
          refine HC.out.mono ?_
          rintro e w' ⟨rfl, rfl⟩
          go_wp2_with fail
          go_ret2
          exact ⟨by rw [HI.out, HR.out]; rfl, q, rfl⟩
      · have HI := hid (show isU l t = false by unfold isU; rw [HR.out, List.getElem?_eq_none (by omega)]; simp)
        have e1 : decide ((hi : Int) < (l.length : Int)) = false := by simp; omega
        have e1' : decide (hi < l.length) = false := by simpa using hil
        clear I
        go_wp2_with fail
        go_ret2
        exact ⟨by rw [HI.out, HR.out]; rfl, q, rfl⟩
end Go.Proofs.Ytmhjoeegghnlhaa.Sc
