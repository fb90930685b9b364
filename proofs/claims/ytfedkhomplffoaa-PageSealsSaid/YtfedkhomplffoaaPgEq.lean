/- Equality of two pages, as the program asks it; Open's contract as one. -/
import Derived.Test.YtfedkhomplffoaaPgOpen
import Derived.Test.YtfedkhomplffoaaPgTorn
namespace Go.Proofs.Ytfedkhomplffoaa.Pg
open Go.RowKit
open Go.Lib (hid)
open Go.Proofs.Ytfedkhomplffoaa.Fd (num getAt)

/-- are two pages the same? -/
def pageB (a b a' b' : Int) (c c' : ByteArray) : Bool := a == a' && (b == b' && c.toList == c'.toList)
theorem page_yes {a b a' b' : Int} {c c' : ByteArray} (h1 : a = a') (h2 : b = b') (h3 : c.data.toList = c'.data.toList) : pageB a b a' b' c c' = true := by
  subst h1 h2; unfold pageB; rw [ByteArray.toList_eq, ByteArray.toList_eq, h3]; simp
theorem page_of {a b a' b' : Int} {c c' : ByteArray} (h : pageB a b a' b' c c' = true) : a = a' ∧ b = b' ∧ c.data.toList = c'.data.toList := by
  unfold pageB at h; rw [ByteArray.toList_eq, ByteArray.toList_eq] at h; simpa using h
theorem eq23 (a b a' b' : Int) (c c' : ByteArray) (w : World) :
    (binOp .eql 23 (.agg #[.int .i64 a, .int .i64 b, .string c]) (.agg #[.int .i64 a', .int .i64 b', .string c'])).run Try.prog w = .ok (.bool (pageB a b a' b' c c')) w := by
  have ht : Try.prog.underlying 23 = some (.struct (Try.prog.fieldsOf 23)) := by kernel_rfl
  have hp : Try.prog.stoodInHeld 23 = false := by kernel_rfl
  rw [run_eql_struct, show (10000 : Nat) = 9999 + 1 from rfl, run_equalIn_struct _ _ _ _ _ ht hp]
  simp only [Program.fieldsOf, Try.underlying23]
  unfold pageB
  by_cases h1 : a = a'
  · by_cases h2 : b = b'
    · by_cases h3 : c.toList = c'.toList <;> simp [Op.eqFields, go_sem, h1, h2, h3]
    · simp [Op.eqFields, go_sem, h1, h2]
  · simp [Op.eqFields, go_sem, h1]
theorem ne23 (a b a' b' : Int) (c c' : ByteArray) (w : World) :
    (binOp .neq 23 (.agg #[.int .i64 a, .int .i64 b, .string c]) (.agg #[.int .i64 a', .int .i64 b', .string c'])).run Try.prog w = .ok (.bool (!pageB a b a' b' c c')) w := by
  have h := eq23 a b a' b' c c' w
  rw [run_eql_struct] at h
  rw [run_neq_struct]
  generalize (Op.equalIn 10000 23 (.agg #[.int .i64 a, .int .i64 b, .string c]) (.agg #[.int .i64 a', .int .i64 b', .string c'])).run Try.prog w = r at h ⊢
  cases r with
  | ok x w' => simp [Result.andThen] at h ⊢; exact ⟨by rw [h.1], h.2⟩
  | halt x w' => simp [Result.andThen] at h

/-- Open's answer -/
theorem open_at {k n e : Nat} {b : List UInt8} (s : ByteArray) (w : World) (h : openL s.data.toList = (k, n, b, e)) :
    Calls Try.prog 16 #[.string s] w fun r w' => r = .returned (.tuple #[.agg #[.int .i64 (k : Int), .int .i64 (n : Int), .string ⟨b.toArray⟩], .int .i64 (e : Int)]) ∧ Below w.heap.size w w' := by
  have hsl : s.data.toList.length = s.size := by simp
  by_cases h1 : s.size = 256
  · by_cases h2 : s.data.toList = blankL
    · have : openL s.data.toList = (0, 0, [], 0) := by unfold openL; rw [if_neg (by omega), if_pos h2]
      rw [this] at h; simp only [Prod.mk.injEq] at h; obtain ⟨rfl, rfl, rfl, rfl⟩ := h
      exact open_blank s w h1 h2
    · by_cases h3 : lowL (sumN (s.data.toList.take 252)) = s.data.toList.drop 252
      · have hr := open_rest s w h1 h2 h3 _ _ _ _ _ _ _ rfl rfl rfl rfl rfl rfl rfl
        rw [openL_form _ (by omega) h2 h3] at h
        by_cases h4 : sealX (num (getAt s.data.toList 0 1)) (num (getAt s.data.toList 4 4)) (bodyL s.data.toList (num (getAt s.data.toList 2 2))) = s.data.toList
        · rw [if_pos h4] at h hr; simp only [Prod.mk.injEq] at h; obtain ⟨rfl, rfl, rfl, rfl⟩ := h
          exact hr
        · rw [if_neg h4] at h hr; simp only [Prod.mk.injEq] at h; obtain ⟨rfl, rfl, rfl, rfl⟩ := h
          exact hr
      · have : openL s.data.toList = (0, 0, [], 7) := by unfold openL; rw [if_neg (by omega), if_neg h2, if_pos h3]
        rw [this] at h; simp only [Prod.mk.injEq] at h; obtain ⟨rfl, rfl, rfl, rfl⟩ := h
        exact open_sum s w h1 h2 h3
  · have : openL s.data.toList = (0, 0, [], 9) := by unfold openL; rw [if_pos (by omega)]
    rw [this] at h; simp only [Prod.mk.injEq] at h; obtain ⟨rfl, rfl, rfl, rfl⟩ := h
    exact open_cut s w h1
end Go.Proofs.Ytfedkhomplffoaa.Pg
