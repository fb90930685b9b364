/- The walk of FieldNil. -/
import Derived.Test.YtkcfkcdmmllpjaaLive
import Derived.Test.YtkcfkcdmmllpjaaOpen
import Derived.Lib.SmallJoins
import Derived.ProofKit
namespace Go.Proofs.Ytkcfkcdmmllpjaa
open Go.RowKit
open Go.Lib
open Go.ChangeShapes Go.WideShapes Go.Joins

set_option maxRecDepth 100000 in
set_option maxHeartbeats 1000000 in
theorem FieldNil_walk (v : Value) (s : ByteArray) (h : ∃ (a b c d : Int) (t : ByteArray), v = .agg #[.int .i64 a, .int .i64 b, .int .i64 c, .int .u32 d, .string t] ∧ t.size ≤ maxLen) (hs : s.size ≤ maxLen) (w : World) :
    Calls Try.prog 4 #[v, .string s] w fun e w' => e = .returned (.bool true) ∧ Below w.heap.size w w' := by
  obtain ⟨a, b, c, d, t, rfl, ht⟩ := h
  have hs' := hs
  have ht' := ht
  unfold maxLen at hs' ht'
  have HB : Hid (Below w.heap.size w (w.alloc (.cells #[.int .i64 a, .int .i64 b, .int .i64 c, .int .u32 d, .string t] 32))) := hid ((Below.refl _ _).alloc (Nat.le_refl _) _)
  by_cases h1 : 5000 < s.size
  · go_enter Try.func4, Try.ntmps4
    go_wp2_with (go_at_call 10; refine (live_any _).mono ?_; rintro e w' ⟨rfl, hb⟩; replace HB := on_below HB hb; clear hb)
    go_ret; exact ⟨rfl, HB.out⟩
  · by_cases h2 : 300 < t.size
    · go_enter Try.func4, Try.ntmps4
      go_wp2_with (go_at_call 10; refine (live_any _).mono ?_; rintro e w' ⟨rfl, hb⟩; replace HB := on_below HB hb; clear hb)
      go_ret; exact ⟨rfl, HB.out⟩
    · by_cases h3 : 4096 < s.size
      · go_enter Try.func4, Try.ntmps4
        go_wp2_with (first
          | (go_at_call 10; refine (live_any _).mono ?_; rintro e w' ⟨rfl, hb⟩; replace HB := on_below HB hb; clear hb)
          | (go_at_call 8; refine (new_no _ _ (by omega)).mono ?_; rintro e w' ⟨rfl, rfl⟩)
          | (go_at_call 11; refine (put_bad _ _ _ _ _ (number_nil _ _ _)).mono ?_; rintro e w' ⟨rfl, rfl⟩)
          | (go_at_call 13; refine (get_bad _ _ _ _ (number_nil _ _ _)).mono ?_; rintro e w' ⟨rfl, rfl⟩)
          | (go_at_call 15; refine (putText_bad _ _ _ _ (cut_nil _ _ _)).mono ?_; rintro e w' ⟨rfl, rfl⟩)
          | (go_at_call 17; refine (getText_bad _ _ _ _ (cut_nil _ _ _)).mono ?_; rintro e w' ⟨rfl, rfl⟩)
          | (go_at_call 19; refine (move_bad1 _ _ _ _ _ (cut_nil _ _ _)).mono ?_; rintro e w' ⟨rfl, rfl⟩)
          | (go_at_call 21; refine (bytes_nil _).mono ?_; rintro e w' ⟨rfl, rfl⟩)
          | (go_at_call 22; refine (size_nil _).mono ?_; rintro e w' ⟨rfl, rfl⟩)
          | (go_at_call 23; refine (of_no _ _ h3 hs).mono ?_; rintro e w' ⟨rfl, rfl⟩))
        go_ret; exact ⟨rfl, HB.out⟩
      · go_enter Try.func4, Try.ntmps4
        go_wp2_with (first
          | (go_at_call 10; refine (live_any _).mono ?_; rintro e w' ⟨rfl, hb⟩; replace HB := on_below HB hb; clear hb)
          | (go_at_call 8; refine (new_no _ _ (by omega)).mono ?_; rintro e w' ⟨rfl, rfl⟩)
          | (go_at_call 11; refine (put_bad _ _ _ _ _ (number_nil _ _ _)).mono ?_; rintro e w' ⟨rfl, rfl⟩)
          | (go_at_call 13; refine (get_bad _ _ _ _ (number_nil _ _ _)).mono ?_; rintro e w' ⟨rfl, rfl⟩)
          | (go_at_call 15; refine (putText_bad _ _ _ _ (cut_nil _ _ _)).mono ?_; rintro e w' ⟨rfl, rfl⟩)
          | (go_at_call 17; refine (getText_bad _ _ _ _ (cut_nil _ _ _)).mono ?_; rintro e w' ⟨rfl, rfl⟩)
          | (go_at_call 19; refine (move_bad1 _ _ _ _ _ (cut_nil _ _ _)).mono ?_; rintro e w' ⟨rfl, rfl⟩)
          | (go_at_call 21; (with_reducible refine (bytes_nil _).mono ?_); rintro e w' ⟨rfl, rfl⟩)
          | (go_at_call 22; refine (size_nil _).mono ?_; rintro e w' ⟨rfl, rfl⟩)
          | (go_at_call 23; refine (of_ok _ _ (by omega)).mono ?_; rintro e w' ⟨rfl, hA, hb⟩; replace HB := on_below HB hb; clear hb; have HA := hid hA; clear hA))
        have hA := HA.out
        rw [show (w.alloc (.cells #[.int .i64 a, .int .i64 b, .int .i64 c, .int .u32 d, .string t] 32)).heap.size = w.heap.size + 1 by simp] at hA
        replace HA := hid hA; clear hA
        refine (bytes_ok _ _ _ _ HA.out).mono ?_; rintro e w2 ⟨rfl, rfl⟩
        go_wp2_with fail
        refine (live_any _).mono ?_; rintro e w3 ⟨rfl, hb⟩; replace HB := on_below HB hb; clear hb
        go_wp2_with fail
        go_ret; exact ⟨rfl, HB.out⟩

theorem FieldNil_open0 {H : Type} {enc : TypeId × Value → H} {W : World} {base : Nat} {v : Value} {d : DataW H} {p : List MemPlace}
    (hv : Value.okWide Try.prog W .any base 32 v) (h : DataW.Trod enc Try.prog W 0 (fun _ => true) true 32 v d p) :
    ∃ (a b c d : Int) (t : ByteArray), v = .agg #[.int .i64 a, .int .i64 b, .int .i64 c, .int .u32 d, .string t] ∧ t.size ≤ maxLen := open_op hv h
end Go.Proofs.Ytkcfkcdmmllpjaa
