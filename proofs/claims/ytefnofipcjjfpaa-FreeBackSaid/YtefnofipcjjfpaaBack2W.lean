/- The walk of FreeBack, whatever the input. -/
import Derived.Test.YtefnofipcjjfpaaBackW
namespace Go.Proofs.Ytefnofipcjjfpaa
open Go.RowKit
open Go.Lib (hid)
open Go.ChangeShapes Go.WideShapes Go.Joins
open Go.Proofs.Ytefnofipcjjfpaa.Fr

set_option maxRecDepth 100000 in
set_option maxHeartbeats 2000000 in
theorem FreeBack_walk (a : Int) (v : Value) (z : Int) (w : World) (_ha : (Lit.int .i64 a).wf = true) (hv : ∃ p len cap, v = .slice p len cap ∧ IsScript w p len) (_hz : (Lit.int .i64 z).wf = true) :
    Calls Try.prog 7 #[.int .i64 a, v, .int .i64 z] w fun e w' => e = .returned (.bool true) ∧ Below w.heap.size w w' := by
  obtain ⟨p, len, cap, rfl, hs⟩ := hv
  by_cases h1 : a < 1 ∨ 1000 < a
  · have H1 : Hid (a < 1 ∨ 1000 < a ∨ (0 : Int) < 0 ∨ a < 0) := hid (by omega)
    have HB : Hid (Below w.heap.size w w) := hid (Below.refl _ _)
    clear h1 hs
    go_enter Try.func7, Try.ntmps7
    go_wp2_with (first
      | (go_at_call 8; refine (new_bad a 0 _ H1.out).mono ?_; rintro e w' ⟨rfl, rfl⟩)
      | (go_at_call 23; refine (live_any _).mono ?_; rintro e w7 ⟨rfl, hb⟩; replace HB := on_below HB hb; clear hb))
    go_ret
    exact ⟨rfl, HB.out⟩
  · obtain ⟨n, rfl⟩ : ∃ n : Nat, a = (n : Int) := ⟨a.toNat, by omega⟩
    exact Back_go n p len cap z w (by omega) (by omega) hs
theorem FreeBack_open1 {H : Type} {enc : TypeId × Value → H} {W : World} {base : Nat} {v : Value} {d : DataW H} {p : List MemPlace}
    (hv : Value.okWide Try.prog W .any base 22 v) (h : DataW.Trod enc Try.prog W 0 (fun _ => true) true 22 v d p) :
    ∃ a len cap, v = .slice a len cap ∧ IsScript W a len := open_script hv h
end Go.Proofs.Ytefnofipcjjfpaa
