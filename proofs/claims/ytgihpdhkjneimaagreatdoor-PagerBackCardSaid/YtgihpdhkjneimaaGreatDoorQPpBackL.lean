/- PagerBack, for its law. -/
import Derived.Test.YtgihpdhkjneimaaGreatDoorQPpBackW
namespace Go.Proofs.YtgihpdhkjneimaaGreatDoor.Pp
open Go.RowKit
open Go.Lib (hid)
open Go.Proofs.YtgihpdhkjneimaaGreatDoor.Dk
open Go.Proofs.YtgihpdhkjneimaaGreatDoor.Jn
open Go.Proofs.YtgihpdhkjneimaaGreatDoor.En (Lst PageT Pgs)
theorem PagerBack_walk (a0 a1 : Int) (v : Value) (w : World) (_ : (Lit.int .i64 a0).wf = true) (_ : (Lit.int .i64 a1).wf = true) (h : ∃ a len cap, v = .slice a len cap ∧ IsPss w a len) (hL : Lst w) :
    Calls Tryz.prog 5 #[.int .i64 a0, .int .i64 a1, v] w fun e w' => e = .returned (.bool true) ∧ Below w.heap.size w w' := by
  obtain ⟨p, len, c, rfl, hq⟩ := h
  by_cases h40 : 40 < a0
  · exact pback_far _ _ _ _ _ w hL h40
  · by_cases h8 : 8 < len
    · exact pback_far2 _ _ _ _ _ w hL (by omega) h8
    · by_cases h1 : a0 < 1
      · exact pback_nodisk _ _ _ _ _ w hL h1 (by omega)
      · obtain ⟨m, rfl⟩ : ∃ m : Nat, a0 = (m : Int) := ⟨a0.toNat, by omega⟩
        by_cases hb : 2 ≤ a1 ∧ a1 ≤ 900 ∧ 2 ≤ (m : Int) - a1
        · obtain ⟨n, rfl⟩ : ∃ n : Nat, a1 = (n : Int) := ⟨a1.toNat, by omega⟩
          obtain ⟨b, hbe⟩ : ∃ b : Nat, b + n = m := ⟨m - n, by omega⟩
          exact pback_go _ _ _ _ _ w hL hq m b n rfl rfl hbe (by omega) (by omega) (by omega) (by omega)
        · exact pback_noplace _ _ _ _ _ w hL m rfl (by omega) (by omega) (by omega) hb
set_option maxRecDepth 100000 in
theorem PagerBack_open2 {H : Type} {enc : TypeId × Value → H} {W : World} {base : Nat} {v : Value} {d : DataW H} {p : List MemPlace} (hv : Value.okWide Tryz.prog W .any base 65 v) (h : DataW.Trod enc Tryz.prog W 0 (fun _ => true) true 65 v d p) : ∃ a len cap, v = .slice a len cap ∧ IsPss W a len := open_Pss hv h
end Go.Proofs.YtgihpdhkjneimaaGreatDoor.Pp
