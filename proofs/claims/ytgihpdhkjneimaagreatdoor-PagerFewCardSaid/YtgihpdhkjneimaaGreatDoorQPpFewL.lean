/- PagerFew, for its law. -/
import Derived.Test.YtgihpdhkjneimaaGreatDoorQPpFewW
namespace Go.Proofs.YtgihpdhkjneimaaGreatDoor.Pp
open Go.RowKit
open Go.Lib (hid)
open Go.Proofs.YtgihpdhkjneimaaGreatDoor.Dk
open Go.Proofs.YtgihpdhkjneimaaGreatDoor.Jn
open Go.Proofs.YtgihpdhkjneimaaGreatDoor.En (Lst PageT Pgs)
theorem PagerFew_walk (v : Value) (w : World) (h : CrV w v) (hL : Lst w) :
    Calls Tryz.prog 7 #[v] w fun e w' => e = .returned (.bool true) ∧ Below w.heap.size w w' := by
  obtain ⟨d, rfl, hd⟩ := h
  obtain ⟨M0, e2, h2⟩ := pppgs hd.f2
  obtain ⟨M, e3, h3⟩ := pppgs hd.f3
  obtain ⟨a0, a1, p2, n2, c2, p3, n3, c3, a4, p5, l5, c5, a6, a7, a8, p9, l9, c9, a10⟩ := d
  dsimp only at e2 e3 h2 h3
  subst e2
  subst e3
  simp only [CrD.cells]
  rcases Classical.em (FewP M0) with hn | hn
  · rcases Classical.em (FewP M) with hn2 | hn2
    · by_cases h40 : 40 < a0
      · exact pfew_far _ _ _ _ _ _ _ _ _ _ _ _ _ _ _ _ _ M0 M w hL h2 h3 h40
      · by_cases h1 : a0 < 1
        · exact pfew_nodisk _ _ _ _ _ _ _ _ _ _ _ _ _ _ _ _ _ M0 M w hL h2 h3 h1 hn hn2
        · obtain ⟨m, rfl⟩ : ∃ m : Nat, a0 = (m : Int) := ⟨a0.toNat, by omega⟩
          by_cases hb : 2 ≤ a1 ∧ a1 ≤ 900 ∧ 2 ≤ (m : Int) - a1
          · obtain ⟨n, rfl⟩ : ∃ n : Nat, a1 = (n : Int) := ⟨a1.toNat, by omega⟩
            obtain ⟨b, hbe⟩ : ∃ b : Nat, b + n = m := ⟨m - n, by omega⟩
            exact pfew_go _ _ _ _ _ _ _ _ _ _ _ _ _ _ _ _ _ M0 M w hL h2 h3 m b n rfl rfl hbe (by omega) (by omega) (by omega) hn hn2
          · exact pfew_noplace _ _ _ _ _ _ _ _ _ _ _ _ _ _ _ _ _ M0 M w hL h2 h3 m rfl (by omega) (by omega) hn hn2 hb
    · by_cases h40 : 40 < a0
      · exact pfew_far _ _ _ _ _ _ _ _ _ _ _ _ _ _ _ _ _ M0 M w hL h2 h3 h40
      · exact pfew_far3 _ _ _ _ _ _ _ _ _ _ _ _ _ _ _ _ _ M0 M w hL h2 h3 (by omega) hn hn2
  · by_cases h40 : 40 < a0
    · exact pfew_far _ _ _ _ _ _ _ _ _ _ _ _ _ _ _ _ _ M0 M w hL h2 h3 h40
    · exact pfew_far2 _ _ _ _ _ _ _ _ _ _ _ _ _ _ _ _ _ M0 M w hL h2 h3 (by omega) hn
set_option maxRecDepth 100000 in
theorem PagerFew_open0 {H : Type} {enc : TypeId × Value → H} {W : World} {base : Nat} {v : Value} {d : DataW H} {p : List MemPlace} (hv : Value.okWide Tryz.prog W .any base 63 v) (h : DataW.Trod enc Tryz.prog W 0 (fun _ => true) true 63 v d p) : CrV W v := open_Cr hv h
end Go.Proofs.YtgihpdhkjneimaaGreatDoor.Pp
