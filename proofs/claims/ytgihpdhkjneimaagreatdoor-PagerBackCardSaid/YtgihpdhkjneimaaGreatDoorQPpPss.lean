/- Lists of pages that came in, in a list. -/
import Derived.Test.YtgihpdhkjneimaaGreatDoorQPpPg
namespace Go.Proofs.YtgihpdhkjneimaaGreatDoor.Dk
open Go.RowKit
open Go.Lib (hid)
open Go.ChangeShapes Go.WideShapes Go.Joins Go.Deep
section
variable {H : Type} {enc : TypeId × Value → H} {W : World} {base : Nat} {sp : Nat → Bool} {hd : Bool}
def IsPss (w : World) (a : Option Addr) (len : Nat) : Prop :=
  len ≤ maxLen ∧ (len = 0 ∨ ∃ b off, a = some ⟨b, off, none⟩ ∧ b < w.heap.size ∧ ∀ i, i < len → ∃ p n c, w.cell? ⟨b, off + i, none⟩ = some (.slice p n c) ∧ IsPgs w p n)
theorem IsPss.below {w w' : World} {a : Option Addr} {len : Nat} (h : IsPss w a len) (hb : Below w.heap.size w w') : IsPss w' a len := by
  refine ⟨h.1, ?_⟩
  rcases h.2 with h0 | ⟨b, off, e, hlt, hd⟩
  · exact .inl h0
  · exact .inr ⟨b, off, e, Nat.lt_of_lt_of_le hlt hb.size, fun i hi => by obtain ⟨p, n, c, h2, h3⟩ := hd i hi; exact ⟨p, n, c, (hb.cell (p := ⟨b, off + i, none⟩) hlt).trans h2, h3.below hb⟩⟩
set_option maxRecDepth 100000 in
set_option maxHeartbeats 1000000 in
theorem pss_trod {n : Nat} {cs : List Value} {x : DataW H × List MemPlace} {v : Value} (hcs0 : cs = [v]) (hf : DataW.trod enc Tryz.prog W base sp hd n 65 cs = some x) : ∃ a len cap, v = .slice a len cap ∧ IsPss W a len := by
  rcases open_slice Tryz.underlying65 hf with ⟨hcs, _⟩ | ⟨x, l, c, m, n, D, Pl, hcs, _, hlc, hcm, hm, _, hi⟩
  · rw [hcs] at hcs0
    simp at hcs0
    subst hcs0
    exact ⟨none, 0, 0, rfl, Nat.zero_le _, .inl rfl⟩
  · rw [hcs] at hcs0
    simp at hcs0
    subst hcs0
    refine ⟨_, _, _, rfl, ?_⟩
    by_cases h0 : l = 0
    · exact ⟨by rw [h0]; exact Nat.zero_le _, .inl h0⟩
    · have hml : l ≤ m := by rw [hm]; split <;> omega
      have cell : ∀ i, i < l → ∃ p n c, W.cell? ((x.add (i * 1)).add 0) = some (.slice p n c) ∧ IsPgs W p n := by
        intro i hil
        obtain ⟨cs', hc, ht'⟩ := hi i (by omega)
        rw [cz_Pg_s] at hc
        obtain ⟨_, hl6, hat⟩ := World.cells?_some hc
        obtain ⟨v, rfl⟩ : ∃ v, cs' = [v] := by
          match cs', hl6 with
          | [v], _ => exact ⟨v, rfl⟩
        obtain ⟨p, n, c, rfl, hg⟩ := pgs_trod rfl ht'
        exact ⟨p, n, c, by rw [hat 0 (by omega)]; rfl, hg⟩
      obtain ⟨blk, off, spot⟩ := x
      obtain ⟨_, _, _, hfirst, _⟩ := cell 0 (by omega)
      have hspot : spot = none := by simpa [Addr.add] using World.cell?_spot hfirst
      subst hspot
      have hadd : ∀ o i, (⟨blk, o, none⟩ : Addr).add i = ⟨blk, o + i, none⟩ := fun o i => by unfold Addr.add; split <;> simp_all
      refine ⟨by unfold maxLen at hcm ⊢; omega, .inr ⟨blk, off, rfl, ?_, fun i hil => ?_⟩⟩
      · rw [hadd, hadd] at hfirst; exact block_lt_of_cell hfirst
      · obtain ⟨p, n, c, e0, g⟩ := cell i hil
        rw [hadd, hadd] at e0
        exact ⟨p, n, c, by simpa using e0, g⟩
set_option maxRecDepth 100000 in
theorem open_Pss {v : Value} {d : DataW H} {p : List MemPlace} (hv : Value.okWide Tryz.prog W .any base 65 v) (h : DataW.Trod enc Tryz.prog W 0 (fun _ => true) true 65 v d p) : ∃ a len cap, v = .slice a len cap ∧ IsPss W a len := by
  obtain ⟨a, len, cap, rfl⟩ := okWide_slice Tryz.underlying65 hv
  obtain ⟨fuel, hf⟩ := h
  exact pss_trod (cs := (Value.slice a len cap).cells.toList) (by simp [Value.cells]) hf
end
end Go.Proofs.YtgihpdhkjneimaaGreatDoor.Dk
