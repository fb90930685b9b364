/- The document's slab on its way: Fill, Seen, Grow and Shrink, whatever is asked. -/
import Derived.Test.YtpbidpgpehicmaaSlRShr2
namespace Go.Proofs.Ytpbidpgpehicmaa.Sl
open Go.RowKit Go.Shelf
open Go.Lib (hid)

theorem Rv.rf {K : Nat → Prop} {V : World} {b : Nat} {S : List Nat} {C : List Int} (h : Rv K V b S C) : ∃ g h k m, RF V K b g h k m S C V ∧ S.length ≤ k ∧ C.length ≤ m ∧ (∀ j, B3 b g h j → ¬ K j) ∧ b ≠ g ∧ b ≠ h ∧ g ≠ h := by
  obtain ⟨g, h', hr, hn⟩ := h.ex
  obtain ⟨k, m, h1, h2, e⟩ := hr.head
  rw [zs_len] at h1 e
  exact ⟨g, h', k, m, ⟨e, hr.sz, hr.co, on_below (Below.refl _ _)⟩, h1, h2, hn, hr.ne⟩
theorem RF.rv {K : Nat → Prop} {V V' : World} {b g h k m : Nat} {S : List Nat} {C : List Int} (H : RF V K b g h k m S C V') (hl : ∀ j, K j → j < V.heap.size) (F : Fits S C) (hk : S.length ≤ k) (hm : C.length ≤ m) (hn : ∀ j, B3 b g h j → ¬ K j) (hne : b ≠ g ∧ b ≠ h ∧ g ≠ h) : Rv K V' b S C ∧ On K V V' :=
  ⟨⟨⟨g, h, ⟨⟨k, m, by rw [zs_len]; exact hk, hm, by rw [zs_len]; exact H.hd⟩, H.sz, H.co, hne⟩, hn⟩, F, fun j hj => Nat.lt_of_lt_of_le (hl j hj) H.on.size⟩, H.on⟩
theorem RTurn.rv {K : Nat → Prop} {V V' : World} {b : Nat} {S : List Nat} {C : List Int} (H : RTurn V b S C V') (hl : ∀ j, K j → j < V.heap.size) (F : Fits S C) (hb : ¬ K b) : Rv K V' b S C ∧ On K V V' := by
  obtain ⟨g, h, hr, h1, h2, ho⟩ := H
  refine ⟨⟨⟨g, h, hr, fun j hj hk => ?_⟩, F, fun j hj => Nat.lt_of_lt_of_le (hl j hj) ho.size⟩, onl_mono ho fun j e hk => hb (by rw [← e]; exact hk)⟩
  have := hl j hk
  rcases hj with e | e | e
  · exact hb (by rw [← e]; exact hk)
  · omega
  · omega
theorem Rv.same {K : Nat → Prop} {V V' : World} {b : Nat} {S : List Nat} {C : List Int} (h : Rv K V b S C) (hb : Below V.heap.size V V') : Rv K V' b S C ∧ On K V V' := ⟨h.next hb, on_below hb⟩
set_option maxRecDepth 100000 in
set_option maxHeartbeats 1000000 in
theorem rfill_bad {K : Nat → Prop} {V : World} {b : Nat} {S : List Nat} {C : List Int} (h : Rv K V b S C) (lo hi : List Int) (p q : Option Addr) (c1 c2 : Nat) (hp : CellsAt V p (iv lo)) (hq : CellsAt V q (iv hi)) (hl : lo.length ≤ 1000000) (hl2 : hi.length ≤ 1000000) (hn : rangeB (zs S) lo hi = false) (n : Int) :
    Calls Try.prog 17 #[.pointer (some ⟨b, 0, none⟩), .slice p lo.length c1, .slice q hi.length c2, .int .i64 n] V fun e V' => e = .returned (.int .i64 1) ∧ Below V.heap.size V V' := by
  have HM := hid (rv_may h lo hi p q c1 c2 hp hq hl hl2)
  rw [hn] at HM
  clear h hp hq hl hl2 hn
  go_enter Try.func17, Try.ntmps17
  go_wp2_with fail
  refine HM.out.mono ?_
  rintro e w1 ⟨rfl, n1, rfl⟩
  go_wp2_with fail
  go_ret
  exact ⟨rfl, below_drewN (Below.refl _ _) _⟩
set_option maxRecDepth 100000 in
set_option maxHeartbeats 1000000 in
theorem rseen_bad {K : Nat → Prop} {V : World} {b : Nat} {S : List Nat} {C : List Int} (h : Rv K V b S C) (lo hi : List Int) (p q : Option Addr) (c1 c2 : Nat) (hp : CellsAt V p (iv lo)) (hq : CellsAt V q (iv hi)) (hl : lo.length ≤ 1000000) (hl2 : hi.length ≤ 1000000) (hn : rangeB (zs S) lo hi = false) :
    Calls Try.prog 23 #[.pointer (some ⟨b, 0, none⟩), .slice p lo.length c1, .slice q hi.length c2] V fun e V' => e = .returned (.tuple #[.slice none 0 0, .int .i64 1]) ∧ Below V.heap.size V V' := by
  have HM := hid (rv_may h lo hi p q c1 c2 hp hq hl hl2)
  rw [hn] at HM
  clear h hp hq hl hl2 hn
  go_enter Try.func23, Try.ntmps23
  go_wp2_with fail
  refine HM.out.mono ?_
  rintro e w1 ⟨rfl, n1, rfl⟩
  go_wp2_with fail
  go_ret2
  exact ⟨rfl, below_drewN (Below.refl _ _) _⟩
section
variable {K : Nat → Prop} {V : World} {b : Nat} {S : List Nat} {C : List Int}
theorem rv_fill (h : Rv K V b S C) (lo hi : List Int) (p q : Option Addr) (c1 c2 : Nat) (hp : CellsD (fun j => ¬ K j) V p (iv lo)) (hq : CellsD (fun j => ¬ K j) V q (iv hi)) (hl : lo.length ≤ 1000000) (hl2 : hi.length ≤ 1000000) (n : Int) :
    Calls Try.prog 17 #[.pointer (some ⟨b, 0, none⟩), .slice p lo.length c1, .slice q hi.length c2, .int .i64 n] V fun e V' => e = .returned (.int .i64 (fillU S C lo hi n).1) ∧ Rv K V' b S (fillU S C lo hi n).2 ∧ On K V V' := by
  unfold fillU
  cases hh : rangeB (zs S) lo hi with
  | false =>
    simp only [Bool.false_eq_true, if_false]
    exact (rfill_bad h lo hi p q c1 c2 hp.cells hq.cells hl hl2 hh n).mono fun e V' ⟨he, hb⟩ => ⟨he, h.same hb⟩
  | true =>
    have hm := rv_may h lo hi p q c1 c2 hp.cells hq.cells hl hl2
    rw [hh] at hm
    obtain ⟨L, H, rfl, rfl, h1, h2⟩ := range_nat S lo hi hh
    simp only [if_true, zs_nat, zs_len] at hm ⊢
    obtain ⟨g, h', k, m, hr, hk, hm2, hn, hne⟩ := h.rf
    refine (rfill_ok hr h.fit hn hne L H p q c1 c2 hp hq h1 h2 n hm).mono ?_
    rintro e V' ⟨rfl, hr'⟩
    have F := h.fit
    refine ⟨rfl, hr'.rv h.lt ⟨F.some, F.few, F.pos, F.most, by rw [fillL_length]; exact F.len⟩ hk (by rw [fillL_length]; exact hm2) hn hne⟩
theorem rv_seen (h : Rv K V b S C) (lo hi : List Int) (p q : Option Addr) (c1 c2 : Nat) (hp : CellsAt V p (iv lo)) (hq : CellsAt V q (iv hi)) (hl : lo.length ≤ 1000000) (hl2 : hi.length ≤ 1000000) :
    Calls Try.prog 23 #[.pointer (some ⟨b, 0, none⟩), .slice p lo.length c1, .slice q hi.length c2] V fun e V' => ∃ r c, e = .returned (.tuple #[.slice r (seenU S C lo hi).2.length c, .int .i64 (seenU S C lo hi).1]) ∧ CellsAt V' r (iv (seenU S C lo hi).2) ∧ Below V.heap.size V V' := by
  unfold seenU
  cases hh : rangeB (zs S) lo hi with
  | false =>
    simp only [Bool.false_eq_true, if_false]
    exact (rseen_bad h lo hi p q c1 c2 hp hq hl hl2 hh).mono fun e V' ⟨he, hb⟩ => ⟨none, 0, he, fun j hj => absurd hj (by simp [iv]), hb⟩
  | true =>
    have hm := rv_may h lo hi p q c1 c2 hp hq hl hl2
    rw [hh] at hm
    obtain ⟨L, H, rfl, rfl, h1, h2⟩ := range_nat S lo hi hh
    simp only [if_true, zs_nat, zs_len] at hm ⊢
    obtain ⟨g, h', k, m, hr, hk, hm2, hn, hne⟩ := h.rf
    exact rseen_ok hr h.fit L H p q c1 c2 hp hq h1 h2 hm
theorem rv_grow (h : Rv K V b S C) (d i : Int) :
    Calls Try.prog 13 #[.pointer (some ⟨b, 0, none⟩), .int .i64 d, .int .i64 i] V fun e V' => e = .returned (.int .i64 (growU S C d i).1) ∧ Rv K V' b (growU S C d i).2.1 (growU S C d i).2.2 ∧ On K V V' := by
  obtain ⟨g, h', k, m, hr, hk, hm2, hn, hne⟩ := h.rf
  have F := h.fit
  unfold growU
  cases hh : hasB (zs S) d i with
  | false =>
    simp only [Bool.false_eq_true, if_false]
    refine (rgrow_bad hr d i hh).mono ?_
    rintro e V' ⟨rfl, rfl⟩
    exact ⟨rfl, h.same (Below.refl _ _)⟩
  | true =>
    obtain ⟨D, I, rfl, rfl, hD, hI⟩ := has_nat S d i hh
    simp only [if_true, Int.toNat_natCast]
    by_cases hm : C.length / S.getD D 1 * (S.getD D 1 + 1) ≤ 4096
    · rw [if_pos hm]
      refine (rgrow_ok hr F D I hD hI hm).mono ?_
      rintro e V' ⟨rfl, ht⟩
      exact ⟨rfl, ht.rv h.lt (grow_fits S C F D I hD hI hm) (hn b (.inl rfl))⟩
    · rw [if_neg hm]
      refine (rgrow_lim hr F D I hD hI (by omega)).mono ?_
      rintro e V' ⟨rfl, n, rfl⟩
      exact ⟨rfl, h.same (below_drewN (Below.refl _ _) n)⟩
theorem rv_shrink (h : Rv K V b S C) (d i : Int) :
    Calls Try.prog 15 #[.pointer (some ⟨b, 0, none⟩), .int .i64 d, .int .i64 i] V fun e V' => e = .returned (.int .i64 (shrinkU S C d i).1) ∧ Rv K V' b (shrinkU S C d i).2.1 (shrinkU S C d i).2.2 ∧ On K V V' := by
  obtain ⟨g, h', k, m, hr, hk, hm2, hn, hne⟩ := h.rf
  have F := h.fit
  unfold shrinkU
  cases hh : hasB (zs S) d i && hasB (zs S) d (i + 1) with
  | false =>
    simp only [Bool.false_eq_true, if_false]
    refine (rshrink_bad hr F d i hh).mono ?_
    rintro e V' ⟨rfl, rfl⟩
    exact ⟨rfl, h.same (Below.refl _ _)⟩
  | true =>
    rw [Bool.and_eq_true] at hh
    obtain ⟨D, I, rfl, rfl, hD, hI⟩ := has_nat S d i hh.1
    obtain ⟨D', J, e1, e2, _, hJ⟩ := has_nat S (D : Int) ((I : Int) + 1) hh.2
    obtain rfl : D = D' := by omega
    have hJ2 : I + 1 < S.getD D 1 := by omega
    simp only [if_true, Int.toNat_natCast]
    refine (rshrink_in hr F D I hD hJ2).mono ?_
    rintro e V' (⟨hok, rfl, ht⟩ | ⟨hno, rfl, hb⟩)
    · rw [if_pos hok]
      exact ⟨rfl, ht.rv h.lt (shr_fits S C F D I hD hJ2) (hn b (.inl rfl))⟩
    · rw [if_neg hno]
      exact ⟨rfl, h.same hb⟩
end
end Go.Proofs.Ytpbidpgpehicmaa.Sl
