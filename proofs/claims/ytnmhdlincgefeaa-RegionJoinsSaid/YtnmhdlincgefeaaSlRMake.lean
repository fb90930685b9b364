/- The document's product, Of, New of a slab. -/
import Derived.Test.YtnmhdlincgefeaaSlMake
import Derived.Test.YtnmhdlincgefeaaSlRef
namespace Go.Proofs.Ytnmhdlincgefeaa.Sl
open Go.RowKit
open Go.Lib (hid)

/-- the document's product: 0 for none -/
def prodZ (l : List Int) : Nat := (prodN 1 l).getD 0
set_option maxRecDepth 100000 in
set_option maxHeartbeats 2000000 in
theorem rproduct_ok (l : List Int) (p : Option Addr) (c : Nat) (w : World) (h : CellsAt w p (iv l)) (hl : l.length ≤ 1000000) :
    Calls Try.prog 24 #[.slice p l.length c] w fun e w' => e = .returned (.int .i64 (prodZ l)) ∧ w' = w := by
  have HR := hid h
  unfold prodZ
  clear h
  go_enter Try.func24, Try.ntmps24
  go_wp2_with fail
  go_loop [3, 4] (fun o i => ∃ (a K : Nat), K ≤ l.length ∧ i = .int .i64 K ∧ o = .int .i64 a ∧ 1 ≤ a ∧ a ≤ 4096 ∧ prodN 1 l = prodN a (l.drop K)) (fun _ i => l.length - (intOf i).toNat)
  case atStart => exact ⟨1, 0, by omega, rfl, rfl, by omega, by omega, rfl⟩
  case round =>
    obtain ⟨a, K, hk, rfl, rfl, ha1, ha2, hp⟩ := hrel
    have HP := hid hp; clear hp
    by_cases hlt : K < l.length
    · obtain ⟨b1, o1, rfl, lt1, c1⟩ := HR.out K (by rw [iv_length]; exact hlt)
      have d1 : w.cell? ⟨b1, o1 + K, none⟩ = some (.int .i64 l[K]) := by have := c1; simp [iv] at this; exact this
      clear c1
      have HD := hid (drop_at l K hlt)
      generalize l[K] = x at d1 HD
      by_cases hx : 1 ≤ x
      · have e1 : decide (x < 1) = false := decide_eq_false (by omega)
        obtain ⟨X, rfl⟩ : ∃ X : Nat, x = (X : Int) := ⟨x.toNat, by omega⟩
        by_cases hX : X ≤ 4096
        · have e2 : decide ((4096 : Int) < (X : Int)) = false := decide_eq_false (by omega)
          have hax : a * X ≤ 4096 * 4096 := Nat.mul_le_mul ha2 hX
          have HM := hid (show wrap64 ((a : Int) * (X : Int)) = ((a * X : Nat) : Int) by
            rw [← Int.natCast_mul]; exact Go.IntWalk.wrap64_in _ (by omega))
          by_cases hm : a * X ≤ 4096
          · have e3 : decide ((4096 : Int) < wrap64 ((a : Int) * (X : Int))) = false := decide_eq_false (by rw [HM.out]; omega)
            have HN := hid (show prodN 1 l = prodN (a * X) (l.drop (K + 1)) by
              rw [HP.out, HD.out]; simp only [prodN]
              rw [if_pos ⟨hx, by rw [← Int.natCast_mul]; omega⟩, Int.toNat_natCast])
            have HX := hid (show 1 ≤ a * X ∧ a * X ≤ 4096 from ⟨Nat.mul_pos (by omega) (by omega), hm⟩)
            clear hx hm hax hX
            go_wp2_with fail
            go_round
            case rel => exact ⟨a * X, K + 1, by omega, by go_num, by rw [HM.out], HX.out.1, HX.out.2, HN.out⟩
            case measure => simp [intOf]; omega
          · have e3 : decide ((4096 : Int) < wrap64 ((a : Int) * (X : Int))) = true := decide_eq_true (by rw [HM.out]; omega)
            have HN := hid (show prodN 1 l = none by
              rw [HP.out, HD.out]; simp only [prodN]
              rw [if_neg (fun h => hm (by have := h.2; rw [← Int.natCast_mul] at this; omega))])
            clear hx hm hax hX
            go_wp2_with fail
            go_ret
            exact ⟨by rw [HN.out]; rfl, rfl⟩
        · have e2 : decide ((4096 : Int) < (X : Int)) = true := decide_eq_true (by omega)
          have HN := hid (show prodN 1 l = none by
            rw [HP.out, HD.out]; simp only [prodN]
            rw [if_neg (fun h => hX (by
              have h2 := h.2
              rw [← Int.natCast_mul] at h2
              have : X ≤ a * X := Nat.le_mul_of_pos_left _ ha1
              omega))])
          clear hx hX
          go_wp2_with fail
          go_ret
          exact ⟨by rw [HN.out]; rfl, rfl⟩
      · have e1 : decide (x < 1) = true := decide_eq_true (by omega)
        have HN := hid (show prodN 1 l = none by
          rw [HP.out, HD.out]; simp only [prodN]
          rw [if_neg (fun h => hx h.1)])
        clear hx
        go_wp2_with fail
        go_ret
        exact ⟨by rw [HN.out]; rfl, rfl⟩
    · obtain rfl : K = l.length := by omega
      have HN := hid (show prodN 1 l = some a by rw [HP.out, List.drop_length]; rfl)
      go_wp2_with fail
      go_ret
      exact ⟨by rw [HN.out]; rfl, rfl⟩
/-- the document's slab, with rows of its own -/
structure Rlb (w : World) (b g h : Nat) (S C : List Int) : Prop where
  head : ∃ k m, S.length ≤ k ∧ C.length ≤ m ∧ w.heap[b]? = some (.cells #[.slice (some ⟨g, 0, none⟩) S.length k, .slice (some ⟨h, 0, none⟩) C.length m] 63 (0, 0))
  sz : Row w g S
  co : Row w h C
  ne : b ≠ g ∧ b ≠ h ∧ g ≠ h
theorem Rlb.rb {w : World} {b g h : Nat} {S C : List Int} (H : Rlb w b g h S C) : ∃ k m, S.length ≤ k ∧ C.length ≤ m ∧ Rb w b (some ⟨g, 0, none⟩) (some ⟨h, 0, none⟩) k m S C := by
  obtain ⟨k, m, h1, h2, e⟩ := H.head
  exact ⟨k, m, h1, h2, e, H.sz.cells, H.co.cells⟩
theorem Rlb.lt {w : World} {b g h : Nat} {S C : List Int} (H : Rlb w b g h S C) : b < w.heap.size := by obtain ⟨k, m, _, _, e⟩ := H.head; exact (Array.getElem?_eq_some_iff.1 e).1
theorem Rlb.keep {w w' : World} {b g h : Nat} {S C : List Int} (H : Rlb w b g h S C) (he : ∀ j, B3 b g h j → w'.heap[j]? = w.heap[j]?) : Rlb w' b g h S C := by
  obtain ⟨k, m, h1, h2, e⟩ := H.head
  exact ⟨⟨k, m, h1, h2, (he b (.inl rfl)).trans e⟩, H.sz.keep (he g (.inr (.inl rfl))), H.co.keep (he h (.inr (.inr rfl))), H.ne⟩
theorem Rlb.lts {w : World} {b g h : Nat} {S C : List Int} (H : Rlb w b g h S C) : ∀ j, B3 b g h j → j < w.heap.size := fun j hj => by
  rcases hj with rfl | rfl | rfl
  · exact H.lt
  · exact H.sz.lt
  · exact H.co.lt
theorem Rlb.below {w w' : World} {b g h : Nat} {S C : List Int} (H : Rlb w b g h S C) (hb : Below w.heap.size w w') : Rlb w' b g h S C := H.keep fun j hj => hb.block j (H.lts j hj)
/-- a new slab of the document's -/
def RNewSlab (w : World) (S C : List Int) (e : Ending) (w' : World) : Prop := ∃ b g h, e = .returned (.tuple #[.pointer (some ⟨b, 0, none⟩), .int .i64 0]) ∧ Rlb w' b g h S C ∧ (∀ j, B3 b g h j → w.heap.size ≤ j) ∧ Below w.heap.size w w'
set_option maxRecDepth 100000 in
set_option maxHeartbeats 2000000 in
theorem rof_bad (l C : List Int) (p q : Option Addr) (c c' : Nat) (w : World) (h : CellsAt w p (iv l)) (hl : l.length ≤ 1000000) (hn : prodAns l ≠ some C.length) :
    Calls Try.prog 10 #[.slice p l.length c, .slice q C.length c'] w fun e w' => e = .returned (.tuple #[.pointer none, .int .i64 1]) ∧ w' = w := by
  have HP := hid (rproduct_ok l p c w h hl)
  clear h
  unfold prodAns at hn
  by_cases h1 : 1 ≤ l.length
  · have e1 : decide ((l.length : Int) < 1) = false := decide_eq_false (by omega)
    by_cases h2 : l.length ≤ 6
    · have e2 : decide ((6 : Int) < (l.length : Int)) = false := decide_eq_false (by omega)
      rw [if_pos ⟨h1, h2⟩] at hn
      cases hp : prodN 1 l with
      | none =>
        rw [show prodZ l = 0 by unfold prodZ; rw [hp]; rfl] at HP
        clear hn hp h1 h2
        go_enter Try.func10, Try.ntmps10
        go_wp2_with fail
        refine HP.out.mono ?_
        rintro e w1 ⟨rfl, rfl⟩
        go_wp2_with fail
        go_ret2
        exact ⟨rfl, rfl⟩
      | some n =>
        rw [show prodZ l = n by unfold prodZ; rw [hp]; rfl] at HP
        have e3 : ((n : Int) == 0) = false := by
          obtain ⟨S, _, hs, hC, _⟩ := prodN_nat 1 l _ (Nat.le_refl _) (by omega) hp
          have := prodL_pos S hs
          simp; omega
        have e4 : ((n : Int) != (C.length : Int)) = true := by
          have : n ≠ C.length := fun e => hn (by rw [hp, e])
          simp; omega
        clear hn hp h1 h2
        go_enter Try.func10, Try.ntmps10
        go_wp2_with fail
        refine HP.out.mono ?_
        rintro e w1 ⟨rfl, rfl⟩
        go_wp2_with fail
        refine HP.out.mono ?_
        rintro e w1 ⟨rfl, rfl⟩
        go_wp2_with fail
        go_ret2
        exact ⟨rfl, rfl⟩
    · have e2 : decide ((6 : Int) < (l.length : Int)) = true := decide_eq_true (by omega)
      clear hn h1 h2
      go_enter Try.func10, Try.ntmps10
      go_wp2_with fail
      go_ret2
      exact ⟨rfl, rfl⟩
  · have e1 : decide ((l.length : Int) < 1) = true := decide_eq_true (by omega)
    clear hn h1
    go_enter Try.func10, Try.ntmps10
    go_wp2_with fail
    go_ret2
    exact ⟨rfl, rfl⟩
set_option maxRecDepth 100000 in
set_option maxHeartbeats 2000000 in
theorem rof_ok (l C : List Int) (p q : Option Addr) (c c' : Nat) (w : World) (h : CellsAt w p (iv l)) (h2 : CellsAt w q (iv C)) (hl : l.length ≤ 1000000) (hl2 : C.length ≤ 1000000) (hn : prodAns l = some C.length) :
    Calls Try.prog 10 #[.slice p l.length c, .slice q C.length c'] w (RNewSlab w l C) := by
  have HP := hid (rproduct_ok l p c w h hl)
  unfold prodAns at hn
  split at hn
  next hx =>
    rw [show prodZ l = C.length by unfold prodZ; rw [hn]; rfl] at HP
    have hpos : 0 < l.length ∧ 0 < C.length := by
      obtain ⟨S, _, hs, hC, _⟩ := prodN_nat 1 l _ (Nat.le_refl _) (by omega) hn
      have := prodL_pos S hs
      omega
    have HPOS := hid hpos
    have e1 : decide ((l.length : Int) < 1) = false := decide_eq_false (by omega)
    have e2 : decide ((6 : Int) < (l.length : Int)) = false := decide_eq_false (by omega)
    have e3 : ((C.length : Int) == 0) = false := by rw [beq_eq_false_iff_ne]; omega
    have e4 : ((C.length : Int) != (C.length : Int)) = false := by simp
    have HR1 : Hid (∀ W, Below w.heap.size w W → ReadAt W p (iv l)) := hid fun W hb => (h.below hb).read
    have HR2 : Hid (∀ W, Below w.heap.size w W → ReadAt W q (iv C)) := hid fun W hb => (h2.below hb).read
    clear h h2 hn hpos hx
    go_enter Try.func10, Try.ntmps10
    go_wp2_with fail
    refine HP.out.mono ?_
    rintro e w1 ⟨rfl, rfl⟩
    go_wp2_with fail
    refine HP.out.mono ?_
    rintro e w1 ⟨rfl, rfl⟩
    go_wp2_with (at_builtin; refine wpList_app rfl _ _ _ rfl rfl rfl (int_full _ _ 0 [] (ReadAt.nil _ _) rfl _ l.length _ (iv l) (HR1.out _ (Below.refl _ _)) (iv_length l) (iv_one l) (by omega)) ?_)
    intro v' w2 hF
    obtain ⟨k1, rfl, hr, hb, hk1⟩ := row_of_full HPOS.out.1 hF
    have HK1 := hid hk1
    have HW1 := hid hr
    have HB1 := hid hb
    clear hF hr hb hk1
    go_wp2_with (at_builtin; refine wpList_app rfl _ _ _ rfl rfl rfl (int_full _ _ 0 [] (ReadAt.nil _ _) rfl _ C.length _ (iv C) (HR2.out _ HB1.out) (iv_length C) (iv_one C) (by omega)) ?_)
    intro v' w3 hF
    obtain ⟨k2, rfl, hr, hb, hk2⟩ := row_of_full HPOS.out.2 hF
    have HK2 := hid hk2
    have HW2 := hid hr
    have HW1' := hid (HW1.out.below hb)
    have HB2 := hid (HB1.out.trans (hb.mono HB1.out.size))
    have HS := hid hb.size
    clear hF hr hb hk2
    go_wp2_with fail
    go_ret2
    have s1 := HB1.out.size
    have s2 := HS.out
    have t1 := HW1.out.lt
    have t2 := HW2.out.lt
    refine ⟨_, _, _, rfl, ⟨⟨k1, k2, HK1.out, HK2.out, heap_alloc_new w3 _⟩, HW1'.out.below (below_alloc _ _), HW2.out.below (below_alloc _ _), ?_⟩, ?_, HB2.out.alloc HB2.out.size _⟩
    · refine ⟨?_, ?_, ?_⟩
      all_goals omega
    · intro j hj
      rcases hj with rfl | rfl | rfl
      · omega
      · omega
      · omega
  next => cases hn
end Go.Proofs.Ytnmhdlincgefeaa.Sl
