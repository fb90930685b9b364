/- product, New, Of, Sizes, Cells of slab. -/
import Derived.Test.YtnmhdlincgefeaaSlPlace
import Derived.Test.YtnmhdlincgefeaaSlRep
namespace Go.Proofs.Ytnmhdlincgefeaa.Sl
open Go.RowKit
open Go.Lib (hid)

/-- how many cells there are of such sizes, from a on; none: they may not be -/
def prodN : Nat → List Int → Option Nat
  | a, [] => some a
  | a, x :: t => if 1 ≤ x ∧ (a : Int) * x ≤ 4096 then prodN (a * x.toNat) t else none
theorem prodN_nat (a : Nat) (l : List Int) (n : Nat) (ha : 1 ≤ a) (hA : a ≤ 4096) (h : prodN a l = some n) : ∃ S : List Nat, l = zs S ∧ (∀ s ∈ S, 0 < s) ∧ n = a * prodL S ∧ n ≤ 4096 := by
  induction l generalizing a with
  | nil => exact ⟨[], rfl, by simp, by simp only [prodN, Option.some.injEq] at h; simp [prodL, h], by simp only [prodN, Option.some.injEq] at h; omega⟩
  | cons x t ih =>
    simp only [prodN] at h
    split at h
    · rename_i hx
      obtain ⟨X, rfl⟩ : ∃ X : Nat, x = (X : Int) := ⟨x.toNat, by omega⟩
      rw [Int.toNat_natCast] at h
      have h2 : a * X ≤ 4096 := by have := hx.2; rw [← Int.natCast_mul] at this; omega
      have h1 : 1 ≤ a * X := Nat.mul_pos ha (by omega)
      obtain ⟨S, rfl, hs, hn, hl⟩ := ih (a * X) h1 h2 h
      refine ⟨X :: S, rfl, ?_, by rw [hn]; simp only [prodL, Nat.mul_assoc], hl⟩
      intro s hs'
      rcases List.mem_cons.1 hs' with rfl | hs'
      · omega
      · exact hs s hs'
    · cases h
theorem prodN_zs (a : Nat) (S : List Nat) (hs : ∀ s ∈ S, 0 < s) (h : a * prodL S ≤ 4096) : prodN a (zs S) = some (a * prodL S) := by
  induction S generalizing a with
  | nil => simp [prodN, zs, prodL]
  | cons s t ih =>
    have ht : ∀ x ∈ t, 0 < x := fun x hx => hs x (by simp [hx])
    have hp := prodL_pos t ht
    have h0 := hs s (by simp)
    have e : a * prodL (s :: t) = a * s * prodL t := by simp only [prodL, Nat.mul_assoc]
    rw [e] at h
    have h1 : a * s ≤ 4096 := Nat.le_trans (Nat.le_mul_of_pos_right _ hp) h
    show (if 1 ≤ (s : Int) ∧ (a : Int) * (s : Int) ≤ 4096 then prodN (a * (s : Int).toNat) (zs t) else none) = _
    rw [if_pos ⟨by omega, by rw [← Int.natCast_mul]; omega⟩, Int.toNat_natCast, e]
    exact ih (a * s) ht h
/-- what product answers -/
def prodAns (l : List Int) : Option Nat := if 1 ≤ l.length ∧ l.length ≤ 6 then prodN 1 l else none
def prodV : Option Nat → Value
  | some n => .tuple #[.int .i64 (n : Int), .bool true]
  | none => .tuple #[.int .i64 0, .bool false]
theorem drop_at {α : Type} (l : List α) (K : Nat) (h : K < l.length) : l.drop K = l[K] :: l.drop (K + 1) := List.drop_eq_getElem_cons h
set_option maxRecDepth 100000 in
set_option maxHeartbeats 2000000 in
theorem product_ok (l : List Int) (p : Option Addr) (c : Nat) (w : World) (h : CellsAt w p (iv l)) (hl : l.length ≤ 1000000) :
    Calls Try.prog 22 #[.slice p l.length c] w fun e w' => e = .returned (prodV (prodAns l)) ∧ w' = w := by
  have HR := hid h
  unfold prodAns
  clear h
  by_cases h1 : 1 ≤ l.length
  · have e1 : decide ((l.length : Int) < 1) = false := decide_eq_false (by omega)
    by_cases h2 : l.length ≤ 6
    · have e2 : decide ((6 : Int) < (l.length : Int)) = false := decide_eq_false (by omega)
      rw [if_pos ⟨h1, h2⟩]
      clear h1 h2
      go_enter Try.func22, Try.ntmps22
      go_wp2_with fail
      clear e1 e2
      go_loop [4, 17] (fun o i => ∃ (a K : Nat), K ≤ l.length ∧ i = .int .i64 K ∧ o = .int .i64 a ∧ 1 ≤ a ∧ a ≤ 4096 ∧ prodN 1 l = prodN a (l.drop K)) (fun _ i => l.length - (intOf i).toNat)
      case atStart => exact ⟨1, 0, by omega, rfl, rfl, by omega, by omega, rfl⟩
      case round =>
        obtain ⟨a, K, hk, rfl, rfl, ha1, ha2, hp⟩ := hrel
        have HP := hid hp; clear hp
        by_cases hlt : K < l.length
        · obtain ⟨b1, o1, rfl, lt1, c1⟩ := HR.out K (by rw [iv_length]; exact hlt)
          have d1 : w.cell? ⟨b1, o1 + K, none⟩ = some (.int .i64 l[K]) := by have := c1; simp [iv] at this; exact this
          clear c1
          have HD := hid (drop_at l K hlt)
          generalize l[K] = x at d1 HD
          by_cases hx : 1 ≤ x
          · have e1 : decide (x < 1) = false := decide_eq_false (by omega)
            obtain ⟨X, rfl⟩ : ∃ X : Nat, x = (X : Int) := ⟨x.toNat, by omega⟩
            by_cases hm : a * X ≤ 4096
            · have e2 : decide ((4096 : Int) / (a : Int) < (X : Int)) = false := decide_eq_false (by
                rw [Int.not_lt]; exact (Int.le_ediv_iff_mul_le (by omega)).2 (by rw [← Int.natCast_mul, Nat.mul_comm]; omega))
              have HN := hid (show prodN 1 l = prodN (a * X) (l.drop (K + 1)) by
                rw [HP.out, HD.out]; simp only [prodN]
                rw [if_pos ⟨hx, by rw [← Int.natCast_mul]; omega⟩, Int.toNat_natCast])
              have HM := hid (show wrap64 ((a : Int) * (X : Int)) = ((a * X : Nat) : Int) by
                rw [← Int.natCast_mul]; exact Go.IntWalk.wrap64_in _ (by omega))
              have HX := hid (show 1 ≤ a * X ∧ a * X ≤ 4096 from ⟨Nat.mul_pos (by omega) (by omega), hm⟩)
              clear hx hm
              go_wp2_with fail
              go_round
              case rel => exact ⟨a * X, K + 1, by omega, by go_num, by rw [HM.out], HX.out.1, HX.out.2, HN.out⟩
              case measure => simp [intOf]; omega
            · have e2 : decide ((4096 : Int) / (a : Int) < (X : Int)) = true := decide_eq_true (by
                refine (Int.ediv_lt_iff_lt_mul (by omega)).2 ?_
                rw [← Int.natCast_mul, Nat.mul_comm]; omega)
              have HN := hid (show prodN 1 l = none by
                rw [HP.out, HD.out]; simp only [prodN]
                rw [if_neg (fun h => hm (by have := h.2; rw [← Int.natCast_mul] at this; omega))])
              clear hx hm
              go_wp2_with fail
              go_ret2
              exact ⟨by rw [HN.out]; rfl, rfl⟩
          · have e1 : decide (x < 1) = true := decide_eq_true (by omega)
            have HN := hid (show prodN 1 l = none by
              rw [HP.out, HD.out]; simp only [prodN]
              rw [if_neg (fun h => hx h.1)])
            clear hx
            go_wp2_with fail
            go_ret2
            exact ⟨by rw [HN.out]; rfl, rfl⟩
        · obtain rfl : K = l.length := by omega
          have HN := hid (show prodN 1 l = some a by rw [HP.out, List.drop_length]; rfl)
          go_wp2_with fail
          go_ret2
          exact ⟨by rw [HN.out]; rfl, rfl⟩
    · have e2 : decide ((6 : Int) < (l.length : Int)) = true := decide_eq_true (by omega)
      rw [if_neg (by omega)]
      clear h1 h2
      go_enter Try.func22, Try.ntmps22
      go_wp2_with fail
      go_ret2
      exact ⟨rfl, rfl⟩
  · have e1 : decide ((l.length : Int) < 1) = true := decide_eq_true (by omega)
    rw [if_neg (by omega)]
    clear h1
    go_enter Try.func22, Try.ntmps22
    go_wp2_with fail
    go_ret2
    exact ⟨rfl, rfl⟩
/-- a slab of the program's own: its head, its sizes, its contents, each in a block of its own -/
structure Slb (w : World) (b g h : Nat) (S C : List Int) : Prop where
  head : ∃ k m, S.length ≤ k ∧ C.length ≤ m ∧ w.heap[b]? = some (.cells #[.slice (some ⟨g, 0, none⟩) S.length k, .slice (some ⟨h, 0, none⟩) C.length m] 60 (0, 0))
  sz : Row w g S
  co : Row w h C
  ne : b ≠ g ∧ b ≠ h ∧ g ≠ h
theorem Slb.sb {w : World} {b g h : Nat} {S C : List Int} (H : Slb w b g h S C) : ∃ k m, S.length ≤ k ∧ C.length ≤ m ∧ Sb w b (some ⟨g, 0, none⟩) (some ⟨h, 0, none⟩) k m S C := by
  obtain ⟨k, m, h1, h2, e⟩ := H.head
  exact ⟨k, m, h1, h2, e, H.sz.cells, H.co.cells⟩
theorem Slb.lt {w : World} {b g h : Nat} {S C : List Int} (H : Slb w b g h S C) : b < w.heap.size := by obtain ⟨k, m, _, _, e⟩ := H.head; exact (Array.getElem?_eq_some_iff.1 e).1
/-- the blocks b, g, h -/
def B3 (b g h : Nat) (j : Nat) : Prop := j = b ∨ j = g ∨ j = h
theorem Slb.keep {w w' : World} {b g h : Nat} {S C : List Int} (H : Slb w b g h S C) (he : ∀ j, B3 b g h j → w'.heap[j]? = w.heap[j]?) : Slb w' b g h S C := by
  obtain ⟨k, m, h1, h2, e⟩ := H.head
  exact ⟨⟨k, m, h1, h2, (he b (.inl rfl)).trans e⟩, H.sz.keep (he g (.inr (.inl rfl))), H.co.keep (he h (.inr (.inr rfl))), H.ne⟩
theorem Slb.lts {w : World} {b g h : Nat} {S C : List Int} (H : Slb w b g h S C) : ∀ j, B3 b g h j → j < w.heap.size := fun j hj => by
  rcases hj with rfl | rfl | rfl
  · exact H.lt
  · exact H.sz.lt
  · exact H.co.lt
theorem Slb.below {w w' : World} {b g h : Nat} {S C : List Int} (H : Slb w b g h S C) (hb : Below w.heap.size w w') : Slb w' b g h S C := H.keep fun j hj => hb.block j (H.lts j hj)
/-- what makes a slab's sizes and contents fit -/
structure Fits (S : List Nat) (C : List Int) : Prop where
  some : S ≠ []
  few : S.length ≤ 6
  pos : ∀ s ∈ S, 0 < s
  most : prodL S ≤ 4096
  len : C.length = prodL S
/-- a new slab -/
def NewSlab (w : World) (S C : List Int) (e : Ending) (w' : World) : Prop := ∃ b g h, e = .returned (.tuple #[.pointer (some ⟨b, 0, none⟩), .int .i64 0]) ∧ Slb w' b g h S C ∧ (∀ j, B3 b g h j → w.heap.size ≤ j) ∧ Below w.heap.size w w'
set_option maxRecDepth 100000 in
set_option maxHeartbeats 2000000 in
theorem sizes_ok {w : World} {b g h : Nat} {S C : List Int} (H : Slb w b g h S C) (hl : S.length ≤ 1000000) :
    Calls Try.prog 26 #[.pointer (some ⟨b, 0, none⟩)] w (Cloned w S) := by
  obtain ⟨k, m, _, _, HS⟩ := H.sb
  have y0 := HS.cell0
  have HC := hid fun (V : World) (n : Nat) (hV : V = w.drewN n) => clone_ok S _ k V (hV ▸ HS.sz.drewN n) hl
  clear HS H
  go_enter Try.func26, Try.ntmps26
  go_wp2_with fail
  refine (HC.out _ 0 rfl).mono ?_
  rintro e w1 ⟨q, c', rfl, hcc, hr, hb, h0⟩
  have HCC := hid hcc
  have HQ := hid hr
  have H0 := hid h0
  have HB := hid hb
  clear hr hb h0 hcc
  go_wp2_with fail
  go_ret
  exact ⟨_, c', rfl, HCC.out, HQ.out, HB.out, H0.out⟩
set_option maxRecDepth 100000 in
set_option maxHeartbeats 2000000 in
theorem cells_ok {w : World} {b g h : Nat} {S C : List Int} (H : Slb w b g h S C) (hl : C.length ≤ 1000000) :
    Calls Try.prog 16 #[.pointer (some ⟨b, 0, none⟩)] w (Cloned w C) := by
  obtain ⟨k, m, _, _, HS⟩ := H.sb
  have y0 := HS.cell1
  have HC := hid fun (V : World) (n : Nat) (hV : V = w.drewN n) => clone_ok C _ m V (hV ▸ HS.co.drewN n) hl
  clear HS H
  go_enter Try.func16, Try.ntmps16
  go_wp2_with fail
  refine (HC.out _ 0 rfl).mono ?_
  rintro e w1 ⟨q, c', rfl, hcc, hr, hb, h0⟩
  have HCC := hid hcc
  have HQ := hid hr
  have H0 := hid h0
  have HB := hid hb
  clear hr hb h0 hcc
  go_wp2_with fail
  go_ret
  exact ⟨_, c', rfl, HCC.out, HQ.out, HB.out, H0.out⟩
/-- may there be a slab of these? -/
def ofAns (l C : List Int) : Bool := decide (prodAns l = some C.length)
set_option maxRecDepth 100000 in
set_option maxHeartbeats 2000000 in
theorem of_bad (l C : List Int) (p q : Option Addr) (c c' : Nat) (w : World) (h : CellsAt w p (iv l)) (hl : l.length ≤ 1000000) (hn : prodAns l ≠ some C.length) :
    Calls Try.prog 9 #[.slice p l.length c, .slice q C.length c'] w fun e w' => e = .returned (.tuple #[.pointer none, .int .i64 1]) ∧ w' = w := by
  have HP := hid (product_ok l p c w h hl)
  clear h
  cases hp : prodAns l with
  | none =>
    rw [hp] at HP
    unfold prodV at HP
    clear hn hp
    go_enter Try.func9, Try.ntmps9
    go_wp2_with fail
    refine HP.out.mono ?_
    rintro e w1 ⟨rfl, rfl⟩
    go_wp2_with fail
    go_ret2
    exact ⟨rfl, rfl⟩
  | some n =>
    rw [hp] at HP
    unfold prodV at HP
    have e1 : ((n : Int) != (C.length : Int)) = true := by
      have : n ≠ C.length := fun e => hn (by rw [hp, e])
      simp; omega
    clear hn hp
    go_enter Try.func9, Try.ntmps9
    go_wp2_with fail
    refine HP.out.mono ?_
    rintro e w1 ⟨rfl, rfl⟩
    go_wp2_with fail
    go_ret2
    exact ⟨rfl, rfl⟩
set_option maxRecDepth 100000 in
set_option maxHeartbeats 2000000 in
theorem of_ok (l C : List Int) (p q : Option Addr) (c c' : Nat) (w : World) (h : CellsAt w p (iv l)) (h2 : CellsAt w q (iv C)) (hl : l.length ≤ 1000000) (hl2 : C.length ≤ 1000000) (hn : prodAns l = some C.length) :
    Calls Try.prog 9 #[.slice p l.length c, .slice q C.length c'] w (NewSlab w l C) := by
  have HP := hid (product_ok l p c w h hl)
  rw [hn] at HP
  unfold prodV at HP
  have hpos : 0 < l.length ∧ 0 < C.length := by
    unfold prodAns at hn
    split at hn
    · rename_i hx
      obtain ⟨S, _, hs, hC, _⟩ := prodN_nat 1 l _ (Nat.le_refl _) (by omega) hn
      have := prodL_pos S hs
      omega
    · cases hn
  have HPOS := hid hpos
  have HC1 := hid fun (V : World) (hV : Below w.heap.size w V) => clone_ok l p c V (h.below hV) hl
  have HC2 := hid fun (V : World) (hV : Below w.heap.size w V) => clone_ok C q c' V (h2.below hV) hl2
  have e1 : ((C.length : Int) != (C.length : Int)) = false := by simp
  clear h h2 hn hpos
  go_enter Try.func9, Try.ntmps9
  go_wp2_with fail
  refine HP.out.mono ?_
  rintro e w1 ⟨rfl, rfl⟩
  go_wp2_with fail
  refine (HC1.out _ (Below.refl _ _)).mono ?_
  rintro e w2 ⟨q1, k1, rfl, hk1, -, hb, h0⟩
  have HK1 := hid hk1
  obtain ⟨rfl, hr⟩ := h0 HPOS.out.1
  have HR1 := hid hr
  have HT := hid hr.lt
  have HB1 := hid hb
  clear hr hb h0 hk1
  go_wp2_with fail
  refine (HC2.out _ HB1.out).mono ?_
  rintro e w3 ⟨q2, k2, rfl, hk2, -, hb, h0⟩
  have HK2 := hid hk2
  obtain ⟨rfl, hr⟩ := h0 HPOS.out.2
  have HR2 := hid hr
  have HR1 := hid (HR1.out.below hb)
  have HL := hid hb.size
  have HB2 := hid (HB1.out.trans (hb.mono HB1.out.size))
  clear hr hb h0 hk2
  go_wp2_with fail
  go_ret2
  have s1 := HB1.out.size
  have s2 := HL.out
  have s3 := HT.out
  have t1 := HR1.out.lt
  have t2 := HR2.out.lt
  refine ⟨_, _, _, rfl, ⟨⟨k1, k2, HK1.out, HK2.out, ?_⟩, HR1.out.below (below_alloc _ _), HR2.out.below (below_alloc _ _), ?_⟩, ?_, ?_⟩
  · simpa using heap_alloc_new w3 (.cells #[.slice (some ⟨w1.heap.size + 1, 0, none⟩) l.length k1, .slice (some ⟨w2.heap.size + 1, 0, none⟩) C.length k2] 60)
  · refine ⟨?_, ?_, ?_⟩
    all_goals (simp; try omega)
  · intro j hj
    rcases hj with rfl | rfl | rfl
    · omega
    · omega
    · omega
  · exact HB2.out.alloc HB2.out.size _
end Go.Proofs.Ytnmhdlincgefeaa.Sl
