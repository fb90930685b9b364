/- Merged out of KyMath, BkMath, KyBase, KyCmp, BkBase, BkSmall, BkApp. -/
import Derived.Test.YtaonifdfhlbaiaaGreatDoorRows
import Derived.WalkKit
import Derived.WalkSmall
import Derived.Lib.Hide
import Derived.LoopTactic
import Derived.RegionTactic
import Derived.Deep.QuietTactic
import Derived.BigQuiet
import Derived.ChangeAlike
import Derived.Below
import Derived.Laws.OwnMore
import Derived.Laws.AppendOwn
import Derived.WalkLawsBesides
import Derived.WalkSpells
import Derived.IntWalk
import Derived.Deep.RegionLaw
import Derived.Deep.RegionHeld3
import Derived.StillTailTactics
import Derived.Deep.AppendLies
import Derived.Deep.AppendSrc
import Derived.Test.YtaonifdfhlbaiaaGreatDoorS03
/- Points and boxes as plain lists of numbers. -/
namespace Go.Proofs.YtaonifdfhlbaiaaGreatDoor.Ky

/-- how two points stand -/
def cmp : List Nat → List Nat → Int
  | [], [] => 0
  | [], _ :: _ => -1
  | _ :: _, [] => 1
  | a :: l, b :: m => if a < b then -1 else if b < a then 1 else cmp l m
theorem cmp_self (l : List Nat) : cmp l l = 0 := by
  induction l with
  | nil => rfl
  | cons a l ih => simp [cmp, ih]
theorem cmp_zero {a b : List Nat} (h : cmp a b = 0) : a = b := by
  induction a generalizing b with
  | nil => cases b <;> simp_all [cmp]
  | cons x l ih =>
    cases b with
    | nil => simp [cmp] at h
    | cons y m =>
      simp only [cmp] at h
      split at h
      · simp at h
      · split at h
        · simp at h
        · have := ih h; subst this
          have : x = y := by omega
          rw [this]
theorem cmp_flip (a b : List Nat) : cmp a b = -cmp b a := by
  induction a generalizing b with
  | nil => cases b <;> simp [cmp]
  | cons x l ih =>
    cases b with
    | nil => simp [cmp]
    | cons y m =>
      simp only [cmp]
      by_cases h : x < y
      · have : ¬ y < x := by omega
        simp [h, this]
      · by_cases h' : y < x
        · simp [h, h']
        · simp [h, h', ih m]
theorem cmp_trans {a b c : List Nat} (h : cmp a b ≤ 0) (h' : cmp b c ≤ 0) : cmp a c ≤ 0 := by
  induction a generalizing b c with
  | nil => cases c <;> simp [cmp]
  | cons x l ih =>
    cases b with
    | nil => simp [cmp] at h
    | cons y m =>
      cases c with
      | nil => simp [cmp] at h'
      | cons z n =>
        simp only [cmp] at h h' ⊢
        by_cases h1 : x < y
        · by_cases h2 : y < z
          · rw [if_pos (by omega)]; omega
          · by_cases h3 : z < y
            · rw [if_neg h2, if_pos h3] at h'; simp at h'
            · rw [if_pos (by omega)]; omega
        · by_cases h2 : y < x
          · rw [if_neg h1, if_pos h2] at h; simp at h
          · rw [if_neg h1, if_neg h2] at h
            by_cases h3 : y < z
            · rw [if_pos (by omega)]; omega
            · by_cases h4 : z < y
              · rw [if_neg h3, if_pos h4] at h'; simp at h'
              · rw [if_neg h3, if_neg h4] at h'
                rw [if_neg (by omega), if_neg (by omega)]
                exact ih h h'
theorem cmp_cases (a b : List Nat) : cmp a b = -1 ∨ cmp a b = 0 ∨ cmp a b = 1 := by
  induction a generalizing b with
  | nil => cases b <;> simp [cmp]
  | cons x l ih =>
    cases b with
    | nil => simp [cmp]
    | cons y m =>
      simp only [cmp]
      split
      · simp
      · split
        · simp
        · exact ih m
/-- one step of it, at the k-th coordinates -/
theorem cmp_drop (a b : List Nat) (k : Nat) (h : k < a.length) (h' : k < b.length) :
    cmp (a.drop k) (b.drop k) = if a[k] < b[k] then -1 else if b[k] < a[k] then 1 else cmp (a.drop (k + 1)) (b.drop (k + 1)) := by
  rw [List.drop_eq_getElem_cons h, List.drop_eq_getElem_cons h']; rfl
theorem cmp_left (a b : List Nat) (k : Nat) (h : k < a.length) (h' : b.length ≤ k) : cmp (a.drop k) (b.drop k) = 1 := by
  rw [List.drop_eq_getElem_cons h, List.drop_eq_nil_of_le h']; rfl
theorem cmp_right (a b : List Nat) (k : Nat) (h : a.length ≤ k) (h' : k < b.length) : cmp (a.drop k) (b.drop k) = -1 := by
  rw [List.drop_eq_getElem_cons h', List.drop_eq_nil_of_le h]; rfl
theorem cmp_end (a b : List Nat) (k : Nat) (h : a.length ≤ k) (h' : b.length ≤ k) : cmp (a.drop k) (b.drop k) = 0 := by
  rw [List.drop_eq_nil_of_le h, List.drop_eq_nil_of_le h']; rfl

/-- as many coordinates, and none above -/
def leAll : List Nat → List Nat → Bool
  | [], [] => true
  | a :: l, b :: m => decide (a ≤ b) && leAll l m
  | _, _ => false
theorem leAll_len {a b : List Nat} (h : leAll a b = true) : a.length = b.length := by
  induction a generalizing b with
  | nil => cases b <;> simp_all [leAll]
  | cons x l ih =>
    cases b with
    | nil => simp [leAll] at h
    | cons y m => simp only [leAll, Bool.and_eq_true] at h; simp [ih h.2]
theorem leAll_ne {a b : List Nat} (h : a.length ≠ b.length) : leAll a b = false := by
  cases e : leAll a b with
  | false => rfl
  | true => exact absurd (leAll_len e) h
theorem leAll_iff {a b : List Nat} : leAll a b = true ↔ a.length = b.length ∧ ∀ i (h : i < a.length) (h' : i < b.length), a[i] ≤ b[i] := by
  induction a generalizing b with
  | nil => cases b <;> simp [leAll]
  | cons x l ih =>
    cases b with
    | nil => simp [leAll]
    | cons y m =>
      simp only [leAll, Bool.and_eq_true, decide_eq_true_eq, ih, List.length_cons, Nat.add_right_cancel_iff]
      constructor
      · rintro ⟨h1, h2, h3⟩
        refine ⟨h2, fun i hi hi' => ?_⟩
        cases i with
        | zero => exact h1
        | succ i => exact h3 i (by omega) (by omega)
      · rintro ⟨h1, h2⟩
        exact ⟨h2 0 (by omega) (by omega), h1, fun i hi hi' => h2 (i + 1) (by omega) (by omega)⟩
theorem leAll_refl (a : List Nat) : leAll a a = true := leAll_iff.2 ⟨rfl, fun _ _ _ => Nat.le_refl _⟩
theorem leAll_no {a b : List Nat} (k : Nat) (h : k < a.length) (h' : k < b.length) (hk : b[k] < a[k]) : leAll a b = false := by
  cases e : leAll a b with
  | false => rfl
  | true => have := (leAll_iff.1 e).2 k h h'; omega
theorem leAll_drop (a b : List Nat) (k : Nat) (h : k < a.length) (h' : k < b.length) :
    leAll (a.drop k) (b.drop k) = (decide (a[k] ≤ b[k]) && leAll (a.drop (k + 1)) (b.drop (k + 1))) := by
  rw [List.drop_eq_getElem_cons h, List.drop_eq_getElem_cons h']; rfl
theorem leAll_end (a b : List Nat) (k : Nat) (h : a.length ≤ k) (h' : b.length ≤ k) : leAll (a.drop k) (b.drop k) = true := by
  rw [List.drop_eq_nil_of_le h, List.drop_eq_nil_of_le h']; rfl

def mayN (n : Nat) : Bool := decide (1 ≤ n) && decide (n ≤ 6)
/-- may a box be, of so many coordinates? -/
def boxN (lo hi : List Nat) (n : Nat) : Bool := mayN n && (decide (lo.length = n) && leAll lo hi)
/-- is a point in a box? -/
def inB (k lo hi : List Nat) : Bool := leAll lo k && leAll k hi
def hiOf (a b : List Nat) : List Nat := List.zipWith max a b
def loOf (a b : List Nat) : List Nat := List.zipWith min a b
def four (al ah bl bh : List Nat) : Bool := decide (ah.length = al.length) && (decide (bl.length = al.length) && decide (bh.length = al.length))
/-- do two boxes meet? -/
def meetB (al ah bl bh : List Nat) : Bool := four al ah bl bh && boxN (hiOf al bl) (loOf ah bh) al.length
def meetLo (al ah bl bh : List Nat) : List Nat := if meetB al ah bl bh then hiOf al bl else []
def meetHi (al ah bl bh : List Nat) : List Nat := if meetB al ah bl bh then loOf ah bh else []

theorem hiOf_length {a b : List Nat} (h : b.length = a.length) : (hiOf a b).length = a.length := by simp [hiOf]; omega
theorem loOf_length {a b : List Nat} (h : b.length = a.length) : (loOf a b).length = a.length := by simp [loOf]; omega
theorem hiOf_comm (a b : List Nat) : hiOf a b = hiOf b a := by
  unfold hiOf; rw [List.zipWith_comm]; congr 1; funext x y; exact Nat.max_comm _ _
theorem loOf_comm (a b : List Nat) : loOf a b = loOf b a := by
  unfold loOf; rw [List.zipWith_comm]; congr 1; funext x y; exact Nat.min_comm _ _
theorem four_comm (al ah bl bh : List Nat) : four al ah bl bh = four bl bh al ah := by
  unfold four; rw [Bool.eq_iff_iff]; simp; omega
theorem meetB_comm (al ah bl bh : List Nat) : meetB al ah bl bh = meetB bl bh al ah := by
  unfold meetB
  rw [← four_comm al ah bl bh]
  cases h : four al ah bl bh with
  | false => rfl
  | true =>
    simp [four] at h
    rw [hiOf_comm, loOf_comm, show bl.length = al.length from h.2.1]
theorem le_hiOf {k a b : List Nat} (h : b.length = a.length) : leAll (hiOf a b) k = (leAll a k && leAll b k) := by
  have hl := hiOf_length h
  rw [Bool.eq_iff_iff, Bool.and_eq_true, leAll_iff, leAll_iff, leAll_iff]
  constructor
  · rintro ⟨h1, h2⟩
    refine ⟨⟨by omega, fun i hi hi' => ?_⟩, by omega, fun i hi hi' => ?_⟩
    · have := h2 i (by omega) (by omega); simp only [hiOf, List.getElem_zipWith] at this; omega
    · have := h2 i (by omega) (by omega); simp only [hiOf, List.getElem_zipWith] at this; omega
  · rintro ⟨⟨h1, h2⟩, h3, h4⟩
    refine ⟨by omega, fun i hi hi' => ?_⟩
    have a1 := h2 i (by omega) (by omega)
    have a2 := h4 i (by omega) (by omega)
    simp only [hiOf, List.getElem_zipWith]; omega
theorem loOf_le {k a b : List Nat} (h : b.length = a.length) : leAll k (loOf a b) = (leAll k a && leAll k b) := by
  have hl := loOf_length h
  rw [Bool.eq_iff_iff, Bool.and_eq_true, leAll_iff, leAll_iff, leAll_iff]
  constructor
  · rintro ⟨h1, h2⟩
    refine ⟨⟨by omega, fun i hi hi' => ?_⟩, by omega, fun i hi hi' => ?_⟩
    · have := h2 i (by omega) (by omega); simp only [loOf, List.getElem_zipWith] at this; omega
    · have := h2 i (by omega) (by omega); simp only [loOf, List.getElem_zipWith] at this; omega
  · rintro ⟨⟨h1, h2⟩, h3, h4⟩
    refine ⟨by omega, fun i hi hi' => ?_⟩
    have a1 := h2 i (by omega) (by omega)
    have a2 := h4 i (by omega) (by omega)
    simp only [loOf, List.getElem_zipWith]; omega
theorem leAll_trans {a b c : List Nat} (h : leAll a b = true) (h' : leAll b c = true) : leAll a c = true := by
  rw [leAll_iff] at *
  refine ⟨by omega, fun i hi hi' => ?_⟩
  have := h.2 i hi (by omega); have := h'.2 i (by omega) hi'; omega
/-- a point is in what two boxes have both, if it is in both -/
theorem meet_in {k al ah bl bh : List Nat} (ha : boxN al ah k.length = true) (hb : boxN bl bh k.length = true) :
    (meetB al ah bl bh && inB k (meetLo al ah bl bh) (meetHi al ah bl bh)) = (inB k al ah && inB k bl bh) := by
  simp only [boxN, Bool.and_eq_true, decide_eq_true_eq] at ha hb
  have h1 := leAll_len ha.2.2
  have h2 := leAll_len hb.2.2
  have hf : four al ah bl bh = true := by simp [four]; omega
  cases hm : meetB al ah bl bh with
  | true =>
    simp only [meetLo, meetHi, hm, if_true, inB, Bool.true_and]
    rw [le_hiOf (by omega), loOf_le (by omega)]
    cases leAll al k <;> cases leAll bl k <;> cases leAll k ah <;> cases leAll k bh <;> rfl
  | false =>
    rw [Bool.false_and]
    symm
    cases hi : inB k al ah && inB k bl bh with
    | false => rfl
    | true =>
      exfalso
      simp only [inB, Bool.and_eq_true] at hi
      have e1 : leAll (hiOf al bl) k = true := by rw [le_hiOf (by omega), hi.1.1, hi.2.1]; rfl
      have e2 : leAll k (loOf ah bh) = true := by rw [loOf_le (by omega), hi.1.2, hi.2.2]; rfl
      have e3 := leAll_trans e1 e2
      have : meetB al ah bl bh = true := by
        simp only [meetB, hf, boxN, Bool.true_and, Bool.and_eq_true, decide_eq_true_eq]
        exact ⟨by rw [ha.2.1]; exact ha.1, hiOf_length (by omega), e3⟩
      rw [this] at hm; simp at hm
theorem hiOf_one {k a : List Nat} (h : leAll a k = true) : hiOf a k = k := by
  apply List.ext_getElem
  · rw [hiOf_length (leAll_len h).symm]; exact leAll_len h
  · intro i h1 h2
    have := (leAll_iff.1 h).2 i (by have := leAll_len h; omega) h2
    simp only [hiOf, List.getElem_zipWith]; omega
theorem loOf_one {k a : List Nat} (h : leAll k a = true) : loOf a k = k := by
  apply List.ext_getElem
  · rw [loOf_length (leAll_len h)]; exact (leAll_len h).symm
  · intro i h1 h2
    have := (leAll_iff.1 h).2 i h2 (by have := leAll_len h; omega)
    simp only [loOf, List.getElem_zipWith]; omega
/-- a box and one point: they meet just if that is in it; then in that -/
theorem meet_one {k lo hi : List Nat} (hb : boxN lo hi k.length = true) : meetB lo hi k k = inB k lo hi := by
  have h := hb
  simp only [boxN, Bool.and_eq_true, decide_eq_true_eq] at h
  have h1 := leAll_len h.2.2
  have hk : boxN k k k.length = true := by simp [boxN, h.1, leAll_refl]
  have := meet_in hb hk
  have e : inB k k k = true := by simp [inB, leAll_refl]
  rw [e, Bool.and_true] at this
  cases hm : meetB lo hi k k with
  | false => rw [hm, Bool.false_and] at this; exact this
  | true =>
    have hm' := hm
    simp only [meetB, boxN, Bool.and_eq_true] at hm'
    have e3 := hm'.2.2.2
    -- the greater ones of Low are not above the lesser ones of High: the point is between
    have a1 := leAll_iff.1 e3
    have l1 : (hiOf lo k).length = lo.length := hiOf_length (by omega)
    have l2 : (loOf hi k).length = hi.length := loOf_length (by omega)
    symm
    simp only [inB, Bool.and_eq_true, leAll_iff]
    refine ⟨⟨by omega, fun i hi1 hi2 => ?_⟩, by omega, fun i hi1 hi2 => ?_⟩
    · have := a1.2 i (by omega) (by omega)
      simp only [hiOf, loOf, List.getElem_zipWith] at this; omega
    · have := a1.2 i (by omega) (by omega)
      simp only [hiOf, loOf, List.getElem_zipWith] at this; omega

/-- the bits, the highest first -/
def bitK (k : List Nat) (i : Nat) : Nat := k.getD (i % k.length) 0 / 2 ^ (31 - i / k.length) % 2
def bitsK (k : List Nat) : Nat → Nat
  | 0 => 0
  | n + 1 => 2 * bitsK k n + bitK k n
theorem bitK_lt (k : List Nat) (i : Nat) : bitK k i < 2 := Nat.mod_lt _ (by omega)
theorem bitsK_lt (k : List Nat) (n : Nat) : bitsK k n < 2 ^ n := by
  induction n with
  | zero => simp [bitsK]
  | succ n ih => have := bitK_lt k n; simp only [bitsK, Nat.pow_succ]; omega
theorem bitsK_shift (k : List Nat) (n d : Nat) : bitsK k (n + d) / 2 ^ d = bitsK k n := by
  induction d with
  | zero => simp
  | succ d ih =>
    have := bitK_lt k (n + d)
    have e : (n + (d + 1)) = (n + d) + 1 := by omega
    rw [e]
    simp only [bitsK]
    rw [Nat.pow_succ, Nat.mul_comm (2 ^ d), ← Nat.div_div_eq_div_mul]
    have : (2 * bitsK k (n + d) + bitK k (n + d)) / 2 = bitsK k (n + d) := by omega
    rw [this, ih]
def bitsOk (l : Nat) (n : Int) : Bool := mayN l && (decide (0 ≤ n) && decide (n ≤ 30))

/-- where some coordinates stand: each below the dimension, and they rise -/
def rises (dim : Nat) : Int → List Int → Bool
  | _, [] => true
  | least, c :: l => decide (least ≤ c) && (decide (c < dim) && rises dim (c + 1) l)
/-- a point of which some coordinates are put in -/
def puts : List Nat → List Int → List Nat → List Nat
  | b, c :: at_, x :: k => puts (b.set c.toNat x) at_ k
  | b, _, _ => b
def lowW (dim : Nat) : List Nat := List.replicate dim 0
def highW (dim : Nat) : List Nat := List.replicate dim 4294967295
def wholeLo (dim : Int) : List Nat := if 1 ≤ dim ∧ dim ≤ 6 then lowW dim.toNat else []
def wholeHi (dim : Int) : List Nat := if 1 ≤ dim ∧ dim ≤ 6 then highW dim.toNat else []
def partOk (dim : Int) (at_ : List Int) (k : List Nat) : Bool := decide (1 ≤ dim ∧ dim ≤ 6) && (decide (at_.length = k.length) && rises dim.toNat 0 at_)
def partLo (dim : Int) (at_ : List Int) (k : List Nat) : List Nat := if partOk dim at_ k then puts (lowW dim.toNat) at_ k else []
def partHi (dim : Int) (at_ : List Int) (k : List Nat) : List Nat := if partOk dim at_ k then puts (highW dim.toNat) at_ k else []
end Go.Proofs.YtaonifdfhlbaiaaGreatDoor.Ky

/- Lists of records, plainly: in order, how many are less, put in, taken out, how many bytes. -/
namespace Go.Proofs.YtaonifdfhlbaiaaGreatDoor.Bk
open Go.Proofs.YtaonifdfhlbaiaaGreatDoor.Ky

/-- a record: its point, its bytes -/
abbrev Rec := List Nat × ByteArray
/-- rising, each point once -/
def upL (L : List Rec) : Prop := L.Pairwise fun a b => cmp a.1 b.1 < 0
theorem cmp_lt_trans {a b c : List Nat} (h : cmp a b < 0) (h' : cmp b c < 0) : cmp a c < 0 := by
  have h1 := cmp_trans (Int.le_of_lt h) (Int.le_of_lt h')
  rcases cmp_cases a c with e | e | e
  · omega
  · have e2 := cmp_zero e
    subst e2
    have := cmp_flip a b
    omega
  · omega
theorem cmp_le_lt {a b c : List Nat} (h : cmp a b ≤ 0) (h' : cmp b c < 0) : cmp a c < 0 := by
  rcases cmp_cases a b with e | e | e
  · exact cmp_lt_trans (by omega) h'
  · have := cmp_zero e; subst this; exact h'
  · omega
theorem cmp_lt_le {a b c : List Nat} (h : cmp a b < 0) (h' : cmp b c ≤ 0) : cmp a c < 0 := by
  rcases cmp_cases b c with e | e | e
  · exact cmp_lt_trans h (by omega)
  · have := cmp_zero e; subst this; exact h
  · omega
/-- are neighbours rising? (up to the place n) -/
def upTo (L : List Rec) (n : Nat) : Prop := ∀ i, (h : i + 1 < L.length) → i + 1 < n → cmp (L[i]'(by omega)).1 L[i + 1].1 < 0
theorem upTo_all {L : List Rec} (h : upTo L L.length) : upL L := by
  have key : ∀ i j, (hj : j < L.length) → (hi : i < j) → cmp (L[i]'(by omega)).1 L[j].1 < 0 := by
    intro i j
    induction j with
    | zero => intro _ hi; omega
    | succ j ih =>
      intro hj hi
      have h1 := h j hj (by omega)
      by_cases e : i = j
      · subst e; exact h1
      · exact cmp_lt_trans (ih (by omega) (by omega)) h1
  exact List.pairwise_iff_getElem.2 fun i j hi hj hij => key i j hj hij
theorem all_upTo {L : List Rec} (h : upL L) (n : Nat) : upTo L n := fun i hi _ => List.pairwise_iff_getElem.1 h i (i + 1) (by omega) hi (by omega)
theorem upTo_succ {L : List Rec} {n : Nat} (h : upTo L n) (h1 : 1 ≤ n) (hn : n < L.length) (hc : cmp (L[n - 1]'(by omega)).1 L[n].1 < 0) : upTo L (n + 1) := by
  intro i hi hin
  by_cases e : i + 1 = n
  · subst e; exact hc
  · exact h i hi (by omega)
/-- how many points are less than k -/
def lessN (L : List Rec) (k : List Nat) : Nat := (L.takeWhile fun r => decide (cmp r.1 k < 0)).length
theorem lessN_le (L : List Rec) (k : List Nat) : lessN L k ≤ L.length := by
  unfold lessN
  induction L with
  | nil => simp
  | cons a l ih => rw [List.takeWhile_cons]; split <;> simp <;> omega
/-- the place is told by what stands ahead of it and at it -/
theorem lessN_at {L : List Rec} {k : List Nat} (n : Nat) (hn : n ≤ L.length) (h1 : ∀ i, (h : i < L.length) → i < n → cmp L[i].1 k < 0) (h2 : (h : n < L.length) → ¬ cmp L[n].1 k < 0) : lessN L k = n := by
  unfold lessN
  induction L generalizing n with
  | nil => simp at hn ⊢; omega
  | cons a l ih =>
    rw [List.takeWhile_cons]
    cases n with
    | zero =>
      have := h2 (by simp)
      simp at this
      rw [if_neg (by simp; omega)]
      rfl
    | succ n =>
      have := h1 0 (by simp) (by omega)
      simp at this
      rw [if_pos (by simpa using this)]
      simp only [List.length_cons, Nat.add_right_cancel_iff]
      exact ih n (by simpa using hn) (fun i h hi => by have := h1 (i + 1) (by simpa using h) (by omega); simpa using this) (fun h => by have := h2 (by simpa using h); simpa using this)
theorem lessN_spec (L : List Rec) (k : List Nat) : (∀ i, (h : i < L.length) → i < lessN L k → cmp L[i].1 k < 0) ∧ ((h : lessN L k < L.length) → ¬ cmp L[lessN L k].1 k < 0) := by
  induction L with
  | nil => exact ⟨fun i h => absurd h (by simp), fun h => absurd h (by simp)⟩
  | cons a l ih =>
    by_cases hp : cmp a.1 k < 0
    · have e : lessN (a :: l) k = lessN l k + 1 := by unfold lessN; rw [List.takeWhile_cons, if_pos (by simpa using hp)]; rfl
      refine ⟨fun i h hi => ?_, fun h => ?_⟩
      · cases i with
        | zero => exact hp
        | succ i => exact ih.1 i (by simpa using h) (by omega)
      · simp only [e] at h ⊢
        exact ih.2 (by simpa using h)
    · have e : lessN (a :: l) k = 0 := by unfold lessN; rw [List.takeWhile_cons, if_neg (by simpa using hp)]; rfl
      refine ⟨fun i h hi => by omega, fun h => ?_⟩
      simp only [e]
      exact hp
/-- is there one of the point k, at its place? -/
def hasN (L : List Rec) (k : List Nat) : Bool := match L[lessN L k]? with | some r => cmp r.1 k == 0 | none => false
theorem hasN_iff {L : List Rec} {k : List Nat} : hasN L k = true ↔ ∃ h : lessN L k < L.length, L[lessN L k].1 = k := by
  unfold hasN
  by_cases h : lessN L k < L.length
  · rw [List.getElem?_eq_getElem h]
    simp only [beq_iff_eq]
    exact ⟨fun e => ⟨h, cmp_zero e⟩, fun ⟨_, e⟩ => by rw [e]; exact cmp_self _⟩
  · rw [List.getElem?_eq_none (by omega)]
    exact ⟨fun e => absurd e (by simp), fun ⟨h', _⟩ => absurd h' h⟩
/-- of a rising list: what stands at the place or behind it is not less -/
theorem up_behind {L : List Rec} {k : List Nat} (hu : upL L) {i : Nat} (hi : i < L.length) (h : lessN L k ≤ i) : ¬ cmp L[i].1 k < 0 := by
  have hn : lessN L k < L.length := by omega
  have h2 := (lessN_spec L k).2 hn
  by_cases e : lessN L k = i
  · subst e; exact h2
  · have h3 := List.pairwise_iff_getElem.1 hu (lessN L k) i hn hi (by omega)
    intro h4
    exact h2 (cmp_lt_trans h3 h4)
/-- of a rising list: it has the point, at some place, just if at its place -/
theorem up_at {L : List Rec} {k : List Nat} (hu : upL L) {i : Nat} (hi : i < L.length) (h : L[i].1 = k) : lessN L k = i := by
  refine lessN_at i (by omega) (fun j hj hji => ?_) (fun _ => by rw [h, cmp_self]; omega)
  rw [← h]
  exact List.pairwise_iff_getElem.1 hu j i hj hi hji
theorem getElem_same {α : Type} {L : List α} {a b : Nat} (ha : a < L.length) (hb : b < L.length) (h : a = b) : L[a] = L[b] := by subst h; rfl
/-- a record put in -/
def putR (L : List Rec) (r : Rec) : List Rec := L.take (lessN L r.1) ++ r :: L.drop (if hasN L r.1 then lessN L r.1 + 1 else lessN L r.1)
/-- a record taken out -/
def cutR (L : List Rec) (k : List Nat) : List Rec := if hasN L k then L.take (lessN L k) ++ L.drop (lessN L k + 1) else L
theorem putR_length (L : List Rec) (r : Rec) : (putR L r).length = if hasN L r.1 then L.length else L.length + 1 := by
  unfold putR
  have h1 := lessN_le L r.1
  cases h : hasN L r.1 with
  | true =>
    obtain ⟨h2, _⟩ := hasN_iff.1 h
    simp; omega
  | false => simp; omega
theorem cutR_length (L : List Rec) (k : List Nat) : (cutR L k).length = if hasN L k then L.length - 1 else L.length := by
  unfold cutR
  cases h : hasN L k with
  | true =>
    obtain ⟨h2, _⟩ := hasN_iff.1 h
    simp; omega
  | false => simp
theorem up_put {L : List Rec} (hu : upL L) (r : Rec) : upL (putR L r) := by
  unfold putR
  have hs := lessN_spec L r.1
  refine List.pairwise_append.2 ⟨hu.sublist (List.take_sublist _ _), List.pairwise_cons.2 ⟨fun b hb => ?_, hu.sublist (List.drop_sublist _ _)⟩, fun a ha b hb => ?_⟩
  · obtain ⟨i, hi, rfl⟩ := List.getElem_of_mem hb
    rw [List.getElem_drop]
    rw [List.length_drop] at hi
    have hge := up_behind hu (k := r.1) (i := (if hasN L r.1 = true then lessN L r.1 + 1 else lessN L r.1) + i) (by omega) (by split <;> omega)
    have hne : cmp (L[(if hasN L r.1 = true then lessN L r.1 + 1 else lessN L r.1) + i]'(by omega)).1 r.1 ≠ 0 := by
      intro e
      have e2 := up_at hu (by omega) (cmp_zero e)
      have hlt : lessN L r.1 < L.length := by omega
      have hh : hasN L r.1 = true := hasN_iff.2 ⟨hlt, (congrArg Prod.fst (getElem_same hlt (by omega) e2)).trans (cmp_zero e)⟩
      rw [hh] at e2
      simp at e2
      omega
    have hf := cmp_flip r.1 (L[(if hasN L r.1 = true then lessN L r.1 + 1 else lessN L r.1) + i]'(by omega)).1
    rcases cmp_cases (L[(if hasN L r.1 = true then lessN L r.1 + 1 else lessN L r.1) + i]'(by omega)).1 r.1 with e | e | e <;> omega
  · obtain ⟨i, hi, rfl⟩ := List.getElem_of_mem ha
    rw [List.length_take] at hi
    have hl : cmp (L[i]'(by omega)).1 r.1 < 0 := hs.1 i (by omega) (by omega)
    rw [List.getElem_take]
    rcases List.mem_cons.1 hb with rfl | hb
    · exact hl
    · obtain ⟨j, hj, rfl⟩ := List.getElem_of_mem hb
      rw [List.length_drop] at hj
      rw [List.getElem_drop]
      exact List.pairwise_iff_getElem.1 hu i _ (by omega) (by omega) (by split <;> omega)
theorem up_cut {L : List Rec} (hu : upL L) (k : List Nat) : upL (cutR L k) := by
  unfold cutR
  split
  · refine List.pairwise_append.2 ⟨hu.sublist (List.take_sublist _ _), hu.sublist (List.drop_sublist _ _), fun a ha b hb => ?_⟩
    obtain ⟨i, hi, rfl⟩ := List.getElem_of_mem ha
    obtain ⟨j, hj, rfl⟩ := List.getElem_of_mem hb
    rw [List.length_take] at hi
    rw [List.length_drop] at hj
    rw [List.getElem_take, List.getElem_drop]
    exact List.pairwise_iff_getElem.1 hu i _ (by omega) (by omega) (by omega)
  · exact hu
/-- the place of what was put -/
theorem put_place {L : List Rec} (r : Rec) : lessN (putR L r) r.1 = lessN L r.1 ∧ hasN (putR L r) r.1 = true ∧ (putR L r)[lessN L r.1]? = some r := by
  have hs := lessN_spec L r.1
  have hl := lessN_le L r.1
  have ht : (L.take (lessN L r.1)).length = lessN L r.1 := by rw [List.length_take]; omega
  have hg : (putR L r)[lessN L r.1]? = some r := by
    unfold putR
    rw [List.getElem?_append_right (by omega), ht, Nat.sub_self]; rfl
  obtain ⟨hlt, he⟩ := List.getElem?_eq_some_iff.1 hg
  have e1 : lessN (putR L r) r.1 = lessN L r.1 := by
    refine lessN_at _ (by omega) (fun i hi hin => ?_) (fun _ => by rw [he, cmp_self]; omega)
    have h1 : (putR L r)[i]? = L[i]? := by
      unfold putR
      rw [List.getElem?_append_left (by omega), List.getElem?_take_of_lt hin]
    have h2 : i < L.length := by omega
    rw [List.getElem?_eq_getElem hi, List.getElem?_eq_getElem h2] at h1
    rw [Option.some.inj h1]
    exact hs.1 i (by omega) hin
  refine ⟨e1, hasN_iff.2 ⟨by omega, ?_⟩, hg⟩
  simp only [e1, he]
/-- what was put is cut again -/
theorem cut_put {L : List Rec} (r : Rec) (h : hasN L r.1 = false) : cutR (putR L r) r.1 = L := by
  obtain ⟨h1, h2, _⟩ := put_place (L := L) r
  have hl := lessN_le L r.1
  have ht : (L.take (lessN L r.1)).length = lessN L r.1 := by rw [List.length_take]; omega
  unfold cutR
  rw [if_pos h2, h1]
  have e : (L.take (lessN L r.1) ++ r :: L.drop (lessN L r.1)).drop (lessN L r.1 + 1) = L.drop (lessN L r.1) := by
    rw [List.drop_append, ht, List.drop_eq_nil_of_le (by omega), show lessN L r.1 + 1 - lessN L r.1 = 1 by omega]; rfl
  unfold putR
  rw [h]
  simp only [Bool.false_eq_true, if_false]
  rw [e, List.take_append_of_le_length (by omega), List.take_of_length_le (by omega), List.take_append_drop]
/-- how many bytes records take -/
def sizeR (L : List Rec) : Nat := 1 + (L.map fun r => 4 * r.1.length + 1 + r.2.size).sum
theorem sizeR_snoc (L : List Rec) (r : Rec) : sizeR (L ++ [r]) = sizeR L + (4 * r.1.length + 1 + r.2.size) := by
  unfold sizeR; simp; omega
theorem sizeR_take (L : List Rec) (k : Nat) (h : k < L.length) : sizeR (L.take (k + 1)) = sizeR (L.take k) + (4 * L[k].1.length + 1 + L[k].2.size) := by
  rw [List.take_succ_eq_append_getElem h, sizeR_snoc]
theorem sizeR_mono (L : List Rec) (k : Nat) : sizeR (L.take k) ≤ sizeR L := by
  have : sizeR L = sizeR (L.take k) + ((L.drop k).map fun r => 4 * r.1.length + 1 + r.2.size).sum := by
    have e : L.map (fun r => 4 * r.1.length + 1 + r.2.size) = (L.take k).map (fun r => 4 * r.1.length + 1 + r.2.size) ++ (L.drop k).map (fun r => 4 * r.1.length + 1 + r.2.size) := by rw [← List.map_append, List.take_append_drop]
    unfold sizeR
    rw [e, List.sum_append]; omega
  omega
/-- may a record be, of dim coordinates? -/
def mayR (r : Rec) (dim : Int) : Bool := decide (1 ≤ dim ∧ dim ≤ 6) && (decide ((r.1.length : Int) = dim) && decide (r.2.size ≤ 40))
/-- a bucket, of dim coordinates -/
def isB (L : List Rec) (dim : Int) : Prop := (∀ r ∈ L, mayR r dim = true) ∧ upL L
/-- few records -/
def fewR (L : List Rec) : Prop := L.length ≤ 60 ∧ ∀ r ∈ L, r.1.length ≤ 20 ∧ r.2.size ≤ 100
end Go.Proofs.YtaonifdfhlbaiaaGreatDoor.Bk

/- Points in memory; the small calls of key. -/
namespace Go.Proofs.YtaonifdfhlbaiaaGreatDoor.Ky
open Go.RowKit
open Go.Lib (hid)

/-- a point that came in, or was made: its cells, whatever it begins at, and that its coordinates fit -/
structure Pt (w : World) (p : Option Addr) (l : List Nat) : Prop where
  cells : ∀ j, (hj : j < l.length) → ∃ b off, p = some ⟨b, off, none⟩ ∧ b < w.heap.size ∧ w.cell? ⟨b, off + j, none⟩ = some (.int .u32 (l[j] : Int))
  fit : ∀ j, (hj : j < l.length) → l[j] < 4294967296
theorem Pt.below {w w' : World} {p : Option Addr} {l : List Nat} (h : Pt w p l) (hb : Below w.heap.size w w') : Pt w' p l :=
  ⟨fun j hj => by
    obtain ⟨b, off, e, hlt, hc⟩ := h.cells j hj
    exact ⟨b, off, e, Nat.lt_of_lt_of_le hlt hb.size, (hb.cell hlt).trans hc⟩, h.fit⟩
theorem Pt.drew {w : World} {p : Option Addr} {l : List Nat} (h : Pt w p l) : Pt w.drew p l := ⟨h.cells, h.fit⟩
theorem Pt.drewN {w : World} {p : Option Addr} {l : List Nat} (h : Pt w p l) (n : Nat) : Pt (w.drewN n) p l := ⟨h.cells, h.fit⟩
theorem Pt.nil (w : World) (p : Option Addr) : Pt w p [] := ⟨fun j hj => absurd hj (by simp), fun j hj => absurd hj (by simp)⟩
theorem below_alloc (w : World) (o : Obj) : Below w.heap.size w (w.alloc o) := (Below.refl _ _).alloc (Nat.le_refl _) _
theorem Pt.alloc {w : World} {p : Option Addr} {l : List Nat} (h : Pt w p l) (o : Obj) : Pt (w.alloc o) p l := h.below (below_alloc w o)

theorem below_drewN {B : Nat} {w w' : World} (h : Below B w w') (n : Nat) : Below B w (w'.drewN n) := ⟨h.os, h.tape, h.output, h.size, h.block⟩
def mayB (d : Int) : Bool := decide (1 ≤ d) && decide (d ≤ 6)
/-- 0, or BadRequest -/
def err (b : Bool) : Int := if b then 0 else 1
def checkB (n : Nat) (d : Int) : Bool := mayB d && decide ((n : Int) = d)
theorem mayB_nat (n : Nat) : mayB (n : Int) = mayN n := by
  unfold mayB mayN; rw [Bool.eq_iff_iff]; simp; omega

theorem err_true (b : Bool) (h : b = true) : err b = 0 := by subst h; rfl
theorem err_false (b : Bool) (h : b = false) : err b = 1 := by subst h; rfl
theorem ret_int {k : IntKind} {a b : Int} (h : a = b) : Ending.returned (.int k a) = .returned (.int k b) := by rw [h]
def cmp1 (a b : Nat) : Int := if a < b then -1 else if b < a then 1 else 0
end Go.Proofs.YtaonifdfhlbaiaaGreatDoor.Ky

/- Compare of both sides. -/
namespace Go.Proofs.YtaonifdfhlbaiaaGreatDoor.Ky
open Go.RowKit
open Go.Lib (hid)

theorem cmp_step (l m : List Nat) (k : Nat) (h : k < l.length) (h' : k < m.length) (he : cmp1 l[k] m[k] = 0) : cmp (l.drop (k + 1)) (m.drop (k + 1)) = cmp (l.drop k) (m.drop k) := by
  rw [cmp_drop l m k h h']
  unfold cmp1 at he
  split at he
  · simp at he
  · split at he
    · simp at he
    · rw [if_neg (by assumption), if_neg (by assumption)]
theorem cmp_stop (l m : List Nat) (k : Nat) (h : k < l.length) (h' : k < m.length) (he : cmp1 l[k] m[k] ≠ 0) : cmp (l.drop k) (m.drop k) = cmp1 l[k] m[k] := by
  rw [cmp_drop l m k h h']
  unfold cmp1 at he ⊢
  split
  · rfl
  · split
    · rfl
    · simp_all
def sameB (l m : List Nat) : Bool := decide (l = m)
theorem same_cmp (l m : List Nat) : (cmp l m == 0) = sameB l m := by
  unfold sameB
  by_cases h : l = m
  · subst h; simp [cmp_self]
  · have : cmp l m ≠ 0 := fun e => h (cmp_zero e)
    simp [h, this]
end Go.Proofs.YtaonifdfhlbaiaaGreatDoor.Ky

/- Lists of records in memory. -/
namespace Go.Proofs.YtaonifdfhlbaiaaGreatDoor.Bk
open Go.RowKit
open Go.Lib (hid)
open Go.Proofs.YtaonifdfhlbaiaaGreatDoor.Ky

/-- nothing but the blocks D has turned -/
structure Keep (D : Nat → Prop) (w w' : World) : Prop where
  size : w.heap.size ≤ w'.heap.size
  block : ∀ k, k < w.heap.size → ¬ D k → w'.heap[k]? = w.heap[k]?
theorem Keep.below {D : Nat → Prop} {w w' : World} (h : Below w.heap.size w w') : Keep D w w' := ⟨h.size, fun k hk _ => h.block k hk⟩
theorem Keep.cell {D : Nat → Prop} {w w' : World} (h : Keep D w w') {b i : Nat} (hb : b < w.heap.size) (hD : ¬ D b) : w'.cell? ⟨b, i, none⟩ = w.cell? ⟨b, i, none⟩ := World.cell?_of_block (h.block b hb hD)
/-- a point whose block is none of D -/
structure PtD (D : Nat → Prop) (w : World) (p : Option Addr) (l : List Nat) : Prop where
  cells : ∀ j, (hj : j < l.length) → ∃ b off, p = some ⟨b, off, none⟩ ∧ b < w.heap.size ∧ ¬ D b ∧ w.cell? ⟨b, off + j, none⟩ = some (.int .u32 (l[j] : Int))
  fit : ∀ j, (hj : j < l.length) → l[j] < 4294967296
section
variable {D D' : Nat → Prop} {w w' : World} {p : Option Addr} {l : List Nat}
theorem PtD.pt (h : PtD D w p l) : Pt w p l := ⟨fun j hj => by
  obtain ⟨b, off, h1, h2, _, h3⟩ := h.cells j hj
  exact ⟨b, off, h1, h2, h3⟩, h.fit⟩
theorem PtD.keep (h : PtD D w p l) (hk : Keep D w w') : PtD D w' p l := ⟨fun j hj => by
  obtain ⟨b, off, h1, h2, h3, h4⟩ := h.cells j hj
  exact ⟨b, off, h1, Nat.lt_of_lt_of_le h2 hk.size, h3, (hk.cell h2 h3).trans h4⟩, h.fit⟩
theorem PtD.less (h : PtD D w p l) (hd : ∀ b, b < w.heap.size → D' b → D b) : PtD D' w p l := ⟨fun j hj => by
  obtain ⟨b, off, h1, h2, h3, h4⟩ := h.cells j hj
  exact ⟨b, off, h1, h2, fun hb => h3 (hd b h2 hb), h4⟩, h.fit⟩
end
/-- a point in blocks that are none of D; the cells xs are records L -/
def RC (D : Nat → Prop) (w : World) (xs : List Value) (L : List Rec) : Prop :=
  xs.length = L.length * 2 ∧ ∀ j, (hj : j < L.length) → ∃ q c, xs[j * 2]? = some (.slice q L[j].1.length c) ∧ xs[j * 2 + 1]? = some (.string L[j].2) ∧ PtD D w q L[j].1
section
variable {D D' : Nat → Prop} {w w' : World} {xs ys : List Value} {L M : List Rec}
theorem RC.nil : RC D w [] [] := ⟨rfl, fun j hj => absurd hj (by simp)⟩
theorem RC.keep (h : RC D w xs L) (hk : Keep D w w') : RC D w' xs L := ⟨h.1, fun j hj => by
  obtain ⟨q, c, h1, h2, h3⟩ := h.2 j hj
  exact ⟨q, c, h1, h2, h3.keep hk⟩⟩
theorem RC.less (h : RC D w xs L) (hd : ∀ b, b < w.heap.size → D' b → D b) : RC D' w xs L := ⟨h.1, fun j hj => by
  obtain ⟨q, c, h1, h2, h3⟩ := h.2 j hj
  exact ⟨q, c, h1, h2, h3.less hd⟩⟩
theorem RC.below (h : RC D w xs L) (hb : Below w.heap.size w w') : RC D w' xs L := h.keep (.below hb)
theorem RC.app (h : RC D w xs L) (g : RC D w ys M) : RC D w (xs ++ ys) (L ++ M) := by
  refine ⟨by rw [List.length_append, List.length_append, h.1, g.1]; omega, fun j hj => ?_⟩
  rw [List.length_append] at hj
  by_cases hl : j < L.length
  · obtain ⟨q, c, h1, h2, h3⟩ := h.2 j hl
    refine ⟨q, c, ?_, ?_, ?_⟩
    · rw [List.getElem?_append_left (by rw [h.1]; omega), h1]; congr 1; rw [List.getElem_append_left hl]
    · rw [List.getElem?_append_left (by rw [h.1]; omega), h2]; congr 1; rw [List.getElem_append_left hl]
    · rw [List.getElem_append_left hl]; exact h3
  · obtain ⟨q, c, h1, h2, h3⟩ := g.2 (j - L.length) (by omega)
    have e1 : j * 2 - xs.length = (j - L.length) * 2 := by rw [h.1]; omega
    have e2 : j * 2 + 1 - xs.length = (j - L.length) * 2 + 1 := by rw [h.1]; omega
    have e3 : (L ++ M)[j]'(by rw [List.length_append]; omega) = M[j - L.length]'(by omega) := List.getElem_append_right (by omega)
    refine ⟨q, c, ?_, ?_, ?_⟩
    · rw [List.getElem?_append_right (by rw [h.1]; omega), e1, h1, e3]
    · rw [List.getElem?_append_right (by rw [h.1]; omega), e2, h2, e3]
    · rw [e3]; exact h3
theorem RC.take (h : RC D w xs L) (n : Nat) (hn : n ≤ L.length) : RC D w (xs.take (n * 2)) (L.take n) := by
  refine ⟨by rw [List.length_take, List.length_take, h.1]; omega, fun j hj => ?_⟩
  have hj2 : j < n := by rw [List.length_take] at hj; omega
  obtain ⟨q, c, h1, h2, h3⟩ := h.2 j (by omega)
  have e3 : (L.take n)[j] = L[j]'(by omega) := List.getElem_take
  exact ⟨q, c, by rw [List.getElem?_take_of_lt (by omega), h1, e3], by rw [List.getElem?_take_of_lt (by omega), h2, e3], by rw [e3]; exact h3⟩
theorem RC.drop (h : RC D w xs L) (n : Nat) (hn : n ≤ L.length) : RC D w (xs.drop (n * 2)) (L.drop n) := by
  refine ⟨by rw [List.length_drop, List.length_drop, h.1]; omega, fun j hj => ?_⟩
  have hj2 : n + j < L.length := by rw [List.length_drop] at hj; omega
  obtain ⟨q, c, h1, h2, h3⟩ := h.2 (n + j) hj2
  have e3 : (L.drop n)[j] = L[n + j]'(by omega) := List.getElem_drop
  exact ⟨q, c, by rw [List.getElem?_drop, show n * 2 + j * 2 = (n + j) * 2 by omega, h1, e3], by rw [List.getElem?_drop, show n * 2 + (j * 2 + 1) = (n + j) * 2 + 1 by omega, h2, e3], by rw [e3]; exact h3⟩
theorem RC.one {q : Option Addr} {k : List Nat} {c : Nat} {t : ByteArray} (h : PtD D w q k) : RC D w [.slice q k.length c, .string t] [(k, t)] :=
  ⟨rfl, fun j hj => by
    have : j = 0 := by simpa using hj
    subst this
    exact ⟨q, c, rfl, rfl, h⟩⟩
theorem RC.oneCell (h : RC D w xs L) : ∀ u ∈ xs, u.oneCell' = true := by
  intro u hu
  obtain ⟨i, hi, rfl⟩ := List.getElem_of_mem hu
  rw [h.1] at hi
  obtain ⟨q, c, h1, h2, _⟩ := h.2 (i / 2) (by omega)
  rcases Nat.mod_two_eq_zero_or_one i with e | e
  · rw [show i / 2 * 2 = i by omega] at h1
    rw [List.getElem?_eq_some_iff] at h1
    obtain ⟨_, h1⟩ := h1
    rw [h1]; rfl
  · rw [show i / 2 * 2 + 1 = i by omega] at h2
    rw [List.getElem?_eq_some_iff] at h2
    obtain ⟨_, h2⟩ := h2
    rw [h2]; rfl
end
/-- a list of records that is read: its cells, whatever it begins at; no block of it and of its points is in D -/
def Rs (D : Nat → Prop) (w : World) (p : Option Addr) (L : List Rec) : Prop :=
  ∃ xs, RC D w xs L ∧ ∀ j u, xs[j]? = some u → ∃ b off, p = some ⟨b, off, none⟩ ∧ b < w.heap.size ∧ ¬ D b ∧ w.cell? ⟨b, off + j, none⟩ = some u
section
variable {D D' : Nat → Prop} {w w' : World} {p : Option Addr} {L : List Rec}
theorem Rs.nil (p : Option Addr) : Rs D w p [] := ⟨[], RC.nil, fun j u h => absurd h (by simp)⟩
theorem Rs.keep (h : Rs D w p L) (hk : Keep D w w') : Rs D w' p L := by
  obtain ⟨xs, h1, h2⟩ := h
  refine ⟨xs, h1.keep hk, fun j u hj => ?_⟩
  obtain ⟨b, off, g1, g2, g3, g4⟩ := h2 j u hj
  exact ⟨b, off, g1, Nat.lt_of_lt_of_le g2 hk.size, g3, (hk.cell g2 g3).trans g4⟩
theorem Rs.below (h : Rs D w p L) (hb : Below w.heap.size w w') : Rs D w' p L := h.keep (.below hb)
theorem Rs.less (h : Rs D w p L) (hd : ∀ b, b < w.heap.size → D' b → D b) : Rs D' w p L := by
  obtain ⟨xs, h1, h2⟩ := h
  refine ⟨xs, h1.less hd, fun j u hj => ?_⟩
  obtain ⟨b, off, g1, g2, g3, g4⟩ := h2 j u hj
  exact ⟨b, off, g1, g2, fun hb => g3 (hd b g2 hb), g4⟩
/-- the cells of the j-th record, and its point -/
theorem Rs.at (h : Rs D w p L) (j : Nat) (hj : j < L.length) :
    ∃ b off q c, p = some ⟨b, off, none⟩ ∧ b < w.heap.size ∧ w.cell? ⟨b, off + j * 2, none⟩ = some (.slice q L[j].1.length c) ∧ w.cell? ⟨b, off + j * 2 + 1, none⟩ = some (.string L[j].2) ∧ PtD D w q L[j].1 := by
  obtain ⟨xs, h1, h2⟩ := h
  obtain ⟨q, c, g1, g2, g3⟩ := h1.2 j hj
  obtain ⟨b, off, e1, e2, _, e3⟩ := h2 _ _ g1
  obtain ⟨b', off', f1, _, _, f3⟩ := h2 _ _ g2
  rw [e1] at f1
  cases f1
  exact ⟨b, off, q, c, e1, e2, e3, f3, g3⟩
theorem Rs.drew (h : Rs D w p L) : Rs D w.drew p L := h.keep ⟨Nat.le_refl _, fun _ _ _ => rfl⟩
theorem Rs.drewN (h : Rs D w p L) (n : Nat) : Rs D (w.drewN n) p L := h.keep ⟨Nat.le_refl _, fun _ _ _ => rfl⟩
theorem Rs.alloc (h : Rs D w p L) (o : Obj) : Rs D (w.alloc o) p L := h.below (below_alloc w o)
end
theorem addr_add (b o i : Nat) : (⟨b, o, none⟩ : Addr).add i = ⟨b, o + i, none⟩ := by unfold Addr.add; split <;> simp_all
/-- a slice of a list -/
def cutP (p : Option Addr) (n : Nat) : Option Addr := p.map fun a => a.add n
theorem Rs.take {D : Nat → Prop} {w : World} {p : Option Addr} {L : List Rec} (h : Rs D w p L) (n : Nat) (hn : n ≤ L.length) : Rs D w p (L.take n) := by
  obtain ⟨xs, h1, h2⟩ := h
  refine ⟨xs.take (n * 2), h1.take n hn, fun j u hj => h2 j u ?_⟩
  rw [List.getElem?_take] at hj
  split at hj
  · exact hj
  · cases hj
theorem Rs.drop {D : Nat → Prop} {w : World} {p : Option Addr} {L : List Rec} (h : Rs D w p L) (n : Nat) (hn : n ≤ L.length) : Rs D w (cutP p (n * 2)) (L.drop n) := by
  obtain ⟨xs, h1, h2⟩ := h
  refine ⟨xs.drop (n * 2), h1.drop n hn, fun j u hj => ?_⟩
  rw [List.getElem?_drop] at hj
  obtain ⟨b, off, e1, e2, e3, e4⟩ := h2 _ _ hj
  refine ⟨b, off + n * 2, by rw [e1]; unfold cutP; simp [addr_add], e2, e3, ?_⟩
  rw [← e4]; congr 2; omega
/-- the blocks that are there, from N on -/
def Ge (N : Nat) : Nat → Prop := fun k => N ≤ k
end Go.Proofs.YtaonifdfhlbaiaaGreatDoor.Bk

/- The small calls of bucket, of the reference and of the laws. -/
namespace Go.Proofs.YtaonifdfhlbaiaaGreatDoor.Bk
open Go.RowKit
open Go.Lib (hid)
open Go.Proofs.YtaonifdfhlbaiaaGreatDoor.Ky

theorem quiet_eq {f : FuncId} {args : Array Value} {w : World} {n : Nat} {v : Value} (h : Calls Tryz.prog f args (w.drewN n) fun e w' => e = .returned v ∧ w.drewN n = w') :
    Calls Tryz.prog f args (w.drewN n) fun e w'' => e = .returned v ∧ ∃ m, w'' = w.drewN m := h.mono fun _ _ ⟨he, hm⟩ => ⟨he, n, hm.symm⟩
theorem quiet_more {f : FuncId} {args : Array Value} {w : World} {n : Nat} {v : Value} (h : Calls Tryz.prog f args (w.drewN n) fun e w' => e = .returned v ∧ ∃ m, w' = (w.drewN n).drewN m) :
    Calls Tryz.prog f args (w.drewN n) fun e w'' => e = .returned v ∧ ∃ m, w'' = w.drewN m := h.mono fun _ _ ⟨he, _, hm⟩ => ⟨he, _, hm.trans (World.drewN_drewN _ _ _)⟩
/-- records that a program may have: not too many, not too long -/
def bigR (L : List Rec) : Prop := L.length ≤ 1000 ∧ ∀ r ∈ L, r.1.length ≤ 1000 ∧ r.2.size ≤ 1000
theorem fewR_big {L : List Rec} (h : fewR L) : bigR L := ⟨by have := h.1; omega, fun r hr => by have := h.2 r hr; omega⟩
theorem sizeR_lt (L : List Rec) (h : ∀ r ∈ L, r.1.length ≤ 1000 ∧ r.2.size ≤ 1000) : sizeR L ≤ 1 + L.length * 5001 := by
  unfold sizeR
  induction L with
  | nil => simp
  | cons a l ih =>
    have h1 := h a (by simp)
    have h2 := ih fun r hr => h r (by simp [hr])
    simp only [List.map_cons, List.sum_cons, List.length_cons]
    omega
theorem bigR_take {L : List Rec} (h : bigR L) (k : Nat) : sizeR (L.take k) ≤ 6000000 := by
  have h1 := sizeR_mono L k
  have h2 := sizeR_lt L h.2
  have := h.1
  omega
def fitsB (L : List Rec) (c : Int) : Bool := decide ((L.length : Int) ≤ c) && decide (sizeR L ≤ 230)
def takesB (c : Int) : Bool := decide (2 ≤ c) && decide (c ≤ 16)
theorem mayR_eq (r : Rec) (d : Int) : mayR r d = (checkB r.1.length d && decide (r.2.size ≤ 40)) := by
  unfold mayR checkB mayB
  rw [Bool.eq_iff_iff]; simp; omega
/-- a row of the first k records that may be -/
def mayAll (L : List Rec) (d : Int) : Bool := L.all fun r => mayR r d
theorem mayAll_take {L : List Rec} {d : Int} {k : Nat} (h : k < L.length) (h1 : mayAll (L.take k) d = true) (h2 : mayR L[k] d = true) : mayAll (L.take (k + 1)) d = true := by
  unfold mayAll at *
  rw [List.take_succ_eq_append_getElem h, List.all_append, h1]
  simp [h2]
theorem mayAll_no {L : List Rec} {d : Int} {k : Nat} (h : k < L.length) (h2 : mayR L[k] d = false) : mayAll L d = false := by
  unfold mayAll
  rw [List.all_eq_false]
  exact ⟨L[k], List.getElem_mem h, by simp [h2]⟩
end Go.Proofs.YtaonifdfhlbaiaaGreatDoor.Bk

/- Appends of whatever to whatever: onto a slice without room, and onto a row of the call's own. -/
namespace Go.Proofs.YtaonifdfhlbaiaaGreatDoor.Bk
open Go.RowKit
open Go.Lib (hid)
open Go.Proofs.YtaonifdfhlbaiaaGreatDoor.Ky

/-- cells that are read from a place on -/
def ReadAt (w : World) (p : Option Addr) (xs : List Value) : Prop := ∀ j u, xs[j]? = some u → ∃ b off, p = some ⟨b, off, none⟩ ∧ b < w.heap.size ∧ w.cell? ⟨b, off + j, none⟩ = some u
theorem ReadAt.below {w w' : World} {p : Option Addr} {xs : List Value} (h : ReadAt w p xs) (hb : Below w.heap.size w w') : ReadAt w' p xs := fun j u hj => by
  obtain ⟨b, off, e, hl, hc⟩ := h j u hj
  exact ⟨b, off, e, Nat.lt_of_lt_of_le hl hb.size, (hb.cell (p := ⟨b, _, none⟩) hl).trans hc⟩
theorem ReadAt.nil (w : World) (p : Option Addr) : ReadAt w p [] := fun j u hj => absurd hj (by simp)
theorem ReadAt.some_at {w : World} {p : Option Addr} {xs : List Value} (h : ReadAt w p xs) (h0 : 0 < xs.length) : ∃ b off, p = some ⟨b, off, none⟩ ∧ ∀ j u, xs[j]? = some u → w.cell? ((⟨b, off, none⟩ : Addr).add j) = some u := by
  obtain ⟨b, off, e, _, _⟩ := h 0 _ (List.getElem?_eq_getElem h0)
  refine ⟨b, off, e, fun j u hj => ?_⟩
  obtain ⟨b', off', e', _, hc⟩ := h j u hj
  rw [e] at e'
  cases e'
  rw [addr_add]; exact hc
theorem ReadAt.src {w : World} {p : Option Addr} {news : List Value} {P : Program} {t e : TypeId} {size m : Nat} (ht : P.underlying t = some (.slice e)) (h : ReadAt w p news) (hl : news.length = m * size) (hz : 0 < size) (h1 : ∀ u ∈ news, u.oneCell' = true) (c : Nat) : Src P size t (.slice p m c) m news w := by
  by_cases hm : m = 0
  · subst hm
    have hn : news = [] := List.length_eq_zero_iff.1 (by omega)
    subst hn
    cases p with
    | none => exact Src.ofNil w ht c
    | some a => exact Src.ofSlice w ht a 0 c [] (by simp) (fun j u hj => absurd hj (by simp)) (fun u hu => absurd hu (by simp))
  · obtain ⟨b, off, rfl, hc⟩ := h.some_at (by rw [hl]; exact Nat.mul_pos (by omega) hz)
    exact Src.ofSlice w ht _ m c news hl hc h1
/-- onto a slice that has no room -/
theorem run_app_full {P : Program} {w : World} {t e : TypeId} {i : TypeInfo} {z : Value} {size bytes : Nat} (ht : P.underlying t = some (.slice e)) (hi : P.info? e = some i) (hz : i.zero = some z)
    (hsize : i.size = size) (hby : i.bytes = bytes) (hzs : z.cells.size = size) (hsz : 0 < size) (ty : TypeId) (x : Option Addr) (n : Nat) (xs : List Value) (hx : ReadAt w x xs) (hxl : xs.length = n * size)
    (y : Value) (m : Nat) (news : List Value) (hs : Src P size t y m news w) (h63 : n + m ≤ maxLen) (hbytes : (n + m) * bytes ≤ 140737488355328) :
    ∃ p' c' w', (Builtin.append_ #[t, t] ty #[.slice x n n, y]).run P w = .ok (.slice p' (n + m) c') w' ∧ ReadAt w' p' (xs ++ news) ∧ Below w.heap.size w w' ∧ n + m ≤ c' ∧ (0 < m → w'.ownsRow w.heap.size e size (.slice p' (n + m) c') (n + m) (xs ++ news) ∧ p' = some ⟨w.heap.size, 0, none⟩) := by
  subst hsize
  subst hby
  by_cases hm : m = 0
  · subst hm
    have hn : news = [] := List.length_eq_zero_iff.1 (by have := hs.newsLen; omega)
    subst hn
    have hr : (Builtin.append_ #[t, t] ty #[.slice x n n, y]).run P w = .ok (.slice x (n + 0) n) w := by
      have hl := hs.len
      have hc := hs.cells
      rcases hs.kind with ⟨_, _⟩ | hk
      · cases x with
        | none =>
          have : n = 0 := by
            by_cases h0 : 0 < xs.length
            · obtain ⟨b, off, e1, _⟩ := hx.some_at h0; cases e1
            · rcases Nat.eq_zero_or_pos n with h | h
              · exact h
              · exact absurd (Nat.mul_pos h hsz) (by omega)
          subst this
          simp [Builtin.append_, run_underlying ht, sizeOf, typeInfo, hi, hl, hc]
        | some a =>
          simp [Builtin.append_, run_underlying ht, sizeOf, typeInfo, hi, hl, hc, storeCells]
      · rw [ht] at hk; cases hk
    refine ⟨x, n, w, hr, by rw [List.append_nil]; exact hx, Below.refl _ _, Nat.le_refl _, fun h => absurd h (by omega)⟩
  · have hold : (Builtin.firstCells i.size n (.slice x n n)).run P w.drew = .ok xs.toArray w.drew := by
      by_cases h0 : 0 < xs.length
      · obtain ⟨b, off, rfl, hc⟩ := hx.some_at h0
        exact run_firstCells_some w.drew i.size n _ n n xs hxl (by simpa using hc)
      · have hxn : xs = [] := List.length_eq_zero_iff.1 (by omega)
        subst hxn
        have hn0 : n = 0 := by
          rcases Nat.eq_zero_or_pos n with h | h
          · exact h
          · have := Nat.mul_pos h hsz; simp at hxl; omega
        subst hn0
        cases x with
        | none => exact run_firstCells_none w.drew i.size 0 0 0
        | some a => exact run_firstCells_some w.drew i.size 0 a 0 0 [] (by simp) (fun j u hj => absurd hj (by simp))
    have hr := run_append_grow_src (P := P) w t t ty e i z ht hi hz x n n xs hold y m news hs (by omega) (by unfold maxLen at h63; omega) (growslice_fits (by omega) hbytes)
    have hge := grownCap_ge w (n + m) n e
    have hcm := grownCap_le_maxLen w (n + m) n e h63
    generalize grownCap w (n + m) n e = cap at hr hge hcm
    have hsize : ((xs ++ news).toArray ++ Builtin.zeroCells z.cells (cap - (n + m))).size = cap * i.size := by
      have h1 := hs.newsLen
      have h2 : (Builtin.zeroCells z.cells (cap - (n + m))).size = (cap - (n + m)) * i.size := by
        rw [← hzs]
        simp [Builtin.zeroCells]
      rw [Array.size_append, h2, List.size_toArray, List.length_append, hxl, h1, ← Nat.add_mul, ← Nat.add_mul]
      congr 1; omega
    have htake : ((xs ++ news).toArray ++ Builtin.zeroCells z.cells (cap - (n + m))).toList.take ((n + m) * i.size) = xs ++ news := by
      rw [Array.toList_append]
      have hl : (xs ++ news).length = (n + m) * i.size := by rw [List.length_append, hxl, hs.newsLen, Nat.add_mul]
      rw [← hl]
      exact List.take_left
    have hheap : (w.drew.alloc (.cells ((xs ++ news).toArray ++ Builtin.zeroCells z.cells (cap - (n + m))) e)).heap[w.heap.size]? = some (.cells ((xs ++ news).toArray ++ Builtin.zeroCells z.cells (cap - (n + m))) e (0, 0)) := heap_alloc_new w.drew _
    refine ⟨_, _, _, hr, fun j u hj => ⟨w.heap.size, 0, rfl, by simp, ?_⟩, ((Below.refl _ _).drew.alloc (Nat.le_refl _) _), hge, fun _ => ⟨⟨by rw [List.length_append, hxl, hs.newsLen, Nat.add_mul], .inr ⟨w.heap.size, cap, _, rfl, Nat.le_refl _, hheap, hge, hcm, hsize, htake⟩⟩, rfl⟩⟩
    rw [cell_of_row _ _ _ _ _ _ hheap, Nat.zero_add]
    have hjl : j < (n + m) * i.size := by
      have := (List.getElem?_eq_some_iff.1 hj).1
      rw [List.length_append, hxl, hs.newsLen, ← Nat.add_mul] at this
      exact this
    rw [← htake, List.getElem?_take, if_pos hjl, Array.getElem?_toList] at hj
    exact hj
/-- onto a row of the call's own -/
theorem run_app_own {P : Program} {w : World} {t e : TypeId} {i : TypeInfo} {z : Value} {size bytes : Nat} (ht : P.underlying t = some (.slice e)) (hi : P.info? e = some i) (hz : i.zero = some z)
    (hsize : i.size = size) (hby : i.bytes = bytes) (hzs : z.cells.size = size) (hsz : 0 < size) (ty : TypeId) {base : Nat} (v : Value) (n : Nat) (xs : List Value) (hown : w.ownsRow base e size v n xs)
    (q : Option Addr) (m c : Nat) (news : List Value) (hq : ReadAt w q news) (hl : news.length = m * size) (h1 : ∀ u ∈ news, u.oneCell' = true) (h63 : n + m ≤ maxLen) (hbytes : (n + m) * bytes ≤ 140737488355328) (hbase : base ≤ w.heap.size) :
    ∃ v' w', (Builtin.append_ #[t, t] ty #[v, .slice q m c]).run P w = .ok v' w' ∧ w'.ownsRow base e size v' (n + m) (xs ++ news) ∧ w.grownBy w' v.ownBlock ∧ (v'.ownBlock = v.ownBlock ∨ v'.ownBlock = some w.heap.size) := by
  by_cases hm : m = 0
  · subst hm
    have hn : news = [] := List.length_eq_zero_iff.1 (by omega)
    subst hn
    have hr : (Builtin.append_ #[t, t] ty #[v, .slice q 0 c]).run P w = .ok v w := by
      subst hsize
      rcases hown.2 with ⟨rfl, rfl⟩ | ⟨g, cap, cur, rfl, _, _, hle, _⟩
      · cases q <;> simp [Builtin.append_, run_underlying ht, sizeOf, typeInfo, hi, Builtin.lenOf, Builtin.firstCells, loadCells, loadCellsFrom]
      · cases q <;> simp [Builtin.append_, run_underlying ht, sizeOf, typeInfo, hi, Builtin.lenOf, Builtin.firstCells, loadCells, loadCellsFrom, storeCells, hle]
    refine ⟨v, w, hr, by rw [List.append_nil]; exact hown, ⟨rfl, rfl, rfl, Nat.le_refl _, fun _ _ _ => rfl⟩, .inl rfl⟩
  · obtain ⟨b, off, rfl, hc⟩ := hq.some_at (by rw [hl]; exact Nat.mul_pos (by omega) hsz)
    obtain ⟨g, cap, w', hr, h2, h3, h4, _⟩ := run_append_lies (P := P) w t ty base e i z size bytes ht hi hz hsize hby hzs hsz v n xs hown ⟨b, off, none⟩ m c news hl hc h1 (by omega) h63 hbytes hbase w.heap.size rfl
    refine ⟨_, w', hr, h2, h3, ?_⟩
    rcases h4 with h4 | h4
    · exact .inl h4.symm
    · right; rw [h4]; rfl
section
variable {P : Program} {w : World} {ops : Array Oper} {o : Oper} {a : Act} {Q : Exit → Act → World → Prop}
theorem wp_app_run {K : Act → World → Prop} (s x : Operand) (t : TypeId) (ho : o.op = .call { callee := .builtin .append, args := #[s, x], argTypes := #[t, t] }) {v y v' : Value} {w' : World} (hs : a.eval s = v) (hx : a.eval x = y)
    (hr : (Builtin.append_ #[t, t] o.type #[v, y]).run P w = .ok v' w') (h : K (a.put o.dst v') w') : o.wp P a w K Q := by
  unfold Oper.wp execOp
  simp only [ho, resolve, invoke, builtin, Sem.run_bind, Sem.run_pure, Result.andThen_ok, List.map_toArray, List.map_cons, List.map_nil, hs, hx, hr]
  exact h
/-- an append at the walk: what it gives is told by 'F' -/
theorem wpList_app {rest : List Oper} (hgd : o.guard = none) (s x : Operand) (t : TypeId) (ho : o.op = .call { callee := .builtin .append, args := #[s, x], argTypes := #[t, t] }) {v y : Value} (hs : a.eval s = v) (hx : a.eval x = y) {F : Value → World → Prop}
    (hr : ∃ v' w', (Builtin.append_ #[t, t] o.type #[v, y]).run P w = .ok v' w' ∧ F v' w') (h : ∀ v' w', F v' w' → wpList P ops Q rest (a.put o.dst v') w') : wpList P ops Q (o :: rest) a w := by
  obtain ⟨v', w', hr, hf⟩ := hr
  exact wpList_plain hgd fun _ hK => wp_app_run s x t ho hs hx hr (hK _ _ (h v' w' hf))
theorem step_app {K : Act → World → Prop} {E : Prop} (hgd : o.guard = none) (s x : Operand) (t : TypeId) (ho : o.op = .call { callee := .builtin .append, args := #[s, x], argTypes := #[t, t] }) {v y : Value} (hs : a.eval s = v) (hx : a.eval x = y) {F : Value → World → Prop}
    (hr : ∃ v' w', (Builtin.append_ #[t, t] o.type #[v, y]).run P w = .ok v' w' ∧ F v' w') (h : ∀ v' w', F v' w' → K (a.put o.dst v') w') :
    if Region.wanted o (yielded ops a.tmps) = true then Oper.wp P o a w K Q else E := by
  have hw : Region.wanted o (yielded ops a.tmps) = true := by simp [Region.wanted, hgd]
  rw [if_pos hw]
  obtain ⟨v', w', hr, hf⟩ := hr
  exact wp_app_run s x t ho hs hx hr (h v' w' hf)
end
/-- what an append onto a slice without room gives -/
def Full (w : World) (e : TypeId) (size n m : Nat) (ys : List Value) (v' : Value) (w' : World) : Prop :=
  ∃ p' c', v' = .slice p' (n + m) c' ∧ ReadAt w' p' ys ∧ Below w.heap.size w w' ∧ n + m ≤ c' ∧ (0 < m → w'.ownsRow w.heap.size e size (.slice p' (n + m) c') (n + m) ys ∧ p' = some ⟨w.heap.size, 0, none⟩)
/-- what an append onto a row of the call's own gives -/
def Owns (w : World) (base : Nat) (e : TypeId) (size : Nat) (v : Value) (n : Nat) (ys : List Value) (v' : Value) (w' : World) : Prop :=
  w'.ownsRow base e size v' n ys ∧ w.grownBy w' v.ownBlock ∧ (v'.ownBlock = v.ownBlock ∨ v'.ownBlock = some w.heap.size)
theorem kinfo : (Tryz.prog.info? 70).map (fun i => (i.zero, i.size, i.bytes)) = some (some (.int .u32 0), 1, 4) := by kernel_rfl
/-- a point's cells -/
def kl (l : List Nat) : List Value := l.map fun (x : Nat) => Value.int .u32 (x : Int)
theorem kl_length (l : List Nat) : (kl l).length = l.length := by simp [kl]
theorem kl_one (l : List Nat) : ∀ u ∈ kl l, u.oneCell' = true := fun u hu => by
  obtain ⟨x, _, rfl⟩ := List.mem_map.1 hu
  rfl
theorem Pt.read {w : World} {p : Option Addr} {l : List Nat} (h : Pt w p l) : ReadAt w p (kl l) := fun j u hj => by
  have hjl : j < l.length := by have := (List.getElem?_eq_some_iff.1 hj).1; rwa [kl_length] at this
  obtain ⟨b, off, e, hb, hc⟩ := h.cells j hjl
  refine ⟨b, off, e, hb, hc.trans ?_⟩
  rw [← hj]; simp [kl, hjl]
/-- a point that is new -/
theorem new_pt {w w' : World} {l : List Nat} {v' : Value} (hf : ∀ j, (hj : j < l.length) → l[j] < 4294967296) (h : Full w 70 1 0 l.length (kl l) v' w') :
    ∃ p' c', v' = .slice p' l.length c' ∧ PtD (fun k => k < w.heap.size) w' p' l ∧ Below w.heap.size w w' := by
  obtain ⟨p', c', rfl, hr, hb, _, ho⟩ := h
  refine ⟨p', c', by rw [Nat.zero_add], ⟨fun j hj => ?_, hf⟩, hb⟩
  obtain ⟨b, off, e, hlt, hc⟩ := hr j (.int .u32 (l[j] : Int)) (by simp [kl, hj])
  refine ⟨b, off, e, hlt, ?_, hc⟩
  have := (ho (by omega)).2
  rw [e] at this
  injection this with this
  injection this with h1
  omega
end Go.Proofs.YtaonifdfhlbaiaaGreatDoor.Bk
