/- Merged out of BkMath, KyBase, KyCmp, BkBase, BkSmall, BkApp, BkOwn, PpCopy. -/
import Derived.Test.YtgihpdhkjneimaaGreatDoorP17
import Derived.Test.YtgihpdhkjneimaaGreatDoorRows
import Derived.WalkKit
import Derived.WalkSmall
import Derived.Lib.Hide
import Derived.LoopTactic
import Derived.RegionTactic
import Derived.Deep.QuietTactic
import Derived.BigQuiet
import Derived.ChangeAlike
import Derived.Below
import Derived.Laws.OwnMore
import Derived.Laws.AppendOwn
import Derived.WalkLawsBesides
import Derived.WalkSpells
import Derived.IntWalk
import Derived.Deep.RegionLaw
import Derived.Deep.RegionHeld3
import Derived.StillTailTactics
import Derived.Deep.AppendLies
import Derived.Deep.AppendSrc
import Derived.Test.YtgihpdhkjneimaaGreatDoorP03
import Derived.Test.YtgihpdhkjneimaaGreatDoorP15
/- Lists of records, plainly: in order, how many are less, put in, taken out, how many bytes. -/
namespace Go.Proofs.YtgihpdhkjneimaaGreatDoor.Bk
open Go.Proofs.YtgihpdhkjneimaaGreatDoor.Ky

/-- a record: its point, its bytes -/
abbrev Rec := List Nat × ByteArray
/-- rising, each point once -/
def upL (L : List Rec) : Prop := L.Pairwise fun a b => cmp a.1 b.1 < 0
theorem cmp_lt_trans {a b c : List Nat} (h : cmp a b < 0) (h' : cmp b c < 0) : cmp a c < 0 := by
  have h1 := cmp_trans (Int.le_of_lt h) (Int.le_of_lt h')
  rcases cmp_cases a c with e | e | e
  · omega
  · have e2 := cmp_zero e
    subst e2
    have := cmp_flip a b
    omega
  · omega
theorem cmp_le_lt {a b c : List Nat} (h : cmp a b ≤ 0) (h' : cmp b c < 0) : cmp a c < 0 := by
  rcases cmp_cases a b with e | e | e
  · exact cmp_lt_trans (by omega) h'
  · have := cmp_zero e; subst this; exact h'
  · omega
theorem cmp_lt_le {a b c : List Nat} (h : cmp a b < 0) (h' : cmp b c ≤ 0) : cmp a c < 0 := by
  rcases cmp_cases b c with e | e | e
  · exact cmp_lt_trans h (by omega)
  · have := cmp_zero e; subst this; exact h
  · omega
/-- are neighbours rising? (up to the place n) -/
def upTo (L : List Rec) (n : Nat) : Prop := ∀ i, (h : i + 1 < L.length) → i + 1 < n → cmp (L[i]'(by omega)).1 L[i + 1].1 < 0
theorem upTo_all {L : List Rec} (h : upTo L L.length) : upL L := by
  have key : ∀ i j, (hj : j < L.length) → (hi : i < j) → cmp (L[i]'(by omega)).1 L[j].1 < 0 := by
    intro i j
    induction j with
    | zero => intro _ hi; omega
    | succ j ih =>
      intro hj hi
      have h1 := h j hj (by omega)
      by_cases e : i = j
      · subst e; exact h1
      · exact cmp_lt_trans (ih (by omega) (by omega)) h1
  exact List.pairwise_iff_getElem.2 fun i j hi hj hij => key i j hj hij
theorem all_upTo {L : List Rec} (h : upL L) (n : Nat) : upTo L n := fun i hi _ => List.pairwise_iff_getElem.1 h i (i + 1) (by omega) hi (by omega)
theorem upTo_succ {L : List Rec} {n : Nat} (h : upTo L n) (h1 : 1 ≤ n) (hn : n < L.length) (hc : cmp (L[n - 1]'(by omega)).1 L[n].1 < 0) : upTo L (n + 1) := by
  intro i hi hin
  by_cases e : i + 1 = n
  · subst e; exact hc
  · exact h i hi (by omega)
/-- how many points are less than k -/
def lessN (L : List Rec) (k : List Nat) : Nat := (L.takeWhile fun r => decide (cmp r.1 k < 0)).length
theorem lessN_le (L : List Rec) (k : List Nat) : lessN L k ≤ L.length := by
  unfold lessN
  induction L with
  | nil => simp
  | cons a l ih => rw [List.takeWhile_cons]; split <;> simp <;> omega
/-- the place is told by what stands ahead of it and at it -/
theorem lessN_at {L : List Rec} {k : List Nat} (n : Nat) (hn : n ≤ L.length) (h1 : ∀ i, (h : i < L.length) → i < n → cmp L[i].1 k < 0) (h2 : (h : n < L.length) → ¬ cmp L[n].1 k < 0) : lessN L k = n := by
  unfold lessN
  induction L generalizing n with
  | nil => simp at hn ⊢; omega
  | cons a l ih =>
    rw [List.takeWhile_cons]
    cases n with
    | zero =>
      have := h2 (by simp)
      simp at this
      rw [if_neg (by simp; omega)]
      rfl
    | succ n =>
      have := h1 0 (by simp) (by omega)
      simp at this
      rw [if_pos (by simpa using this)]
      simp only [List.length_cons, Nat.add_right_cancel_iff]
      exact ih n (by simpa using hn) (fun i h hi => by have := h1 (i + 1) (by simpa using h) (by omega); simpa using this) (fun h => by have := h2 (by simpa using h); simpa using this)
theorem lessN_spec (L : List Rec) (k : List Nat) : (∀ i, (h : i < L.length) → i < lessN L k → cmp L[i].1 k < 0) ∧ ((h : lessN L k < L.length) → ¬ cmp L[lessN L k].1 k < 0) := by
  induction L with
  | nil => exact ⟨fun i h => absurd h (by simp), fun h => absurd h (by simp)⟩
  | cons a l ih =>
    by_cases hp : cmp a.1 k < 0
    · have e : lessN (a :: l) k = lessN l k + 1 := by unfold lessN; rw [List.takeWhile_cons, if_pos (by simpa using hp)]; rfl
      refine ⟨fun i h hi => ?_, fun h => ?_⟩
      · cases i with
        | zero => exact hp
        | succ i => exact ih.1 i (by simpa using h) (by omega)
      · simp only [e] at h ⊢
        exact ih.2 (by simpa using h)
    · have e : lessN (a :: l) k = 0 := by unfold lessN; rw [List.takeWhile_cons, if_neg (by simpa using hp)]; rfl
      refine ⟨fun i h hi => by omega, fun h => ?_⟩
      simp only [e]
      exact hp
/-- is there one of the point k, at its place? -/
def hasN (L : List Rec) (k : List Nat) : Bool := match L[lessN L k]? with | some r => cmp r.1 k == 0 | none => false
theorem hasN_iff {L : List Rec} {k : List Nat} : hasN L k = true ↔ ∃ h : lessN L k < L.length, L[lessN L k].1 = k := by
  unfold hasN
  by_cases h : lessN L k < L.length
  · rw [List.getElem?_eq_getElem h]
    simp only [beq_iff_eq]
    exact ⟨fun e => ⟨h, cmp_zero e⟩, fun ⟨_, e⟩ => by rw [e]; exact cmp_self _⟩
  · rw [List.getElem?_eq_none (by omega)]
    exact ⟨fun e => absurd e (by simp), fun ⟨h', _⟩ => absurd h' h⟩
/-- of a rising list: what stands at the place or behind it is not less -/
theorem up_behind {L : List Rec} {k : List Nat} (hu : upL L) {i : Nat} (hi : i < L.length) (h : lessN L k ≤ i) : ¬ cmp L[i].1 k < 0 := by
  have hn : lessN L k < L.length := by omega
  have h2 := (lessN_spec L k).2 hn
  by_cases e : lessN L k = i
  · subst e; exact h2
  · have h3 := List.pairwise_iff_getElem.1 hu (lessN L k) i hn hi (by omega)
    intro h4
    exact h2 (cmp_lt_trans h3 h4)
/-- of a rising list: it has the point, at some place, just if at its place -/
theorem up_at {L : List Rec} {k : List Nat} (hu : upL L) {i : Nat} (hi : i < L.length) (h : L[i].1 = k) : lessN L k = i := by
  refine lessN_at i (by omega) (fun j hj hji => ?_) (fun _ => by rw [h, cmp_self]; omega)
  rw [← h]
  exact List.pairwise_iff_getElem.1 hu j i hj hi hji
theorem getElem_same {α : Type} {L : List α} {a b : Nat} (ha : a < L.length) (hb : b < L.length) (h : a = b) : L[a] = L[b] := by subst h; rfl
/-- a record put in -/
def putR (L : List Rec) (r : Rec) : List Rec := L.take (lessN L r.1) ++ r :: L.drop (if hasN L r.1 then lessN L r.1 + 1 else lessN L r.1)
/-- a record taken out -/
def cutR (L : List Rec) (k : List Nat) : List Rec := if hasN L k then L.take (lessN L k) ++ L.drop (lessN L k + 1) else L
theorem putR_length (L : List Rec) (r : Rec) : (putR L r).length = if hasN L r.1 then L.length else L.length + 1 := by
  unfold putR
  have h1 := lessN_le L r.1
  cases h : hasN L r.1 with
  | true =>
    obtain ⟨h2, _⟩ := hasN_iff.1 h
    simp; omega
  | false => simp; omega
theorem cutR_length (L : List Rec) (k : List Nat) : (cutR L k).length = if hasN L k then L.length - 1 else L.length := by
  unfold cutR
  cases h : hasN L k with
  | true =>
    obtain ⟨h2, _⟩ := hasN_iff.1 h
    simp; omega
  | false => simp
theorem up_put {L : List Rec} (hu : upL L) (r : Rec) : upL (putR L r) := by
  unfold putR
  have hs := lessN_spec L r.1
  refine List.pairwise_append.2 ⟨hu.sublist (List.take_sublist _ _), List.pairwise_cons.2 ⟨fun b hb => ?_, hu.sublist (List.drop_sublist _ _)⟩, fun a ha b hb => ?_⟩
  · obtain ⟨i, hi, rfl⟩ := List.getElem_of_mem hb
    rw [List.getElem_drop]
    rw [List.length_drop] at hi
    have hge := up_behind hu (k := r.1) (i := (if hasN L r.1 = true then lessN L r.1 + 1 else lessN L r.1) + i) (by omega) (by split <;> omega)
    have hne : cmp (L[(if hasN L r.1 = true then lessN L r.1 + 1 else lessN L r.1) + i]'(by omega)).1 r.1 ≠ 0 := by
      intro e
      have e2 := up_at hu (by omega) (cmp_zero e)
      have hlt : lessN L r.1 < L.length := by omega
      have hh : hasN L r.1 = true := hasN_iff.2 ⟨hlt, (congrArg Prod.fst (getElem_same hlt (by omega) e2)).trans (cmp_zero e)⟩
      rw [hh] at e2
      simp at e2
      omega
    have hf := cmp_flip r.1 (L[(if hasN L r.1 = true then lessN L r.1 + 1 else lessN L r.1) + i]'(by omega)).1
    rcases cmp_cases (L[(if hasN L r.1 = true then lessN L r.1 + 1 else lessN L r.1) + i]'(by omega)).1 r.1 with e | e | e <;> omega
  · obtain ⟨i, hi, rfl⟩ := List.getElem_of_mem ha
    rw [List.length_take] at hi
    have hl : cmp (L[i]'(by omega)).1 r.1 < 0 := hs.1 i (by omega) (by omega)
    rw [List.getElem_take]
    rcases List.mem_cons.1 hb with rfl | hb
    · exact hl
    · obtain ⟨j, hj, rfl⟩ := List.getElem_of_mem hb
      rw [List.length_drop] at hj
      rw [List.getElem_drop]
      exact List.pairwise_iff_getElem.1 hu i _ (by omega) (by omega) (by split <;> omega)
theorem up_cut {L : List Rec} (hu : upL L) (k : List Nat) : upL (cutR L k) := by
  unfold cutR
  split
  · refine List.pairwise_append.2 ⟨hu.sublist (List.take_sublist _ _), hu.sublist (List.drop_sublist _ _), fun a ha b hb => ?_⟩
    obtain ⟨i, hi, rfl⟩ := List.getElem_of_mem ha
    obtain ⟨j, hj, rfl⟩ := List.getElem_of_mem hb
    rw [List.length_take] at hi
    rw [List.length_drop] at hj
    rw [List.getElem_take, List.getElem_drop]
    exact List.pairwise_iff_getElem.1 hu i _ (by omega) (by omega) (by omega)
  · exact hu
/-- the place of what was put -/
theorem put_place {L : List Rec} (r : Rec) : lessN (putR L r) r.1 = lessN L r.1 ∧ hasN (putR L r) r.1 = true ∧ (putR L r)[lessN L r.1]? = some r := by
  have hs := lessN_spec L r.1
  have hl := lessN_le L r.1
  have ht : (L.take (lessN L r.1)).length = lessN L r.1 := by rw [List.length_take]; omega
  have hg : (putR L r)[lessN L r.1]? = some r := by
    unfold putR
    rw [List.getElem?_append_right (by omega), ht, Nat.sub_self]; rfl
  obtain ⟨hlt, he⟩ := List.getElem?_eq_some_iff.1 hg
  have e1 : lessN (putR L r) r.1 = lessN L r.1 := by
    refine lessN_at _ (by omega) (fun i hi hin => ?_) (fun _ => by rw [he, cmp_self]; omega)
    have h1 : (putR L r)[i]? = L[i]? := by
      unfold putR
      rw [List.getElem?_append_left (by omega), List.getElem?_take_of_lt hin]
    have h2 : i < L.length := by omega
    rw [List.getElem?_eq_getElem hi, List.getElem?_eq_getElem h2] at h1
    rw [Option.some.inj h1]
    exact hs.1 i (by omega) hin
  refine ⟨e1, hasN_iff.2 ⟨by omega, ?_⟩, hg⟩
  simp only [e1, he]
/-- what was put is cut again -/
theorem cut_put {L : List Rec} (r : Rec) (h : hasN L r.1 = false) : cutR (putR L r) r.1 = L := by
  obtain ⟨h1, h2, _⟩ := put_place (L := L) r
  have hl := lessN_le L r.1
  have ht : (L.take (lessN L r.1)).length = lessN L r.1 := by rw [List.length_take]; omega
  unfold cutR
  rw [if_pos h2, h1]
  have e : (L.take (lessN L r.1) ++ r :: L.drop (lessN L r.1)).drop (lessN L r.1 + 1) = L.drop (lessN L r.1) := by
    rw [List.drop_append, ht, List.drop_eq_nil_of_le (by omega), show lessN L r.1 + 1 - lessN L r.1 = 1 by omega]; rfl
  unfold putR
  rw [h]
  simp only [Bool.false_eq_true, if_false]
  rw [e, List.take_append_of_le_length (by omega), List.take_of_length_le (by omega), List.take_append_drop]
/-- how many bytes records take -/
def sizeR (L : List Rec) : Nat := 1 + (L.map fun r => 4 * r.1.length + 1 + r.2.size).sum
theorem sizeR_snoc (L : List Rec) (r : Rec) : sizeR (L ++ [r]) = sizeR L + (4 * r.1.length + 1 + r.2.size) := by
  unfold sizeR; simp; omega
theorem sizeR_take (L : List Rec) (k : Nat) (h : k < L.length) : sizeR (L.take (k + 1)) = sizeR (L.take k) + (4 * L[k].1.length + 1 + L[k].2.size) := by
  rw [List.take_succ_eq_append_getElem h, sizeR_snoc]
theorem sizeR_mono (L : List Rec) (k : Nat) : sizeR (L.take k) ≤ sizeR L := by
  have : sizeR L = sizeR (L.take k) + ((L.drop k).map fun r => 4 * r.1.length + 1 + r.2.size).sum := by
    have e : L.map (fun r => 4 * r.1.length + 1 + r.2.size) = (L.take k).map (fun r => 4 * r.1.length + 1 + r.2.size) ++ (L.drop k).map (fun r => 4 * r.1.length + 1 + r.2.size) := by rw [← List.map_append, List.take_append_drop]
    unfold sizeR
    rw [e, List.sum_append]; omega
  omega
/-- may a record be, of dim coordinates? -/
def mayR (r : Rec) (dim : Int) : Bool := decide (1 ≤ dim ∧ dim ≤ 6) && (decide ((r.1.length : Int) = dim) && decide (r.2.size ≤ 40))
/-- a bucket, of dim coordinates -/
def isB (L : List Rec) (dim : Int) : Prop := (∀ r ∈ L, mayR r dim = true) ∧ upL L
/-- few records -/
def fewR (L : List Rec) : Prop := L.length ≤ 60 ∧ ∀ r ∈ L, r.1.length ≤ 20 ∧ r.2.size ≤ 100
end Go.Proofs.YtgihpdhkjneimaaGreatDoor.Bk

/- Points in memory; the small calls of key. -/
namespace Go.Proofs.YtgihpdhkjneimaaGreatDoor.Ky
open Go.RowKit
open Go.Lib (hid)

/-- a point that came in, or was made: its cells, whatever it begins at, and that its coordinates fit -/
structure Pt (w : World) (p : Option Addr) (l : List Nat) : Prop where
  cells : ∀ j, (hj : j < l.length) → ∃ b off, p = some ⟨b, off, none⟩ ∧ b < w.heap.size ∧ w.cell? ⟨b, off + j, none⟩ = some (.int .u32 (l[j] : Int))
  fit : ∀ j, (hj : j < l.length) → l[j] < 4294967296
theorem Pt.below {w w' : World} {p : Option Addr} {l : List Nat} (h : Pt w p l) (hb : Below w.heap.size w w') : Pt w' p l :=
  ⟨fun j hj => by
    obtain ⟨b, off, e, hlt, hc⟩ := h.cells j hj
    exact ⟨b, off, e, Nat.lt_of_lt_of_le hlt hb.size, (hb.cell hlt).trans hc⟩, h.fit⟩
theorem Pt.drew {w : World} {p : Option Addr} {l : List Nat} (h : Pt w p l) : Pt w.drew p l := ⟨h.cells, h.fit⟩
theorem Pt.drewN {w : World} {p : Option Addr} {l : List Nat} (h : Pt w p l) (n : Nat) : Pt (w.drewN n) p l := ⟨h.cells, h.fit⟩
theorem Pt.nil (w : World) (p : Option Addr) : Pt w p [] := ⟨fun j hj => absurd hj (by simp), fun j hj => absurd hj (by simp)⟩
theorem below_alloc (w : World) (o : Obj) : Below w.heap.size w (w.alloc o) := (Below.refl _ _).alloc (Nat.le_refl _) _
theorem Pt.alloc {w : World} {p : Option Addr} {l : List Nat} (h : Pt w p l) (o : Obj) : Pt (w.alloc o) p l := h.below (below_alloc w o)

theorem below_drewN {B : Nat} {w w' : World} (h : Below B w w') (n : Nat) : Below B w (w'.drewN n) := ⟨h.os, h.tape, h.output, h.size, h.block⟩
def mayB (d : Int) : Bool := decide (1 ≤ d) && decide (d ≤ 6)
/-- 0, or BadRequest -/
def err (b : Bool) : Int := if b then 0 else 1
def checkB (n : Nat) (d : Int) : Bool := mayB d && decide ((n : Int) = d)
theorem mayB_nat (n : Nat) : mayB (n : Int) = mayN n := by
  unfold mayB mayN; rw [Bool.eq_iff_iff]; simp; omega

theorem err_true (b : Bool) (h : b = true) : err b = 0 := by subst h; rfl
theorem err_false (b : Bool) (h : b = false) : err b = 1 := by subst h; rfl
theorem ret_int {k : IntKind} {a b : Int} (h : a = b) : Ending.returned (.int k a) = .returned (.int k b) := by rw [h]
def cmp1 (a b : Nat) : Int := if a < b then -1 else if b < a then 1 else 0
end Go.Proofs.YtgihpdhkjneimaaGreatDoor.Ky

/- Compare of both sides. -/
namespace Go.Proofs.YtgihpdhkjneimaaGreatDoor.Ky
open Go.RowKit
open Go.Lib (hid)

theorem cmp_step (l m : List Nat) (k : Nat) (h : k < l.length) (h' : k < m.length) (he : cmp1 l[k] m[k] = 0) : cmp (l.drop (k + 1)) (m.drop (k + 1)) = cmp (l.drop k) (m.drop k) := by
  rw [cmp_drop l m k h h']
  unfold cmp1 at he
  split at he
  · simp at he
  · split at he
    · simp at he
    · rw [if_neg (by assumption), if_neg (by assumption)]
theorem cmp_stop (l m : List Nat) (k : Nat) (h : k < l.length) (h' : k < m.length) (he : cmp1 l[k] m[k] ≠ 0) : cmp (l.drop k) (m.drop k) = cmp1 l[k] m[k] := by
  rw [cmp_drop l m k h h']
  unfold cmp1 at he ⊢
  split
  · rfl
  · split
    · rfl
    · simp_all
def sameB (l m : List Nat) : Bool := decide (l = m)
theorem same_cmp (l m : List Nat) : (cmp l m == 0) = sameB l m := by
  unfold sameB
  by_cases h : l = m
  · subst h; simp [cmp_self]
  · have : cmp l m ≠ 0 := fun e => h (cmp_zero e)
    simp [h, this]
end Go.Proofs.YtgihpdhkjneimaaGreatDoor.Ky

/- Lists of records in memory. -/
namespace Go.Proofs.YtgihpdhkjneimaaGreatDoor.Bk
open Go.RowKit
open Go.Lib (hid)
open Go.Proofs.YtgihpdhkjneimaaGreatDoor.Ky

/-- nothing but the blocks D has turned -/
structure Keep (D : Nat → Prop) (w w' : World) : Prop where
  size : w.heap.size ≤ w'.heap.size
  block : ∀ k, k < w.heap.size → ¬ D k → w'.heap[k]? = w.heap[k]?
theorem Keep.below {D : Nat → Prop} {w w' : World} (h : Below w.heap.size w w') : Keep D w w' := ⟨h.size, fun k hk _ => h.block k hk⟩
theorem Keep.cell {D : Nat → Prop} {w w' : World} (h : Keep D w w') {b i : Nat} (hb : b < w.heap.size) (hD : ¬ D b) : w'.cell? ⟨b, i, none⟩ = w.cell? ⟨b, i, none⟩ := World.cell?_of_block (h.block b hb hD)
/-- a point whose block is none of D -/
structure PtD (D : Nat → Prop) (w : World) (p : Option Addr) (l : List Nat) : Prop where
  cells : ∀ j, (hj : j < l.length) → ∃ b off, p = some ⟨b, off, none⟩ ∧ b < w.heap.size ∧ ¬ D b ∧ w.cell? ⟨b, off + j, none⟩ = some (.int .u32 (l[j] : Int))
  fit : ∀ j, (hj : j < l.length) → l[j] < 4294967296
section
variable {D D' : Nat → Prop} {w w' : World} {p : Option Addr} {l : List Nat}
theorem PtD.pt (h : PtD D w p l) : Pt w p l := ⟨fun j hj => by
  obtain ⟨b, off, h1, h2, _, h3⟩ := h.cells j hj
  exact ⟨b, off, h1, h2, h3⟩, h.fit⟩
theorem PtD.keep (h : PtD D w p l) (hk : Keep D w w') : PtD D w' p l := ⟨fun j hj => by
  obtain ⟨b, off, h1, h2, h3, h4⟩ := h.cells j hj
  exact ⟨b, off, h1, Nat.lt_of_lt_of_le h2 hk.size, h3, (hk.cell h2 h3).trans h4⟩, h.fit⟩
theorem PtD.less (h : PtD D w p l) (hd : ∀ b, b < w.heap.size → D' b → D b) : PtD D' w p l := ⟨fun j hj => by
  obtain ⟨b, off, h1, h2, h3, h4⟩ := h.cells j hj
  exact ⟨b, off, h1, h2, fun hb => h3 (hd b h2 hb), h4⟩, h.fit⟩
end
/-- a point in blocks that are none of D; the cells xs are records L -/
def RC (D : Nat → Prop) (w : World) (xs : List Value) (L : List Rec) : Prop :=
  xs.length = L.length * 2 ∧ ∀ j, (hj : j < L.length) → ∃ q c, xs[j * 2]? = some (.slice q L[j].1.length c) ∧ xs[j * 2 + 1]? = some (.string L[j].2) ∧ PtD D w q L[j].1
section
variable {D D' : Nat → Prop} {w w' : World} {xs ys : List Value} {L M : List Rec}
theorem RC.nil : RC D w [] [] := ⟨rfl, fun j hj => absurd hj (by simp)⟩
theorem RC.keep (h : RC D w xs L) (hk : Keep D w w') : RC D w' xs L := ⟨h.1, fun j hj => by
  obtain ⟨q, c, h1, h2, h3⟩ := h.2 j hj
  exact ⟨q, c, h1, h2, h3.keep hk⟩⟩
theorem RC.less (h : RC D w xs L) (hd : ∀ b, b < w.heap.size → D' b → D b) : RC D' w xs L := ⟨h.1, fun j hj => by
  obtain ⟨q, c, h1, h2, h3⟩ := h.2 j hj
  exact ⟨q, c, h1, h2, h3.less hd⟩⟩
theorem RC.below (h : RC D w xs L) (hb : Below w.heap.size w w') : RC D w' xs L := h.keep (.below hb)
theorem RC.app (h : RC D w xs L) (g : RC D w ys M) : RC D w (xs ++ ys) (L ++ M) := by
  refine ⟨by rw [List.length_append, List.length_append, h.1, g.1]; omega, fun j hj => ?_⟩
  rw [List.length_append] at hj
  by_cases hl : j < L.length
  · obtain ⟨q, c, h1, h2, h3⟩ := h.2 j hl
    refine ⟨q, c, ?_, ?_, ?_⟩
    · rw [List.getElem?_append_left (by rw [h.1]; omega), h1]; congr 1; rw [List.getElem_append_left hl]
    · rw [List.getElem?_append_left (by rw [h.1]; omega), h2]; congr 1; rw [List.getElem_append_left hl]
    · rw [List.getElem_append_left hl]; exact h3
  · obtain ⟨q, c, h1, h2, h3⟩ := g.2 (j - L.length) (by omega)
    have e1 : j * 2 - xs.length = (j - L.length) * 2 := by rw [h.1]; omega
    have e2 : j * 2 + 1 - xs.length = (j - L.length) * 2 + 1 := by rw [h.1]; omega
    have e3 : (L ++ M)[j]'(by rw [List.length_append]; omega) = M[j - L.length]'(by omega) := List.getElem_append_right (by omega)
    refine ⟨q, c, ?_, ?_, ?_⟩
    · rw [List.getElem?_append_right (by rw [h.1]; omega), e1, h1, e3]
    · rw [List.getElem?_append_right (by rw [h.1]; omega), e2, h2, e3]
    · rw [e3]; exact h3
theorem RC.take (h : RC D w xs L) (n : Nat) (hn : n ≤ L.length) : RC D w (xs.take (n * 2)) (L.take n) := by
  refine ⟨by rw [List.length_take, List.length_take, h.1]; omega, fun j hj => ?_⟩
  have hj2 : j < n := by rw [List.length_take] at hj; omega
  obtain ⟨q, c, h1, h2, h3⟩ := h.2 j (by omega)
  have e3 : (L.take n)[j] = L[j]'(by omega) := List.getElem_take
  exact ⟨q, c, by rw [List.getElem?_take_of_lt (by omega), h1, e3], by rw [List.getElem?_take_of_lt (by omega), h2, e3], by rw [e3]; exact h3⟩
theorem RC.drop (h : RC D w xs L) (n : Nat) (hn : n ≤ L.length) : RC D w (xs.drop (n * 2)) (L.drop n) := by
  refine ⟨by rw [List.length_drop, List.length_drop, h.1]; omega, fun j hj => ?_⟩
  have hj2 : n + j < L.length := by rw [List.length_drop] at hj; omega
  obtain ⟨q, c, h1, h2, h3⟩ := h.2 (n + j) hj2
  have e3 : (L.drop n)[j] = L[n + j]'(by omega) := List.getElem_drop
  exact ⟨q, c, by rw [List.getElem?_drop, show n * 2 + j * 2 = (n + j) * 2 by omega, h1, e3], by rw [List.getElem?_drop, show n * 2 + (j * 2 + 1) = (n + j) * 2 + 1 by omega, h2, e3], by rw [e3]; exact h3⟩
theorem RC.one {q : Option Addr} {k : List Nat} {c : Nat} {t : ByteArray} (h : PtD D w q k) : RC D w [.slice q k.length c, .string t] [(k, t)] :=
  ⟨rfl, fun j hj => by
    have : j = 0 := by simpa using hj
    subst this
    exact ⟨q, c, rfl, rfl, h⟩⟩
theorem RC.oneCell (h : RC D w xs L) : ∀ u ∈ xs, u.oneCell' = true := by
  intro u hu
  obtain ⟨i, hi, rfl⟩ := List.getElem_of_mem hu
  rw [h.1] at hi
  obtain ⟨q, c, h1, h2, _⟩ := h.2 (i / 2) (by omega)
  rcases Nat.mod_two_eq_zero_or_one i with e | e
  · rw [show i / 2 * 2 = i by omega] at h1
    rw [List.getElem?_eq_some_iff] at h1
    obtain ⟨_, h1⟩ := h1
    rw [h1]; rfl
  · rw [show i / 2 * 2 + 1 = i by omega] at h2
    rw [List.getElem?_eq_some_iff] at h2
    obtain ⟨_, h2⟩ := h2
    rw [h2]; rfl
end
/-- a list of records that is read: its cells, whatever it begins at; no block of it and of its points is in D -/
def Rs (D : Nat → Prop) (w : World) (p : Option Addr) (L : List Rec) : Prop :=
  ∃ xs, RC D w xs L ∧ ∀ j u, xs[j]? = some u → ∃ b off, p = some ⟨b, off, none⟩ ∧ b < w.heap.size ∧ ¬ D b ∧ w.cell? ⟨b, off + j, none⟩ = some u
section
variable {D D' : Nat → Prop} {w w' : World} {p : Option Addr} {L : List Rec}
theorem Rs.nil (p : Option Addr) : Rs D w p [] := ⟨[], RC.nil, fun j u h => absurd h (by simp)⟩
theorem Rs.keep (h : Rs D w p L) (hk : Keep D w w') : Rs D w' p L := by
  obtain ⟨xs, h1, h2⟩ := h
  refine ⟨xs, h1.keep hk, fun j u hj => ?_⟩
  obtain ⟨b, off, g1, g2, g3, g4⟩ := h2 j u hj
  exact ⟨b, off, g1, Nat.lt_of_lt_of_le g2 hk.size, g3, (hk.cell g2 g3).trans g4⟩
theorem Rs.below (h : Rs D w p L) (hb : Below w.heap.size w w') : Rs D w' p L := h.keep (.below hb)
theorem Rs.less (h : Rs D w p L) (hd : ∀ b, b < w.heap.size → D' b → D b) : Rs D' w p L := by
  obtain ⟨xs, h1, h2⟩ := h
  refine ⟨xs, h1.less hd, fun j u hj => ?_⟩
  obtain ⟨b, off, g1, g2, g3, g4⟩ := h2 j u hj
  exact ⟨b, off, g1, g2, fun hb => g3 (hd b g2 hb), g4⟩
/-- the cells of the j-th record, and its point -/
theorem Rs.at (h : Rs D w p L) (j : Nat) (hj : j < L.length) :
    ∃ b off q c, p = some ⟨b, off, none⟩ ∧ b < w.heap.size ∧ w.cell? ⟨b, off + j * 2, none⟩ = some (.slice q L[j].1.length c) ∧ w.cell? ⟨b, off + j * 2 + 1, none⟩ = some (.string L[j].2) ∧ PtD D w q L[j].1 := by
  obtain ⟨xs, h1, h2⟩ := h
  obtain ⟨q, c, g1, g2, g3⟩ := h1.2 j hj
  obtain ⟨b, off, e1, e2, _, e3⟩ := h2 _ _ g1
  obtain ⟨b', off', f1, _, _, f3⟩ := h2 _ _ g2
  rw [e1] at f1
  cases f1
  exact ⟨b, off, q, c, e1, e2, e3, f3, g3⟩
theorem Rs.drew (h : Rs D w p L) : Rs D w.drew p L := h.keep ⟨Nat.le_refl _, fun _ _ _ => rfl⟩
theorem Rs.drewN (h : Rs D w p L) (n : Nat) : Rs D (w.drewN n) p L := h.keep ⟨Nat.le_refl _, fun _ _ _ => rfl⟩
theorem Rs.alloc (h : Rs D w p L) (o : Obj) : Rs D (w.alloc o) p L := h.below (below_alloc w o)
end
theorem addr_add (b o i : Nat) : (⟨b, o, none⟩ : Addr).add i = ⟨b, o + i, none⟩ := by unfold Addr.add; split <;> simp_all
/-- a slice of a list -/
def cutP (p : Option Addr) (n : Nat) : Option Addr := p.map fun a => a.add n
theorem Rs.take {D : Nat → Prop} {w : World} {p : Option Addr} {L : List Rec} (h : Rs D w p L) (n : Nat) (hn : n ≤ L.length) : Rs D w p (L.take n) := by
  obtain ⟨xs, h1, h2⟩ := h
  refine ⟨xs.take (n * 2), h1.take n hn, fun j u hj => h2 j u ?_⟩
  rw [List.getElem?_take] at hj
  split at hj
  · exact hj
  · cases hj
theorem Rs.drop {D : Nat → Prop} {w : World} {p : Option Addr} {L : List Rec} (h : Rs D w p L) (n : Nat) (hn : n ≤ L.length) : Rs D w (cutP p (n * 2)) (L.drop n) := by
  obtain ⟨xs, h1, h2⟩ := h
  refine ⟨xs.drop (n * 2), h1.drop n hn, fun j u hj => ?_⟩
  rw [List.getElem?_drop] at hj
  obtain ⟨b, off, e1, e2, e3, e4⟩ := h2 _ _ hj
  refine ⟨b, off + n * 2, by rw [e1]; unfold cutP; simp [addr_add], e2, e3, ?_⟩
  rw [← e4]; congr 2; omega
/-- the blocks that are there, from N on -/
def Ge (N : Nat) : Nat → Prop := fun k => N ≤ k
end Go.Proofs.YtgihpdhkjneimaaGreatDoor.Bk

/- The small calls of bucket, of the reference and of the laws. -/
namespace Go.Proofs.YtgihpdhkjneimaaGreatDoor.Bk
open Go.RowKit
open Go.Lib (hid)
open Go.Proofs.YtgihpdhkjneimaaGreatDoor.Ky

theorem quiet_eq {f : FuncId} {args : Array Value} {w : World} {n : Nat} {v : Value} (h : Calls Tryz.prog f args (w.drewN n) fun e w' => e = .returned v ∧ w.drewN n = w') :
    Calls Tryz.prog f args (w.drewN n) fun e w'' => e = .returned v ∧ ∃ m, w'' = w.drewN m := h.mono fun _ _ ⟨he, hm⟩ => ⟨he, n, hm.symm⟩
theorem quiet_more {f : FuncId} {args : Array Value} {w : World} {n : Nat} {v : Value} (h : Calls Tryz.prog f args (w.drewN n) fun e w' => e = .returned v ∧ ∃ m, w' = (w.drewN n).drewN m) :
    Calls Tryz.prog f args (w.drewN n) fun e w'' => e = .returned v ∧ ∃ m, w'' = w.drewN m := h.mono fun _ _ ⟨he, _, hm⟩ => ⟨he, _, hm.trans (World.drewN_drewN _ _ _)⟩
/-- records that a program may have: not too many, not too long -/
def bigR (L : List Rec) : Prop := L.length ≤ 1000 ∧ ∀ r ∈ L, r.1.length ≤ 1000 ∧ r.2.size ≤ 1000
theorem fewR_big {L : List Rec} (h : fewR L) : bigR L := ⟨by have := h.1; omega, fun r hr => by have := h.2 r hr; omega⟩
theorem sizeR_lt (L : List Rec) (h : ∀ r ∈ L, r.1.length ≤ 1000 ∧ r.2.size ≤ 1000) : sizeR L ≤ 1 + L.length * 5001 := by
  unfold sizeR
  induction L with
  | nil => simp
  | cons a l ih =>
    have h1 := h a (by simp)
    have h2 := ih fun r hr => h r (by simp [hr])
    simp only [List.map_cons, List.sum_cons, List.length_cons]
    omega
theorem bigR_take {L : List Rec} (h : bigR L) (k : Nat) : sizeR (L.take k) ≤ 6000000 := by
  have h1 := sizeR_mono L k
  have h2 := sizeR_lt L h.2
  have := h.1
  omega
def fitsB (L : List Rec) (c : Int) : Bool := decide ((L.length : Int) ≤ c) && decide (sizeR L ≤ 230)
def takesB (c : Int) : Bool := decide (2 ≤ c) && decide (c ≤ 16)
theorem mayR_eq (r : Rec) (d : Int) : mayR r d = (checkB r.1.length d && decide (r.2.size ≤ 40)) := by
  unfold mayR checkB mayB
  rw [Bool.eq_iff_iff]; simp; omega
/-- a row of the first k records that may be -/
def mayAll (L : List Rec) (d : Int) : Bool := L.all fun r => mayR r d
theorem mayAll_take {L : List Rec} {d : Int} {k : Nat} (h : k < L.length) (h1 : mayAll (L.take k) d = true) (h2 : mayR L[k] d = true) : mayAll (L.take (k + 1)) d = true := by
  unfold mayAll at *
  rw [List.take_succ_eq_append_getElem h, List.all_append, h1]
  simp [h2]
theorem mayAll_no {L : List Rec} {d : Int} {k : Nat} (h : k < L.length) (h2 : mayR L[k] d = false) : mayAll L d = false := by
  unfold mayAll
  rw [List.all_eq_false]
  exact ⟨L[k], List.getElem_mem h, by simp [h2]⟩
end Go.Proofs.YtgihpdhkjneimaaGreatDoor.Bk

/- Appends of whatever to whatever: onto a slice without room, and onto a row of the call's own. -/
namespace Go.Proofs.YtgihpdhkjneimaaGreatDoor.Bk
open Go.RowKit
open Go.Lib (hid)
open Go.Proofs.YtgihpdhkjneimaaGreatDoor.Ky

/-- cells that are read from a place on -/
def ReadAt (w : World) (p : Option Addr) (xs : List Value) : Prop := ∀ j u, xs[j]? = some u → ∃ b off, p = some ⟨b, off, none⟩ ∧ b < w.heap.size ∧ w.cell? ⟨b, off + j, none⟩ = some u
theorem ReadAt.below {w w' : World} {p : Option Addr} {xs : List Value} (h : ReadAt w p xs) (hb : Below w.heap.size w w') : ReadAt w' p xs := fun j u hj => by
  obtain ⟨b, off, e, hl, hc⟩ := h j u hj
  exact ⟨b, off, e, Nat.lt_of_lt_of_le hl hb.size, (hb.cell (p := ⟨b, _, none⟩) hl).trans hc⟩
theorem ReadAt.nil (w : World) (p : Option Addr) : ReadAt w p [] := fun j u hj => absurd hj (by simp)
theorem ReadAt.some_at {w : World} {p : Option Addr} {xs : List Value} (h : ReadAt w p xs) (h0 : 0 < xs.length) : ∃ b off, p = some ⟨b, off, none⟩ ∧ ∀ j u, xs[j]? = some u → w.cell? ((⟨b, off, none⟩ : Addr).add j) = some u := by
  obtain ⟨b, off, e, _, _⟩ := h 0 _ (List.getElem?_eq_getElem h0)
  refine ⟨b, off, e, fun j u hj => ?_⟩
  obtain ⟨b', off', e', _, hc⟩ := h j u hj
  rw [e] at e'
  cases e'
  rw [addr_add]; exact hc
theorem ReadAt.src {w : World} {p : Option Addr} {news : List Value} {P : Program} {t e : TypeId} {size m : Nat} (ht : P.underlying t = some (.slice e)) (h : ReadAt w p news) (hl : news.length = m * size) (hz : 0 < size) (h1 : ∀ u ∈ news, u.oneCell' = true) (c : Nat) : Src P size t (.slice p m c) m news w := by
  by_cases hm : m = 0
  · subst hm
    have hn : news = [] := List.length_eq_zero_iff.1 (by omega)
    subst hn
    cases p with
    | none => exact Src.ofNil w ht c
    | some a => exact Src.ofSlice w ht a 0 c [] (by simp) (fun j u hj => absurd hj (by simp)) (fun u hu => absurd hu (by simp))
  · obtain ⟨b, off, rfl, hc⟩ := h.some_at (by rw [hl]; exact Nat.mul_pos (by omega) hz)
    exact Src.ofSlice w ht _ m c news hl hc h1
/-- onto a slice that has no room -/
theorem run_app_full {P : Program} {w : World} {t e : TypeId} {i : TypeInfo} {z : Value} {size bytes : Nat} (ht : P.underlying t = some (.slice e)) (hi : P.info? e = some i) (hz : i.zero = some z)
    (hsize : i.size = size) (hby : i.bytes = bytes) (hzs : z.cells.size = size) (hsz : 0 < size) (ty : TypeId) (x : Option Addr) (n : Nat) (xs : List Value) (hx : ReadAt w x xs) (hxl : xs.length = n * size)
    (y : Value) (m : Nat) (news : List Value) (hs : Src P size t y m news w) (h63 : n + m ≤ maxLen) (hbytes : (n + m) * bytes ≤ 140737488355328) :
    ∃ p' c' w', (Builtin.append_ #[t, t] ty #[.slice x n n, y]).run P w = .ok (.slice p' (n + m) c') w' ∧ ReadAt w' p' (xs ++ news) ∧ Below w.heap.size w w' ∧ n + m ≤ c' ∧ (0 < m → w'.ownsRow w.heap.size e size (.slice p' (n + m) c') (n + m) (xs ++ news) ∧ p' = some ⟨w.heap.size, 0, none⟩) := by
  subst hsize
  subst hby
  by_cases hm : m = 0
  · subst hm
    have hn : news = [] := List.length_eq_zero_iff.1 (by have := hs.newsLen; omega)
    subst hn
    have hr : (Builtin.append_ #[t, t] ty #[.slice x n n, y]).run P w = .ok (.slice x (n + 0) n) w := by
      have hl := hs.len
      have hc := hs.cells
      rcases hs.kind with ⟨_, _⟩ | hk
      · cases x with
        | none =>
          have : n = 0 := by
            by_cases h0 : 0 < xs.length
            · obtain ⟨b, off, e1, _⟩ := hx.some_at h0; cases e1
            · rcases Nat.eq_zero_or_pos n with h | h
              · exact h
              · exact absurd (Nat.mul_pos h hsz) (by omega)
          subst this
          simp [Builtin.append_, run_underlying ht, sizeOf, typeInfo, hi, hl, hc]
        | some a =>
          simp [Builtin.append_, run_underlying ht, sizeOf, typeInfo, hi, hl, hc, storeCells]
      · rw [ht] at hk; cases hk
    refine ⟨x, n, w, hr, by rw [List.append_nil]; exact hx, Below.refl _ _, Nat.le_refl _, fun h => absurd h (by omega)⟩
  · have hold : (Builtin.firstCells i.size n (.slice x n n)).run P w.drew = .ok xs.toArray w.drew := by
      by_cases h0 : 0 < xs.length
      · obtain ⟨b, off, rfl, hc⟩ := hx.some_at h0
        exact run_firstCells_some w.drew i.size n _ n n xs hxl (by simpa using hc)
      · have hxn : xs = [] := List.length_eq_zero_iff.1 (by omega)
        subst hxn
        have hn0 : n = 0 := by
          rcases Nat.eq_zero_or_pos n with h | h
          · exact h
          · have := Nat.mul_pos h hsz; simp at hxl; omega
        subst hn0
        cases x with
        | none => exact run_firstCells_none w.drew i.size 0 0 0
        | some a => exact run_firstCells_some w.drew i.size 0 a 0 0 [] (by simp) (fun j u hj => absurd hj (by simp))
    have hr := run_append_grow_src (P := P) w t t ty e i z ht hi hz x n n xs hold y m news hs (by omega) (by unfold maxLen at h63; omega) (growslice_fits (by omega) hbytes)
    have hge := grownCap_ge w (n + m) n e
    have hcm := grownCap_le_maxLen w (n + m) n e h63
    generalize grownCap w (n + m) n e = cap at hr hge hcm
    have hsize : ((xs ++ news).toArray ++ Builtin.zeroCells z.cells (cap - (n + m))).size = cap * i.size := by
      have h1 := hs.newsLen
      have h2 : (Builtin.zeroCells z.cells (cap - (n + m))).size = (cap - (n + m)) * i.size := by
        rw [← hzs]
        simp [Builtin.zeroCells]
      rw [Array.size_append, h2, List.size_toArray, List.length_append, hxl, h1, ← Nat.add_mul, ← Nat.add_mul]
      congr 1; omega
    have htake : ((xs ++ news).toArray ++ Builtin.zeroCells z.cells (cap - (n + m))).toList.take ((n + m) * i.size) = xs ++ news := by
      rw [Array.toList_append]
      have hl : (xs ++ news).length = (n + m) * i.size := by rw [List.length_append, hxl, hs.newsLen, Nat.add_mul]
      rw [← hl]
      exact List.take_left
    have hheap : (w.drew.alloc (.cells ((xs ++ news).toArray ++ Builtin.zeroCells z.cells (cap - (n + m))) e)).heap[w.heap.size]? = some (.cells ((xs ++ news).toArray ++ Builtin.zeroCells z.cells (cap - (n + m))) e (0, 0)) := heap_alloc_new w.drew _
    refine ⟨_, _, _, hr, fun j u hj => ⟨w.heap.size, 0, rfl, by simp, ?_⟩, ((Below.refl _ _).drew.alloc (Nat.le_refl _) _), hge, fun _ => ⟨⟨by rw [List.length_append, hxl, hs.newsLen, Nat.add_mul], .inr ⟨w.heap.size, cap, _, rfl, Nat.le_refl _, hheap, hge, hcm, hsize, htake⟩⟩, rfl⟩⟩
    rw [cell_of_row _ _ _ _ _ _ hheap, Nat.zero_add]
    have hjl : j < (n + m) * i.size := by
      have := (List.getElem?_eq_some_iff.1 hj).1
      rw [List.length_append, hxl, hs.newsLen, ← Nat.add_mul] at this
      exact this
    rw [← htake, List.getElem?_take, if_pos hjl, Array.getElem?_toList] at hj
    exact hj
/-- onto a row of the call's own -/
theorem run_app_own {P : Program} {w : World} {t e : TypeId} {i : TypeInfo} {z : Value} {size bytes : Nat} (ht : P.underlying t = some (.slice e)) (hi : P.info? e = some i) (hz : i.zero = some z)
    (hsize : i.size = size) (hby : i.bytes = bytes) (hzs : z.cells.size = size) (hsz : 0 < size) (ty : TypeId) {base : Nat} (v : Value) (n : Nat) (xs : List Value) (hown : w.ownsRow base e size v n xs)
    (q : Option Addr) (m c : Nat) (news : List Value) (hq : ReadAt w q news) (hl : news.length = m * size) (h1 : ∀ u ∈ news, u.oneCell' = true) (h63 : n + m ≤ maxLen) (hbytes : (n + m) * bytes ≤ 140737488355328) (hbase : base ≤ w.heap.size) :
    ∃ v' w', (Builtin.append_ #[t, t] ty #[v, .slice q m c]).run P w = .ok v' w' ∧ w'.ownsRow base e size v' (n + m) (xs ++ news) ∧ w.grownBy w' v.ownBlock ∧ (v'.ownBlock = v.ownBlock ∨ v'.ownBlock = some w.heap.size) := by
  by_cases hm : m = 0
  · subst hm
    have hn : news = [] := List.length_eq_zero_iff.1 (by omega)
    subst hn
    have hr : (Builtin.append_ #[t, t] ty #[v, .slice q 0 c]).run P w = .ok v w := by
      subst hsize
      rcases hown.2 with ⟨rfl, rfl⟩ | ⟨g, cap, cur, rfl, _, _, hle, _⟩
      · cases q <;> simp [Builtin.append_, run_underlying ht, sizeOf, typeInfo, hi, Builtin.lenOf, Builtin.firstCells, loadCells, loadCellsFrom]
      · cases q <;> simp [Builtin.append_, run_underlying ht, sizeOf, typeInfo, hi, Builtin.lenOf, Builtin.firstCells, loadCells, loadCellsFrom, storeCells, hle]
    refine ⟨v, w, hr, by rw [List.append_nil]; exact hown, ⟨rfl, rfl, rfl, Nat.le_refl _, fun _ _ _ => rfl⟩, .inl rfl⟩
  · obtain ⟨b, off, rfl, hc⟩ := hq.some_at (by rw [hl]; exact Nat.mul_pos (by omega) hsz)
    obtain ⟨g, cap, w', hr, h2, h3, h4, _⟩ := run_append_lies (P := P) w t ty base e i z size bytes ht hi hz hsize hby hzs hsz v n xs hown ⟨b, off, none⟩ m c news hl hc h1 (by omega) h63 hbytes hbase w.heap.size rfl
    refine ⟨_, w', hr, h2, h3, ?_⟩
    rcases h4 with h4 | h4
    · exact .inl h4.symm
    · right; rw [h4]; rfl
section
variable {P : Program} {w : World} {ops : Array Oper} {o : Oper} {a : Act} {Q : Exit → Act → World → Prop}
theorem wp_app_run {K : Act → World → Prop} (s x : Operand) (t : TypeId) (ho : o.op = .call { callee := .builtin .append, args := #[s, x], argTypes := #[t, t] }) {v y v' : Value} {w' : World} (hs : a.eval s = v) (hx : a.eval x = y)
    (hr : (Builtin.append_ #[t, t] o.type #[v, y]).run P w = .ok v' w') (h : K (a.put o.dst v') w') : o.wp P a w K Q := by
  unfold Oper.wp execOp
  simp only [ho, resolve, invoke, builtin, Sem.run_bind, Sem.run_pure, Result.andThen_ok, List.map_toArray, List.map_cons, List.map_nil, hs, hx, hr]
  exact h
/-- an append at the walk: what it gives is told by 'F' -/
theorem wpList_app {rest : List Oper} (hgd : o.guard = none) (s x : Operand) (t : TypeId) (ho : o.op = .call { callee := .builtin .append, args := #[s, x], argTypes := #[t, t] }) {v y : Value} (hs : a.eval s = v) (hx : a.eval x = y) {F : Value → World → Prop}
    (hr : ∃ v' w', (Builtin.append_ #[t, t] o.type #[v, y]).run P w = .ok v' w' ∧ F v' w') (h : ∀ v' w', F v' w' → wpList P ops Q rest (a.put o.dst v') w') : wpList P ops Q (o :: rest) a w := by
  obtain ⟨v', w', hr, hf⟩ := hr
  exact wpList_plain hgd fun _ hK => wp_app_run s x t ho hs hx hr (hK _ _ (h v' w' hf))
theorem step_app {K : Act → World → Prop} {E : Prop} (hgd : o.guard = none) (s x : Operand) (t : TypeId) (ho : o.op = .call { callee := .builtin .append, args := #[s, x], argTypes := #[t, t] }) {v y : Value} (hs : a.eval s = v) (hx : a.eval x = y) {F : Value → World → Prop}
    (hr : ∃ v' w', (Builtin.append_ #[t, t] o.type #[v, y]).run P w = .ok v' w' ∧ F v' w') (h : ∀ v' w', F v' w' → K (a.put o.dst v') w') :
    if Region.wanted o (yielded ops a.tmps) = true then Oper.wp P o a w K Q else E := by
  have hw : Region.wanted o (yielded ops a.tmps) = true := by simp [Region.wanted, hgd]
  rw [if_pos hw]
  obtain ⟨v', w', hr, hf⟩ := hr
  exact wp_app_run s x t ho hs hx hr (h v' w' hf)
end
/-- what an append onto a slice without room gives -/
def Full (w : World) (e : TypeId) (size n m : Nat) (ys : List Value) (v' : Value) (w' : World) : Prop :=
  ∃ p' c', v' = .slice p' (n + m) c' ∧ ReadAt w' p' ys ∧ Below w.heap.size w w' ∧ n + m ≤ c' ∧ (0 < m → w'.ownsRow w.heap.size e size (.slice p' (n + m) c') (n + m) ys ∧ p' = some ⟨w.heap.size, 0, none⟩)
/-- what an append onto a row of the call's own gives -/
def Owns (w : World) (base : Nat) (e : TypeId) (size : Nat) (v : Value) (n : Nat) (ys : List Value) (v' : Value) (w' : World) : Prop :=
  w'.ownsRow base e size v' n ys ∧ w.grownBy w' v.ownBlock ∧ (v'.ownBlock = v.ownBlock ∨ v'.ownBlock = some w.heap.size)
theorem kinfo : (Tryz.prog.info? 82).map (fun i => (i.zero, i.size, i.bytes)) = some (some (.int .u32 0), 1, 4) := by kernel_rfl
/-- a point's cells -/
def kl (l : List Nat) : List Value := l.map fun (x : Nat) => Value.int .u32 (x : Int)
theorem kl_length (l : List Nat) : (kl l).length = l.length := by simp [kl]
theorem kl_one (l : List Nat) : ∀ u ∈ kl l, u.oneCell' = true := fun u hu => by
  obtain ⟨x, _, rfl⟩ := List.mem_map.1 hu
  rfl
theorem Pt.read {w : World} {p : Option Addr} {l : List Nat} (h : Pt w p l) : ReadAt w p (kl l) := fun j u hj => by
  have hjl : j < l.length := by have := (List.getElem?_eq_some_iff.1 hj).1; rwa [kl_length] at this
  obtain ⟨b, off, e, hb, hc⟩ := h.cells j hjl
  refine ⟨b, off, e, hb, hc.trans ?_⟩
  rw [← hj]; simp [kl, hjl]
/-- a point that is new -/
theorem new_pt {w w' : World} {l : List Nat} {v' : Value} (hf : ∀ j, (hj : j < l.length) → l[j] < 4294967296) (h : Full w 82 1 0 l.length (kl l) v' w') :
    ∃ p' c', v' = .slice p' l.length c' ∧ PtD (fun k => k < w.heap.size) w' p' l ∧ Below w.heap.size w w' := by
  obtain ⟨p', c', rfl, hr, hb, _, ho⟩ := h
  refine ⟨p', c', by rw [Nat.zero_add], ⟨fun j hj => ?_, hf⟩, hb⟩
  obtain ⟨b, off, e, hlt, hc⟩ := hr j (.int .u32 (l[j] : Int)) (by simp [kl, hj])
  refine ⟨b, off, e, hlt, ?_, hc⟩
  have := (ho (by omega)).2
  rw [e] at this
  injection this with this
  injection this with h1
  omega
end Go.Proofs.YtgihpdhkjneimaaGreatDoor.Bk

/- Copies: of a text, a point, a record, records; of both sides. -/
namespace Go.Proofs.YtgihpdhkjneimaaGreatDoor.Bk
open Go.RowKit
open Go.Lib (hid)
open Go.Proofs.YtgihpdhkjneimaaGreatDoor.Ky

/-- what was there ahead of N -/
def Lt (N : Nat) : Nat → Prop := fun k => k < N
theorem PtD.to {D : Nat → Prop} {w : World} {p : Option Addr} {l : List Nat} {N : Nat} (h : PtD D w p l) (hd : ∀ k, k < N → D k) : PtD (Lt N) w p l := h.less fun b _ hb => hd b hb
theorem Pt.ptd {w : World} {p : Option Addr} {l : List Nat} (h : Pt w p l) : PtD (fun _ => False) w p l := ⟨fun j hj => by
  obtain ⟨b, off, h1, h2, h3⟩ := h.cells j hj
  exact ⟨b, off, h1, h2, id, h3⟩, h.fit⟩
set_option maxHeartbeats 400000 in
theorem strClone_ok (t : ByteArray) (w : World) (h : t.size ≤ 1000000) :
    Calls Tryz.prog 95 #[.string t] w fun e w' => e = .returned (.string t) ∧ Below w.heap.size w w' := by
  have h2 : t.size ≤ 281474976710656 := by omega
  have H := hid h2; clear h h2
  go_enter Tryz.func95, Tryz.ntmps95
  go_wp2_with (first
    | (go_at_call 130; refine (Tryz.stringslite_Clone t _ H.out).mono ?_; rintro e w' ⟨rfl, hb⟩; have HB := hid hb; clear hb)
    | fail)
  go_ret
  exact ⟨rfl, HB.out⟩
/-- a record's two blocks: the argument's, and the result's -/
theorem two_new (w : World) (a b : Obj) : ((w.alloc a).alloc b).heap[w.heap.size]? = some a ∧ ((w.alloc a).alloc b).heap[w.heap.size + 1]? = some b ∧ ((w.alloc a).alloc b).heap.size = w.heap.size + 2 := by
  have s1 : (w.alloc a).heap.size = w.heap.size + 1 := by simp
  refine ⟨?_, ?_, by simp⟩
  · rw [Below.heap_alloc _ _ _ (by omega), heap_alloc_new]
  · rw [← s1, heap_alloc_new]
theorem two_cells {w : World} {g : Nat} {x y : Value} {T : TypeId} (h : w.heap[g]? = some (.cells #[x, y] T)) : w.cell? ⟨g, 0, none⟩ = some x ∧ w.cell? ⟨g, 1, none⟩ = some y ∧ w.frozen? ⟨g, 0, none⟩ = false ∧ w.frozen? ⟨g, 1, none⟩ = false :=
  ⟨by rw [cell_of_row _ _ _ _ _ _ h]; rfl, by rw [cell_of_row _ _ _ _ _ _ h]; rfl, by simp [World.frozen?, h], by simp [World.frozen?, h]⟩
theorem two_set {w : World} {g : Nat} {x y : Value} {T : TypeId} (h : w.heap[g]? = some (.cells #[x, y] T)) (u v : Value) : ((w.setCell ⟨g, 0, none⟩ u).setCell ⟨g, 1, none⟩ v).heap[g]? = some (.cells #[u, v] T) := by
  have b1 : (w.setCell ⟨g, 0, none⟩ u).heap[g]? = some (.cells #[u, y] T (0, 0)) := by simp [World.setCell, Array.getElem?_modify, h]
  rw [World.setCell, Array.getElem?_modify, if_pos rfl, b1]; rfl
theorem two_keep {D : Nat → Prop} {w : World} {g : Nat} (hg : D g) (u v : Value) : Keep D w ((w.setCell ⟨g, 0, none⟩ u).setCell ⟨g, 1, none⟩ v) :=
  ⟨by simp, fun k _ hD => by
    have hne : k ≠ g := fun e => hD (e ▸ hg)
    rw [Below.heap_setCell _ ⟨g, 1, none⟩ _ _ hne, Below.heap_setCell _ ⟨g, 0, none⟩ _ _ hne]⟩
end Go.Proofs.YtgihpdhkjneimaaGreatDoor.Bk

/- Copies of pages. -/
namespace Go.Proofs.YtgihpdhkjneimaaGreatDoor.Pp
open Go.RowKit
open Go.Lib (hid)
open Go.Proofs.YtgihpdhkjneimaaGreatDoor.Dk
open Go.Proofs.YtgihpdhkjneimaaGreatDoor.Jn
open Go.Proofs.YtgihpdhkjneimaaGreatDoor.Ap
open Go.Proofs.YtgihpdhkjneimaaGreatDoor.En (Lst PageT Pgs Mine flatP flatP_length flatP_one flatP_at pinfo)
/-- what an append of pages onto an empty slice gives -/
def MineX (w : World) (L : List PageT) (v' : Value) (w' : World) : Prop := ∃ p' c', v' = .slice p' L.length c' ∧ (0 < L.length → p' = some ⟨w.heap.size, 0, none⟩ ∧ Mine w' w.heap.size L) ∧ Below w.heap.size w w'
theorem pages_newx {w : World} (ty : TypeId) (x q : Option Addr) (L : List PageT) (c n : Nat) (hn : L.length = n) (hq : Pgs w q L) (hb : n ≤ 100000) :
    ∃ v' w', (Builtin.append_ #[37, 37] ty #[.slice x 0 0, .slice q n c]).run Tryz.prog w = .ok v' w' ∧ MineX w L v' w' := by
  subst hn
  obtain ⟨i, hi, hz0, hz1, hz2⟩ := Ap.info_parts pinfo
  obtain ⟨p', c', w', hr, h1, h2, h3, h4⟩ := run_app_full (P := Tryz.prog) Tryz.underlying37 hi hz0 hz1 hz2 rfl (by decide) ty x 0 [] (ReadAt.nil w x) (by simp) (.slice q L.length c) L.length (flatP L) (hq.read.src Tryz.underlying37 (flatP_length L) (by decide) (flatP_one L) c) (by unfold maxLen; omega) (by omega)
  rw [Nat.zero_add] at hr h4
  refine ⟨_, w', hr, p', c', rfl, fun h0 => ?_, h2⟩
  obtain ⟨h5, rfl⟩ := h4 h0
  refine ⟨rfl, fun i hi => ?_, fun j => ?_, ?_⟩
  · obtain ⟨a0, a1, a2⟩ := flatP_at L i hi
    have hc : ∀ j u, (flatP L)[j]? = some u → w'.cell? ⟨w.heap.size, j, none⟩ = some u := fun j u hj => by
      obtain ⟨b, off, e, _, hc⟩ := h1 j u (by simpa using hj)
      cases e
      rw [Nat.zero_add] at hc; exact hc
    exact ⟨hc _ _ a0, hc _ _ a1, hc _ _ a2⟩
  · rcases h5.2 with ⟨h6, h7⟩ | ⟨g, cap, cur, e, _, hh, _⟩
    · cases h6
    · cases e
      exact frozen_of_row _ _ _ _ _ hh
  · rcases h5.2 with ⟨h6, h7⟩ | ⟨g, cap, cur, e, _, hh, _⟩
    · cases h6
    · cases e
      exact (Array.getElem?_eq_some_iff.1 hh).1
/-- a copy of pages: in new memory, if there are any -/
def CopyP (w : World) (L : List PageT) (e : Ending) (w' : World) : Prop := ∃ p' c', e = .returned (.slice p' L.length c') ∧ (0 < L.length → ∃ g, p' = some ⟨g, 0, none⟩ ∧ Mine w' g L ∧ w.heap.size ≤ g) ∧ Below w.heap.size w w'
theorem CopyP.pgs {w : World} {L : List PageT} {e : Ending} {w' : World} (h : CopyP w L e w') : ∃ p' c', e = .returned (.slice p' L.length c') ∧ Pgs w' p' L ∧ (∀ g off, p' = some ⟨g, off, none⟩ → 0 < L.length → w.heap.size ≤ g ∧ g < w'.heap.size) ∧ Below w.heap.size w w' := by
  obtain ⟨p', c', h1, h2, h3⟩ := h
  refine ⟨p', c', h1, ?_, fun g off e h0 => ?_, h3⟩
  · by_cases h0 : 0 < L.length
    · obtain ⟨g, rfl, hm, _⟩ := h2 h0
      exact hm.pgs
    · exact fun i hi => absurd hi (by omega)
  · obtain ⟨g', rfl, hm, hg⟩ := h2 h0
    cases e
    exact ⟨hg, hm.lt⟩
set_option maxRecDepth 100000 in
set_option maxHeartbeats 2000000 in
theorem clone_pg (L : List PageT) (p : Option Addr) (c : Nat) (w : World) (hp : Pgs w p L) (hl : L.length ≤ 100000) :
    Calls Tryz.prog 94 #[.slice p L.length c] w (CopyP w L) := by
  have q22 : ∀ (w : World) (a : Option Addr) (n c n' c' : Nat), (binOp .eql 37 (.slice a n c) (.slice none n' c')).run Tryz.prog w = .ok (.bool a.isNone) w := fun w a n c n' c' => Lib.run_eql_slice_nil w _ _ a n c n' c' Tryz.underlying37
  cases p with
  | none =>
    have h0 : L = [] := by
      cases L with
      | nil => rfl
      | cons x l => obtain ⟨b, off, e, _⟩ := hp 0 (by simp); cases e
    subst h0
    clear hp
    go_enter Tryz.func94, Tryz.ntmps94
    go_wp2_with fail
    go_ret
    exact ⟨none, 0, rfl, (fun h => absurd h (by simp)), Below.refl _ _⟩
  | some a =>
    obtain ⟨n, hn⟩ : ∃ n, L.length = n := ⟨_, rfl⟩
    have HP := hid hp; have HN := hid hn
    rw [hn] at hl ⊢
    clear hp hn
    go_enter Tryz.func94, Tryz.ntmps94
    have HB0 := hid ((Below.refl w.heap.size w).alloc (Nat.le_refl _) (.cells #[] 69))
    go_wp2_with (at_builtin; refine wpList_app rfl _ _ _ rfl rfl rfl (pages_newx _ _ _ L _ n HN.out (HP.out.below HB0.out) hl) ?_)
    intro v' w1 hF
    obtain ⟨p', c', rfl, hm, hb⟩ := hF
    have HM := hid hm
    have HB := hid (HB0.out.trans (hb.mono HB0.out.size))
    clear hm hb
    go_wp2_with fail
    go_ret
    exact ⟨p', c', rfl, (fun h0 => ⟨_, (HM.out h0).1, (HM.out h0).2, HB0.out.size⟩), HB.out⟩
set_option maxRecDepth 100000 in
set_option maxHeartbeats 4000000 in
theorem copies_ok (L : List PageT) (p : Option Addr) (c : Nat) (w : World) (hp : Pgs w p L) (hl : L.length ≤ 100000) (hs : ∀ q ∈ L, q.2.2.size ≤ 1000000) :
    Calls Tryz.prog 52 #[.slice p L.length c] w (CopyP w L) := by
  have HC := hid (clone_pg L p c w hp hl)
  obtain ⟨n, hn⟩ : ∃ n, L.length = n := ⟨_, rfl⟩
  have HN := hid hn; have HS := hid hs
  rw [hn] at hl
  clear hp hn hs
  go_enter Tryz.func52, Tryz.ntmps52
  go_wp2_with fail
  refine HC.out.mono ?_
  rintro e w2 ⟨p', c', rfl, hm, hb⟩
  have HM := hid hm
  have HB := hid hb
  clear hm hb HC
  rw [HN.out]
  go_wp2_with fail
  by_cases h0 : 0 < n
  · obtain ⟨g, rfl, hmine, hg⟩ := HM.out (by rw [HN.out]; exact h0)
    have HMI := hid hmine; have HG := hid hg
    clear hmine hg HM
    go_loopw [9] (fun i wr => ∃ k : Nat, i = .int .i64 k ∧ k ≤ n ∧ Below w.heap.size w wr ∧ Mine wr g L) (fun i _ => n - (intOf i).toNat)
    case atStart => exact ⟨0, rfl, Nat.zero_le _, HB.out, HMI.out⟩
    case round =>
      obtain ⟨k, rfl, hk, hb, hmi⟩ := hrel
      have HBR := hid hb; have HMR := hid hmi
      clear hb hmi
      by_cases hlt : k < n
      · have hkL : k < L.length := by rw [HN.out]; exact hlt
        obtain ⟨d0, d1, d2⟩ := HMR.out.cell k hkL
        have hf := HMR.out.free (k * 3 + 2)
        have HSZ := hid (HS.out _ (List.getElem_mem hkL))
        have HCL := hid fun (V : World) => Bk.strClone_ok (L[k]'hkL).2.2 V HSZ.out
        have HST := hid fun (V : World) (hV : Mine V g L) => (show Mine (V.setCell ⟨g, k * 3 + 2, none⟩ (.string (L[k]'hkL).2.2)) g L by
          have h := hV.set k hkL (L[k]'hkL).2.2
          have e : L.set k ((L[k]'hkL).1, (L[k]'hkL).2.1, (L[k]'hkL).2.2) = L := List.set_getElem_self hkL
          rwa [e] at h)
        have HI := hid hlt
        generalize (L[k]'hkL).2.2 = bo at *
        clear d0 d1 HSZ
        go_wp2_with fail
        refine (HCL.out _).mono ?_
        rintro e w3 ⟨rfl, hb⟩
        have HB3 := hid (HBR.out.trans (hb.mono HBR.out.size))
        have HM3 := hid (HMR.out.below hb)
        have hf3 := HM3.out.free (k * 3 + 2)
        have d3 := (hb.cell (p := ⟨g, k * 3 + 2, none⟩) HMR.out.lt).trans d2
        clear hb d2 hf
        go_wp2_with fail
        go_roundw
        case rel => exact ⟨k + 1, by go_num, HI.out, HB3.out.setCell (by exact HG.out) _, HST.out _ HM3.out⟩
        case measure => simp [intOf]; have := HI.out; omega
      · obtain rfl : k = n := by omega
        go_wp2_with fail
        go_ret
        exact ⟨some ⟨g, 0, none⟩, c', by rw [HN.out]; rfl, (fun _ => ⟨g, rfl, HMR.out, HG.out⟩), HBR.out⟩
  · obtain rfl : n = 0 := by omega
    go_loopw [9] (fun i wr => i = .int .i64 0 ∧ Below w.heap.size w wr) (fun i _ => 0)
    case atStart => exact ⟨rfl, HB.out⟩
    case round =>
      obtain ⟨rfl, hb⟩ := hrel
      have HBR := hid hb
      clear hb
      go_wp2_with fail
      go_ret
      exact ⟨p', c', by rw [HN.out]; rfl, (fun h => absurd (HN.out ▸ h) (Nat.lt_irrefl 0)), HBR.out⟩
end Go.Proofs.YtgihpdhkjneimaaGreatDoor.Pp
