/- The document's slab on its way; its Place, Get and Fill. -/
import Derived.Test.YtpbidpgpehicmaaSlRNew
import Derived.Test.YtpbidpgpehicmaaSlCell
import Derived.Test.YtpbidpgpehicmaaSlRef2
import Derived.Test.YtpbidpgpehicmaaSlWith
import Derived.Test.YtpbidpgpehicmaaSlFlM
namespace Go.Proofs.Ytpbidpgpehicmaa.Sl
open Go.RowKit Go.Shelf
open Go.Lib (hid)

/-- the document's slab at b in blocks that are none of K; K's blocks are there -/
structure Rv (K : Nat → Prop) (V : World) (b : Nat) (S : List Nat) (C : List Int) : Prop where
  ex : ∃ g h, Rlb V b g h (zs S) C ∧ ∀ j, B3 b g h j → ¬ K j
  fit : Fits S C
  lt : ∀ j, K j → j < V.heap.size
theorem Rv.next {K : Nat → Prop} {V V' : World} {b : Nat} {S : List Nat} {C : List Int} (h : Rv K V b S C) (hb : Below V.heap.size V V') : Rv K V' b S C := by
  obtain ⟨g, k, hs, hn⟩ := h.ex
  exact ⟨⟨g, k, hs.below hb, hn⟩, h.fit, fun j hj => Nat.lt_of_lt_of_le (h.lt j hj) hb.size⟩
theorem withB_cons (c l h : Int) (C L H : List Int) : withB (c :: C) (l :: L) (h :: H) = (decide (l ≤ c) && decide (c ≤ h) && withB C L H) := by
  unfold withB
  rw [List.length_cons, List.range_succ_eq_map, List.all_cons, List.all_map]
  rfl
theorem with_nat (c L H : List Nat) (h1 : c.length = L.length) (h2 : c.length = H.length) : withB (zs c) (zs L) (zs H) = withinL c L H := by
  induction c generalizing L H with
  | nil => cases L <;> cases H <;> first | rfl | cases h1 | cases h2
  | cons x c ih => cases L with
    | nil => cases h1
    | cons l L => cases H with
      | nil => cases h2
      | cons y H =>
        show withB ((x : Int) :: zs c) ((l : Int) :: zs L) ((y : Int) :: zs H) = _
        rw [withB_cons, ih L H (by simpa using h1) (by simpa using h2)]
        simp [withinL]
/-- the document's Fill, so far -/
def fstep (S L H : List Nat) (N : Int) (C : List Int) (k : Nat) : List Int := (List.range k).foldl (fun C p => if withinL (cellL S p) L H = true then C.set p N else C) C
theorem fstep_succ (S L H : List Nat) (N : Int) (C : List Int) (k : Nat) : fstep S L H N C (k + 1) = if withinL (cellL S k) L H = true then (fstep S L H N C k).set k N else fstep S L H N C k := by
  unfold fstep
  rw [List.range_succ, List.foldl_append]; rfl
theorem fstep_len (S L H : List Nat) (N : Int) (C : List Int) (k : Nat) : (fstep S L H N C k).length = C.length := by
  induction k with
  | zero => rfl
  | succ k ih => rw [fstep_succ]; split
                 · rw [List.length_set, ih]
                 · exact ih
theorem fstep_all {S L H : List Nat} {C : List Int} (N : Int) (F : Fits S C) (h1 : okC S L = true) (h2 : okC S H = true) : fstep S L H N C C.length = fillL N (plcs S L H) C := by
  unfold fstep fillL plcs
  rw [places_eq S L H h1 h2 F.pos, ← F.len, fill_eq]
theorem rv_place {K : Nat → Prop} {V : World} {b : Nat} {S : List Nat} {C : List Int} (h : Rv K V b S C) (l : List Int) (p : Option Addr) (c : Nat) (hp : CellsAt V p (iv l)) (hl : l.length ≤ 1000000) :
    Calls Try.prog 21 #[.pointer (some ⟨b, 0, none⟩), .slice p l.length c] V fun e V' => e = .returned (.tuple #[.int .i64 (placeAns S l).1, .int .i64 (placeAns S l).2]) ∧ ∃ n, V' = V.drewN n := by
  obtain ⟨g, k, hs, _⟩ := h.ex
  obtain ⟨_, _, _, _, hb⟩ := hs.rb
  exact rPlace_ok b _ _ _ _ S C V hb l p c hp h.fit.some h.fit.pos (Nat.le_trans h.fit.most (by decide)) hl
theorem rv_get {K : Nat → Prop} {V : World} {b : Nat} {S : List Nat} {C : List Int} (h : Rv K V b S C) (l : List Int) (p : Option Addr) (c : Nat) (hp : CellsAt V p (iv l)) (hl : l.length ≤ 1000000) :
    Calls Try.prog 19 #[.pointer (some ⟨b, 0, none⟩), .slice p l.length c] V fun e V' => e = .returned (.tuple #[.int .i64 (getAns S C l).1, .int .i64 (getAns S C l).2]) ∧ ∃ n, V' = V.drewN n := by
  obtain ⟨g, k, hs, _⟩ := h.ex
  obtain ⟨_, _, _, _, hb⟩ := hs.rb
  exact rGet_ok b _ _ _ _ S C V hb h.fit.len l p c hp h.fit.some h.fit.pos (Nat.le_trans h.fit.most (by decide)) hl
theorem rv_may {K : Nat → Prop} {V : World} {b : Nat} {S : List Nat} {C : List Int} (h : Rv K V b S C) (lo hi : List Int) (p q : Option Addr) (c1 c2 : Nat) (hp : CellsAt V p (iv lo)) (hq : CellsAt V q (iv hi)) (hl : lo.length ≤ 1000000) (hl2 : hi.length ≤ 1000000) :
    Calls Try.prog 38 #[.pointer (some ⟨b, 0, none⟩), .slice p lo.length c1, .slice q hi.length c2] V fun e V' => e = .returned (.bool (rangeB (zs S) lo hi)) ∧ ∃ n, V' = V.drewN n := by
  obtain ⟨g, k, hs, _⟩ := h.ex
  obtain ⟨_, _, _, _, hb⟩ := hs.rb
  exact rmay_ok b _ _ _ _ S C V hb lo hi p q c1 c2 hp hq h.fit.some h.fit.pos (Nat.le_trans h.fit.most (by decide)) hl hl2
/-- the head of the document's slab, and its rows -/
structure RF (w : World) (K : Nat → Prop) (b g h k m : Nat) (S : List Nat) (X : List Int) (wr : World) : Prop where
  hd : wr.heap[b]? = some (.cells #[.slice (some ⟨g, 0, none⟩) S.length k, .slice (some ⟨h, 0, none⟩) X.length m] 32 (0, 0))
  sz : Row wr g (zs S)
  co : Row wr h X
  on : On K w wr
theorem RF.below {w wr wr' : World} {K : Nat → Prop} {b g h k m : Nat} {S : List Nat} {X : List Int} (H : RF w K b g h k m S X wr) (hb : Below wr.heap.size wr wr') : RF w K b g h k m S X wr' :=
  ⟨(hb.block b (Array.getElem?_eq_some_iff.1 H.hd).1).trans H.hd, H.sz.below hb, H.co.below hb, H.on.trans (on_below hb)⟩
theorem RF.cells {w wr : World} {K : Nat → Prop} {b g h k m : Nat} {S : List Nat} {X : List Int} (H : RF w K b g h k m S X wr) : wr.cell? ⟨b, 0, none⟩ = some (.slice (some ⟨g, 0, none⟩) S.length k) ∧ wr.cell? ⟨b, 1, none⟩ = some (.slice (some ⟨h, 0, none⟩) X.length m) :=
  ⟨by rw [cell_of_row _ _ _ _ _ _ H.hd]; rfl, by rw [cell_of_row _ _ _ _ _ _ H.hd]; rfl⟩
theorem CellsD.onl {K : Nat → Prop} {V V' : World} {p : Option Addr} {l : List Value} (h : CellsD (fun j => ¬ K j) V p l) (ho : On K V V') : CellsAt V' p l := (h.on ho).cells
set_option maxRecDepth 100000 in
set_option maxHeartbeats 4000000 in
theorem rfill_ok {K : Nat → Prop} {w : World} {b g h k m : Nat} {S : List Nat} {C : List Int} (H0 : RF w K b g h k m S C w) (F : Fits S C) (hn : ∀ j, B3 b g h j → ¬ K j) (hne : b ≠ g ∧ b ≠ h ∧ g ≠ h) (L H : List Nat) (p q : Option Addr) (c1 c2 : Nat) (hp : CellsD (fun j => ¬ K j) w p (iv (zs L))) (hq : CellsD (fun j => ¬ K j) w q (iv (zs H))) (hL : okC S L = true) (hH : okC S H = true) (N : Int)
    (HM : Calls Try.prog 38 #[.pointer (some ⟨b, 0, none⟩), .slice p L.length c1, .slice q H.length c2] w fun e V' => e = .returned (.bool true) ∧ ∃ n, V' = w.drewN n) :
    Calls Try.prog 17 #[.pointer (some ⟨b, 0, none⟩), .slice p L.length c1, .slice q H.length c2, .int .i64 N] w fun e V' => e = .returned (.int .i64 0) ∧ RF w K b g h k m S (fillL N (plcs S L H) C) V' := by
  have HMY := hid HM
  have HF := hid F
  have HN := hid hn
  have HNE := hid hne
  have HP := hid hp
  have HQ := hid hq
  have HLL := hid (And.intro (okC_length S L hL) (okC_length S H hH))
  have HALL := hid (fstep_all N F hL hH)
  have HI := hid H0
  have HCL := hid (show C.length ≤ 4096 by rw [F.len]; exact F.most)
  clear HM H0 F hn hp hq hL hH hne
  go_enter Try.func17, Try.ntmps17
  go_wp2_with fail
  refine HMY.out.mono ?_
  rintro e w1 ⟨rfl, n1, rfl⟩
  go_wp2_with fail
  go_loopw [9] (fun i wr => ∃ j : Nat, j ≤ C.length ∧ i = .int .i64 j ∧ RF w K b g h k m S (fstep S L H N C j) wr) (fun i _ => C.length - (intOf i).toNat)
  case atStart => exact ⟨0, by omega, rfl, HI.out.below (below_drewN (Below.refl _ _) n1)⟩
  case round =>
    obtain ⟨j, hj, rfl, hr⟩ := hrel
    have HR := hid hr
    obtain ⟨d0, d1⟩ := hr.cells
    rw [fstep_len] at d1
    clear hr
    by_cases hlt : j < C.length
    · have e1 : decide ((j : Int) < (C.length : Int)) = true := by simpa using hlt
      have e1' : decide (j < C.length) = true := by simpa using hlt
      have HLT := hid hlt
      have HW := hid (show wrap64 ((j : Int) + 1) = ((j + 1 : Nat) : Int) from Go.IntWalk.wrap64_in _ (by have := HCL.out; omega))
      have HCE := hid (rcell_ok S j (some ⟨g, 0, none⟩) k wr HR.out.sz.cells HF.out.pos HF.out.few (by have := HCL.out; omega))
      clear hlt hj
      go_wp2_with fail
      refine HCE.out.mono ?_
      rintro e w2 ⟨rfl, hrow, hb⟩
      have HR2 := hid (HR.out.below hb)
      have HROW := hid hrow
      have hcl : (zs (cellL S j)).length = S.length := by rw [zs_len, cellL_length]
      have HWI := hid (within_ok w2 (zs (cellL S j)) (zs L) (zs H) (some ⟨wr.heap.size, 0, none⟩) p q S.length c1 c2 hrow.cells (HP.out.onl HR2.out.on) (HQ.out.onl HR2.out.on) (by rw [hcl]; have := HF.out.few; omega) (by rw [hcl, zs_len]; exact HLL.out.1) (by rw [hcl, zs_len]; exact HLL.out.2))
      rw [with_nat _ _ _ (by rw [cellL_length]; exact HLL.out.1) (by rw [cellL_length]; exact HLL.out.2), hcl, zs_len, zs_len] at HWI
      clear hrow hb d0 d1 HCE
      cases hw : withinL (cellL S j) L H with
      | true =>
        rw [hw] at HWI
        have HS := hid (fstep_succ S L H N C j)
        rw [if_pos hw] at HS
        clear hw
        go_wp2_with fail
        refine HWI.out.mono ?_
        rintro e w3 ⟨rfl, n3, rfl⟩
        have hb := below_drewN (Below.refl w2.heap.size w2) n3
        have HR3 := hid (HR2.out.below hb)
        obtain ⟨d0, d1⟩ := HR3.out.cells
        rw [fstep_len] at d1
        have hjx : j < (fstep S L H N C j).length := by rw [fstep_len]; exact HLT.out
        have d2 := HR3.out.co.cell j hjx
        have f2 := HR3.out.co.frozen j
        have HSET := hid (HR3.out.co.set j hjx N)
        rw [← HS.out] at HSET
        generalize (fstep S L H N C j)[j] = old at d2
        clear hb hjx HR2 HWI HROW
        generalize w2.drewN n3 = w3 at *
        have z1 : (j : Int) < (C.length : Int) := by have := HLT.out; omega
        go_wp2_with fail
        go_roundw
        case rel =>
          refine ⟨j + 1, HLT.out, by rw [HW.out], ?_, ?_, HSET.out, ?_⟩
          · rw [fstep_len]; rw [heap_setCell_other _ _ _ _ HNE.out.2.1]; have := HR3.out.hd; rw [fstep_len] at this; exact this
          · exact HR3.out.sz.far _ _ HNE.out.2.2
          · refine ⟨HR3.out.on.os, HR3.out.on.tape, HR3.out.on.output, by rw [World.size_setCell]; exact HR3.out.on.size, fun i hi hki => ?_⟩
            rw [heap_setCell_other _ _ _ _ (fun e => HN.out h (.inr (.inr rfl)) (by have := Classical.not_not.1 hki; rw [← show i = h from e]; exact this))]
            exact HR3.out.on.block i hi hki
        case measure => have := HLT.out; rw [HW.out]; simp [intOf]; omega
      | false =>
        rw [hw] at HWI
        have HS := hid (fstep_succ S L H N C j)
        rw [if_neg (by rw [hw]; simp)] at HS
        clear hw
        go_wp2_with fail
        refine HWI.out.mono ?_
        rintro e w3 ⟨rfl, n3, rfl⟩
        have hb := below_drewN (Below.refl w2.heap.size w2) n3
        have HR3 := hid (HR2.out.below hb)
        rw [← HS.out] at HR3
        clear hb HR2 HWI HROW
        generalize w2.drewN n3 = w3 at *
        go_wp2_with fail
        go_roundw
        case rel => exact ⟨j + 1, HLT.out, by rw [HW.out], HR3.out⟩
        case measure => have := HLT.out; rw [HW.out]; simp [intOf]; omega
    · obtain rfl : j = C.length := by omega
      rw [HALL.out] at HR
      go_wp2_with fail
      go_ret
      exact ⟨rfl, HR.out⟩
end Go.Proofs.Ytpbidpgpehicmaa.Sl
