/- An atlas among the calls; the law's own live. -/
import Derived.Test.YtmniaaledplhfaaAtWin
import Derived.Test.YtmniaaledplhfaaKyZip
namespace Go.Proofs.Ytmniaaledplhfaa.At
open Go.RowKit
open Go.Lib (hid)
open Go.Proofs.Ytmniaaledplhfaa.Ky Go.Proofs.Ytmniaaledplhfaa.Bk

/-- an atlas that is new since w, in V; X: blocks that are none of its own -/
structure Aw (w V : World) (X : Nat → Prop) (b : Nat) (v : Value) (d : Int) (L : List Rec) : Prop where
  atl : Atl w.heap.size V X b v d L
  apart : ∀ j, X j → ¬ FT b v j
  xlt : ∀ j, X j → j < V.heap.size
  below : Below w.heap.size w V
def No : Nat → Prop := fun _ => False
section
variable {w V V' : World} {X Y : Nat → Prop} {b : Nat} {v : Value} {d : Int} {L : List Rec}
theorem Aw.next (h : Aw w V X b v d L) (hb : Below V.heap.size V V') : Aw w V' X b v d L := ⟨h.atl.next hb, h.apart, fun j hj => Nat.lt_of_lt_of_le (h.xlt j hj) hb.size, h.below.trans (hb.mono h.below.size)⟩
theorem Aw.alloc (h : Aw w V X b v d L) (o : Obj) : Aw w (V.alloc o) X b v d L := h.next (below_alloc V o)
theorem Aw.drew (h : Aw w V X b v d L) : Aw w V.drew X b v d L := h.next (Below.refl _ _).drew
theorem Aw.drewN (h : Aw w V X b v d L) (n : Nat) : Aw w (V.drewN n) X b v d L := h.next (below_drewN (Below.refl _ _) n)
theorem Aw.coords (h : Aw w V X b v d L) : ∀ w', Below V.heap.size V w' → Calls Try.prog 29 #[.pointer (some ⟨b, 0, none⟩)] w' fun e w2 => e = .returned (.int .i64 d) ∧ w' = w2 := fun w' hb => coords_ok w' (h.next hb).atl.cells.1
theorem aw_new (d : Int) (w V : World) (hb : Below w.heap.size w V) (h : 1 ≤ d ∧ d ≤ 6) (hX : ∀ j, X j → j < V.heap.size) :
    Calls Try.prog 4 #[.int .i64 d] V fun e w' => e = .returned (.tuple #[.pointer (some ⟨V.heap.size, 0, none⟩), .int .i64 0]) ∧ Aw w w' X V.heap.size (.slice none 0 0) d [] ∧ Below V.heap.size V w' :=
  (new_ok d V h).mono fun e w' ⟨h1, h2⟩ => ⟨h1, by rw [h2]; exact ⟨atl_new d V _ hb.size X, (fun j hj hf => by
    rcases hf with hf | hf
    · have := hX j hj; omega
    · cases hf), fun j hj => by have := hX j hj; simp; omega, hb.trans ((below_alloc V _).mono hb.size)⟩, by rw [h2]; exact below_alloc V _⟩
theorem aw_put (h : Aw w V X b v d L) (k : List Nat) (t : ByteArray) (q : Option Addr) (c' : Nat) (hq : Pt V q k) (hr : recB k t d = true) (hl : L.length < 1000) :
    Calls Try.prog 12 #[.pointer (some ⟨b, 0, none⟩), .agg #[.slice q k.length c', .string t]] V fun e w' => e = .returned (.int .i64 0) ∧ ∃ v', Aw w w' X b v' d (putR L (k, t)) ∧ Onl (FT b v) V w' ∧ (∀ j, j < V.heap.size → FT b v' j → FT b v j) ∧ Below w.heap.size w w' :=
  (put_ok k t q c' V h.atl h.xlt h.apart h.below.size hq hr hl).mono fun e w' ⟨h1, v', h2, h3, h4, h5⟩ => by
    have hb : Below w.heap.size w w' := h.below.trans (h3.below h.below.size h.atl.ge)
    exact ⟨h1, v', ⟨h2, h5, fun j hj => Nat.lt_of_lt_of_le (h.xlt j hj) h3.size, hb⟩, h3, h4, hb⟩
theorem aw_put_bad (h : Aw w V X b v d L) (k : List Nat) (t : ByteArray) (q : Option Addr) (c' : Nat) (hr : recB k t d = false) :
    Calls Try.prog 12 #[.pointer (some ⟨b, 0, none⟩), .agg #[.slice q k.length c', .string t]] V fun e w' => e = .returned (.int .i64 1) ∧ Below V.heap.size V w' :=
  put_bad k t q c' d _ V h.coords hr
theorem aw_del (h : Aw w V X b v d L) (k : List Nat) (q : Option Addr) (c' : Nat) (hq : Pt V q k) (hr : checkB k.length d = true) (hn : hasN L k = true) :
    Calls Try.prog 14 #[.pointer (some ⟨b, 0, none⟩), .slice q k.length c'] V fun e w' => e = .returned (.int .i64 0) ∧ ∃ v', Aw w w' X b v' d (cutR L k) ∧ Onl (FT b v) V w' ∧ (∀ j, FT b v' j → FT b v j) ∧ Below w.heap.size w w' :=
  (del_yes k q c' V h.atl h.apart hq hr hn).mono fun e w' ⟨h1, v', h2, h3, h4, h5⟩ => by
    have hb : Below w.heap.size w w' := h.below.trans (h3.below h.below.size h.atl.ge)
    exact ⟨h1, v', ⟨h2, h5, fun j hj => Nat.lt_of_lt_of_le (h.xlt j hj) h3.size, hb⟩, h3, h4, hb⟩
/-- what is kept aside, when the atlas turns -/
theorem Onl.list {F F' : Nat → Prop} {V V' : World} {p : Option Addr} {M : List Rec} (h : Onl F V V') (hr : Rs F V p M) (hf : ∀ j, j < V.heap.size → F' j → F j) : Rs F' V' p M := by
  have h1 : Rs (fun j => F j ∨ F' j) V p M := hr.less fun j hj hD => hD.elim id (hf j hj)
  exact (h1.keep ⟨h.size, fun j hj hD => h.block j hj (fun hF => hD (.inl hF))⟩).less fun j _ hD => .inr hD
end
set_option maxHeartbeats 400000 in
theorem len_rd {b n c : Nat} {p : Option Addr} (w : World) (h : w.cell? ⟨b, 1, none⟩ = some (.slice p n c)) :
    Calls Try.prog 23 #[.pointer (some ⟨b, 0, none⟩)] w fun e w' => e = .returned (.int .i64 (n : Int)) ∧ w = w' := by
  go_enter Try.func23, Try.ntmps23
  go_wp2_with fail
  go_ret
  exact ⟨rfl, rfl⟩
set_option maxHeartbeats 400000 in
theorem all_rd {D : Nat → Prop} {b c : Nat} {p : Option Addr} {L : List Rec} (w : World) (h : w.cell? ⟨b, 1, none⟩ = some (.slice p L.length c)) (hr : Rs D w p L) (hb : bigR L) :
    Calls Try.prog 22 #[.pointer (some ⟨b, 0, none⟩)] w fun e w' => ∃ p', e = .returned (.slice p' L.length L.length) ∧ Rs (Lt w.heap.size) w' p' L ∧ Below w.heap.size w w' := by
  have HR := hid (records_ok L p c w hr hb)
  clear hr hb
  go_enter Try.func22, Try.ntmps22
  go_wp2_with (go_at_call 26; refine HR.out.mono ?_; rintro e w6 ⟨p6, rfl, hr, hb⟩; have H6 := hid (And.intro hr hb); clear hr hb)
  go_ret
  exact ⟨p6, rfl, H6.out.1, H6.out.2⟩
set_option maxRecDepth 100000 in
set_option maxHeartbeats 1000000 in
theorem rec_ok (t : ByteArray) (q : Option Addr) (n c : Nat) (w : World) :
    Calls Try.prog 24 #[.string t, .slice q n c] w fun e w' => e = .returned (.agg #[.slice q n c, .string t]) ∧ Below w.heap.size w w' := by
  go_enter Try.func24, Try.ntmps24
  go_wp2_with fail
  refine bodyPost_ret (v := .agg #[.slice q n c, .string t]) (by simp [results, Try.results24, go_sem]) rfl ?_
  exact ⟨rfl, below_alloc w _⟩
theorem lit_pt (V : World) (l : List Nat) (hf : ∀ x ∈ l, x < 4294967296) {cs : Array Value} (hc : cs = kcs l) : Pt (V.alloc (.cells cs 60)) (some ⟨V.heap.size, 0, none⟩) l := by
  subst hc
  exact (show Own (V.alloc (.cells (kcs l) 60)) V.heap.size l from heap_alloc_new _ _).pt hf
def bx : ByteArray := ⟨#[120]⟩
def byy : ByteArray := ⟨#[121]⟩
def bz : ByteArray := ⟨#[122]⟩
def RX : Rec := ([3, 1], bx)
def RY : Rec := ([1, 5], byy)
def RZ : Rec := ([3, 1], bz)
theorem l1 : putR [] RX = [RX] := by decide
theorem l2 : putR [RX] RY = [RY, RX] := by decide
theorem l3 : putR [RY, RX] RZ = [RY, RZ] := by decide
theorem l4 : hasN [RY, RZ] [3, 1] = true := by decide
theorem l5 : dataAt [RY, RZ] [3, 1] = ⟨#[122]⟩ := by decide
theorem l6 : winR [RY, RZ] [0, 0] [2, 9] = [RY] := by decide
theorem l7 : winR [RY, RZ] [0, 0] [9, 9] = [RY, RZ] := by decide
theorem l8 : hasN [RY, RZ] [1, 5] = true := by decide
theorem l9 : cutR [RY, RZ] [1, 5] = [RZ] := by decide
theorem l10 : hasN [RZ] [1, 5] = false := by decide
theorem big_Y : bigR [RY] := by unfold bigR RY byy; simp; decide
theorem big_YZ : bigR [RY, RZ] := by unfold bigR RY RZ byy bz; simp; decide
theorem v9 {D D' : Nat → Prop} {V : World} {p q : Option Addr} {c c' : Nat} (L : List Rec) (hb : bigR L) {n : Nat} (hn : n = L.length) (h : Rs D V p L) (h' : Rs D' V q L) : Calls Try.prog 21 #[.slice p n c, .slice q n c'] V fun e w' => e = .returned (.bool true) ∧ Below V.heap.size V w' := by
  subst hn
  exact (sameR_ok L L p q c c' V h h' hb).mono fun e w' ⟨h1, n, h2⟩ => ⟨by rw [h1]; simp, by rw [h2]; exact below_drewN (Below.refl _ _) n⟩
theorem rs_one {V : World} {q : Option Addr} {k : List Nat} (c : Nat) (t : ByteArray) (h : Pt V q k) : Rs (fun _ => False) (V.alloc (.cells #[.slice q k.length c, .string t] 33)) (some ⟨V.heap.size, 0, none⟩) [(k, t)] :=
  Rs.mk (RC.one (Pt.ptd (h.alloc _))) (read_new V _ _ _)
theorem read_four (W : World) (a b c d : Value) (T : TypeId) : ReadAt (W.alloc (.cells #[a, b, c, d] T)) (some ⟨W.heap.size, 0, none⟩) [a, b, c, d] := fun j y hj => by
  refine ⟨W.heap.size, 0, rfl, by simp, ?_⟩
  rw [cell_of_row _ _ _ _ _ _ (heap_alloc_new W _), Nat.zero_add]
  match j, hj with
  | 0, hj => simpa using hj
  | 1, hj => simpa using hj
  | 2, hj => simpa using hj
  | 3, hj => simpa using hj
theorem rs_two {V : World} {q q' : Option Addr} {k k' : List Nat} (c c' : Nat) (t t' : ByteArray) (h : Pt V q k) (h' : Pt V q' k') : Rs (fun _ => False) (V.alloc (.cells #[.slice q k.length c, .string t, .slice q' k'.length c', .string t'] 33)) (some ⟨V.heap.size, 0, none⟩) [(k, t), (k', t')] :=
  Rs.mk ((RC.one (Pt.ptd (h.alloc _))).app (RC.one (Pt.ptd (h'.alloc _)))) (read_four V _ _ _ _ _)
set_option maxRecDepth 100000 in
set_option maxHeartbeats 8000000 in
theorem live_any (w : World) : Calls Try.prog 7 #[] w fun e w' => e = .returned (.bool true) ∧ Below w.heap.size w w' := by
  have HW := hid (Below.refl w.heap.size w)
  go_enter Try.func7, Try.ntmps7
  go_wp2_with fail
  refine (aw_new (X := No) 2 w w HW.out (by decide) (fun _ h => h.elim)).mono ?_
  rintro e w1 ⟨rfl, ha, _⟩
  have HA := hid ha; clear ha HW
  generalize w.heap.size = b0 at HA
  go_wp2_with fail
  refine (new_bad 7 w1 (by decide)).mono ?_
  rintro e w' ⟨rfl, rfl⟩
  have HP := hid (lit_pt w1 [3, 1] (by simp) (cs := #[.int .u32 3, .int .u32 1]) rfl)
  go_wp2_with fail
  refine (rec_ok bx _ 2 2 _).mono ?_
  rintro e w2 ⟨rfl, hb⟩
  replace HA := hid (HA.out.next ((below_alloc w1 _).trans (hb.mono (below_alloc w1 _).size)))
  replace HP := hid (HP.out.below hb); clear hb
  go_wp2_with fail
  refine (aw_put HA.out [3, 1] bx _ 2 HP.out (by decide) (by simp)).mono ?_
  rintro e w3 ⟨rfl, v1, ha, _, _, _⟩
  rw [show putR [] ([3, 1], bx) = _ from l1] at ha
  replace HA := hid ha; clear ha HP
  have HP := hid (lit_pt w3 [1, 5] (by simp) (cs := #[.int .u32 1, .int .u32 5]) rfl)
  go_wp2_with fail
  refine (rec_ok byy _ 2 2 _).mono ?_
  rintro e w4 ⟨rfl, hb⟩
  replace HA := hid (HA.out.next ((below_alloc w3 _).trans (hb.mono (below_alloc w3 _).size)))
  replace HP := hid (HP.out.below hb); clear hb
  go_wp2_with fail
  refine (aw_put HA.out [1, 5] byy _ 2 HP.out (by decide) (by simp)).mono ?_
  rintro e w5 ⟨rfl, v3, ha, _, _, _⟩
  rw [show putR [RX] ([1, 5], byy) = _ from l2] at ha
  replace HA := hid ha; clear ha HP
  have HP := hid (lit_pt w5 [3, 1] (by simp) (cs := #[.int .u32 3, .int .u32 1]) rfl)
  go_wp2_with fail
  refine (rec_ok bz _ 2 2 _).mono ?_
  rintro e w6 ⟨rfl, hb⟩
  replace HA := hid (HA.out.next ((below_alloc w5 _).trans (hb.mono (below_alloc w5 _).size)))
  replace HP := hid (HP.out.below hb); clear hb
  go_wp2_with fail
  refine (aw_put HA.out [3, 1] bz _ 2 HP.out (by decide) (by simp)).mono ?_
  rintro e w7 ⟨rfl, v5, ha, _, _, _⟩
  rw [show putR [RY, RX] ([3, 1], bz) = _ from l3] at ha
  replace HA := hid ha; clear ha HP
  have HP := hid (lit_pt w7 [3] (by simp) (cs := #[.int .u32 3]) rfl)
  go_wp2_with fail
  refine (rec_ok bz _ 1 1 _).mono ?_
  rintro e w8 ⟨rfl, hb⟩
  replace HA := hid (HA.out.next ((below_alloc w7 _).trans (hb.mono (below_alloc w7 _).size)))
  replace HP := hid (HP.out.below hb); clear hb
  go_wp2_with fail
  refine (aw_put_bad HA.out [3] bz _ 1 (by decide)).mono ?_
  rintro e w9 ⟨rfl, hb⟩
  replace HA := hid (HA.out.next hb); clear hb HP
  have HP := hid (lit_pt w9 [3, 1] (by simp) (cs := #[.int .u32 3, .int .u32 1]) rfl)
  have hg := get_ok [3, 1] (some ⟨w9.heap.size, 0, none⟩) 2 _ (HA.out.alloc (.cells #[.int .u32 3, .int .u32 1] 60)).atl HP.out (by decide) l4
  rw [l5] at hg
  have HG := hid hg; clear hg HP
  go_wp2_with fail
  refine HG.out.mono ?_
  rintro e w10 ⟨rfl, hb⟩
  replace HA := hid (HA.out.next ((below_alloc w9 _).trans (hb.mono (below_alloc w9 _).size))); clear hb HG
  have HAX := hid HA.out.atl.lt
  have HP := hid ((lit_pt w10 [0, 0] (by simp) (cs := #[.int .u32 0, .int .u32 0]) rfl).alloc (.cells #[.int .u32 2, .int .u32 9] 60))
  have HQ := hid (lit_pt (w10.alloc (.cells #[.int .u32 0, .int .u32 0] 60)) [2, 9] (by simp) (cs := #[.int .u32 2, .int .u32 9]) rfl)
  have hg := window_ok [0, 0] [2, 9] _ _ 2 2 _ ((HA.out.alloc (.cells #[.int .u32 0, .int .u32 0] 60)).alloc (.cells #[.int .u32 2, .int .u32 9] 60)).atl HP.out HQ.out (by decide)
  rw [l6] at hg
  have HG := hid hg; clear hg HP HQ
  have HBA := hid ((below_alloc w10 (.cells #[.int .u32 0, .int .u32 0] 60)).alloc (below_alloc w10 _).size (.cells #[.int .u32 2, .int .u32 9] 60))
  simp only [World.size_alloc] at HG
  go_wp2_with fail
  refine HG.out.mono ?_
  rintro e w11 ⟨pl, rfl, hr, hb⟩
  replace HA := hid (HA.out.next (HBA.out.trans (hb.mono (by omega))))
  have HL := hid (hr.less (D' := FT b0 v5) (fun j _ hj => by have := HAX.out j hj; show j < _; omega)); clear hb hr HG HBA HAX
  have HP := hid ((lit_pt w11 [0, 0] (by simp) (cs := #[.int .u32 0, .int .u32 0]) rfl).alloc (.cells #[.int .u32 9, .int .u32 9] 60))
  have HQ := hid (lit_pt (w11.alloc (.cells #[.int .u32 0, .int .u32 0] 60)) [9, 9] (by simp) (cs := #[.int .u32 9, .int .u32 9]) rfl)
  have hg := count_ok [0, 0] [9, 9] _ _ 2 2 _ ((HA.out.alloc (.cells #[.int .u32 0, .int .u32 0] 60)).alloc (.cells #[.int .u32 9, .int .u32 9] 60)).atl HP.out HQ.out (by decide)
  rw [l7] at hg
  have HG := hid hg; clear hg HP HQ
  have HBA := hid ((below_alloc w11 (.cells #[.int .u32 0, .int .u32 0] 60)).alloc (below_alloc w11 _).size (.cells #[.int .u32 9, .int .u32 9] 60))
  simp only [World.size_alloc] at HG
  go_wp2_with fail
  refine HG.out.mono ?_
  rintro e w12 ⟨rfl, hb⟩
  replace HL := hid (HL.out.below (HBA.out.trans (hb.mono (by omega))))
  replace HA := hid (HA.out.next (HBA.out.trans (hb.mono (by omega)))); clear hb HG HBA
  go_wp2_with fail
  refine (copy_ok w12 HA.out.atl).mono ?_
  rintro e w13 ⟨b2, p2, rfl, hb2, hh, hr, hb⟩
  have HC := hid (And.intro hh (And.intro (hr.less (D' := FT b0 v5) (fun j _ hj => .inl (HA.out.atl.lt j hj))) (fun j (hj : FT b0 v5 j) => (show j ≠ b2 from fun e => by have := HA.out.atl.lt j hj; omega))))
  replace HL := hid (HL.out.below hb)
  replace HA := hid (HA.out.next hb); clear hh hr hb hb2
  have HP := hid (lit_pt w13 [1, 5] (by simp) (cs := #[.int .u32 1, .int .u32 5]) rfl)
  replace HA := hid (HA.out.alloc (.cells #[.int .u32 1, .int .u32 5] 60))
  replace HL := hid (HL.out.alloc (.cells #[.int .u32 1, .int .u32 5] 60))
  have HC2 := hid (And.intro ((Below.heap_alloc w13 (.cells #[.int .u32 1, .int .u32 5] 60) _ (Array.getElem?_eq_some_iff.1 HC.out.1).1).trans HC.out.1) (And.intro (HC.out.2.1.alloc (.cells #[.int .u32 1, .int .u32 5] 60)) HC.out.2.2)); clear HC
  have HD := hid (aw_del HA.out [1, 5] (some ⟨w13.heap.size, 0, none⟩) 2 HP.out (by decide) l8)
  rw [l9] at HD
  go_wp2_with fail
  refine HD.out.mono ?_
  rintro e w14 ⟨rfl, vd, ha, hon, hfr, _⟩
  replace HL := hid (hon.list HL.out (fun j _ hj => hfr j hj))
  have HC := hid (And.intro ((hon.block b2 (Array.getElem?_eq_some_iff.1 HC2.out.1).1 (fun hj => HC2.out.2.2 b2 hj rfl)).trans HC2.out.1) (hon.list HC2.out.2.1 (fun j _ hj => hfr j hj)))
  replace HA := hid ha; clear ha hon hfr HD HP HC2
  have HP := hid (lit_pt w14 [1, 5] (by simp) (cs := #[.int .u32 1, .int .u32 5]) rfl)
  have HD := hid (del_none [1, 5] (some ⟨w14.heap.size, 0, none⟩) 2 _ (HA.out.alloc (.cells #[.int .u32 1, .int .u32 5] 60)).atl HP.out (by decide) l10)
  go_wp2_with fail
  refine HD.out.mono ?_
  rintro e w15 ⟨rfl, hb⟩
  have HB := hid ((below_alloc w14 _).trans (hb.mono (below_alloc w14 _).size)); clear hb HD HP
  replace HL := hid (HL.out.below HB.out)
  replace HC := hid (And.intro ((HB.out.block b2 (Array.getElem?_eq_some_iff.1 HC.out.1).1).trans HC.out.1) (HC.out.2.below HB.out))
  replace HA := hid (HA.out.next HB.out); clear HB
  have HP := hid (lit_pt w15 [1, 5] (by simp) (cs := #[.int .u32 1, .int .u32 5]) rfl)
  go_wp2_with fail
  refine (rec_ok byy _ 2 2 _).mono ?_
  rintro e w16 ⟨rfl, hb⟩
  have HB := hid ((below_alloc w15 (.cells #[.int .u32 1, .int .u32 5] 60)).trans (hb.mono (below_alloc w15 _).size))
  replace HP := hid (HP.out.below hb); clear hb
  replace HL := hid (HL.out.below HB.out)
  replace HC := hid (And.intro ((HB.out.block b2 (Array.getElem?_eq_some_iff.1 HC.out.1).1).trans HC.out.1) (HC.out.2.below HB.out))
  replace HA := hid (HA.out.next HB.out); clear HB
  have HR := hid (rs_one 2 byy HP.out)
  go_wp2_with fail
  refine (v9 [RY] big_Y rfl (HL.out.alloc _) HR.out).mono ?_
  rintro e w17 ⟨rfl, hb⟩
  have HB := hid ((below_alloc w16 _).trans (hb.mono (below_alloc w16 _).size)); clear hb HR HP
  replace HL := hid (HL.out.below HB.out)
  replace HC := hid (And.intro ((HB.out.block b2 (Array.getElem?_eq_some_iff.1 HC.out.1).1).trans HC.out.1) (HC.out.2.below HB.out))
  replace HA := hid (HA.out.next HB.out); clear HB
  go_wp2_with fail
  refine (len_ok w17 HA.out.atl).mono ?_
  rintro e w' ⟨rfl, rfl⟩
  have c1 : w17.cell? ⟨b2, 1, none⟩ = some (.slice p2 2 2) := by rw [cell_of_row _ _ _ _ _ _ HC.out.1]; rfl
  go_wp2_with fail
  refine (len_rd w17 c1).mono ?_
  rintro e w' ⟨rfl, rfl⟩
  have HAL := hid (all_rd (L := [RY, RZ]) w17 c1 HC.out.2 big_YZ)
  go_wp2_with fail
  refine HAL.out.mono ?_
  rintro e w18 ⟨pa, rfl, hr, hb⟩
  have HS := hid hr
  replace HA := hid (HA.out.next hb); clear hb hr HAL c1 HL HC
  have HP := hid (lit_pt w18 [1, 5] (by simp) (cs := #[.int .u32 1, .int .u32 5]) rfl)
  go_wp2_with fail
  refine (rec_ok byy _ 2 2 _).mono ?_
  rintro e w19 ⟨rfl, hb⟩
  have HB := hid ((below_alloc w18 (.cells #[.int .u32 1, .int .u32 5] 60)).trans (hb.mono (below_alloc w18 _).size))
  replace HP := hid (HP.out.below hb); clear hb
  replace HS := hid (HS.out.below HB.out)
  replace HA := hid (HA.out.next HB.out); clear HB
  have HQ := hid (lit_pt w19 [3, 1] (by simp) (cs := #[.int .u32 3, .int .u32 1]) rfl)
  go_wp2_with fail
  refine (rec_ok bz _ 2 2 _).mono ?_
  rintro e w20 ⟨rfl, hb⟩
  have HB := hid ((below_alloc w19 (.cells #[.int .u32 3, .int .u32 1] 60)).trans (hb.mono (below_alloc w19 _).size))
  replace HQ := hid (HQ.out.below hb); clear hb
  replace HP := hid (HP.out.below HB.out)
  replace HS := hid (HS.out.below HB.out)
  replace HA := hid (HA.out.next HB.out); clear HB
  have HR := hid (rs_two 2 2 byy bz HP.out HQ.out)
  go_wp2_with fail
  refine (v9 [RY, RZ] big_YZ rfl (HS.out.alloc _) HR.out).mono ?_
  rintro e w21 ⟨rfl, hb⟩
  have HB := hid ((below_alloc w20 _).trans (hb.mono (below_alloc w20 _).size)); clear hb HR HP HQ HS
  replace HA := hid (HA.out.next HB.out); clear HB
  go_wp2_with fail
  refine (rec_ok ⟨#[]⟩ _ 1 1 _).mono ?_
  rintro e w22 ⟨rfl, hb⟩
  replace HA := hid (HA.out.next ((below_alloc w21 _).trans (hb.mono (below_alloc w21 _).size))); clear hb
  have HK := hid (atlasCheck_ok (some ⟨w21.heap.size, 0, none⟩) 1 1 ⟨#[]⟩ 1 w22)
  rw [show (err (checkB 1 1 && decide ((⟨#[]⟩ : ByteArray).size ≤ 40))) = 0 by decide] at HK
  go_wp2_with fail
  refine HK.out.mono ?_
  rintro e w23 ⟨rfl, hb⟩
  replace HA := hid (HA.out.next hb); clear hb HK
  go_wp2_with fail
  go_ret
  exact ⟨rfl, HA.out.below⟩
end Go.Proofs.Ytmniaaledplhfaa.At
