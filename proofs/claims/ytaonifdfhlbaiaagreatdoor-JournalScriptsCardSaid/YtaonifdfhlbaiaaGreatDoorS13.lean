/- Merged out of PgOpen, JnBase, PgEq, EnDcB. -/
import Derived.Test.YtaonifdfhlbaiaaGreatDoorS12
import Derived.Lib.Hide
import Derived.Deep.QuietTactic
import Derived.BigQuiet
import Derived.Test.YtaonifdfhlbaiaaGreatDoorS07
import Derived.Test.YtaonifdfhlbaiaaGreatDoorS03
/- Open of page: what it returns, whatever it is called with. -/
namespace Go.Proofs.YtaonifdfhlbaiaaGreatDoor.Pg
open Go.RowKit
open Go.Lib (hid)
open Go.Proofs.YtaonifdfhlbaiaaGreatDoor.Fd (Area Row Upd rowOf be be_length be_at beB num getAt putAt on_below on_upd)
open Go.Proofs.YtaonifdfhlbaiaaGreatDoor.Sm (U B32 sumB U_lo U_hi)

theorem bcell {W w1 : World} (hb : Below W.heap.size W w1) : (∀ b o, b < W.heap.size → w1.cell? ⟨b, o, none⟩ = W.cell? ⟨b, o, none⟩) ∧ (∀ b o, b < W.heap.size → w1.frozen? ⟨b, o, none⟩ = W.frozen? ⟨b, o, none⟩) :=
  ⟨fun b o h => hb.cell (p := ⟨b, o, none⟩) h, fun b o h => hb.frozen (p := ⟨b, o, none⟩) h⟩
theorem quiet_eq {f : FuncId} {args : Array Value} {w : World} {n : Nat} {v : Value} (h : Calls Tryz.prog f args (w.drewN n) fun e w' => e = .returned v ∧ w.drewN n = w') :
    Calls Tryz.prog f args (w.drewN n) fun e w'' => e = .returned v ∧ ∃ m, w'' = w.drewN m := h.mono fun _ _ ⟨he, hm⟩ => ⟨he, n, hm.symm⟩

/-- a page as a value, and an error -/
def pageV (k n : Nat) (b : List UInt8) (e : Nat) : Value := .tuple #[.agg #[.int .i64 k, .int .i64 n, .string ⟨b.toArray⟩], .int .i64 e]

set_option maxHeartbeats 400000 in
theorem open_cut (s : ByteArray) (w : World) (h : s.size ≠ 256) :
    Calls Tryz.prog 66 #[.string s] w fun e w' => e = .returned (.tuple #[.agg #[.int .i64 0, .int .i64 0, .string ⟨#[]⟩], .int .i64 9]) ∧ Below w.heap.size w w' := by
  have e1 : ((s.size : Int) != 256) = true := by simp; omega
  have H := hid h; clear h
  go_enter Tryz.func66, Tryz.ntmps66
  go_wp2_with fail
  refine bodyPost_ret (v := .tuple #[.agg #[.int .i64 0, .int .i64 0, .string ⟨#[]⟩], .int .i64 9]) (by simp [results, Tryz.results66, go_sem]) rfl ⟨rfl, ?_⟩
  exact (Below.refl _ _).alloc (Nat.le_refl _) _

theorem str_yes (a : ByteArray) (l : List UInt8) (h : a.data.toList = l) : (a.toList == l) = true := by
  rw [ByteArray.toList_eq]; simpa using h
theorem str_not (a : ByteArray) (l : List UInt8) (h : a.data.toList ≠ l) : (a.toList == l) = false := by
  rw [ByteArray.toList_eq]; simpa using h

/-- where the result's block stands, and what it holds -/
theorem res_made (w : World) (x : Array Value) : (w.alloc (.cells x 62)).heap[w.heap.size]? = some (.cells x 62 (0, 0)) := heap_alloc_new _ _

set_option maxHeartbeats 400000 in
theorem open_blank (s : ByteArray) (w : World) (h : s.size = 256) (hb : s.data.toList = blankL) :
    Calls Tryz.prog 66 #[.string s] w fun e w' => e = .returned (.tuple #[.agg #[.int .i64 0, .int .i64 0, .string ⟨#[]⟩], .int .i64 0]) ∧ Below w.heap.size w w' := by
  have e1 : ((s.size : Int) != 256) = false := by simp; omega
  have e2 := str_yes s blankL hb
  have H := hid (And.intro h hb); clear h hb
  go_enter Tryz.func66, Tryz.ntmps66
  go_wp2_with (go_at_call 29; refine (blank_any _).mono ?_; rintro e w1 ⟨rfl, hb⟩; obtain ⟨hc, hf⟩ := bcell hb; have hz := hb.size; simp at hz; have HB := hid hb; clear hb)
  refine bodyPost_ret (v := .tuple #[.agg #[.int .i64 0, .int .i64 0, .string ⟨#[]⟩], .int .i64 0]) (by simp [results, Tryz.results66, go_sem, hc]) rfl ⟨rfl, ?_⟩
  exact (((((Below.refl w.heap.size w).alloc (Nat.le_refl _) _).trans (HB.out.mono (by simp))).setCell (Nat.le_refl _) _).setCell (Nat.le_refl _) _).setCell (Nat.le_refl _) _

theorem below_drewN {w wr : World} {N : Nat} (h : Below N w wr) (n : Nat) : Below N w (wr.drewN n) := ⟨h.os, h.tape, h.output, h.size, h.block⟩
/-- what Open has laid: its result's block, its area, the variable that leads to that -/
structure Got (w : World) (C A B : Nat) (l : List UInt8) (wr : World) : Prop where
  below : Below w.heap.size w wr
  area : Area 153 wr A B l
  var : wr.cell? ⟨C, 0, none⟩ = some (.pointer (some ⟨A, 0, none⟩))
  ltc : C < wr.heap.size
  row : wr.heap[w.heap.size]? = some (.cells #[.int .i64 0, .int .i64 0, .string ⟨#[]⟩] 62 (0, 0))
theorem Got.lt {w wr : World} {C A B : Nat} {l : List UInt8} (h : Got w C A B l wr) : w.heap.size < wr.heap.size := (Array.getElem?_eq_some_iff.1 h.row).1
theorem Got.on {w wr w' : World} {C A B : Nat} {l : List UInt8} (h : Got w C A B l wr) (hb : Below wr.heap.size wr w') : Got w C A B l w' :=
  ⟨(on_below (hid h.below) hb).out, h.area.below hb, by rw [hb.cell (p := ⟨C, 0, none⟩) h.ltc]; exact h.var, Nat.lt_of_lt_of_le h.ltc hb.size, by rw [hb.block _ h.lt]; exact h.row⟩
theorem Got.drewN {w wr : World} {C A B : Nat} {l : List UInt8} (h : Got w C A B l wr) (n : Nat) : Got w C A B l (wr.drewN n) :=
  ⟨below_drewN h.below n, ⟨h.area.ptr, h.area.row, h.area.ne, h.area.len⟩, h.var, h.ltc, h.row⟩
theorem Got.cells {w wr : World} {C A B : Nat} {l : List UInt8} (h : Got w C A B l wr) :
    wr.cell? ⟨w.heap.size, 0, none⟩ = some (.int .i64 0) ∧ wr.cell? ⟨w.heap.size, 1, none⟩ = some (.int .i64 0) ∧ wr.cell? ⟨w.heap.size, 2, none⟩ = some (.string ⟨#[]⟩) := by
  refine ⟨?_, ?_, ?_⟩ <;> rw [cell_of_row _ _ _ _ _ _ h.row] <;> rfl
theorem Got.free {w wr : World} {C A B : Nat} {l : List UInt8} (h : Got w C A B l wr) (i : Nat) : wr.frozen? ⟨w.heap.size, i, none⟩ = false := frozen_of_row _ _ _ _ _ h.row
theorem Got.made {w w1 w2 : World} {l : List UInt8} (h1 : Below (w.alloc (.cells #[.int .i64 0, .int .i64 0, .string ⟨#[]⟩] 62)).heap.size (w.alloc (.cells #[.int .i64 0, .int .i64 0, .string ⟨#[]⟩] 62)) w1)
    (h2 : Below w1.heap.size w1 w2) (ha : Area 153 w2 (w1.heap.size + 1) w1.heap.size l) :
    Got w w2.heap.size (w1.heap.size + 1) w1.heap.size l (w2.alloc (.cells #[.pointer (some ⟨w1.heap.size + 1, 0, none⟩)] 130)) := by
  have hb0 : Below w.heap.size w (w.alloc (.cells #[.int .i64 0, .int .i64 0, .string ⟨#[]⟩] 62)) := (Below.refl _ _).alloc (Nat.le_refl _) _
  have hb1 := (on_below (on_below (hid hb0) h1) h2).out
  have h3 : Below w2.heap.size w2 (w2.alloc (.cells #[.pointer (some ⟨w1.heap.size + 1, 0, none⟩)] 130)) := (Below.refl _ _).alloc (Nat.le_refl _) _
  have s1 := h1.size
  simp at s1
  have s2 := h2.size
  refine ⟨(on_below (hid hb1) h3).out, ha.below h3, by rw [cell_of_row _ _ _ _ _ _ (heap_alloc_new _ _)]; rfl, by simp, ?_⟩
  rw [h3.block _ (by omega), h2.block _ (by omega), h1.block _ (by simp)]
  exact heap_alloc_new _ _

set_option maxHeartbeats 400000 in
theorem got_any (C A B : Nat) (l : List UInt8) (o wd : Nat) (w : World) (hc : w.cell? ⟨C, 0, none⟩ = some (.pointer (some ⟨A, 0, none⟩))) (ha : Area 153 w A B l) (hw : wd = 1 ∨ wd = 2 ∨ wd = 4) (h : o + wd ≤ l.length) :
    Calls Tryz.prog 93 #[.int .i64 (o : Int), .int .i64 (wd : Int), .pointer (some ⟨C, 0, none⟩)] w fun e w' => e = .returned (.int .u32 (num (getAt l o wd) : Int)) ∧ w = w' := by
  have HW := hid hw; clear hw
  go_enter Tryz.func93, Tryz.ntmps93
  go_wp2_with (go_at_call 94; refine (Fd.get_ok A B l o wd _ ha HW.out h).mono ?_; rintro e w' ⟨rfl, rfl⟩)
  go_ret
  exact ⟨rfl, rfl⟩

/-- a number that stands at a place, by a name -/
theorem got_252 {w wr : World} {C A B : Nat} {l : List UInt8} {x : Nat} (h : Got w C A B l wr) (hl : l.length = 256) (hx : num (getAt l 252 4) = x) :
    Calls Tryz.prog 93 #[.int .i64 252, .int .i64 4, .pointer (some ⟨C, 0, none⟩)] wr fun e w' => e = .returned (.int .u32 (x : Int)) ∧ wr = w' := by
  subst hx; exact got_any C A B l 252 4 wr h.var h.area (by omega) (by omega)
theorem got_2 {w wr : World} {C A B : Nat} {l : List UInt8} {x : Nat} (h : Got w C A B l wr) (hl : l.length = 256) (hx : num (getAt l 2 2) = x) :
    Calls Tryz.prog 93 #[.int .i64 2, .int .i64 2, .pointer (some ⟨C, 0, none⟩)] wr fun e w' => e = .returned (.int .u32 (x : Int)) ∧ wr = w' := by
  subst hx; exact got_any C A B l 2 2 wr h.var h.area (by omega) (by omega)
theorem got_0 {w wr : World} {C A B : Nat} {l : List UInt8} {x : Nat} (h : Got w C A B l wr) (hl : l.length = 256) (hx : num (getAt l 0 1) = x) :
    Calls Tryz.prog 93 #[.int .i64 0, .int .i64 1, .pointer (some ⟨C, 0, none⟩)] wr fun e w' => e = .returned (.int .u32 (x : Int)) ∧ wr = w' := by
  subst hx; exact got_any C A B l 0 1 wr h.var h.area (by omega) (by omega)
theorem got_4 {w wr : World} {C A B : Nat} {l : List UInt8} {x : Nat} (h : Got w C A B l wr) (hl : l.length = 256) (hx : num (getAt l 4 4) = x) :
    Calls Tryz.prog 93 #[.int .i64 4, .int .i64 4, .pointer (some ⟨C, 0, none⟩)] wr fun e w' => e = .returned (.int .u32 (x : Int)) ∧ wr = w' := by
  subst hx; exact got_any C A B l 4 4 wr h.var h.area (by omega) (by omega)
theorem lowest_nat {x y : Nat} (w : World) (hx : x < 4294967296) (hy : rev32 x = y) :
    Calls Tryz.prog 84 #[.int .u32 (x : Int)] w fun e w' => e = .returned (.int .u32 (y : Int)) ∧ w = w' := by
  have h1 := lowest_any (BitVec.ofNat 32 x) w
  have h2 : (BitVec.ofNat 32 x).toNat = x := by rw [BitVec.toNat_ofNat]; omega
  have h3 : U (BitVec.ofNat 32 x) = (x : Int) := by unfold U; rw [h2]
  rw [h3, h2, hy] at h1
  exact h1
theorem sum_nat {s : ByteArray} {z : Nat} (w : World) (hz : sumN (s.data.toList.take 252) = z) :
    Calls Tryz.prog 85 #[.string (s.extract 0 252)] w fun e w' => e = .returned (.int .u32 (z : Int)) ∧ w = w' := by
  subst hz
  have := sum_of (s.extract 0 252) (s.data.toList.take 252) w (by rw [ByteArray.data_extract]; simp) (by rw [List.length_take]; omega)
  exact this
theorem get_drop (l : List UInt8) (h : l.length = 256) : getAt l 252 4 = l.drop 252 := by
  unfold Fd.getAt; rw [List.take_of_length_le (by rw [List.length_drop]; omega)]

set_option maxHeartbeats 400000 in
theorem open_sum (s : ByteArray) (w : World) (h : s.size = 256) (hb : s.data.toList ≠ blankL) (hs : lowL (sumN (s.data.toList.take 252)) ≠ s.data.toList.drop 252) :
    Calls Tryz.prog 66 #[.string s] w fun e w' => e = .returned (.tuple #[.agg #[.int .i64 0, .int .i64 0, .string ⟨#[]⟩], .int .i64 7]) ∧ Below w.heap.size w w' := by
  have e1 : ((s.size : Int) != 256) = false := by simp; omega
  have e2 := str_not s blankL hb
  have h252 : (252 : Int) ≤ (s.size : Int) := by omega
  have hl : s.data.toList.length = 256 := by simp [h]
  obtain ⟨x, hx⟩ : ∃ x, num (getAt s.data.toList 252 4) = x := ⟨_, rfl⟩
  obtain ⟨y, hy⟩ : ∃ y, rev32 x = y := ⟨_, rfl⟩
  obtain ⟨z, hz⟩ : ∃ z, sumN (s.data.toList.take 252) = z := ⟨_, rfl⟩
  have hxl : x < 4294967296 := by
    rw [← hx]; have := Fd.num_lt (getAt s.data.toList 252 4); rwa [Fd.getAt_length _ _ _ (by omega)] at this
  have hne : y ≠ z := by
    intro e
    apply hs
    rw [← get_drop _ hl, hz]
    refine (rev32_back _ (Fd.getAt_length _ _ _ (by omega)) z (by rw [← hz]; exact sumN_lt _)).1 ?_
    rw [hx, hy, e]
  have e3 : ((y : Int) != (z : Int)) = true := by simp; omega
  have e4 : (y != z) = true := by simp; omega
  have HX := hid hx; have HY := hid hy; have HZ := hid hz; have HL := hid hl; have HXL := hid hxl
  have H := hid (And.intro h (And.intro hb hs)); clear h hb hs hx hy hz hl hxl hne
  go_enter Tryz.func66, Tryz.ntmps66
  go_wp2_with (first
    | (go_at_call 29; refine (blank_any _).mono ?_; rintro e w1 ⟨rfl, hb⟩; have HB := hid hb; clear hb)
    | (go_at_call 91; refine (Fd.of_ok s _ (by have := H.out.1; omega)).mono ?_; rintro e w2 ⟨rfl, ha, hb⟩; have HG := hid (Got.made HB.out hb ha); clear ha hb))
  generalize (w2.alloc (.cells #[.pointer (some ⟨w1.heap.size + 1, 0, none⟩)] 130)) = w3 at HG ⊢
  generalize w2.heap.size = C at HG ⊢
  generalize w1.heap.size = B at HG ⊢
  go_quiet ((first
    | (go_at_call 93; exact quiet_eq (got_252 (HG.out.drewN _) HL.out HX.out))
    | (go_at_call 84; exact quiet_eq (lowest_nat _ HXL.out HY.out))
    | (go_at_call 85; exact quiet_eq (sum_nat _ HZ.out))))
  have HG2 := hid (HG.out.drewN nq)
  have c := HG2.out.cells
  have f := HG2.out.free
  go_wp2_with fail
  refine bodyPost_ret (v := .tuple #[.agg #[.int .i64 0, .int .i64 0, .string ⟨#[]⟩], .int .i64 7]) (by simp [results, Tryz.results66, go_sem, c]) rfl ⟨rfl, ?_⟩
  exact ((HG2.out.below.setCell (Nat.le_refl _) _).setCell (Nat.le_refl _) _).setCell (Nat.le_refl _) _

/-- the body that is read: none, if it would end behind the page -/
def bodyL (l : List UInt8) (m : Nat) : List UInt8 := if 8 + m ≤ 256 then getAt l 8 m else []
def bodyE (m : Nat) : Int := if 8 + m ≤ 256 then 0 else 1
theorem body_len (l : List UInt8) (m : Nat) (hl : l.length = 256) : (bodyL l m).length ≤ 256 := by
  unfold bodyL; split
  · rw [Fd.getAt_length _ _ _ (by omega)]; omega
  · simp
/-- what Seal makes, or nothing -/
def sealX (k n : Nat) (b : List UInt8) : List UInt8 := if mayP k n b.length then sealL k n b else []
def sealE (k n : Nat) (b : List UInt8) : Int := if mayP k n b.length then 0 else 1
theorem seal_any (k n : Nat) (b : List UInt8) (w : World) :
    Calls Tryz.prog 57 #[.agg #[.int .i64 k, .int .i64 n, .string ⟨b.toArray⟩]] w fun e w' => e = .returned (.tuple #[.string ⟨(sealX k n b).toArray⟩, .int .i64 (sealE k n b)]) ∧ Below w.heap.size w w' := by
  have hsz : (⟨b.toArray⟩ : ByteArray).size = b.length := by show b.toArray.size = _; simp
  by_cases h : mayP k n b.length
  · have := seal_yes k n ⟨b.toArray⟩ w (by rw [hsz]; exact h)
    unfold sealX sealE; rw [if_pos h, if_pos h]; exact this
  · have := seal_no k n ⟨b.toArray⟩ w (by rw [hsz]; exact h)
    unfold sealX sealE; rw [if_neg h, if_neg h]; exact this
theorem seal_at {k n : Nat} {b r : List UInt8} {F : Int} (w : World) (hr : sealX k n b = r) (hF : sealE k n b = F) :
    Calls Tryz.prog 57 #[.agg #[.int .i64 k, .int .i64 n, .string ⟨b.toArray⟩]] w fun e w' => e = .returned (.tuple #[.string ⟨r.toArray⟩, .int .i64 F]) ∧ Below w.heap.size w w' := by
  subst hr hF; exact seal_any k n b w
/-- what Open has laid ahead of its last test -/
structure Last (w : World) (C A B D : Nat) (l : List UInt8) (k n : Nat) (b : List UInt8) (wr : World) : Prop where
  got : Got w C A B l wr
  box : Box wr D k n ⟨b.toArray⟩
theorem Last.made {w w4 w6 : World} {C A B : Nat} {l : List UInt8} {k n : Nat} {b : List UInt8} (h : Got w C A B l w4)
    (hb : Below (w4.alloc (.cells #[.int .i64 k, .int .i64 n, .string ⟨b.toArray⟩] 62)).heap.size (w4.alloc (.cells #[.int .i64 k, .int .i64 n, .string ⟨b.toArray⟩] 62)) w6) : Last w C A B w4.heap.size l k n b w6 :=
  ⟨(h.on ((Below.refl _ _).alloc (Nat.le_refl _) _)).on hb, (Box.made w4 k n _).below hb⟩
theorem text_any {w wr : World} {C A B : Nat} {l : List UInt8} {b : List UInt8} {m : Nat} {E : Int} (h : Got w C A B l wr) (hl : l.length = 256) (hm : m < 65536) (hb : bodyL l m = b) (hE : bodyE m = E) :
    Calls Tryz.prog 95 #[.pointer (some ⟨A, 0, none⟩), .int .i64 8, .int .i64 (m : Int)] wr fun e w' => e = .returned (.tuple #[.string ⟨b.toArray⟩, .int .i64 E]) ∧ wr = w' := by
  subst hb hE
  unfold bodyL bodyE
  by_cases h8 : 8 + m ≤ 256
  · rw [if_pos h8, if_pos h8]
    exact Fd.getText_ok A B l 8 m wr h.area (by omega)
  · rw [if_neg h8, if_neg h8]
    refine Fd.getText_bad _ 8 m wr (Fd.cut_no A B l 8 m wr h.area (by unfold Fd.isRange; omega) (by omega) (by omega))

theorem openL_form (l : List UInt8) (hl : l.length = 256) (hb : l ≠ blankL) (hs : lowL (sumN (l.take 252)) = l.drop 252) :
    openL l = if sealX (num (getAt l 0 1)) (num (getAt l 4 4)) (bodyL l (num (getAt l 2 2))) = l then (num (getAt l 0 1), num (getAt l 4 4), bodyL l (num (getAt l 2 2)), 0) else (0, 0, [], 6) := by
  unfold openL
  rw [if_neg (by omega), if_neg hb, if_neg (by simpa using hs)]
  have hm : num (getAt l 2 2) = num (getAt l 2 2) := rfl
  generalize num (getAt l 0 1) = k
  generalize num (getAt l 4 4) = n
  by_cases h8 : 8 + num (getAt l 2 2) ≤ 256
  · have e : bodyL l (num (getAt l 2 2)) = getAt l 8 (num (getAt l 2 2)) := by unfold bodyL; rw [if_pos h8]
    have el : (getAt l 8 (num (getAt l 2 2))).length = num (getAt l 2 2) := Fd.getAt_length _ _ _ (by omega)
    rw [e]
    unfold sealX
    rw [el]
    by_cases hp : mayP k n (num (getAt l 2 2))
    · rw [if_pos hp]; simp only [hp, true_and]
    · rw [if_neg hp, if_neg (fun h => hp h.1), if_neg (fun h => by rw [← h] at hl; cases hl)]
  · rw [if_neg (fun h => by have := h.1.2.2.2.2; omega), if_neg]
    intro h
    have e : bodyL l (num (getAt l 2 2)) = [] := by unfold bodyL; rw [if_neg h8]
    rw [e] at h
    unfold sealX at h
    by_cases hp : mayP k n ([] : List UInt8).length
    · rw [if_pos hp] at h
      have := seal_size k n [] (by simp)
      rw [h] at this
      simp at this
      omega
    · rw [if_neg hp] at h; rw [← h] at hl; cases hl

set_option maxRecDepth 100000 in
set_option maxHeartbeats 800000 in
theorem open_rest (s : ByteArray) (w : World) (h : s.size = 256) (hb : s.data.toList ≠ blankL) (hs : lowL (sumN (s.data.toList.take 252)) = s.data.toList.drop 252)
    (k n m : Nat) (b r : List UInt8) (E F : Int) (hk : num (getAt s.data.toList 0 1) = k) (hn : num (getAt s.data.toList 4 4) = n) (hm : num (getAt s.data.toList 2 2) = m) (hbd : bodyL s.data.toList m = b) (hE : bodyE m = E) (hr : sealX k n b = r) (hF : sealE k n b = F) :
    Calls Tryz.prog 66 #[.string s] w fun e w' => e = .returned (if r = s.data.toList then .tuple #[.agg #[.int .i64 k, .int .i64 n, .string ⟨b.toArray⟩], .int .i64 0] else .tuple #[.agg #[.int .i64 0, .int .i64 0, .string ⟨#[]⟩], .int .i64 6]) ∧ Below w.heap.size w w' := by
  have e1 : ((s.size : Int) != 256) = false := by simp; omega
  have e2 := str_not s blankL hb
  have h252 : (252 : Int) ≤ (s.size : Int) := by omega
  have hl : s.data.toList.length = 256 := by simp [h]
  obtain ⟨x, hx⟩ : ∃ x, num (getAt s.data.toList 252 4) = x := ⟨_, rfl⟩
  obtain ⟨z, hz⟩ : ∃ z, sumN (s.data.toList.take 252) = z := ⟨_, rfl⟩
  have hxl : x < 4294967296 := by
    rw [← hx]; have := Fd.num_lt (getAt s.data.toList 252 4); rwa [Fd.getAt_length _ _ _ (by omega)] at this
  have hyz : rev32 x = z := by
    rw [← hx]
    refine (rev32_back _ (Fd.getAt_length _ _ _ (by omega)) z (by rw [← hz]; exact sumN_lt _)).2 ?_
    rw [← hz, hs, get_drop _ hl]
  have hk1 : k < 256 := by rw [← hk]; have := Fd.num_lt (getAt s.data.toList 0 1); rwa [Fd.getAt_length _ _ _ (by omega)] at this
  have hn1 : n < 4294967296 := by rw [← hn]; have := Fd.num_lt (getAt s.data.toList 4 4); rwa [Fd.getAt_length _ _ _ (by omega)] at this
  have hm1 : m < 65536 := by rw [← hm]; have := Fd.num_lt (getAt s.data.toList 2 2); rwa [Fd.getAt_length _ _ _ (by omega)] at this
  have e3 : ((z : Int) != (z : Int)) = false := by simp
  have HX := hid hx; have HY := hid hyz; have HZ := hid hz; have HL := hid hl; have HXL := hid hxl; have HK := hid hk; have HN := hid hn; have HM := hid hm; have HBD := hid hbd; have HE := hid hE; have HR := hid hr; have HF := hid hF
  have H := hid (And.intro h (And.intro hb hs)); clear h hb hs hx hyz hz hl hxl hk hn hm hbd hE hr hF
  by_cases hq : r = s.data.toList
  · have e5 : (r == s.toList) = true := by rw [ByteArray.toList_eq]; simpa using hq
    rw [if_pos hq]
    have HQ := hid hq; clear hq
    go_enter Tryz.func66, Tryz.ntmps66
    go_wp2_with (first
      | (go_at_call 29; refine (blank_any _).mono ?_; rintro e w1 ⟨rfl, hb⟩; have HB := hid hb; clear hb)
      | (go_at_call 91; refine (Fd.of_ok s _ (by have := H.out.1; omega)).mono ?_; rintro e w2 ⟨rfl, ha, hb⟩; have HG := hid (Got.made HB.out hb ha); clear ha hb))
    generalize (w2.alloc (.cells #[.pointer (some ⟨w1.heap.size + 1, 0, none⟩)] 130)) = w3 at HG ⊢
    generalize w2.heap.size = C at HG ⊢
    generalize w1.heap.size = B at HG ⊢
    go_quiet ((first
      | (go_at_call 93; exact quiet_eq (got_252 (HG.out.drewN _) HL.out HX.out))
      | (go_at_call 84; exact quiet_eq (lowest_nat _ HXL.out HY.out))
      | (go_at_call 85; exact quiet_eq (sum_nat _ HZ.out))))
    replace HG := hid (HG.out.drewN nq)
    generalize w3.drewN nq = w4 at HG ⊢
    have cv := HG.out.var
    go_wp2_with fail
    go_quiet ((first
      | (go_at_call 93; exact quiet_eq (got_2 (HG.out.drewN _) HL.out HM.out))
      | (go_at_call 95; exact quiet_eq (text_any (HG.out.drewN _) HL.out hm1 HBD.out HE.out))))
    replace HG := hid (HG.out.drewN nq)
    clear cv
    generalize w4.drewN nq = w5 at HG ⊢
    go_wp2_with (first
      | (go_at_call 93; (first | (with_reducible refine (got_0 HG.out HL.out HK.out).mono ?_) | (with_reducible refine (got_4 HG.out HL.out HN.out).mono ?_)); rintro e w' ⟨rfl, rfl⟩)
      | (go_at_call 57; refine (seal_at _ HR.out HF.out).mono ?_; rintro e w6 ⟨rfl, hb⟩; have HT := hid (Last.made HG.out hb); clear hb; have c := HT.out.got.cells; have f := HT.out.got.free; have d0 := HT.out.box.c0; have d1 := HT.out.box.c1; have d2 := HT.out.box.c2))
    refine bodyPost_ret (v := .tuple #[.agg #[.int .i64 k, .int .i64 n, .string ⟨b.toArray⟩], .int .i64 0]) (by simp [results, Tryz.results66, go_sem, c]) rfl ⟨rfl, ?_⟩
    exact ((HT.out.got.below.setCell (Nat.le_refl _) _).setCell (Nat.le_refl _) _).setCell (Nat.le_refl _) _
  · have e5 : (r == s.toList) = false := by rw [ByteArray.toList_eq]; simpa using hq
    rw [if_neg hq]
    have HQ := hid hq; clear hq
    go_enter Tryz.func66, Tryz.ntmps66
    go_wp2_with (first
      | (go_at_call 29; refine (blank_any _).mono ?_; rintro e w1 ⟨rfl, hb⟩; have HB := hid hb; clear hb)
      | (go_at_call 91; refine (Fd.of_ok s _ (by have := H.out.1; omega)).mono ?_; rintro e w2 ⟨rfl, ha, hb⟩; have HG := hid (Got.made HB.out hb ha); clear ha hb))
    generalize (w2.alloc (.cells #[.pointer (some ⟨w1.heap.size + 1, 0, none⟩)] 130)) = w3 at HG ⊢
    generalize w2.heap.size = C at HG ⊢
    generalize w1.heap.size = B at HG ⊢
    go_quiet ((first
      | (go_at_call 93; exact quiet_eq (got_252 (HG.out.drewN _) HL.out HX.out))
      | (go_at_call 84; exact quiet_eq (lowest_nat _ HXL.out HY.out))
      | (go_at_call 85; exact quiet_eq (sum_nat _ HZ.out))))
    replace HG := hid (HG.out.drewN nq)
    generalize w3.drewN nq = w4 at HG ⊢
    have cv := HG.out.var
    go_wp2_with fail
    go_quiet ((first
      | (go_at_call 93; exact quiet_eq (got_2 (HG.out.drewN _) HL.out HM.out))
      | (go_at_call 95; exact quiet_eq (text_any (HG.out.drewN _) HL.out hm1 HBD.out HE.out))))
    replace HG := hid (HG.out.drewN nq)
    clear cv
    generalize w4.drewN nq = w5 at HG ⊢
    go_wp2_with (first
      | (go_at_call 93; (first | (with_reducible refine (got_0 HG.out HL.out HK.out).mono ?_) | (with_reducible refine (got_4 HG.out HL.out HN.out).mono ?_)); rintro e w' ⟨rfl, rfl⟩)
      | (go_at_call 57; refine (seal_at _ HR.out HF.out).mono ?_; rintro e w6 ⟨rfl, hb⟩; have HT := hid (Last.made HG.out hb); clear hb; have c := HT.out.got.cells; have f := HT.out.got.free; have d0 := HT.out.box.c0; have d1 := HT.out.box.c1; have d2 := HT.out.box.c2))
    refine bodyPost_ret (v := .tuple #[.agg #[.int .i64 0, .int .i64 0, .string ⟨#[]⟩], .int .i64 6]) (by simp [results, Tryz.results66, go_sem, c]) rfl ⟨rfl, ?_⟩
    exact ((HT.out.got.below.setCell (Nat.le_refl _) _).setCell (Nat.le_refl _) _).setCell (Nat.le_refl _) _
end Go.Proofs.YtaonifdfhlbaiaaGreatDoor.Pg

/- A journal in memory, on a disk of the program's. -/
namespace Go.Proofs.YtaonifdfhlbaiaaGreatDoor.Jn
open Go.RowKit
open Go.Lib (hid)
open Go.Proofs.YtaonifdfhlbaiaaGreatDoor.Dk
open Go.Proofs.YtaonifdfhlbaiaaGreatDoor.En (Lst entC encR mayE PageT Pgs)
open Go.Proofs.YtaonifdfhlbaiaaGreatDoor.Pg (sealL openL mayP)
open Go.Proofs.YtaonifdfhlbaiaaGreatDoor.Sm (U sumB)

/-- a journal at J: its disk, base, size, transaction -/
def JAt (w : World) (J D b n t : Nat) : Prop := w.heap[J]? = some (.cells #[.pointer (some ⟨D, 0, none⟩), .int .i64 (b : Int), .int .i64 (n : Int), .int .i64 (t : Int)] 68 (0, 0))
theorem JAt.cells {w : World} {J D b n t : Nat} (h : JAt w J D b n t) : w.cell? ⟨J, 0, none⟩ = some (.pointer (some ⟨D, 0, none⟩)) ∧ w.cell? ⟨J, 1, none⟩ = some (.int .i64 (b : Int)) ∧ w.cell? ⟨J, 2, none⟩ = some (.int .i64 (n : Int)) ∧ w.cell? ⟨J, 3, none⟩ = some (.int .i64 (t : Int)) :=
  ⟨by rw [cell_of_row _ _ _ _ _ _ h]; rfl, by rw [cell_of_row _ _ _ _ _ _ h]; rfl, by rw [cell_of_row _ _ _ _ _ _ h]; rfl, by rw [cell_of_row _ _ _ _ _ _ h]; rfl⟩
theorem JAt.lt {w : World} {J D b n t : Nat} (h : JAt w J D b n t) : J < w.heap.size := (Array.getElem?_eq_some_iff.1 h).1
theorem JAt.below {w w' : World} {J D b n t : Nat} (h : JAt w J D b n t) (hb : Below w.heap.size w w') : JAt w' J D b n t := (hb.block J h.lt).trans h
theorem ks_cell {K : Nat → Prop} {w w' : World} (h : KS K w w') {k i : Nat} (hk : K k) (hlt : k < w.heap.size) : w'.cell? ⟨k, i, none⟩ = w.cell? ⟨k, i, none⟩ := by
  unfold World.cell?
  rw [h.block k hlt hk]
theorem lst_ks {K : Nat → Prop} {w w' : World} (hL : Lst w) (h0 : K 0) (h : KS K w w') : Lst w' :=
  ⟨(ks_cell h h0 hL.pos).trans hL.c0, (ks_cell h h0 hL.pos).trans hL.c1, (ks_cell h h0 hL.pos).trans hL.c2, (ks_cell h h0 hL.pos).trans hL.c3⟩
/-- a journal at J on the disk at D, apart from K's blocks but for those that it stands on -/
structure Jk (K : Nat → Prop) (J D : Nat) (wr : World) (s : St) (b n t : Nat) : Prop where
  cd : Cd K D wr s
  kJ : K J
  k0 : K 0
  j : JAt wr J D b n t
  lst : Lst wr
section
variable {K : Nat → Prop} {J D b n t : Nat} {wr w' : World} {s s' : St}
theorem Jk.next (h : Jk K J D wr s b n t) (hb : Below wr.heap.size wr w') : Jk K J D w' s b n t := ⟨h.cd.next hb, h.kJ, h.k0, h.j.below hb, h.lst.next h.lst.pos hb⟩
theorem Jk.step (h : Jk K J D wr s b n t) (hc : Cd K D w' s') (hk : KS K wr w') : Jk K J D w' s' b n t := ⟨hc, h.kJ, h.k0, (hk.block J h.j.lt h.kJ).trans h.j, lst_ks h.lst h.k0 hk⟩
end
theorem below_drewN2 {w w' : World} {n : Nat} (h : Below (w.drewN n).heap.size (w.drewN n) w') : Below w.heap.size w w' := ⟨h.os, h.tape, h.output, h.size, h.block⟩
/-- the page that an entry is written as -/
noncomputable def pgJ (m : Nat) (kd tx ix pk pn : Int) (bo : ByteArray) (ct sm : Int) : ByteArray := ⟨(sealL 5 m (encR kd tx ix pk pn bo ct sm).1.data.toList).toArray⟩
set_option maxRecDepth 100000 in
set_option maxHeartbeats 4000000 in
theorem jwrite {K : Nat → Prop} {J D b n t : Nat} {wr : World} {s : St} (h : Jk K J D wr s b n t) {k : Nat} (hf : Few s k) (hk : k < 1000000) (kd tx pk pn : Int) (i : Nat) (bo : ByteArray) (ct sm : Int) (hs : 0 ≤ sm) (hs2 : sm < 4294967296) (hm : mayE kd tx i pk pn bo ct sm) (hbi : b + i < 1000) :
    Calls Tryz.prog 34 #[.pointer (some ⟨J, 0, none⟩), .agg (entC kd tx i pk pn bo ct sm)] wr fun e w' => e = .returned (.tuple #[]) ∧ Cd K D w' (wrU s ((b + i : Nat) : Int) (pgJ (b + i) kd tx i pk pn bo ct sm)).2 ∧ KS K wr w' := by
  have hz := En.encR_size hs hm
  have HE := hid fun (V : World) (hV : Lst V) => (En.encode_any kd tx i pk pn bo ct sm V hV (by have := hm.2.1; omega) hs hs2)
  unfold pgJ
  obtain ⟨S, hS⟩ : ∃ S, (encR kd tx i pk pn bo ct sm).1 = S := ⟨_, rfl⟩
  obtain ⟨cc, hcc⟩ : ∃ S, (encR kd tx i pk pn bo ct sm).2 = S := ⟨_, rfl⟩
  rw [hS] at HE hz ⊢
  rw [hcc] at HE
  obtain ⟨m, hmm⟩ : ∃ m, b + i = m := ⟨_, rfl⟩
  rw [hmm] at hbi ⊢
  have HSL := hid fun (V : World) => Pg.seal_yes 5 m S V ⟨by decide, by decide, by omega, by omega, hz.2⟩
  have HT := hid fun (V : World) (c : Cd K D V s) => c.write hf hk (m : Int) ⟨(sealL 5 m S.data.toList).toArray⟩
  generalize (⟨(sealL 5 m S.data.toList).toArray⟩ : ByteArray) = Tx at *
  have HJ := hid (h.next ((Below.refl wr.heap.size wr).alloc (Nat.le_refl _) (.cells (entC kd tx i pk pn bo ct sm) 72)))
  have HX := hid (heap_alloc_new wr (.cells (entC kd tx i pk pn bo ct sm) 72))
  have HB0 := hid ((Below.refl wr.heap.size wr).alloc (Nat.le_refl _) (.cells (entC kd tx i pk pn bo ct sm) 72))
  have hw : wrap64 ((b : Int) + (i : Int)) = (m : Int) := by unfold wrap64; omega
  clear h hz hS hcc hm hs hs2 hmm
  go_enter Tryz.func34, Tryz.ntmps34
  go_wp2_with fail
  refine (HE.out _ HJ.out.lst).mono ?_
  rintro e w1 ⟨rfl, hb⟩
  have HJ1 := hid (HJ.out.next hb)
  have HB1 := hid (HB0.out.trans (hb.mono HB0.out.size))
  have HX1 := hid ((hb.block wr.heap.size (by simp)).trans HX.out)
  clear hb
  obtain ⟨j0, j1, j2, j3⟩ := HJ1.out.j.cells
  obtain ⟨q0, q1, q2, q3, q4, q5, q6, q7⟩ := En.ent_at HX1.out
  clear q0 q1 q3 q4 q5 q6 q7 j2 j3
  go_wp2_with fail
  go_quiet (fail)
  go_wp2_with fail
  refine (HSL.out _).mono ?_
  rintro e w2 ⟨rfl, hb⟩
  have hb' := below_drewN2 hb
  have HJ2 := hid (HJ1.out.next hb')
  have HB2 := hid (HB1.out.trans (hb'.mono HB1.out.size))
  clear hb hb' j0 j1 q2
  obtain ⟨j0, j1, j2, j3⟩ := HJ2.out.j.cells
  go_wp2_with fail
  refine (HT.out _ HJ2.out.cd).mono ?_
  rintro e w3 ⟨rfl, hc, hks⟩
  have HK3 := hid (And.intro hc ((KS.of HB2.out).trans hks))
  clear hc hks
  go_wp2_with fail
  refine bodyPost_end (v := .tuple #[]) (by simp [results, Tryz.results34, go_sem]) rfl ⟨rfl, ?_⟩
  exact HK3.out
end Go.Proofs.YtaonifdfhlbaiaaGreatDoor.Jn

/- Equality of two pages, as the program asks it; Open's contract as one. -/
namespace Go.Proofs.YtaonifdfhlbaiaaGreatDoor.Pg
open Go.RowKit
open Go.Lib (hid)
open Go.Proofs.YtaonifdfhlbaiaaGreatDoor.Fd (num getAt)

/-- are two pages the same? -/
def pageB (a b a' b' : Int) (c c' : ByteArray) : Bool := a == a' && (b == b' && c.toList == c'.toList)
theorem page_yes {a b a' b' : Int} {c c' : ByteArray} (h1 : a = a') (h2 : b = b') (h3 : c.data.toList = c'.data.toList) : pageB a b a' b' c c' = true := by
  subst h1 h2; unfold pageB; rw [ByteArray.toList_eq, ByteArray.toList_eq, h3]; simp
theorem page_of {a b a' b' : Int} {c c' : ByteArray} (h : pageB a b a' b' c c' = true) : a = a' ∧ b = b' ∧ c.data.toList = c'.data.toList := by
  unfold pageB at h; rw [ByteArray.toList_eq, ByteArray.toList_eq] at h; simpa using h
theorem eq23 (a b a' b' : Int) (c c' : ByteArray) (w : World) :
    (binOp .eql 62 (.agg #[.int .i64 a, .int .i64 b, .string c]) (.agg #[.int .i64 a', .int .i64 b', .string c'])).run Tryz.prog w = .ok (.bool (pageB a b a' b' c c')) w := by
  have ht : Tryz.prog.underlying 62 = some (.struct (Tryz.prog.fieldsOf 62)) := by kernel_rfl
  have hp : Tryz.prog.stoodInHeld 62 = false := by kernel_rfl
  rw [run_eql_struct, show (10000 : Nat) = 9999 + 1 from rfl, run_equalIn_struct _ _ _ _ _ ht hp]
  simp only [Program.fieldsOf, Tryz.underlying62]
  unfold pageB
  by_cases h1 : a = a'
  · by_cases h2 : b = b'
    · by_cases h3 : c.toList = c'.toList <;> simp [Op.eqFields, go_sem, h1, h2, h3]
    · simp [Op.eqFields, go_sem, h1, h2]
  · simp [Op.eqFields, go_sem, h1]
theorem ne23 (a b a' b' : Int) (c c' : ByteArray) (w : World) :
    (binOp .neq 62 (.agg #[.int .i64 a, .int .i64 b, .string c]) (.agg #[.int .i64 a', .int .i64 b', .string c'])).run Tryz.prog w = .ok (.bool (!pageB a b a' b' c c')) w := by
  have h := eq23 a b a' b' c c' w
  rw [run_eql_struct] at h
  rw [run_neq_struct]
  generalize (Op.equalIn 10000 62 (.agg #[.int .i64 a, .int .i64 b, .string c]) (.agg #[.int .i64 a', .int .i64 b', .string c'])).run Tryz.prog w = r at h ⊢
  cases r with
  | ok x w' => simp [Result.andThen] at h ⊢; exact ⟨by rw [h.1], h.2⟩
  | halt x w' => simp [Result.andThen] at h

/-- Open's answer -/
theorem open_at {k n e : Nat} {b : List UInt8} (s : ByteArray) (w : World) (h : openL s.data.toList = (k, n, b, e)) :
    Calls Tryz.prog 66 #[.string s] w fun r w' => r = .returned (.tuple #[.agg #[.int .i64 (k : Int), .int .i64 (n : Int), .string ⟨b.toArray⟩], .int .i64 (e : Int)]) ∧ Below w.heap.size w w' := by
  have hsl : s.data.toList.length = s.size := by simp
  by_cases h1 : s.size = 256
  · by_cases h2 : s.data.toList = blankL
    · have : openL s.data.toList = (0, 0, [], 0) := by unfold openL; rw [if_neg (by omega), if_pos h2]
      rw [this] at h; simp only [Prod.mk.injEq] at h; obtain ⟨rfl, rfl, rfl, rfl⟩ := h
      exact open_blank s w h1 h2
    · by_cases h3 : lowL (sumN (s.data.toList.take 252)) = s.data.toList.drop 252
      · have hr := open_rest s w h1 h2 h3 _ _ _ _ _ _ _ rfl rfl rfl rfl rfl rfl rfl
        rw [openL_form _ (by omega) h2 h3] at h
        by_cases h4 : sealX (num (getAt s.data.toList 0 1)) (num (getAt s.data.toList 4 4)) (bodyL s.data.toList (num (getAt s.data.toList 2 2))) = s.data.toList
        · rw [if_pos h4] at h hr; simp only [Prod.mk.injEq] at h; obtain ⟨rfl, rfl, rfl, rfl⟩ := h
          exact hr
        · rw [if_neg h4] at h hr; simp only [Prod.mk.injEq] at h; obtain ⟨rfl, rfl, rfl, rfl⟩ := h
          exact hr
      · have : openL s.data.toList = (0, 0, [], 7) := by unfold openL; rw [if_neg (by omega), if_neg h2, if_pos h3]
        rw [this] at h; simp only [Prod.mk.injEq] at h; obtain ⟨rfl, rfl, rfl, rfl⟩ := h
        exact open_sum s w h1 h2 h3
  · have : openL s.data.toList = (0, 0, [], 9) := by unfold openL; rw [if_pos (by omega)]
    rw [this] at h; simp only [Prod.mk.injEq] at h; obtain ⟨rfl, rfl, rfl, rfl⟩ := h
    exact open_cut s w h1
end Go.Proofs.YtaonifdfhlbaiaaGreatDoor.Pg

/- What Decode of the code answers, whatever the text; where it tells an error, the text is no entry's. -/
namespace Go.Proofs.YtaonifdfhlbaiaaGreatDoor.En
open Go.RowKit
open Go.Lib (hid)

theorem dec_any2 (s : ByteArray) (hs : s.size ≤ 4096) :
    (∃ c : Int, c ≠ 0 ∧ (∀ kd tx ix pk pn b ct sm, 0 ≤ sm → sm < 4294967296 → mayE kd tx ix pk pn b ct sm → (encR kd tx ix pk pn b ct sm).1 ≠ s) ∧ ∀ V : World, Lst V → Calls Tryz.prog 67 #[.string s] V fun e w' => e = .returned (.tuple #[.agg (entC 0 0 0 0 0 ⟨#[]⟩ 0 0), .int .i64 c]) ∧ Below V.heap.size V w') ∨
    ∃ kd tx ix pk pn b ct sm, 0 ≤ sm ∧ sm < 4294967296 ∧ tx ≤ 9223372036854775807 ∧ mayE kd tx ix pk pn b ct sm ∧ (encR kd tx ix pk pn b ct sm).1 = s ∧ ∀ V : World, Lst V → Calls Tryz.prog 67 #[.string s] V fun e w' => e = .returned (.tuple #[.agg (entC kd tx ix pk pn b ct sm), .int .i64 0]) ∧ Below V.heap.size V w' := by
  by_cases h0 : 0 < s.size
  · by_cases hn : s.size < leastN s[0].toNat
    · refine .inl ⟨9, by decide, fun kd tx ix pk pn b ct sm g0 g1 gm ge => ?_, fun V hV => decode_cut s V (fun X hX => by have h := cut_pos s h0 X hX; rw [decide_eq_true hn] at h; exact h) hV⟩
      have h1 := enc_size g0 gm
      have h2 := rd_enc g0 g1 gm
      rw [ge] at h1 h2
      have h3 := h2.2.2.1
      rw [first_at s h0] at h3
      rw [h3, Int.toNat_natCast] at h1
      omega
    · have hC : ∀ X : World, Lst X → Calls Tryz.prog 96 #[.string s] X fun e w' => e = .returned (.bool false) ∧ w' = X := fun X hX => by
        have h := cut_pos s h0 X hX; rw [decide_eq_false hn] at h; exact h
      obtain ⟨kd, tx, ix, pk, pn, b, ct, sm, hr⟩ := rd_ex s (fun h => by
        rw [first_at s h0] at h
        rw [h] at hn
        have : leastN 1 = 10 := rfl
        omega)
      by_cases hq : (encR kd tx ix pk pn b ct sm).1 = s
      · refine .inr ⟨kd, tx, ix, pk, pn, b, ct, sm, hr.fit.2.1, hr.fit.2.2, hr.fit.1, ?_, hq, fun V hV => decode_ok s kd tx ix pk pn b ct sm V hs hr hC hV hq⟩
        rcases Classical.em (mayE kd tx ix pk pn b ct sm) with h | h
        · exact h
        · rw [encR_no h] at hq
          rw [← hq] at h0
          exact absurd h0 (by decide)
      · refine .inl ⟨6, by decide, fun kd' tx' ix' pk' pn' b' ct' sm' g0 g1 gm ge => ?_, fun V hV => decode_bad s kd tx ix pk pn b ct sm V hs hr hC hV hq⟩
        have h2 := rd_enc g0 g1 gm
        rw [ge] at h2
        obtain ⟨rfl, rfl, rfl, rfl, rfl, rfl, rfl, rfl⟩ := hr.same h2
        exact hq ge
  · refine .inl ⟨9, by decide, fun kd tx ix pk pn b ct sm g0 g1 gm ge => ?_, fun V hV => decode_cut s V (fun X _ => by rw [no_size h0]; exact cut_nil X) hV⟩
    have h1 := encR_size g0 gm
    rw [ge] at h1
    omega
end Go.Proofs.YtaonifdfhlbaiaaGreatDoor.En
