/- The law's own examples. -/
import Derived.Test.YtfedkhomplffoaaPgEq
namespace Go.Proofs.Ytfedkhomplffoaa.Pg
open Go.RowKit
open Go.Lib (hid)
open Go.Proofs.Ytfedkhomplffoaa.Fd (num getAt on_below)

/-- the example's page, its bytes without the first one, and torn -/
def ex0 : List UInt8 := sealL 2 7 [97, 98]
def ex1 : List UInt8 := ex0.drop 1
def ex2 : List UInt8 := tornL ex0 9
theorem ex_len : ex0.length = 256 := sealL_length 2 7 [97, 98] (by decide)
theorem ex_open : openL ex0 = (2, 7, [97, 98], 0) := open_seal 2 7 [97, 98] (by decide)
theorem ex_cut : openL ex1 = (0, 0, [], 9) := by
  unfold openL; rw [if_pos (by unfold ex1; rw [List.length_drop, ex_len]; decide)]
set_option maxRecDepth 100000 in
theorem ex_torn : openL ex2 = (0, 0, [], 7) := by decide +kernel
theorem blank_open : openL blankL = (0, 0, [], 0) := by
  unfold openL; rw [if_neg (by simp [blankL, zs_length]), if_pos rfl]
set_option maxRecDepth 100000 in
theorem ex_head : ex0.take 11 = [2, 0, 0, 2, 0, 0, 0, 7, 97, 98, 0] := by decide +kernel

theorem ex_seal (w : World) :
    Calls Try.prog 10 #[.agg #[.int .i64 2, .int .i64 7, .string ⟨#[97, 98]⟩]] w fun e w' => e = .returned (.tuple #[.string ⟨ex0.toArray⟩, .int .i64 0]) ∧ Below w.heap.size w w' :=
  seal_yes 2 7 ⟨#[97, 98]⟩ w (by decide)
theorem ex_none (w : World) :
    Calls Try.prog 10 #[.agg #[.int .i64 0, .int .i64 0, .string ⟨#[]⟩]] w fun e w' => e = .returned (.tuple #[.string ⟨#[]⟩, .int .i64 1]) ∧ Below w.heap.size w w' :=
  seal_no 0 0 ⟨#[]⟩ w (by decide)
theorem ex_tear (w : World) :
    Calls Try.prog 12 #[.string ⟨ex0.toArray⟩, .int .i64 9] w fun e w' => e = .returned (.tuple #[.string ⟨ex2.toArray⟩, .int .i64 0]) ∧ Below w.heap.size w w' :=
  torn_yes ⟨ex0.toArray⟩ 9 w (by show ex0.toArray.size = 256; rw [List.size_toArray, ex_len]) (by decide)
/-- Open of a list, by what it gives -/
theorem open_l {s : ByteArray} {l : List UInt8} {k n e : Nat} {b : List UInt8} {x y z : Int} (w : World) (hs : s.data.toList = l) (h : openL l = (k, n, b, e)) (hx : (k : Int) = x) (hy : (n : Int) = y) (hz : (e : Int) = z) :
    Calls Try.prog 16 #[.string s] w fun r w' => r = .returned (.tuple #[.agg #[.int .i64 x, .int .i64 y, .string ⟨b.toArray⟩], .int .i64 z]) ∧ Below w.heap.size w w' := by
  subst hs hx hy hz; exact open_at s w h

theorem on_alloc {w wr w' : World} {o : Obj} (h : Hid (Below w.heap.size w wr)) (hb : Below (wr.alloc o).heap.size (wr.alloc o) w') : Hid (Below w.heap.size w w') :=
  on_below (hid (h.out.alloc h.out.size o)) hb
theorem Box.next {wr w' : World} {P : Nat} {k n : Int} {b : ByteArray} {o : Obj} (h : Box wr P k n b) (hb : Below (wr.alloc o).heap.size (wr.alloc o) w') : Box w' P k n b :=
  (h.below ((Below.refl _ _).alloc (Nat.le_refl _) o)).below hb

theorem ex_cutB : ((⟨ex0.toArray⟩ : ByteArray).extract 1 256).data.toList = ex1 := by
  rw [ByteArray.data_extract]
  have h := ex_len
  simp only [ex1, List.extract_toArray, List.extract_eq_take_drop]
  rw [List.take_of_length_le (by rw [List.length_drop, h]; decide)]
theorem ex_headB : ((⟨ex0.toArray⟩ : ByteArray).extract 0 11).toList = [2, 0, 0, 2, 0, 0, 0, 7, 97, 98, 0] := by
  rw [ByteArray.toList_eq, ByteArray.data_extract]
  rw [← ex_head]; simp

set_option maxRecDepth 100000 in
set_option maxHeartbeats 1000000 in
theorem live_any (w : World) :
    Calls Try.prog 9 #[] w fun e w' => e = .returned (.bool true) ∧ Below w.heap.size w w' := by
  have hl := ex_len
  have hhead := ex_headB
  have hq1 : pageB 2 7 2 7 ⟨#[97, 98]⟩ ⟨#[97, 98]⟩ = true := page_yes rfl rfl rfl
  have hq2 : pageB 0 0 0 0 ⟨#[]⟩ ⟨#[]⟩ = true := page_yes rfl rfl rfl
  have heq := eq23
  go_enter Try.func9, Try.ntmps9
  go_wp2_with fail
  refine (ex_seal _).mono ?_; rintro e w1 ⟨rfl, hb⟩; have HB := hid hb; clear hb
  go_wp2_with fail
  refine (open_l _ rfl ex_open rfl rfl rfl).mono ?_; rintro e w2 ⟨rfl, hb⟩; replace HB := on_below HB hb; clear hb
  go_wp2_with fail
  refine (open_l (b := []) _ ex_cutB ex_cut rfl rfl rfl).mono ?_; rintro e w3 ⟨rfl, hb⟩; have HP := hid ((Box.made w2 2 7 ⟨#[97, 98]⟩).below hb); replace HB := on_alloc HB hb; clear hb
  generalize w2.heap.size = P at HP ⊢
  go_wp2_with fail
  refine (ex_tear _).mono ?_; rintro e w4 ⟨rfl, hb⟩; replace HP := hid (HP.out.next hb); replace HB := on_alloc HB hb; clear hb
  go_wp2_with fail
  refine (open_l (b := []) _ rfl ex_torn rfl rfl rfl).mono ?_; rintro e w5 ⟨rfl, hb⟩; replace HP := hid (HP.out.below hb); replace HB := on_below HB hb; clear hb
  go_wp2_with fail
  refine (blank_any _).mono ?_; rintro e w6 ⟨rfl, hb⟩; replace HP := hid (HP.out.next hb); replace HB := on_alloc HB hb; clear hb
  go_wp2_with fail
  refine (open_l (b := []) _ rfl blank_open rfl rfl rfl).mono ?_; rintro e w7 ⟨rfl, hb⟩; replace HP := hid (HP.out.below hb); replace HB := on_below HB hb; clear hb
  go_wp2_with fail
  refine (ex_none _).mono ?_; rintro e w8 ⟨rfl, hb⟩; have HQ := hid ((Box.made w7 0 0 ⟨#[]⟩).below hb); replace HP := hid (HP.out.next hb); replace HB := on_alloc HB hb; clear hb
  generalize w7.heap.size = Q at HQ ⊢
  have p0 := HP.out.c0; have p1 := HP.out.c1; have p2 := HP.out.c2
  have q0 := HQ.out.c0; have q1 := HQ.out.c1; have q2 := HQ.out.c2
  go_wp2_with fail
  go_ret
  exact ⟨rfl, HB.out⟩
end Go.Proofs.Ytfedkhomplffoaa.Pg
