/- The small calls of bucket, of the reference and of the laws. -/
import Derived.Test.YtkjcbfdplhcjpaaBkBase
import Derived.Test.YtkjcbfdplhcjpaaShelf
namespace Go.Proofs.Ytkjcbfdplhcjpaa.Bk
open Go.RowKit
open Go.Lib (hid)
open Go.Proofs.Ytkjcbfdplhcjpaa.Ky

theorem quiet_eq {f : FuncId} {args : Array Value} {w : World} {n : Nat} {v : Value} (h : Calls Try.prog f args (w.drewN n) fun e w' => e = .returned v ∧ w.drewN n = w') :
    Calls Try.prog f args (w.drewN n) fun e w'' => e = .returned v ∧ ∃ m, w'' = w.drewN m := h.mono fun _ _ ⟨he, hm⟩ => ⟨he, n, hm.symm⟩
theorem quiet_more {f : FuncId} {args : Array Value} {w : World} {n : Nat} {v : Value} (h : Calls Try.prog f args (w.drewN n) fun e w' => e = .returned v ∧ ∃ m, w' = (w.drewN n).drewN m) :
    Calls Try.prog f args (w.drewN n) fun e w'' => e = .returned v ∧ ∃ m, w'' = w.drewN m := h.mono fun _ _ ⟨he, _, hm⟩ => ⟨he, _, hm.trans (World.drewN_drewN _ _ _)⟩
/-- records that a program may have: not too many, not too long -/
def bigR (L : List Rec) : Prop := L.length ≤ 1000 ∧ ∀ r ∈ L, r.1.length ≤ 1000 ∧ r.2.size ≤ 1000
theorem fewR_big {L : List Rec} (h : fewR L) : bigR L := ⟨by have := h.1; omega, fun r hr => by have := h.2 r hr; omega⟩
theorem sizeR_lt (L : List Rec) (h : ∀ r ∈ L, r.1.length ≤ 1000 ∧ r.2.size ≤ 1000) : sizeR L ≤ 1 + L.length * 5001 := by
  unfold sizeR
  induction L with
  | nil => simp
  | cons a l ih =>
    have h1 := h a (by simp)
    have h2 := ih fun r hr => h r (by simp [hr])
    simp only [List.map_cons, List.sum_cons, List.length_cons]
    omega
theorem bigR_take {L : List Rec} (h : bigR L) (k : Nat) : sizeR (L.take k) ≤ 6000000 := by
  have h1 := sizeR_mono L k
  have h2 := sizeR_lt L h.2
  have := h.1
  omega
def fitsB (L : List Rec) (c : Int) : Bool := decide ((L.length : Int) ≤ c) && decide (sizeR L ≤ 230)
def takesB (c : Int) : Bool := decide (2 ≤ c) && decide (c ≤ 16)
theorem mayR_eq (r : Rec) (d : Int) : mayR r d = (checkB r.1.length d && decide (r.2.size ≤ 40)) := by
  unfold mayR checkB mayB
  rw [Bool.eq_iff_iff]; simp; omega
set_option maxHeartbeats 400000 in
theorem takes_ok (c : Int) (w : World) : Calls Try.prog 78 #[.int .i64 c] w fun e w' => e = .returned (.bool (takesB c)) ∧ w = w' := by
  by_cases h : 2 ≤ c
  · have e : takesB c = decide (c ≤ 16) := by simp [takesB, h]
    rw [e]
    clear e
    go_enter Try.func78, Try.ntmps78
    go_wp2_with fail
    go_ret
    exact ⟨rfl, rfl⟩
  · have e : takesB c = false := by simp [takesB, h]
    have h1 : decide (2 ≤ c) = false := by simpa using h
    rw [e]
    clear e h
    go_enter Try.func78, Try.ntmps78
    go_wp2_with fail
    go_ret
    exact ⟨rfl, rfl⟩
set_option maxRecDepth 100000 in
set_option maxHeartbeats 1000000 in
theorem size_ok {D : Nat → Prop} (L : List Rec) (p : Option Addr) (c : Nat) (w : World) (h : Rs D w p L) (hl : bigR L) :
    Calls Try.prog 76 #[.slice p L.length c] w fun e w' => e = .returned (.int .i64 (sizeR L : Int)) ∧ Below w.heap.size w w' := by
  have HP := hid h; have HL := hid hl; have hlen := hl.1; clear h hl
  go_enter Try.func76, Try.ntmps76
  go_wp2_with fail
  go_loopw [3, 8] (fun n i wr => ∃ k : Nat, k ≤ L.length ∧ i = .int .i64 k ∧ n = .int .i64 (sizeR (L.take k) : Int) ∧ Below w.heap.size w wr) (fun _ i _ => L.length - (intOf i).toNat)
  case atStart => exact ⟨0, by omega, rfl, rfl, Below.refl _ _⟩
  case round =>
    obtain ⟨k, hk, rfl, rfl, hb⟩ := hrel
    have HB := hid hb; clear hb
    by_cases hlt : k < L.length
    · obtain ⟨b, off, q, c', rfl, _, d1, d2, _⟩ := (HP.out.below HB.out).at k hlt
      have hs := HL.out.2 _ (List.getElem_mem hlt)
      have HT := hid (sizeR_take L k hlt)
      have hst := bigR_take HL.out k
      generalize sizeR (L.take k) = s at HT hst
      generalize L[k].1.length = x at d1 hs HT
      generalize L[k].2 = t at d2 hs HT
      go_wp2_with fail
      go_roundw
      case rel => exact ⟨k + 1, by omega, by go_num, by rw [HT.out]; congr 1 <;> omega, HB.out.alloc HB.out.size _⟩
      case measure => simp [intOf]; omega
    · obtain rfl : k = L.length := by omega
      go_wp2_with fail
      go_ret
      rw [List.take_length]
      exact ⟨rfl, HB.out⟩
set_option maxHeartbeats 400000 in
theorem fits_ok {D : Nat → Prop} (L : List Rec) (p : Option Addr) (c : Nat) (m : Int) (w : World) (h : Rs D w p L) (hl : bigR L) :
    Calls Try.prog 77 #[.slice p L.length c, .int .i64 m] w fun e w' => e = .returned (.bool (fitsB L m)) ∧ Below w.heap.size w w' := by
  have HS := hid (size_ok L p c w h hl); clear h hl
  by_cases hm : (L.length : Int) ≤ m
  · have e : fitsB L m = decide ((sizeR L : Int) ≤ 230) := by simp [fitsB, hm]; omega
    have e1 : decide ((L.length : Int) ≤ m) = true := by simpa using hm
    rw [e]; clear e hm
    go_enter Try.func77, Try.ntmps77
    go_wp2_with (go_at_call 76; refine HS.out.mono ?_; rintro e w' ⟨rfl, hb⟩; have HB := hid hb; clear hb)
    go_ret
    exact ⟨rfl, HB.out⟩
  · have e : fitsB L m = false := by simp [fitsB, hm]
    have e1 : decide ((L.length : Int) ≤ m) = false := by simpa using hm
    rw [e]; clear e hm
    go_enter Try.func77, Try.ntmps77
    go_wp2_with fail
    go_ret
    exact ⟨rfl, Below.refl _ _⟩
set_option maxRecDepth 100000 in
set_option maxHeartbeats 1000000 in
theorem refSize_ok {D : Nat → Prop} (L : List Rec) (p : Option Addr) (c : Nat) (w : World) (h : Rs D w p L) (hl : bigR L) :
    Calls Try.prog 120 #[.slice p L.length c] w fun e w' => e = .returned (.int .i64 (sizeR L : Int)) ∧ ∃ n, w' = w.drewN n := by
  have HP := hid h; have HL := hid hl; have hlen := hl.1; clear h hl
  go_enter Try.func120, Try.ntmps120
  go_wp2_with fail
  go_loopw [3, 4] (fun n i wr => ∃ k : Nat, k ≤ L.length ∧ i = .int .i64 k ∧ n = .int .i64 (sizeR (L.take k) : Int) ∧ ∃ q, wr = w.drewN q) (fun _ i _ => L.length - (intOf i).toNat)
  case atStart => exact ⟨0, by omega, rfl, rfl, 0, rfl⟩
  case round =>
    obtain ⟨k, hk, rfl, rfl, q0, rfl⟩ := hrel
    by_cases hlt : k < L.length
    · obtain ⟨b, off, q, c', rfl, _, d1, d2, _⟩ := HP.out.at k hlt
      have hs := HL.out.2 _ (List.getElem_mem hlt)
      have HT := hid (sizeR_take L k hlt)
      have hst := bigR_take HL.out k
      generalize sizeR (L.take k) = s at HT hst
      generalize L[k].1.length = x at d1 hs HT
      generalize L[k].2 = t at d2 hs HT
      go_wp2_with fail
      go_quiet (fail)
      go_wp2_with fail
      go_roundw
      case rel => exact ⟨k + 1, by omega, by go_num, by rw [HT.out]; congr 1; omega, _, rfl⟩
      case measure => simp [intOf]; omega
    · obtain rfl : k = L.length := by omega
      go_wp2_with fail
      go_ret
      rw [List.take_length]
      exact ⟨rfl, q0, rfl⟩
set_option maxHeartbeats 400000 in
theorem refFits_ok {D : Nat → Prop} (L : List Rec) (p : Option Addr) (c : Nat) (m : Int) (w : World) (h : Rs D w p L) (hl : bigR L) :
    Calls Try.prog 107 #[.slice p L.length c, .int .i64 m] w fun e w' => e = .returned (.bool (fitsB L m)) ∧ ∃ n, w' = w.drewN n := by
  have HS := hid (refSize_ok L p c w h hl); clear h hl
  by_cases hm : (L.length : Int) ≤ m
  · have e : fitsB L m = decide ((sizeR L : Int) ≤ 230) := by simp [fitsB, hm]; omega
    have e1 : decide ((L.length : Int) ≤ m) = true := by simpa using hm
    rw [e]; clear e hm
    go_enter Try.func107, Try.ntmps107
    go_wp2_with (go_at_call 120; refine HS.out.mono ?_; rintro e w' ⟨rfl, n, rfl⟩)
    go_ret
    exact ⟨rfl, n, rfl⟩
  · have e : fitsB L m = false := by simp [fitsB, hm]
    have e1 : decide ((L.length : Int) ≤ m) = false := by simpa using hm
    rw [e]; clear e hm
    go_enter Try.func107, Try.ntmps107
    go_wp2_with fail
    go_ret
    exact ⟨rfl, 0, rfl⟩
set_option maxHeartbeats 400000 in
theorem atlasCheck_ok (q : Option Addr) (n c : Nat) (t : ByteArray) (d : Int) (w : World) :
    Calls Try.prog 21 #[.agg #[.slice q n c, .string t], .int .i64 d] w fun e w' => e = .returned (.int .i64 (err (checkB n d && decide (t.size ≤ 40)))) ∧ Below w.heap.size w w' := by
  have HC := hid fun w' => check_ok q n c d w'
  have HB := hid (below_alloc w (.cells #[.slice q n c, .string t] 33))
  cases hb : checkB n d with
  | false =>
    rw [hb] at HC
    rw [Bool.false_and]
    rw [err_false false rfl] at HC ⊢
    clear hb
    go_enter Try.func21, Try.ntmps21
    go_wp2_with (go_at_call 63; refine (HC.out _).mono ?_; rintro e w' ⟨rfl, rfl⟩)
    go_ret
    exact ⟨rfl, HB.out⟩
  | true =>
    rw [hb] at HC
    rw [Bool.true_and]
    rw [err_true true rfl] at HC
    clear hb
    by_cases hs : t.size ≤ 40
    · rw [err_true _ (by simpa using hs)]
      have e1 : decide (40 < (t.size : Int)) = false := by simp; omega
      clear hs
      go_enter Try.func21, Try.ntmps21
      go_wp2_with (go_at_call 63; refine (HC.out _).mono ?_; rintro e w' ⟨rfl, rfl⟩)
      go_ret
      exact ⟨rfl, HB.out⟩
    · rw [err_false _ (by simpa using hs)]
      have e1 : decide (40 < (t.size : Int)) = true := by simp; omega
      clear hs
      go_enter Try.func21, Try.ntmps21
      go_wp2_with (go_at_call 63; refine (HC.out _).mono ?_; rintro e w' ⟨rfl, rfl⟩)
      go_ret
      exact ⟨rfl, HB.out⟩
set_option maxHeartbeats 400000 in
theorem refCheckR_ok (q : Option Addr) (n c : Nat) (t : ByteArray) (d : Int) (w : World) :
    Calls Try.prog 22 #[.agg #[.slice q n c, .string t], .int .i64 d] w fun e w' => e = .returned (.int .i64 (err (checkB n d && decide (t.size ≤ 40)))) ∧ Below w.heap.size w w' := by
  have HC := hid fun w' => refCheck_ok q n c d w'
  have HB := hid (below_alloc w (.cells #[.slice q n c, .string t] 33))
  cases hb : checkB n d with
  | false =>
    rw [hb] at HC
    rw [Bool.false_and]
    rw [err_false false rfl] at HC ⊢
    clear hb
    go_enter Try.func22, Try.ntmps22
    go_wp2_with (go_at_call 57; refine (HC.out _).mono ?_; rintro e w' ⟨rfl, rfl⟩)
    go_ret
    exact ⟨rfl, HB.out⟩
  | true =>
    rw [hb] at HC
    rw [Bool.true_and]
    rw [err_true true rfl] at HC
    clear hb
    by_cases hs : t.size ≤ 40
    · rw [err_true _ (by simpa using hs)]
      have e1 : decide (40 < (t.size : Int)) = false := by simp; omega
      clear hs
      go_enter Try.func22, Try.ntmps22
      go_wp2_with (go_at_call 57; refine (HC.out _).mono ?_; rintro e w' ⟨rfl, rfl⟩)
      go_ret
      exact ⟨rfl, HB.out⟩
    · rw [err_false _ (by simpa using hs)]
      have e1 : decide (40 < (t.size : Int)) = true := by simp; omega
      clear hs
      go_enter Try.func22, Try.ntmps22
      go_wp2_with (go_at_call 57; refine (HC.out _).mono ?_; rintro e w' ⟨rfl, rfl⟩)
      go_ret
      exact ⟨rfl, HB.out⟩
/-- a row of the first k records that may be -/
def mayAll (L : List Rec) (d : Int) : Bool := L.all fun r => mayR r d
theorem mayAll_take {L : List Rec} {d : Int} {k : Nat} (h : k < L.length) (h1 : mayAll (L.take k) d = true) (h2 : mayR L[k] d = true) : mayAll (L.take (k + 1)) d = true := by
  unfold mayAll at *
  rw [List.take_succ_eq_append_getElem h, List.all_append, h1]
  simp [h2]
theorem mayAll_no {L : List Rec} {d : Int} {k : Nat} (h : k < L.length) (h2 : mayR L[k] d = false) : mayAll L d = false := by
  unfold mayAll
  rw [List.all_eq_false]
  exact ⟨L[k], List.getElem_mem h, by simp [h2]⟩
set_option maxRecDepth 100000 in
set_option maxHeartbeats 1000000 in
theorem may_okR {D : Nat → Prop} (L : List Rec) (p : Option Addr) (c : Nat) (d : Int) (w : World) (h : Rs D w p L) (hl : L.length ≤ 1000000) :
    Calls Try.prog 99 #[.slice p L.length c, .int .i64 d] w fun e w' => e = .returned (.bool (mayAll L d)) ∧ Below w.heap.size w w' := by
  have HP := hid h; clear h
  go_enter Try.func99, Try.ntmps99
  go_wp2_with fail
  go_loopw [9] (fun i wr => ∃ k : Nat, k ≤ L.length ∧ i = .int .i64 k ∧ mayAll (L.take k) d = true ∧ Below w.heap.size w wr) (fun i _ => L.length - (intOf i).toNat)
  case atStart => exact ⟨0, by omega, rfl, rfl, Below.refl _ _⟩
  case round =>
    obtain ⟨k, hk, rfl, hm, hb⟩ := hrel
    have HB := hid hb; have HM := hid hm; clear hb hm
    by_cases hlt : k < L.length
    · obtain ⟨b, off, q, c', rfl, _, d1, d2, _⟩ := (HP.out.below HB.out).at k hlt
      have HC := hid fun w' => atlasCheck_ok q L[k].1.length c' L[k].2 d w'
      have hr := mayR_eq L[k] d
      cases hc : mayR L[k] d with
      | true =>
        have HN := hid (mayAll_take hlt HM.out hc)
        rw [hc] at hr
        rw [← hr, err_true true rfl] at HC
        clear hr hc
        generalize L[k].1.length = x at d1 HC
        generalize L[k].2 = t at d2 HC
        go_wp2_with (go_at_call 21; refine (HC.out _).mono ?_; rintro e w2 ⟨rfl, hb⟩; have HB2 := hid ((HB.out.alloc HB.out.size _).trans (hb.mono (HB.out.alloc HB.out.size _).size)); clear hb)
        go_roundw
        case rel => exact ⟨k + 1, by omega, by go_num, HN.out, HB2.out⟩
        case measure => simp [intOf]; omega
      | false =>
        have HN := hid (mayAll_no hlt hc)
        rw [hc] at hr
        rw [← hr, err_false false rfl] at HC
        clear hr hc
        generalize L[k].1.length = x at d1 HC
        generalize L[k].2 = t at d2 HC
        go_wp2_with (go_at_call 21; refine (HC.out _).mono ?_; rintro e w2 ⟨rfl, hb⟩; have HB2 := hid ((HB.out.alloc HB.out.size _).trans (hb.mono (HB.out.alloc HB.out.size _).size)); clear hb)
        go_ret
        rw [HN.out]
        exact ⟨rfl, HB2.out⟩
    · obtain rfl : k = L.length := by omega
      have HN := HM.out
      rw [List.take_length] at HN
      have HN2 := hid HN; clear HN
      go_wp2_with fail
      go_ret
      rw [HN2.out]
      exact ⟨rfl, HB.out⟩
end Go.Proofs.Ytkjcbfdplhcjpaa.Bk
