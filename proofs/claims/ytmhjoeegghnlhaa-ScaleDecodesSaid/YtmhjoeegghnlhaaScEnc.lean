/- What is written of a coordinate. -/
import Derived.Test.YtmhjoeegghnlhaaScNil
import Derived.Test.YtmhjoeegghnlhaaFdField2
import Derived.Test.YtmhjoeegghnlhaaFdOf
namespace Go.Proofs.Ytmhjoeegghnlhaa.Sc
open Go.RowKit
open Go.Lib (hid)
open Go.Proofs.Ytmhjoeegghnlhaa.Ky Go.Proofs.Ytmhjoeegghnlhaa.Bk
open Go.Proofs.Ytmhjoeegghnlhaa

/-- a coordinate's bounds, as bytes -/
def encP (l : List Nat) : List UInt8 := Fd.be 1 l.length ++ l.flatMap (Fd.be 4)
def midP (l : List Nat) (i : Nat) : List UInt8 := (Fd.be 1 l.length ++ (l.take i).flatMap (Fd.be 4)) ++ List.replicate (4 * (l.length - i)) 0
theorem flat_len (l : List Nat) : (l.flatMap (Fd.be 4)).length = 4 * l.length := by
  induction l with
  | nil => rfl
  | cons x m ih => rw [List.flatMap_cons, List.length_append, ih, Fd.be_length, List.length_cons]; omega
theorem headP_len (l : List Nat) (i : Nat) (h : i ≤ l.length) : (Fd.be 1 l.length ++ (l.take i).flatMap (Fd.be 4)).length = 1 + 4 * i := by
  rw [List.length_append, flat_len, Fd.be_length, List.length_take]; omega
theorem midP_len (l : List Nat) (i : Nat) (h : i ≤ l.length) : (midP l i).length = 1 + 4 * l.length := by
  unfold midP; rw [List.length_append, headP_len l i h, List.length_replicate]; omega
theorem putAt_mid (X Z T : List UInt8) : Fd.putAt (X ++ Z) X.length T = X ++ T ++ Z.drop T.length := by
  unfold Fd.putAt
  rw [List.take_left, ← List.drop_drop, List.drop_left]
theorem midP_zero (l : List Nat) : Fd.putAt (List.replicate (1 + 4 * l.length) 0) 0 (Fd.be 1 l.length) = midP l 0 := by
  have h := putAt_mid [] (List.replicate (1 + 4 * l.length) 0) (Fd.be 1 l.length)
  rw [List.nil_append, List.nil_append, List.length_nil] at h
  rw [h, Fd.be_length, List.drop_replicate]
  unfold midP
  rw [List.take_zero, List.flatMap_nil, List.append_nil, show 1 + 4 * l.length - 1 = 4 * (l.length - 0) by omega]
theorem midP_next (l : List Nat) (i : Nat) (h : i < l.length) : Fd.putAt (midP l i) (1 + 4 * i) (Fd.be 4 l[i]) = midP l (i + 1) := by
  have h1 := putAt_mid (Fd.be 1 l.length ++ (l.take i).flatMap (Fd.be 4)) (List.replicate (4 * (l.length - i)) 0) (Fd.be 4 l[i])
  rw [headP_len l i (Nat.le_of_lt h)] at h1
  unfold midP
  rw [h1, Fd.be_length, List.drop_replicate, List.take_succ_eq_append_getElem h, List.flatMap_append, show 4 * (l.length - i) - 4 = 4 * (l.length - (i + 1)) by omega]
  simp [List.append_assoc]
theorem midP_all (l : List Nat) : midP l l.length = encP l := by
  unfold midP encP; rw [List.take_length, Nat.sub_self]; simp
theorem upd_below {w V V' : World} {B : Nat} {l : List UInt8} (h : Below w.heap.size w V) (hu : Fd.Upd B l V V') (hB : w.heap.size ≤ B) : Below w.heap.size w V' :=
  h.trans ⟨hu.os, hu.tape, hu.output, hu.size, fun k hk => hu.block k (Nat.lt_of_lt_of_le hk h.size) (by omega)⟩
set_option maxRecDepth 100000 in
set_option maxHeartbeats 2000000 in
theorem written_ok (l : List Nat) (p : Option Addr) (c n : Nat) (w : World) (hp : Pt w p l) (hn : l.length = n) (h255 : n ≤ 255) :
    Calls Try.prog 53 #[.slice p n c] w fun e w' => e = .returned (.string ⟨(encP l).toArray⟩) ∧ Below w.heap.size w w' := by
  obtain ⟨M, hM⟩ : ∃ M, 4 * n = M := ⟨_, rfl⟩
  obtain ⟨K, hK⟩ : ∃ K, 1 + M = K := ⟨_, rfl⟩
  have s1 : IntKind.i64.wrap (4 * (n : Int)) = (M : Int) := by rw [Go.IntWalk.i64_in _ (by omega)]; omega
  have s2 : IntKind.i64.wrap (1 + (M : Int)) = (K : Int) := by rw [Go.IntWalk.i64_in _ (by omega)]; omega
  have s3 : IntKind.u32.wrap (n : Int) = (n : Int) := Go.IntWalk.u32_in _ (by omega)
  have HNW := hid fun V => Fd.new_ok K V (by omega)
  have HAR := hid (Fd.madeArea_area 120 K w (by omega))
  have HB0 := hid (Fd.madeArea_below 120 K w)
  have HLN := hid (And.intro hn (And.intro hM (And.intro hK h255)))
  have HP := hid hp
  obtain ⟨V, hV⟩ : ∃ V, Fd.madeArea 120 K w = V := ⟨_, rfl⟩
  rw [hV] at HAR HB0
  have hPU : Calls Try.prog 71 #[.pointer (some ⟨w.heap.size + 1, 0, none⟩), .int .i64 0, .int .i64 1, .int .u32 (n : Int)] V fun e w' => e = .returned (.int .i64 0) ∧ Fd.Upd w.heap.size (midP l 0) V w' := by
    have h := Fd.put_1 (w.heap.size + 1) w.heap.size (List.replicate K 0) 0 n V HAR.out (by rw [List.length_replicate]; omega) (by omega)
    rw [show K = 1 + 4 * l.length by omega] at h
    rw [← hn] at h ⊢
    rw [midP_zero] at h
    exact h
  have HPU := hid hPU
  clear hp hPU h255 hn hM hK
  go_enter Try.func53, Try.ntmps53
  go_wp2_with fail
  refine (HNW.out _).mono ?_
  rintro e w1 ⟨rfl, hw1⟩
  rw [hV] at hw1
  subst hw1
  go_wp2_with fail
  refine HPU.out.mono ?_
  rintro e w2 ⟨rfl, hu⟩
  have HA2 := hid (HAR.out.upd hu (by rw [midP_len _ _ (Nat.zero_le _), List.length_replicate]; have := HLN.out; omega))
  have HB2 := hid (upd_below HB0.out hu (Nat.le_refl _))
  clear hu HPU HAR HNW s1 s2 s3 hV
  go_wp2_with fail
  go_loopw [22] (fun s wr => ∃ i : Nat, s = .int .i64 i ∧ i ≤ n ∧ Fd.Area 120 wr (w.heap.size + 1) w.heap.size (midP l i) ∧ Below w.heap.size w wr) (fun s _ => n - (intOf s).toNat)
  case atStart => exact ⟨0, rfl, Nat.zero_le _, HA2.out, HB2.out⟩
  case round =>
    obtain ⟨i, rfl, hi, ha, hb⟩ := hrel
    have HA := hid ha; have HB := hid hb
    clear ha hb HA2 HB2
    obtain ⟨hn, hM, hK, h255⟩ := HLN.out
    by_cases hlt : i < n
    · have hil : i < l.length := by omega
      obtain ⟨g, f, rfl, hg, hcw⟩ := HP.out.cells i hil
      have hc := (HB.out.cell (p := ⟨g, f + i, none⟩) hg).trans hcw
      have hx := HP.out.fit i hil
      have HNX := hid (midP_next l i hil)
      obtain ⟨m, hm⟩ : ∃ m, 4 * i = m := ⟨_, rfl⟩
      obtain ⟨k, hk⟩ : ∃ k, 1 + m = k := ⟨_, rfl⟩
      have s1 : IntKind.i64.wrap (4 * (i : Int)) = (m : Int) := by rw [Go.IntWalk.i64_in _ (by omega)]; omega
      have s2 : IntKind.i64.wrap (1 + (m : Int)) = (k : Int) := by rw [Go.IntWalk.i64_in _ (by omega)]; omega
      have s3 : IntKind.i64.wrap ((i : Int) + 1) = ((i + 1 : Nat) : Int) := Go.IntWalk.i64_in _ (by omega)
      rw [hm, hk] at HNX
      generalize l[i] = x at hc hcw hx HNX
      have HPU := hid (Fd.put_4 (w.heap.size + 1) w.heap.size (midP l i) k x wr HA.out (by rw [midP_len _ _ (Nat.le_of_lt hil)]; omega) (by omega))
      rw [HNX.out] at HPU
      have HI := hid hlt
      have e1 : decide ((i : Int) < (n : Int)) = true := by simpa using hlt
      have e1' : decide (i < n) = true := by simpa using hlt
      clear hi hn hM hK h255 hlt hil hg hcw hx HNX hm hk
      go_wp2_with fail
      refine HPU.out.mono ?_
      rintro e w3 ⟨rfl, hu⟩
      have HA3 := hid (HA.out.upd hu (by have h1 := HI.out; have h2 := HLN.out; rw [midP_len _ _ (by omega), midP_len _ _ (by omega)]))
      have HB3 := hid (upd_below HB.out hu (Nat.le_refl _))
      clear hu
      go_wp2_with fail
      go_roundw
      case rel => exact ⟨i + 1, rfl, HI.out, HA3.out, HB3.out⟩
      case measure => simp [intOf]; have := HI.out; omega
    · obtain rfl : i = n := by omega
      have e1 : decide ((i : Int) < (i : Int)) = false := by simp
      have e1' : decide (i < i) = false := by simp
      have HE := hid (show midP l i = encP l by rw [← hn]; exact midP_all l)
      rw [HE.out] at HA
      have HBY := hid (Fd.bytes_ok (w.heap.size + 1) w.heap.size (encP l) wr HA.out)
      clear hi hn hM hK h255 hlt
      go_wp2_with fail
      refine HBY.out.mono ?_
      rintro e w3 ⟨rfl, rfl⟩
      go_wp2_with fail
      go_ret
      exact ⟨rfl, HB.out⟩
end Go.Proofs.Ytmhjoeegghnlhaa.Sc
