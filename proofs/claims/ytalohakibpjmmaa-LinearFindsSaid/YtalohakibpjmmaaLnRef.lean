/- Find, Box and Range of the reference's linear. -/
import Derived.Test.YtalohakibpjmmaaLnBox
import Derived.Test.YtalohakibpjmmaaLnRAny
import Derived.Test.YtalohakibpjmmaaLnRngA
namespace Go.Proofs.Ytalohakibpjmmaa.Ln
open Go.RowKit
open Go.Lib (hid)
open Go.Proofs.Ytalohakibpjmmaa.Ky
open Go.Proofs.Ytalohakibpjmmaa.Pt
open Go.Proofs.Ytalohakibpjmmaa.Bk
open Go.Proofs.Ytalohakibpjmmaa.Ex

def FdR (F : Nat) (w : World) (s10 : Value) (wr : World) : Prop := ∃ i : Nat, s10 = .int .i64 (i : Int) ∧ i ≤ F ∧ ∃ m, wr = w.drewN m
theorem check_self (n : Nat) : checkB n (n : Int) = mayN n := by unfold checkB; rw [mayB_nat]; simp
set_option maxRecDepth 100000 in
set_option maxHeartbeats 4000000 in
theorem refFindL_ok (k : List Nat) (p : Option Addr) (c : Nat) (l x : Int) (w : World) (hp : Pt w p k) (hl : k.length ≤ 1000000) :
    Calls Try.prog 13 #[.slice p k.length c, .int .i64 l, .int .i64 x] w fun e w' => e = .returned (.tuple #[.int .i64 (fV k l x), .int .i64 (err (fB k l x))]) ∧ ∃ m, w' = w.drewN m := by
  have HC := hid fun V : World => refCount_ok l x V
  have HK := hid fun V : World => refCheck_ok p k.length c (k.length : Int) V
  rw [check_self] at HK
  cases h : lvB l x with
  | false =>
    rw [show fB k l x = false by unfold fB; rw [h]; rfl, show fV k l x = 0 by unfold fV fB; rw [h]; rfl, err_false false rfl]
    rw [h, err_false false rfl] at HC
    generalize cntV l x = n at HC
    clear h hp
    go_enter Try.func13, Try.ntmps13
    go_wp2_with fail
    refine (HC.out _).mono ?_
    rintro e w' ⟨rfl, rfl⟩
    go_wp2_with fail
    go_ret2
    exact ⟨rfl, 0, rfl⟩
  | true =>
    rw [h, err_true true rfl] at HC
    cases hn : mayN k.length with
    | false =>
      rw [hn, err_false false rfl] at HK
      rw [show fB k l x = false by unfold fB; rw [hn, Bool.and_false], show fV k l x = 0 by unfold fV fB; rw [hn, Bool.and_false]; rfl, err_false false rfl]
      generalize cntV l x = n at HC
      clear h hp hn
      go_enter Try.func13, Try.ntmps13
      go_wp2_with fail
      refine (HC.out _).mono ?_
      rintro e w' ⟨rfl, rfl⟩
      go_wp2_with fail
      refine (HK.out _).mono ?_
      rintro e w' ⟨rfl, rfl⟩
      go_wp2_with fail
      go_ret2
      exact ⟨rfl, 0, rfl⟩
    | true =>
      rw [hn, err_true true rfl] at HK
      have hb3 : fB k l x = true := by unfold fB; rw [h, hn]; rfl
      rw [hb3, err_true true rfl, show fV k l x = (fnd k l.toNat x.toNat : Nat) by unfold fV; rw [hb3, if_pos rfl]]
      obtain ⟨L, X, rfl, hL, rfl, hX⟩ := lvB_iff.1 h
      rw [show cntV (L : Int) (X : Int) = ((2 ^ L + X : Nat) : Int) by unfold cntV; rw [h, if_pos rfl, Int.toNat_natCast]; omega] at HC
      rw [Int.toNat_natCast, Int.toNat_natCast]
      have hF := fnd_lt (k := k) hX
      have hp10 := pow_10 hL
      have HCL := hid fun (i : Nat) (hi : i < 2 ^ L + X) (V : World) => cellL_ok (c := i) hL hX hi V
      have HFD := hid fun (i : Nat) (m : Nat) => (show Calls Try.prog 30 #[.slice p k.length c, .int .i64 ((dep L X i : Nat) : Int)] (w.drewN m) fun e w' => e = .returned (.tuple #[.int .i64 ((bitsK k (dep L X i) : Nat) : Int), .int .i64 0]) ∧ ∃ m', w' = (w.drewN m).drewN m' from by
        have hd := dep_le (L := L) (X := X) (c := i) hL
        have := refFind_okE k p c ((dep L X i : Nat) : Int) (w.drewN m) (hp.drewN m) hl
        have hb : findB k ((dep L X i : Nat) : Int) = true := by unfold findB; rw [hn, Bool.and_true]; exact mayD_iff.2 ⟨_, rfl, by omega⟩
        rw [hb, err_true true rfl, show findV k ((dep L X i : Nat) : Int) = ((bitsK k (dep L X i) : Nat) : Int) by unfold findV; rw [hb, if_pos rfl, Int.toNat_natCast]] at this
        exact this)
      have HIF := hid fun (i : Nat) => fnd_iff (k := k) (L := L) (X := X) (c := i)
      obtain ⟨N, hN⟩ : ∃ N, 2 ^ L + X = N := ⟨_, rfl⟩
      have hN2 : N ≤ 2048 := by omega
      rw [hN] at HC HCL hF
      obtain ⟨F, hFF⟩ : ∃ F, fnd k L X = F := ⟨_, rfl⟩
      rw [hFF] at HIF hF ⊢
      have HF := hid hF; have HN := hid hN2
      clear h hp hn hb3 hL hX hp10 hN hN2 hFF hF
      go_enter Try.func13, Try.ntmps13
      go_wp2_with fail
      refine (HC.out _).mono ?_
      rintro e w' ⟨rfl, rfl⟩
      go_wp2_with fail
      refine (HK.out _).mono ?_
      rintro e w' ⟨rfl, rfl⟩
      go_wp2_with fail
      go_loopw [10] (fun s10 wr => FdR F w s10 wr) (fun s10 _ => N - (intOf s10).toNat)
      case atStart => exact ⟨0, rfl, by omega, 0, rfl⟩
      case round =>
        obtain ⟨i, rfl, hi, m, rfl⟩ := hrel
        have hF := HF.out; have hN := HN.out
        have hlt : i < N := by omega
        have e0 : decide ((i : Int) < (N : Int)) = true := by simpa using hlt
        have e0' : decide (i < N) = true := by simpa using hlt
        have s1 : IntKind.i64.wrap ((i : Int) + 1) = ((i + 1 : Nat) : Int) := Go.IntWalk.i64_in _ (by omega)
        have H1 := hid (HCL.out i hlt (w.drewN m))
        have H2 := hid (HFD.out i)
        have hif := HIF.out i
        obtain ⟨D, hD⟩ : ∃ D, dep L X i = D := ⟨_, rfl⟩
        rw [hD] at H1 H2 hif
        obtain ⟨A, hA⟩ : ∃ A, adr X i = A := ⟨_, rfl⟩
        rw [hA] at H1 hif
        obtain ⟨B, hB⟩ : ∃ B, bitsK k D = B := ⟨_, rfl⟩
        rw [hB] at H2 hif
        by_cases hq : B = A
        · have e1 : ((B : Int) == (A : Int)) = true := by rw [beq_iff_eq]; omega
          obtain rfl : i = F := hif.1 hq.symm
          clear hi hF hN hlt hif hD hA hB hq HF HIF
          go_wp2_with fail
          refine H1.out.mono ?_
          rintro e w1 ⟨rfl, rfl⟩
          go_wp2_with fail
          refine (H2.out m).mono ?_
          rintro e w2 ⟨rfl, m2, rfl⟩
          go_wp2_with fail
          go_ret2
          exact ⟨rfl, m + m2, rfl⟩
        · have e1 : ((B : Int) == (A : Int)) = false := by rw [beq_eq_false_iff_ne]; omega
          have hne : i ≠ F := fun h => hq (hif.2 h).symm
          have HLT := hid (show i + 1 ≤ F by omega)
          clear hi hF hN hlt hif hD hA hB hq hne
          go_wp2_with fail
          refine H1.out.mono ?_
          rintro e w1 ⟨rfl, rfl⟩
          go_wp2_with fail
          refine (H2.out m).mono ?_
          rintro e w2 ⟨rfl, m2, rfl⟩
          go_wp2_with fail
          go_roundw
          case rel => exact ⟨i + 1, rfl, HLT.out, m + m2, rfl⟩
          case measure => simp [intOf]; have := HLT.out; have := HF.out; omega
set_option maxRecDepth 100000 in
set_option maxHeartbeats 4000000 in
theorem refBoxL_yes {n L X C : Nat} (hn : 1 ≤ n ∧ n ≤ 6) (hL : L ≤ 10) (hX : X < 2 ^ L) (hC : C < 2 ^ L + X) (w : World) :
    Calls Try.prog 15 #[.int .i64 (n : Int), .int .i64 (L : Int), .int .i64 (X : Int), .int .i64 (C : Int)] w (CellPost w n (cell n (dep L X C) (adr X C))) := by
  have HC := hid fun V : World => refCount_ok (L : Int) (X : Int) V
  rw [lvB_iff.2 ⟨L, X, rfl, hL, rfl, hX⟩, err_true true rfl, show cntV (L : Int) (X : Int) = ((2 ^ L + X : Nat) : Int) by unfold cntV; rw [lvB_iff.2 ⟨L, X, rfl, hL, rfl, hX⟩, if_pos rfl, Int.toNat_natCast]; omega] at HC
  have HCL := hid fun V : World => cellL_ok hL hX hC V
  have hd := dep_le (L := L) (X := X) (c := C) hL
  have HBX := hid fun V : World => refBox_yes (D := dep L X C) (A := adr X C) hn (by omega) (adr_lt hX hC) V
  generalize cell n (dep L X C) (adr X C) = Z at HBX ⊢
  obtain ⟨zl, zh⟩ := Z
  unfold CellPost at HBX
  generalize dep L X C = D at HCL HBX
  generalize adr X C = A at HCL HBX
  obtain ⟨N, hN⟩ : ∃ N, 2 ^ L + X = N := ⟨_, rfl⟩
  rw [hN] at HC hC
  have e1 : decide ((n : Int) < 1) = false := by simp; omega
  have e1' : decide (n < 1) = false := by simp; omega
  have e2 : decide (6 < (n : Int)) = false := by simp; omega
  have e2' : decide (6 < n) = false := by simp; omega
  have e3 : decide ((C : Int) < 0) = false := by simp
  have e4 : decide ((N : Int) ≤ (C : Int)) = false := by simp; omega
  have e4' : decide (N ≤ C) = false := by simp; omega
  have HB := hid (below_alloc w (.cells #[Value.slice none 0 0, .slice none 0 0] 32))
  have HZ := hid (heap_alloc_new w (.cells #[Value.slice none 0 0, .slice none 0 0] 32))
  have HSZ : Hid (w.heap.size < (w.alloc (.cells #[Value.slice none 0 0, .slice none 0 0] 32)).heap.size) := hid (by simp)
  clear hn hL hX hC hd hN
  go_enter Try.func15, Try.ntmps15
  go_wp2_with fail
  refine (HC.out _).mono ?_
  rintro e w1 ⟨rfl, rfl⟩
  go_wp2_with fail
  refine (HCL.out _).mono ?_
  rintro e w1 ⟨rfl, rfl⟩
  go_wp2_with fail
  refine (HBX.out _).mono ?_
  rintro e w1 ⟨p, c1, q, c2, rfl, g1, g2, hb⟩
  have hz1 := (hb.block _ HSZ.out).trans HZ.out
  have z := zero_cells hz1
  have HS := hid (store_out (HB.out.trans (hb.mono HB.out.size)) (Nat.le_refl _) hz1 g1 g2 (.slice p n c1) (.slice q n c2) (by simp))
  clear g1 g2 hb hz1
  go_wp2_with fail
  have z2 := HS.out.2.2.2
  refine bodyPost_ret (v := .tuple #[.agg #[.slice p n c1, .slice q n c2], .int .i64 0]) (by simp [results, Try.results15, go_sem, z2]) rfl ?_
  exact ⟨p, c1, q, c2, rfl, HS.out.1, HS.out.2.1, HS.out.2.2.1⟩
set_option maxRecDepth 100000 in
set_option maxHeartbeats 4000000 in
theorem refBoxL_no {dim l x c : Int} (h : bB dim l x c = false) (w : World) :
    Calls Try.prog 15 #[.int .i64 dim, .int .i64 l, .int .i64 x, .int .i64 c] w fun e w' => e = .returned (.tuple #[.agg #[.slice none 0 0, .slice none 0 0], .int .i64 1]) ∧ Below w.heap.size w w' := by
  have HC := hid fun V : World => refCount_ok l x V
  have HB := hid (below_alloc w (.cells #[Value.slice none 0 0, .slice none 0 0] 32))
  have hz := heap_alloc_new w (.cells #[Value.slice none 0 0, .slice none 0 0] 32)
  have z := zero_cells hz
  clear hz
  cases hv : lvB l x with
  | false =>
    rw [hv, err_false false rfl] at HC
    generalize cntV l x = n at HC
    clear hv h
    go_enter Try.func15, Try.ntmps15
    go_wp2_with fail
    refine (HC.out _).mono ?_
    rintro e w1 ⟨rfl, rfl⟩
    go_wp2_with fail
    refine bodyPost_ret (v := .tuple #[.agg #[.slice none 0 0, .slice none 0 0], .int .i64 1]) (by simp [results, Try.results15, go_sem]) rfl ?_
    exact ⟨rfl, HB.out⟩
  | true =>
    rw [hv, err_true true rfl] at HC
    obtain ⟨L, X, rfl, hL, rfl, hX⟩ := lvB_iff.1 hv
    rw [show cntV (L : Int) (X : Int) = ((2 ^ L + X : Nat) : Int) by unfold cntV; rw [hv, if_pos rfl, Int.toNat_natCast]; omega] at HC
    have hno : ¬ (1 ≤ dim ∧ dim ≤ 6 ∧ 0 ≤ c ∧ c < ((2 ^ L + X : Nat) : Int)) := fun hh => by
      have : bB dim (L : Int) (X : Int) c = true := bB_iff.2 ⟨dim.toNat, L, X, c.toNat, by omega, by omega, by omega, rfl, hL, rfl, hX, by omega, by omega⟩
      rw [h] at this; cases this
    obtain ⟨N, hN⟩ : ∃ N, 2 ^ L + X = N := ⟨_, rfl⟩
    rw [hN] at HC hno
    clear hv h hL hX hN
    by_cases h1 : dim < 1
    · have e1 : decide (dim < 1) = true := by simpa using h1
      clear hno h1
      go_enter Try.func15, Try.ntmps15
      go_wp2_with fail
      refine (HC.out _).mono ?_
      rintro e w1 ⟨rfl, rfl⟩
      go_wp2_with fail
      refine bodyPost_ret (v := .tuple #[.agg #[.slice none 0 0, .slice none 0 0], .int .i64 1]) (by simp [results, Try.results15, go_sem]) rfl ?_
      exact ⟨rfl, HB.out⟩
    · have e1 : decide (dim < 1) = false := by simpa using h1
      by_cases h2 : 6 < dim
      · have e2 : decide (6 < dim) = true := by simpa using h2
        clear hno h1 h2
        go_enter Try.func15, Try.ntmps15
        go_wp2_with fail
        refine (HC.out _).mono ?_
        rintro e w1 ⟨rfl, rfl⟩
        go_wp2_with fail
        refine bodyPost_ret (v := .tuple #[.agg #[.slice none 0 0, .slice none 0 0], .int .i64 1]) (by simp [results, Try.results15, go_sem]) rfl ?_
        exact ⟨rfl, HB.out⟩
      · have e2 : decide (6 < dim) = false := by simpa using h2
        by_cases h3 : c < 0
        · have e3 : decide (c < 0) = true := by simpa using h3
          clear hno h1 h2 h3
          go_enter Try.func15, Try.ntmps15
          go_wp2_with fail
          refine (HC.out _).mono ?_
          rintro e w1 ⟨rfl, rfl⟩
          go_wp2_with fail
          refine bodyPost_ret (v := .tuple #[.agg #[.slice none 0 0, .slice none 0 0], .int .i64 1]) (by simp [results, Try.results15, go_sem]) rfl ?_
          exact ⟨rfl, HB.out⟩
        · have e3 : decide (c < 0) = false := by simpa using h3
          have e4 : decide ((N : Int) ≤ c) = true := by simp; omega
          clear hno h1 h2 h3
          go_enter Try.func15, Try.ntmps15
          go_wp2_with fail
          refine (HC.out _).mono ?_
          rintro e w1 ⟨rfl, rfl⟩
          go_wp2_with fail
          refine bodyPost_ret (v := .tuple #[.agg #[.slice none 0 0, .slice none 0 0], .int .i64 1]) (by simp [results, Try.results15, go_sem]) rfl ?_
          exact ⟨rfl, HB.out⟩
end Go.Proofs.Ytalohakibpjmmaa.Ln
