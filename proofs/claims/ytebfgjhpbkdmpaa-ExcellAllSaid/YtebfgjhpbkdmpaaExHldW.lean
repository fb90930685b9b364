/- ExcellHolds walked: a point is in the box of its address, and in that of no other one. -/
import Derived.Test.YtebfgjhpbkdmpaaExLive
import Derived.Test.YtebfgjhpbkdmpaaExLawM
import Derived.Test.YtebfgjhpbkdmpaaKyOpen
namespace Go.Proofs.Ytebfgjhpbkdmpaa
open Go.RowKit
open Go.Lib (hid)
open Go.ChangeShapes Go.WideShapes Go.Joins
open Go.Proofs.Ytebfgjhpbkdmpaa.Ky
open Go.Proofs.Ytebfgjhpbkdmpaa.Bk
open Go.Proofs.Ytebfgjhpbkdmpaa.Ex
set_option maxRecDepth 100000 in
theorem ExcellHolds_open0 {H : Type} {enc : TypeId × Value → H} {W : World} {base : Nat} {v : Value} {d : DataW H} {p : List MemPlace} (hv : Value.okWide Try.prog W .any base 23 v) (h : DataW.Trod enc Try.prog W 0 (fun _ => true) true 23 v d p) : KeyV W v := open_key hv h
/-- the box at an address, as the laws ask for it -/
theorem box_at {n D A : Nat} (hn : 1 ≤ n ∧ n ≤ 6) (hD : D ≤ 12) (hA : A < 2 ^ D) (w : World) : Calls Try.prog 12 #[.int .i64 (n : Int), .int .i64 (D : Int), .int .i64 (A : Int)] w fun e w' => ∃ p c q c', e = .returned (.tuple #[.agg #[.slice p n c, .slice q n c'], .int .i64 0]) ∧ Pt w' p (cell n D A).1 ∧ Pt w' q (cell n D A).2 ∧ Below w.heap.size w w' := boxE_yes hn hD hA w
theorem in_at2 {n D A : Nat} (hn : 1 ≤ n ∧ n ≤ 6) (hD : D ≤ 12) (hA : A < 2 ^ D) {k : List Nat} (hk : k.length = n) {pk p q : Option Addr} (ck c c' : Nat) (V : World) (h0 : Pt V pk k) (h1 : Pt V p (cell n D A).1) (h2 : Pt V q (cell n D A).2) :
    Calls Try.prog 22 #[.slice pk n ck, .agg #[.slice p n c, .slice q n c']] V fun e w' => e = .returned (.bool (decide (A = bitsK k D))) ∧ Below V.heap.size V w' := by
  have f := cell_fit hn D A (by omega)
  have := refIn_ok k _ _ pk p q ck c c' V h0 h1 h2 (by omega)
  rw [hk, f.1, f.2, in_cell hn hk (fun x hx => by obtain ⟨j, hj, rfl⟩ := List.getElem_of_mem hx; exact h0.fit j hj) D A (by omega) hA] at this
  exact this
def HR (w : World) (D : Nat) (s : Value) (wr : World) : Prop := ∃ b : Nat, s = .int .i64 (b : Int) ∧ 1 ≤ b ∧ b ≤ D + 1 ∧ Below w.heap.size w wr
set_option maxRecDepth 100000 in
set_option maxHeartbeats 4000000 in
theorem ExcellHolds_walk (v : Value) (d : Int) (w : World) (h : KeyV w v) (_ : (Lit.int .i64 d).wf = true) :
    Calls Try.prog 5 #[v, .int .i64 d] w fun e w' => e = .returned (.bool true) ∧ Below w.heap.size w w' := by
  obtain ⟨p, k, c, rfl, hp, hl⟩ := h
  by_cases h6 : 6 < k.length
  · have e1 : decide ((6 : Int) < (k.length : Int)) = true := by simp; omega
    have e1' : decide (6 < k.length) = true := by simpa using h6
    clear hp hl h6
    go_enter Try.func5, Try.ntmps5
    go_wp2_with fail
    refine (Ex.live_any _).mono ?_
    rintro e w2 ⟨rfl, hb⟩
    have H1 := hid hb; clear hb
    go_wp2_with fail
    go_ret
    exact ⟨rfl, H1.out⟩
  · have e1 : decide ((6 : Int) < (k.length : Int)) = false := by simp; omega
    have e1' : decide (6 < k.length) = false := by simpa using h6
    have HF := hid (find_okE k p c d w hp (by omega))
    cases hb : findB k d with
    | false =>
      rw [hb, show findV k d = 0 by simp [findV, hb], err_false false rfl] at HF
      clear hp hl h6 hb
      go_enter Try.func5, Try.ntmps5
      go_wp2_with fail
      refine HF.out.mono ?_
      rintro e w1 ⟨rfl, m, hw⟩
      have H0 := hid (show Below w.heap.size w w1 by rw [hw]; exact below_drewN (Below.refl _ _) m); clear hw
      go_wp2_with fail
      refine (Ex.live_any _).mono ?_
      rintro e w2 ⟨rfl, hb⟩
      have H1 := hid (H0.out.trans (hb.mono H0.out.size)); clear hb
      go_wp2_with fail
      go_ret
      exact ⟨rfl, H1.out⟩
    | true =>
      have hb2 := hb
      unfold findB at hb2
      rw [Bool.and_eq_true, mayD_iff] at hb2
      obtain ⟨⟨D, rfl, hD⟩, hmay⟩ := hb2
      have hn : 1 ≤ k.length ∧ k.length ≤ 6 := by unfold mayN at hmay; simp at hmay; omega
      obtain ⟨n, hkn⟩ : ∃ n, k.length = n := ⟨_, rfl⟩
      obtain ⟨A, hA⟩ : ∃ A, bitsK k D = A := ⟨_, rfl⟩
      have hA2 : A < 2 ^ D := by rw [← hA]; exact bits_lt k D
      rw [hb, show findV k (D : Int) = (A : Int) by simp [findV, hb, hA], err_true true rfl, hkn] at HF
      rw [hkn] at hn e1 e1'
      rw [hkn]
      have HN := hid hn; have HD := hid hD; have HA := hid hA2; have HK := hid hkn; have HAK := hid hA
      have HP := hid hp
      have HBX := hid fun (V : World) => box_at hn hD hA2 V
      have HI := hid fun (p' q' : Option Addr) (c1 c2 : Nat) (V : World) (h0 : Pt V p k) (h1 : Pt V p' (cell n D A).1) (h2 : Pt V q' (cell n D A).2) => in_at2 hn hD hA2 hkn c c1 c2 V h0 h1 h2
      rw [hA, decide_eq_true rfl] at HI
      clear hp hl h6 hb hmay hn hkn hA hA2
      go_enter Try.func5, Try.ntmps5
      go_wp2_with fail
      refine HF.out.mono ?_
      rintro e w1 ⟨rfl, m, hw⟩
      have H0 := hid (show Below w.heap.size w w1 by rw [hw]; exact below_drewN (Below.refl _ _) m); clear hw
      go_wp2_with fail
      refine (HBX.out _).mono ?_
      rintro e w2 ⟨p1, c1, q1, c2, rfl, h1, h2, hb⟩
      obtain ⟨V, hV⟩ : ∃ V, w2.alloc (.cells #[Value.slice p1 n c1, .slice q1 n c2] 28) = V := ⟨_, rfl⟩
      have HV := hid (show Below w.heap.size w V by rw [← hV]; exact (H0.out.trans (hb.mono H0.out.size)).trans ((below_alloc w2 _).mono (H0.out.trans (hb.mono H0.out.size)).size))
      have Q1 := hid (show Pt V p1 _ by rw [← hV]; exact h1.alloc _)
      have Q2 := hid (show Pt V q1 _ by rw [← hV]; exact h2.alloc _)
      have x := two_cells (show V.heap[w2.heap.size]? = some (.cells #[Value.slice p1 n c1, .slice q1 n c2] 28 (0, 0)) by rw [← hV]; exact heap_alloc_new _ _)
      clear hb h1 h2
      go_wp2_with fail
      refine (HI.out p1 q1 c1 c2 _ (HP.out.below HV.out) Q1.out Q2.out).mono ?_
      rintro e w3 ⟨rfl, hb⟩
      have HW := hid (HV.out.trans (hb.mono HV.out.size))
      clear hb x hV
      go_wp2_with fail
      go_loopw [9] (fun s wr => HR w D s wr) (fun s _ => D + 1 - (intOf s).toNat)
      case atStart => exact ⟨1, rfl, Nat.le_refl _, by omega, HW.out⟩
      case round =>
        rename World => wa
        obtain ⟨b, rfl, hb1, hb2, hbw⟩ := hrel
        have HBW := hid hbw
        by_cases hlt : b ≤ D
        · have e2 : decide ((b : Int) ≤ (D : Int)) = true := by simp; omega
          have hD12 := HD.out
          have hy : buddyB (D : Int) (A : Int) (b : Int) = true := by
            unfold buddyB
            rw [hasA_iff.2 ⟨D, A, rfl, hD12, rfl, HA.out⟩, decide_eq_true (by omega), decide_eq_true (by omega)]; rfl
          obtain ⟨M, hM⟩ : ∃ M, buddyN D A b = M := ⟨_, rfl⟩
          have hM2 : M < 2 ^ D := by rw [← hM]; exact (flip_lt HA.out hb1 hlt).2.2
          have hne : M ≠ A := by rw [← hM]; exact buddy_ne D A b
          have HB := hid (buddy_ok (D : Int) (A : Int) (b : Int) wa)
          rw [hy, show buddyV (D : Int) (A : Int) (b : Int) = (M : Int) by simp [buddyV, hy, hM], err_true true rfl] at HB
          have HB2 := hid fun (V : World) => box_at HN.out hD12 hM2 V
          have HI2 := hid fun (p' q' : Option Addr) (c1 c2 : Nat) (V : World) (h0 : Pt V p k) (h1 : Pt V p' (cell n D M).1) (h2 : Pt V q' (cell n D M).2) => in_at2 HN.out hD12 hM2 HK.out c c1 c2 V h0 h1 h2
          rw [HAK.out, decide_eq_false hne] at HI2
          have s4 : IntKind.i64.wrap ((b : Int) + 1) = (b : Int) + 1 := Go.IntWalk.i64_in _ (by omega)
          have HLB := hid hlt
          clear hy hM hM2 hne hbw hlt hb1 hb2 hD12
          go_wp2_with fail
          refine HB.out.mono ?_
          rintro e w4 ⟨rfl, rfl⟩
          go_wp2_with fail
          refine (HB2.out _).mono ?_
          rintro e w5 ⟨p2, c3, q2, c4, rfl, h1, h2, hb⟩
          obtain ⟨V5, hV5⟩ : ∃ V5, w5.alloc (.cells #[Value.slice p2 n c3, .slice q2 n c4] 28) = V5 := ⟨_, rfl⟩
          have HV5 := hid (show Below w.heap.size w V5 by rw [← hV5]; exact (HBW.out.trans (hb.mono HBW.out.size)).trans ((below_alloc w5 _).mono (HBW.out.trans (hb.mono HBW.out.size)).size))
          have Q3 := hid (show Pt V5 p2 _ by rw [← hV5]; exact h1.alloc _)
          have Q4 := hid (show Pt V5 q2 _ by rw [← hV5]; exact h2.alloc _)
          have x := two_cells (show V5.heap[w5.heap.size]? = some (.cells #[Value.slice p2 n c3, .slice q2 n c4] 28 (0, 0)) by rw [← hV5]; exact heap_alloc_new _ _)
          clear hb h1 h2
          go_wp2_with fail
          refine (HI2.out p2 q2 c3 c4 _ (HP.out.below HV5.out) Q3.out Q4.out).mono ?_
          rintro e w6 ⟨rfl, hb⟩
          have HW6 := hid (HV5.out.trans (hb.mono HV5.out.size))
          clear hb x hV5
          go_wp2_with fail
          go_roundw
          case rel => exact ⟨b + 1, by go_num, by omega, by have := HLB.out; omega, HW6.out⟩
          case measure => simp [intOf]; have := HLB.out; omega
        · have e2 : decide ((b : Int) ≤ (D : Int)) = false := by simp; omega
          have e2' : decide (b ≤ D) = false := by simp; omega
          have e2'' : decide ((D : Int) < (b : Int)) = true := by simp; omega
          have e2''' : decide (D < b) = true := by simp; omega
          clear hbw hlt hb1 hb2
          go_wp2_with fail
          refine (Ex.live_any _).mono ?_
          rintro e w7 ⟨rfl, hb⟩
          have H1 := hid (HBW.out.trans (hb.mono HBW.out.size)); clear hb
          go_wp2_with fail
          go_ret
          exact ⟨rfl, H1.out⟩
end Go.Proofs.Ytebfgjhpbkdmpaa
