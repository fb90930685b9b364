/- ExcellAll walked: each cell of a depth is one of a range of all points; cells of a range that a point's box is are that point's alone. -/
import Derived.Test.YtebfgjhpbkdmpaaExHldW
import Derived.Test.YtebfgjhpbkdmpaaKyWhole
namespace Go.Proofs.Ytebfgjhpbkdmpaa
open Go.RowKit
open Go.Lib (hid)
open Go.ChangeShapes Go.WideShapes Go.Joins
open Go.Proofs.Ytebfgjhpbkdmpaa.Ky
open Go.Proofs.Ytebfgjhpbkdmpaa.Bk
open Go.Proofs.Ytebfgjhpbkdmpaa.Ex
set_option maxRecDepth 100000 in
theorem ExcellAll_open0 {H : Type} {enc : TypeId × Value → H} {W : World} {base : Nat} {v : Value} {d : DataW H} {p : List MemPlace} (hv : Value.okWide Try.prog W .any base 23 v) (h : DataW.Trod enc Try.prog W 0 (fun _ => true) true 23 v d p) : KeyV W v := open_key hv h
theorem check_n {n : Nat} (hn : 1 ≤ n ∧ n ≤ 6) : checkB n (n : Int) = true := by unfold checkB; rw [mayB_nat, mayN_of hn]; simp
theorem box_whole {n : Nat} (hn : 1 ≤ n ∧ n ≤ 6) : boxB (lowW n) (highW n) (n : Int) = true := by
  unfold boxB
  rw [show (lowW n).length = n by simp [lowW], check_n hn, show leAll (lowW n) (highW n) = true from leAll_iff.2 ⟨by simp [lowW, highW], fun j h1 h2 => by simp [lowW, highW]⟩]; rfl
theorem ints_one (A : Nat) (t q : Option Addr) (c : Nat) (V : World) (g1 : CellsAt V t (ki [A])) (g2 : CellsAt V q (iv [(A : Int)])) : Calls Try.prog 21 #[.slice t 1 c, .slice q 1 1] V fun e w' => e = .returned (.bool true) ∧ ∃ n, w' = V.drewN n := by
  have := ints_ok [(A : Int)] [(A : Int)] t q c 1 V g1 g2 (by simp)
  rw [decide_eq_true rfl] at this
  exact this
theorem box_point {n : Nat} (hn : 1 ≤ n ∧ n ≤ 6) {k : List Nat} (hk : k.length = n) : boxB k k (n : Int) = true := by
  unfold boxB
  rw [hk, check_n hn, leAll_refl]; rfl
set_option maxRecDepth 100000 in
set_option maxHeartbeats 4000000 in
theorem all_out (p : Option Addr) (n c : Nat) (d : Int) (w : World) (h : mayN n = false ∨ d < 0 ∨ 8 < d) :
    Calls Try.prog 6 #[.slice p n c, .int .i64 d] w fun e w' => e = .returned (.bool true) ∧ Below w.heap.size w w' := by
  have HC := hid (refCheck_ok p n c (n : Int) w)
  cases hm : mayN n with
  | false =>
    rw [show checkB n (n : Int) = false by unfold checkB; rw [mayB_nat, hm]; rfl, err_false false rfl] at HC
    clear h hm
    go_enter Try.func6, Try.ntmps6
    go_wp2_with fail
    refine HC.out.mono ?_
    rintro e w1 ⟨rfl, rfl⟩
    go_wp2_with fail
    refine (Ex.live_any _).mono ?_
    rintro e w2 ⟨rfl, hb⟩
    have H1 := hid hb; clear hb
    go_wp2_with fail
    go_ret
    exact ⟨rfl, H1.out⟩
  | true =>
    rw [show checkB n (n : Int) = true by unfold checkB; rw [mayB_nat, hm]; simp, err_true true rfl] at HC
    have h2 : d < 0 ∨ 8 < d := by rcases h with h | h; (rw [hm] at h; cases h); exact h
    by_cases h3 : d < 0
    · have e2 : decide (d < 0) = true := by simpa using h3
      clear h hm h2 h3
      go_enter Try.func6, Try.ntmps6
      go_wp2_with fail
      refine HC.out.mono ?_
      rintro e w1 ⟨rfl, rfl⟩
      go_wp2_with fail
      refine (Ex.live_any _).mono ?_
      rintro e w2 ⟨rfl, hb⟩
      have H1 := hid hb; clear hb
      go_wp2_with fail
      go_ret
      exact ⟨rfl, H1.out⟩
    · have e2 : decide (d < 0) = false := by simpa using h3
      have e3 : decide (8 < d) = true := by simp; omega
      clear h hm h2 h3
      go_enter Try.func6, Try.ntmps6
      go_wp2_with fail
      refine HC.out.mono ?_
      rintro e w1 ⟨rfl, rfl⟩
      go_wp2_with fail
      refine (Ex.live_any _).mono ?_
      rintro e w2 ⟨rfl, hb⟩
      have H1 := hid hb; clear hb
      go_wp2_with fail
      go_ret
      exact ⟨rfl, H1.out⟩
set_option maxRecDepth 100000 in
set_option maxHeartbeats 4000000 in
theorem all_go (p : Option Addr) (k : List Nat) (c n D : Nat) (w : World) (hp : Pt w p k) (hkn : k.length = n) (hn : 1 ≤ n ∧ n ≤ 6) (hD : D ≤ 8) :
    Calls Try.prog 6 #[.slice p n c, .int .i64 (D : Int)] w fun e w' => e = .returned (.bool true) ∧ Below w.heap.size w w' := by
  have HC := hid (refCheck_ok p n c (n : Int) w)
  rw [check_n hn, err_true true rfl] at HC
  have HWH := hid fun (V : World) => refWhole_ok (n : Int) V
  unfold OneBox at HWH
  rw [show wholeLo (n : Int) = lowW n by unfold wholeLo; rw [if_pos (by omega), Int.toNat_natCast], show wholeHi (n : Int) = highW n by unfold wholeHi; rw [if_pos (by omega), Int.toNat_natCast], show (lowW n).length = n by simp [lowW], show (highW n).length = n by simp [highW]] at HWH
  obtain ⟨P, hP⟩ : ∃ P, 2 ^ D = P := ⟨_, rfl⟩
  have hP1 : P ≤ 4096 := by rw [← hP]; exact (pow_12 (show D ≤ 12 by omega)).1
  obtain ⟨A, hA⟩ : ∃ A, bitsK k D = A := ⟨_, rfl⟩
  have hfit : ∀ x ∈ k, x < 4294967296 := fun x hx => by obtain ⟨j, hj, rfl⟩ := List.getElem_of_mem hx; exact hp.fit j hj
  have HR1 := hid fun (A' A'' : Option Addr) (k1 k2 : Nat) (V : World) (g : Pt V A' (lowW n)) (g' : Pt V A'' (highW n)) => rangeE_yes hn (show D ≤ 12 by omega) (show (lowW n).length = n by simp [lowW]) (show (highW n).length = n by simp [highW]) (box_whole hn) A' A'' k1 k2 V g g'
  unfold ListPost at HR1
  rw [range_whole hn (show D ≤ 32 by omega), hP, show (List.range P).length = P by simp] at HR1
  have HR2 := hid fun (V : World) (g : Pt V p k) => rangeE_yes hn (show D ≤ 12 by omega) hkn hkn (box_point hn hkn) p p c c V g g
  unfold ListPost at HR2
  rw [range_point hn hkn hfit (show D ≤ 32 by omega), hA] at HR2
  have hmD : mayD (D : Int) = true := mayD_iff.2 ⟨D, rfl, by omega⟩
  have hfb : findB k (D : Int) = true := by unfold findB; rw [hmD, hkn, mayN_of hn]; rfl
  have HF := hid fun (V : World) (g : Pt V p k) => find_okE k p c (D : Int) V g (by omega)
  rw [hfb, show findV k (D : Int) = (A : Int) by simp [findV, hfb, hA], err_true true rfl, hkn] at HF
  have HP := hid hp
  have HPW := hid hP1
  have e2 : decide ((D : Int) < 0) = false := by simp
  have e3 : decide ((8 : Int) < (D : Int)) = false := by simp; omega
  have e3' : decide (8 < D) = false := by simp; omega
  have s0 : IntKind.u64.wrap (D : Int) = (D : Int) := Go.IntWalk.u64_in _ (by omega)
  have g3 : 0 ≤ (D : Int) := by omega
  have s1 : (2 : Int) ^ D = (P : Int) := by rw [← hP]; simp
  have s1' : (2 : Int) ^ (min D 64) = (P : Int) := by rw [Nat.min_eq_left (by omega)]; exact s1
  have s2 : IntKind.i64.wrap ((1 : Int) * (P : Int)) = (P : Int) := by rw [Int.one_mul]; exact Go.IntWalk.i64_in _ (by omega)
  have s3 : IntKind.i64.wrap (P : Int) = (P : Int) := Go.IntWalk.i64_in _ (by omega)
  clear hp hkn hn hD hP hP1 hA hfit hmD hfb
  go_enter Try.func6, Try.ntmps6
  go_wp2_with fail
  refine HC.out.mono ?_
  rintro e w1 ⟨rfl, rfl⟩
  go_wp2_with fail
  refine (HWH.out _).mono ?_
  rintro e w2 ⟨A1, c1, A2, c2, rfl, g1, g2, hb⟩
  have H2 := hid hb
  have G1 := hid g1; have G2 := hid g2
  clear hb g1 g2
  go_wp2_with fail
  refine (HR1.out _ _ _ _ _ G1.out G2.out).mono ?_
  rintro e w3 ⟨r, cr, rfl, hr, hb⟩
  have H3 := hid (H2.out.trans (hb.mono H2.out.size))
  have HL := hid hr
  clear hb hr G1 G2
  go_wp2_with fail
  refine (HR2.out _ (HP.out.below H3.out)).mono ?_
  rintro e w4 ⟨t, ct, rfl, ht, hb⟩
  have H4 := hid (H3.out.trans (hb.mono H3.out.size))
  have HL4 := hid (HL.out.below hb)
  have HT := hid ht
  clear hb ht HL
  go_wp2_with fail
  refine (HF.out _ (HP.out.below H4.out)).mono ?_
  rintro e w5 ⟨rfl, m, hw⟩
  have H5 := hid (show Below w.heap.size w w5 by rw [hw]; exact below_drewN H4.out m)
  have HL5 := hid (show CellsAt w5 r _ by rw [hw]; exact HL4.out.drewN m)
  have HT5 := hid (show CellsAt w5 t _ by rw [hw]; exact HT.out.drewN m)
  clear hw HL4 HT H2 H3 H4
  go_wp2_with fail
  go_loopw [12] (fun s wr => ∃ i : Nat, s = .int .i64 (i : Int) ∧ i ≤ P ∧ wr = w5) (fun s _ => P - (intOf s).toNat)
  case atStart => exact ⟨0, rfl, by omega, rfl⟩
  case round =>
    obtain ⟨i, rfl, hi, rfl⟩ := hrel
    by_cases hlt : i < P
    · obtain ⟨b, off, rfl, hc⟩ := HL5.out i (by rw [ki_length, List.length_range]; exact hlt)
      have hc2 : wr.cell? ⟨b, off + i, none⟩ = some (.int .i64 (i : Int)) := by rw [hc]; simp [ki]
      have e5 : decide ((i : Int) < (P : Int)) = true := by simp; omega
      have hpw := HPW.out
      have s4 : IntKind.i64.wrap ((i : Int) + 1) = (i : Int) + 1 := Go.IntWalk.i64_in _ (by omega)
      have q1 : (0 : Int) ≤ (i : Int) := by omega
      have q2 : (i : Int) < (P : Int) := by omega
      have HI := hid hlt
      clear hc hpw
      go_wp2_with fail
      go_roundw
      case rel => exact ⟨i + 1, by go_num, HI.out, by first | trivial | rfl⟩
      case measure => simp [intOf]; have := HI.out; omega
    · have e5 : decide ((i : Int) < (P : Int)) = false := by simp; omega
      have e5' : decide (i < P) = false := by simpa using hlt
      have HN := hid (cells_new wr [(A : Int)] (cs := #[.int .i64 (A : Int)]) rfl)
      have HT6 := hid (HT5.out.below (below_alloc wr (.cells #[.int .i64 (A : Int)] 3)))
      have HJ := hid fun (q : Option Addr) (V : World) (g1 : CellsAt V t (ki [A])) (g2 : CellsAt V q (iv [(A : Int)])) => ints_one A t q ct V g1 g2
      clear hi hlt
      go_wp2_with fail
      refine (HJ.out _ _ HT6.out HN.out).mono ?_
      rintro e w6 ⟨rfl, m6, hw⟩
      have H6 := hid (show Below w.heap.size w w6 by rw [hw]; exact below_drewN (H5.out.alloc H5.out.size _) m6)
      clear hw
      go_wp2_with fail
      refine (Ex.live_any _).mono ?_
      rintro e w7 ⟨rfl, hb⟩
      have H7 := hid (H6.out.trans (hb.mono H6.out.size)); clear hb
      go_wp2_with fail
      go_ret
      exact ⟨rfl, H7.out⟩
theorem ExcellAll_walk (v : Value) (d : Int) (w : World) (h : KeyV w v) (_ : (Lit.int .i64 d).wf = true) :
    Calls Try.prog 6 #[v, .int .i64 d] w fun e w' => e = .returned (.bool true) ∧ Below w.heap.size w w' := by
  obtain ⟨p, k, c, rfl, hp, hl⟩ := h
  by_cases h1 : mayN k.length = false ∨ d < 0 ∨ 8 < d
  · exact all_out p k.length c d w h1
  · obtain ⟨D, rfl⟩ : ∃ D : Nat, d = (D : Int) := ⟨d.toNat, by omega⟩
    have hm : mayN k.length = true := by
      cases e : mayN k.length with
      | true => rfl
      | false => exact absurd (.inl e) h1
    exact all_go p k c k.length D w hp rfl (by unfold mayN at hm; simp at hm; omega) (by omega)
end Go.Proofs.Ytebfgjhpbkdmpaa
