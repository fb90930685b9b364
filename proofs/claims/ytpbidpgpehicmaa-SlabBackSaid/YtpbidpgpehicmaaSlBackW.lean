/- SlabBack walked. -/
import Derived.Test.YtpbidpgpehicmaaSlLive2
import Derived.Test.YtpbidpgpehicmaaSlBackM
import Derived.Test.YtpbidpgpehicmaaSlFlM
namespace Go.Proofs.Ytpbidpgpehicmaa.Sl
open Go.RowKit Go.Shelf
open Go.Lib (hid)

theorem ints_sameB (l : List Int) (p q : Option Addr) (c c' : Nat) (w : World) (hp : CellsAt w p (iv l)) (hq : CellsAt w q (iv l)) (hl : l.length ≤ 1000000) :
    Calls Try.prog 24 #[.slice p l.length c, .slice q l.length c'] w fun e w' => e = .returned (.bool true) ∧ Below w.heap.size w w' := by
  have h := ints_ok l l p q c c' w hp hq hl
  rw [decide_eq_true (rfl : l = l)] at h
  exact h.mono fun e w' ⟨h1, n, h2⟩ => ⟨h1, by rw [h2]; exact below_drewN (Below.refl _ _) n⟩
theorem growU_off {S : List Nat} {C : List Int} {d i : Int} (h : (growU S C d i).1 ≠ 0) : (growU S C d i).2 = (S, C) := by
  unfold growU at h ⊢
  split at h
  · split at h
    · exact absurd rfl h
    · rename_i h1 h2; rw [if_pos h1, if_neg h2]
  · rename_i h1; rw [if_neg h1]
theorem mul_both (x z : Nat) (h1 : x ≤ 4096) (h2 : z ≤ 5000) : wrap64 ((x : Int) * (z : Int)) = ((x * z : Nat) : Int) ∧ IntKind.i64.wrap ((x : Int) * (z : Int)) = ((x * z : Nat) : Int) := by
  have h := Nat.mul_le_mul h1 h2
  rw [← Int.natCast_mul]
  generalize x * z = y at *
  exact ⟨Go.IntWalk.wrap64_in _ (by omega), Go.IntWalk.i64_in _ (by omega)⟩
theorem one_both (z : Nat) (h : z ≤ 4096) : wrap64 ((z : Int) + 1) = ((z + 1 : Nat) : Int) ∧ IntKind.i64.wrap ((z : Int) + 1) = ((z + 1 : Nat) : Int) := ⟨Go.IntWalk.wrap64_in _ (by omega), Go.IntWalk.i64_in _ (by omega)⟩
end Go.Proofs.Ytpbidpgpehicmaa.Sl
namespace Go.Proofs.Ytpbidpgpehicmaa
open Go.RowKit Go.Shelf
open Go.Lib (hid)
open Go.ChangeShapes Go.WideShapes Go.Joins
open Go.Proofs.Ytpbidpgpehicmaa.Sl
set_option maxRecDepth 100000 in
theorem SlabBack_open0 {H : Type} {enc : TypeId × Value → H} {W : World} {base : Nat} {v : Value} {d : DataW H} {p : List MemPlace} (hv : Value.okWide Try.prog W .any base 49 v) (h : DataW.Trod enc Try.prog W 0 (fun _ => true) true 49 v d p) : BackV W v := open_Back hv h
set_option maxRecDepth 100000 in
set_option maxHeartbeats 8000000 in
theorem SlabBack_walk (vo : Value) (w : World) (ho : BackV w vo) :
    Calls Try.prog 6 #[vo] w fun e w' => e = .returned (.bool true) ∧ Below w.heap.size w w' := by
  obtain ⟨⟨D, p, n, c, a, t⟩, rfl, ho⟩ := ho
  change Calls _ _ #[.agg #[.int .i64 D, .slice p n c, .int .i64 a, .int .i64 t]] w _
  have hs : IsOps w p n := ho.f1
  clear ho
  obtain ⟨V, hV⟩ : ∃ V, w.alloc (.cells #[.int .i64 D, .slice p n c, .int .i64 a, .int .i64 t] 49 (0, 0)) = V := ⟨_, rfl⟩
  have HB := hid (show Below w.heap.size w V by rw [← hV]; exact below_alloc w _)
  have hA : V.heap[w.heap.size]? = some (.cells #[.int .i64 D, .slice p n c, .int .i64 a, .int .i64 t] 49 (0, 0)) := by rw [← hV]; exact heap_alloc_new w _
  have y0 : V.cell? ⟨w.heap.size, 0, none⟩ = some (.int .i64 D) := by rw [cell_of_row _ _ _ _ _ _ hA]; rfl
  have y1 : V.cell? ⟨w.heap.size, 1, none⟩ = some (.slice p n c) := by rw [cell_of_row _ _ _ _ _ _ hA]; rfl
  have y2 : V.cell? ⟨w.heap.size, 2, none⟩ = some (.int .i64 a) := by rw [cell_of_row _ _ _ _ _ _ hA]; rfl
  have y3 : V.cell? ⟨w.heap.size, 3, none⟩ = some (.int .i64 t) := by rw [cell_of_row _ _ _ _ _ _ hA]; rfl
  have HS := hid fun (X : World) (hb : Below w.heap.size w X) => hs.below hb
  clear hA hs
  by_cases hd : 1 ≤ D ∧ D ≤ 6
  · have HG := hid fun (X : World) (hX : Below w.heap.size w X) => grown_yes D p n c X hd (HS.out _ hX)
    clear hd
    go_enter Try.func6, Try.ntmps6
    go_wp2_with fail
    go_quiet (fail)
    have HD := hid (below_drewN HB.out nq)
    generalize V.drewN nq = VV at HD ⊢
    go_wp2_with fail
    refine (HG.out _ HD.out).mono ?_
    rintro e w1 ⟨b, rfl, S, C, hl, -, hb⟩
    have HX1 := hid hl
    have HF := hid hl.fit
    have H1 := hid (HD.out.trans (hb.mono HD.out.size))
    have HK0 := hid HD.out.size
    clear hl hb y0 y1 y2 y3 HS HG HD hV HB
    go_wp2_with fail
    refine (lv_sizesK HX1.out).mono ?_
    rintro e w2 ⟨p8, c8, rfl, K2, hk, hl, hc, hb⟩
    have HX2 := hid hl
    have HC2 := hid hc
    have HKA := hid hk
    have H2 := hid (H1.out.trans (hb.mono H1.out.size))
    clear hk hl hc hb H1 HX1
    go_wp2_with fail
    refine (lv_cellsK HX2.out).mono ?_
    rintro e w3 ⟨p9, c9, rfl, K, hk, hl, hc, hb⟩
    have HX3 := hid hl
    have HS3 := hid ((HC2.out.below hb).mono (D' := fun j => ¬ K j) fun j _ hn hlt => hn (hk j hlt))
    have HC3 := hid hc
    have HK := hid (show ∀ j, j < w.heap.size → K j from fun j hj => hk j (HKA.out j (Nat.lt_of_lt_of_le hj HK0.out)))
    have H3 := hid (H2.out.trans (hb.mono H2.out.size))
    clear hk hl hc hb H2 HX2 HC2 HKA HK0
    have HGR := hid (lv_grow HX3.out a t)
    by_cases h0 : (growU S C a t).1 = 0
    · obtain ⟨A, I, rfl, rfl, hA, hI, hg, hsh, hmul, hmost⟩ := back_ok HF.out a t h0
      rw [hg] at HGR
      have hl2 : (S.set A (S.getD A 1 + 1)).length = S.length := List.length_set
      have hat : (S.set A (S.getD A 1 + 1))[A]? = some (S.getD A 1 + 1) := by rw [List.getElem?_set_self hA]
      have hat1 : S[A]? = some (S.getD A 1) := by rw [List.getD_eq_getElem?_getD, List.getElem?_eq_getElem hA]; rfl
      have hz := sz_most S C HF.out A hA
      have HSH := hid hsh
      clear hsh hg h0 hI
      generalize S.set A (S.getD A 1 + 1) = S2 at *
      generalize growC S C A I = C2 at *
      generalize S.getD A 1 = z at *
      have hcl : C.length ≤ 4096 := by rw [HF.out.len]; exact HF.out.most
      go_wp2_with fail
      refine HGR.out.mono ?_
      rintro e w4 ⟨rfl, hl, hon⟩
      have HX4 := hid (show Lv K w4 b S2 C2 from hl)
      have HS4 := hid (HS3.out.on hon)
      have HC4 := hid (HC3.out.on hon)
      have H4 := hid (H3.out.trans (hon.below H3.out.size HK.out))
      clear hl hon H3 HX3 HS3 HC3 HGR
      go_wp2_with fail
      refine (lv_sizes HX4.out).mono ?_
      rintro e w5 ⟨p10, c10, rfl, hc, hb⟩
      rw [hl2]
      have HX5 := hid (HX4.out.next hb)
      have HS5 := hid (HS4.out.below hb)
      have HC5 := hid (HC4.out.below hb)
      have H5 := hid (H4.out.trans (hb.mono H4.out.size))
      have hA2 : A < S2.length := by omega
      obtain ⟨b1, o1, rfl, lt1, r1⟩ := hc A (by rw [iv_length, zs_len]; exact hA2)
      obtain ⟨b2, o2, rfl, lt2, r2⟩ := HS5.out.cells A (by rw [iv_length, zs_len]; exact hA)
      have hv1 : S2[A] = z + 1 := by rw [List.getElem?_eq_getElem hA2] at hat; injection hat
      have hv2 : S[A] = z := by rw [List.getElem?_eq_getElem hA] at hat1; injection hat1
      have d1 : w5.cell? ⟨b1, o1 + A, none⟩ = some (.int .i64 ((z + 1 : Nat) : Int)) := by have := r1; simp [iv, zs, hv1] at this; exact this
      have d2 : w5.cell? ⟨b2, o2 + A, none⟩ = some (.int .i64 (z : Int)) := by have := r2; simp [iv, zs, hv2] at this; exact this
      have HST := hid (show ∀ X : World, Below w5.heap.size w5 X → X.cell? ⟨b1, o1 + A, none⟩ = some (.int .i64 ((z + 1 : Nat) : Int)) ∧ X.cell? ⟨b2, o2 + A, none⟩ = some (.int .i64 (z : Int)) from fun X hX => ⟨(hX.cell (p := ⟨b1, o1 + A, none⟩) lt1).trans d1, (hX.cell (p := ⟨b2, o2 + A, none⟩) lt2).trans d2⟩)
      have q0 := HST.out _ (Below.refl _ _)
      have f1 : decide ((A : Int) < 0) = false := by simp
      have f2 : decide ((S.length : Int) ≤ (A : Int)) = false := decide_eq_false (by omega)
      have f2' : decide (S.length ≤ A) = false := decide_eq_false (by omega)
      have z0 : (0 : Int) ≤ (A : Int) := by omega
      have z1 : (A : Int) < (S.length : Int) := by omega
      obtain ⟨z2, k2⟩ := one_both z hz.2
      obtain ⟨z3, k3⟩ := mul_both C2.length z hmost (Nat.le_trans hz.2 (by decide))
      obtain ⟨z4, k4⟩ := mul_both C.length (z + 1) hcl (Nat.le_trans (Nat.succ_le_succ hz.2) (by decide))
      rw [hmul] at z3 k3
      obtain ⟨P, hP⟩ : ∃ P, C.length * (z + 1) = P := ⟨_, rfl⟩
      rw [hP] at z3 k3 z4 k4
      have HCL := hid hcl
      clear hc lt1 lt2 r1 r2 d1 d2 HX4 HS4 HC4 H4 hat hat1 hv1 hv2 hP hmul hmost hz hA hA2 hcl hl2
      generalize z + 1 = z' at *
      go_wp2_with fail
      go_region_held3 (fun w' => w'.cell? ⟨b1, o1 + A, none⟩ = some (.int .i64 (z' : Int)) ∧ w'.cell? ⟨b2, o2 + A, none⟩ = some (.int .i64 (z : Int))) (first | exact q0 | exact q1 | go_keep)
        (first
          | (go_at_call 26; refine (lv_cells (HX5.out.next (Below.refl _ _).drew)).mono ?_; rintro e w7 ⟨p7, c7, rfl, -, hb, -⟩; have H7 := hid (show Below w5.heap.size w5 w7 from (Below.refl _ w5).drew.trans hb); have q1 := HST.out _ H7.out; clear hb)
          | fail)
      go_wp2_with fail
      have HX7 := hid (HX5.out.next H7.out)
      have HS7 := hid (HS5.out.below H7.out)
      have HC7 := hid (HC5.out.below H7.out)
      have H7w := hid (H5.out.trans (H7.out.mono H5.out.size))
      have HSK := hid (lv_shrink HX7.out (A : Int) (I : Int))
      rw [HSH.out] at HSK
      clear q0 q1 H7 HX5 HS5 HC5 H5 HST z2 z3 z4 k2 k3 k4 f1 f2 f2' z0 z1
      refine HSK.out.mono ?_
      rintro e w8 ⟨rfl, hl, hon⟩
      have HX8 := hid (show Lv K w8 b S C from hl)
      have HS8 := hid (HS7.out.on hon).cells
      have HC8 := hid (HC7.out.on hon).cells
      have H8 := hid (H7w.out.trans (hon.below H7w.out.size HK.out))
      clear hl hon HX7 HS7 HC7 H7w HSK HSH
      go_wp2_with fail
      refine (lv_sizes HX8.out).mono ?_
      rintro e w9 ⟨p11, c11, rfl, hc, hb⟩
      have HX9 := hid (HX8.out.next hb)
      have HS9 := hid (And.intro hc (HS8.out.below hb))
      have HC9 := hid (HC8.out.below hb)
      have H9 := hid (H8.out.trans (hb.mono H8.out.size))
      clear hc hb HX8 HS8 HC8 H8
      have HI := hid (ints_sameB (zs S) p11 (some ⟨b2, o2, none⟩) c11 c8 w9 HS9.out.1 HS9.out.2 (by rw [zs_len]; have := HF.out.few; omega))
      rw [zs_len] at HI
      go_wp2_with fail
      refine HI.out.mono ?_
      rintro e w10 ⟨rfl, hb⟩
      have HX10 := hid (HX9.out.next hb)
      have HC10 := hid (HC9.out.below hb)
      have H10 := hid (H9.out.trans (hb.mono H9.out.size))
      clear hb HX9 HS9 HC9 H9 HI
      go_wp2_with fail
      refine (lv_cells HX10.out).mono ?_
      rintro e w11 ⟨p12, c12, rfl, hc, hb, -⟩
      have HC11 := hid (And.intro hc (HC10.out.below hb))
      have H11 := hid (H10.out.trans (hb.mono H10.out.size))
      clear hc hb HX10 HC10 H10
      go_wp2_with fail
      refine (ints_sameB C p12 p9 c12 c9 w11 HC11.out.1 HC11.out.2 (Nat.le_trans HCL.out (by decide))).mono ?_
      rintro e w12 ⟨rfl, hb⟩
      have H12 := hid (H11.out.trans (hb.mono H11.out.size))
      clear hb HC11 H11
      go_wp2_with fail
      refine (live_any _).mono ?_
      rintro e w13 ⟨rfl, hb⟩
      have H13 := hid (H12.out.trans (hb.mono H12.out.size))
      clear hb H12
      go_wp2_with fail
      go_ret
      exact ⟨rfl, H13.out⟩
    · have hoff := growU_off h0
      rw [show (growU S C a t).2.1 = S by rw [hoff], show (growU S C a t).2.2 = C by rw [hoff]] at HGR
      have e1 : ((growU S C a t).1 != 0) = true := by simpa using h0
      have HCL := hid (show C.length ≤ 4096 by rw [HF.out.len]; exact HF.out.most)
      generalize (growU S C a t).1 = E at HGR e1
      clear h0 hoff
      go_wp2_with fail
      refine HGR.out.mono ?_
      rintro e w4 ⟨rfl, hl, hon⟩
      have HX4 := hid (show Lv K w4 b S C from hl)
      have HC4 := hid (HC3.out.on hon).cells
      have H4 := hid (H3.out.trans (hon.below H3.out.size HK.out))
      clear hl hon H3 HX3 HS3 HC3 HGR
      go_wp2_with fail
      refine (lv_cells HX4.out).mono ?_
      rintro e w11 ⟨p12, c12, rfl, hc, hb, -⟩
      have HC11 := hid (And.intro hc (HC4.out.below hb))
      have H11 := hid (H4.out.trans (hb.mono H4.out.size))
      clear hc hb HX4 HC4 H4
      go_wp2_with fail
      refine (ints_sameB C p12 p9 c12 c9 w11 HC11.out.1 HC11.out.2 (Nat.le_trans HCL.out (by decide))).mono ?_
      rintro e w12 ⟨rfl, hb⟩
      have H12 := hid (H11.out.trans (hb.mono H11.out.size))
      clear hb HC11 H11
      go_wp2_with fail
      refine (live_any _).mono ?_
      rintro e w13 ⟨rfl, hb⟩
      have H13 := hid (H12.out.trans (hb.mono H12.out.size))
      clear hb H12
      go_wp2_with fail
      go_ret
      exact ⟨rfl, H13.out⟩
  · have HG := hid fun (X : World) (hX : Below w.heap.size w X) => grown_no D p n c X hd (HS.out _ hX)
    by_cases h1 : D < 1
    · have e1 : decide (D < 1) = true := decide_eq_true h1
      clear hd h1
      go_enter Try.func6, Try.ntmps6
      go_wp2_with fail
      go_quiet (fail)
      have HD := hid (below_drewN HB.out nq)
      generalize V.drewN nq = VV at HD ⊢
      go_wp2_with fail
      refine (HG.out _ HD.out).mono ?_
      rintro e w1 ⟨rfl, hb⟩
      have H1 := hid (HD.out.trans (hb.mono HD.out.size)); clear hb
      go_wp2_with fail
      refine (live_any _).mono ?_
      rintro e w2 ⟨rfl, hb⟩
      have H2 := hid (H1.out.trans (hb.mono H1.out.size)); clear hb
      go_wp2_with fail
      go_ret
      exact ⟨rfl, H2.out⟩
    · have e1 : decide (D < 1) = false := decide_eq_false h1
      have e2 : decide (6 < D) = true := decide_eq_true (by omega)
      clear hd h1
      go_enter Try.func6, Try.ntmps6
      go_wp2_with fail
      go_quiet (fail)
      have HD := hid (below_drewN HB.out nq)
      generalize V.drewN nq = VV at HD ⊢
      go_wp2_with fail
      refine (HG.out _ HD.out).mono ?_
      rintro e w1 ⟨rfl, hb⟩
      have H1 := hid (HD.out.trans (hb.mono HD.out.size)); clear hb
      go_wp2_with fail
      refine (live_any _).mono ?_
      rintro e w2 ⟨rfl, hb⟩
      have H2 := hid (H1.out.trans (hb.mono H1.out.size)); clear hb
      go_wp2_with fail
      go_ret
      exact ⟨rfl, H2.out⟩
end Go.Proofs.Ytpbidpgpehicmaa
