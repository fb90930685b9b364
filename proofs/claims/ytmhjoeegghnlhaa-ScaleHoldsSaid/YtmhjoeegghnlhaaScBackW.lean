/- ScaleBack walked. -/
import Derived.Test.YtmhjoeegghnlhaaScGro
namespace Go.Proofs.Ytmhjoeegghnlhaa
open Go.RowKit
open Go.Lib (hid)
open Go.ChangeShapes Go.WideShapes Go.Joins
open Go.Proofs.Ytmhjoeegghnlhaa.Ky Go.Proofs.Ytmhjoeegghnlhaa.Bk Go.Proofs.Ytmhjoeegghnlhaa.Sc

theorem ci_at {V : World} {g : Nat} {l : List Nat} (h : V.heap[g]? = some (.cells (ci l).toArray 3 (0, 0))) (j : Nat) (hj : j < l.length) : V.cell? ⟨g, j, none⟩ = some (.int .i64 (l[j] : Int)) := by
  rw [cell_of_row _ _ _ _ _ _ h]
  simp [ci, hj]
theorem sizeL_at (bs : List (List Nat)) (A : Nat) (h : A < bs.length) (h' : A < (sizeL bs).length) : (sizeL bs)[A] = (bs.getD A []).length + 1 := by
  have e : (sizeL bs)[A]? = some ((bs.getD A []).length + 1) := by simp [sizeL, h, List.getD_eq_getElem?_getD]
  rw [List.getElem?_eq_getElem h'] at e
  injection e
set_option maxRecDepth 100000 in
theorem ScaleBack_open0 {H : Type} {enc : TypeId × Value → H} {W : World} {base : Nat} {v : Value} {d : DataW H} {p : List MemPlace} (hv : Value.okWide Try.prog W .any base 63 v) (h : DataW.Trod enc Try.prog W 0 (fun _ => true) true 63 v d p) : BackV W v := open_Back hv h
set_option maxRecDepth 100000 in
set_option maxHeartbeats 8000000 in
theorem ScaleBack_walk (vo : Value) (w : World) (ho : BackV w vo) :
    Calls Try.prog 7 #[vo] w fun e w' => e = .returned (.bool true) ∧ Below w.heap.size w w' := by
  obtain ⟨⟨d, p, n, c, a, t⟩, rfl, ho⟩ := ho
  change Calls _ _ #[.agg #[.int .i64 d, .slice p n c, .int .i64 a, .int .u32 (t : Int)]] w _
  have hs : IsOps w p n := ho.f1
  have ht : t < 4294967296 := ho.f3
  clear ho
  obtain ⟨V, hV⟩ : ∃ V, w.alloc (.cells #[.int .i64 d, .slice p n c, .int .i64 a, .int .u32 (t : Int)] 63 (0, 0)) = V := ⟨_, rfl⟩
  have HB := hid (show Below w.heap.size w V by rw [← hV]; exact below_alloc w _)
  have hA : V.heap[w.heap.size]? = some (.cells #[.int .i64 d, .slice p n c, .int .i64 a, .int .u32 (t : Int)] 63 (0, 0)) := by rw [← hV]; exact heap_alloc_new w _
  have y0 : V.cell? ⟨w.heap.size, 0, none⟩ = some (.int .i64 d) := by rw [cell_of_row _ _ _ _ _ _ hA]; rfl
  have y1 : V.cell? ⟨w.heap.size, 1, none⟩ = some (.slice p n c) := by rw [cell_of_row _ _ _ _ _ _ hA]; rfl
  have y2 : V.cell? ⟨w.heap.size, 2, none⟩ = some (.int .i64 a) := by rw [cell_of_row _ _ _ _ _ _ hA]; rfl
  have y3 : V.cell? ⟨w.heap.size, 3, none⟩ = some (.int .u32 (t : Int)) := by rw [cell_of_row _ _ _ _ _ _ hA]; rfl
  have HS := hid fun (X : World) (hb : Below w.heap.size w X) => hs.below hb
  clear hA hs
  by_cases hd : d < 1 ∨ 6 < d
  · have HG := hid fun (X : World) (hX : Below w.heap.size w X) => grown_no d p n c X hd (HS.out _ hX)
    by_cases h1 : d < 1
    · have e1 : decide (d < 1) = true := by simpa using h1
      clear hd h1
      go_enter Try.func7, Try.ntmps7
      go_wp2_with fail
      go_quiet (fail)
      have HD := hid (below_drewN HB.out nq)
      generalize V.drewN nq = VV at HD ⊢
      go_wp2_with fail
      refine (HG.out _ HD.out).mono ?_
      rintro e w1 ⟨rfl, hb⟩
      have H1 := hid (HD.out.trans (hb.mono HD.out.size)); clear hb
      go_wp2_with fail
      refine (live_any _).mono ?_
      rintro e w2 ⟨rfl, hb⟩
      have H2 := hid (H1.out.trans (hb.mono H1.out.size)); clear hb
      go_wp2_with fail
      go_ret
      exact ⟨rfl, H2.out⟩
    · have e1 : decide (d < 1) = false := by simpa using h1
      have e2 : decide (6 < d) = true := by simp; omega
      clear hd h1
      go_enter Try.func7, Try.ntmps7
      go_wp2_with fail
      go_quiet (fail)
      have HD := hid (below_drewN HB.out nq)
      generalize V.drewN nq = VV at HD ⊢
      go_wp2_with fail
      refine (HG.out _ HD.out).mono ?_
      rintro e w1 ⟨rfl, hb⟩
      have H1 := hid (HD.out.trans (hb.mono HD.out.size)); clear hb
      go_wp2_with fail
      refine (live_any _).mono ?_
      rintro e w2 ⟨rfl, hb⟩
      have H2 := hid (H1.out.trans (hb.mono H1.out.size)); clear hb
      go_wp2_with fail
      go_ret
      exact ⟨rfl, H2.out⟩
  · obtain ⟨D, rfl⟩ : ∃ D : Nat, d = (D : Int) := ⟨d.toNat, by omega⟩
    have HG := hid fun (X : World) (hX : Below w.heap.size w X) => grown_yes D p n c X (by omega) (HS.out _ hX)
    clear hd
    go_enter Try.func7, Try.ntmps7
    go_wp2_with fail
    go_quiet (fail)
    have HD := hid (below_drewN HB.out nq)
    generalize V.drewN nq = VV at HD ⊢
    have HRw := hid HD.out.size
    go_wp2_with fail
    refine (HG.out _ HD.out).mono ?_
    rintro e w1 ⟨rfl, vs, bs, hsc, hu, hl, hb⟩
    subst hl
    have HSC := hid hsc
    have HU := hid hu
    have HB1 := hid hb.size
    have H1 := hid (HD.out.trans (hb.mono HD.out.size))
    clear hsc hu hb y0 y1 y2 y3 HS HG HD
    generalize VV.heap.size + 1 = b at *
    generalize VV.heap.size = R at *
    go_wp2_with fail
    refine (encode_ok _ b R vs bs w1 HSC.out).mono ?_
    rintro e w2 ⟨rfl, hb⟩
    have HSC2 := hid (HSC.out.next hb)
    have H2 := hid (H1.out.trans (hb.mono H1.out.size))
    have HN2 := hid (Nat.le_trans HB1.out hb.size)
    clear hb HSC H1 HB1
    have HI := hid (insS a t HSC2.out HU.out HN2.out ht)
    by_cases h0 : insE bs a t = 0
    · obtain ⟨A, rfl, hA, _, hlen⟩ := sizes_ins h0
      obtain ⟨hr1, hr2, _, hv⟩ := ins_rem h0
      rw [Int.toNat_natCast] at hv
      rw [h0, hv] at HI
      rw [hv] at hr1 hr2
      have HRM := hid (And.intro hr2 (show err (remB (insB bs (A : Int) t) A _) = 0 by rw [hr1]; rfl))
      have HZL := hid (insB_len bs (A : Int) t)
      have HUI := hid (upS_ins (a := (A : Int)) (t := t) HU.out)
      have hs1 : (sizeL (insB bs (A : Int) t)).length = bs.length := by unfold sizeL; simp [insB_len]
      have hs2 : (sizeL bs).length = bs.length := by unfold sizeL; simp
      have HX1 := hid (show A < (sizeL (insB bs (A : Int) t)).length by omega)
      have HX2 := hid (show A < (sizeL bs).length by omega)
      have HE := hid (show (sizeL (insB bs (A : Int) t))[A]'HX1.out = (bs.getD A []).length + 1 + 1 ∧ (sizeL bs)[A]'HX2.out = (bs.getD A []).length + 1 from ⟨by rw [sizeL_at _ _ (by rw [insB_len]; exact hA), hlen], sizeL_at _ _ hA _⟩)
      have HLE := hid (show (bs.getD A []).length ≤ 63 by
        have : bs.getD A [] ∈ bs := by rw [List.getD_eq_getElem?_getD, List.getElem?_eq_getElem hA]; exact List.getElem_mem hA
        exact (HU.out _ this).2.2)
      clear h0 hlen hr1 hr2 hv hs1 hs2
      generalize posU (bs.getD A []) t = v at *
      generalize insB bs (A : Int) t = bs1 at *
      generalize (bs.getD A []).length = s at *
      go_wp2_with fail
      refine HI.out.mono ?_
      rintro e w3 ⟨rfl, ⟨vs3, hs3⟩, hb⟩
      have HSC3 := hid hs3
      have HN3 := hid (Nat.le_trans HN2.out hb.size)
      have H3 := hid (H2.out.trans (hb.mono HRw.out))
      clear hs3 hb HSC2 H2 HI HN2
      have HZ := hid (sizes_ok _ b R vs3 bs1 w3 HSC3.out)
      rw [HZL.out] at HZ
      go_wp2_with fail
      refine HZ.out.mono ?_
      rintro e w4 ⟨g1, rfl, hg, hgs, hb⟩
      have HG1 := hid hg
      have HGS := hid hgs
      have HSC4 := hid (HSC3.out.next hb)
      have HN4 := hid (Nat.le_trans HN3.out hb.size)
      have H4 := hid (H3.out.trans (hb.mono H3.out.size))
      clear hg hgs hb H3 HZ HN3
      go_wp2_with fail
      refine (remL (A : Int) (v : Int) 0 HSC4.out HN4.out HRM.out).mono ?_
      rintro e w5 ⟨rfl, ⟨vs5, hs5, _⟩, ho, hb⟩
      have HSC5 := hid hs5
      have HG5 := hid ((ho.block g1 (lt_of HG1.out) (fun hf => by have := HSC3.out.lt g1 hf; have := HGS.out; omega)).trans HG1.out)
      have H5 := hid (H4.out.trans (hb.mono HRw.out))
      clear hs5 ho hb H4 HSC3 HSC4 HG1 HGS HN4
      go_wp2_with fail
      refine (sizes_ok _ b R vs5 bs w5 HSC5.out).mono ?_
      rintro e w6 ⟨g2, rfl, hg, hgs, hb⟩
      have HSC6 := hid (HSC5.out.next hb)
      have HG6 := hid ((hb.block g1 (lt_of HG5.out)).trans HG5.out)
      have HH6 := hid hg
      have H6 := hid (H5.out.trans (hb.mono H5.out.size))
      clear hg hgs hb HSC5 HG5 H5
      have HST := hid (show ∀ X : World, Below w6.heap.size w6 X → X.cell? ⟨g1, A, none⟩ = some (.int .i64 ((s + 1 + 1 : Nat) : Int)) ∧ X.cell? ⟨g2, A, none⟩ = some (.int .i64 ((s + 1 : Nat) : Int)) from fun X hX => by
        refine ⟨?_, ?_⟩
        · rw [ci_at ((hX.block _ (lt_of HG6.out)).trans HG6.out) A HX1.out, HE.out.1]
        · rw [ci_at ((hX.block _ (lt_of HH6.out)).trans HH6.out) A HX2.out, HE.out.2])
      have HSX := hid (show s + 1 ≤ 64 by have := HLE.out; omega)
      clear HG6 HH6 HE
      have hAn := hA
      generalize bs.length = m at *
      have f1 : decide ((A : Int) < 0) = false := by simp
      have f2 : decide ((m : Int) ≤ (A : Int)) = false := by simp; omega
      have f2' : decide (m ≤ A) = false := by simp; omega
      generalize s + 1 = s1 at *
      have z0 : (0 : Int) ≤ (A : Int) := by omega
      have z1 : (A : Int) < (m : Int) := by omega
      have z2 : IntKind.i64.wrap ((s1 : Int) + 1) = ((s1 + 1 : Nat) : Int) := by have := HSX.out; rw [IntKind.wrap_i64]; omega
      have q0 := HST.out _ (Below.refl _ _)
      generalize s1 + 1 = s2 at *
      go_wp2_with fail
      go_region_held3 (fun w' => w'.cell? ⟨g1, A, none⟩ = some (.int .i64 (s2 : Int)) ∧ w'.cell? ⟨g2, A, none⟩ = some (.int .i64 (s1 : Int))) (first | exact q0 | exact q1 | exact q2 | go_keep)
        (first
          | (go_at_call 27; refine (encode_ok _ b R vs5 bs _ (HSC6.out.next (Below.refl _ _).drew)).mono ?_; rintro e w7 ⟨rfl, hb⟩; have H7 := hid (show Below w6.heap.size w6 w7 from (Below.refl _ w6).drew.trans hb); have q1 := HST.out _ H7.out; clear hb)
          | (go_at_call 12; refine (live_any _).mono ?_; rintro e w8 ⟨rfl, hb⟩; have H8 := hid (H7.out.trans (hb.mono H7.out.size)); have q2 := HST.out _ H8.out; clear hb)
          | fail)
      go_wp2_with fail
      go_ret
      exact ⟨rfl, H6.out.trans (H8.out.mono H6.out.size)⟩
    · have hbs : insB bs a t = bs := by unfold insB; rw [if_neg h0]
      rw [hbs] at HI
      have e1 : (insE bs a t != 0) = true := by simpa using h0
      generalize insE bs a t = E at *
      generalize insV bs a t = v at *
      clear h0 hbs
      go_wp2_with fail
      refine HI.out.mono ?_
      rintro e w3 ⟨rfl, ⟨vs3, hs3⟩, hb⟩
      have HSC3 := hid hs3
      have H3 := hid (H2.out.trans (hb.mono HRw.out))
      clear hs3 hb HSC2 H2 HI HN2
      go_wp2_with fail
      refine (encode_ok _ b R vs3 bs w3 HSC3.out).mono ?_
      rintro e w4 ⟨rfl, hb⟩
      have H4 := hid (H3.out.trans (hb.mono H3.out.size))
      clear hb H3
      go_wp2_with fail
      refine (live_any _).mono ?_
      rintro e w5 ⟨rfl, hb⟩
      have H5 := hid (H4.out.trans (hb.mono H4.out.size)); clear hb
      go_wp2_with fail
      go_ret
      exact ⟨rfl, H5.out⟩
end Go.Proofs.Ytmhjoeegghnlhaa
