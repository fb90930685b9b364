/- Remove of a scale; Sizes. -/
import Derived.Test.YtmhjoeegghnlhaaScPut
namespace Go.Proofs.Ytmhjoeegghnlhaa.Sc
open Go.RowKit
open Go.Lib (hid)
open Go.Proofs.Ytmhjoeegghnlhaa.Ky Go.Proofs.Ytmhjoeegghnlhaa.Bk

/-- is there such a bound? -/
def remB (bs : List (List Nat)) (a i : Int) : Bool := hasC bs.length a && (decide (0 ≤ i) && decide (i < ((bs.getD a.toNat []).length : Int)))
def remS (bs : List (List Nat)) (a i : Int) : List (List Nat) := if remB bs a i = true then bs.set a.toNat ((bs.getD a.toNat []).eraseIdx i.toNat) else bs
set_option maxRecDepth 100000 in
set_option maxHeartbeats 4000000 in
theorem remove_ok (N b R : Nat) (vs : List Value) (bs : List (List Nat)) (a i : Int) (w : World) (h : Sc N w b R vs bs) :
    Calls Try.prog 17 #[.pointer (some ⟨b, 0, none⟩), .int .i64 a, .int .i64 i] w (InsR N w b R vs (remS bs a i) (.int .i64 (err (remB bs a i)))) := by
  have HH := hid (has_any (some ⟨b, 0, none⟩) bs.length a w (coords_ok w h.cell.1))
  have H := hid h
  cases hh : hasC bs.length a with
  | false =>
    have hB : remB bs a i = false := by unfold remB; rw [hh]; rfl
    rw [show remS bs a i = bs by unfold remS; rw [hB]; rfl, hB, err_false false rfl]
    rw [hh] at HH
    clear h hh hB
    go_enter Try.func17, Try.ntmps17
    go_wp2_with fail
    refine HH.out.mono ?_
    rintro e w' ⟨rfl, rfl⟩
    go_wp2_with fail
    go_ret
    exact .none H.out (Below.refl _ _)
  | true =>
    rw [hh] at HH
    obtain ⟨A, rfl, hA⟩ := hasC_iff.1 hh
    obtain ⟨l, hl⟩ : ∃ l, bs[A]? = some l := ⟨_, List.getElem?_eq_getElem hA⟩
    have hg : bs.getD (A : Int).toNat [] = l := by rw [Int.toNat_natCast, List.getD_eq_getElem?_getD, hl]; rfl
    obtain ⟨v, p, c, hv, hvp, hcl, hfr, hpt, hown, hlc⟩ := h.at hl
    have hc := h.cell.1
    have z1 : (0 : Int) ≤ (A : Int) := by omega
    have z2 : (A : Int) < (bs.length : Int) := by omega
    by_cases h0 : i < 0
    · have hB : remB bs (A : Int) i = false := by unfold remB; rw [decide_eq_false (by omega)]; simp
      rw [show remS bs (A : Int) i = bs by unfold remS; rw [hB]; rfl, hB, err_false false rfl]
      have d0 : decide (i < 0) = true := by simpa using h0
      clear h hh hB h0 hl hg hv hvp hcl hfr hpt hown hlc hc hA
      go_enter Try.func17, Try.ntmps17
      go_wp2_with fail
      refine HH.out.mono ?_
      rintro e w' ⟨rfl, rfl⟩
      go_wp2_with fail
      go_ret
      exact .none H.out (Below.refl _ _)
    · have d0 : decide (i < 0) = false := by simpa using h0
      obtain ⟨r, rfl⟩ : ∃ r : Nat, i = (r : Int) := ⟨i.toNat, by omega⟩
      by_cases h1 : r < l.length
      · have hB : remB bs (A : Int) (r : Int) = true := by unfold remB; rw [hh, hg, decide_eq_true (by omega), decide_eq_true (by omega)]; rfl
        rw [show remS bs (A : Int) (r : Int) = bs.set A (l.eraseIdx r) by unfold remS; rw [hB, hg]; rfl, hB, err_true true rfl]
        have d1 : decide ((l.length : Int) ≤ (r : Int)) = false := by simp; omega
        have d1' : decide (l.length ≤ r) = false := by simp; omega
        have hf := h.fit l (List.mem_of_getElem? hl)
        have s1 : IntKind.i64.wrap ((r : Int) + 1) = ((r + 1 : Nat) : Int) := Go.IntWalk.i64_in _ (by omega)
        obtain ⟨r1, hr1⟩ : ∃ r1, r + 1 = r1 := ⟨_, rfl⟩
        rw [hr1] at s1
        have HOW := hid hown
        have HVP := hid hvp
        have HX := hid (And.intro hv (And.intro hl (And.intro hf h1)))
        have hbl := h.ltb; have hRl := h.ltR
        have HDE := del_ok w.drew N l.length r r1 v (kl l) hown (kl_one l) hr1.symm h1 (by omega)
        rw [hvp] at HDE
        unfold DelPost at HDE
        rw [delL_kl] at HDE
        have HDE := hid HDE
        have HS7 := hid (show ∀ w7 : World, w.drew.grownBy w7 (Value.slice p l.length c).ownBlock → w7.cell? ⟨b, 0, none⟩ = some (.slice (some ⟨R, 0, none⟩) bs.length bs.length) ∧ w7.cell? ⟨R, A, none⟩ = some (.slice p l.length c) ∧ w7.frozen? ⟨R, A, none⟩ = false from fun w7 hg => by
          have hnb := H.out.nb v (List.mem_of_getElem? hv)
          rw [hvp] at hnb
          have eb : w7.heap[b]? = _ := (hg.block b hbl (fun e => hnb.1 e.symm)).trans H.out.head
          have eR : w7.heap[R]? = _ := (hg.block R hRl (fun e => hnb.2 e.symm)).trans H.out.row
          refine ⟨by rw [cell_of_row _ _ _ _ _ _ eb]; rfl, ?_, frozen_of_row _ _ _ _ _ eR⟩
          rw [cell_of_row _ _ _ _ _ _ eR, List.getElem?_toArray, hv, hvp])
        clear h hh hB h0 hl hg hv hvp hpt hown hf hbl hRl hr1
        go_enter Try.func17, Try.ntmps17
        go_wp2_with fail
        refine HH.out.mono ?_
        rintro e w' ⟨rfl, rfl⟩
        go_wp2_with fail
        go_region_law (go_simp; go_at_call 43; refine HDE.out.mono ?_; rintro e w7 ⟨v', rfl, ho, hg, hv⟩; obtain ⟨pp, mm, cc, hvv⟩ := row_slice ho; subst hvv; have HO7 := hid ho; have HG7 := hid hg; have HV7 := hid hv; obtain ⟨m0, m1, f7⟩ := HS7.out w7 hg; clear ho hg hv)
        all_goals
          have HP := hid (H.out.put (W := w.drew) (Below.refl _ _).drew HG7.out (by rw [HX.out.1, HVP.out]) HX.out.2.1 (l' := l.eraseIdx r) (by rw [List.length_eraseIdx, if_pos HX.out.2.2.2]; exact HO7.out) (.inl HV7.out) ⟨fun x hx => HX.out.2.2.1.1 x (List.mem_of_mem_eraseIdx hx), by rw [List.length_eraseIdx, if_pos HX.out.2.2.2]; have := HX.out.2.2.1.2; omega⟩)
          clear hc hcl m0 m1 f7 HO7 HG7 HV7 HS7 HDE
          go_wp2_with fail
          go_ret
          exact ⟨rfl, _, HP.out.1, HP.out.2.1, HP.out.2.2⟩
      · have hB : remB bs (A : Int) (r : Int) = false := by unfold remB; rw [hg]; simp; omega
        rw [show remS bs (A : Int) (r : Int) = bs by unfold remS; rw [hB]; rfl, hB, err_false false rfl]
        have d1 : decide ((l.length : Int) ≤ (r : Int)) = true := by simp; omega
        have d1' : decide (l.length ≤ r) = true := by simp; omega
        clear h hh hB h0 hl hg hv hvp hfr hpt hown hlc hA h1
        go_enter Try.func17, Try.ntmps17
        go_wp2_with fail
        refine HH.out.mono ?_
        rintro e w' ⟨rfl, rfl⟩
        go_wp2_with fail
        go_ret
        exact .none H.out (Below.refl _ _)
end Go.Proofs.Ytmhjoeegghnlhaa.Sc
