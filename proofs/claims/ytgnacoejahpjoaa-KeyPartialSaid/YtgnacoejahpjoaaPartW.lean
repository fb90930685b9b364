/- KeyPartial walked. -/
import Derived.Test.YtgnacoejahpjoaaKyOpen
import Derived.Test.YtgnacoejahpjoaaKyRPart
import Derived.Test.YtgnacoejahpjoaaKyHas
namespace Go.Proofs.Ytgnacoejahpjoaa
open Go.RowKit
open Go.Lib (hid)
open Ky
open Go.ChangeShapes Go.WideShapes

theorem KeyPartial_open0 {H : Type} {enc : TypeId × Value → H} {W : World} {base : Nat} {v : Value} {d : DataW H} {p : List MemPlace} (hv : Value.okWide Try.prog W .any base 42 v) (h : DataW.Trod enc Try.prog W 0 (fun _ => true) true 42 v d p) :
    ∃ g x y z, v = .agg #[.int .i64 g, x, y, z] ∧ IntsV W x ∧ KeyV W y ∧ KeyV W z ∧ (-9223372036854775808 ≤ g ∧ g ≤ 9223372036854775807) := open_some hv h
theorem live_endR (w W : World) (hb : Below W.heap.size W w) : Calls Try.prog 11 #[] w fun e w' => e = .returned (.bool true) ∧ Below W.heap.size W w' :=
  (live_any w).mono fun _ _ h => ⟨h.1, hb.trans (h.2.mono hb.size)⟩
theorem two_atR {V : World} {v0 v1 : Value} {ns : List Nat} (h : ∀ j (hj : j < ns.length), ∃ p c', [v0, v1][j]? = some (.slice p ns[j] c')) :
    ∀ j (hj : j < ns.length), ∃ p c', (V.alloc (.cells #[v0, v1] 23)).cell? ⟨V.heap.size, j, none⟩ = some (.slice p ns[j] c') := fun j hj => by
  obtain ⟨p, c', e⟩ := h j hj
  refine ⟨p, c', ?_⟩
  rw [cell_of_row _ _ _ _ _ _ (heap_alloc_new V _), ← e]
  simp
theorem sameBoxR (a b : List Nat) : sameBoxB a b a b = true := by simp [sameBoxB, sameB]
theorem partLo_len {dim : Int} {at_ : List Int} {k : List Nat} : (partLo dim at_ k).length ≤ 6 := by
  unfold partLo
  split
  · rename_i h
    simp only [partOk, Bool.and_eq_true, decide_eq_true_eq] at h
    rw [puts_length]; unfold lowW; rw [List.length_replicate]; omega
  · simp
theorem partHi_len {dim : Int} {at_ : List Int} {k : List Nat} : (partHi dim at_ k).length ≤ 6 := by
  unfold partHi
  split
  · rename_i h
    simp only [partOk, Bool.and_eq_true, decide_eq_true_eq] at h
    rw [puts_length]; unfold highW; rw [List.length_replicate]; omega
  · simp
theorem wholeLo_len {dim : Int} : (wholeLo dim).length ≤ 6 := by unfold wholeLo lowW; split <;> simp <;> omega
theorem wholeHi_len {dim : Int} : (wholeHi dim).length ≤ 6 := by unfold wholeHi highW; split <;> simp <;> omega
theorem rises_all (dim : Nat) (l : List Int) : ∀ least : Int, 0 ≤ least → rises dim least l = true → ∀ j (hj : j < l.length), 0 ≤ l[j] ∧ l[j] < (dim : Int) := by
  induction l with
  | nil => intro least _ _ j hj; simp at hj
  | cons c l ih =>
    intro least h0 h j hj
    simp only [rises, Bool.and_eq_true, decide_eq_true_eq] at h
    cases j with
    | zero => exact ⟨by show 0 ≤ c; omega, h.2.1⟩
    | succ j => exact ih (c + 1) (by omega) h.2.2 j (by simpa using hj)
theorem part_all {dim : Int} {at_ : List Int} {k : List Nat} (h : partOk dim at_ k = true) : (1 ≤ dim ∧ dim ≤ 6) ∧ at_.length = k.length ∧ (∀ j (hj : j < at_.length), 0 ≤ at_[j] ∧ at_[j] < dim) := by
  simp only [partOk, Bool.and_eq_true, decide_eq_true_eq] at h
  refine ⟨h.1, h.2.1, fun j hj => ?_⟩
  have := rises_all dim.toNat at_ 0 (Int.le_refl _) h.2.2 j hj
  omega
theorem cast_beq (x y : Nat) : ((x : Int) == (y : Int)) = (x == y) := by
  rw [Bool.eq_iff_iff, beq_iff_eq, beq_iff_eq]; omega
theorem low_leR (k : List Nat) : leAll (List.replicate k.length 0) k = true := by
  rw [leAll_iff]; exact ⟨by simp, fun i h h' => by simp⟩
theorem high_geR {k : List Nat} (h : ∀ x ∈ k, x < 4294967296) : leAll k (List.replicate k.length 4294967295) = true := by
  rw [leAll_iff]; exact ⟨by simp, fun i h1 h' => by have := h k[i] (List.getElem_mem h1); simp; omega⟩
set_option maxRecDepth 100000 in
set_option maxHeartbeats 4000000 in
theorem KeyPartial_walk (v : Value) (W : World) (hv : ∃ g x y z, v = .agg #[.int .i64 g, x, y, z] ∧ IntsV W x ∧ KeyV W y ∧ KeyV W z ∧ (-9223372036854775808 ≤ g ∧ g ≤ 9223372036854775807)) :
    Calls Try.prog 5 #[v] W fun e w' => e = .returned (.bool true) ∧ Below W.heap.size W w' := by
  obtain ⟨dim, _, _, _, rfl, ⟨pa, at_, ca, rfl, ia, ma⟩, ⟨pk, k, ck, rfl, kk, mk⟩, ⟨pp, p, cp, rfl, kp, mp⟩, _⟩ := hv
  have HI := hid fun (w' : World) (h : Below W.heap.size W w') => ia.below h
  have HF := hid (And.intro (pt_mem kk) (pt_mem kp))
  have H0 := hid ((((Cx.start W).more kp).more kk).alloc (.cells #[.int .i64 dim, .slice pa at_.length ca, .slice pk k.length ck, .slice pp p.length cp] 42))
  have b0 : (W.alloc (.cells #[.int .i64 dim, .slice pa at_.length ca, .slice pk k.length ck, .slice pp p.length cp] 42)).cell? ⟨W.heap.size, 0, none⟩ = some (.int .i64 dim) := by rw [cell_of_row _ _ _ _ _ _ (heap_alloc_new _ _)]; rfl
  have b1 : (W.alloc (.cells #[.int .i64 dim, .slice pa at_.length ca, .slice pk k.length ck, .slice pp p.length cp] 42)).cell? ⟨W.heap.size, 1, none⟩ = some (.slice pa at_.length ca) := by rw [cell_of_row _ _ _ _ _ _ (heap_alloc_new _ _)]; rfl
  have b2 : (W.alloc (.cells #[.int .i64 dim, .slice pa at_.length ca, .slice pk k.length ck, .slice pp p.length cp] 42)).cell? ⟨W.heap.size, 2, none⟩ = some (.slice pk k.length ck) := by rw [cell_of_row _ _ _ _ _ _ (heap_alloc_new _ _)]; rfl
  have b3 : (W.alloc (.cells #[.int .i64 dim, .slice pa at_.length ca, .slice pk k.length ck, .slice pp p.length cp] 42)).cell? ⟨W.heap.size, 3, none⟩ = some (.slice pp p.length cp) := by rw [cell_of_row _ _ _ _ _ _ (heap_alloc_new _ _)]; rfl
  clear ia kk kp
  go_enter Try.func5, Try.ntmps5
  go_wp2_with fail
  go_quiet (fail)
  have H1 : Hid (Cx W ((W.alloc (.cells #[.int .i64 dim, .slice pa at_.length ca, .slice pk k.length ck, .slice pp p.length cp] 42)).drewN nq) _ _) := hid (H0.out.drewN nq)
  clear b0 b1 b2 b3 H0
  generalize (W.alloc (.cells #[.int .i64 dim, .slice pa at_.length ca, .slice pk k.length ck, .slice pp p.length cp] 42)).drewN nq = V at H1 ⊢
  by_cases hl : 20 < at_.length
  · have e1 : decide ((20 : Int) < (at_.length : Int)) = true := by rw [decide_eq_true_iff]; omega
    clear hl
    go_wp2_with fail
    refine (live_endR _ W H1.out.below).mono ?_
    rintro e w2 ⟨rfl, hb⟩
    have HE := hid hb; clear hb
    go_wp2_with fail
    go_ret
    exact ⟨rfl, HE.out⟩
  · have e1 : decide ((20 : Int) < (at_.length : Int)) = false := by rw [decide_eq_false_iff_not]; omega
    have HS := hid (short_ok [k.length, p.length] V.heap.size 2 (V.alloc (.cells #[.slice pk k.length ck, .slice pp p.length cp] 23)) (by simp) (two_atR (fun j hj => by
      have : j = 0 ∨ j = 1 := by simp at hj; omega
      rcases this with rfl | rfl
      · exact ⟨_, _, rfl⟩
      · exact ⟨_, _, rfl⟩)))
    have H2 := hid (H1.out.alloc (.cells #[.slice pk k.length ck, .slice pp p.length cp] 23))
    have HAL := hid (show at_.length ≤ 20 by omega)
    clear hl
    cases hs : shortB [k.length, p.length] with
    | false =>
      rw [hs] at HS
      clear hs
      go_wp2_with fail
      refine HS.out.mono ?_
      rintro e w1 ⟨rfl, rfl⟩
      go_wp2_with fail
      refine (live_endR _ W H2.out.below).mono ?_
      rintro e w2 ⟨rfl, hb⟩
      have HE := hid hb; clear hb
      go_wp2_with fail
      go_ret
      exact ⟨rfl, HE.out⟩
    | true =>
      have HL : Hid (k.length ≤ 20 ∧ p.length ≤ 20) := hid (by simp [shortB] at hs; omega)
      rw [hs] at HS
      clear hs
      have HP1 := hid fun w' (a : Is w' pa at_) (b : Pt w' pk k) => partial_ok dim at_ k pa pk ca ck w' a b (by have := HAL.out; omega)
      have HP2 := hid fun w' (a : Is w' pa at_) (b : Pt w' pk k) => refPartial_ok dim at_ k pa pk ca ck w' a b (by have := HAL.out; omega)
      have HIN : Hid (partOk dim at_ k = true → (p.length : Int) = dim → inB p (partLo dim at_ k) (partHi dim at_ k) = hasL p at_ k) := hid (fun h1 h2 => by subst h2; exact in_partial h1 rfl HF.out.2)
      have HOK : Hid (partOk dim at_ k = true → (1 ≤ dim ∧ dim ≤ 6) ∧ at_.length = k.length ∧ (∀ j (hj : j < at_.length), 0 ≤ at_[j] ∧ at_[j] < dim)) := hid (fun h => part_all h)
      have HLN := hid (And.intro (partLo_len (dim := dim) (at_ := at_) (k := k)) (partHi_len (dim := dim) (at_ := at_) (k := k)))
      generalize partLo dim at_ k = lo at HP1 HP2 HIN HLN
      generalize partHi dim at_ k = hi at HP1 HP2 HIN HLN
      have HSB := hid fun w' (A A' B B' : Option Addr) (c c' d d' : Nat) (a : Pt w' A lo) (b : Pt w' A' hi) (e : Pt w' B lo) (f : Pt w' B' hi) => sameBox_ok lo hi lo hi A A' B B' c c' d d' w' a b e f (by have := HLN.out; omega) (by have := HLN.out; omega)
      rw [sameBoxR] at HSB
      have HSW := hid fun w' (A A' B B' : Option Addr) (c c' d d' : Nat) (a : Pt w' A (wholeLo dim)) (b : Pt w' A' (wholeHi dim)) (e : Pt w' B (wholeLo dim)) (f : Pt w' B' (wholeHi dim)) => sameBox_ok (wholeLo dim) (wholeHi dim) (wholeLo dim) (wholeHi dim) A A' B B' c c' d d' w' a b e f (by have := wholeLo_len (dim := dim); omega) (by have := wholeHi_len (dim := dim); omega)
      rw [sameBoxR] at HSW
      have HW1 := hid fun w' => whole_ok dim w'
      have HW2 := hid fun w' => refWhole_ok dim w'
      have HWI : Hid ((p.length : Int) = dim → 1 ≤ dim ∧ dim ≤ 6 → inB p (wholeLo dim) (wholeHi dim) = true) := hid (fun h1 h2 => by
        subst h1
        rw [show wholeLo (p.length : Int) = List.replicate p.length 0 by unfold wholeLo lowW; rw [if_pos h2]; rfl, show wholeHi (p.length : Int) = List.replicate p.length 4294967295 by unfold wholeHi highW; rw [if_pos h2]; rfl]
        unfold inB
        rw [low_leR, high_geR HF.out.2]; rfl)
      go_wp2_with fail
      refine HS.out.mono ?_
      rintro e w1 ⟨rfl, rfl⟩
      go_wp2_with fail
      refine (HP1.out _ (HI.out _ H2.out.below) (H2.out.pt (by simp))).mono ?_
      rintro e w2 ⟨A, c, A', c', rfl, q1, q2, hb⟩
      have H3 := hid ((((H2.out.step hb).more q2).more q1).box #[.slice A lo.length c, .slice A' hi.length c'])
      clear q1 q2 hb
      go_wp2_with fail
      refine (HP2.out _ (HI.out _ H3.out.below) (H3.out.pt (p := pk) (by simp))).mono ?_
      rintro e w3 ⟨B, d, B', d', rfl, q1, q2, hb⟩
      have H4 := hid ((((H3.out.step hb).more q2).more q1).box #[.slice B lo.length d, .slice B' hi.length d'])
      clear q1 q2 hb
      have x := H4.out.cells (g := w2.heap.size) (x := .slice A lo.length c) (y := .slice A' hi.length c') (by simp)
      have y := H4.out.cells (g := w3.heap.size) (x := .slice B lo.length d) (y := .slice B' hi.length d') (by simp)
      go_wp2_with fail
      all_goals
        refine (HSB.out _ A A' B B' _ _ _ _ (H4.out.pt (by simp)) (H4.out.pt (by simp)) (H4.out.pt (by simp)) (H4.out.pt (by simp))).mono ?_
        rintro e w4 ⟨rfl, hb⟩
        have H5 := hid (H4.out.step hb); clear hb x y
        go_wp2_with fail
        refine (HW1.out _).mono ?_
        rintro e w5 ⟨E, f, E', f', rfl, q1, q2, hb⟩
        have H6 := hid (((H5.out.step hb).more q2).more q1); clear hb q1 q2
        go_wp2_with fail
        refine (HW2.out _).mono ?_
        rintro e w6 ⟨F, u, F', u', rfl, q1, q2, hb⟩
        have H7 := hid (((H6.out.step hb).more q2).more q1); clear hb q1 q2
        go_wp2_with fail
        refine (HSW.out _ E E' F F' _ _ _ _ (H7.out.pt (by simp)) (H7.out.pt (by simp)) (H7.out.pt (by simp)) (H7.out.pt (by simp))).mono ?_
        rintro e w7 ⟨rfl, hb⟩
        have H8 := hid (H7.out.step hb); clear hb
        cases hok : partOk dim at_ k with
        | false =>
          rw [err_false false rfl]
          go_wp2_with fail
          refine (live_endR _ W H8.out.below).mono ?_
          rintro e w9 ⟨rfl, hb⟩
          have HE := hid hb; clear hb
          go_wp2_with fail
          go_ret
          exact ⟨rfl, HE.out⟩
        | true =>
          rw [err_true true rfl]
          have HO := hid (HOK.out hok)
          by_cases hd : (p.length : Int) = dim
          · have HIB := hid (HIN.out hok hd)
            have HWB := hid (HWI.out hd HO.out.1)
            have e9 : ((p.length : Int) != dim) = false := by simp [hd]
            have HPL := hid hd
            clear hok hd
            go_wp2_with fail
            go_loopw [11, 12] (fun hs iv wr => ∃ j : Nat, j ≤ at_.length ∧ iv = .int .i64 j ∧ hs = .bool (hasL p (at_.take j) (k.take j)) ∧ ∃ n, wr = w7.drewN n) (fun _ iv _ => at_.length - (intOf iv).toNat)
            case atStart => exact ⟨0, by omega, rfl, by simp [hasL], 0, rfl⟩
            case round =>
              obtain ⟨j, hj, rfl, rfl, n, rfl⟩ := hrel
              by_cases hlt : j < at_.length
              · have hjk : j < k.length := by have := HO.out.2.1; omega
                have hin := HO.out.2.2 j hlt
                have HMR := hid (hasL_more p at_ k j HO.out.2.1 hlt hjk)
                obtain ⟨b1, f1, rfl, _, d1⟩ := (HI.out _ H8.out.below).cells j hlt
                obtain ⟨b2, f2, rfl, _, d2⟩ := (H8.out.pt (p := pk) (l := k) (by simp)).cells j hjk
                obtain ⟨C, hC⟩ : ∃ C : Nat, at_[j] = (C : Int) := ⟨at_[j].toNat, by omega⟩
                have hCp : C < p.length := by have := HPL.out; omega
                obtain ⟨b3, f3, rfl, _, d3⟩ := (H8.out.pt (p := pp) (l := p) (by simp)).cells C hCp
                rw [hC] at d1 HMR
                rw [Int.toNat_natCast, List.getD_eq_getElem?_getD, List.getElem?_eq_getElem hCp, Option.getD_some] at HMR
                have hl20 := HAL.out
                have hp20 := HL.out.2
                generalize p[C] = xv at d3 HMR
                generalize k[j] = yv at d2 HMR
                clear hin hC
                cases hh : hasL p (at_.take j) (k.take j) with
                | false =>
                  rw [hh] at HMR
                  clear hh
                  go_wp2_with fail
                  go_quiet (fail)
                  go_wp2_with fail
                  go_roundw
                  case rel => exact ⟨j + 1, by omega, by go_num, by rw [HMR.out]; rfl, _, by first | exact World.drewN_drewN _ _ _ | rfl⟩
                  case measure => simp [intOf]; omega
                | true =>
                  rw [hh] at HMR
                  clear hh
                  go_wp2_with fail
                  go_quiet (fail)
                  go_wp2_with fail
                  go_roundw
                  case rel => exact ⟨j + 1, by omega, by go_num, by rw [HMR.out, Bool.true_and, ← cast_beq], _, by first | exact World.drewN_drewN _ _ _ | rfl⟩
                  case measure => simp [intOf]; omega
              · obtain rfl : j = at_.length := by omega
                rw [List.take_length, show k.take at_.length = k by rw [HO.out.2.1, List.take_length]]
                have H9 := hid (H8.out.drewN n)
                have x := H9.out.cells (g := w2.heap.size) (x := .slice A lo.length c) (y := .slice A' hi.length c') (by simp)
                have hb1 : p.length ≤ 9223372036854775807 := mp
                go_wp2_with fail
                refine (in_ok p lo hi pp A A' cp c c' _ (H9.out.pt (p := pp) (l := p) (by simp)) (H9.out.pt (by simp)) (H9.out.pt (by simp)) mp (by have := HLN.out; omega)).mono ?_
                rintro e w8 ⟨rfl, hb⟩
                rw [HIB.out]
                have H10 := hid (H9.out.step hb); clear hb x
                generalize hasL p at_ k = b
                have eb : (b == b) = true := by simp
                go_wp2_with fail
                refine (HW1.out _).mono ?_
                rintro e w10 ⟨G, g, G', g', rfl, q1, q2, hb⟩
                have H11 := hid (((H10.out.step hb).more q2).more q1); clear hb q1 q2
                go_wp2_with fail
                refine (in_ok p (wholeLo dim) (wholeHi dim) pp G G' cp g g' _ (H11.out.pt (p := pp) (l := p) (by simp)) (H11.out.pt (p := G) (by simp)) (H11.out.pt (p := G') (by simp)) mp (by have := wholeLo_len (dim := dim); omega)).mono ?_
                rintro e w11 ⟨rfl, hb⟩
                rw [HWB.out]
                have H12 := hid (H11.out.step hb); clear hb
                go_wp2_with fail
                refine (live_endR _ W H12.out.below).mono ?_
                rintro e w9 ⟨rfl, hb⟩
                have HE := hid hb; clear hb
                go_wp2_with fail
                go_ret
                exact ⟨rfl, HE.out⟩
          · have e9 : ((p.length : Int) != dim) = true := by simpa using hd
            clear hok hd
            go_wp2_with fail
            refine (live_endR _ W H8.out.below).mono ?_
            rintro e w9 ⟨rfl, hb⟩
            have HE := hid hb; clear hb
            go_wp2_with fail
            go_ret
            exact ⟨rfl, HE.out⟩
end Go.Proofs.Ytgnacoejahpjoaa
