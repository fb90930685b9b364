/- Merged out of PpChg, PpCom, PpCom2, PpOn, PpLive. -/
import Derived.Test.YtgihpdhkjneimaaGreatDoorP19
import Derived.Deep.QuietTactic
import Derived.BigQuiet
/- What a Commit of the pager changes. -/
namespace Go.Proofs.YtgihpdhkjneimaaGreatDoor.Pp
open Go.RowKit
open Go.Lib (hid)
open Go.Proofs.YtgihpdhkjneimaaGreatDoor.Dk
open Go.Proofs.YtgihpdhkjneimaaGreatDoor.Jn
open Go.Proofs.YtgihpdhkjneimaaGreatDoor.En (Lst PageT Pgs flatP flatP_length row_keep pageB)
/-- does page i stand there already? -/
def sameAt (L M : List PageT) (i : Nat) : Bool := decide (i < L.length) && decide (L[i]? = M[i]?)
/-- page i, as it stands on the disk -/
def turnP (M : List PageT) (i : Nat) : PageT := ((M.getD i (0, 0, ⟨#[]⟩)).1, ((i + 1 : Nat) : Int), (M.getD i (0, 0, ⟨#[]⟩)).2.2)
/-- what has changed of the first i pages -/
def chg (L M : List PageT) : Nat → List PageT
  | 0 => []
  | i + 1 => chg L M i ++ (if sameAt L M i then [] else [turnP M i])
theorem chg_len (L M : List PageT) (i : Nat) : (chg L M i).length ≤ i := by
  induction i with
  | zero => exact Nat.le_refl _
  | succ i ih => unfold chg; rw [List.length_append]; split <;> simp <;> omega
/-- all changes: the head, then what has changed -/
def chA (t : Nat) (L M : List PageT) (i : Nat) : List PageT := hdP (t + 1) M.length :: chg L M i
theorem pageB_eq (a b a' b' : Int) (c c' : ByteArray) : pageB a b a' b' c c' = decide ((a, b, c) = (a', b', c')) := by
  rw [Bool.eq_iff_iff]
  unfold pageB
  simp only [Bool.and_eq_true, beq_iff_eq, decide_eq_true_eq, Prod.mk.injEq]
  constructor
  · rintro ⟨h1, h2, h3⟩
    refine ⟨h1, h2, ?_⟩
    apply ByteArray.ext
    apply Array.toList_inj.1
    rw [← ByteArray.toList_eq, ← ByteArray.toList_eq]; exact h3
  · rintro ⟨rfl, rfl, rfl⟩
    exact ⟨rfl, rfl, rfl⟩
section
variable {K : Nat → Prop} {P J D b n t r : Nat} {w w' : World} {s : St} {L : List PageT}
theorem own_first (w : World) (base : Nat) (hb : base ≤ w.heap.size) (x : PageT) : (w.alloc (.cells #[.int .i64 x.1, .int .i64 x.2.1, .string x.2.2] 69)).ownsRow base 69 3 (.slice (some ⟨w.heap.size, 0, none⟩) 1 1) 1 (flatP [x]) :=
  ⟨rfl, .inr ⟨w.heap.size, 1, _, rfl, hb, heap_alloc_new _ _, Nat.le_refl _, by decide, rfl, rfl⟩⟩
theorem own_cap {w : World} {base n : Nat} {p : Option Addr} {c : Nat} {xs : List Value} (h : w.ownsRow base 69 3 (.slice p n c) n xs) (h0 : 0 < n) : n ≤ c ∧ c ≤ 9223372036854775807 := by
  rcases h.2 with ⟨h1, h2⟩ | ⟨g, cap, cur, e, _, hh, hle, hcm, hsz, ht⟩
  · omega
  · injection e with e1 e2 e3
    subst e3
    exact ⟨hle, hcm⟩
set_option maxRecDepth 100000 in
set_option maxHeartbeats 8000000 in
theorem changes_ok {q0 : Option Addr} {c0 : Nat} {died : Bool} (ha : PAt w P J D r (.slice q0 L.length c0) died) (hj : JAt w J D b n t) (hq : Pgs w q0 L) (ht : t ≤ 4294967295) (M : List PageT) (p : Option Addr) (c : Nat) (hp : Pgs w p M) (hl : M.length ≤ 1000) (hL : L.length ≤ 1000) :
    Calls Tryz.prog 47 #[.pointer (some ⟨P, 0, none⟩), .slice p M.length c] w fun e w' => ∃ v, e = .returned v ∧ w'.ownsRow w.heap.size 69 3 v (chA t L M M.length).length (flatP (chA t L M M.length)) ∧ Below w.heap.size w w' := by
  have HTX := hid (ptx_ok ha hj)
  have HHD := hid fun (V : World) => head_ok (t + 1) M.length V (by omega) (by omega)
  obtain ⟨m, hm⟩ : ∃ m, M.length = m := ⟨_, rfl⟩
  have HA := hid ha; have HQ := hid hq; have HP := hid hp; have HM := hid hm; have HLL := hid hL
  have hlt9 : wrap64 ((t : Int) + 1) = ((t + 1 : Nat) : Int) := Go.IntWalk.wrap64_in _ (by omega)
  have e5 : ((t + 1 : Nat) : Int) = (t : Int) + 1 := by omega
  have HF0 := hid fun (V : World) (hb : w.heap.size ≤ V.heap.size) => own_first V w.heap.size hb (hdP (t + 1) M.length)
  have hsz : (hdP (t + 1) M.length).1 = 1 ∧ (hdP (t + 1) M.length).2.1 = 0 ∧ (hdP (t + 1) M.length).2.2 = hdB (t + 1) M.length := ⟨rfl, rfl, rfl⟩
  rw [hsz.1, hsz.2.1, hsz.2.2] at HF0
  rw [hm] at hl HHD HF0 ⊢
  rw [e5] at HHD
  have HCH := hid (show ∀ i, chA t L M i = hdP (t + 1) m :: chg L M i from fun i => by unfold chA; rw [hm])
  clear ha hj hq hp hm hL ht hsz
  generalize hdP (t + 1) m = hd at *
  generalize hdB (t + 1) m = HB at *
  go_enter Tryz.func47, Tryz.ntmps47
  go_wp2_with fail
  refine HTX.out.mono ?_
  rintro e w' ⟨rfl, hw⟩
  obtain rfl := hw.symm
  go_wp2_with fail
  refine (HHD.out _).mono ?_
  rintro e w1 ⟨rfl, hb⟩
  have HB1 := hid hb
  have HOW1 := hid (HF0.out w1 hb.size)
  have HB2 := hid (hb.alloc hb.size (.cells #[.int .i64 1, .int .i64 0, .string HB] 69))
  clear hb hlt9 e5
  go_wp2_with fail
  generalize w1.alloc (.cells #[.int .i64 1, .int .i64 0, .string HB] 69) = X at *
  go_loopw [5, 17] (fun x y wr => ∃ (i : Nat), y = .int .i64 i ∧ i ≤ m ∧ wr.ownsRow w.heap.size 69 3 x (chA t L M i).length (flatP (chA t L M i)) ∧ Below w.heap.size w wr) (fun _ y _ => m - (intOf y).toNat)
  case atStart => exact ⟨0, rfl, Nat.zero_le _, by rw [HCH.out]; exact HOW1.out, HB2.out⟩
  case round =>
    obtain ⟨i, rfl, hi, hown, hb⟩ := hrel
    have hlen : (chA t L M i).length ≤ 1001 := by have := chg_len L M i; unfold chA; simp; omega
    obtain ⟨k, hk⟩ : ∃ k, (chA t L M i).length = k := ⟨_, rfl⟩
    rw [hk] at hown hlen
    obtain ⟨xp, xc, rfl, hob, hpo⟩ := own_slice hown
    have HOW := hid hown; have HB3 := hid hb; have HOB := hid hob; have HK := hid hk
    clear hown hb hob hpo hk
    by_cases hlt : i < m
    · have hiM : i < M.length := by rw [HM.out]; exact hlt
      obtain ⟨bb, off, rfl, hbl, d0, d1, d2⟩ := (HP.out.below HB3.out) i hiM
      have HI := hid hlt
      have hgd : M.getD i (0, 0, ⟨#[]⟩) = M[i]'hiM := by rw [List.getD_eq_getElem?_getD, List.getElem?_eq_getElem hiM]; rfl
      have hg? : M[i]? = some (M[i]'hiM) := List.getElem?_eq_getElem hiM
      obtain ⟨q, hq⟩ : ∃ q, M[i]'hiM = q := ⟨_, rfl⟩
      rw [hq] at d0 d1 d2 hgd hg?
      obtain ⟨pk, pn, bo⟩ := q
      dsimp only at d0 d1 d2
      have HTP := hid (show turnP M i = (pk, ((i + 1 : Nat) : Int), bo) by unfold turnP; rw [hgd])
      have HW := hid (show wrap64 ((i : Int) + 1) = ((i + 1 : Nat) : Int) from Go.IntWalk.wrap64_in _ (by omega))
      have HSM := hid (show sameAt L M i = (decide (i < L.length) && decide (L[i]? = some (pk, pn, bo))) by unfold sameAt; rw [hg?])
      have hx := heap_alloc_new wr (.cells #[.int .i64 pk, .int .i64 pn, .string bo] 69)
      obtain ⟨X1, hX1⟩ : ∃ X1, wr.alloc (.cells #[.int .i64 pk, .int .i64 pn, .string bo] 69) = X1 := ⟨_, rfl⟩
      have hbx : Below wr.heap.size wr X1 := by rw [← hX1]; exact (Below.refl _ _).alloc (Nat.le_refl _) _
      rw [hX1] at hx
      have HX1 := hid hx; have HBX := hid hbx
      have HB4 := hid (HB3.out.trans (hbx.mono HB3.out.size))
      have HOW4 := hid (row_keep HOW.out (fun g hg => hbx.block g (HOB.out g hg).2))
      obtain ⟨y0, y1, y2, -⟩ := page_cells hx
      have hpa := (HA.out.below HB4.out).cells.2.2.2.1
      clear hx hbx hgd hg? hq HOW
      by_cases hiL : i < L.length
      · obtain ⟨b2, off2, hq02, hbl2, g0, g1, g2⟩ := (HQ.out.below HB4.out) i hiL
        subst hq02
        have e1 : decide ((i : Int) < (L.length : Int)) = true := by simp; omega
        have e1' : decide (i < L.length) = true := decide_eq_true hiL
        obtain ⟨q2, hq2⟩ : ∃ q, L[i]'hiL = q := ⟨_, rfl⟩
        have hg2 : L[i]? = some q2 := by rw [List.getElem?_eq_getElem hiL, hq2]
        rw [hq2] at g0 g1 g2
        obtain ⟨k2, n2, o2⟩ := q2
        dsimp only at g0 g1 g2
        have HSM2 := hid (show sameAt L M i = pageB k2 n2 pk pn o2 bo by rw [HSM.out, e1', hg2, pageB_eq, Bool.true_and]; simp)
        have heq := fun (V : World) => En.eq23 k2 n2 pk pn o2 bo V
        have z0 : (0 : Int) ≤ (i : Int) := by omega
        have z1 : (i : Int) < (L.length : Int) := by omega
        have q0' := And.intro hpa (And.intro g0 (And.intro g1 (And.intro g2 (And.intro y0 (And.intro y1 y2)))))
        obtain ⟨B, hB⟩ : ∃ B, pageB k2 n2 pk pn o2 bo = B := ⟨_, rfl⟩
        rw [hB] at HSM2
        simp only [hB] at heq
        clear hg2 hq2 hB HSM
        cases B with
        | true =>
          go_wp2_with fail
          clear hX1
          go_quiet (fail)
          have hb5 := below_drewN (Below.refl X1.heap.size X1) nq
          have HB5 := hid (HB4.out.trans (hb5.mono HB4.out.size))
          have HOW5 := hid (row_keep HOW4.out (fun g hg => hb5.block g (Nat.lt_of_lt_of_le (HOB.out g hg).2 HBX.out.size)))
          have HE := hid (show chA t L M (i + 1) = chA t L M i by
            show hdP (t + 1) M.length :: (chg L M i ++ (if sameAt L M i then [] else [turnP M i])) = hdP (t + 1) M.length :: chg L M i
            rw [if_pos HSM2.out, List.append_nil])
          clear hb5 heq hpa y0 y1 y2 d0 d1 d2
          go_wp2_with fail
          go_roundw
          case rel => exact ⟨i + 1, by first | (rw [HW.out]) | go_num, HI.out, by rw [HE.out, HK.out]; exact HOW5.out, HB5.out⟩
          case measure => have := HI.out; (first | (rw [HW.out]; simp [intOf]; omega) | (simp [intOf]; omega))
        | false =>
          go_wp2_with fail
          clear hX1
          go_quiet (fail)
          obtain ⟨X2, hX2⟩ : ∃ X2, (X1.drewN nq).setCell ⟨wr.heap.size, 1, none⟩ (.int .i64 ((i : Int) + 1)) = X2 := ⟨_, rfl⟩
          have hx2 : X2.heap[wr.heap.size]? = some (.cells #[.int .i64 pk, .int .i64 ((i : Int) + 1), .string bo] 69 (0, 0)) := by
            rw [← hX2, World.setCell, Array.getElem?_modify, if_pos rfl, show (X1.drewN nq).heap[wr.heap.size]? = X1.heap[wr.heap.size]? from rfl, HX1.out]; rfl
          have hb5 : Below wr.heap.size wr X2 := by
            rw [← hX2]
            exact (below_drewN HBX.out nq).setCell (by exact Nat.le_refl _) _
          have HB5 := hid (HB3.out.trans (hb5.mono HB3.out.size))
          have hot : ∀ g, g ≠ wr.heap.size → X2.heap[g]? = X1.heap[g]? := fun g hg => by rw [← hX2, heap_setCell_other _ _ _ _ hg]; rfl
          have HOW5 := hid (row_keep HOW4.out (fun g hg => hot g (by have := (HOB.out g hg).2; omega)))
          have HE := hid (show chA t L M (i + 1) = chA t L M i ++ [(pk, (i : Int) + 1, bo)] by
            have e9 : turnP M i = (pk, (i : Int) + 1, bo) := by rw [HTP.out]; congr 2
            show hdP (t + 1) M.length :: (chg L M i ++ (if sameAt L M i then [] else [turnP M i])) = (hdP (t + 1) M.length :: chg L M i) ++ [(pk, (i : Int) + 1, bo)]
            rw [if_neg (by rw [HSM2.out]; decide), e9]; rfl)
          clear hb5 hot hpa y0 y1 y2 d0 d1 d2
          obtain ⟨y0, y1, y2, -⟩ := page_cells hx2
          clear hx2
          have f1 : (X1.drewN nq).frozen? ⟨wr.heap.size, 1, none⟩ = false := frozen_of_row _ _ _ _ _ (show (X1.drewN nq).heap[wr.heap.size]? = _ from HX1.out)
          have v1 : (X1.drewN nq).cell? ⟨wr.heap.size, 1, none⟩ = some (.int .i64 pn) := (page_cells (V := X1.drewN nq) HX1.out).2.1
          have A3 := hid ((Below.refl X2.heap.size X2).alloc (Nat.le_refl _) (.cells #[.int .i64 pk, .int .i64 ((i : Int) + 1), .string bo] 69))
          have HB6 := hid (HB5.out.trans (A3.out.mono HB5.out.size))
          have HOW6 := hid (row_keep HOW5.out (fun g hg => A3.out.block g (Nat.lt_of_lt_of_le (HOB.out g hg).2 (by rw [← hX2]; simp; exact HBX.out.size))))
          have HQ6 := hid (show Pgs (X2.alloc (.cells #[.int .i64 pk, .int .i64 ((i : Int) + 1), .string bo] 69)) (some ⟨X2.heap.size, 0, none⟩) [(pk, (i : Int) + 1, bo)] from by
            have h := heap_alloc_new X2 (.cells #[.int .i64 pk, .int .i64 ((i : Int) + 1), .string bo] 69)
            intro j hj
            obtain rfl : j = 0 := by simp at hj; omega
            exact ⟨X2.heap.size, 0, rfl, (Array.getElem?_eq_some_iff.1 h).1, by rw [cell_of_row _ _ _ _ _ _ h]; rfl, by rw [cell_of_row _ _ _ _ _ _ h]; rfl, by rw [cell_of_row _ _ _ _ _ _ h]; rfl⟩)
          have HAP := hid (pages_own 37 (.slice xp k xc) (chA t L M i) k HK.out HOW6.out (some ⟨X2.heap.size, 0, none⟩) 1 (pk, (i : Int) + 1, bo) HQ6.out (by omega) HB6.out.size)
          go_wp2_with (at_builtin; refine Ap.wpList_app rfl _ _ _ rfl rfl rfl HAP.out ?_)
          rintro v4 w4 ⟨hown4, hg4, hv4⟩
          rw [← HE.out] at hown4
          have HOW7 := hid hown4
          have HB7 := hid (show Below w.heap.size w w4 from by
            obtain ⟨g1, g2, g3, g4, g5⟩ := hg4
            exact ⟨g1.trans HB6.out.os, g2.trans HB6.out.tape, g3.trans HB6.out.output, Nat.le_trans HB6.out.size g4, fun j hj => (g5 j (Nat.lt_of_lt_of_le hj HB6.out.size) (fun e => by have := (HOB.out j e.symm).1; omega)).trans (HB6.out.block j hj)⟩)
          have HK1 := hid (show (chA t L M (i + 1)).length = k + 1 by rw [HE.out, List.length_append, HK.out]; rfl)
          clear hown4 hg4 hv4 HAP HQ6 A3 HB6 HOW6 y0 y1 y2 f1 v1 hX2
          go_wp2_with fail
          go_roundw
          case rel => exact ⟨i + 1, by first | (rw [HW.out]) | go_num, HI.out, by rw [HK1.out]; exact HOW7.out, HB7.out⟩
          case measure => have := HI.out; (first | (rw [HW.out]; simp [intOf]; omega) | (simp [intOf]; omega))
      · have e1 : decide ((i : Int) < (L.length : Int)) = false := by simp; omega
        have e1' : decide (i < L.length) = false := decide_eq_false hiL
        have HSM2 := hid (show sameAt L M i = false by rw [HSM.out, e1']; rfl)
        clear HSM
        go_wp2_with fail
        clear hX1
        go_quiet (fail)
        obtain ⟨X2, hX2⟩ : ∃ X2, (X1.drewN nq).setCell ⟨wr.heap.size, 1, none⟩ (.int .i64 ((i : Int) + 1)) = X2 := ⟨_, rfl⟩
        have hx2 : X2.heap[wr.heap.size]? = some (.cells #[.int .i64 pk, .int .i64 ((i : Int) + 1), .string bo] 69 (0, 0)) := by
          rw [← hX2, World.setCell, Array.getElem?_modify, if_pos rfl, show (X1.drewN nq).heap[wr.heap.size]? = X1.heap[wr.heap.size]? from rfl, HX1.out]; rfl
        have hb5 : Below wr.heap.size wr X2 := by
          rw [← hX2]
          exact (below_drewN HBX.out nq).setCell (by exact Nat.le_refl _) _
        have HB5 := hid (HB3.out.trans (hb5.mono HB3.out.size))
        have hot : ∀ g, g ≠ wr.heap.size → X2.heap[g]? = X1.heap[g]? := fun g hg => by rw [← hX2, heap_setCell_other _ _ _ _ hg]; rfl
        have HOW5 := hid (row_keep HOW4.out (fun g hg => hot g (by have := (HOB.out g hg).2; omega)))
        have HE := hid (show chA t L M (i + 1) = chA t L M i ++ [(pk, (i : Int) + 1, bo)] by
          have e9 : turnP M i = (pk, (i : Int) + 1, bo) := by rw [HTP.out]; congr 2
          show hdP (t + 1) M.length :: (chg L M i ++ (if sameAt L M i then [] else [turnP M i])) = (hdP (t + 1) M.length :: chg L M i) ++ [(pk, (i : Int) + 1, bo)]
          rw [if_neg (by rw [HSM2.out]; decide), e9]; rfl)
        clear hb5 hot hpa y0 y1 y2 d0 d1 d2
        obtain ⟨y0, y1, y2, -⟩ := page_cells hx2
        clear hx2
        have f1 : (X1.drewN nq).frozen? ⟨wr.heap.size, 1, none⟩ = false := frozen_of_row _ _ _ _ _ (show (X1.drewN nq).heap[wr.heap.size]? = _ from HX1.out)
        have v1 : (X1.drewN nq).cell? ⟨wr.heap.size, 1, none⟩ = some (.int .i64 pn) := (page_cells (V := X1.drewN nq) HX1.out).2.1
        have A3 := hid ((Below.refl X2.heap.size X2).alloc (Nat.le_refl _) (.cells #[.int .i64 pk, .int .i64 ((i : Int) + 1), .string bo] 69))
        have HB6 := hid (HB5.out.trans (A3.out.mono HB5.out.size))
        have HOW6 := hid (row_keep HOW5.out (fun g hg => A3.out.block g (Nat.lt_of_lt_of_le (HOB.out g hg).2 (by rw [← hX2]; simp; exact HBX.out.size))))
        have HQ6 := hid (show Pgs (X2.alloc (.cells #[.int .i64 pk, .int .i64 ((i : Int) + 1), .string bo] 69)) (some ⟨X2.heap.size, 0, none⟩) [(pk, (i : Int) + 1, bo)] from by
          have h := heap_alloc_new X2 (.cells #[.int .i64 pk, .int .i64 ((i : Int) + 1), .string bo] 69)
          intro j hj
          obtain rfl : j = 0 := by simp at hj; omega
          exact ⟨X2.heap.size, 0, rfl, (Array.getElem?_eq_some_iff.1 h).1, by rw [cell_of_row _ _ _ _ _ _ h]; rfl, by rw [cell_of_row _ _ _ _ _ _ h]; rfl, by rw [cell_of_row _ _ _ _ _ _ h]; rfl⟩)
        have HAP := hid (pages_own 37 (.slice xp k xc) (chA t L M i) k HK.out HOW6.out (some ⟨X2.heap.size, 0, none⟩) 1 (pk, (i : Int) + 1, bo) HQ6.out (by omega) HB6.out.size)
        go_wp2_with (at_builtin; refine Ap.wpList_app rfl _ _ _ rfl rfl rfl HAP.out ?_)
        rintro v4 w4 ⟨hown4, hg4, hv4⟩
        rw [← HE.out] at hown4
        have HOW7 := hid hown4
        have HB7 := hid (show Below w.heap.size w w4 from by
          obtain ⟨g1, g2, g3, g4, g5⟩ := hg4
          exact ⟨g1.trans HB6.out.os, g2.trans HB6.out.tape, g3.trans HB6.out.output, Nat.le_trans HB6.out.size g4, fun j hj => (g5 j (Nat.lt_of_lt_of_le hj HB6.out.size) (fun e => by have := (HOB.out j e.symm).1; omega)).trans (HB6.out.block j hj)⟩)
        have HK1 := hid (show (chA t L M (i + 1)).length = k + 1 by rw [HE.out, List.length_append, HK.out]; rfl)
        clear hown4 hg4 hv4 HAP HQ6 A3 HB6 HOW6 y0 y1 y2 f1 v1 hX2
        go_wp2_with fail
        go_roundw
        case rel => exact ⟨i + 1, by first | (rw [HW.out]) | go_num, HI.out, by rw [HK1.out]; exact HOW7.out, HB7.out⟩
        case measure => have := HI.out; (first | (rw [HW.out]; simp [intOf]; omega) | (simp [intOf]; omega))
    · obtain rfl : i = m := by omega
      go_wp2_with fail
      go_ret
      exact ⟨_, rfl, by rw [HK.out]; exact HOW.out, HB3.out⟩
end
end Go.Proofs.YtgihpdhkjneimaaGreatDoor.Pp

/- Commit of the pager. -/
namespace Go.Proofs.YtgihpdhkjneimaaGreatDoor.Pp
open Go.RowKit
open Go.Lib (hid)
open Go.Proofs.YtgihpdhkjneimaaGreatDoor.Dk
open Go.Proofs.YtgihpdhkjneimaaGreatDoor.Jn
open Go.Proofs.YtgihpdhkjneimaaGreatDoor.En (Lst PageT Pgs flatP mayS)
theorem may_sizes {M : List PageT} (h : MayL M) : ∀ q ∈ M, q.2.2.size ≤ 1000000 := fun q hq => by
  obtain ⟨i, hi, rfl⟩ := List.getElem_of_mem hq
  have := (h i hi).1.2.2.2.2.2
  omega
theorem hdP_may (t c : Nat) : mayS (hdP t c).1 (hdP t c).2.1 (hdP t c).2.2 := ⟨fun h => absurd h (show ¬ ((1 : Int) = 0) by decide), by show (0 : Int) ≤ 1; decide, by show (1 : Int) < 5; decide, by show (0 : Int) ≤ 0; decide, by show (0 : Int) ≤ 999; decide, by show (hdB t c).size ≤ 230; rw [hdB_size]; decide⟩
theorem turn_may {M : List PageT} (h : MayL M) (hl : M.length ≤ 998) (i : Nat) (hi : i < M.length) : mayS (turnP M i).1 (turnP M i).2.1 (turnP M i).2.2 ∧ (turnP M i).1 ≠ 0 ∧ (turnP M i).2.1 = ((i + 1 : Nat) : Int) := by
  have e : M.getD i (0, 0, ⟨#[]⟩) = M[i]'hi := by rw [List.getD_eq_getElem?_getD, List.getElem?_eq_getElem hi]; rfl
  unfold turnP
  rw [e]
  obtain ⟨⟨h1, h2, h3, h4, h5, h6⟩, h7, h8⟩ := h i hi
  exact ⟨⟨h1, h2, h3, by show (0 : Int) ≤ ((i + 1 : Nat) : Int); omega, by show ((i + 1 : Nat) : Int) ≤ 999; omega, h6⟩, h7, rfl⟩
theorem chg_mem {L M : List PageT} : ∀ {i : Nat} {q : PageT}, q ∈ chg L M i → ∃ j, j < i ∧ sameAt L M j = false ∧ q = turnP M j := by
  intro i
  induction i with
  | zero => intro q h; cases h
  | succ i ih =>
    intro q h
    unfold chg at h
    rw [List.mem_append] at h
    rcases h with h | h
    · obtain ⟨j, h1, h2⟩ := ih h
      exact ⟨j, by omega, h2⟩
    · split at h
      · cases h
      · have hq : q = turnP M i := by simpa using h
        exact ⟨i, by omega, by simp_all, hq⟩
theorem chA_mem {t : Nat} {L M : List PageT} {q : PageT} (h : q ∈ chA t L M M.length) : q = hdP (t + 1) M.length ∨ ∃ j, j < M.length ∧ sameAt L M j = false ∧ q = turnP M j := by
  unfold chA at h
  rcases List.mem_cons.1 h with h | h
  · exact .inl h
  · exact .inr (chg_mem h)
theorem chA_may {t : Nat} {L M : List PageT} (h : MayL M) (hl : M.length ≤ 998) : AllS (chA t L M M.length) := fun j hj => by
  rcases chA_mem (List.getElem_mem hj) with e | ⟨i, hi, _, e⟩
  · rw [e]; exact hdP_may _ _
  · rw [e]; exact (turn_may h hl i hi).1
section
variable {K : Nat → Prop} {P J D b n t r : Nat} {w w' : World} {s : St} {L : List PageT}
set_option maxHeartbeats 1000000 in
theorem com_nil (p : Option Addr) (m c : Nat) (w : World) : Calls Tryz.prog 15 #[.pointer none, .slice p m c] w fun e w' => e = .returned (.int .i64 1) ∧ w' = w := by
  go_enter Tryz.func15, Tryz.ntmps15
  go_wp2_with fail
  refine (made_nil _).mono ?_
  rintro e w' ⟨rfl, hw⟩
  obtain rfl := hw.symm
  go_wp2_with fail
  go_ret
  exact ⟨rfl, rfl⟩
set_option maxRecDepth 100000 in
set_option maxHeartbeats 2000000 in
theorem com_bad (h : Pr K P J D w s b n t L) (M : List PageT) (p : Option Addr) (c : Nat) (hp : Pgs w p M) (hl : M.length ≤ 1000000) (hm : ¬ MayL M) :
    Calls Tryz.prog 15 #[.pointer (some ⟨P, 0, none⟩), .slice p M.length c] w fun e w' => e = .returned (.int .i64 1) ∧ Below w.heap.size w w' := by
  obtain ⟨q, c0, ha, -, -⟩ := h.at_
  have HM := hid (made_ok ha)
  have HA := hid (allmay_any M p c w hp hl false ⟨(fun e => by cases e), (fun e => absurd e hm)⟩)
  clear h ha hp hl hm
  generalize M.length = m at *
  go_enter Tryz.func15, Tryz.ntmps15
  go_wp2_with fail
  refine HM.out.mono ?_
  rintro e w' ⟨rfl, hw⟩
  obtain rfl := hw.symm
  go_wp2_with fail
  refine HA.out.mono ?_
  rintro e w2 ⟨rfl, hb⟩
  have HB := hid hb
  clear hb
  go_wp2_with fail
  go_ret
  exact ⟨rfl, HB.out⟩
set_option maxRecDepth 100000 in
set_option maxHeartbeats 2000000 in
theorem com_full (h : Pr K P J D w s b n t L) (M : List PageT) (p : Option Addr) (c : Nat) (hp : Pgs w p M) (hl : M.length ≤ 1000000) (hm : MayL M) (hf : b - 1 < M.length) :
    Calls Tryz.prog 15 #[.pointer (some ⟨P, 0, none⟩), .slice p M.length c] w fun e w' => e = .returned (.int .i64 2) ∧ Below w.heap.size w w' := by
  obtain ⟨q, c0, ha, -, -⟩ := h.at_
  have HM := hid (made_ok ha)
  have HX := hid ha
  have HA := hid (allmay_any M p c w hp hl true ⟨(fun _ => hm), (fun _ => rfl)⟩)
  have e1 : decide (((b - 1 : Nat) : Int) < (M.length : Int)) = true := by simp; omega
  have e1' : decide (b - 1 < M.length) = true := decide_eq_true hf
  clear h ha hp hl hm hf
  generalize M.length = m at *
  generalize b - 1 = r9 at *
  go_enter Tryz.func15, Tryz.ntmps15
  go_wp2_with fail
  refine HM.out.mono ?_
  rintro e w' ⟨rfl, hw⟩
  obtain rfl := hw.symm
  go_wp2_with fail
  refine HA.out.mono ?_
  rintro e w2 ⟨rfl, hb⟩
  have HB := hid hb
  obtain ⟨c0, c1, c2, c3, c4⟩ := (HX.out.below hb).cells
  clear hb
  go_wp2_with fail
  go_ret
  exact ⟨rfl, HB.out⟩
set_option maxRecDepth 100000 in
set_option maxHeartbeats 4000000 in
theorem com_jfull (h : Pr K P J D w s b n t L) (ok : JOk b n t) (hLL : L.length ≤ 1000) (M : List PageT) (p : Option Addr) (c : Nat) (hp : Pgs w p M) (hm : MayL M) (hf : M.length ≤ b - 1) (hx : n ≤ (chA t L M M.length).length ∨ t = 4294967295) :
    Calls Tryz.prog 15 #[.pointer (some ⟨P, 0, none⟩), .slice p M.length c] w fun e w' => e = .returned (.int .i64 3) ∧ Below w.heap.size w w' := by
  obtain ⟨q, c0, ha, hq, -⟩ := h.at_
  have hbn := ok.bn
  have HM := hid (made_ok ha)
  have HX := hid (And.intro ha h.jk.j)
  have HA := hid (allmay_any M p c w hp (by omega) true ⟨(fun _ => hm), (fun _ => rfl)⟩)
  have HC := hid fun (V : World) (hV : Below w.heap.size w V) => changes_ok (ha.below hV) (h.jk.j.below hV) (hq.below hV) ok.t2 M p c (hp.below hV) (by omega) hLL
  have e1 : decide (((b - 1 : Nat) : Int) < (M.length : Int)) = false := by simp; omega
  have e1' : decide (b - 1 < M.length) = false := decide_eq_false (by omega)
  obtain ⟨r9, hr9⟩ : ∃ r9, n = r9 + 1 := ⟨n - 1, by have := ok.n2; omega⟩
  have HR9 := hid (And.intro hr9 ok.n9)
  have k1 : IntKind.u64.wrap (t : Int) = t := by have := ok.t2; rw [show IntKind.u64.wrap (t : Int) = (t : Int) % 18446744073709551616 from rfl]; omega
  have hdis : r9 < (chA t L M M.length).length ∨ (¬ r9 < (chA t L M M.length).length ∧ t = 4294967295) := by omega
  generalize flatP (chA t L M M.length) = fl at *
  generalize (chA t L M M.length).length = N at *
  clear h ha hq hp hm hf hx hr9 ok hbn
  generalize M.length = m at *
  generalize b - 1 = r8 at *
  rcases hdis with hd | ⟨hd, rfl⟩
  · have e2 : decide ((r9 : Int) < (N : Int)) = true := by simp; omega
    have e2' : decide (r9 < N) = true := decide_eq_true hd
    clear hd
    go_enter Tryz.func15, Tryz.ntmps15
    go_wp2_with fail
    refine HM.out.mono ?_
    rintro e w' ⟨rfl, hw⟩
    obtain rfl := hw.symm
    go_wp2_with fail
    refine HA.out.mono ?_
    rintro e w2 ⟨rfl, hb⟩
    have HB2 := hid hb
    obtain ⟨y0, y1, y2, y3, y4⟩ := (HX.out.1.below hb).cells
    clear hb
    go_wp2_with fail
    refine (HC.out _ HB2.out).mono ?_
    rintro e w3 ⟨v, rfl, hown, hb⟩
    obtain ⟨xp, xc, rfl, -, -⟩ := own_slice hown
    have HB3 := hid (HB2.out.trans (hb.mono HB2.out.size))
    clear hb hown y0 y1 y2 y3 y4
    obtain ⟨y0, y1, y2, y3, y4⟩ := (HX.out.1.below HB3.out).cells
    go_wp2_with fail
    refine (room_ok (HX.out.2.below HB3.out) r9 HR9.out.1 HR9.out.2).mono ?_
    rintro e w' ⟨rfl, hw⟩
    obtain rfl := hw.symm
    go_wp2_with fail
    go_ret
    exact ⟨rfl, HB3.out⟩
  · have e2 : decide ((r9 : Int) < (N : Int)) = false := by simp; omega
    have e2' : decide (r9 < N) = false := decide_eq_false hd
    clear hd
    go_enter Tryz.func15, Tryz.ntmps15
    go_wp2_with fail
    refine HM.out.mono ?_
    rintro e w' ⟨rfl, hw⟩
    obtain rfl := hw.symm
    go_wp2_with fail
    refine HA.out.mono ?_
    rintro e w2 ⟨rfl, hb⟩
    have HB2 := hid hb
    obtain ⟨y0, y1, y2, y3, y4⟩ := (HX.out.1.below hb).cells
    clear hb
    go_wp2_with fail
    refine (HC.out _ HB2.out).mono ?_
    rintro e w3 ⟨v, rfl, hown, hb⟩
    obtain ⟨xp, xc, rfl, -, -⟩ := own_slice hown
    have HB3 := hid (HB2.out.trans (hb.mono HB2.out.size))
    clear hb hown y0 y1 y2 y3 y4
    obtain ⟨y0, y1, y2, y3, y4⟩ := (HX.out.1.below HB3.out).cells
    go_wp2_with fail
    refine (room_ok (HX.out.2.below HB3.out) r9 HR9.out.1 HR9.out.2).mono ?_
    rintro e w' ⟨rfl, hw⟩
    obtain rfl := hw.symm
    go_wp2_with fail
    refine (ptx_ok (HX.out.1.below HB3.out) (HX.out.2.below HB3.out)).mono ?_
    rintro e w' ⟨rfl, hw⟩
    obtain rfl := hw.symm
    go_wp2_with fail
    go_ret
    exact ⟨rfl, HB3.out⟩
end
end Go.Proofs.YtgihpdhkjneimaaGreatDoor.Pp

/- Commit of the pager, that comes to pass. -/
namespace Go.Proofs.YtgihpdhkjneimaaGreatDoor.Pp
open Go.RowKit
open Go.Lib (hid)
open Go.Proofs.YtgihpdhkjneimaaGreatDoor.Dk
open Go.Proofs.YtgihpdhkjneimaaGreatDoor.Jn
open Go.Proofs.YtgihpdhkjneimaaGreatDoor.En (Lst PageT Pgs flatP mayS)
/-- the disk behind a Commit -/
noncomputable def pcomS (s : St) (b t : Nat) (L M : List PageT) : St := (layS (comS s b t (chA t L M M.length)) (chA t L M M.length)).2
section
variable {K : Nat → Prop} {P J D b n t r : Nat} {w w' : World} {s : St} {L : List PageT}
set_option maxRecDepth 100000 in
set_option maxHeartbeats 8000000 in
theorem pcom_ok (h : Pr K P J D w s b n t L) (hJ0 : J ≠ 0) (hP0 : P ≠ 0) (ok : JOk b n t) (ht : t < 4294967295) (hLL : L.length ≤ 1000) {k : Nat} (hf : Few s k) (hk : k + 5000 < 1000000) (M : List PageT) (p : Option Addr) (c : Nat) (hp : Pgs w p M) (hpK : ∀ g off, p = some ⟨g, off, none⟩ → 0 < M.length → K g ∧ g ≠ J ∧ g ≠ P) (hm : MayL M) (hfl : M.length ≤ b - 1) (hx : (chA t L M M.length).length < n)
    (hlay : (layS (comS s b t (chA t L M M.length)) (chA t L M M.length)).1 = true) :
    Calls Tryz.prog 15 #[.pointer (some ⟨P, 0, none⟩), .slice p M.length c] w fun e w' => ∃ K', e = .returned (.int .i64 0) ∧ (∀ j, K j → K' j) ∧ Pr K' P J D w' (pcomS s b t L M) b n (t + 1) M ∧ KS (fun j => K j ∧ j ≠ P ∧ j ≠ J) w w' ∧ Few (pcomS s b t L M) (k + 4000) := by
  obtain ⟨q, c0, ha, hq, hqK⟩ := h.at_
  have hbn := ok.bn
  have HPR := hid h
  have HM := hid (made_ok ha)
  have HX := hid (And.intro ha h.jk.j)
  have HA := hid (allmay_any M p c w hp (by omega) true ⟨(fun _ => hm), (fun _ => rfl)⟩)
  have HC := hid fun (V : World) (hV : Below w.heap.size w V) => changes_ok (ha.below hV) (h.jk.j.below hV) (hq.below hV) ok.t2 M p c (hp.below hV) (by omega) hLL
  have e1 : decide (((b - 1 : Nat) : Int) < (M.length : Int)) = false := by simp; omega
  have e1' : decide (b - 1 < M.length) = false := decide_eq_false (by omega)
  obtain ⟨r9, hr9⟩ : ∃ r9, n = r9 + 1 := ⟨n - 1, by have := ok.n2; omega⟩
  have HR9 := hid (And.intro hr9 ok.n9)
  have k1 : IntKind.u64.wrap (t : Int) = t := by have := ok.t2; rw [show IntKind.u64.wrap (t : Int) = (t : Int) % 18446744073709551616 from rfl]; omega
  have k2 : ((t : Int) == 4294967295) = false := by simp; omega
  have k2' : (t == 4294967295) = false := by simp; omega
  have HCP := hid fun (V : World) (hV : Pgs V p M) => copies_ok M p c V hV (by omega) (may_sizes hm)
  have HPP := hid (And.intro hp hpK)
  have HAS := hid (chA_may (t := t) (L := L) hm (by omega))
  have HCL := hid (show (chA t L M M.length).length ≤ 1001 by have := chg_len L M M.length; unfold chA; simp; omega)
  have HC0 := hid (show 0 < (chA t L M M.length).length by unfold chA; simp)
  have HOK := hid ok; have HF := hid hf; have HKM := hid hk; have HT := hid ht; have HJP := hid (And.intro hJ0 hP0)
  have HFC := hid (few_com hf b t (chA t L M M.length))
  have HFL := hid (few_layS (L := chA t L M M.length) HFC.out)
  unfold pcomS
  obtain ⟨ch, hch⟩ : ∃ ch, chA t L M M.length = ch := ⟨_, rfl⟩
  rw [hch] at hx hlay HFC HFL HAS HCL HC0 HC ⊢
  obtain ⟨N, hN⟩ : ∃ N, ch.length = N := ⟨_, rfl⟩
  have HN := hid hN
  have e2 : decide ((r9 : Int) < (N : Int)) = false := by simp; omega
  have e2' : decide (r9 < N) = false := decide_eq_false (by omega)
  have HNR := hid (show N ≤ r9 by omega)
  have HLY := hid hlay
  rw [hN] at HC
  clear h ha hq hqK hp hpK hm hfl hx hr9 ok hbn hf hk ht hLL hlay hch hN hJ0 hP0
  go_enter Tryz.func15, Tryz.ntmps15
  go_wp2_with fail
  refine HM.out.mono ?_
  rintro e w' ⟨rfl, hw⟩
  obtain rfl := hw.symm
  go_wp2_with fail
  refine HA.out.mono ?_
  rintro e w2 ⟨rfl, hb⟩
  have HB2 := hid hb
  obtain ⟨y0, y1, y2, y3, y4⟩ := (HX.out.1.below hb).cells
  clear hb
  go_wp2_with fail
  refine (HC.out _ HB2.out).mono ?_
  rintro e w3 ⟨v, rfl, hown, hb⟩
  obtain ⟨xp, xc, rfl, hob, hpo⟩ := own_slice hown
  have hps := own_pgs hown HN.out
  obtain ⟨xb, xo, hxp, hxl, -⟩ := hps 0 (by exact HC0.out)
  subst hxp
  have hown1 := hpo xb xo rfl
  have HG := hid (hob xb hown1)
  have HPS := hid (own_pgs hown HN.out)
  have HCAP := hid (own_cap hown (by rw [← HN.out]; exact HC0.out))
  have HB3 := hid (HB2.out.trans (hb.mono HB2.out.size))
  clear hb hown hob hpo hps hown1 y0 y1 y2 y3 y4
  obtain ⟨y0, y1, y2, y3, y4⟩ := (HX.out.1.below HB3.out).cells
  have HPR3 := hid (HPR.out.next HB3.out)
  -- the changes' block joins K
  have HJK3 := hid (show Jk (fun j => K j ∨ j = xb) J D w3 s b n t from ⟨cd_add HPR.out.jk.cd HB3.out (by have := HG.out.1; have := HB2.out.size; omega) HG.out.2, .inl HPR.out.jk.kJ, .inl HPR.out.jk.k0, HPR3.out.jk.j, HPR3.out.jk.lst⟩)
  go_wp2_with fail
  refine (room_ok (HX.out.2.below HB3.out) r9 HR9.out.1 HR9.out.2).mono ?_
  rintro e w' ⟨rfl, hw⟩
  obtain rfl := hw.symm
  go_wp2_with fail
  refine (ptx_ok (HX.out.1.below HB3.out) (HX.out.2.below HB3.out)).mono ?_
  rintro e w' ⟨rfl, hw⟩
  obtain rfl := hw.symm
  go_wp2_with fail
  have HJC := hid (jcom_ok HJK3.out HOK.out HF.out (some ⟨xb, xo, none⟩) ch xc (by have := HKM.out; have := HCL.out; omega) HPS.out (fun g off e _ => by cases e; exact .inr rfl) HC0.out HAS.out r9 HR9.out.1 (by rw [HN.out]; exact HNR.out))
  rw [HN.out] at HJC
  refine HJC.out.mono ?_
  rintro e w4 ⟨rfl, hc, hks⟩
  have HC4 := hid hc
  have HK4 := hid hks
  have HX4 := hid (And.intro (PAt.ks (HX.out.1.below HB3.out) hks (.inl HPR.out.kP)) ((hks.block J (HX.out.2.below HB3.out).lt (.inl HPR.out.jk.kJ)).trans (HX.out.2.below HB3.out)))
  have HPS4 := hid (pgs_ks HPS.out hks (fun g off e _ => by cases e; exact .inr rfl))
  clear hc hks y0 y1 y2 y3 y4 HJC
  obtain ⟨y0, y1, y2, y3, y4⟩ := HX4.out.1.cells
  go_wp2_with fail
  have HLAY := hid (lay_ok HC4.out HFC.out ch (some ⟨xb, xo, none⟩) xc HC0.out (by rw [HN.out]; exact HCAP.out.1) HCAP.out.2 (by have := HKM.out; have := HCL.out; omega) HPS4.out (fun g off e _ => by cases e; exact .inr rfl))
  rw [HN.out, HLY.out] at HLAY
  refine HLAY.out.mono ?_
  rintro e w5 ⟨rfl, hc, hks⟩
  have HC5 := hid hc
  have HK5 := hid (HK4.out.trans hks)
  have HX5 := hid (And.intro (PAt.ks HX4.out.1 hks (.inl HPR.out.kP)) ((hks.block J (Array.getElem?_eq_some_iff.1 HX4.out.2).1 (.inl HPR.out.jk.kJ)).trans HX4.out.2))
  clear hc hks y0 y1 y2 y3 y4 HLAY
  obtain ⟨y0, y1, y2, y3, y4⟩ := HX5.out.1.cells
  go_wp2_with fail
  refine (next_ok HX5.out.2 HT.out).mono ?_
  rintro e w6 ⟨rfl, hw6⟩
  have HBT6 := hid (show But J w5 w6 by rw [hw6]; exact one_but _ _ _ _)
  have HJ6 := hid (show JAt w6 J D b n (t + 1) by rw [hw6]; exact jset HX5.out.2 (t + 1))
  clear hw6 y0 y1 y2 y3 y4
  have HKA := hid ((KS.of (K := K) HB3.out).trans (KS.less HK5.out fun j e => .inl e))
  have HPM5 := hid (pgs_ks HPP.out.1 HKA.out (fun g off e h0 => (HPP.out.2 g off e h0).1))
  have HPM6 := hid (HBT6.out.pgs HPM5.out (fun g off e h0 => (HPP.out.2 g off e h0).2.1))
  have HX6 := hid (show PAt w6 P J D (b - 1) (.slice q L.length c0) false from (HBT6.out.other P HPR.out.ne).trans HX5.out.1)
  have HC6 := hid (HBT6.out.cd HC5.out (.inl HPR.out.jk.kJ))
  have HL6 := hid (HBT6.out.lst (lst_ks HJK3.out.lst HJK3.out.k0 HK5.out) HJP.out.1)
  obtain ⟨y0, y1, y2, y3, y4⟩ := HX6.out.cells
  go_wp2_with fail
  refine (HCP.out _ HPM6.out).mono ?_
  rintro e w7 hcp
  obtain ⟨p7, c7, rfl, hp7, hg7, hb⟩ := hcp.pgs
  have HP7 := hid hp7
  have HG7 := hid hg7
  have HB7 := hid hb
  have HX7 := hid (HX6.out.below hb)
  clear hcp hp7 hg7 hb y0 y1 y2 y3 y4
  obtain ⟨y0, y1, y2, y3, y4⟩ := HX7.out.cells
  have hf3 : w7.frozen? ⟨P, 3, none⟩ = false := frozen_of_row _ _ _ _ _ HX7.out
  go_wp2_with fail
  go_ret
  have hbt := one_but w7 P 3 (.slice p7 M.length c7)
  have hlt6 := HX6.out.lt
  have hcd : Cd (fun j => (K j ∨ j = xb) ∨ (0 < M.length ∧ p7.map (·.block) = some j)) D w7 _ := HC6.out.more HB7.out (fun j e => by
    rcases e with e | ⟨h0, e⟩
    · exact .inl e
    · cases p7 with
      | none => cases e
      | some a =>
        obtain ⟨ab, ao, az⟩ := a
        have e' : ab = j := by simpa using e
        subst e'
        cases az with
        | none => exact .inr (HG7.out _ _ rfl h0).1
        | some z => obtain ⟨b1, o1, e1, _⟩ := HP7.out 0 h0; cases e1) (fun j e => by
    rcases e with e | ⟨h0, e⟩
    · exact Nat.lt_of_lt_of_le (HC6.out.lt j e) HB7.out.size
    · cases p7 with
      | none => cases e
      | some a =>
        obtain ⟨ab, ao, az⟩ := a
        have e' : ab = j := by simpa using e
        subst e'
        cases az with
        | none => exact (HG7.out _ _ rfl h0).2
        | some z => obtain ⟨b1, o1, e1, _⟩ := HP7.out 0 h0; cases e1)
  have hk5 : KS (fun j => K j ∧ j ≠ P ∧ j ≠ J) w w5 := KS.less HKA.out fun j e => e.1
  have hk6 := HBT6.out.ks hk5 (.inl fun e => e.2.2 rfl)
  have hk7 := hk6.trans (KS.of HB7.out)
  have hk8 := hbt.ks hk7 (.inl fun e => e.2.1 rfl)
  refine ⟨_, rfl, (fun j e => .inl (.inl e)), ⟨⟨hbt.cd hcd (.inl (.inl HPR.out.kP)), .inl (.inl HPR.out.jk.kJ), .inl (.inl HPR.out.jk.k0), (hbt.other J HPR.out.ne.symm).trans (HJ6.out.below HB7.out), hbt.lst (HL6.out.next HL6.out.pos HB7.out) HJP.out.2⟩, .inl (.inl HPR.out.kP), HPR.out.ne, p7, c7, setP_row HX7.out _, hbt.pgs HP7.out (fun g off e h0 => by have := (HG7.out g off e h0).1; omega), fun g off e h0 => .inr ⟨h0, by rw [e]; rfl⟩⟩, hk8, few_up HFL.out (by have := HCL.out; omega)⟩
end
end Go.Proofs.YtgihpdhkjneimaaGreatDoor.Pp

/- A formatted disk, and one that was committed to, without a fuse: a pager is on it. Plain. -/
namespace Go.Proofs.YtgihpdhkjneimaaGreatDoor.Pp
open Go.RowKit
open Go.Lib (hid)
open Go.Proofs.YtgihpdhkjneimaaGreatDoor.Dk
open Go.Proofs.YtgihpdhkjneimaaGreatDoor.Jn
open Go.Proofs.YtgihpdhkjneimaaGreatDoor.En (Lst PageT Pgs mayS)
open Go.Proofs.YtgihpdhkjneimaaGreatDoor.Pg (mayP)
theorem fmt_fuse {s : St} (hf : s.fuse = -1) (b : Nat) : (fmtS s b).fuse = -1 := abo_fuse (wrP_fuse hf) b 1
theorem fmt_len (s : St) (b : Nat) : (fmtS s b).pages.length = s.pages.length := by unfold fmtS; rw [abo_len, wrP_len]
theorem onto_fmt {s : St} {b n : Nat} (hf : s.fuse = -1) (hn2 : 2 ≤ n) (hn9 : n ≤ 900) (hb2 : 2 ≤ b) (hp : b + n = s.pages.length) (hm : s.pages.length ≤ 1000) : Onto (fmtS s b) b n 1 [] := by
  have ok : JOk b n 1 := ⟨hn2, by omega, by omega, by omega, by omega⟩
  have hq : okP s.pages.length (hdP 1 0) := hdP_ok (by omega) 1 0
  have hv := abo_vw (s := (wrP s (hdP 1 0)).2) (wrP_fuse hf) ok (by rw [wrP_len]; omega)
  refine ⟨ok, hn9, hb2, by rw [fmt_len]; exact hp, by rw [fmt_len]; exact hm, fun i hi => absurd hi (Nat.not_lt_zero i), Nat.zero_le _, ?_, fun i hi => absurd hi (Nat.not_lt_zero i), abo_scan (wrP_fuse hf) ok (by rw [wrP_len]; omega)⟩
  show vw (aboS (wrP s (hdP 1 0)).2 b 1) 0 = _
  rw [hv, if_neg (by omega), wrP_vw hf hq]
  rfl
theorem putV_append {A B : List PageT} : ∀ {V : Nat → ByteArray}, putV V (A ++ B) = putV (putV V A) B := by
  induction A with
  | nil => intro V; rfl
  | cons q A ih => intro V; show putV (fun j => if j = q.2.1.toNat then sealB q else V j) (A ++ B) = _; rw [ih]; rfl
theorem putV_chg (L M : List PageT) (V : Nat → ByteArray) (i : Nat) : ∀ k, putV V (chg L M k) (i + 1) = if i < k ∧ sameAt L M i = false then sealB (turnP M i) else V (i + 1) := by
  intro k
  induction k with
  | zero => rw [if_neg (by omega)]; rfl
  | succ k ih =>
    unfold chg
    rw [putV_append]
    by_cases hs : sameAt L M k = true
    · rw [if_pos hs]
      show putV V (chg L M k) (i + 1) = _
      rw [ih]
      by_cases e : i = k
      · subst e
        rw [if_neg (by omega), if_neg (by rw [hs]; simp)]
      · by_cases h : i < k ∧ sameAt L M i = false
        · rw [if_pos h, if_pos ⟨by omega, h.2⟩]
        · rw [if_neg h, if_neg (fun h2 => h ⟨by omega, h2.2⟩)]
    · rw [if_neg hs]
      show (fun j => if j = (turnP M k).2.1.toNat then sealB (turnP M k) else putV V (chg L M k) j) (i + 1) = _
      have hn : (turnP M k).2.1.toNat = k + 1 := by show (((k + 1 : Nat) : Int)).toNat = k + 1; omega
      dsimp only
      rw [hn, ih]
      by_cases e : i = k
      · subst e
        rw [if_pos rfl, if_pos ⟨by omega, by simpa using hs⟩]
      · rw [if_neg (by omega)]
        by_cases h : i < k ∧ sameAt L M i = false
        · rw [if_pos h, if_pos ⟨by omega, h.2⟩]
        · rw [if_neg h, if_neg (fun h2 => h ⟨by omega, h2.2⟩)]
theorem turn_ok {M : List PageT} (h : MayL M) (hl : M.length ≤ 998) {m : Nat} (hm : M.length < m) (i : Nat) (hi : i < M.length) : okP m (turnP M i) := by
  obtain ⟨h1, h2, h3⟩ := turn_may h hl i hi
  obtain ⟨h4, h5, h6, h7, h8, h9⟩ := h1
  exact ⟨⟨by omega, by omega, h7, by omega, by omega⟩, by rw [h3]; omega⟩
/-- behind a Commit -/
theorem onto_com {s : St} {b n t : Nat} {L M : List PageT} (h : Onto s b n t L) (hf : s.fuse = -1) (ht : t < 4294967295) (hm : MayL M) (hfl : M.length ≤ b - 1) (hx : (chA t L M M.length).length < n) :
    (layS (comS s b t (chA t L M M.length)) (chA t L M M.length)).1 = true ∧ Onto (pcomS s b t L M) b n (t + 1) M ∧ (pcomS s b t L M).fuse = -1 ∧ (pcomS s b t L M).writes = s.writes + 2 * (chg L M M.length).length + 3 ∧ (pcomS s b t L M).flushes = s.flushes + 4 := by
  have hbn := h.ok.bn
  have hb2 := h.b2
  have hl998 : M.length ≤ 998 := by have := h.ok.n2; omega
  have hlen := h.len
  have h0 : 0 < (chA t L M M.length).length := by unfold chA; simp
  have has := chA_may (t := t) (L := L) hm hl998
  have hcl : (comS s b t (chA t L M M.length)).pages.length = s.pages.length := com_len _ _ _ _
  have hcf : (comS s b t (chA t L M M.length)).fuse = -1 := com_fuse hf _ _ _
  have hok : ∀ x ∈ chA t L M M.length, okP (comS s b t (chA t L M M.length)).pages.length x := fun x hx2 => by
    rw [hcl]
    rcases chA_mem hx2 with e | ⟨i, hi, _, e⟩
    · rw [e]; exact hdP_ok (by omega) _ _
    · rw [e]; exact turn_ok hm hl998 (by omega) i hi
  obtain ⟨l1, l2, l3, l4, l5⟩ := layS_all (q := hdP (t + 1) M.length) (L := chg L M M.length) hcf hok
  obtain ⟨c1, c2⟩ := com_counts hf h.ok h0 has hx (by omega)
  have hcv := com_vw hf h.ok h0 has hx (by omega)
  have hcc : (chA t L M M.length).length = (chg L M M.length).length + 1 := rfl
  have hv : ∀ j, vw (pcomS s b t L M) j = putV (putV (vw (comS s b t (chA t L M M.length))) (chg L M M.length)) [hdP (t + 1) M.length] j := fun j => congrFun l3 j
  have hlow : ∀ j, j < b → vw (comS s b t (chA t L M M.length)) j = vw s j := fun j hj => by
    rw [hcv, if_neg (by omega), if_neg (by omega)]
  have hpl : (pcomS s b t L M).pages.length = s.pages.length := by unfold pcomS; rw [layS_len, hcl]
  have hhd : ∀ (V : Nat → ByteArray) j, putV V [hdP (t + 1) M.length] j = if j = 0 then sealB (hdP (t + 1) M.length) else V j := fun V j => rfl
  refine ⟨l1, ⟨⟨h.ok.n2, h.ok.n9, h.ok.bn, by have := h.ok.t1; omega, by omega⟩, h.n9, hb2, by rw [hpl]; exact hlen, by rw [hpl]; exact h.p9, hm, hfl, ?_, fun i hi => ?_, ?_⟩, l2, by
    show (layS (comS s b t (chA t L M M.length)) (chA t L M M.length)).2.writes = _
    rw [show (layS (comS s b t (chA t L M M.length)) (chA t L M M.length)).2.writes = _ from l4, c1, hcc]; omega, by
    show (layS (comS s b t (chA t L M M.length)) (chA t L M M.length)).2.flushes = _
    rw [show (layS (comS s b t (chA t L M M.length)) (chA t L M M.length)).2.flushes = _ from l5, c2]; omega⟩
  · rw [hv, hhd, if_pos rfl]
  · have hgd : M.getD i (0, 0, ⟨#[]⟩) = M[i]'hi := by rw [List.getD_eq_getElem?_getD, List.getElem?_eq_getElem hi]; rfl
    have htp : turnP M i = ((M[i]'hi).1, ((i + 1 : Nat) : Int), (M[i]'hi).2.2) := by unfold turnP; rw [hgd]
    have hto := turn_ok hm hl998 (m := s.pages.length) (by omega) i hi
    rw [htp] at hto
    refine ⟨by rw [hpl]; exact hto, ?_⟩
    rw [hv, hhd, if_neg (by omega), putV_chg]
    by_cases hs : sameAt L M i = false
    · rw [if_pos ⟨hi, hs⟩, htp]
    · rw [if_neg (fun e => hs e.2), hlow _ (by omega)]
      have hst : sameAt L M i = true := by simpa using hs
      unfold sameAt at hst
      simp only [Bool.and_eq_true, decide_eq_true_eq] at hst
      obtain ⟨hiL, he⟩ := hst
      rw [List.getElem?_eq_getElem hiL, List.getElem?_eq_getElem hi] at he
      have he' : L[i] = M[i]'hi := by simpa using he
      have := (h.on i hiL).2
      rw [he'] at this
      exact this
  · have hjb : vw (pcomS s b t L M) b = stg b t (chA t L M M.length) 0 := by
      rw [hv, hhd, if_neg (by omega)]
      rw [putV_other (fun q hq => by
        obtain ⟨j, hj, _, e⟩ := chg_mem hq
        have hn : q.2.1.toNat = j + 1 := by rw [e]; show (((j + 1 : Nat) : Int)).toNat = j + 1; omega
        omega), hcv, if_pos (by omega), show b - b = 0 by omega]
    refine scan_other (t' := t) (by have := h.ok.n2; omega) (kd := 1) (pk := (chA t L M M.length)[0].1) (pn := (chA t L M M.length)[0].2.1) (bo := (chA t L M M.length)[0].2.2) (ct := 0) (sm := 0) ?_ (by omega)
    rw [hjb, stg_at h0]
    exact isJ_pgJ (by decide) (by decide) (may1 t 0 h.ok.t1 h.ok.t2 (by decide) (has 0 h0)) (by have := h.ok.n2; omega)
end Go.Proofs.YtgihpdhkjneimaaGreatDoor.Pp

/- The laws' own live, of the pager. -/
namespace Go.Proofs.YtgihpdhkjneimaaGreatDoor.Pp
open Go.RowKit
open Go.Lib (hid)
open Go.Proofs.YtgihpdhkjneimaaGreatDoor.Dk
open Go.Proofs.YtgihpdhkjneimaaGreatDoor.Jn
open Go.Proofs.YtgihpdhkjneimaaGreatDoor.En (Lst PageT Pgs mayS)
theorem pgs_ks2 {K : Nat → Prop} {w w' : World} {p : Option Addr} {L : List PageT} (h : Pgs w p L) (hk : KS K w w') (hK : ∀ g off, p = some ⟨g, off, none⟩ → K g) : Pgs w' p L := pgs_ks h hk fun g off e _ => hK g off e
section
variable {K : Nat → Prop} {P J D b n t r : Nat} {w w' : World} {s : St} {L : List PageT}
/-- a block that has come joins K -/
theorem Pr.addK (h : Pr K P J D w s b n t L) (hb : Below w.heap.size w w') {g : Nat} (hg : w.heap.size ≤ g) (hl : g < w'.heap.size) : Pr (fun j => K j ∨ j = g) P J D w' s b n t L := by
  have h2 := h.next hb
  obtain ⟨q, c, h3, h4, h5⟩ := h2.at_
  exact ⟨⟨cd_add h.jk.cd hb hg hl, .inl h.jk.kJ, .inl h.jk.k0, h2.jk.j, h2.jk.lst⟩, .inl h.kP, h.ne, q, c, h3, h4, fun g off e h0 => .inl (h5 g off e h0)⟩
/-- another disk of more blocks -/
theorem Pr.move {K' : Nat → Prop} {s' : St} (h : Pr K P J D w s b n t L) (hk : KS K w w') (hc : Cd K' D w' s') (hkk : ∀ j, K j → K' j) : Pr K' P J D w' s' b n t L := by
  obtain ⟨q, c, h3, h4, h5⟩ := h.at_
  exact ⟨⟨hc, hkk _ h.jk.kJ, hkk _ h.jk.k0, (hk.block J h.jk.j.lt h.jk.kJ).trans h.jk.j, lst_ks h.jk.lst h.jk.k0 hk⟩, hkk _ h.kP, h.ne, q, c, h3.ks hk h.kP, pgs_ks h4 hk h5, fun g off e h0 => hkk _ (h5 g off e h0)⟩
end
def lvL : List PageT := [(2, 0, ⟨#[97]⟩), (3, 1, ⟨#[98]⟩)]
def lvB : List PageT := [(2, 1, ⟨#[97]⟩)]
def lvM : List PageT := [(2, 0, ⟨#[120]⟩), (2, 1, ⟨#[120]⟩), (2, 2, ⟨#[120]⟩), (2, 3, ⟨#[120]⟩)]
theorem one_may {k n : Int} {b : ByteArray} (h1 : 1 ≤ k) (h2 : k < 5) (h3 : 0 ≤ n) (h4 : n ≤ 999) (h5 : b.size ≤ 230) : mayT (k, n, b) n := ⟨⟨(fun e => by have e' : k = 0 := e; omega), by show (0 : Int) ≤ k; omega, h2, h3, h4, h5⟩, by show k ≠ 0; omega, rfl⟩
theorem lvL_may : MayL lvL := fun i hi => by
  have hi' : i < 2 := hi
  obtain rfl | rfl : i = 0 ∨ i = 1 := by omega
  · exact one_may (by decide) (by decide) (by decide) (by decide) (by decide)
  · exact one_may (by decide) (by decide) (by decide) (by decide) (by decide)
theorem lvM_may : MayL lvM := fun i hi => by
  have hi' : i < 4 := hi
  obtain rfl | rfl | rfl | rfl : i = 0 ∨ i = 1 ∨ i = 2 ∨ i = 3 := by omega
  · exact one_may (by decide) (by decide) (by decide) (by decide) (by decide)
  · exact one_may (by decide) (by decide) (by decide) (by decide) (by decide)
  · exact one_may (by decide) (by decide) (by decide) (by decide) (by decide)
  · exact one_may (by decide) (by decide) (by decide) (by decide) (by decide)
theorem lvB_not : ¬ MayL lvB := fun h => by
  have := (h 0 (by decide)).2.2
  exact absurd this (by decide)
theorem lv_len : (chA 1 [] lvL lvL.length).length = 3 := rfl
theorem lv_len2 : (chA 2 lvL lvM lvM.length).length = 5 := by decide
theorem pgs_made (w : World) (L : List PageT) (cs : Array Value) (hc : cs = (En.flatP L).toArray) : Pgs (w.alloc (.cells cs 69)) (some ⟨w.heap.size, 0, none⟩) L := fun i hi => by
  obtain ⟨a0, a1, a2⟩ := En.flatP_at L i hi
  have h := heap_alloc_new w (.cells cs 69)
  subst hc
  have hcl : ∀ j u, (En.flatP L)[j]? = some u → (w.alloc (.cells (En.flatP L).toArray 69)).cell? ⟨w.heap.size, 0 + j, none⟩ = some u := fun j u hj => by
    rw [cell_of_row _ _ _ _ _ _ h, Nat.zero_add]; simpa using hj
  exact ⟨w.heap.size, 0, rfl, by simp, hcl _ _ a0, hcl _ _ a1, hcl _ _ a2⟩
set_option maxRecDepth 100000 in
set_option maxHeartbeats 8000000 in
theorem live_any (w : World) (hL : Lst w) : Calls Tryz.prog 8 #[] w fun e w' => e = .returned (.bool true) ∧ Below w.heap.size w w' := by
  have HL := hid hL
  have HP := hid hL.pos
  have HD := hid (dnew 12 w (by decide) (by decide))
  have HS0 := hid (show (newS (blanks 12)).fuse = -1 ∧ (newS (blanks 12)).pages.length = 12 ∧ Few (newS (blanks 12)) 0 from ⟨rfl, by show (blanks 12).length = 12; simp [blanks], few_new _⟩)
  clear hL
  go_enter Tryz.func8, Tryz.ntmps8
  go_wp2_with fail
  refine HD.out.mono ?_
  rintro e w1 ⟨D, rfl, hc, hb⟩
  have HC1 := hid hc
  have HK1 := hid (KS.of (K := fun j => j < w.heap.size) hb)
  have HL1 := hid (HL.out.next HP.out hb)
  have HZ1 := hid hb.size
  clear hc hb HD
  go_wp2_with fail
  refine (format_ok (n := 5) (b := 7) HC1.out HL1.out HP.out (by decide) (by decide) (by decide) (by rw [HS0.out.2.1]) (by rw [HS0.out.2.1]; decide) HS0.out.1 HS0.out.2.2 (by decide)).mono ?_
  rintro e w2 ⟨P, J, rfl, hJ, hP, hpr, hks⟩
  have HJP := hid (show w.heap.size ≤ J ∧ w.heap.size ≤ P from ⟨Nat.le_trans HZ1.out hJ, Nat.le_trans HZ1.out hP⟩)
  have HPR2 := hid hpr
  have HK2 := hid (HK1.out.trans hks)
  have HON := hid (onto_fmt (b := 7) (n := 5) HS0.out.1 (by decide) (by decide) (by decide) (by rw [HS0.out.2.1]) (by rw [HS0.out.2.1]; decide))
  have HFU := hid (fmt_fuse HS0.out.1 7)
  have HFL := hid (fmt_len (newS (blanks 12)) 7)
  have HFW := hid (show Few (fmtS (newS (blanks 12)) 7) 10 from few_up (few_abo (few_wrP HS0.out.2.2 _) 7 1) (by decide))
  rw [HS0.out.2.1] at HFL
  clear hJ hP hpr hks HC1 HL1 HK1
  generalize fmtS (newS (blanks 12)) 7 = s2 at *
  go_wp2_with fail
  refine (format_bad HPR2.out.jk.cd 11 (by rw [HFL.out]; decide)).mono ?_
  rintro e w' ⟨rfl, hw⟩
  obtain rfl := hw.symm
  go_wp2_with fail
  -- l
  have HBX := hid ((Below.refl w2.heap.size w2).alloc (Nat.le_refl _) (.cells #[.int .i64 2, .int .i64 0, .string ⟨#[97]⟩, .int .i64 3, .int .i64 1, .string ⟨#[98]⟩] 69))
  have HPX := hid (pgs_made w2 lvL #[.int .i64 2, .int .i64 0, .string ⟨#[97]⟩, .int .i64 3, .int .i64 1, .string ⟨#[98]⟩] rfl)
  have HPR3 := hid (HPR2.out.addK HBX.out (Nat.le_refl _) (by simp))
  generalize w2.alloc (.cells #[.int .i64 2, .int .i64 0, .string ⟨#[97]⟩, .int .i64 3, .int .i64 1, .string ⟨#[98]⟩] 69) = X at *
  have HCO := hid (onto_com HON.out HFU.out (by decide) lvL_may (by decide) (by rw [lv_len]; decide))
  have HPL := hid (show P < w2.heap.size from by obtain ⟨q, c, h, _⟩ := HPR2.out.at_; exact h.lt)
  refine (pcom_ok HPR3.out (by have := HJP.out.1; have := HP.out; omega) (by have := HJP.out.2; have := HP.out; omega) HON.out.ok (by decide) (by decide) HFW.out (by decide) lvL (some ⟨w2.heap.size, 0, none⟩) 2 HPX.out (fun g off e _ => by cases e; exact ⟨.inr rfl, by have := HPR2.out.jk.j.lt; omega, by have := HPL.out; omega⟩) lvL_may (by decide) (by rw [lv_len]; decide) HCO.out.1).mono ?_
  rintro e w4 ⟨K3, rfl, hkk, hpr, hks, hfw⟩
  have HPR4 := hid hpr
  have HKK := hid hkk
  have HFW4 := hid hfw
  have HON4 := hid HCO.out.2.1
  have HK4 := hid ((HK2.out.trans (KS.of HBX.out)).trans (KS.less hks fun j hj => ⟨.inl (.inl (.inl hj)), by have := HJP.out.2; omega, by have := HJP.out.1; omega⟩))
  have HPX4 := hid (pgs_ks2 HPX.out hks (fun g off e => by cases e; exact ⟨.inr rfl, by have := HPL.out; omega, by have := HPR2.out.jk.j.lt; omega⟩))
  have HG3 := hid (show K3 w2.heap.size from hkk _ (.inr rfl))
  generalize pcomS s2 7 1 [] lvL = s4 at *
  clear hpr hkk hks hfw HCO HPR3 HPX HON HFW HFU HK2 HBX
  go_wp2_with fail
  -- a page at another place
  have HBY := hid ((Below.refl w4.heap.size w4).alloc (Nat.le_refl _) (.cells #[.int .i64 2, .int .i64 1, .string ⟨#[97]⟩] 69))
  have HPY := hid (pgs_made w4 lvB #[.int .i64 2, .int .i64 1, .string ⟨#[97]⟩] rfl)
  refine (com_bad (HPR4.out.next HBY.out) lvB (some ⟨w4.heap.size, 0, none⟩) 1 HPY.out (by decide) lvB_not).mono ?_
  rintro e w5 ⟨rfl, hb⟩
  have HB5 := hid (HBY.out.trans (hb.mono HBY.out.size))
  have HPR5 := hid (HPR4.out.next HB5.out)
  have HK5 := hid (HK4.out.trans (KS.of HB5.out))
  have HPX5 := hid (HPX4.out.below HB5.out)
  clear hb HBY HPY HPR4 HK4 HPX4 HB5
  go_wp2_with fail
  refine (open_ok HPR5.out.jk.cd HPR5.out.jk.lst HPR5.out.jk.k0 HFW4.out (by decide) HON4.out).mono ?_
  rintro e w6 ⟨Q, I, s6, K6, rfl, hI, hQ, hkk, hpr, hks, hsm, hfw⟩
  have HPR6 := hid hpr
  have HK6 := hid (HK5.out.trans (KS.less hks fun j hj => HKK.out j (.inl (.inl (.inl hj)))))
  have HPX6 := hid (pgs_ks2 HPX5.out hks (fun g off e => by cases e; exact HG3.out))
  have HON6 := hid (HON4.out.same hsm)
  clear hI hQ hkk hpr hks hsm hfw HK5 HPX5 HPR5
  go_wp2_with fail
  -- four pages
  have HBZ := hid ((Below.refl w6.heap.size w6).alloc (Nat.le_refl _) (.cells #[.int .i64 2, .int .i64 0, .string ⟨#[120]⟩, .int .i64 2, .int .i64 1, .string ⟨#[120]⟩, .int .i64 2, .int .i64 2, .string ⟨#[120]⟩, .int .i64 2, .int .i64 3, .string ⟨#[120]⟩] 69))
  have HPZ := hid (pgs_made w6 lvM #[.int .i64 2, .int .i64 0, .string ⟨#[120]⟩, .int .i64 2, .int .i64 1, .string ⟨#[120]⟩, .int .i64 2, .int .i64 2, .string ⟨#[120]⟩, .int .i64 2, .int .i64 3, .string ⟨#[120]⟩] rfl)
  refine (com_jfull (HPR6.out.next HBZ.out) HON6.out.ok (by decide) lvM (some ⟨w6.heap.size, 0, none⟩) 4 HPZ.out lvM_may (by decide) (.inl (by rw [lv_len2]; decide))).mono ?_
  rintro e w7 ⟨rfl, hb⟩
  have HB7 := hid (HBZ.out.trans (hb.mono HBZ.out.size))
  have HPR7 := hid (HPR6.out.next HB7.out)
  have HK7 := hid (HK6.out.trans (KS.of HB7.out))
  have HPX7 := hid (HPX6.out.below HB7.out)
  clear hb HBZ HPZ HPR6 HK6 HPX6 HB7
  go_wp2_with fail
  obtain ⟨q7, c7, hpa, hpg, -⟩ := HPR7.out.at_
  have HPA7 := hid hpa
  refine (ppages_ok hpa hpg (by decide) (fun q hq => by have := may_sizes lvL_may q hq; omega)).mono ?_
  rintro e w8 hcp
  obtain ⟨p8, c8, rfl, hp8, -, hb⟩ := hcp.pgs
  have HP8 := hid hp8
  have HB8 := hid hb
  clear hcp hpa hpg hp8 hb
  go_wp2_with fail
  refine (pages_any lvL lvL p8 (some ⟨w2.heap.size, 0, none⟩) c8 2 w8 HP8.out (HPX7.out.below HB8.out) (by decide)).mono ?_
  rintro e w9 ⟨rfl, hb⟩
  have HB9 := hid (HB8.out.trans (hb.mono HB8.out.size))
  have ed : decide (lvL = lvL) = true := by simp
  rw [ed]
  clear hb ed
  go_wp2_with fail
  refine (ptx_ok (HPA7.out.below HB9.out) (HPR7.out.jk.j.below HB9.out)).mono ?_
  rintro e w' ⟨rfl, hw⟩
  obtain rfl := hw.symm
  go_wp2_with fail
  refine (proom_ok (HPA7.out.below HB9.out)).mono ?_
  rintro e w' ⟨rfl, hw⟩
  obtain rfl := hw.symm
  go_wp2_with fail
  go_ret
  exact ⟨rfl, (HK7.out.trans (KS.of HB9.out)).below (Nat.le_refl _) fun _ h => h⟩
end Go.Proofs.YtgihpdhkjneimaaGreatDoor.Pp
