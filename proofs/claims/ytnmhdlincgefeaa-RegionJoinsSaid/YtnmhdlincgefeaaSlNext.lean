/- next of slab: of a cell of a range the one behind it. -/
import Derived.Test.YtnmhdlincgefeaaSlMake
namespace Go.Proofs.Ytnmhdlincgefeaa.Sl
open Go.RowKit
open Go.Lib (hid)

theorem nextL_at (c lo hi : List Nat) (i : Nat) (h1 : i < c.length) (h2 : c.length = lo.length) (h3 : c.length = hi.length)
    (hn : nextL (c.drop (i + 1)) (lo.drop (i + 1)) (hi.drop (i + 1)) = none) (hlt : c[i] < hi[i]'(by omega)) : nextL c lo hi = some (c.take i ++ (c[i] + 1) :: lo.drop (i + 1)) := by
  induction i generalizing c lo hi with
  | zero =>
    cases c with
    | nil => simp at h1
    | cons x c => cases lo with
      | nil => simp at h2
      | cons l lo => cases hi with
        | nil => simp at h3
        | cons h hi =>
          simp only [Nat.zero_add, List.drop_succ_cons, List.drop_zero, List.getElem_cons_zero] at hn hlt
          simp only [nextL, hn, if_pos hlt]
          simp
  | succ i ih =>
    cases c with
    | nil => simp at h1
    | cons x c => cases lo with
      | nil => simp at h2
      | cons l lo => cases hi with
        | nil => simp at h3
        | cons h hi =>
          simp only [List.drop_succ_cons, List.getElem_cons_succ, List.length_cons] at hn hlt h1 h2 h3
          have := ih c lo hi (by omega) (by omega) (by omega) hn hlt
          simp only [nextL, this]
          simp
theorem nextL_down (c lo hi : List Nat) (i : Nat) (h1 : i < c.length) (h2 : c.length = lo.length) (h3 : c.length = hi.length)
    (hn : nextL (c.drop (i + 1)) (lo.drop (i + 1)) (hi.drop (i + 1)) = none) (hlt : ¬ c[i] < hi[i]'(by omega)) : nextL (c.drop i) (lo.drop i) (hi.drop i) = none := by
  rw [List.drop_eq_getElem_cons h1, List.drop_eq_getElem_cons (show i < lo.length by omega), List.drop_eq_getElem_cons (show i < hi.length by omega)]
  simp only [nextL, hn, if_neg hlt]
/-- a row half laid anew -/
def halfL (c lo : List Nat) (K : Nat) : List Nat := c.take K ++ lo.drop K
theorem halfL_len (c lo : List Nat) (K : Nat) (h : c.length = lo.length) : (halfL c lo K).length = c.length := by unfold halfL; simp; omega
theorem halfL_at (c lo : List Nat) (K : Nat) (h : c.length = lo.length) (hk : K < c.length) : (halfL c lo (K + 1))[K]'(by rw [halfL_len _ _ _ h]; exact hk) = c[K] := by
  unfold halfL
  rw [List.getElem_append_left (by simp; omega)]
  simp
theorem halfL_set (c lo : List Nat) (K : Nat) (h : c.length = lo.length) (hk : K < c.length) (x : Nat) : (halfL c lo (K + 1)).set K x = c.take K ++ x :: lo.drop (K + 1) := by
  unfold halfL
  rw [List.set_append_left _ _ (by simp; omega), List.take_succ_eq_append_getElem hk, List.set_append_right _ _ (by simp; omega)]
  simp [List.length_take, Nat.min_eq_left (Nat.le_of_lt hk)]
theorem zs_set (l : List Nat) (i x : Nat) : (zs l).set i (x : Int) = zs (l.set i x) := by simp [zs, List.map_set]
/-- what next leaves -/
def Nexted (w : World) (G : Nat) (c lo hi : List Nat) (e : Ending) (w' : World) : Prop :=
  w.grownBy w' (some G) ∧ match nextL c lo hi with
  | some d => e = .returned (.bool true) ∧ Row w' G (zs d)
  | none => e = .returned (.bool false)
theorem grownBy_set {w wr : World} {G : Nat} (h : w.grownBy wr (some G)) (n i : Nat) (v : Value) : w.grownBy ((wr.drewN n).setCell ⟨G, i, none⟩ v) (some G) :=
  ⟨h.os, h.tape, h.output, by rw [World.size_setCell]; exact h.size, fun k hk hne => by
    rw [heap_setCell_other _ _ _ _ (fun e => hne (by rw [e]))]; exact h.block k hk hne⟩
theorem Row.drewN {w : World} {g : Nat} {l : List Int} (h : Row w g l) (n : Nat) : Row (w.drewN n) g l := h.keep rfl
set_option maxRecDepth 100000 in
set_option maxHeartbeats 2000000 in
theorem next_ok (w : World) (G cc : Nat) (c lo hi : List Nat) (hG : Row w G (zs c)) (p q : Option Addr) (c1 c2 : Nat)
    (hp : ∀ W, w.grownBy W (some G) → CellsAt W p (iv (zs lo))) (hq : ∀ W, w.grownBy W (some G) → CellsAt W q (iv (zs hi)))
    (h2 : c.length = lo.length) (h3 : c.length = hi.length) (hm : ∀ x ∈ hi, x ≤ 1000000) (hl : c.length ≤ 1000000) :
    Calls Try.prog 56 #[.slice (some ⟨G, 0, none⟩) c.length cc, .slice p lo.length c1, .slice q hi.length c2] w (Nexted w G c lo hi) := by
  have HP := hid hp; have HQ := hid hq; have HG := hid hG; have H2 := hid h2; have H3 := hid h3; have HM := hid hm
  clear hp hq hG h2 h3 hm
  go_enter Try.func56, Try.ntmps56
  go_wp2_with fail
  go_loopw [7] (fun i wr => ∃ K : Nat, K ≤ c.length ∧ i = .int .i64 ((K : Int) - 1) ∧ nextL (c.drop K) (lo.drop K) (hi.drop K) = none ∧ Row wr G (zs (halfL c lo K)) ∧ w.grownBy wr (some G)) (fun i _ => (intOf i + 1).toNat)
  case atStart =>
    refine ⟨c.length, by omega, rfl, ?_, ?_, ⟨rfl, rfl, rfl, Nat.le_refl _, fun _ _ _ => rfl⟩⟩
    · rw [List.drop_length, H2.out, List.drop_length, ← H2.out, H3.out, List.drop_length]; rfl
    · unfold halfL; rw [List.take_length, H2.out, List.drop_length, List.append_nil]; exact HG.out
  case round =>
    obtain ⟨K, hk, rfl, hn, hr, hg⟩ := hrel
    have HN := hid hn; have HR := hid hr; have HGR := hid hg
    clear hn hr hg
    cases K with
    | zero =>
      have e1 : decide ((0 : Int) ≤ ((0 : Nat) : Int) - 1) = false := by decide
      have HE := hid (show nextL c lo hi = none by have := HN.out; simpa using this)
      go_wp2_with fail
      go_ret
      unfold Nexted
      rw [HE.out]
      exact ⟨HGR.out, rfl⟩
    | succ K =>
      have e0 : (((K + 1 : Nat) : Int) - 1) = (K : Int) := by omega
      rw [e0]
      clear e0
      have hkl : K < lo.length := by have := H2.out; omega
      have hkh : K < hi.length := by have := H3.out; omega
      have HNX := hid fun (h : c[K] < hi[K]) => nextL_at c lo hi K (by omega) H2.out H3.out HN.out h
      have HDN := hid fun (h : ¬ c[K] < hi[K]) => nextL_down c lo hi K (by omega) H2.out H3.out HN.out h
      have hlen := halfL_len c lo (K + 1) H2.out
      have y0 := HR.out.cell K (by rw [zs_len, hlen]; omega)
      have f0 := HR.out.frozen K
      obtain ⟨b1, o1, rfl, lt1, a1⟩ := HP.out wr HGR.out K (by rw [iv_length, zs_len]; exact hkl)
      obtain ⟨b2, o2, rfl, lt2, a2⟩ := HQ.out wr HGR.out K (by rw [iv_length, zs_len]; exact hkh)
      have d0 : wr.cell? ⟨G, K, none⟩ = some (.int .i64 (c[K] : Nat)) := by
        rw [y0]; simp only [zs, List.getElem_map]; rw [halfL_at c lo K H2.out (by omega)]
      have d1 : wr.cell? ⟨b1, o1 + K, none⟩ = some (.int .i64 (lo[K] : Nat)) := by have := a1; simp [iv, zs] at this; exact this
      have d2 : wr.cell? ⟨b2, o2 + K, none⟩ = some (.int .i64 (hi[K] : Nat)) := by have := a2; simp [iv, zs] at this; exact this
      have hb := HM.out hi[K] (List.getElem_mem hkh)
      have HC := hid (show ∀ x, (halfL c lo (K + 1)).set K x = c.take K ++ x :: lo.drop (K + 1) from halfL_set c lo K H2.out (by omega))
      have HLO := hid (show lo[K] :: lo.drop (K + 1) = lo.drop K from (List.drop_eq_getElem_cons hkl).symm)
      have HLEN := hid (show (zs (halfL c lo (K + 1))).length = c.length by rw [zs_len, hlen])
      clear y0 a1 a2 hlen
      generalize c[K] = x at d0 HNX HDN
      generalize lo[K] = y at d1 HLO
      generalize hi[K] = z at d2 hb HNX HDN
      by_cases hxz : x < z
      · have e2 : decide ((x : Int) < (z : Int)) = true := decide_eq_true (by omega)
        have e2' : decide (x < z) = true := decide_eq_true hxz
        have hx1 : (x : Int) ≤ 1000000 := by omega
        have HE := hid (HNX.out hxz)
        clear hxz hb HNX HDN
        go_wp2_with fail
        go_quiet (fail)
        go_wp2_with fail
        go_ret
        unfold Nexted
        rw [HE.out]
        refine ⟨grownBy_set HGR.out _ _ _, rfl, ?_⟩
        have := (HR.out.drewN nq).set K (by have := HLEN.out; omega) ((x : Int) + 1)
        rw [show (x : Int) + 1 = ((x + 1 : Nat) : Int) by omega, zs_set, HC.out] at this
        rw [show (x : Int) + 1 = ((x + 1 : Nat) : Int) by omega]
        exact this
      · have e2 : decide ((x : Int) < (z : Int)) = false := decide_eq_false (by omega)
        have e2' : decide (x < z) = false := decide_eq_false hxz
        have HE := hid (HDN.out hxz)
        clear hxz hb HNX HDN
        go_wp2_with fail
        go_quiet (fail)
        go_wp2_with fail
        go_roundw
        case rel =>
          refine ⟨K, by omega, by go_num, HE.out, ?_, grownBy_set HGR.out _ _ _⟩
          have := (HR.out.drewN nq).set K (by have := HLEN.out; omega) (y : Int)
          rw [zs_set, HC.out, HLO.out] at this
          exact this
        case measure => simp [intOf]
end Go.Proofs.Ytnmhdlincgefeaa.Sl
