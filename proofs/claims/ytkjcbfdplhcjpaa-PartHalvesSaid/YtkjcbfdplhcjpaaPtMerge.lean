/- Merge of part. -/
import Derived.Test.YtkjcbfdplhcjpaaPtSplit
namespace Go.Proofs.Ytkjcbfdplhcjpaa.Pt
open Go.RowKit
open Go.Lib (hid)
open Go.Proofs.Ytkjcbfdplhcjpaa.Ky
open Go.Proofs.Ytkjcbfdplhcjpaa.Bk

/-- two lists put together, the second one's records ahead of the first one's -/
def mergeR : List Rec → List Rec → List Rec
  | [], b => b
  | r :: a, [] => r :: a
  | r :: a, s :: b => if cmp r.1 s.1 = 0 then mergeR a (s :: b) else if cmp r.1 s.1 < 0 then r :: mergeR a (s :: b) else s :: mergeR (r :: a) b
termination_by a b => a.length + b.length
theorem merge_nil (a : List Rec) : mergeR a [] = a := by cases a <;> simp [mergeR]
theorem merge_left (b : List Rec) : mergeR [] b = b := by simp [mergeR]
theorem merge_eq {r s : Rec} {a b : List Rec} (h : cmp r.1 s.1 = 0) : mergeR (r :: a) (s :: b) = mergeR a (s :: b) := by rw [mergeR, if_pos h]
theorem merge_lt {r s : Rec} {a b : List Rec} (h : cmp r.1 s.1 < 0) : mergeR (r :: a) (s :: b) = r :: mergeR a (s :: b) := by rw [mergeR, if_neg (by omega), if_pos h]
theorem merge_gt {r s : Rec} {a b : List Rec} (h : 0 < cmp r.1 s.1) : mergeR (r :: a) (s :: b) = s :: mergeR (r :: a) b := by rw [mergeR, if_neg (by omega), if_neg (by omega)]
theorem merge_len (a b : List Rec) : (mergeR a b).length ≤ a.length + b.length := by
  induction a, b using mergeR.induct with
  | case1 b => simp [mergeR]
  | case2 r a => simp [mergeR]
  | case3 r a s b h ih => rw [merge_eq h]; simp at ih ⊢; omega
  | case4 r a s b h h2 ih => rw [merge_lt h2]; simp at ih ⊢; omega
  | case5 r a s b h h2 ih => rw [merge_gt (by omega)]; simp at ih ⊢; omega
theorem merge_mem {a b : List Rec} {x : Rec} (h : x ∈ mergeR a b) : x ∈ a ∨ x ∈ b := by
  induction a, b using mergeR.induct with
  | case1 b => rw [merge_left] at h; exact .inr h
  | case2 r a => rw [merge_nil] at h; exact .inl h
  | case3 r a s b hc ih =>
    rw [merge_eq hc] at h
    exact (ih h).elim (fun h => .inl (List.mem_cons_of_mem _ h)) .inr
  | case4 r a s b hc h2 ih =>
    rw [merge_lt h2] at h
    rcases List.mem_cons.1 h with rfl | h
    · exact .inl (List.mem_cons_self ..)
    · exact (ih h).elim (fun h => .inl (List.mem_cons_of_mem _ h)) .inr
  | case5 r a s b hc h2 ih =>
    rw [merge_gt (by omega)] at h
    rcases List.mem_cons.1 h with rfl | h
    · exact .inr (List.mem_cons_self ..)
    · exact (ih h).elim .inl (fun h => .inr (List.mem_cons_of_mem _ h))
/-- a list of the call's own, its points elsewhere -/
structure Out1 (N : Nat) (w : World) (v : Value) (M : List Rec) (xs : List Value) : Prop where
  own : w.ownsRow N 33 2 v M.length xs
  rc : RC (fun b => v.ownBlock = some b) w xs M
theorem Out1.push {N : Nat} {wr w3 w' : World} {v v' : Value} {M K : List Rec} {xs ys : List Value} (h : Out1 N wr v M xs) (hb : Below wr.heap.size wr w3)
    (hq : RC (fun b => N ≤ b) w3 ys K) (ho : Owns w3 N 33 2 v (M.length + K.length) (xs ++ ys) v' w') : Out1 N w' v' (M ++ K) (xs ++ ys) := by
  obtain ⟨h1, h2, h3⟩ := ho
  have hv3 : ∀ b, b < w3.heap.size → v'.ownBlock = some b → v.ownBlock = some b := fun b hlt hb => by
    rcases h3 with e | e
    · rw [← e]; exact hb
    · rw [hb] at e; injection e with e; omega
  have hk : Keep (fun b => v.ownBlock = some b) w3 w' := ⟨h2.size, fun b hlt hD => h2.block b hlt (fun e => hD e.symm)⟩
  refine ⟨by rw [List.length_append]; exact h1, RC.app ((h.rc.below hb).grown hk hv3) (hq.grown (keep_wide hk fun b e => (h.own.lt b e).1) (fun b hlt e => (h.own.lt b (hv3 b hlt e)).1))⟩
/-- a list that came in, known at the call's beginning -/
def InR (w : World) (v : Value) (L : List Rec) : Prop := ∃ p c, v = .slice p L.length c ∧ L.length ≤ c ∧ Rs (fun b => w.heap.size ≤ b) w p L
theorem InR.tail {w : World} {p : Option Addr} {r : Rec} {L : List Rec} {c : Nat} (h : Rs (fun b => w.heap.size ≤ b) w p (r :: L)) (hc : (r :: L).length ≤ c) :
    ∃ P c', (∀ W : World, (Instr.slice 40 (.slice p (r :: L).length c) (some (.int .i64 1)) none none).run Try.prog W = .ok (.slice P L.length c') W) ∧ InR w (.slice P L.length c') L := by
  have hc' : L.length + 1 ≤ c := hc
  obtain ⟨P, hP, hr⟩ := slice_back p (r :: L).length c 1 (by simp) hc
  have hl1 : (r :: L).length = L.length + 1 := rfl
  refine ⟨P, c - 1, fun W => by have := hr W; simpa using this, P, c - 1, rfl, by omega, ?_⟩
  rcases hP with rfl | hP
  · exact h.drop 1 (by simp)
  · have hP' : L.length + 1 ≤ 1 := hP
    have : L = [] := List.length_eq_zero_iff.1 (by omega)
    subst this
    exact Rs.nil _
def MR (w : World) (R : List Rec) (m : Nat) (s0 s1 s5 : Value) (wr : World) : Prop :=
  ∃ (la lb O : List Rec) (xs : List Value), InR w s0 la ∧ InR w s1 lb ∧ Out1 w.heap.size wr s5 O xs ∧ O ++ mergeR la lb = R ∧ (bigR la ∧ bigR lb) ∧ O.length + la.length + lb.length ≤ m ∧ Below w.heap.size w wr
theorem big_tail {r : Rec} {L : List Rec} (h : bigR (r :: L)) : bigR L := ⟨by have := h.1; simp at this; omega, fun x hx => h.2 x (List.mem_cons_of_mem _ hx)⟩
theorem rmake0 (n : Nat) (h : n ≤ 1000000) (w : World) :
    (Instr.makeSlice 40 (.int .i64 0) (.int .i64 (n : Int))).run Try.prog w = .ok (.slice (some ⟨w.heap.size, 0, none⟩) 0 n) (w.alloc (.cells (madeCells (Value.agg #[.slice none 0 0, .string ⟨#[]⟩]).cells (n * 2)) 33)) := by
  obtain ⟨i, hi, hz, hs, hb⟩ := info_parts rinfo
  have := run_makeSlice (P := Try.prog) (w := w) 40 33 i _ Try.underlying40 hi hz .i64 .i64 0 n (by omega) (by omega) (by rw [hs]; omega) (by rw [hb]; omega) (by omega)
  rw [hs] at this
  exact this
theorem out_new (w : World) (n : Nat) (h : n ≤ 1000000) : Out1 w.heap.size (w.alloc (.cells (madeCells (Value.agg #[.slice none 0 0, .string ⟨#[]⟩]).cells (n * 2)) 33)) (.slice (some ⟨w.heap.size, 0, none⟩) 0 n) [] [] :=
  ⟨⟨rfl, .inr ⟨w.heap.size, n, _, rfl, Nat.le_refl _, heap_alloc_new _ _, Nat.zero_le _, by unfold maxLen; omega, by rw [size_madeCells], rfl⟩⟩, RC.nil⟩
theorem Out1.drewN {N : Nat} {w : World} {v : Value} {M : List Rec} {xs : List Value} (h : Out1 N w v M xs) (n : Nat) : Out1 N (w.drewN n) v M xs := ⟨own_below h.own (below_drewN (Below.refl _ _) n), h.rc.below (below_drewN (Below.refl _ _) n)⟩
theorem rs_cells {D : Nat → Prop} {w : World} {p : Option Addr} {L : List Rec} (h : Rs D w p L) : ∃ xs, RC D w xs L ∧ ReadAt w p xs := by
  obtain ⟨xs, h1, h2⟩ := h
  exact ⟨xs, h1, fun j u hj => by
    obtain ⟨b, off, e, hl, _, hc⟩ := h2 j u hj
    exact ⟨b, off, e, hl, hc⟩⟩
def lenV : Value → Nat
  | .slice _ n _ => n
  | _ => 0
def MrgPost (w : World) (R : List Rec) (e : Ending) (w' : World) : Prop := ∃ p, e = .returned (.slice p R.length R.length) ∧ Rs (Lt w.heap.size) w' p R ∧ Below w.heap.size w w'
theorem merge_big {A B : List Rec} (ha : bigR A) (hb : bigR B) (hab : A.length + B.length ≤ 1000) : bigR (mergeR A B) :=
  ⟨Nat.le_trans (merge_len A B) hab, fun r hr => (merge_mem hr).elim (ha.2 r) (hb.2 r)⟩
set_option maxRecDepth 100000 in
set_option maxHeartbeats 4000000 in
theorem merge_ok {D D' : Nat → Prop} (A B : List Rec) (p q : Option Addr) (c c' : Nat) (w : World) (hp : Rs D w p A) (hq : Rs D' w q B) (ha : bigR A) (hb : bigR B) (hab : A.length + B.length ≤ 1000) (hc : A.length ≤ c) (hc' : B.length ≤ c') :
    Calls Try.prog 55 #[.slice p A.length c, .slice q B.length c'] w (MrgPost w (mergeR A B)) := by
  have HRB := hid (merge_big ha hb hab)
  have HA0 : Hid (InR w (.slice p A.length c) A) := hid ⟨p, c, rfl, hc, hp.less fun b hb h => absurd hb (by omega)⟩
  have HB0 : Hid (InR w (.slice q B.length c') B) := hid ⟨q, c', rfl, hc', hq.less fun b hb h => absurd hb (by omega)⟩
  have HBIG := hid (And.intro ha hb)
  obtain ⟨R, hR⟩ : ∃ R, mergeR A B = R := ⟨_, rfl⟩
  have hmk := rmake0 (A.length + B.length) (by omega) w
  have HO0 := hid (out_new w (A.length + B.length) (by omega))
  have HW0 := hid (below_alloc w (.cells (madeCells (Value.agg #[.slice none 0 0, .string ⟨#[]⟩]).cells ((A.length + B.length) * 2)) 33))
  have HAB := hid hab
  rw [hR] at HRB ⊢
  have HR := hid hR
  have e0 : ((A.length : Int) + (B.length : Int)) = ((A.length + B.length : Nat) : Int) := by omega
  rw [← e0] at hmk
  have e1 : IntKind.i64.wrap ((A.length : Int) + (B.length : Int)) = (A.length : Int) + (B.length : Int) := Go.IntWalk.i64_in _ (by omega)
  obtain ⟨W, hW⟩ : ∃ W, w.alloc (.cells (madeCells (Value.agg #[.slice none 0 0, .string ⟨#[]⟩]).cells ((A.length + B.length) * 2)) 33) = W := ⟨_, rfl⟩
  rw [hW] at hmk HO0 HW0
  clear hp hq ha hb hc hc' hR hab e0 hW
  go_enter Try.func55, Try.ntmps55
  go_wp2_with fail
  clear hmk e1
  go_loopw [0, 1, 5] (fun s0 s1 s5 wr => MR w R (A.length + B.length) s0 s1 s5 wr) (fun s0 s1 _ _ => lenV s0 + lenV s1)
  case atStart => exact ⟨A, B, [], [], HA0.out, HB0.out, HO0.out, HR.out, HBIG.out, by simp, HW0.out⟩
  case round =>
    obtain ⟨la, lb, O, xs, ⟨pa, ca, rfl, hca, ha⟩, ⟨pb, cb, rfl, hcb, hbb⟩, ho, hres, hbig, hlen, hb⟩ := hrel
    have HA := hid ha; have HBB := hid hbb; have HO := hid ho; have HRES := hid hres; have HBG := hid hbig; have HLEN := hid (Nat.le_trans hlen HAB.out); have HL2 := hid hlen; have HB := hid hb
    have HCA := hid hca; have HCB := hid hcb
    clear ha hbb ho hres hbig hlen hb hca hcb HA0 HB0 HO0 HW0
    obtain ⟨n, hn⟩ : ∃ n, la.length = n := ⟨_, rfl⟩
    obtain ⟨m, hm⟩ : ∃ m, lb.length = m := ⟨_, rfl⟩
    have HN := hid hn; have HM := hid hm
    rw [hn, hm]
    clear hn hm
    by_cases h1 : 0 < n
    · have e1 : decide ((0 : Int) < (n : Int)) = true := by simp; omega
      have dn : decide (0 < n) = true := by simp; omega
      by_cases h2 : 0 < m
      · have e2 : decide ((0 : Int) < (m : Int)) = true := by simp; omega
        have dm : decide (0 < m) = true := by simp; omega
        obtain ⟨r, la', rfl⟩ : ∃ r la', la = r :: la' := by
          cases la with
          | nil => exact absurd HN.out (by simp; omega)
          | cons r l => exact ⟨r, l, rfl⟩
        obtain ⟨s, lb', rfl⟩ : ∃ s lb', lb = s :: lb' := by
          cases lb with
          | nil => exact absurd HM.out (by simp; omega)
          | cons r l => exact ⟨r, l, rfl⟩
        obtain ⟨PA, cA, hra, ⟨pa', ca', ea, hca', hta⟩⟩ := InR.tail HA.out HCA.out
        cases ea
        obtain ⟨PB, cB, hrb, ⟨pb', cb', eb, hcb', htb⟩⟩ := InR.tail HBB.out HCB.out
        cases eb
        rw [HN.out] at hra
        rw [HM.out] at hrb
        have HTA := hid (And.intro hta hca'); have HTB := hid (And.intro htb hcb')
        obtain ⟨b1, o1, q1, k1, rfl, hb1, d1, d2, hq1⟩ := (HA.out.below HB.out).at 0 (by simp)
        obtain ⟨b2, o2, q2, k2, rfl, hb2, d3, d4, hq2⟩ := (HBB.out.below HB.out).at 0 (by simp)
        obtain ⟨x, t⟩ := r
        obtain ⟨y, u⟩ := s
        have d1' : wr.cell? ⟨b1, o1, none⟩ = some (.slice q1 x.length k1) := by simpa using d1
        have d2' : wr.cell? ⟨b1, o1 + 1, none⟩ = some (.string t) := by simpa using d2
        have d3' : wr.cell? ⟨b2, o2, none⟩ = some (.slice q2 y.length k2) := by simpa using d3
        have d4' : wr.cell? ⟨b2, o2 + 1, none⟩ = some (.string u) := by simpa using d4
        have hq1' : PtD (fun b => w.heap.size ≤ b) wr q1 x := hq1
        have hq2' : PtD (fun b => w.heap.size ≤ b) wr q2 y := hq2
        have HQ1 := hid hq1'; have HQ2 := hid hq2'
        have hx := (HBG.out.1.2 (x, t) (List.mem_cons_self ..)).1
        have HS := hid fun (m : Nat) => compare_ok x y q1 q2 k1 k2 (wr.drewN m) (hq1'.pt.drewN m) (hq2'.pt.drewN m) (by simp at hx; omega)
        have HEQ := hid fun (h : cmp x y = 0) => (show O ++ mergeR la' ((y, u) :: lb') = R by rw [← HRES.out, merge_eq h])
        have HLT := hid fun (h : cmp x y < 0) => (show (O ++ [(x, t)]) ++ mergeR la' ((y, u) :: lb') = R by rw [← HRES.out, merge_lt h, List.append_assoc]; rfl)
        have HGT := hid fun (h : 0 < cmp x y) => (show (O ++ [(y, u)]) ++ mergeR ((x, t) :: la') lb' = R by rw [← HRES.out, merge_gt h, List.append_assoc]; rfl)
        have HNA := hid (show la'.length + 1 = n from HN.out)
        have HMA := hid (show lb'.length + 1 = m from HM.out)
        have n0 : (0 : Int) < (n : Int) := by omega
        have m0 : (0 : Int) < (m : Int) := by omega
        clear d1 d2 d3 d4 hq1 hq2 hq1' hq2' hx hta htb hca' hcb'
        have HB1L := hid hb1; have HB2L := hid hb2
        clear hb1 hb2
        generalize hz : cmp x y = z at HS HEQ HLT HGT
        clear hz
        have HINA := hid (show InR w (.slice (some ⟨b1, o1, none⟩) n ca) ((x, t) :: la') from ⟨_, ca, by rw [HN.out], HCA.out, HA.out⟩)
        have HINB := hid (show InR w (.slice (some ⟨b2, o2, none⟩) m cb) ((y, u) :: lb') from ⟨_, cb, by rw [HM.out], HCB.out, HBB.out⟩)
        have HL3 := hid (show O.length + [(x, t)].length + la'.length + ((y, u) :: lb').length ≤ A.length + B.length by have := HL2.out; simp at this ⊢; omega)
        have HL4 := hid (show O.length + [(y, u)].length + ((x, t) :: la').length + lb'.length ≤ A.length + B.length by have := HL2.out; simp at this ⊢; omega)
        have HL5 := hid (show O.length + la'.length + ((y, u) :: lb').length ≤ A.length + B.length by have := HL2.out; simp at this ⊢; omega)
        rcases Int.lt_trichotomy z 0 with hz | hz | hz
        · have f1 : (z == 0) = false := by simp; omega
          have f2 : decide (z < 0) = true := by simp; omega
          replace HLT := hid (HLT.out hz)
          clear hz HEQ HGT
          go_wp2_with fail
          go_quiet ((go_at_call 89; exact quiet_eq (HS.out _)))
          go_wp2_with fail
          generalize hV : wr.drewN _ = V
          have hbV : Below wr.heap.size wr V := by rw [← hV]; exact below_drewN (Below.refl _ _) _
          have HBV := hid hbV
          have c1 : V.cell? ⟨b1, o1, none⟩ = some (.slice q1 x.length k1) := (hbV.cell (p := ⟨b1, o1, none⟩) HB1L.out).trans d1'
          have c2 : V.cell? ⟨b1, o1 + 1, none⟩ = some (.string t) := (hbV.cell (p := ⟨b1, o1 + 1, none⟩) HB1L.out).trans d2'
          have HBa := hid (hbV.drew.alloc hbV.drew.size (.cells #[.slice q1 x.length k1, .string t] 33))
          have HAP := hid (rec_own (w := V.drew.alloc (.cells #[.slice q1 x.length k1, .string t] 33)) 40 u5 O.length xs (own_below HO.out.own HBa.out) (some ⟨V.heap.size, 0, none⟩) 1 1 [.slice q1 x.length k1, .string t] (read_new V.drew _ _ _) rfl (one_two _ _ rfl rfl) (by have := HLEN.out; omega) (Nat.le_trans HB.out.size HBa.out.size))
          have HPU := hid fun (v' : Value) (w4 : World) (hF : Owns (V.drew.alloc (.cells #[.slice q1 x.length k1, .string t] 33)) w.heap.size 33 2 u5 (O.length + 1) (xs ++ [.slice q1 x.length k1, .string t]) v' w4) => (show Out1 w.heap.size w4 v' (O ++ [(x, t)]) (xs ++ [.slice q1 x.length k1, .string t]) ∧ Below w.heap.size w w4 from
            ⟨HO.out.push HBa.out (RC.one (HQ1.out.keep (.below HBa.out))) hF, (HB.out.trans (HBa.out.mono HB.out.size)).grown hF.2.1 (Nat.le_trans HB.out.size HBa.out.size) (fun j hj => (HO.out.own.lt j hj).1)⟩)
          clear hV hbV d1' d2' d3' d4'
          go_region_law (refine step_app (by rfl) _ _ _ (by rfl) (by rfl) (by rfl) HAP.out ?_; intro v' w4 hF; have HP4 := hid (HPU.out _ _ hF); clear hF)
          all_goals
            go_wp2_with fail
            simp only [Act.put, List.setIfInBounds_toArray]
            go_roundw
            case rel =>
              (repeat apply Exists.intro)
              refine ⟨?_, rfl⟩
              exact ⟨la', _, _, _, ⟨PA, cA, rfl, HTA.out.2, HTA.out.1⟩, HINB.out, HP4.out.1, HLT.out, ⟨big_tail HBG.out.1, HBG.out.2⟩, by rw [List.length_append]; exact HL3.out, HP4.out.2⟩
            case measure => simp [lenV]; have := HNA.out; omega
        · have f1 : (z == 0) = true := by simp; omega
          replace HEQ := hid (HEQ.out hz)
          clear hz HLT HGT
          go_wp2_with fail
          go_quiet ((go_at_call 89; exact quiet_eq (HS.out _)))
          go_wp2_with fail
          go_roundw
          case rel => exact ⟨la', _, O, xs, ⟨PA, cA, rfl, HTA.out.2, HTA.out.1⟩, HINB.out, HO.out.drewN _, HEQ.out, ⟨big_tail HBG.out.1, HBG.out.2⟩, HL5.out, below_drewN HB.out _⟩
          case measure => simp [lenV]; have := HNA.out; omega
        · have f1 : (z == 0) = false := by simp; omega
          have f2 : decide (z < 0) = false := by simp; omega
          replace HGT := hid (HGT.out hz)
          clear hz HEQ HLT
          go_wp2_with fail
          go_quiet ((go_at_call 89; exact quiet_eq (HS.out _)))
          go_wp2_with fail
          generalize hV : wr.drewN _ = V
          have hbV : Below wr.heap.size wr V := by rw [← hV]; exact below_drewN (Below.refl _ _) _
          have HBV := hid hbV
          have c1 : V.cell? ⟨b2, o2, none⟩ = some (.slice q2 y.length k2) := (hbV.cell (p := ⟨b2, o2, none⟩) HB2L.out).trans d3'
          have c2 : V.cell? ⟨b2, o2 + 1, none⟩ = some (.string u) := (hbV.cell (p := ⟨b2, o2 + 1, none⟩) HB2L.out).trans d4'
          have HBa := hid (hbV.drew.alloc hbV.drew.size (.cells #[.slice q2 y.length k2, .string u] 33))
          have HAP := hid (rec_own (w := V.drew.alloc (.cells #[.slice q2 y.length k2, .string u] 33)) 40 u5 O.length xs (own_below HO.out.own HBa.out) (some ⟨V.heap.size, 0, none⟩) 1 1 [.slice q2 y.length k2, .string u] (read_new V.drew _ _ _) rfl (one_two _ _ rfl rfl) (by have := HLEN.out; omega) (Nat.le_trans HB.out.size HBa.out.size))
          have HPU := hid fun (v' : Value) (w4 : World) (hF : Owns (V.drew.alloc (.cells #[.slice q2 y.length k2, .string u] 33)) w.heap.size 33 2 u5 (O.length + 1) (xs ++ [.slice q2 y.length k2, .string u]) v' w4) => (show Out1 w.heap.size w4 v' (O ++ [(y, u)]) (xs ++ [.slice q2 y.length k2, .string u]) ∧ Below w.heap.size w w4 from
            ⟨HO.out.push HBa.out (RC.one (HQ2.out.keep (.below HBa.out))) hF, (HB.out.trans (HBa.out.mono HB.out.size)).grown hF.2.1 (Nat.le_trans HB.out.size HBa.out.size) (fun j hj => (HO.out.own.lt j hj).1)⟩)
          clear hV hbV d1' d2' d3' d4'
          go_region_law (refine step_app (by rfl) _ _ _ (by rfl) (by rfl) (by rfl) HAP.out ?_; intro v' w4 hF; have HP4 := hid (HPU.out _ _ hF); clear hF)
          all_goals
            go_wp2_with fail
            simp only [Act.put, List.setIfInBounds_toArray]
            go_roundw
            case rel =>
              (repeat apply Exists.intro)
              refine ⟨?_, rfl⟩
              exact ⟨_, lb', _, _, HINA.out, ⟨PB, cB, rfl, HTB.out.2, HTB.out.1⟩, HP4.out.1, HGT.out, ⟨HBG.out.1, big_tail HBG.out.2⟩, by rw [List.length_append]; exact HL4.out, HP4.out.2⟩
            case measure => simp [lenV]; have := HMA.out; omega
      · have e2 : decide ((0 : Int) < (m : Int)) = false := by simp; omega
        have dm : decide (0 < m) = false := by simp; omega
        have HMG : (O ++ la) ++ lb = R := by
          have hz : lb = [] := List.length_eq_zero_iff.1 (by have := HM.out; omega)
          rw [← HRES.out, hz, merge_nil, List.append_nil]
        have HAB := hid HMG
        clear HMG h1 h2
        obtain ⟨ys1, hy1, hra1⟩ := rs_cells (HA.out.below HB.out)
        have HY1 := hid hy1
        have HO1 := hid (rec_own (w := wr) 40 u5 O.length xs HO.out.own pa n ca ys1 hra1 (by rw [hy1.1, HN.out]) hy1.oneCell (by have := HLEN.out; have := HN.out; have := HM.out; omega) HB.out.size)
        clear hy1 hra1
        go_wp2_with (at_builtin; refine wpList_app rfl _ _ _ rfl rfl rfl HO1.out ?_)
        intro v1 w1 hF
        have HP1 := hid (HO.out.push (Below.refl _ _) HY1.out (show Owns wr w.heap.size 33 2 u5 (O.length + la.length) (xs ++ ys1) v1 w1 by rw [HN.out]; exact hF))
        have HB1 := hid (show Below w.heap.size w w1 from HB.out.grown hF.2.1 HB.out.size (fun j hj => (HO.out.own.lt j hj).1))
        clear hF HO1 HY1
        obtain ⟨OA, hOA⟩ : ∃ OA, O ++ la = OA := ⟨_, rfl⟩
        obtain ⟨XA, hXA⟩ : ∃ XA, xs ++ ys1 = XA := ⟨_, rfl⟩
        have HOL := hid (show OA.length = O.length + la.length by rw [← hOA, List.length_append])
        rw [hOA, hXA] at HP1
        rw [hOA] at HAB
        clear hOA hXA
        obtain ⟨ys2, hy2, hra2⟩ := rs_cells (HBB.out.below HB1.out)
        have HY2 := hid hy2
        have HO2 := hid (rec_own (w := w1) 40 v1 OA.length XA HP1.out.own pb m cb ys2 hra2 (by rw [hy2.1, HM.out]) hy2.oneCell (by have := HLEN.out; have := HN.out; have := HM.out; have := HOL.out; omega) HB1.out.size)
        clear hy2 hra2
        go_wp2_with (at_builtin; refine wpList_app rfl _ _ _ rfl rfl rfl HO2.out ?_)
        intro v2 w2 hF
        have hp2 := HP1.out.push (Below.refl _ _) HY2.out (show Owns w1 w.heap.size 33 2 v1 (OA.length + lb.length) (XA ++ ys2) v2 w2 by rw [HM.out]; exact hF)
        have HB2 := hid (show Below w.heap.size w w2 from HB1.out.grown hF.2.1 HB1.out.size (fun j hj => (HP1.out.own.lt j hj).1))
        clear hF HO2 HY2
        rw [HAB.out] at hp2
        obtain ⟨p2, c2, rfl, hr2⟩ := Rs.of_row hp2.own (hp2.rc.less (D' := fun _ => False) fun b _ hb => hb.elim) (fun j _ => id)
        have HRS := hid (records_ok R p2 c2 w2 hr2 HRB.out)
        clear hp2 hr2
        go_wp2_with fail
        refine HRS.out.mono ?_
        rintro e w3 ⟨p3, rfl, h3, hb3⟩
        have H3 := hid (h3.less (D' := Lt w.heap.size) fun b _ hb => Nat.lt_of_lt_of_le hb HB2.out.size)
        have HB3 := hid (HB2.out.trans (hb3.mono HB2.out.size))
        clear h3 hb3
        go_wp2_with fail
        go_ret
        exact ⟨p3, rfl, H3.out, HB3.out⟩
    · have e1 : decide ((0 : Int) < (n : Int)) = false := by simp; omega
      have dn : decide (0 < n) = false := by simp; omega
      have HMG : (O ++ la) ++ lb = R := by
        have hz : la = [] := List.length_eq_zero_iff.1 (by have := HN.out; omega)
        rw [← HRES.out, hz, merge_left, List.append_nil]
      have HAB := hid HMG
      clear HMG h1
      obtain ⟨ys1, hy1, hra1⟩ := rs_cells (HA.out.below HB.out)
      have HY1 := hid hy1
      have HO1 := hid (rec_own (w := wr) 40 u5 O.length xs HO.out.own pa n ca ys1 hra1 (by rw [hy1.1, HN.out]) hy1.oneCell (by have := HLEN.out; have := HN.out; have := HM.out; omega) HB.out.size)
      clear hy1 hra1
      go_wp2_with (at_builtin; refine wpList_app rfl _ _ _ rfl rfl rfl HO1.out ?_)
      intro v1 w1 hF
      have HP1 := hid (HO.out.push (Below.refl _ _) HY1.out (show Owns wr w.heap.size 33 2 u5 (O.length + la.length) (xs ++ ys1) v1 w1 by rw [HN.out]; exact hF))
      have HB1 := hid (show Below w.heap.size w w1 from HB.out.grown hF.2.1 HB.out.size (fun j hj => (HO.out.own.lt j hj).1))
      clear hF HO1 HY1
      obtain ⟨OA, hOA⟩ : ∃ OA, O ++ la = OA := ⟨_, rfl⟩
      obtain ⟨XA, hXA⟩ : ∃ XA, xs ++ ys1 = XA := ⟨_, rfl⟩
      have HOL := hid (show OA.length = O.length + la.length by rw [← hOA, List.length_append])
      rw [hOA, hXA] at HP1
      rw [hOA] at HAB
      clear hOA hXA
      obtain ⟨ys2, hy2, hra2⟩ := rs_cells (HBB.out.below HB1.out)
      have HY2 := hid hy2
      have HO2 := hid (rec_own (w := w1) 40 v1 OA.length XA HP1.out.own pb m cb ys2 hra2 (by rw [hy2.1, HM.out]) hy2.oneCell (by have := HLEN.out; have := HN.out; have := HM.out; have := HOL.out; omega) HB1.out.size)
      clear hy2 hra2
      go_wp2_with (at_builtin; refine wpList_app rfl _ _ _ rfl rfl rfl HO2.out ?_)
      intro v2 w2 hF
      have hp2 := HP1.out.push (Below.refl _ _) HY2.out (show Owns w1 w.heap.size 33 2 v1 (OA.length + lb.length) (XA ++ ys2) v2 w2 by rw [HM.out]; exact hF)
      have HB2 := hid (show Below w.heap.size w w2 from HB1.out.grown hF.2.1 HB1.out.size (fun j hj => (HP1.out.own.lt j hj).1))
      clear hF HO2 HY2
      rw [HAB.out] at hp2
      obtain ⟨p2, c2, rfl, hr2⟩ := Rs.of_row hp2.own (hp2.rc.less (D' := fun _ => False) fun b _ hb => hb.elim) (fun j _ => id)
      have HRS := hid (records_ok R p2 c2 w2 hr2 HRB.out)
      clear hp2 hr2
      go_wp2_with fail
      refine HRS.out.mono ?_
      rintro e w3 ⟨p3, rfl, h3, hb3⟩
      have H3 := hid (h3.less (D' := Lt w.heap.size) fun b _ hb => Nat.lt_of_lt_of_le hb HB2.out.size)
      have HB3 := hid (HB2.out.trans (hb3.mono HB2.out.size))
      clear h3 hb3
      go_wp2_with fail
      go_ret
      exact ⟨p3, rfl, H3.out, HB3.out⟩
end Go.Proofs.Ytkjcbfdplhcjpaa.Pt
