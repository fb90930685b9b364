/- AtlasAny walked. -/
import Derived.Test.YtlkejjclmamlaaaAtBackW
namespace Go.Proofs.Ytlkejjclmamlaaa
open Go.RowKit
open Go.Lib (hid)
open Go.ChangeShapes Go.WideShapes Go.Joins
open Go.Proofs.Ytlkejjclmamlaaa.Ky Go.Proofs.Ytlkejjclmamlaaa.Bk Go.Proofs.Ytlkejjclmamlaaa.At

theorem hasN_mem {M : List Rec} (hu : upL M) (k : List Nat) : hasN M k = true ↔ ∃ r ∈ M, r.1 = k := by
  constructor
  · intro h
    obtain ⟨hl, he⟩ := hasN_iff.1 h
    exact ⟨_, List.getElem_mem hl, he⟩
  · rintro ⟨r, hr, he⟩
    obtain ⟨i, hi, rfl⟩ := List.getElem_of_mem hr
    have e := up_at hu hi he
    exact hasN_iff.2 ⟨by omega, by simp only [e]; exact he⟩
theorem mem_put {M : List Rec} (hu : upL M) (x : Rec) (r : Rec) : r ∈ putR M x ↔ r = x ∨ (r ∈ M ∧ r.1 ≠ x.1) := by
  obtain ⟨n, hn⟩ : ∃ n, lessN M x.1 = n := ⟨_, rfl⟩
  have hs := (lessN_spec M x.1).1
  have hnl := lessN_le M x.1
  rw [hn] at hs hnl
  have hself : ∀ l : List Nat, ¬ cmp l l < 0 := fun l h => by have := cmp_flip l l; omega
  unfold putR
  simp only [hn]
  rw [List.mem_append, List.mem_cons]
  constructor
  · rintro (h | h | h)
    · right
      refine ⟨List.mem_of_mem_take h, fun e => ?_⟩
      obtain ⟨i, hi, rfl⟩ := List.getElem_of_mem h
      rw [List.length_take] at hi
      rw [List.getElem_take] at e
      have := hs i (by omega) (by omega)
      rw [e] at this
      exact hself _ this
    · exact .inl h
    · right
      refine ⟨List.mem_of_mem_drop h, fun e => ?_⟩
      cases hh : hasN M x.1 with
      | false =>
        have := (hasN_mem hu x.1).2 ⟨r, List.mem_of_mem_drop h, e⟩
        rw [hh] at this; cases this
      | true =>
        rw [hh] at h
        obtain ⟨hl, he⟩ := hasN_iff.1 hh
        simp only [hn] at he hl
        obtain ⟨i, hi, rfl⟩ := List.getElem_of_mem h
        simp only [if_true, List.length_drop] at hi
        simp only [if_true, List.getElem_drop] at e
        have := List.pairwise_iff_getElem.1 hu n (n + 1 + i) hl (by omega) (by omega)
        rw [he, e] at this
        exact hself _ this
  · rintro (h | ⟨h, hne⟩)
    · exact .inr (.inl h)
    · obtain ⟨j, hj, rfl⟩ := List.getElem_of_mem h
      by_cases hjn : j < n
      · left
        rw [List.mem_take_iff_getElem]
        exact ⟨j, by omega, rfl⟩
      · right; right
        cases hh : hasN M x.1 with
        | false =>
          rw [List.mem_drop_iff_getElem]
          exact ⟨j - n, by simp; omega, by congr 1; simp; omega⟩
        | true =>
          obtain ⟨hl, he⟩ := hasN_iff.1 hh
          simp only [hn] at he hl
          have : j ≠ n := fun e => hne (by subst e; exact he)
          rw [List.mem_drop_iff_getElem]
          exact ⟨j - (n + 1), by simp; omega, by congr 1; simp; omega⟩
theorem up_ext : ∀ {A B : List Rec}, upL A → upL B → (∀ r, r ∈ A ↔ r ∈ B) → A = B
  | [], [], _, _, _ => rfl
  | [], b :: B, _, _, h => by have := (h b).2 (List.mem_cons_self ..); cases this
  | a :: A, [], _, _, h => by have := (h a).1 (List.mem_cons_self ..); cases this
  | a :: A, b :: B, h1, h2, h => by
    have hself : ∀ l : List Nat, ¬ cmp l l < 0 := fun l h => by have := cmp_flip l l; omega
    have p1 := List.pairwise_cons.1 h1
    have p2 := List.pairwise_cons.1 h2
    have hab : a = b := by
      rcases List.mem_cons.1 ((h a).1 (List.mem_cons_self ..)) with e | e
      · exact e
      · rcases List.mem_cons.1 ((h b).2 (List.mem_cons_self ..)) with e' | e'
        · exact e'.symm
        · have g1 := p2.1 a e
          have g2 := p1.1 b e'
          have := cmp_flip a.1 b.1
          omega
    subst hab
    refine congrArg (a :: ·) (up_ext p1.2 p2.2 fun r => ?_)
    constructor
    · intro hr
      rcases List.mem_cons.1 ((h r).1 (List.mem_cons_of_mem _ hr)) with e | e
      · subst e; exact absurd (p1.1 r hr) (hself _)
      · exact e
    · intro hr
      rcases List.mem_cons.1 ((h r).2 (List.mem_cons_of_mem _ hr)) with e | e
      · subst e; exact absurd (p2.1 r hr) (hself _)
      · exact e
theorem up_step {d : Int} {M : List Rec} (hu : upL M) (r : Rec) : upL (stepP d M r) := by
  unfold stepP
  split
  · exact up_put hu r
  · exact hu
/-- what is there when some records were put -/
def FP (d : Int) (xs : List Rec) : List Rec := xs.foldl (stepP d) []
theorem FP_snoc (d : Int) (xs : List Rec) (x : Rec) : FP d (xs ++ [x]) = stepP d (FP d xs) x := by simp [FP]
theorem FP_take (d : Int) (L : List Rec) (j : Nat) (hj : j < L.length) : FP d (L.take (j + 1)) = stepP d (FP d (L.take j)) L[j] := by
  rw [List.take_succ_eq_append_getElem hj, FP_snoc]
theorem FP_up (d : Int) (L : List Rec) (j : Nat) (hj : j ≤ L.length) : upL (FP d (L.take j)) := by
  induction j with
  | zero => exact List.Pairwise.nil
  | succ j ih => rw [FP_take d L j hj]; exact up_step (ih (by omega)) _
theorem FP_len (d : Int) (L : List Rec) (j : Nat) (hj : j ≤ L.length) : (FP d (L.take j)).length ≤ j := by
  induction j with
  | zero => exact Nat.le_refl _
  | succ j ih =>
    rw [FP_take d L j hj]
    have := stepP_len d (FP d (L.take j)) L[j]
    have := ih (by omega)
    omega
/-- all Keys of the first j records are apart -/
def apartK (L : List Rec) (j : Nat) : Prop := ∀ a b, (ha : a < L.length) → (hb : b < L.length) → a < b → b < j → L[a].1 ≠ L[b].1
theorem FP_mem (d : Int) (L : List Rec) (j : Nat) (hj : j ≤ L.length) (ha : apartK L j) (r : Rec) : r ∈ FP d (L.take j) ↔ r ∈ L.take j ∧ recB r.1 r.2 d = true := by
  induction j with
  | zero => simp [FP]
  | succ j ih =>
    have ihj := ih (by omega) (fun a b h1 h2 h3 h4 => ha a b h1 h2 h3 (by omega))
    rw [FP_take d L j hj, List.take_succ_eq_append_getElem hj, List.mem_append, List.mem_singleton]
    unfold stepP
    split
    · rename_i hr
      rw [mem_put (FP_up d L j (by omega)), ihj]
      constructor
      · rintro (h | ⟨⟨h1, h2⟩, _⟩)
        · subst h; exact ⟨.inr rfl, hr⟩
        · exact ⟨.inl h1, h2⟩
      · rintro ⟨h1 | h1, h2⟩
        · right
          refine ⟨⟨h1, h2⟩, fun e => ?_⟩
          obtain ⟨i, hi, rfl⟩ := List.getElem_of_mem h1
          rw [List.length_take] at hi
          rw [List.getElem_take] at e
          exact ha i j (by omega) (by omega) (by omega) (by omega) e
        · exact .inl h1
    · rename_i hr
      rw [ihj]
      constructor
      · rintro ⟨h1, h2⟩; exact ⟨.inl h1, h2⟩
      · rintro ⟨h1 | h1, h2⟩
        · exact ⟨h1, h2⟩
        · subst h1; exact absurd h2 hr
theorem apart_rev {L : List Rec} (h : apartK L L.length) : apartK L.reverse L.reverse.length := fun a b ha hb hab _ e => by
  rw [List.length_reverse] at ha hb
  rw [List.getElem_reverse, List.getElem_reverse] at e
  exact h (L.length - 1 - b) (L.length - 1 - a) (by omega) (by omega) (by omega) (by omega) e.symm
theorem FP_rev (d : Int) (L : List Rec) (h : apartK L L.length) : FP d (L.take L.length) = FP d (L.reverse.take L.reverse.length) := by
  refine up_ext (FP_up d L _ (Nat.le_refl _)) (FP_up d L.reverse _ (Nat.le_refl _)) fun r => ?_
  rw [FP_mem d L _ (Nat.le_refl _) h, FP_mem d L.reverse _ (Nat.le_refl _) (apart_rev h), List.take_length, List.take_length, List.mem_reverse]
/-- two atlases, apart from one another -/
structure A2 (w V : World) (b : Nat) (v : Value) (L : List Rec) (c : Nat) (u : Value) (M : List Rec) (d : Int) : Prop where
  a : Aw w V (FT c u) b v d L
  b : Aw w V (FT b v) c u d M
section
variable {w V V' : World} {b c : Nat} {v u : Value} {L M : List Rec} {d : Int}
theorem A2.symm (h : A2 w V b v L c u M d) : A2 w V c u M b v L d := ⟨h.b, h.a⟩
theorem A2.next (h : A2 w V b v L c u M d) (hb : Below V.heap.size V V') : A2 w V' b v L c u M d := ⟨h.a.next hb, h.b.next hb⟩
theorem A2.turn {v' : Value} {L' : List Rec} (h : A2 w V b v L c u M d) (ha : Aw w V' (FT c u) b v' d L') (ho : Onl (FT b v) V V') (hf : ∀ j, j < V.heap.size → FT b v' j → FT b v j) : A2 w V' b v' L' c u M d := by
  refine ⟨ha, ⟨?_, fun j hj hc => ?_, fun j hj => ha.atl.lt j hj, ha.below⟩⟩
  · have h1 : Atl w.heap.size V (fun j => FT b v j ∨ FT b v' j) c u d M := h.b.atl.less fun j hj hD => .inr (hD.elim id (hf j hj))
    exact (h1.other ho (fun j hj => .inl hj) (fun j hj => h.b.apart j hj)).less fun j _ hD => .inr (.inr hD)
  · have hlt := h.b.atl.lt j hc
    exact h.b.apart j (hf j hlt hj) hc
theorem a2_put (h : A2 w V b v L c u M d) (k : List Nat) (t : ByteArray) (q : Option Addr) (c' : Nat) (hq : Pt V q k) (hl : L.length < 1000) :
    Calls Try.prog 19 #[.pointer (some ⟨b, 0, none⟩), .agg #[.slice q k.length c', .string t]] V fun e w' => ∃ n v', e = .returned (.int .i64 n) ∧ A2 w w' b v' (stepP d L (k, t)) c u M d ∧ Below w.heap.size w w' := by
  unfold stepP
  by_cases hr : recB k t d = true
  · rw [if_pos hr]
    exact (aw_put h.a k t q c' hq hr hl).mono fun e w' ⟨h1, v', h2, h3, h4, h5⟩ => ⟨0, v', h1, h.turn h2 h3 h4, h5⟩
  · rw [if_neg hr]
    have hr2 : recB k t d = false := by simpa using hr
    exact (aw_put_bad h.a k t q c' hr2).mono fun e w' ⟨h1, h2⟩ => ⟨1, v, h1, h.next h2, h.a.below.trans (h2.mono h.a.below.size)⟩
end
set_option maxRecDepth 100000 in
theorem AtlasAny_open1 {H : Type} {enc : TypeId × Value → H} {W : World} {base : Nat} {v : Value} {d : DataW H} {p : List MemPlace} (hv : Value.okWide Try.prog W .any base 40 v) (h : DataW.Trod enc Try.prog W 0 (fun _ => true) true 40 v d p) : RecsV W v := open_recs hv h
set_option maxRecDepth 100000 in
set_option maxHeartbeats 8000000 in
theorem AtlasAny_walk (d : Int) (v : Value) (w : World) (_ : (Lit.int .i64 d).wf = true) (hv : RecsV w v) :
    Calls Try.prog 7 #[.int .i64 d, v] w fun e w' => e = .returned (.bool true) ∧ Below w.heap.size w w' := by
  obtain ⟨P, L, C, rfl, hP, hLC, hC⟩ := hv
  have HP := hid fun (w' : World) (hb : Below w.heap.size w w') => hP.below hb
  have HB := hid (Below.refl w.heap.size w)
  clear hP
  by_cases hd : 1 ≤ d ∧ d ≤ 6
  · have HD := hid hd
    clear hd
    go_enter Try.func7, Try.ntmps7
    go_wp2_with fail
    refine (aw_new (X := No) d w w HB.out HD.out (fun _ h => h.elim)).mono ?_
    rintro e w1 ⟨rfl, ha, _⟩
    have HA := hid ha; clear ha
    generalize w.heap.size = b0 at HA ⊢
    go_wp2_with fail
    refine (aw_new (X := FT b0 (.slice none 0 0)) d w w1 HA.out.below HD.out (fun j hj => HA.out.atl.lt j hj)).mono ?_
    rintro e w2 ⟨rfl, ha, hb⟩
    have H2 : Hid (A2 w w2 b0 (.slice none 0 0) [] w1.heap.size (.slice none 0 0) [] d) := hid ⟨⟨(HA.out.atl.less (fun j hj hD => by
      rcases hD with hD | hD
      · omega
      · cases hD)).next hb, fun j hj hf => ha.apart j hf hj, fun j hj => ha.atl.lt j hj, ha.below⟩, ha⟩
    clear ha hb HA
    generalize w1.heap.size = b1 at H2 ⊢
    have HFW := hid (few_ok L P C w2 (HP.out _ H2.out.a.below) (by omega))
    cases hf : fewB L with
    | false =>
      rw [hf] at HFW
      clear hf
      go_wp2_with (first
        | (go_at_call 31; refine HFW.out.mono ?_; rintro e w' ⟨rfl, rfl⟩)
        | (go_at_call 14; refine (live_any _).mono ?_; rintro e w5 ⟨rfl, hb⟩; have H3 := hid (H2.out.next hb); clear hb))
      go_ret
      exact ⟨rfl, H3.out.a.below⟩
    | true =>
      rw [hf] at HFW
      have HFR := hid (fewB_iff.1 hf)
      have hlen := (fewB_iff.1 hf).1
      clear hf
      go_wp2_with (go_at_call 31; refine HFW.out.mono ?_; rintro e w' ⟨rfl, rfl⟩)
      clear HFW
      go_loopw [9] (fun i wr => ∃ (j : Nat) (va vb : Value), j ≤ L.length ∧ i = .int .i64 j ∧ A2 w wr b0 va (FP d (L.take j)) b1 vb (FP d (L.reverse.take j)) d ∧ apartK L j) (fun i _ => L.length - (intOf i).toNat)
      case atStart => exact ⟨0, _, _, by omega, rfl, H2.out, fun a b _ _ _ h => by omega⟩
      case round =>
        obtain ⟨j, va, vb, hj, rfl, ha, hap⟩ := hrel
        clear H2
        have H2 := hid ha; have HAP := hid hap; clear ha hap
        rename World => w0
        by_cases hlt : j < L.length
        · obtain ⟨g1, off, q1, c1, hpe, hgl, d1, d2, hq1⟩ := (HP.out _ H2.out.a.below).at j hlt
          subst hpe
          have HQ := hid hq1.pt
          have HST := hid (FP_take d L j hlt)
          have HFL := hid (FP_len d L j (by omega))
          have HKL := hid (HFR.out.2 _ (List.getElem_mem hlt)).1
          have hkl := (HFR.out.2 _ (List.getElem_mem hlt)).1
          obtain ⟨k1, hk1⟩ : ∃ k1, L[j].1 = k1 := ⟨_, rfl⟩
          obtain ⟨t1, ht1⟩ : ∃ t1, L[j].2 = t1 := ⟨_, rfl⟩
          have hrec : L[j] = (k1, t1) := Prod.ext hk1 ht1
          have HK1 := hid hk1
          rw [hrec] at HST
          rw [hk1] at HQ d1 HKL hkl
          rw [ht1] at d2
          clear hq1 hrec hk1 ht1
          go_wp2_with fail
          go_loopw [10] (fun i wr => ∃ (m n : Nat), m ≤ j ∧ i = .int .i64 m ∧ wr = w0.drewN n ∧ ∀ a, (ha : a < L.length) → a < m → L[a].1 ≠ k1) (fun i _ => j - (intOf i).toNat)
          case atStart => exact ⟨0, 0, by omega, rfl, rfl, fun a _ h => by omega⟩
          case round =>
            obtain ⟨m, n, hm, rfl, hwr, hne⟩ := hrel
            have HNE := hid hne; have HW := hid hwr; clear hne hwr
            rename World => w9
            have HA9 := hid (show A2 w w9 b0 va (FP d (L.take j)) b1 vb (FP d (L.reverse.take j)) d by rw [HW.out]; exact H2.out.next (below_drewN (Below.refl _ _) n))
            have d9 : w9.cell? ⟨g1, off + j * 2, none⟩ = some (.slice q1 k1.length c1) := by rw [HW.out]; exact d1
            have d8 : w9.cell? ⟨g1, off + j * 2 + 1, none⟩ = some (.string t1) := by rw [HW.out]; exact d2
            have HQ9 := hid (show Pt w9 q1 k1 by rw [HW.out]; exact HQ.out.drewN n)
            by_cases hmj : m < j
            · obtain ⟨g2, off2, q2, c2, hpe2, hgl2, e1, e2, hq2⟩ := (HP.out _ HA9.out.a.below).at m (by omega)
              cases hpe2
              have hsm := (HFR.out.2 _ (List.getElem_mem (show m < L.length by omega))).1
              have HNX := hid fun (h : (L[m]'(by omega)).1 ≠ k1) => (show ∀ a, (ha : a < L.length) → a < m + 1 → L[a].1 ≠ k1 from fun a ha ham => by
                by_cases e : a = m
                · subst e; exact h
                · exact HNE.out a ha (by omega))
              have HQ2 := hid hq2.pt
              clear hq2 e2
              generalize (L[m]'(by omega)).1 = k2 at e1 hsm HNX HQ2
              have HS := hid fun (x : Nat) => same_ok k2 k1 q2 q1 c2 c1 (w9.drewN x) (HQ2.out.drewN x) (HQ9.out.drewN x) (by omega)
              have hz1 : (0 : Int) ≤ (m : Int) := by omega
              have hz2 : (m : Int) < (L.length : Int) := by omega
              have hz3 : (0 : Int) ≤ (j : Int) := by omega
              have hz4 : (j : Int) < (L.length : Int) := by omega
              clear d1 d2
              cases hs : sameB k2 k1 with
              | true =>
                rw [hs] at HS
                clear hs HNX
                go_wp2_with fail
                go_quiet ((go_at_call 36; exact quiet_more (HS.out _)))
                have H3 := hid (HA9.out.next (below_drewN (Below.refl _ _) nq))
                go_wp2_with (go_at_call 14; refine (live_any _).mono ?_; rintro e w5 ⟨rfl, hb⟩; have H4 := hid (H3.out.next hb); clear hb)
                go_ret
                exact ⟨rfl, H4.out.a.below⟩
              | false =>
                rw [hs] at HS
                have HN1 := hid (HNX.out (by unfold sameB at hs; simpa using hs))
                clear hs HNX
                go_wp2_with fail
                go_quiet ((go_at_call 36; exact quiet_more (HS.out _)))
                go_wp2_with fail
                go_roundw
                case rel => exact ⟨m + 1, n + nq, by omega, by go_num, by rw [HW.out, World.drewN_drewN], HN1.out⟩
                case measure => simp [intOf]; omega
            · obtain rfl : m = j := by omega
              have HAP2 := hid (show apartK L (m + 1) from fun a b ha hb hab hbm => by
                by_cases e : b = m
                · subst e; rw [HK1.out]; exact HNE.out a ha hab
                · exact HAP.out a b ha hb hab (by omega))
              obtain ⟨n1, hn1⟩ : ∃ n1, L.length - 1 = n1 := ⟨_, rfl⟩
              obtain ⟨r, hr⟩ : ∃ r, n1 - m = r := ⟨_, rfl⟩
              have hrl : r < L.length := by omega
              have HRL := hid hrl
              have HSR := hid (FP_take d L.reverse m (by rw [List.length_reverse]; exact hlt))
              have hre : L.reverse[m]'(by rw [List.length_reverse]; exact hlt) = L[r]'HRL.out := by rw [List.getElem_reverse]; congr 1; omega
              rw [hre] at HSR
              have HFL2 := hid (FP_len d L.reverse m (by rw [List.length_reverse]; omega))
              have hz1 : (L.length : Int) - 1 = (n1 : Int) := by omega
              have hz2 : IntKind.i64.wrap ((L.length : Int) - 1) = (n1 : Int) := by rw [IntKind.wrap_i64]; omega
              have hz3 : IntKind.i64.wrap (n1 : Int) = (n1 : Int) := by rw [IntKind.wrap_i64]; omega
              have hz4 : (n1 : Int) - (m : Int) = (r : Int) := by omega
              have hz5 : IntKind.i64.wrap ((n1 : Int) - (m : Int)) = (r : Int) := by rw [IntKind.wrap_i64]; omega
              have hz6 : IntKind.i64.wrap (r : Int) = (r : Int) := by rw [IntKind.wrap_i64]; omega
              have hz7 : (0 : Int) ≤ (r : Int) := by omega
              have hz8 : (r : Int) < (L.length : Int) := by omega
              have hz9 : (0 : Int) ≤ (m : Int) := by omega
              have hz10 : (m : Int) < (L.length : Int) := by omega
              clear hre hrl hr hn1 d1 d2
              have HP1 := hid (a2_put HA9.out k1 t1 q1 c1 HQ9.out (by have := HFL.out; omega))
              rw [← HST.out] at HP1
              go_wp2_with fail
              refine HP1.out.mono ?_
              rintro e w4 ⟨n4, v4, rfl, ha, hb⟩
              have HA4 := hid ha; clear ha hb HP1 d8 d9
              obtain ⟨g3, off3, q3, c3, hpe3, hgl3, f1, f2, hq3⟩ := (HP.out _ HA4.out.a.below).at r HRL.out
              cases hpe3
              have HQ3 := hid hq3.pt
              clear hq3
              obtain ⟨k3, hk3⟩ : ∃ k3, (L[r]'HRL.out).1 = k3 := ⟨_, rfl⟩
              obtain ⟨t3, ht3⟩ : ∃ t3, (L[r]'HRL.out).2 = t3 := ⟨_, rfl⟩
              have hrec : L[r]'HRL.out = (k3, t3) := Prod.ext hk3 ht3
              rw [hrec] at HSR
              rw [hk3] at f1 HQ3
              rw [ht3] at f2
              clear hrec hk3 ht3
              have HP2 := hid (a2_put HA4.out.symm k3 t3 q3 c3 HQ3.out (by have := HFL2.out; omega))
              rw [← HSR.out] at HP2
              go_wp2_with fail
              refine HP2.out.mono ?_
              rintro e w6 ⟨n6, v6, rfl, ha, hb⟩
              have HA6 := hid ha.symm; clear ha hb HP2 f1 f2
              go_wp2_with fail
              go_roundw
              case rel => exact ⟨m + 1, v4, v6, by omega, by go_num, HA6.out, HAP2.out⟩
              case measure => simp [intOf]; omega
        · obtain rfl : j = L.length := by omega
          have HEQ := hid (FP_rev d L HAP.out)
          have hrl : L.reverse.take L.length = L.reverse.take L.reverse.length := by rw [List.length_reverse]
          rw [hrl, ← HEQ.out] at H2
          have HUP := hid (FP_up d L L.length (Nat.le_refl _))
          have hML := FP_len d L L.length (Nat.le_refl _)
          clear hrl HEQ HAP
          generalize FP d (L.take L.length) = M at H2 HUP hML
          have HBG := hid H2.out.a.atl.big
          go_wp2_with fail
          refine (all_ok w0 H2.out.a.atl).mono ?_
          rintro e w3 ⟨px, rfl, hr, hb⟩
          have HX := hid hr
          have H3 := hid (H2.out.next hb); clear hr hb H2
          go_wp2_with fail
          go_loopw [12] (fun i wr => ∃ (m n : Nat), 1 ≤ m ∧ m ≤ M.length + 1 ∧ i = .int .i64 m ∧ wr = w3.drewN n) (fun i _ => M.length + 1 - (intOf i).toNat)
          case atStart => exact ⟨1, 0, by omega, by omega, rfl, rfl⟩
          case round =>
            obtain ⟨m, n, hm1, hm2, rfl, hwr⟩ := hrel
            have HW := hid hwr; clear hwr
            rename World => w9
            have HX9 := hid (show Rs (Lt w0.heap.size) w9 px M by rw [HW.out]; exact HX.out.drewN n)
            by_cases hmj : m < M.length
            · obtain ⟨m1, hm3⟩ : ∃ m1, m - 1 = m1 := ⟨_, rfl⟩
              have HM1L := hid (show m1 < M.length by omega)
              obtain ⟨g2, off2, q2, c2, hpe2, hgl2, e1, _, hq2⟩ := HX9.out.at m1 HM1L.out
              obtain ⟨g4, off4, q4, c4, hpe4, hgl4, e4, _, hq4⟩ := HX9.out.at m hmj
              subst hpe2
              cases hpe4
              have hcmp := List.pairwise_iff_getElem.1 HUP.out m1 m HM1L.out hmj (by omega)
              have hsm := (HBG.out.2 _ (List.getElem_mem HM1L.out)).1
              have HQ2 := hid hq2.pt
              have HQ4 := hid hq4.pt
              clear hq2 hq4
              generalize (M[m1]'HM1L.out).1 = k2 at e1 hsm HQ2 hcmp
              generalize M[m].1 = k4 at e4 HQ4 hcmp
              have HS := hid fun (x : Nat) => refCompare_ok k2 k4 q2 q4 c2 c4 (w9.drewN x) (HQ2.out.drewN x) (HQ4.out.drewN x) (by omega)
              have hz1 : (m : Int) - 1 = (m1 : Int) := by omega
              have hz2 : IntKind.i64.wrap ((m : Int) - 1) = (m1 : Int) := by rw [IntKind.wrap_i64]; omega
              have hz3 : IntKind.i64.wrap (m1 : Int) = (m1 : Int) := by rw [IntKind.wrap_i64]; omega
              have hz4 : (0 : Int) ≤ (m1 : Int) := by omega
              have hz5 : (m1 : Int) < (M.length : Int) := by omega
              have hz6 : (0 : Int) ≤ (m : Int) := by omega
              have hz7 : (m : Int) < (M.length : Int) := by omega
              have hzc : decide (0 ≤ cmp k2 k4) = false := by simp; omega
              clear hm3 hcmp
              generalize cmp k2 k4 = z at HS hzc
              go_wp2_with fail
              go_quiet ((go_at_call 34; exact quiet_more (HS.out _)))
              go_wp2_with fail
              go_roundw
              case rel => exact ⟨m + 1, n + nq, by omega, by omega, by go_num, by rw [HW.out, World.drewN_drewN]⟩
              case measure => simp [intOf]; omega
            · have HA9 := hid (show A2 w w9 b0 va M b1 vb M d by rw [HW.out]; exact H3.out.next (below_drewN (Below.refl _ _) n))
              clear hm2
              go_wp2_with fail
              refine (all_ok w9 HA9.out.b.atl).mono ?_
              rintro e w4 ⟨py, rfl, hr, hb⟩
              have HY := hid hr
              have HX4 := hid (HX9.out.below hb)
              have HA4 := hid (HA9.out.next hb); clear hr hb
              go_wp2_with fail
              refine (v9 M HBG.out rfl HX4.out HY.out).mono ?_
              rintro e w5 ⟨rfl, hb⟩
              have HA5 := hid (HA4.out.next hb); clear hb
              go_wp2_with fail
              refine (len_ok w5 HA5.out.a.atl).mono ?_
              rintro e w' ⟨rfl, rfl⟩
              have hz2 : ((M.length : Int) == (M.length : Int)) = true := by simp
              go_wp2_with fail
              refine (live_any _).mono ?_
              rintro e w6 ⟨rfl, hb⟩
              have HA6 := hid (HA5.out.next hb); clear hb
              go_wp2_with fail
              go_ret
              exact ⟨rfl, HA6.out.a.below⟩
  · have HD := hid (show d < 1 ∨ 6 < d by omega)
    clear hd
    go_enter Try.func7, Try.ntmps7
    go_wp2_with (first
      | (go_at_call 11; refine (new_bad d _ HD.out).mono ?_; rintro e w' ⟨rfl, rfl⟩)
      | (go_at_call 14; refine (live_any _).mono ?_; rintro e w5 ⟨rfl, hb⟩; have H2 := hid hb; clear hb))
    go_ret
    exact ⟨rfl, H2.out⟩
end Go.Proofs.Ytlkejjclmamlaaa
