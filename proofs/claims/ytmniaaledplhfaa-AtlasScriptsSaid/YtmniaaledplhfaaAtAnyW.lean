/- AtlasAny walked. -/
import Derived.Test.YtmniaaledplhfaaAtBackW
namespace Go.Proofs.Ytmniaaledplhfaa
open Go.RowKit
open Go.Lib (hid)
open Go.ChangeShapes Go.WideShapes Go.Joins
open Go.Proofs.Ytmniaaledplhfaa.Ky Go.Proofs.Ytmniaaledplhfaa.Bk Go.Proofs.Ytmniaaledplhfaa.At

theorem hasN_mem {M : List Rec} (hu : upL M) (k : List Nat) : hasN M k = true ↔ ∃ r ∈ M, r.1 = k := by
  constructor
  · intro h
    obtain ⟨hl, he⟩ := hasN_iff.1 h
    exact ⟨_, List.getElem_mem hl, he⟩
  · rintro ⟨r, hr, he⟩
    obtain ⟨i, hi, rfl⟩ := List.getElem_of_mem hr
    have e := up_at hu hi he
    exact hasN_iff.2 ⟨by omega, by simp only [e]; exact he⟩
theorem mem_put {M : List Rec} (hu : upL M) (x : Rec) (r : Rec) : r ∈ putR M x ↔ r = x ∨ (r ∈ M ∧ r.1 ≠ x.1) := by
  obtain ⟨n, hn⟩ : ∃ n, lessN M x.1 = n := ⟨_, rfl⟩
  have hs := (lessN_spec M x.1).1
  have hnl := lessN_le M x.1
  rw [hn] at hs hnl
  have hself : ∀ l : List Nat, ¬ cmp l l < 0 := fun l h => by have := cmp_flip l l; omega
  unfold putR
  simp only [hn]
  rw [List.mem_append, List.mem_cons]
  constructor
  · rintro (h | h | h)
    · right
      refine ⟨List.mem_of_mem_take h, fun e => ?_⟩
      obtain ⟨i, hi, rfl⟩ := List.getElem_of_mem h
      rw [List.length_take] at hi
      rw [List.getElem_take] at e
      have := hs i (by omega) (by omega)
      rw [e] at this
      exact hself _ this
    · exact .inl h
    · right
      refine ⟨List.mem_of_mem_drop h, fun e => ?_⟩
      cases hh : hasN M x.1 with
      | false =>
        have := (hasN_mem hu x.1).2 ⟨r, List.mem_of_mem_drop h, e⟩
        rw [hh] at this; cases this
      | true =>
        rw [hh] at h
        obtain ⟨hl, he⟩ := hasN_iff.1 hh
        simp only [hn] at he hl
        obtain ⟨i, hi, rfl⟩ := List.getElem_of_mem h
        simp only [if_true, List.length_drop] at hi
        simp only [if_true, List.getElem_drop] at e
        have := List.pairwise_iff_getElem.1 hu n (n + 1 + i) hl (by omega) (by omega)
        rw [he, e] at this
        exact hself _ this
  · rintro (h | ⟨h, hne⟩)
    · exact .inr (.inl h)
    · obtain ⟨j, hj, rfl⟩ := List.getElem_of_mem h
      by_cases hjn : j < n
      · left
        rw [List.mem_take_iff_getElem]
        exact ⟨j, by omega, rfl⟩
      · right; right
        cases hh : hasN M x.1 with
        | false =>
          rw [List.mem_drop_iff_getElem]
          exact ⟨j - n, by simp; omega, by congr 1; simp; omega⟩
        | true =>
          obtain ⟨hl, he⟩ := hasN_iff.1 hh
          simp only [hn] at he hl
          have : j ≠ n := fun e => hne (by subst e; exact he)
          rw [List.mem_drop_iff_getElem]
          exact ⟨j - (n + 1), by simp; omega, by congr 1; simp; omega⟩
theorem up_ext : ∀ {A B : List Rec}, upL A → upL B → (∀ r, r ∈ A ↔ r ∈ B) → A = B
  | [], [], _, _, _ => rfl
  | [], b :: B, _, _, h => by have := (h b).2 (List.mem_cons_self ..); cases this
  | a :: A, [], _, _, h => by have := (h a).1 (List.mem_cons_self ..); cases this
  | a :: A, b :: B, h1, h2, h => by
    have hself : ∀ l : List Nat, ¬ cmp l l < 0 := fun l h => by have := cmp_flip l l; omega
    have p1 := List.pairwise_cons.1 h1
    have p2 := List.pairwise_cons.1 h2
    have hab : a = b := by
      rcases List.mem_cons.1 ((h a).1 (List.mem_cons_self ..)) with e | e
      · exact e
      · rcases List.mem_cons.1 ((h b).2 (List.mem_cons_self ..)) with e' | e'
        · exact e'.symm
        · have g1 := p2.1 a e
          have g2 := p1.1 b e'
          have := cmp_flip a.1 b.1
          omega
    subst hab
    refine congrArg (a :: ·) (up_ext p1.2 p2.2 fun r => ?_)
    constructor
    · intro hr
      rcases List.mem_cons.1 ((h r).1 (List.mem_cons_of_mem _ hr)) with e | e
      · subst e; exact absurd (p1.1 r hr) (hself _)
      · exact e
    · intro hr
      rcases List.mem_cons.1 ((h r).2 (List.mem_cons_of_mem _ hr)) with e | e
      · subst e; exact absurd (p2.1 r hr) (hself _)
      · exact e
theorem up_step {d : Int} {M : List Rec} (hu : upL M) (r : Rec) : upL (stepP d M r) := by
  unfold stepP
  split
  · exact up_put hu r
  · exact hu
/-- what is there when some records were put -/
def FP (d : Int) (xs : List Rec) : List Rec := xs.foldl (stepP d) []
theorem FP_snoc (d : Int) (xs : List Rec) (x : Rec) : FP d (xs ++ [x]) = stepP d (FP d xs) x := by simp [FP]
theorem FP_take (d : Int) (L : List Rec) (j : Nat) (hj : j < L.length) : FP d (L.take (j + 1)) = stepP d (FP d (L.take j)) L[j] := by
  rw [List.take_succ_eq_append_getElem hj, FP_snoc]
theorem FP_up (d : Int) (L : List Rec) (j : Nat) (hj : j ≤ L.length) : upL (FP d (L.take j)) := by
  induction j with
  | zero => exact List.Pairwise.nil
  | succ j ih => rw [FP_take d L j hj]; exact up_step (ih (by omega)) _
theorem FP_len (d : Int) (L : List Rec) (j : Nat) (hj : j ≤ L.length) : (FP d (L.take j)).length ≤ j := by
  induction j with
  | zero => exact Nat.le_refl _
  | succ j ih =>
    rw [FP_take d L j hj]
    have := stepP_len d (FP d (L.take j)) L[j]
    have := ih (by omega)
    omega
/-- all Keys of the first j records are apart -/
def apartK (L : List Rec) (j : Nat) : Prop := ∀ a b, (ha : a < L.length) → (hb : b < L.length) → a < b → b < j → L[a].1 ≠ L[b].1
theorem FP_mem (d : Int) (L : List Rec) (j : Nat) (hj : j ≤ L.length) (ha : apartK L j) (r : Rec) : r ∈ FP d (L.take j) ↔ r ∈ L.take j ∧ recB r.1 r.2 d = true := by
  induction j with
  | zero => simp [FP]
  | succ j ih =>
    have ihj := ih (by omega) (fun a b h1 h2 h3 h4 => ha a b h1 h2 h3 (by omega))
    rw [FP_take d L j hj, List.take_succ_eq_append_getElem hj, List.mem_append, List.mem_singleton]
    unfold stepP
    split
    · rename_i hr
      rw [mem_put (FP_up d L j (by omega)), ihj]
      constructor
      · rintro (h | ⟨⟨h1, h2⟩, _⟩)
        · subst h; exact ⟨.inr rfl, hr⟩
        · exact ⟨.inl h1, h2⟩
      · rintro ⟨h1 | h1, h2⟩
        · right
          refine ⟨⟨h1, h2⟩, fun e => ?_⟩
          obtain ⟨i, hi, rfl⟩ := List.getElem_of_mem h1
          rw [List.length_take] at hi
          rw [List.getElem_take] at e
          exact ha i j (by omega) (by omega) (by omega) (by omega) e
        · exact .inl h1
    · rename_i hr
      rw [ihj]
      constructor
      · rintro ⟨h1, h2⟩; exact ⟨.inl h1, h2⟩
      · rintro ⟨h1 | h1, h2⟩
        · exact ⟨h1, h2⟩
        · subst h1; exact absurd h2 hr
theorem apart_rev {L : List Rec} (h : apartK L L.length) : apartK L.reverse L.reverse.length := fun a b ha hb hab _ e => by
  rw [List.length_reverse] at ha hb
  rw [List.getElem_reverse, List.getElem_reverse] at e
  exact h (L.length - 1 - b) (L.length - 1 - a) (by omega) (by omega) (by omega) (by omega) e.symm
theorem FP_rev (d : Int) (L : List Rec) (h : apartK L L.length) : FP d (L.take L.length) = FP d (L.reverse.take L.reverse.length) := by
  refine up_ext (FP_up d L _ (Nat.le_refl _)) (FP_up d L.reverse _ (Nat.le_refl _)) fun r => ?_
  rw [FP_mem d L _ (Nat.le_refl _) h, FP_mem d L.reverse _ (Nat.le_refl _) (apart_rev h), List.take_length, List.take_length, List.mem_reverse]
/-- two atlases, apart from one another -/
structure A2 (w V : World) (b : Nat) (v : Value) (L : List Rec) (c : Nat) (u : Value) (M : List Rec) (d : Int) : Prop where
  a : Aw w V (FT c u) b v d L
  b : Aw w V (FT b v) c u d M
section
variable {w V V' : World} {b c : Nat} {v u : Value} {L M : List Rec} {d : Int}
theorem A2.symm (h : A2 w V b v L c u M d) : A2 w V c u M b v L d := ⟨h.b, h.a⟩
theorem A2.next (h : A2 w V b v L c u M d) (hb : Below V.heap.size V V') : A2 w V' b v L c u M d := ⟨h.a.next hb, h.b.next hb⟩
theorem A2.turn {v' : Value} {L' : List Rec} (h : A2 w V b v L c u M d) (ha : Aw w V' (FT c u) b v' d L') (ho : Onl (FT b v) V V') (hf : ∀ j, j < V.heap.size → FT b v' j → FT b v j) : A2 w V' b v' L' c u M d := by
  refine ⟨ha, ⟨?_, fun j hj hc => ?_, fun j hj => ha.atl.lt j hj, ha.below⟩⟩
  · have h1 : Atl w.heap.size V (fun j => FT b v j ∨ FT b v' j) c u d M := h.b.atl.less fun j hj hD => .inr (hD.elim id (hf j hj))
    exact (h1.other ho (fun j hj => .inl hj) (fun j hj => h.b.apart j hj)).less fun j _ hD => .inr (.inr hD)
  · have hlt := h.b.atl.lt j hc
    exact h.b.apart j (hf j hlt hj) hc
theorem a2_put (h : A2 w V b v L c u M d) (k : List Nat) (t : ByteArray) (q : Option Addr) (c' : Nat) (hq : Pt V q k) (hl : L.length < 1000) :
    Calls Try.prog 12 #[.pointer (some ⟨b, 0, none⟩), .agg #[.slice q k.length c', .string t]] V fun e w' => ∃ n v', e = .returned (.int .i64 n) ∧ A2 w w' b v' (stepP d L (k, t)) c u M d ∧ Below w.heap.size w w' := by
  unfold stepP
  by_cases hr : recB k t d = true
  · rw [if_pos hr]
    exact (aw_put h.a k t q c' hq hr hl).mono fun e w' ⟨h1, v', h2, h3, h4, h5⟩ => ⟨0, v', h1, h.turn h2 h3 h4, h5⟩
  · rw [if_neg hr]
    have hr2 : recB k t d = false := by simpa using hr
    exact (aw_put_bad h.a k t q c' hr2).mono fun e w' ⟨h1, h2⟩ => ⟨1, v, h1, h.next h2, h.a.below.trans (h2.mono h.a.below.size)⟩
end
set_option maxRecDepth 100000 in
theorem AtlasAny_open1 {H : Type} {enc : TypeId × Value → H} {W : World} {base : Nat} {v : Value} {d : DataW H} {p : List MemPlace} (hv : Value.okWide Try.prog W .any base 40 v) (h : DataW.Trod enc Try.prog W 0 (fun _ => true) true 40 v d p) : RecsV W v := open_recs hv h
end Go.Proofs.Ytmniaaledplhfaa
