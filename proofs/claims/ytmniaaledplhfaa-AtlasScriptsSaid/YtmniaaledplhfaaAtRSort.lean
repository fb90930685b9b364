/- Sorted of the reference, without part's texts. -/
import Derived.Test.YtmniaaledplhfaaAtAnyW
namespace Go.Proofs.Ytmniaaledplhfaa.Pt
open Go.RowKit
open Go.Lib (hid)
open Go.Proofs.Ytmniaaledplhfaa.Ky
open Go.Proofs.Ytmniaaledplhfaa.Bk

/-- a list of the call's own, its points elsewhere -/
structure Out1 (B N : Nat) (w : World) (v : Value) (M : List Rec) (xs : List Value) : Prop where
  own : w.ownsRow N 33 2 v M.length xs
  rc : RC (fun b => v.ownBlock = some b ∨ b < B) w xs M
theorem Out1.drewN {B N : Nat} {w : World} {v : Value} {M : List Rec} {xs : List Value} (h : Out1 B N w v M xs) (n : Nat) : Out1 B N (w.drewN n) v M xs := ⟨own_below h.own (below_drewN (Below.refl _ _) n), h.rc.below (below_drewN (Below.refl _ _) n)⟩
theorem rs_cells {D : Nat → Prop} {w : World} {p : Option Addr} {L : List Rec} (h : Rs D w p L) : ∃ xs, RC D w xs L ∧ ReadAt w p xs := by
  obtain ⟨xs, h1, h2⟩ := h
  exact ⟨xs, h1, fun j u hj => by
    obtain ⟨b, off, e, hl, _, hc⟩ := h2 j u hj
    exact ⟨b, off, e, hl, hc⟩⟩
theorem cmp_irr {k l : List Nat} (h : cmp k l < 0) : k ≠ l := by
  rintro rfl
  have := cmp_self k
  omega
/-- where a record is put in, from the end on -/
def posF (out : List Rec) (k : List Nat) : Nat → Nat
  | 0 => 0
  | n + 1 => if 0 < cmp (out.getD n ([], ⟨#[]⟩)).1 k then posF out k n else n + 1
def posR (out : List Rec) (k : List Nat) : Nat := posF out k out.length
def insR (out : List Rec) (r : Rec) : List Rec := out.take (posR out r.1) ++ r :: out.drop (posR out r.1)
def sortR (L : List Rec) : List Rec := L.foldl insR []
theorem posF_spec (out : List Rec) (k : List Nat) (n : Nat) (hn : n ≤ out.length) : posF out k n ≤ n ∧ (∀ j, (h : j < out.length) → posF out k n ≤ j → j < n → 0 < cmp out[j].1 k) ∧ (∀ h : posF out k n - 1 < out.length, 0 < posF out k n → ¬ 0 < cmp out[posF out k n - 1].1 k) := by
  induction n with
  | zero => exact ⟨Nat.le_refl _, fun j _ _ h => absurd h (by omega), fun _ h => absurd h (by simp [posF])⟩
  | succ n ih =>
    obtain ⟨i1, i2, i3⟩ := ih (by omega)
    have hg : (out.getD n ([], ⟨#[]⟩)).1 = (out[n]'(by omega)).1 := by rw [List.getD_eq_getElem?_getD, List.getElem?_eq_getElem (by omega)]; rfl
    have he : posF out k (n + 1) = if 0 < cmp (out[n]'(by omega)).1 k then posF out k n else n + 1 := by rw [← hg]; rfl
    by_cases h : 0 < cmp (out[n]'(by omega)).1 k
    · rw [if_pos h] at he
      rw [he]
      refine ⟨by omega, fun j hj h1 h2 => ?_, i3⟩
      by_cases e : j = n
      · subst e; exact h
      · exact i2 j hj h1 (by omega)
    · rw [if_neg h] at he
      rw [he]
      exact ⟨Nat.le_refl _, fun j _ h1 h2 => absurd h1 (by omega), fun _ _ => h⟩
theorem pos_le (out : List Rec) (k : List Nat) : posR out k ≤ out.length := (posF_spec out k out.length (Nat.le_refl _)).1
theorem mem_ins {out : List Rec} {r x : Rec} : x ∈ insR out r ↔ x = r ∨ x ∈ out := by
  unfold insR
  rw [List.mem_append, List.mem_cons]
  have h : x ∈ out ↔ x ∈ out.take (posR out r.1) ∨ x ∈ out.drop (posR out r.1) := by rw [← List.mem_append, List.take_append_drop]
  rw [h]
  constructor
  · rintro (h | h | h)
    · exact .inr (.inl h)
    · exact .inl h
    · exact .inr (.inr h)
  · rintro (h | h | h)
    · exact .inr (.inl h)
    · exact .inl h
    · exact .inr (.inr h)
theorem up_ins {out : List Rec} {r : Rec} (hu : upL out) (hk : ∀ x ∈ out, x.1 ≠ r.1) : upL (insR out r) := by
  obtain ⟨h1, h2, h3⟩ := posF_spec out r.1 out.length (Nat.le_refl _)
  have hu' := hu
  unfold upL at hu'
  rw [← List.take_append_drop (posR out r.1) out, List.pairwise_append] at hu'
  obtain ⟨u1, u2, u3⟩ := hu'
  have hlo : ∀ x ∈ out.take (posR out r.1), cmp x.1 r.1 < 0 := fun x hx => by
    obtain ⟨i, hi, rfl⟩ := List.getElem_of_mem hx
    rw [List.length_take] at hi
    have hi2 : i < posR out r.1 := by omega
    have hm : posR out r.1 - 1 < out.length := by have := pos_le out r.1; omega
    have h4 := h3 hm (by show 0 < posR out r.1; omega)
    have h5 : out[posR out r.1 - 1].1 ≠ r.1 := hk _ (List.getElem_mem hm)
    have h6 : cmp out[posR out r.1 - 1].1 r.1 < 0 := by
      rcases Int.lt_trichotomy (cmp out[posR out r.1 - 1].1 r.1) 0 with h | h | h
      · exact h
      · exact absurd (cmp_zero h) h5
      · exact absurd h h4
    rw [List.getElem_take]
    by_cases e : i = posR out r.1 - 1
    · rw [getElem_same (by omega) hm e]; exact h6
    · exact cmp_lt_trans (List.pairwise_iff_getElem.1 hu i (posR out r.1 - 1) (by omega) hm (by omega)) h6
  have hhi : ∀ x ∈ out.drop (posR out r.1), cmp r.1 x.1 < 0 := fun x hx => by
    obtain ⟨i, hi, rfl⟩ := List.getElem_of_mem hx
    rw [List.length_drop] at hi
    rw [List.getElem_drop]
    have := h2 (posR out r.1 + i) (by omega) (Nat.le_add_right _ _) (by omega)
    have h7 := cmp_flip out[posR out r.1 + i].1 r.1
    omega
  unfold insR upL
  refine List.pairwise_append.2 ⟨u1, List.pairwise_cons.2 ⟨hhi, u2⟩, fun x hx y hy => ?_⟩
  rcases List.mem_cons.1 hy with rfl | hy
  · exact hlo x hx
  · exact u3 x hx y hy
theorem sort_from (L : List Rec) : ∀ acc, upL acc → (∀ x ∈ acc, ∀ y ∈ L, x.1 ≠ y.1) → L.Pairwise (fun a b => a.1 ≠ b.1) → upL (L.foldl insR acc) ∧ ∀ x, x ∈ L.foldl insR acc ↔ x ∈ acc ∨ x ∈ L := by
  induction L with
  | nil => exact fun acc h _ _ => ⟨h, fun x => by simp⟩
  | cons r L ih =>
    intro acc hu hd hp
    obtain ⟨p1, p2⟩ := List.pairwise_cons.1 hp
    obtain ⟨i1, i2⟩ := ih (insR acc r) (up_ins hu fun x hx => hd x hx r (List.mem_cons_self ..)) (fun x hx y hy => by
      rcases mem_ins.1 hx with rfl | hx
      · exact p1 y hy
      · exact hd x hx y (List.mem_cons_of_mem _ hy)) p2
    refine ⟨i1, fun x => ?_⟩
    rw [List.foldl_cons, i2, mem_ins, List.mem_cons]
    constructor
    · rintro ((h | h) | h)
      · exact .inr (.inl h)
      · exact .inl h
      · exact .inr (.inr h)
    · rintro (h | h | h)
      · exact .inl (.inr h)
      · exact .inl (.inl h)
      · exact .inr h
theorem up_key {a : List Rec} (hu : upL a) {x y : Rec} (hx : x ∈ a) (hy : y ∈ a) (h : x.1 = y.1) : x = y := by
  obtain ⟨i, hi, rfl⟩ := List.getElem_of_mem hx
  obtain ⟨j, hj, rfl⟩ := List.getElem_of_mem hy
  rcases Nat.lt_trichotomy i j with e | e | e
  · exact absurd h (cmp_irr (List.pairwise_iff_getElem.1 hu i j hi hj e))
  · exact getElem_same hi hj e
  · exact absurd h.symm (cmp_irr (List.pairwise_iff_getElem.1 hu j i hj hi e))
theorem up_same {a b : List Rec} (ha : upL a) (hb : upL b) (h : ∀ x, x ∈ a ↔ x ∈ b) : a = b := by
  induction a generalizing b with
  | nil =>
    cases b with
    | nil => rfl
    | cons y b => exact absurd ((h y).2 (List.mem_cons_self ..)) (by simp)
  | cons x a ih =>
    cases b with
    | nil => exact absurd ((h x).1 (List.mem_cons_self ..)) (by simp)
    | cons y b =>
      obtain ⟨a1, a2⟩ := List.pairwise_cons.1 ha
      obtain ⟨b1, b2⟩ := List.pairwise_cons.1 hb
      have hxy : x = y := by
        rcases List.mem_cons.1 ((h x).1 (List.mem_cons_self ..)) with e | e
        · exact e
        · rcases List.mem_cons.1 ((h y).2 (List.mem_cons_self ..)) with e' | e'
          · exact e'.symm
          · have h1 := b1 x e
            have h2 := a1 y e'
            have h3 := cmp_flip x.1 y.1
            omega
      subst hxy
      rw [ih a2 b2 fun z => ?_]
      constructor
      · intro hz
        rcases List.mem_cons.1 ((h z).1 (List.mem_cons_of_mem _ hz)) with e | e
        · subst e; exact absurd rfl (cmp_irr (a1 _ hz))
        · exact e
      · intro hz
        rcases List.mem_cons.1 ((h z).2 (List.mem_cons_of_mem _ hz)) with e | e
        · subst e; exact absurd rfl (cmp_irr (b1 _ hz))
        · exact e
theorem sort_snoc (L : List Rec) (k : Nat) (h : k < L.length) : sortR (L.take (k + 1)) = insR (sortR (L.take k)) L[k] := by
  unfold sortR; rw [List.take_succ_eq_append_getElem h, List.foldl_append]; rfl
theorem ins_len (out : List Rec) (r : Rec) : (insR out r).length = out.length + 1 := by
  unfold insR; have := pos_le out r.1; simp; omega
theorem sort_len (L : List Rec) : (sortR L).length = L.length := by
  have : ∀ (M acc : List Rec), (M.foldl insR acc).length = acc.length + M.length := fun M => by
    induction M with
    | nil => intro acc; simp
    | cons r M ih => intro acc; rw [List.foldl_cons, ih, ins_len]; simp; omega
  have := this L []
  simpa [sortR] using this
set_option maxRecDepth 100000 in
/-- the slice up to a place, wherever it points -/
theorem slice_to (p : Option Addr) (len c n : Nat) (h : n ≤ len) (hc : len ≤ c) (w : World) : (Instr.slice 40 (.slice p len c) none (some (.int .i64 (n : Int))) none).run Try.prog w = .ok (.slice p n c) w := by
  have hs : (sizeOf 33).run Try.prog w = .ok 2 w := by kernel_rfl
  rw [run_slice_h w _ p len c (by kernel_rfl) .i64 n (by omega) (by omega)]
  have e : Try.prog.elem 40 = 33 := by kernel_rfl
  rw [e, hs]
  simp only [Result.andThen, sliced, Int.toNat_natCast, Nat.sub_zero, Nat.zero_mul]
  congr 2
  split
  · rfl
  · cases p with
    | none => rfl
    | some a => simp only [Option.map_some]; congr 1
theorem Out1.base {B N N' : Nat} {w : World} {v : Value} {M : List Rec} {xs : List Value} (h : Out1 B N w v M xs) (hn : N' ≤ N) : Out1 B N' w v M xs := by
  refine ⟨⟨h.own.1, ?_⟩, h.rc⟩
  rcases h.own.2 with h1 | ⟨g, cap, cur, hv, hb, rest⟩
  · exact .inl h1
  · exact .inr ⟨g, cap, cur, hv, Nat.le_trans hn hb, rest⟩
theorem Out1.add {B N : Nat} {wr w3 w' : World} {v v' : Value} {M K : List Rec} {xs ys : List Value} (h : Out1 B N wr v M xs) (hb : Below wr.heap.size wr w3)
    (hq : RC (fun b => v.ownBlock = some b ∨ b < B) w3 ys K) (ho : Owns w3 N 33 2 v (M.length + K.length) (xs ++ ys) v' w') : Out1 B N w' v' (M ++ K) (xs ++ ys) := by
  obtain ⟨h1, h2, h3⟩ := ho
  have hv3 : ∀ b, b < w3.heap.size → v'.ownBlock = some b → v.ownBlock = some b := fun b hlt hb => by
    rcases h3 with e | e
    · rw [← e]; exact hb
    · rw [hb] at e; injection e with e; omega
  have hk : Keep (fun b => v.ownBlock = some b ∨ b < B) w3 w' := ⟨h2.size, fun b hlt hD => h2.block b hlt (fun e => hD (.inl e.symm))⟩
  have hv4 : ∀ b, b < w3.heap.size → (v'.ownBlock = some b ∨ b < B) → (v.ownBlock = some b ∨ b < B) := fun b hlt hb => hb.elim (fun hb => .inl (hv3 b hlt hb)) .inr
  exact ⟨by rw [List.length_append]; exact h1, RC.app ((h.rc.below hb).grown hk hv4) (hq.grown hk hv4)⟩
theorem Out1.open {B N : Nat} {w : World} {v : Value} {M : List Rec} {xs : List Value} (h : Out1 B N w v M xs) (hBN : B ≤ N) : ∃ p c, v = .slice p M.length c ∧ M.length ≤ c ∧ Rs (Lt B) w p M := by
  obtain ⟨p, c, hv, hr⟩ := Rs.of_row h.own (h.rc.less (D' := Lt B) fun b _ hb => .inr hb) (fun j hj hl => by have := (h.own.lt j hj).1; have : j < B := hl; omega)
  refine ⟨p, c, hv, ?_, hr⟩
  rcases h.own.2 with ⟨e, h0⟩ | ⟨g, cap, cur, e, _, _, h5, _⟩
  · rw [hv] at e; injection e with _ h2 h3; omega
  · rw [hv] at e; injection e with _ h2 h3; omega
theorem sort_mem {L : List Rec} {x : Rec} (h : x ∈ sortR L) : x ∈ L := by
  have : ∀ (M acc : List Rec), x ∈ M.foldl insR acc → x ∈ acc ∨ x ∈ M := fun M => by
    induction M with
    | nil => exact fun acc h => .inl h
    | cons r M ih =>
      intro acc h
      rcases ih _ h with h | h
      · rcases mem_ins.1 h with rfl | h
        · exact .inr (List.mem_cons_self ..)
        · exact .inl h
      · exact .inr (List.mem_cons_of_mem _ h)
  exact (this L [] h).elim (fun h => absurd h (by simp)) id
theorem pos_step (O : List Rec) (x : List Nat) (m : Nat) (h : m < O.length) : posF O x (m + 1) = if 0 < cmp O[m].1 x then posF O x m else m + 1 := by
  have hg : (O.getD m ([], ⟨#[]⟩)).1 = O[m].1 := by rw [List.getD_eq_getElem?_getD, List.getElem?_eq_getElem h]; rfl
  rw [← hg]; rfl
set_option maxRecDepth 100000 in
set_option maxHeartbeats 8000000 in
theorem sorted_ok {D : Nat → Prop} (L : List Rec) (p : Option Addr) (c : Nat) (w : World) (hp : Rs D w p L) (hl : bigR L) :
    Calls Try.prog 25 #[.slice p L.length c] w fun e w' => ∃ p' c', e = .returned (.slice p' (sortR L).length c') ∧ Rs (Lt w.heap.size) w' p' (sortR L) ∧ Below w.heap.size w w' := by
  have HP := hid (hp.less (D' := fun _ => False) fun b _ h => h.elim); have HL := hid hl; have hlen := hl.1
  clear hp hl
  go_enter Try.func25, Try.ntmps25
  go_wp2_with fail
  go_loopw [3, 4] (fun v i wr => ∃ (k : Nat) (xs : List Value), k ≤ L.length ∧ i = .int .i64 (k : Int) ∧ Out1 w.heap.size w.heap.size wr v (sortR (L.take k)) xs ∧ Below w.heap.size w wr) (fun _ i _ => L.length - (intOf i).toNat)
  case atStart => exact ⟨0, [], by omega, rfl, ⟨World.ownsRow_nil _ _ _ _, RC.nil⟩, Below.refl _ _⟩
  case round =>
    rename World => w0
    obtain ⟨k, xs, hk, rfl, ho, hb⟩ := hrel
    have HB := hid hb; clear hb
    obtain ⟨po, co, hv, hco, hro⟩ := ho.open (Nat.le_refl _)
    have HRO := hid hro
    subst hv
    clear ho
    have hol : (sortR (L.take k)).length = k := by rw [sort_len, List.length_take]; omega
    have HOL := hid hol
    rw [hol] at hco ⊢
    clear hol
    have HCO := hid hco
    clear hro hco
    by_cases hlt : k < L.length
    · have HSN := hid (sort_snoc L k hlt)
      obtain ⟨b, off, q, c', rfl, hbl, e1, e2, hq⟩ := (HP.out.below HB.out).at k hlt
      have hbg := HL.out.2 _ (List.getElem_mem hlt)
      obtain ⟨O, hO⟩ : ∃ O, sortR (L.take k) = O := ⟨_, rfl⟩
      rw [hO] at HSN HRO HOL
      have HBO := hid (show ∀ r ∈ O, r.1.length ≤ 1000000 from fun r hr => by
        rw [← hO] at hr
        have := (HL.out.2 r (List.mem_of_mem_take (sort_mem hr))).1
        omega)
      obtain ⟨x, hx⟩ : ∃ x, L[k].1 = x := ⟨_, rfl⟩
      obtain ⟨t, htt⟩ : ∃ t, L[k].2 = t := ⟨_, rfl⟩
      have hr : L[k] = (x, t) := by rw [← hx, ← htt]
      rw [hr] at HSN
      rw [hx] at e1 hq hbg
      rw [htt] at e2
      have HD := hid fun (V : World) (hv : Below w0.heap.size w0 V) => (show V.cell? ⟨b, off + k * 2, none⟩ = some (.slice q x.length c') ∧ V.cell? ⟨b, off + k * 2 + 1, none⟩ = some (.string t) from ⟨(hv.cell (p := ⟨b, _, none⟩) hbl).trans e1, (hv.cell (p := ⟨b, _, none⟩) hbl).trans e2⟩)
      have HC := hid fun (w' : World) (hb : Below w0.heap.size w0 w') => copy_ok x q c' w' (hq.pt.below hb) (by omega)
      have HQ0 := hid hq.pt
      have hOl := HOL.out
      have hp0 : posF O x k = posR O x := by unfold posR; rw [hOl]
      have HP0 := hid hp0
      clear hq hx htt hr e1 e2 hbl hO hp0 hbg
      go_wp2_with fail
      go_loopw [5] (fun i wz => ∃ j : Nat, j ≤ k ∧ i = .int .i64 (j : Int) ∧ posF O x j = posR O x ∧ ∃ n, wz = w0.drewN n) (fun i _ => (intOf i).toNat)
      case atStart => exact ⟨k, by omega, rfl, HP0.out, 0, rfl⟩
      case round =>
        obtain ⟨j, hj, rfl, hpos, n, hwz⟩ := hrel
        have HZ := hid (show Below w0.heap.size w0 wr by rw [hwz]; exact below_drewN (Below.refl _ _) n)
        have HW := hid hwz
        have HPS := hid hpos; clear hpos hwz
        obtain ⟨d1, d2⟩ := HD.out _ HZ.out
        by_cases hj0 : 0 < j
        · obtain ⟨m, hm⟩ : ∃ m, j = m + 1 := ⟨j - 1, by omega⟩
          have hmO : m < O.length := by omega
          obtain ⟨b2, o2, q2, c2, rfl, hb2, d3, d4, hq2⟩ := (HRO.out.below HZ.out).at m hmO
          have g0 : decide ((0 : Int) < (j : Int)) = true := by simp; omega
          have g1 : decide (0 < j) = true := by simp; omega
          have hw1 : IntKind.i64.wrap ((j : Int) - 1) = (m : Int) := by rw [Go.IntWalk.i64_in _ (by omega)]; omega
          have hmk : m < k := by omega
          have HM := hid hm
          have HCM := hid fun (n : Nat) => refCompare_ok O[m].1 x q2 q c2 c' (wr.drewN n) (hq2.pt.drewN n) ((HQ0.out.below HZ.out).drewN n) (HBO.out _ (List.getElem_mem hmO))
          have HST := hid (pos_step O x m hmO)
          clear hm
          by_cases hc : 0 < cmp O[m].1 x
          · have HPN := hid (show posF O x m = posR O x by have h1 := HST.out; rw [if_pos hc] at h1; rw [← HPS.out, HM.out, h1])
            have g2 : decide (0 < cmp O[m].1 x) = true := by simpa using hc
            clear hc HST hq2 d2 d4
            generalize cmp O[m].1 x = z at HCM g2
            generalize O[m].1.length = l2 at d3 HCM
            go_wp2_with fail
            go_quiet ((go_at_call 41; exact quiet_more (HCM.out _)))
            go_wp2_with fail
            go_roundw
            case rel => exact ⟨m, by omega, by first | rfl | go_num, HPN.out, _, by rw [HW.out]; exact World.drewN_drewN _ _ _⟩
            case measure => simp [intOf]; have := HM.out; omega
          · have HPJ0 := hid (show posR O x = j by have h1 := HST.out; rw [if_neg hc] at h1; rw [← HPS.out, HM.out, h1])
            have g2 : decide (0 < cmp O[m].1 x) = false := by simpa using hc
            clear hc HST hq2 d4
            generalize cmp O[m].1 x = z at HCM g2
            generalize O[m].1.length = l2 at d3 HCM
            go_wp2_with fail
            go_quiet ((go_at_call 41; exact quiet_more (HCM.out _)))
            generalize hV : wr.drewN _ = V
            have HPJ := hid (show posR O (x, t).1 = j from HPJ0.out)
            clear HCM d3 g2 HPS HPJ0 hw1
            have hbV : Below w0.heap.size w0 V := by rw [← hV]; exact below_drewN HZ.out _
            obtain ⟨ys, hys, hra⟩ := rs_cells (HRO.out.below hbV)
            have HK1 := hid (show (O.take j).length = j by rw [List.length_take]; omega)
            have HYT := hid ((hys.less (D' := fun b => Value.ownBlock (.slice none 0 0) = some b ∨ b < w.heap.size) fun b _ e => e.elim (fun e => by cases e) id).take j (by omega))
            have HYD := hid ((hys.less (D' := fun b => V.heap.size ≤ b ∨ b < w.heap.size) fun b h1 h2 => h2.elim (fun h2 => absurd h1 (by omega)) id).drop j (by omega))
            have HRT := hid (hra.take (j * 2))
            have HRA := hid hra
            have HLT := hid (show (ys.take (j * 2)).length = j * 2 by rw [List.length_take, hys.1]; omega)
            have HLD := hid (show (ys.drop (j * 2)).length = (k - j) * 2 by rw [List.length_drop, hys.1]; omega)
            have s1 := fun (W : World) => slice_to (some ⟨b2, o2, none⟩) k co j (by omega) HCO.out W
            obtain ⟨P, hP, s2⟩ := slice_back (some ⟨b2, o2, none⟩) k co j (by omega) HCO.out
            have HPP := hid (show P = cutP (some ⟨b2, o2, none⟩) (j * 2) ∨ ys.length ≤ j * 2 by rcases hP with h | h; exact .inl h; right; rw [hys.1]; omega)
            have HINS := hid (show insR O (x, t) = O.take j ++ [(x, t)] ++ O.drop j by unfold insR; rw [HPJ.out, List.append_assoc]; rfl)
            have HBV := hid hbV
            obtain ⟨y1, hy1⟩ : ∃ y1, ys.take (j * 2) = y1 := ⟨_, rfl⟩
            obtain ⟨y2, hy2⟩ : ∃ y2, ys.drop (j * 2) = y2 := ⟨_, rfl⟩
            have HRD := hid fun (U : World) (hu : Below V.heap.size V U) => (show ReadAt U P y2 by rw [← hy2]; exact read_cut (HRA.out.below hu) (j * 2) P HPP.out)
            rw [hy1] at HYT HRT HLT
            rw [hy2] at HYD HLD
            obtain ⟨K1, hk1⟩ : ∃ K1, O.take j = K1 := ⟨_, rfl⟩
            obtain ⟨K2, hk2⟩ : ∃ K2, O.drop j = K2 := ⟨_, rfl⟩
            have HK2 := hid (show K2.length = k - j by rw [← hk2, List.length_drop]; omega)
            rw [hk1] at HYT HK1
            rw [hk2] at HYD
            rw [hk1, hk2] at HINS
            have HN := hid (show Out1 w.heap.size V.heap.size V (.slice none 0 0) [] [] from ⟨World.ownsRow_nil _ _ _ _, RC.nil⟩)
            have HA1 := hid (rec_own (w := V) 40 (.slice none 0 0) 0 [] HN.out.own (some ⟨b2, o2, none⟩) j co y1 HRT.out HLT.out HYT.out.oneCell (by omega) (Nat.le_refl _))
            have HVB := hid fun (w1 U : World) (hz : Below V.heap.size V w1) (hu : Below w1.heap.size w1 U) => (show Below V.heap.size V U ∧ Below w0.heap.size w0 U from ⟨hz.trans (hu.mono hz.size), HBV.out.trans ((hz.trans (hu.mono hz.size)).mono HBV.out.size)⟩)
            clear hra hys hy1 hy2 hk1 hk2 hP HRA HPP hV hbV HRO HPJ d1 d2 HZ
            go_wp2_with (at_builtin; refine wpList_app rfl _ _ _ rfl rfl rfl HA1.out ?_)
            intro v1 w1 hF
            have HP1 := hid (show Out1 w.heap.size V.heap.size w1 v1 K1 y1 from HN.out.add (Below.refl _ _) HYT.out (show Owns V V.heap.size 33 2 (.slice none 0 0) (0 + K1.length) ([] ++ y1) v1 w1 by rw [HK1.out, Nat.zero_add]; exact hF))
            have HZ1 := hid (show Below V.heap.size V w1 from (Below.refl V.heap.size V).grown hF.2.1 (Nat.le_refl _) (fun j hj => (HN.out.own.lt j hj).1))
            clear hF HA1 HYT HRT HLT HN s1
            have HPU := hid fun (w3 w' : World) (v' : Value) (q2 : Option Addr) (c2 : Nat) (hb : Below w1.heap.size w1 w3) (hq : PtD (Lt w1.heap.size) w3 q2 x) (hw : Owns w3 V.heap.size 33 2 v1 (j + 1) (y1 ++ [.slice q2 x.length c2, .string t]) v' w') => (show Out1 w.heap.size V.heap.size w' v' (K1 ++ [(x, t)]) (y1 ++ [.slice q2 x.length c2, .string t]) ∧ Below V.heap.size V w' from
              ⟨HP1.out.add hb (RC.one (hq.less fun b _ e => e.elim (fun e => (HP1.out.own.lt b e).2) (fun e => Nat.lt_of_lt_of_le e (Nat.le_trans HB.out.size (Nat.le_trans HBV.out.size HZ1.out.size))))) (show Owns w3 V.heap.size 33 2 v1 (K1.length + 1) (y1 ++ [.slice q2 x.length c2, .string t]) v' w' by rw [HK1.out]; exact hw), (HVB.out w1 w3 HZ1.out hb).1.grown hw.2.1 (HVB.out w1 w3 HZ1.out hb).1.size (fun j hj => (HP1.out.own.lt j hj).1)⟩)
            have HJ := hid (show w1.ownsRow V.heap.size 33 2 v1 j y1 by have := HP1.out.own; rwa [HK1.out] at this)
            have H0 := hid (Below.refl w1.heap.size w1).drew
            have HB0 := hid (HVB.out w1 _ HZ1.out H0.out).2
            have z0 := HD.out _ HB0.out
            obtain ⟨d1, d2⟩ := HD.out _ (HVB.out w1 _ HZ1.out (Below.refl _ _)).2
            go_wp2_with fail
            go_region_held3 (fun w' => w'.cell? ⟨b, off + k * 2, none⟩ = some (.slice q x.length c') ∧ w'.cell? ⟨b, off + k * 2 + 1, none⟩ = some (.string t)) (first | exact z0 | exact z1 | exact z2 | exact z3 | go_keep)
              (first
                | (go_at_call 34; (with_reducible refine (HC.out _ HB0.out).mono ?_); rintro e w2 ⟨q2, c2, rfl, hq, hb⟩; have H1 := hid (H0.out.trans (hb.mono H0.out.size)); have HB1 := hid (HVB.out w1 _ HZ1.out H1.out).2; have z1 := HD.out _ HB1.out; have H2 := hid (H1.out.alloc H1.out.size (.cells #[.slice q2 x.length c2, .string t] 33)); have HB2 := hid (HVB.out w1 _ HZ1.out H2.out); have z2 := HD.out _ HB2.out.2; have HQ := hid ((hq.to (N := w1.heap.size) (fun k hk => hk)).keep (.below (below_alloc w2 (.cells #[.slice q2 x.length c2, .string t] 33)))); have HA := hid (rec_own (w := w2.alloc (.cells #[.slice q2 x.length c2, .string t] 33)) 40 v1 j y1 (own_below HJ.out H2.out) (some ⟨w2.heap.size, 0, none⟩) 1 1 [.slice q2 x.length c2, .string t] (read_new w2 _ _ _) rfl (one_two _ _ rfl rfl) (by omega) HB2.out.1.size); clear hq hb)
                | (refine step_app (by rfl) _ _ _ (by rfl) (by rfl) (by rfl) HA.out ?_; intro v' w4 hF; have H4 := hid (HPU.out _ _ _ _ _ H2.out HQ.out hF); have z3 := HD.out _ (HBV.out.trans (H4.out.2.mono HBV.out.size)); clear hF)
                | fail)
            clear d1 d2 z0 z1 z2 z3
            have H4O := hid H4.out.1; have HZ4 := hid H4.out.2
            generalize (y1 ++ [Value.slice q2 x.length c2, .string t] : List Value) = y3 at H4O
            have HJ4 := hid (show w4.ownsRow V.heap.size 33 2 v' (j + 1) y3 by have := H4O.out.own; rw [List.length_append, HK1.out] at this; exact this)
            have HA3 := hid (rec_own (w := w4) 40 v' (j + 1) y3 HJ4.out P (k - j) (co - j) y2 (HRD.out _ HZ4.out) HLD.out HYD.out.oneCell (by omega) HZ4.out.size)
            clear H4 HA HPU HQ HP1 HJ HB0 HB1 HB2 H0 H1 H2
            go_wp2_with (at_builtin; refine wpList_app rfl _ _ _ rfl rfl rfl HA3.out ?_)
            intro v5 w5 hF
            have HP5 := hid (H4O.out.add (Below.refl _ _) ((HYD.out.below HZ4.out).less fun b _ e => e.elim (fun e => .inl (H4O.out.own.lt b e).1) .inr) (show Owns w4 V.heap.size 33 2 v' ((K1 ++ [(x, t)]).length + K2.length) (y3 ++ y2) v5 w5 by rw [List.length_append, HK1.out, HK2.out]; exact hF))
            have HZ5 := hid (show Below V.heap.size V w5 from HZ4.out.grown hF.2.1 HZ4.out.size (fun j hj => (H4O.out.own.lt j hj).1))
            have HB5 := hid (HB.out.trans ((HBV.out.trans (HZ5.out.mono HBV.out.size)).mono HB.out.size))
            clear hF
            go_wp2_with fail
            go_roundw
            case rel => exact ⟨k + 1, _, by omega, by go_num, by rw [HSN.out, HINS.out]; exact HP5.out.base (Nat.le_trans HB.out.size HBV.out.size), HB5.out⟩
            case measure => simp [intOf]; omega
        · have h0 : j = 0 := by omega
          have HPJ := hid (show posR O (x, t).1 = j by rw [← HPS.out, h0]; rfl)
          have g0 : decide ((0 : Int) < (j : Int)) = false := by simp; omega
          have g1 : decide (0 < j) = false := by simp; omega
          clear h0
          go_wp2_with fail
          go_quiet (fail)
          generalize hV : wr.drewN _ = V
          clear HPS
          have hbV : Below w0.heap.size w0 V := by rw [← hV]; exact below_drewN HZ.out _
          obtain ⟨ys, hys, hra⟩ := rs_cells (HRO.out.below hbV)
          have HK1 := hid (show (O.take j).length = j by rw [List.length_take]; omega)
          have HYT := hid ((hys.less (D' := fun b => Value.ownBlock (.slice none 0 0) = some b ∨ b < w.heap.size) fun b _ e => e.elim (fun e => by cases e) id).take j (by omega))
          have HYD := hid ((hys.less (D' := fun b => V.heap.size ≤ b ∨ b < w.heap.size) fun b h1 h2 => h2.elim (fun h2 => absurd h1 (by omega)) id).drop j (by omega))
          have HRT := hid (hra.take (j * 2))
          have HRA := hid hra
          have HLT := hid (show (ys.take (j * 2)).length = j * 2 by rw [List.length_take, hys.1]; omega)
          have HLD := hid (show (ys.drop (j * 2)).length = (k - j) * 2 by rw [List.length_drop, hys.1]; omega)
          have s1 := fun (W : World) => slice_to po k co j (by omega) HCO.out W
          obtain ⟨P, hP, s2⟩ := slice_back po k co j (by omega) HCO.out
          have HPP := hid (show P = cutP po (j * 2) ∨ ys.length ≤ j * 2 by rcases hP with h | h; exact .inl h; right; rw [hys.1]; omega)
          have HINS := hid (show insR O (x, t) = O.take j ++ [(x, t)] ++ O.drop j by unfold insR; rw [HPJ.out, List.append_assoc]; rfl)
          have HBV := hid hbV
          obtain ⟨y1, hy1⟩ : ∃ y1, ys.take (j * 2) = y1 := ⟨_, rfl⟩
          obtain ⟨y2, hy2⟩ : ∃ y2, ys.drop (j * 2) = y2 := ⟨_, rfl⟩
          have HRD := hid fun (U : World) (hu : Below V.heap.size V U) => (show ReadAt U P y2 by rw [← hy2]; exact read_cut (HRA.out.below hu) (j * 2) P HPP.out)
          rw [hy1] at HYT HRT HLT
          rw [hy2] at HYD HLD
          obtain ⟨K1, hk1⟩ : ∃ K1, O.take j = K1 := ⟨_, rfl⟩
          obtain ⟨K2, hk2⟩ : ∃ K2, O.drop j = K2 := ⟨_, rfl⟩
          have HK2 := hid (show K2.length = k - j by rw [← hk2, List.length_drop]; omega)
          rw [hk1] at HYT HK1
          rw [hk2] at HYD
          rw [hk1, hk2] at HINS
          have HN := hid (show Out1 w.heap.size V.heap.size V (.slice none 0 0) [] [] from ⟨World.ownsRow_nil _ _ _ _, RC.nil⟩)
          have HA1 := hid (rec_own (w := V) 40 (.slice none 0 0) 0 [] HN.out.own po j co y1 HRT.out HLT.out HYT.out.oneCell (by omega) (Nat.le_refl _))
          have HVB := hid fun (w1 U : World) (hz : Below V.heap.size V w1) (hu : Below w1.heap.size w1 U) => (show Below V.heap.size V U ∧ Below w0.heap.size w0 U from ⟨hz.trans (hu.mono hz.size), HBV.out.trans ((hz.trans (hu.mono hz.size)).mono HBV.out.size)⟩)
          clear hra hys hy1 hy2 hk1 hk2 hP HRA HPP hV hbV HRO HPJ d1 d2 HZ
          go_wp2_with (at_builtin; refine wpList_app rfl _ _ _ rfl rfl rfl HA1.out ?_)
          intro v1 w1 hF
          have HP1 := hid (show Out1 w.heap.size V.heap.size w1 v1 K1 y1 from HN.out.add (Below.refl _ _) HYT.out (show Owns V V.heap.size 33 2 (.slice none 0 0) (0 + K1.length) ([] ++ y1) v1 w1 by rw [HK1.out, Nat.zero_add]; exact hF))
          have HZ1 := hid (show Below V.heap.size V w1 from (Below.refl V.heap.size V).grown hF.2.1 (Nat.le_refl _) (fun j hj => (HN.out.own.lt j hj).1))
          clear hF HA1 HYT HRT HLT HN s1
          have HPU := hid fun (w3 w' : World) (v' : Value) (q2 : Option Addr) (c2 : Nat) (hb : Below w1.heap.size w1 w3) (hq : PtD (Lt w1.heap.size) w3 q2 x) (hw : Owns w3 V.heap.size 33 2 v1 (j + 1) (y1 ++ [.slice q2 x.length c2, .string t]) v' w') => (show Out1 w.heap.size V.heap.size w' v' (K1 ++ [(x, t)]) (y1 ++ [.slice q2 x.length c2, .string t]) ∧ Below V.heap.size V w' from
            ⟨HP1.out.add hb (RC.one (hq.less fun b _ e => e.elim (fun e => (HP1.out.own.lt b e).2) (fun e => Nat.lt_of_lt_of_le e (Nat.le_trans HB.out.size (Nat.le_trans HBV.out.size HZ1.out.size))))) (show Owns w3 V.heap.size 33 2 v1 (K1.length + 1) (y1 ++ [.slice q2 x.length c2, .string t]) v' w' by rw [HK1.out]; exact hw), (HVB.out w1 w3 HZ1.out hb).1.grown hw.2.1 (HVB.out w1 w3 HZ1.out hb).1.size (fun j hj => (HP1.out.own.lt j hj).1)⟩)
          have HJ := hid (show w1.ownsRow V.heap.size 33 2 v1 j y1 by have := HP1.out.own; rwa [HK1.out] at this)
          have H0 := hid (Below.refl w1.heap.size w1).drew
          have HB0 := hid (HVB.out w1 _ HZ1.out H0.out).2
          have z0 := HD.out _ HB0.out
          obtain ⟨d1, d2⟩ := HD.out _ (HVB.out w1 _ HZ1.out (Below.refl _ _)).2
          go_wp2_with fail
          go_region_held3 (fun w' => w'.cell? ⟨b, off + k * 2, none⟩ = some (.slice q x.length c') ∧ w'.cell? ⟨b, off + k * 2 + 1, none⟩ = some (.string t)) (first | exact z0 | exact z1 | exact z2 | exact z3 | go_keep)
            (first
              | (go_at_call 34; (with_reducible refine (HC.out _ HB0.out).mono ?_); rintro e w2 ⟨q2, c2, rfl, hq, hb⟩; have H1 := hid (H0.out.trans (hb.mono H0.out.size)); have HB1 := hid (HVB.out w1 _ HZ1.out H1.out).2; have z1 := HD.out _ HB1.out; have H2 := hid (H1.out.alloc H1.out.size (.cells #[.slice q2 x.length c2, .string t] 33)); have HB2 := hid (HVB.out w1 _ HZ1.out H2.out); have z2 := HD.out _ HB2.out.2; have HQ := hid ((hq.to (N := w1.heap.size) (fun k hk => hk)).keep (.below (below_alloc w2 (.cells #[.slice q2 x.length c2, .string t] 33)))); have HA := hid (rec_own (w := w2.alloc (.cells #[.slice q2 x.length c2, .string t] 33)) 40 v1 j y1 (own_below HJ.out H2.out) (some ⟨w2.heap.size, 0, none⟩) 1 1 [.slice q2 x.length c2, .string t] (read_new w2 _ _ _) rfl (one_two _ _ rfl rfl) (by omega) HB2.out.1.size); clear hq hb)
              | (refine step_app (by rfl) _ _ _ (by rfl) (by rfl) (by rfl) HA.out ?_; intro v' w4 hF; have H4 := hid (HPU.out _ _ _ _ _ H2.out HQ.out hF); have z3 := HD.out _ (HBV.out.trans (H4.out.2.mono HBV.out.size)); clear hF)
              | fail)
          clear d1 d2 z0 z1 z2 z3
          have H4O := hid H4.out.1; have HZ4 := hid H4.out.2
          generalize (y1 ++ [Value.slice q2 x.length c2, .string t] : List Value) = y3 at H4O
          have HJ4 := hid (show w4.ownsRow V.heap.size 33 2 v' (j + 1) y3 by have := H4O.out.own; rw [List.length_append, HK1.out] at this; exact this)
          have HA3 := hid (rec_own (w := w4) 40 v' (j + 1) y3 HJ4.out P (k - j) (co - j) y2 (HRD.out _ HZ4.out) HLD.out HYD.out.oneCell (by omega) HZ4.out.size)
          clear H4 HA HPU HQ HP1 HJ HB0 HB1 HB2 H0 H1 H2
          go_wp2_with (at_builtin; refine wpList_app rfl _ _ _ rfl rfl rfl HA3.out ?_)
          intro v5 w5 hF
          have HP5 := hid (H4O.out.add (Below.refl _ _) ((HYD.out.below HZ4.out).less fun b _ e => e.elim (fun e => .inl (H4O.out.own.lt b e).1) .inr) (show Owns w4 V.heap.size 33 2 v' ((K1 ++ [(x, t)]).length + K2.length) (y3 ++ y2) v5 w5 by rw [List.length_append, HK1.out, HK2.out]; exact hF))
          have HZ5 := hid (show Below V.heap.size V w5 from HZ4.out.grown hF.2.1 HZ4.out.size (fun j hj => (H4O.out.own.lt j hj).1))
          have HB5 := hid (HB.out.trans ((HBV.out.trans (HZ5.out.mono HBV.out.size)).mono HB.out.size))
          clear hF
          go_wp2_with fail
          go_roundw
          case rel => exact ⟨k + 1, _, by omega, by go_num, by rw [HSN.out, HINS.out]; exact HP5.out.base (Nat.le_trans HB.out.size HBV.out.size), HB5.out⟩
          case measure => simp [intOf]; omega
    · obtain rfl : k = L.length := by omega
      have h1 := HRO.out
      have h2 := HOL.out
      rw [List.take_length] at h1 h2
      have H1 := hid h1
      clear h1 HRO
      go_wp2_with fail
      go_ret
      rw [h2]
      exact ⟨po, co, rfl, H1.out, HB.out⟩
end Go.Proofs.Ytmniaaledplhfaa.Pt
