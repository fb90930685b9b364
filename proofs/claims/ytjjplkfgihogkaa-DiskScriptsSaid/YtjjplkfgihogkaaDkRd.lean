/- Read of disk: what was written last, or the page. -/
import Derived.Test.YtjjplkfgihogkaaDkBack
import Derived.RegionIn
namespace Go.Proofs.Ytjjplkfgihogkaa.Dk
open Go.RowKit Go.Shelf
open Go.Lib (hid)
attribute [local go_sem] Oper.semAt_some
def readS (s : St) : St := { s with reads := s.reads + 1 }
theorem readS_good {s : St} (h : Good s) (hr : s.reads < 1000000) : Good (readS s) := by
  refine ⟨h.n1, h.n2, h.sizes, h.wait, h.few, h.fuse, ?_, h.writes, h.flushes⟩
  have := h.reads
  show 0 ≤ s.reads + 1 ∧ s.reads + 1 ≤ 1000000
  omega
theorem boxed_far {W : World} {B D i : Nat} {t : TypeId} {v : Value} (h : Boxed W B t v) (hne : B ≠ D) (u : Value) : Boxed (W.setCell ⟨D, i, none⟩ u) B t v := by
  unfold Boxed at h ⊢
  rw [heap_setCell_other _ _ _ _ hne]; exact h
theorem block_own (B : Nat) (cs : Array Value) (t : TypeId) : Own (fun (_ : Unit) W => W.heap[B]? = some (.cells cs t (0, 0))) := fun s X Y row hs hg hrow =>
  (hg.block B (Array.getElem?_eq_some_iff.1 hs).1 (fun e' => by obtain ⟨o, ho, hc⟩ := hrow B e'.symm; rw [hs] at ho; cases ho; cases hc)).trans hs
/-- what Read answers: of the writes to a page the last one; without one, the page -/
def IsLast (pages : List ByteArray) (ws : List (Nat × ByteArray)) (i : Nat) (t : ByteArray) : Prop :=
  (∃ q, ∃ hq : q < ws.length, ws[q].1 = i ∧ ws[q].2 = t ∧ ∀ j (hj : j < ws.length), q < j → ws[j].1 ≠ i) ∨ ((∀ j (hj : j < ws.length), ws[j].1 ≠ i) ∧ pages[i]? = some t)
theorem last_eq (pages : List ByteArray) (i : Nat) (hi : i < pages.length) (t : ByteArray) : ∀ (n : Nat) (ws : List (Nat × ByteArray)), ws.length = n → IsLast pages ws i t → (applyW pages ws)[i]? = some t := by
  intro n
  induction n with
  | zero =>
    intro ws hn h
    obtain rfl : ws = [] := List.length_eq_zero_iff.1 hn
    rcases h with ⟨q, hq, _⟩ | ⟨_, h⟩
    · simp at hq
    · exact h
  | succ n ih =>
    intro ws hn h
    obtain ⟨l, x, rfl⟩ : ∃ l x, ws = l ++ [x] := ⟨ws.dropLast, ws.getLast (by intro e; rw [e] at hn; simp at hn), (List.dropLast_concat_getLast _).symm⟩
    have hl : l.length = n := by simpa using hn
    rw [applyW_snoc]
    have hlast : ∀ (h : l.length < (l ++ [x]).length), (l ++ [x])[l.length]'h = x := fun h => by simp
    have hfirst : ∀ j (h : j < (l ++ [x]).length) (h2 : j < l.length), (l ++ [x])[j]'h = l[j] := fun j h h2 => List.getElem_append_left h2
    by_cases hx : x.1 = i
    · have ht : x.2 = t := by
        rcases h with ⟨q, hq, h1, h2, h3⟩ | ⟨h1, _⟩
        · by_cases e : q = l.length
          · subst e; rw [hlast] at h2; exact h2
          · have hq' : q < l.length := by simp at hq; omega
            have := h3 l.length (by simp) hq'
            rw [hlast] at this
            exact absurd hx this
        · have := h1 l.length (by simp)
          rw [hlast] at this
          exact absurd hx this
      rw [hx, ht, List.getElem?_set_self (by rw [applyW_length]; exact hi)]
    · rw [List.getElem?_set_ne hx]
      refine ih l hl ?_
      rcases h with ⟨q, hq, h1, h2, h3⟩ | ⟨h1, h2⟩
      · have hq' : q < l.length := by
          simp at hq
          by_cases e : q = l.length
          · subst e; rw [hlast] at h1; exact absurd h1 hx
          · omega
        rw [hfirst q hq hq'] at h1 h2
        exact .inl ⟨q, hq', h1, h2, fun j hj hqj => by have := h3 j (by simp; omega) hqj; rwa [hfirst j _ hj] at this⟩
      · exact .inr ⟨fun j hj => by have := h1 j (by simp; omega); rwa [hfirst j _ hj] at this, h2⟩
def NoneOf (i : Nat) (pre : List WAt) : Prop := ∀ p ∈ pre, p.2.1 ≠ i
theorem NoneOf.nil (i : Nat) : NoneOf i [] := fun _ hp => (List.not_mem_nil hp).elim
theorem NoneOf.more {i : Nat} {pre : List WAt} {x : WAt} (h : NoneOf i pre) (hx : x.2.1 ≠ i) : NoneOf i (pre ++ [x]) := fun p hp => (List.mem_append.1 hp).elim (h p) (fun e => by rw [List.mem_singleton] at e; rw [e]; exact hx)
def LeftAt (i : Nat) (pre : List WAt) (t : ByteArray) : Prop := ∃ ini last, pre = ini ++ [last] ∧ NoneOf i ini ∧ last.2.1 = i ∧ last.2.2 = t
theorem LeftAt.mk' {i : Nat} {pre : List WAt} (h : NoneOf i pre) (x : WAt) (hx : x.2.1 = i) : LeftAt i (pre ++ [x]) x.2.2 := ⟨pre, x, rfl, h, hx, rfl⟩
theorem upto_none (ws : List (Nat × ByteArray)) (i k : Nat) (h : NoneOf i (upto ws k)) : ∀ j (hj : j < ws.length), ws.length - 1 - k < j ∨ k = ws.length → ws[j].1 ≠ i := by
  intro j hj hjk
  have := h (ws.length - 1 - (ws.length - 1 - j), ws.getD (ws.length - 1 - (ws.length - 1 - j)) (0, ByteArray.empty)) (by
    unfold upto
    exact List.mem_map.2 ⟨ws.length - 1 - j, List.mem_range.2 (by omega), rfl⟩)
  have e : ws.length - 1 - (ws.length - 1 - j) = j := by omega
  rw [e] at this
  simpa [hj] using this
theorem left_last (pages : List ByteArray) (ws : List (Nat × ByteArray)) (i k : Nat) (t : ByteArray) (hk : k ≤ ws.length) (h : LeftAt i (upto ws k) t) : IsLast pages ws i t := by
  obtain ⟨ini, last, e1, h1, h2, h3⟩ := h
  obtain ⟨k', rfl⟩ : ∃ k', k = k' + 1 := by
    cases k with
    | zero => simp [upto] at e1
    | succ k' => exact ⟨k', rfl⟩
  rw [upto_succ] at e1
  obtain ⟨rfl, e5⟩ := List.append_inj' e1 rfl
  have e6 : (ws.length - 1 - k', ws.getD (ws.length - 1 - k') (0, ByteArray.empty)) = last := by simpa using e5
  subst e6
  have hq : ws.length - 1 - k' < ws.length := by omega
  have hg : ws.getD (ws.length - 1 - k') (0, ByteArray.empty) = ws[ws.length - 1 - k'] := by simp [hq]
  rw [hg] at h2 h3
  exact .inl ⟨_, hq, h2, h3, fun j hj hqj => upto_none ws i k' h1 j hj (.inl hqj)⟩
set_option maxRecDepth 100000 in
set_option maxHeartbeats 2000000 in
theorem read_in (d : Ptrs) (s : St) (i : Nat) (w : World) (hD : Dsk w d s) (hi : i < s.pages.length) (hr : s.reads < 1000000) :
    CallsIn Fence.wide 9 Try.prog 10 #[.pointer (some ⟨d.D, 0, none⟩), .int .i64 (i : Int)] w fun e W' => ∃ t, e = .returned (.tuple #[.string t, .int .i64 0]) ∧ IsLast s.pages s.waits i t ∧ Dsk W' d (readS s) ∧ Only d w W' := by
  have e1 : decide (0 ≤ (i : Int) ∧ (i : Int) < (s.pages.length : Int)) = true := by simp; omega
  have hB3 : Below w.heap.size w (((w.alloc (.cells #[.int .i64 (i : Int)] 3)).alloc (.cells #[.string ⟨#[]⟩] 9)).alloc (.cells #[.int .i64 0] 24)) :=
    (((Below.refl _ _).alloc (Nat.le_refl _) _).alloc (by simp) _).alloc (by simp; omega) _
  have hD3 := hD.below hB3
  have hrd := hD.good.reads
  have hrd1 := hrd.1
  have c := hD3.cells
  have f3 := hD3.free 3
  have hD4 := hD3.store 3 (.int .i64 (s.reads + 1)) (readS s) rfl rfl (readS_good hD.good hr) rfl
  have hWI := hD4.waitsIn (w.heap.size + 4) (by rw [World.size_setCell]; simp)
  obtain ⟨va, vl, vc, hwv⟩ : ∃ va vl vc, d.wv = .slice va vl vc := by
    rcases hWI with ⟨h, _⟩ | ⟨b, cap, h, _⟩
    · exact ⟨_, _, _, h⟩
    · exact ⟨_, _, _, h⟩
  rw [hwv] at c
  have bN0 := (((Boxed.new w 3 (.int .i64 (i : Int))).alloc (.cells #[.string ⟨#[]⟩] 9)).alloc (.cells #[.int .i64 0] 24))
  have bT0 := ((Boxed.new (w.alloc (.cells #[.int .i64 (i : Int)] 3)) 9 (.string ⟨#[]⟩)).alloc (.cells #[.int .i64 0] 24))
  have bE0 := Boxed.new ((w.alloc (.cells #[.int .i64 (i : Int)] 3)).alloc (.cells #[.string ⟨#[]⟩] 9)) 24 (.int .i64 0)
  simp only [World.size_alloc] at bT0 bE0
  have hDlt := hD.ltD
  have bN := boxed_far (i := 3) bN0 (show w.heap.size ≠ d.D by omega) (.int .i64 (s.reads + 1))
  have bT := boxed_far (i := 3) bT0 (show w.heap.size + 1 ≠ d.D by omega) (.int .i64 (s.reads + 1))
  have bE := boxed_far (i := 3) bE0 (show w.heap.size + 1 + 1 ≠ d.D by omega) (.int .i64 (s.reads + 1))
  have hsz : ((((w.alloc (.cells #[.int .i64 (i : Int)] 3)).alloc (.cells #[.string ⟨#[]⟩] 9)).alloc (.cells #[.int .i64 0] 24)).setCell ⟨d.D, 3, none⟩ (.int .i64 (s.reads + 1))).heap.size = w.heap.size + 3 := by rw [World.size_setCell]; simp
  clear bN0 bT0 bE0
  have H3 := hid hD3; have H4 := hid hD4; have HB3 := hid hB3; clear hD3 hD4 hB3
  refine callsIn_of_wp_marks Try.func10 rfl trivial ?_ rfl
  simp only [Try.ntmps10, List.size_toArray, List.length_cons, List.length_nil, Nat.reduceAdd, Nat.reduceSub, Array.replicate_succ, Array.replicate_zero, List.push_toArray, List.append_toArray, List.nil_append, List.cons_append]
  gi_wp2_with (first
    | (gi_at_call 28; refine (callsIn_wide.2 (has_ok d s (i : Int) _ H3.out)).mono ?_; rintro e w' ⟨rfl, rfl⟩)
    | (refine ⟨trivial, ?_⟩; gi_at_call 28; refine (callsIn_wide.2 (has_ok d s (i : Int) _ H3.out)).mono ?_; rintro e w' ⟨rfl, rfl⟩)
    | (refine ⟨trivial, ?_⟩; gi_at_call 33; refine (backward_in Fence.wide _ trivial rfl _ _ _ _).mono ?_; rintro e w' ⟨rfl, rfl⟩))
  obtain ⟨W1, hW1⟩ : ∃ W1, (((w.alloc (.cells #[.int .i64 (i : Int)] 3)).alloc (.cells #[.string ⟨#[]⟩] 9)).alloc (.cells #[.int .i64 0] 24)).setCell ⟨d.D, 3, none⟩ (.int .i64 (s.reads + 1)) = W1 := ⟨_, rfl⟩
  rw [hW1] at bN bT bE hsz hWI H4 ⊢
  have hA : W1.heap.size = w.heap.size + 3 := hsz
  have HO1 : Hid (Only d w W1) := hid (by rw [← hW1]; exact (Only.below HB3.out).store 3 _)
  clear hW1 c f3 H3 HB3
  have hfoot : ∀ k, Foot d k → k < w.heap.size := hD.lt
  have bS := Boxed.new W1 56 (.slice va vl vc)
  rw [hA] at bS
  have bN' := bN.alloc (.cells #[.slice va vl vc] 56)
  have bT' := bT.alloc (.cells #[.slice va vl vc] 56)
  have bE' := bE.alloc (.cells #[.slice va vl vc] 56)
  rw [hwv] at hWI
  have hWI' : WaitsAt (w.heap.size + 4) (W1.alloc (.cells #[.slice va vl vc] 56)) (.slice va vl vc) s.waits := by
    rcases hWI with h | ⟨b, cap, e, hb, hc⟩
    · exact .inl h
    · have hbw : b < W1.heap.size := by
        have := hfoot b (.inr (.inr (by rw [hwv, e]; rfl)))
        omega
      refine .inr ⟨b, cap, e, hb, fun j hj => ?_⟩
      obtain ⟨h1, h2⟩ := hc j hj
      have hb2 : Below W1.heap.size W1 (W1.alloc (.cells #[.slice va vl vc] 56)) := (Below.refl _ _).alloc (Nat.le_refl _) _
      exact ⟨(hb2.cell (p := ⟨b, j * 2, none⟩) hbw).trans h1, (hb2.cell (p := ⟨b, j * 2 + 1, none⟩) hbw).trans h2⟩
  have hfew := hD.good.few
  have HD := hid hD
  have hB1 : Below w.heap.size W1 (W1.alloc (.cells #[.slice va vl vc] 56)) := (Below.refl _ _).alloc (by omega) _
  have hW0 : (W1.alloc (.cells #[.slice va vl vc] 56)).heap.size = w.heap.size + 4 := by rw [World.size_alloc]; omega
  generalize W1.alloc (.cells #[.slice va vl vc] 56) = W0 at bS bN' bT' bE' hWI' hB1 hW0 ⊢
  generalize hAA : w.heap.size = A at *
  -- what holds at a way out: the disk
  have fin : ∀ W : World, Below A W1 W → Dsk W d (readS s) ∧ Only d w W := fun W hB => by
    refine ⟨H4.out.kept fun k hk => hB.block k (hfoot k hk), HO1.out.os ▸ hB.os, HO1.out.tape ▸ hB.tape, HO1.out.output ▸ hB.output, by have := hB.size; omega, fun k hk hn => ?_⟩
    rw [hB.block k (by omega)]; exact HO1.out.block k hk hn
  refine wpIn_rangeFunc_ownH rfl (by omega) (gf := 42) (lb := #[.pointer (some ⟨A + 3, 0, none⟩)]) rfl trivial (enters_of Try.func42 (by kernel_rfl) rfl)
    (back_stops Fence.wide (9 - 1) trivial rfl (by omega) (A + 3) (A + 4) (.slice va vl vc) s.waits hfew W0 (by omega) (by omega) bS.cell hWI') belowK_t (belowK_b (by omega)) (Below.refl _ _) (fun _ => rfl)
    (fun pre W => ((A + 4 ≤ W.heap.size ∧ NoneOf i pre) ∧ Boxed W A 3 (.int .i64 (i : Int)) ∧ Boxed W (A + 1) 9 (.string ⟨#[]⟩) ∧ Boxed W (A + 1 + 1) 24 (.int .i64 0)) ∧ Below A W1 W)
    (fun c pre W => (c = .ret ∧ ∃ t, LeftAt i pre t ∧ Boxed W (A + 1) 9 (.string t) ∧ Boxed W (A + 1 + 1) 24 (.int .i64 0)) ∧ Below A W1 W)
    (OwnFrom.and (Own.from (fun s X Y row hs hg hr => ⟨⟨Nat.le_trans hs.1.1 hg.size, hs.1.2⟩, boxed_own A 3 (fun (_ : Unit) => Value.int .i64 (i : Int)) () X Y row hs.2.1 hg hr, boxed_own (A + 1) 9 (fun (_ : Unit) => Value.string ⟨#[]⟩) () X Y row hs.2.2.1 hg hr, boxed_own (A + 1 + 1) 24 (fun (_ : Unit) => Value.int .i64 0) () X Y row hs.2.2.2 hg hr⟩) _) (ownFrom_below (by omega) (by omega)))
    (fun c => OwnFrom.and (Own.from (fun s X Y row hs hg hr => by obtain ⟨hc, t, e1, e4, e5⟩ := hs; exact ⟨hc, t, e1, boxed_own (A + 1) 9 (fun (_ : Unit) => Value.string t) () X Y row e4 hg hr, boxed_own (A + 1 + 1) 24 (fun (_ : Unit) => Value.int .i64 0) () X Y row e5 hg hr⟩) _) (ownFrom_below (by omega) (by omega)))
    ⟨⟨⟨by omega, NoneOf.nil i⟩, bN', bT', bE'⟩, hB1⟩
    (fun x a' W => ∃ Bx, A + 3 < Bx ∧ W.heap[Bx]? = some (.cells #[.int .i64 (x.2.1 : Int), .string x.2.2] 63 (0, 0)) ∧ a' = { tmps := #[Value.pointer (some ⟨d.D, 0, none⟩), .int .i64 (i : Int), undef, .pointer (some ⟨A, 0, none⟩), .pointer (some ⟨A + 1, 0, none⟩), .pointer (some ⟨A + 1 + 1, 0, none⟩), undef, .pointer (some ⟨Bx, 0, none⟩), .pointer (some ⟨d.D, 0, none⟩), .int .i64 (i : Int), .bool true, .bool false, .pointer (some ⟨d.D, 0, none⟩), .pointer (some ⟨d.D, 0, none⟩), .pointer (some ⟨d.D, 3, none⟩), .pointer (some ⟨d.D, 3, none⟩), .int .i64 s.reads, .int .i64 (s.reads + 1), .pointer (some ⟨d.D, 0, none⟩), .pointer (some ⟨d.D, 3, none⟩), .pointer (some ⟨d.D, 3, none⟩), .pointer (some ⟨d.D, 0, none⟩), .pointer (some ⟨d.D, 0, none⟩), .pointer (some ⟨d.D, 1, none⟩), .slice va vl vc, .func (.func 42) #[] #[.pointer (some ⟨A + 3, 0, none⟩)], .int .i64 (x.1 : Int), .agg #[.int .i64 (x.2.1 : Int), .string x.2.2], undef, undef, undef, undef, undef, undef, undef, undef, undef, undef, undef, undef, undef], defers := [] })
    (fun x a' _ X Y row hs hg hr => by obtain ⟨Bx, h1, h2, h3⟩ := hs; exact ⟨Bx, h1, block_own Bx _ 63 () X Y row h2 hg (fun r e => (hr r e).2), h3⟩)
    ?assign ?body ?done ?stop
  case assign =>
    rintro l pre ⟨xi, xp, xt⟩ W K ⟨⟨⟨hsz4, hp⟩, b1, b2, b3⟩, hB⟩ hK
    unfold encW
    gi_wp2
    exact hK _ _ ((KeepsOthers.alloc _ _).from _) ((Below.refl _ W).alloc hsz4 _) ⟨⟨⟨by rw [World.size_alloc]; omega, hp⟩, b1.alloc _, b2.alloc _, b3.alloc _⟩, hB.alloc (by omega) _⟩ ⟨W.heap.size, by omega, heap_alloc_new _ _, rfl⟩
  case body =>
    rintro l pre ⟨xi, xp, xt⟩ a' W hl ⟨r, hr⟩ ⟨⟨⟨hsz4, hp⟩, b1, b2, b3⟩, hB⟩ ⟨Bx, hBx, hbx, rfl⟩ hlt
    have cn := b1.cell
    have ct := b2.cell
    have ft := b2.frozen
    have ce := b3.cell
    have fe := b3.frozen
    have cw0 : W.cell? ⟨Bx, 0, none⟩ = some (.int .i64 (xp : Int)) := by rw [cell_of_row _ _ _ _ _ _ hbx]; rfl
    have cw1 : W.cell? ⟨Bx, 1, none⟩ = some (.string xt) := by rw [cell_of_row _ _ _ _ _ _ hbx]; rfl
    by_cases hx : xp = i
    · subst hx
      gi_wp2
      exact ⟨((KeepsOthers.setCell _ _ _).from _).trans ((KeepsOthers.setCell _ _ _).from _), ⟨rfl, xt, LeftAt.mk' hp (xi, xp, xt) rfl, (b2.set (.string xt)).other (by omega) _, (b3.other (by omega) _).set (.int .i64 0)⟩,
        (hB.setCell (p := ⟨A + 1, 0, none⟩) (by simp) _).setCell (p := ⟨A + 1 + 1, 0, none⟩) (by simp; omega) _⟩
    · have e2 : ((xp : Int) == (i : Int)) = false := by simp; omega
      gi_wp2
      exact ⟨KeepsFrom.refl _ _, Below.refl _ _, ⟨⟨hsz4, hp.more hx⟩, b1, b2, b3⟩, hB⟩
  case done =>
    rintro D ys W hDD rfl ⟨⟨⟨hsz4, hp⟩, b1, b2, b3⟩, hB⟩ hK
    obtain ⟨hdk, hon⟩ := fin W hB
    have cd : W.cell? ⟨d.D, 0, none⟩ = some (.slice (some ⟨d.P, 0, none⟩) s.pages.length d.cp) := hdk.cells.1
    have cpg : W.cell? ⟨d.P, i, none⟩ = some (.string s.pages[i]) := hdk.page i hi
    have hn2 := HD.out.good.n2
    have ct := b2.cell
    have ft := b2.frozen
    have ce := b3.cell
    have fe := b3.frozen
    have cn := b1.cell
    gi_wp2
    refine wpIn_wide.2 ?_
    go_still_tail 7, (by kernel_rfl)
    change wpList _ _ _ _ _ W.drew
    go_wp2_with fail
    gi_wp2
    have hdl : A + 4 ≤ D := by omega
    have hK' : (((W.setCell ⟨A + 1, 0, none⟩ (.string s.pages[i])).setCell ⟨A + 1 + 1, 0, none⟩ (.int .i64 0)).drew).heap[D]? = some (.deferred (some [])) := by
      have n1 : D ≠ A + 1 := by omega
      have n2 : D ≠ A + 1 + 1 := by omega
      show ((W.setCell ⟨A + 1, 0, none⟩ (.string s.pages[i])).setCell ⟨A + 1 + 1, 0, none⟩ (.int .i64 0)).heap[D]? = _
      rw [heap_setCell_other _ _ _ _ n2, heap_setCell_other _ _ _ _ n1]; exact hK
    have bT2 : Boxed (((W.setCell ⟨A + 1, 0, none⟩ (.string s.pages[i])).setCell ⟨A + 1 + 1, 0, none⟩ (.int .i64 0)).drew) (A + 1) 9 (.string s.pages[i]) := (b2.set (.string s.pages[i])).other (by omega) _
    have bE2 : Boxed (((W.setCell ⟨A + 1, 0, none⟩ (.string s.pages[i])).setCell ⟨A + 1 + 1, 0, none⟩ (.int .i64 0)).drew) (A + 1 + 1) 24 (.int .i64 0) := (b3.other (by omega) _).set (.int .i64 0)
    have hB2 : Below A W1 (((W.setCell ⟨A + 1, 0, none⟩ (.string s.pages[i])).setCell ⟨A + 1 + 1, 0, none⟩ (.int .i64 0)).drew) := by
      have h := (hB.setCell (p := ⟨A + 1, 0, none⟩) (by simp) (.string s.pages[i])).setCell (p := ⟨A + 1 + 1, 0, none⟩) (by simp; omega) (.int .i64 0)
      exact ⟨h.os, h.tape, h.output, h.size, h.block⟩
    generalize ((W.setCell ⟨A + 1, 0, none⟩ (.string s.pages[i])).setCell ⟨A + 1 + 1, 0, none⟩ (.int .i64 0)).drew = W5 at hK' bT2 bE2 hB2 ⊢
    refine ⟨by simp, .inl ⟨_, _, rfl, run_takeDeferred hK', ?_⟩⟩
    have hcT := cell_kept bT2.cell (grownBy_putObj' _ D (.deferred none)) (fun r e => by cases e; exact ⟨_, hK', rfl⟩)
    have hcE := cell_kept bE2.cell (grownBy_putObj' _ D (.deferred none)) (fun r e => by cases e; exact ⟨_, hK', rfl⟩)
    refine ⟨.tuple #[.string s.pages[i], .int .i64 0], ?_, ⟨s.pages[i], rfl, .inr ⟨fun j hj => upto_none s.waits i _ hp j hj (.inr rfl), by simp [hi]⟩, fin _ (hB2.trans (belowK_b (w := W1) (by omega) W5 D _ _ (by omega) hK' rfl rfl))⟩⟩
    simp [results, Try.f10, go_sem, hcT, hcE]
  case stop =>
    rintro D c pre W hDD ⟨k, hk, rfl⟩ ⟨⟨rfl, t, hleft, b2, b3⟩, hB⟩ hK
    gi_wp2
    refine ⟨by simp, .inl ⟨_, _, rfl, run_takeDeferred hK, ?_⟩⟩
    have hcT := cell_kept b2.cell (grownBy_putObj' _ D (.deferred none)) (fun r e => by cases e; exact ⟨_, hK, rfl⟩)
    have hcE := cell_kept b3.cell (grownBy_putObj' _ D (.deferred none)) (fun r e => by cases e; exact ⟨_, hK, rfl⟩)
    refine ⟨.tuple #[.string t, .int .i64 0], ?_, ⟨t, rfl, left_last _ _ _ _ _ hk hleft, fin _ (hB.trans (belowK_b (w := W1) (by omega) W D _ _ (by omega) hK rfl rfl))⟩⟩
    simp [results, Try.f10, go_sem, hcT, hcE]
/-- Read: what a flush would lay there -/
theorem read_ok (d : Ptrs) (s : St) (i : Nat) (w : World) (hD : Dsk w d s) (hi : i < s.pages.length) (hr : s.reads < 1000000) :
    Calls Try.prog 10 #[.pointer (some ⟨d.D, 0, none⟩), .int .i64 (i : Int)] w fun e W' => ∃ t, e = .returned (.tuple #[.string t, .int .i64 0]) ∧ (applyW s.pages s.waits)[i]? = some t ∧ Dsk W' d (readS s) ∧ Only d w W' :=
  (callsIn_wide.1 (read_in d s i w hD hi hr)).mono fun _ _ ⟨t, h1, h2, h3⟩ => ⟨t, h1, last_eq _ _ hi _ _ _ rfl h2, h3⟩
end Go.Proofs.Ytjjplkfgihogkaa.Dk
