/- Merged out of DkRd, DkFill, DkSame, DkHas, DkBad, DkWaits, DkWrite, DkLv. -/
import Derived.Test.YtgihpdhkjneimaaGreatDoorP07
import Derived.RegionIn
import Derived.Test.YtgihpdhkjneimaaGreatDoorP06
import Derived.Deep.AppendLies
import Derived.Deep.RegionLaw
/- Read of disk: what was written last, or the page. -/
namespace Go.Proofs.YtgihpdhkjneimaaGreatDoor.Dk
open Go.RowKit Go.Shelf
open Go.Lib (hid)
attribute [local go_sem] Oper.semAt_some
def readS (s : St) : St := { s with reads := s.reads + 1 }
theorem readS_good {s : St} (h : Good s) (hr : s.reads < 1000000) : Good (readS s) := by
  refine ⟨h.n1, h.n2, h.sizes, h.wait, h.few, h.fuse, ?_, h.writes, h.flushes⟩
  have := h.reads
  show 0 ≤ s.reads + 1 ∧ s.reads + 1 ≤ 1000000
  omega
theorem boxed_far {W : World} {B D i : Nat} {t : TypeId} {v : Value} (h : Boxed W B t v) (hne : B ≠ D) (u : Value) : Boxed (W.setCell ⟨D, i, none⟩ u) B t v := by
  unfold Boxed at h ⊢
  rw [heap_setCell_other _ _ _ _ hne]; exact h
theorem block_own (B : Nat) (cs : Array Value) (t : TypeId) : Own (fun (_ : Unit) W => W.heap[B]? = some (.cells cs t (0, 0))) := fun s X Y row hs hg hrow =>
  (hg.block B (Array.getElem?_eq_some_iff.1 hs).1 (fun e' => by obtain ⟨o, ho, hc⟩ := hrow B e'.symm; rw [hs] at ho; cases ho; cases hc)).trans hs
/-- what Read answers: of the writes to a page the last one; without one, the page -/
def IsLast (pages : List ByteArray) (ws : List (Nat × ByteArray)) (i : Nat) (t : ByteArray) : Prop :=
  (∃ q, ∃ hq : q < ws.length, ws[q].1 = i ∧ ws[q].2 = t ∧ ∀ j (hj : j < ws.length), q < j → ws[j].1 ≠ i) ∨ ((∀ j (hj : j < ws.length), ws[j].1 ≠ i) ∧ pages[i]? = some t)
theorem last_eq (pages : List ByteArray) (i : Nat) (hi : i < pages.length) (t : ByteArray) : ∀ (n : Nat) (ws : List (Nat × ByteArray)), ws.length = n → IsLast pages ws i t → (applyW pages ws)[i]? = some t := by
  intro n
  induction n with
  | zero =>
    intro ws hn h
    obtain rfl : ws = [] := List.length_eq_zero_iff.1 hn
    rcases h with ⟨q, hq, _⟩ | ⟨_, h⟩
    · simp at hq
    · exact h
  | succ n ih =>
    intro ws hn h
    obtain ⟨l, x, rfl⟩ : ∃ l x, ws = l ++ [x] := ⟨ws.dropLast, ws.getLast (by intro e; rw [e] at hn; simp at hn), (List.dropLast_concat_getLast _).symm⟩
    have hl : l.length = n := by simpa using hn
    rw [applyW_snoc]
    have hlast : ∀ (h : l.length < (l ++ [x]).length), (l ++ [x])[l.length]'h = x := fun h => by simp
    have hfirst : ∀ j (h : j < (l ++ [x]).length) (h2 : j < l.length), (l ++ [x])[j]'h = l[j] := fun j h h2 => List.getElem_append_left h2
    by_cases hx : x.1 = i
    · have ht : x.2 = t := by
        rcases h with ⟨q, hq, h1, h2, h3⟩ | ⟨h1, _⟩
        · by_cases e : q = l.length
          · subst e; rw [hlast] at h2; exact h2
          · have hq' : q < l.length := by simp at hq; omega
            have := h3 l.length (by simp) hq'
            rw [hlast] at this
            exact absurd hx this
        · have := h1 l.length (by simp)
          rw [hlast] at this
          exact absurd hx this
      rw [hx, ht, List.getElem?_set_self (by rw [applyW_length]; exact hi)]
    · rw [List.getElem?_set_ne hx]
      refine ih l hl ?_
      rcases h with ⟨q, hq, h1, h2, h3⟩ | ⟨h1, h2⟩
      · have hq' : q < l.length := by
          simp at hq
          by_cases e : q = l.length
          · subst e; rw [hlast] at h1; exact absurd h1 hx
          · omega
        rw [hfirst q hq hq'] at h1 h2
        exact .inl ⟨q, hq', h1, h2, fun j hj hqj => by have := h3 j (by simp; omega) hqj; rwa [hfirst j _ hj] at this⟩
      · exact .inr ⟨fun j hj => by have := h1 j (by simp; omega); rwa [hfirst j _ hj] at this, h2⟩
def NoneOf (i : Nat) (pre : List WAt) : Prop := ∀ p ∈ pre, p.2.1 ≠ i
theorem NoneOf.nil (i : Nat) : NoneOf i [] := fun _ hp => (List.not_mem_nil hp).elim
theorem NoneOf.more {i : Nat} {pre : List WAt} {x : WAt} (h : NoneOf i pre) (hx : x.2.1 ≠ i) : NoneOf i (pre ++ [x]) := fun p hp => (List.mem_append.1 hp).elim (h p) (fun e => by rw [List.mem_singleton] at e; rw [e]; exact hx)
def LeftAt (i : Nat) (pre : List WAt) (t : ByteArray) : Prop := ∃ ini last, pre = ini ++ [last] ∧ NoneOf i ini ∧ last.2.1 = i ∧ last.2.2 = t
theorem LeftAt.mk' {i : Nat} {pre : List WAt} (h : NoneOf i pre) (x : WAt) (hx : x.2.1 = i) : LeftAt i (pre ++ [x]) x.2.2 := ⟨pre, x, rfl, h, hx, rfl⟩
theorem upto_none (ws : List (Nat × ByteArray)) (i k : Nat) (h : NoneOf i (upto ws k)) : ∀ j (hj : j < ws.length), ws.length - 1 - k < j ∨ k = ws.length → ws[j].1 ≠ i := by
  intro j hj hjk
  have := h (ws.length - 1 - (ws.length - 1 - j), ws.getD (ws.length - 1 - (ws.length - 1 - j)) (0, ByteArray.empty)) (by
    unfold upto
    exact List.mem_map.2 ⟨ws.length - 1 - j, List.mem_range.2 (by omega), rfl⟩)
  have e : ws.length - 1 - (ws.length - 1 - j) = j := by omega
  rw [e] at this
  simpa [hj] using this
theorem left_last (pages : List ByteArray) (ws : List (Nat × ByteArray)) (i k : Nat) (t : ByteArray) (hk : k ≤ ws.length) (h : LeftAt i (upto ws k) t) : IsLast pages ws i t := by
  obtain ⟨ini, last, e1, h1, h2, h3⟩ := h
  obtain ⟨k', rfl⟩ : ∃ k', k = k' + 1 := by
    cases k with
    | zero => simp [upto] at e1
    | succ k' => exact ⟨k', rfl⟩
  rw [upto_succ] at e1
  obtain ⟨rfl, e5⟩ := List.append_inj' e1 rfl
  have e6 : (ws.length - 1 - k', ws.getD (ws.length - 1 - k') (0, ByteArray.empty)) = last := by simpa using e5
  subst e6
  have hq : ws.length - 1 - k' < ws.length := by omega
  have hg : ws.getD (ws.length - 1 - k') (0, ByteArray.empty) = ws[ws.length - 1 - k'] := by simp [hq]
  rw [hg] at h2 h3
  exact .inl ⟨_, hq, h2, h3, fun j hj hqj => upto_none ws i k' h1 j hj (.inl hqj)⟩
set_option maxRecDepth 100000 in
set_option maxHeartbeats 2000000 in
theorem read_in (d : Ptrs) (s : St) (i : Nat) (w : World) (hD : Dsk w d s) (hi : i < s.pages.length) (hr : s.reads < 1000000) :
    CallsIn Fence.wide 9 Tryz.prog 132 #[.pointer (some ⟨d.D, 0, none⟩), .int .i64 (i : Int)] w fun e W' => ∃ t, e = .returned (.tuple #[.string t, .int .i64 0]) ∧ IsLast s.pages s.waits i t ∧ Dsk W' d (readS s) ∧ Only d w W' := by
  have e1 : decide (0 ≤ (i : Int) ∧ (i : Int) < (s.pages.length : Int)) = true := by simp; omega
  have hB3 : Below w.heap.size w (((w.alloc (.cells #[.int .i64 (i : Int)] 3)).alloc (.cells #[.string ⟨#[]⟩] 9)).alloc (.cells #[.int .i64 0] 25)) :=
    (((Below.refl _ _).alloc (Nat.le_refl _) _).alloc (by simp) _).alloc (by simp; omega) _
  have hD3 := hD.below hB3
  have hrd := hD.good.reads
  have hrd1 := hrd.1
  have c := hD3.cells
  have f3 := hD3.free 3
  have hD4 := hD3.store 3 (.int .i64 (s.reads + 1)) (readS s) rfl rfl (readS_good hD.good hr) rfl
  have hWI := hD4.waitsIn (w.heap.size + 4) (by rw [World.size_setCell]; simp)
  obtain ⟨va, vl, vc, hwv⟩ : ∃ va vl vc, d.wv = .slice va vl vc := by
    rcases hWI with ⟨h, _⟩ | ⟨b, cap, h, _⟩
    · exact ⟨_, _, _, h⟩
    · exact ⟨_, _, _, h⟩
  rw [hwv] at c
  have bN0 := (((Boxed.new w 3 (.int .i64 (i : Int))).alloc (.cells #[.string ⟨#[]⟩] 9)).alloc (.cells #[.int .i64 0] 25))
  have bT0 := ((Boxed.new (w.alloc (.cells #[.int .i64 (i : Int)] 3)) 9 (.string ⟨#[]⟩)).alloc (.cells #[.int .i64 0] 25))
  have bE0 := Boxed.new ((w.alloc (.cells #[.int .i64 (i : Int)] 3)).alloc (.cells #[.string ⟨#[]⟩] 9)) 25 (.int .i64 0)
  simp only [World.size_alloc] at bT0 bE0
  have hDlt := hD.ltD
  have bN := boxed_far (i := 3) bN0 (show w.heap.size ≠ d.D by omega) (.int .i64 (s.reads + 1))
  have bT := boxed_far (i := 3) bT0 (show w.heap.size + 1 ≠ d.D by omega) (.int .i64 (s.reads + 1))
  have bE := boxed_far (i := 3) bE0 (show w.heap.size + 1 + 1 ≠ d.D by omega) (.int .i64 (s.reads + 1))
  have hsz : ((((w.alloc (.cells #[.int .i64 (i : Int)] 3)).alloc (.cells #[.string ⟨#[]⟩] 9)).alloc (.cells #[.int .i64 0] 25)).setCell ⟨d.D, 3, none⟩ (.int .i64 (s.reads + 1))).heap.size = w.heap.size + 3 := by rw [World.size_setCell]; simp
  clear bN0 bT0 bE0
  have H3 := hid hD3; have H4 := hid hD4; have HB3 := hid hB3; clear hD3 hD4 hB3
  refine callsIn_of_wp_marks Tryz.func132 rfl trivial ?_ rfl
  simp only [Tryz.ntmps132, List.size_toArray, List.length_cons, List.length_nil, Nat.reduceAdd, Nat.reduceSub, Array.replicate_succ, Array.replicate_zero, List.push_toArray, List.append_toArray, List.nil_append, List.cons_append]
  gi_wp2_with (first
    | (gi_at_call 123; refine (callsIn_wide.2 (has_ok d s (i : Int) _ H3.out)).mono ?_; rintro e w' ⟨rfl, rfl⟩)
    | (refine ⟨trivial, ?_⟩; gi_at_call 123; refine (callsIn_wide.2 (has_ok d s (i : Int) _ H3.out)).mono ?_; rintro e w' ⟨rfl, rfl⟩)
    | (refine ⟨trivial, ?_⟩; gi_at_call 145; refine (backward_in Fence.wide _ trivial rfl _ _ _ _).mono ?_; rintro e w' ⟨rfl, rfl⟩))
  obtain ⟨W1, hW1⟩ : ∃ W1, (((w.alloc (.cells #[.int .i64 (i : Int)] 3)).alloc (.cells #[.string ⟨#[]⟩] 9)).alloc (.cells #[.int .i64 0] 25)).setCell ⟨d.D, 3, none⟩ (.int .i64 (s.reads + 1)) = W1 := ⟨_, rfl⟩
  rw [hW1] at bN bT bE hsz hWI H4 ⊢
  have hA : W1.heap.size = w.heap.size + 3 := hsz
  have HO1 : Hid (Only d w W1) := hid (by rw [← hW1]; exact (Only.below HB3.out).store 3 _)
  clear hW1 c f3 H3 HB3
  have hfoot : ∀ k, Foot d k → k < w.heap.size := hD.lt
  have bS := Boxed.new W1 85 (.slice va vl vc)
  rw [hA] at bS
  have bN' := bN.alloc (.cells #[.slice va vl vc] 85)
  have bT' := bT.alloc (.cells #[.slice va vl vc] 85)
  have bE' := bE.alloc (.cells #[.slice va vl vc] 85)
  rw [hwv] at hWI
  have hWI' : WaitsAt (w.heap.size + 4) (W1.alloc (.cells #[.slice va vl vc] 85)) (.slice va vl vc) s.waits := by
    rcases hWI with h | ⟨b, cap, e, hb, hc⟩
    · exact .inl h
    · have hbw : b < W1.heap.size := by
        have := hfoot b (.inr (.inr (by rw [hwv, e]; rfl)))
        omega
      refine .inr ⟨b, cap, e, hb, fun j hj => ?_⟩
      obtain ⟨h1, h2⟩ := hc j hj
      have hb2 : Below W1.heap.size W1 (W1.alloc (.cells #[.slice va vl vc] 85)) := (Below.refl _ _).alloc (Nat.le_refl _) _
      exact ⟨(hb2.cell (p := ⟨b, j * 2, none⟩) hbw).trans h1, (hb2.cell (p := ⟨b, j * 2 + 1, none⟩) hbw).trans h2⟩
  have hfew := hD.good.few
  have HD := hid hD
  have hB1 : Below w.heap.size W1 (W1.alloc (.cells #[.slice va vl vc] 85)) := (Below.refl _ _).alloc (by omega) _
  have hW0 : (W1.alloc (.cells #[.slice va vl vc] 85)).heap.size = w.heap.size + 4 := by rw [World.size_alloc]; omega
  generalize W1.alloc (.cells #[.slice va vl vc] 85) = W0 at bS bN' bT' bE' hWI' hB1 hW0 ⊢
  generalize hAA : w.heap.size = A at *
  -- what holds at a way out: the disk
  have fin : ∀ W : World, Below A W1 W → Dsk W d (readS s) ∧ Only d w W := fun W hB => by
    refine ⟨H4.out.kept fun k hk => hB.block k (hfoot k hk), HO1.out.os ▸ hB.os, HO1.out.tape ▸ hB.tape, HO1.out.output ▸ hB.output, by have := hB.size; omega, fun k hk hn => ?_⟩
    rw [hB.block k (by omega)]; exact HO1.out.block k hk hn
  refine wpIn_rangeFunc_ownH rfl (by omega) (gf := 154) (lb := #[.pointer (some ⟨A + 3, 0, none⟩)]) rfl trivial (enters_of Tryz.func154 (by kernel_rfl) rfl)
    (back_stops Fence.wide (9 - 1) trivial rfl (by omega) (A + 3) (A + 4) (.slice va vl vc) s.waits hfew W0 (by omega) (by omega) bS.cell hWI') belowK_t (belowK_b (by omega)) (Below.refl _ _) (fun _ => rfl)
    (fun pre W => ((A + 4 ≤ W.heap.size ∧ NoneOf i pre) ∧ Boxed W A 3 (.int .i64 (i : Int)) ∧ Boxed W (A + 1) 9 (.string ⟨#[]⟩) ∧ Boxed W (A + 1 + 1) 25 (.int .i64 0)) ∧ Below A W1 W)
    (fun c pre W => (c = .ret ∧ ∃ t, LeftAt i pre t ∧ Boxed W (A + 1) 9 (.string t) ∧ Boxed W (A + 1 + 1) 25 (.int .i64 0)) ∧ Below A W1 W)
    (OwnFrom.and (Own.from (fun s X Y row hs hg hr => ⟨⟨Nat.le_trans hs.1.1 hg.size, hs.1.2⟩, boxed_own A 3 (fun (_ : Unit) => Value.int .i64 (i : Int)) () X Y row hs.2.1 hg hr, boxed_own (A + 1) 9 (fun (_ : Unit) => Value.string ⟨#[]⟩) () X Y row hs.2.2.1 hg hr, boxed_own (A + 1 + 1) 25 (fun (_ : Unit) => Value.int .i64 0) () X Y row hs.2.2.2 hg hr⟩) _) (ownFrom_below (by omega) (by omega)))
    (fun c => OwnFrom.and (Own.from (fun s X Y row hs hg hr => by obtain ⟨hc, t, e1, e4, e5⟩ := hs; exact ⟨hc, t, e1, boxed_own (A + 1) 9 (fun (_ : Unit) => Value.string t) () X Y row e4 hg hr, boxed_own (A + 1 + 1) 25 (fun (_ : Unit) => Value.int .i64 0) () X Y row e5 hg hr⟩) _) (ownFrom_below (by omega) (by omega)))
    ⟨⟨⟨by omega, NoneOf.nil i⟩, bN', bT', bE'⟩, hB1⟩
    (fun x a' W => ∃ Bx, A + 3 < Bx ∧ W.heap[Bx]? = some (.cells #[.int .i64 (x.2.1 : Int), .string x.2.2] 99 (0, 0)) ∧ a' = { tmps := #[Value.pointer (some ⟨d.D, 0, none⟩), .int .i64 (i : Int), undef, .pointer (some ⟨A, 0, none⟩), .pointer (some ⟨A + 1, 0, none⟩), .pointer (some ⟨A + 1 + 1, 0, none⟩), undef, .pointer (some ⟨Bx, 0, none⟩), .pointer (some ⟨d.D, 0, none⟩), .int .i64 (i : Int), .bool true, .bool false, .pointer (some ⟨d.D, 0, none⟩), .pointer (some ⟨d.D, 0, none⟩), .pointer (some ⟨d.D, 3, none⟩), .pointer (some ⟨d.D, 3, none⟩), .int .i64 s.reads, .int .i64 (s.reads + 1), .pointer (some ⟨d.D, 0, none⟩), .pointer (some ⟨d.D, 3, none⟩), .pointer (some ⟨d.D, 3, none⟩), .pointer (some ⟨d.D, 0, none⟩), .pointer (some ⟨d.D, 0, none⟩), .pointer (some ⟨d.D, 1, none⟩), .slice va vl vc, .func (.func 154) #[] #[.pointer (some ⟨A + 3, 0, none⟩)], .int .i64 (x.1 : Int), .agg #[.int .i64 (x.2.1 : Int), .string x.2.2], undef, undef, undef, undef, undef, undef, undef, undef, undef, undef, undef, undef, undef], defers := [] })
    (fun x a' _ X Y row hs hg hr => by obtain ⟨Bx, h1, h2, h3⟩ := hs; exact ⟨Bx, h1, block_own Bx _ 99 () X Y row h2 hg (fun r e => (hr r e).2), h3⟩)
    ?assign ?body ?done ?stop
  case assign =>
    rintro l pre ⟨xi, xp, xt⟩ W K ⟨⟨⟨hsz4, hp⟩, b1, b2, b3⟩, hB⟩ hK
    unfold encW
    gi_wp2
    exact hK _ _ ((KeepsOthers.alloc _ _).from _) ((Below.refl _ W).alloc hsz4 _) ⟨⟨⟨by rw [World.size_alloc]; omega, hp⟩, b1.alloc _, b2.alloc _, b3.alloc _⟩, hB.alloc (by omega) _⟩ ⟨W.heap.size, by omega, heap_alloc_new _ _, rfl⟩
  case body =>
    rintro l pre ⟨xi, xp, xt⟩ a' W hl ⟨r, hr⟩ ⟨⟨⟨hsz4, hp⟩, b1, b2, b3⟩, hB⟩ ⟨Bx, hBx, hbx, rfl⟩ hlt
    have cn := b1.cell
    have ct := b2.cell
    have ft := b2.frozen
    have ce := b3.cell
    have fe := b3.frozen
    have cw0 : W.cell? ⟨Bx, 0, none⟩ = some (.int .i64 (xp : Int)) := by rw [cell_of_row _ _ _ _ _ _ hbx]; rfl
    have cw1 : W.cell? ⟨Bx, 1, none⟩ = some (.string xt) := by rw [cell_of_row _ _ _ _ _ _ hbx]; rfl
    by_cases hx : xp = i
    · subst hx
      gi_wp2
      exact ⟨((KeepsOthers.setCell _ _ _).from _).trans ((KeepsOthers.setCell _ _ _).from _), ⟨rfl, xt, LeftAt.mk' hp (xi, xp, xt) rfl, (b2.set (.string xt)).other (by omega) _, (b3.other (by omega) _).set (.int .i64 0)⟩,
        (hB.setCell (p := ⟨A + 1, 0, none⟩) (by simp) _).setCell (p := ⟨A + 1 + 1, 0, none⟩) (by simp; omega) _⟩
    · have e2 : ((xp : Int) == (i : Int)) = false := by simp; omega
      gi_wp2
      exact ⟨KeepsFrom.refl _ _, Below.refl _ _, ⟨⟨hsz4, hp.more hx⟩, b1, b2, b3⟩, hB⟩
  case done =>
    rintro D ys W hDD rfl ⟨⟨⟨hsz4, hp⟩, b1, b2, b3⟩, hB⟩ hK
    obtain ⟨hdk, hon⟩ := fin W hB
    have cd : W.cell? ⟨d.D, 0, none⟩ = some (.slice (some ⟨d.P, 0, none⟩) s.pages.length d.cp) := hdk.cells.1
    have cpg : W.cell? ⟨d.P, i, none⟩ = some (.string s.pages[i]) := hdk.page i hi
    have hn2 := HD.out.good.n2
    have ct := b2.cell
    have ft := b2.frozen
    have ce := b3.cell
    have fe := b3.frozen
    have cn := b1.cell
    gi_wp2
    refine wpIn_wide.2 ?_
    go_still_tail 7, (by kernel_rfl)
    change wpList _ _ _ _ _ W.drew
    go_wp2_with fail
    gi_wp2
    have hdl : A + 4 ≤ D := by omega
    have hK' : (((W.setCell ⟨A + 1, 0, none⟩ (.string s.pages[i])).setCell ⟨A + 1 + 1, 0, none⟩ (.int .i64 0)).drew).heap[D]? = some (.deferred (some [])) := by
      have n1 : D ≠ A + 1 := by omega
      have n2 : D ≠ A + 1 + 1 := by omega
      show ((W.setCell ⟨A + 1, 0, none⟩ (.string s.pages[i])).setCell ⟨A + 1 + 1, 0, none⟩ (.int .i64 0)).heap[D]? = _
      rw [heap_setCell_other _ _ _ _ n2, heap_setCell_other _ _ _ _ n1]; exact hK
    have bT2 : Boxed (((W.setCell ⟨A + 1, 0, none⟩ (.string s.pages[i])).setCell ⟨A + 1 + 1, 0, none⟩ (.int .i64 0)).drew) (A + 1) 9 (.string s.pages[i]) := (b2.set (.string s.pages[i])).other (by omega) _
    have bE2 : Boxed (((W.setCell ⟨A + 1, 0, none⟩ (.string s.pages[i])).setCell ⟨A + 1 + 1, 0, none⟩ (.int .i64 0)).drew) (A + 1 + 1) 25 (.int .i64 0) := (b3.other (by omega) _).set (.int .i64 0)
    have hB2 : Below A W1 (((W.setCell ⟨A + 1, 0, none⟩ (.string s.pages[i])).setCell ⟨A + 1 + 1, 0, none⟩ (.int .i64 0)).drew) := by
      have h := (hB.setCell (p := ⟨A + 1, 0, none⟩) (by simp) (.string s.pages[i])).setCell (p := ⟨A + 1 + 1, 0, none⟩) (by simp; omega) (.int .i64 0)
      exact ⟨h.os, h.tape, h.output, h.size, h.block⟩
    generalize ((W.setCell ⟨A + 1, 0, none⟩ (.string s.pages[i])).setCell ⟨A + 1 + 1, 0, none⟩ (.int .i64 0)).drew = W5 at hK' bT2 bE2 hB2 ⊢
    refine ⟨by simp, .inl ⟨_, _, rfl, run_takeDeferred hK', ?_⟩⟩
    have hcT := cell_kept bT2.cell (grownBy_putObj' _ D (.deferred none)) (fun r e => by cases e; exact ⟨_, hK', rfl⟩)
    have hcE := cell_kept bE2.cell (grownBy_putObj' _ D (.deferred none)) (fun r e => by cases e; exact ⟨_, hK', rfl⟩)
    refine ⟨.tuple #[.string s.pages[i], .int .i64 0], ?_, ⟨s.pages[i], rfl, .inr ⟨fun j hj => upto_none s.waits i _ hp j hj (.inr rfl), by simp [hi]⟩, fin _ (hB2.trans (belowK_b (w := W1) (by omega) W5 D _ _ (by omega) hK' rfl rfl))⟩⟩
    simp [results, Tryz.f132, go_sem, hcT, hcE]
  case stop =>
    rintro D c pre W hDD ⟨k, hk, rfl⟩ ⟨⟨rfl, t, hleft, b2, b3⟩, hB⟩ hK
    gi_wp2
    refine ⟨by simp, .inl ⟨_, _, rfl, run_takeDeferred hK, ?_⟩⟩
    have hcT := cell_kept b2.cell (grownBy_putObj' _ D (.deferred none)) (fun r e => by cases e; exact ⟨_, hK, rfl⟩)
    have hcE := cell_kept b3.cell (grownBy_putObj' _ D (.deferred none)) (fun r e => by cases e; exact ⟨_, hK, rfl⟩)
    refine ⟨.tuple #[.string t, .int .i64 0], ?_, ⟨t, rfl, left_last _ _ _ _ _ hk hleft, fin _ (hB.trans (belowK_b (w := W1) (by omega) W D _ _ (by omega) hK rfl rfl))⟩⟩
    simp [results, Tryz.f132, go_sem, hcT, hcE]
/-- Read: what a flush would lay there -/
theorem read_ok (d : Ptrs) (s : St) (i : Nat) (w : World) (hD : Dsk w d s) (hi : i < s.pages.length) (hr : s.reads < 1000000) :
    Calls Tryz.prog 132 #[.pointer (some ⟨d.D, 0, none⟩), .int .i64 (i : Int)] w fun e W' => ∃ t, e = .returned (.tuple #[.string t, .int .i64 0]) ∧ (applyW s.pages s.waits)[i]? = some t ∧ Dsk W' d (readS s) ∧ Only d w W' :=
  (callsIn_wide.1 (read_in d s i w hD hi hr)).mono fun _ _ ⟨t, h1, h2, h3⟩ => ⟨t, h1, last_eq _ _ hi _ _ _ rfl h2, h3⟩
end Go.Proofs.YtgihpdhkjneimaaGreatDoor.Dk

/- The law's 'filled': a page of one byte, again and again. -/
namespace Go.Proofs.YtgihpdhkjneimaaGreatDoor.Dk
open Go.RowKit
open Go.Lib (hid)

/-- a page of one byte, and one of which the first k are laid -/
def filledB (c : UInt8) : ByteArray := ⟨(List.replicate 256 c).toArray⟩
def fillL (c : UInt8) (k : Nat) : List UInt8 := List.replicate k c ++ List.replicate (256 - k) 0
theorem filledB_size (c : UInt8) : (filledB c).size = 256 := by
  show ((List.replicate 256 c).toArray).size = 256
  rw [List.size_toArray, List.length_replicate]
theorem fillL_length (c : UInt8) (k : Nat) (h : k ≤ 256) : (fillL c k).length = 256 := by
  unfold fillL; rw [List.length_append, List.length_replicate, List.length_replicate]; omega
theorem fillL_more (c : UInt8) (k : Nat) (h : k < 256) : (fillL c k).set k c = fillL c (k + 1) := by
  unfold fillL
  have e : 256 - k = (256 - (k + 1)) + 1 := by omega
  rw [List.set_append_right _ _ (by rw [List.length_replicate]; exact Nat.le_refl _), List.length_replicate, Nat.sub_self, e, List.replicate_succ, List.set_cons_zero, List.replicate_succ', List.append_assoc]; rfl
theorem fillL_full (c : UInt8) : fillL c 256 = List.replicate 256 c := by
  unfold fillL; rw [Nat.sub_self, List.replicate_zero, List.append_nil]
theorem fillL_zero (c : UInt8) : fillL c 0 = Pg.zs 256 := by
  unfold fillL Pg.zs; rw [Nat.sub_zero, List.replicate_zero, List.nil_append]
theorem fill_back {w : World} {B : Nat} {c : UInt8} (h : Fd.Row w B (fillL c 256)) :
    (convert 121 9 (.slice (some ⟨B, 0, none⟩) 256 256)).run Tryz.prog w = .ok (.string (filledB c)) w := by
  have := Fd.back_run h 0 256 256 (by rw [fillL_length _ _ (Nat.le_refl _)]; exact Nat.le_refl _)
  have e : Fd.getAt (fillL c 256) 0 256 = List.replicate 256 c := by
    have := Fd.getAt_all (fillL c 256); rw [fillL_length _ _ (Nat.le_refl _)] at this; rw [this, fillL_full]
  rw [e] at this
  exact this

end Go.Proofs.YtgihpdhkjneimaaGreatDoor.Dk

/- The reference's Texts and Ints: are two lists the same? -/
namespace Go.Proofs.YtgihpdhkjneimaaGreatDoor.Dk
open Go.RowKit
open Go.Lib (hid)

/-- a slice's cells, whatever it begins at -/
def CellsAt (w : World) (p : Option Addr) (l : List Value) : Prop := ∀ j, (hj : j < l.length) → ∃ b off, p = some ⟨b, off, none⟩ ∧ w.cell? ⟨b, off + j, none⟩ = some l[j]

theorem take_more_eq {α : Type} (l m : List α) (k : Nat) (hl : k < l.length) (hm : k < m.length) (h : l.take k = m.take k) (he : l[k] = m[k]) : l.take (k + 1) = m.take (k + 1) := by
  rw [List.take_succ_eq_append_getElem hl, List.take_succ_eq_append_getElem hm, h, he]
theorem take_stop_ne {α : Type} (l m : List α) (k : Nat) (hl : k < l.length) (hm : k < m.length) (he : l[k] ≠ m[k]) : l ≠ m := by
  intro e; subst e; exact he rfl

theorem text_ne {t u : ByteArray} (h : t ≠ u) : (t.toList == u.toList) = false := by
  rw [ByteArray.toList_eq, ByteArray.toList_eq]
  simp only [beq_eq_false_iff_ne]
  intro e
  exact h (ByteArray.ext (Array.ext' e))

set_option maxRecDepth 100000 in
set_option maxHeartbeats 1000000 in
theorem texts_ok (l m : List ByteArray) (p q : Option Addr) (c c' : Nat) (w : World) (hp : CellsAt w p (sv l)) (hq : CellsAt w q (sv m)) (hl : l.length ≤ 1000000) :
    Calls Tryz.prog 21 #[.slice p l.length c, .slice q m.length c'] w fun e w' => e = .returned (.bool (decide (l = m))) ∧ ∃ n, w' = w.drewN n := by
  have HP := hid hp; have HQ := hid hq; clear hp hq
  by_cases hlen : l.length = m.length
  · have e1 : ((l.length : Int) != (m.length : Int)) = false := by simp [hlen]
    have HLEN := hid hlen
    clear hlen
    go_enter Tryz.func21, Tryz.ntmps21
    go_wp2_with fail
    clear e1
    go_loopw [5] (fun i wr => ∃ k : Nat, k ≤ l.length ∧ i = .int .i64 k ∧ l.take k = m.take k ∧ ∃ n, wr = w.drewN n) (fun i _ => l.length - (intOf i).toNat)
    case atStart => exact ⟨0, by omega, rfl, rfl, 0, rfl⟩
    case round =>
      obtain ⟨k, hk, rfl, htk, n, rfl⟩ := hrel
      have HTK := hid htk; clear htk
      by_cases hlt : k < l.length
      · have hlm : k < m.length := by have := HLEN.out; omega
        obtain ⟨b1, o1, rfl, c1⟩ := HP.out k (by rw [sv_length]; exact hlt)
        obtain ⟨b2, o2, rfl, c2⟩ := HQ.out k (by rw [sv_length]; exact hlm)
        have d1 : w.cell? ⟨b1, o1 + k, none⟩ = some (.string l[k]) := by have := c1; simp [sv] at this; exact this
        have d2 : w.cell? ⟨b2, o2 + k, none⟩ = some (.string m[k]) := by have := c2; simp [sv] at this; exact this
        clear c1 c2
        by_cases he : l[k] = m[k]
        · have HM := hid (take_more_eq l m k hlt hlm HTK.out he)
          rw [he] at d1
          generalize m[k] = t at d1 d2
          clear he
          go_wp2_with fail
          go_quiet (fail)
          go_wp2_with fail
          go_roundw
          case rel => exact ⟨k + 1, by omega, by go_num, HM.out, _, rfl⟩
          case measure => simp [intOf]; omega
        · have HN : Hid (decide (l = m) = false) := hid (by simpa using take_stop_ne l m k hlt hlm he)
          generalize l[k] = t at d1 he
          generalize m[k] = u at d2 he
          have e2 := text_ne he
          clear he
          go_wp2_with fail
          go_quiet (fail)
          go_wp2_with fail
          go_ret
          rw [HN.out]
          exact ⟨rfl, _, World.drewN_drewN _ _ _⟩
      · obtain rfl : k = l.length := by omega
        have HE : Hid (decide (l = m) = true) := hid (by
          have := HTK.out
          rw [List.take_length, HLEN.out, List.take_length] at this
          simpa using this)
        go_wp2_with fail
        go_ret
        rw [HE.out]
        exact ⟨rfl, n, rfl⟩
  · have e1 : ((l.length : Int) != (m.length : Int)) = true := by simp; omega
    have HE : Hid (decide (l = m) = false) := hid (by simp; intro e; exact hlen (by rw [e]))
    clear hlen
    go_enter Tryz.func21, Tryz.ntmps21
    go_wp2_with fail
    go_ret
    rw [HE.out]
    exact ⟨rfl, 0, rfl⟩
/-- numbers as cells -/
def iv (l : List Int) : List Value := l.map fun x => .int .i64 x
theorem iv_length (l : List Int) : (iv l).length = l.length := by simp [iv]
set_option maxRecDepth 100000 in
set_option maxHeartbeats 1000000 in
theorem ints_ok (l m : List Int) (p q : Option Addr) (c c' : Nat) (w : World) (hp : CellsAt w p (iv l)) (hq : CellsAt w q (iv m)) (hl : l.length ≤ 1000000) :
    Calls Tryz.prog 23 #[.slice p l.length c, .slice q m.length c'] w fun e w' => e = .returned (.bool (decide (l = m))) ∧ ∃ n, w' = w.drewN n := by
  have HP := hid hp; have HQ := hid hq; clear hp hq
  by_cases hlen : l.length = m.length
  · have e1 : ((l.length : Int) != (m.length : Int)) = false := by simp [hlen]
    have HLEN := hid hlen
    clear hlen
    go_enter Tryz.func23, Tryz.ntmps23
    go_wp2_with fail
    clear e1
    go_loopw [5] (fun i wr => ∃ k : Nat, k ≤ l.length ∧ i = .int .i64 k ∧ l.take k = m.take k ∧ ∃ n, wr = w.drewN n) (fun i _ => l.length - (intOf i).toNat)
    case atStart => exact ⟨0, by omega, rfl, rfl, 0, rfl⟩
    case round =>
      obtain ⟨k, hk, rfl, htk, n, rfl⟩ := hrel
      have HTK := hid htk; clear htk
      by_cases hlt : k < l.length
      · have hlm : k < m.length := by have := HLEN.out; omega
        obtain ⟨b1, o1, rfl, c1⟩ := HP.out k (by rw [iv_length]; exact hlt)
        obtain ⟨b2, o2, rfl, c2⟩ := HQ.out k (by rw [iv_length]; exact hlm)
        have d1 : w.cell? ⟨b1, o1 + k, none⟩ = some (.int .i64 l[k]) := by have := c1; simp [iv] at this; exact this
        have d2 : w.cell? ⟨b2, o2 + k, none⟩ = some (.int .i64 m[k]) := by have := c2; simp [iv] at this; exact this
        clear c1 c2
        by_cases he : l[k] = m[k]
        · have HM := hid (take_more_eq l m k hlt hlm HTK.out he)
          rw [he] at d1
          generalize m[k] = t at d1 d2
          clear he
          go_wp2_with fail
          go_quiet (fail)
          go_wp2_with fail
          go_roundw
          case rel => exact ⟨k + 1, by omega, by go_num, HM.out, _, rfl⟩
          case measure => simp [intOf]; omega
        · have HN : Hid (decide (l = m) = false) := hid (by simpa using take_stop_ne l m k hlt hlm he)
          generalize l[k] = t at d1 he
          generalize m[k] = u at d2 he
          have e2 : (t == u) = false := by simpa using he
          clear he
          go_wp2_with fail
          go_quiet (fail)
          go_wp2_with fail
          go_ret
          rw [HN.out]
          exact ⟨rfl, _, World.drewN_drewN _ _ _⟩
      · obtain rfl : k = l.length := by omega
        have HE : Hid (decide (l = m) = true) := hid (by
          have := HTK.out
          rw [List.take_length, HLEN.out, List.take_length] at this
          simpa using this)
        go_wp2_with fail
        go_ret
        rw [HE.out]
        exact ⟨rfl, n, rfl⟩
  · have e1 : ((l.length : Int) != (m.length : Int)) = true := by simp; omega
    have HE : Hid (decide (l = m) = false) := hid (by simp; intro e; exact hlen (by rw [e]))
    clear hlen
    go_enter Tryz.func23, Tryz.ntmps23
    go_wp2_with fail
    go_ret
    rw [HE.out]
    exact ⟨rfl, 0, rfl⟩
end Go.Proofs.YtgihpdhkjneimaaGreatDoor.Dk

/- The reference's has: is a number one of some? -/
namespace Go.Proofs.YtgihpdhkjneimaaGreatDoor.Dk
open Go.RowKit
open Go.Lib (hid)

set_option maxRecDepth 100000 in
set_option maxHeartbeats 1000000 in
theorem refHas_ok (l : List Int) (p : Option Addr) (c : Nat) (n : Int) (w : World) (hp : CellsAt w p (iv l)) (hl : l.length ≤ 1000000) :
    Calls Tryz.prog 61 #[.slice p l.length c, .int .i64 n] w fun e w' => e = .returned (.bool (decide (n ∈ l))) ∧ w = w' := by
  have HP := hid hp; clear hp
  go_enter Tryz.func61, Tryz.ntmps61
  go_wp2_with fail
  go_loopw [5] (fun i wr => ∃ k : Nat, k ≤ l.length ∧ i = .int .i64 k ∧ n ∉ l.take k ∧ wr = w) (fun i _ => l.length - (intOf i).toNat)
  case atStart => exact ⟨0, by omega, rfl, fun h => (List.not_mem_nil h).elim, rfl⟩
  case round =>
    obtain ⟨k, hk, rfl, hno, rfl⟩ := hrel
    have HNO := hid hno; clear hno
    by_cases hlt : k < l.length
    · obtain ⟨b, o, rfl, c1⟩ := HP.out k (by rw [iv_length]; exact hlt)
      have d1 : wr.cell? ⟨b, o + k, none⟩ = some (.int .i64 l[k]) := by have := c1; simp [iv] at this; exact this
      clear c1
      by_cases he : l[k] = n
      · have HN : Hid (decide (n ∈ l) = true) := hid (by simp; rw [← he]; exact List.getElem_mem hlt)
        rw [he] at d1
        clear he
        go_wp2_with fail
        go_ret
        rw [HN.out]
        exact ⟨rfl, rfl⟩
      · have HM : Hid (n ∉ l.take (k + 1)) := hid (by
          rw [List.take_succ_eq_append_getElem hlt, List.mem_append, List.mem_singleton]
          rintro (h | h)
          · exact HNO.out h
          · exact he h.symm)
        generalize l[k] = t at d1 he
        have e2 : (t == n) = false := by simpa using he
        clear he
        go_wp2_with fail
        go_roundw
        case rel => exact ⟨k + 1, by omega, by go_num, HM.out, trivial⟩
        case measure => simp [intOf]; omega
    · obtain rfl : k = l.length := by omega
      have HE : Hid (decide (n ∈ l) = false) := hid (by
        have := HNO.out
        rw [List.take_length] at this
        simpa using this)
      go_wp2_with fail
      go_ret
      rw [HE.out]
      exact ⟨rfl, rfl⟩
end Go.Proofs.YtgihpdhkjneimaaGreatDoor.Dk

/- Of of disk, where a page has another size. -/
namespace Go.Proofs.YtgihpdhkjneimaaGreatDoor.Dk
open Go.RowKit
open Go.Lib (hid)

set_option maxRecDepth 100000 in
set_option maxHeartbeats 1000000 in
theorem of_bad (b off n c : Nat) (zs : List ByteArray) (w : World) (hn : zs.length = n) (h1 : 1 ≤ n) (h2 : n ≤ 1000) (h3 : ∃ p ∈ zs, p.size ≠ 256)
    (hc : ∀ j, j < zs.length → w.cell? ⟨b, off + j, none⟩ = some (.string (zs.getD j ByteArray.empty))) :
    Calls Tryz.prog 31 #[.slice (some ⟨b, off, none⟩) n c] w fun e w' => e = .returned (.tuple #[.pointer none, .int .i64 1]) ∧ Below w.heap.size w w' := by
  have HC := hid hc
  have HN := hid hn
  have H3 := hid h3
  clear hc h3 hn
  go_enter Tryz.func31, Tryz.ntmps31
  go_wp2_with (go_at_call 58; refine (clone_row b off n c zs _ HN.out h1 h2 HC.out).mono ?_; rintro e w1 ⟨g, cap, cur, rfl, hgb, hg, hle, hmx, hsz, htk, hb⟩; have HGB := hid hgb; have HG := hid hg; have HSZ := hid hsz; have HT := hid htk; have HB := hid hb; clear hgb hg hsz htk hb)
  have HCUR : Hid (∀ (k : Nat) (hk : k < n), cur[k]? = some (.string (zs[k]'(by have := HN.out; omega)))) := hid fun k hk => by
    have e := congrArg (·[k]?) HT.out
    rw [List.getElem?_take_of_lt hk] at e
    have hk' : k < zs.length := by have := HN.out; omega
    simp [sv, hk'] at e
    simpa using e
  go_loopw [19] (fun i wr => ∃ k : Nat, k ≤ n ∧ i = .int .i64 k ∧ wr.heap[g]? = some (.cells cur 9 (0, 0)) ∧ Below w.heap.size w wr ∧ ∀ p ∈ zs.take k, p.size = 256) (fun i _ => n - (intOf i).toNat)
  case atStart => exact ⟨0, by omega, rfl, HG.out, HB.out, fun _ h => (List.not_mem_nil h).elim⟩
  case round =>
    obtain ⟨k, hk, rfl, hgr, hbr, hall⟩ := hrel
    have HGR := hid hgr; have HBR := hid hbr; have HA := hid hall; clear hgr hbr hall
    by_cases hlt : k < n
    · have hk' : k < zs.length := by have := HN.out; omega
      have hcell : wr.cell? ⟨g, k, none⟩ = some (.string zs[k]) := by rw [cell_of_row _ _ _ _ _ _ HGR.out]; exact HCUR.out k hlt
      have HMORE : Hid (zs[k].size = 256 → ∀ p ∈ zs.take (k + 1), p.size = 256) := hid fun h p hp => by
        rw [List.take_succ_eq_append_getElem hk', List.mem_append, List.mem_singleton] at hp
        rcases hp with hp | rfl
        · exact HA.out p hp
        · exact h
      by_cases hs : zs[k].size = 256
      · have hall2 := hid (HMORE.out hs)
        clear HMORE
        have hsz := hs; clear hs
        generalize ht : zs[k] = t at hcell hsz
        have HTK := hid ht; clear ht
        have e2 : ((t.size : Int) != 256) = false := by simp; omega
        have HSZ2 : Hid (t.size ≤ 1000000) := hid (by omega)
        clear hsz
        go_wp2_with (go_at_call 72; refine (own_ok t _ HSZ2.out).mono ?_; rintro e w2 ⟨rfl, hb⟩; have hg2 : w2.heap[g]? = some (.cells cur 9 (0, 0)) := (by rw [hb.block _ (Array.getElem?_eq_some_iff.1 HGR.out).1]; exact HGR.out); have c2 : w2.cell? ⟨g, k, none⟩ = some (.string t) := (by rw [cell_of_row _ _ _ _ _ _ hg2, HCUR.out k hlt, HTK.out]); have f2 : w2.frozen? ⟨g, k, none⟩ = false := frozen_of_row _ _ _ _ _ hg2; have HG2 := hid hg2; have HB2 := Fd.on_below HBR hb; clear hb hg2)
        go_roundw
        case rel =>
          refine ⟨k + 1, by omega, by go_num, ?_, HB2.out.setCell HGB.out _, hall2.out⟩
          rw [heap_setCell_same _ _ _ _ _ _ HG2.out]
          congr 2
          apply Array.ext_getElem?
          intro j
          rw [Array.getElem?_setIfInBounds]
          by_cases e : k = j
          · subst e
            have := HCUR.out k hlt
            rw [HTK.out] at this
            rw [if_pos rfl, this]
            have hks : k < cur.size := (Array.getElem?_eq_some_iff.1 this).1
            rw [if_pos hks]
          · rw [if_neg e]
        case measure => simp [intOf]; omega
      · clear HMORE
        generalize ht : zs[k] = t at hcell hs
        clear ht
        have e2 : ((t.size : Int) != 256) = true := by simp; omega
        clear hs
        go_wp2_with fail
        go_ret2
        exact ⟨rfl, HBR.out⟩
    · obtain rfl : k = n := by omega
      obtain ⟨p, hp, hne⟩ := H3.out
      refine absurd (HA.out p ?_) hne
      rw [List.take_of_length_le (by have := HN.out; omega)]; exact hp
end Go.Proofs.YtgihpdhkjneimaaGreatDoor.Dk

/- Waits of disk. -/
namespace Go.Proofs.YtgihpdhkjneimaaGreatDoor.Dk
open Go.RowKit
open Go.Lib (hid)

theorem info3 : (Tryz.prog.info? 3).map (fun i => (i.zero, i.size, i.bytes)) = some (some (.int .i64 0), 1, 8) := by kernel_rfl
/-- the pages of the writes that wait, as cells -/
def wpages (l : List (Nat × ByteArray)) : List Value := l.map fun p => .int .i64 (p.1 : Int)
theorem wpages_more (l : List (Nat × ByteArray)) (k : Nat) (hk : k < l.length) : wpages (l.take (k + 1)) = wpages (l.take k) ++ [.int .i64 (l[k].1 : Int)] := by
  unfold wpages; rw [List.take_succ_eq_append_getElem hk, List.map_append]; rfl

set_option maxRecDepth 100000 in
set_option maxHeartbeats 1000000 in
theorem waits_some (d : Ptrs) (s : St) (w : World) (h : Dsk w d s) (hn : 0 < s.waits.length) :
    Calls Tryz.prog 24 #[.pointer (some ⟨d.D, 0, none⟩)] w fun e w' => ∃ v, e = .returned v ∧ w'.ownsRow w.heap.size 3 1 v s.waits.length (wpages s.waits) ∧ Below w.heap.size w w' := by
  rcases h.waits.2 with ⟨_, h0⟩ | ⟨g, cap, cur, hv, _, hg, hle, hcap, hsz, _⟩
  · omega
  · obtain ⟨i0, hi0, hz0, hz1, hz2⟩ := info_parts info3
    have c := h.cells
    rw [hv] at c
    have hfew := h.good.few
    have HV := hid hv
    have HH := hid h
    have HG := hid (Array.getElem?_eq_some_iff.1 hg).1
    clear hg hsz hle hcap h hv
    go_enter Tryz.func24, Tryz.ntmps24
    go_wp2_with fail
    clear c
    go_loopw [3, 13] (fun v i wr => ∃ k : Nat, k ≤ s.waits.length ∧ i = .int .i64 k ∧ wr.ownsRow w.heap.size 3 1 v k (wpages (s.waits.take k)) ∧ Below w.heap.size w wr) (fun _ i _ => s.waits.length - (intOf i).toNat)
    case atStart => exact ⟨0, by omega, rfl, World.ownsRow_nil _ _ _ _, Below.refl _ _⟩
    case round =>
      obtain ⟨k, hk, rfl, hO, hB⟩ := hrel
      have HO := hid hO; have HB := hid hB; clear hO hB
      by_cases hlt : k < s.waits.length
      · obtain ⟨x, hx⟩ : ∃ x, s.waits[k].1 = x := ⟨_, rfl⟩
        obtain ⟨t, ht⟩ : ∃ t, s.waits[k].2 = t := ⟨_, rfl⟩
        have cw : wr.cell? ⟨g, k * 2, none⟩ = some (.int .i64 (x : Int)) ∧ wr.cell? ⟨g, k * 2 + 1, none⟩ = some (.string t) := by
          have := (HH.out.below HB.out).wait HV.out k hlt
          rw [← hx, ← ht]; exact this
        have hmore := wpages_more s.waits k hlt
        rw [hx] at hmore
        have HM := hid hmore; clear hmore hx ht
        have HS := hid HB.out.size
        go_wp2_with (at_builtin; refine wpList_append_own _ rfl _ _ 38 rfl w.heap.size 3 i0 (.int .i64 0) 1 8 Tryz.underlying38 hi0 hz0 hz1 hz2 rfl (by decide) _ _ _ rfl ((HO.out.alloc _).alloc _) ⟨wr.heap.size + 1, 0, none⟩ 1 1 [.int .i64 (x : Int)] (by rfl) rfl ?c1 ?c2 ?c3 ?c4 ?c5 ?_)
        case c1 =>
          intro j u hj
          match j, hj with
          | 0, hj => simp at hj; subst hj; simp [Addr.add]
        case c2 => intro u hu; simp at hu; subst hu; rfl
        case c3 => unfold maxLen; omega
        case c4 => omega
        case c5 => have := HS.out; simp; omega
        intro v' w1 hown' hgrow _
        have hB1 : Below w.heap.size w w1 := ((HB.out.alloc HS.out _).alloc (by have := HS.out; simp; omega) _).grown hgrow (by have := HS.out; simp; omega) (fun j hj => (HO.out.lt j hj).1)
        have HB1 := hid hB1; have HO1 := hid hown'; clear hB1 hown' hgrow cw
        go_wp2_with fail
        go_roundw
        case rel => exact ⟨k + 1, by omega, by go_num, by rw [HM.out]; exact HO1.out, HB1.out⟩
        case measure => simp [intOf]; omega
      · obtain rfl : k = s.waits.length := by omega
        go_wp2_with fail
        go_ret
        have := HO.out
        rw [List.take_length] at this
        exact ⟨_, rfl, this, HB.out⟩
set_option maxHeartbeats 1000000 in
theorem waits_none (d : Ptrs) (s : St) (w : World) (h : Dsk w d s) (hn : s.waits = []) :
    Calls Tryz.prog 24 #[.pointer (some ⟨d.D, 0, none⟩)] w fun e w' => ∃ v, e = .returned v ∧ w'.ownsRow w.heap.size 3 1 v s.waits.length (wpages s.waits) ∧ Below w.heap.size w w' := by
  have c := h.cells
  have hown := h.waits
  rw [hn] at hown
  have hvv : d.wv = .slice none 0 0 ∨ ∃ g cap, d.wv = .slice (some ⟨g, 0, none⟩) 0 cap := by
    rcases hown.2 with ⟨hv, _⟩ | ⟨g, cap, cur, hv, _⟩
    · exact .inl hv
    · exact .inr ⟨g, cap, hv⟩
  clear hown h
  have e1 : s.waits.length = 0 := by rw [hn]; rfl
  have e2 : wpages s.waits = [] := by rw [hn]; rfl
  have E := hid (And.intro e1 e2); clear hn e1 e2
  rcases hvv with hv | ⟨g, cap, hv⟩
  all_goals
    rw [hv] at c
    clear hv
    go_enter Tryz.func24, Tryz.ntmps24
    go_wp2_with fail
    go_loopw [3, 13] (fun v i wr => v = .slice none 0 0 ∧ i = .int .i64 0 ∧ wr = w) (fun _ _ _ => 0)
    case atStart => exact ⟨rfl, rfl, rfl⟩
    case round =>
      obtain ⟨rfl, rfl, rfl⟩ := hrel
      go_wp2_with fail
      go_ret
      exact ⟨_, rfl, by rw [E.out.1, E.out.2]; exact World.ownsRow_nil _ _ _ _, Below.refl _ _⟩
theorem waits_ok (d : Ptrs) (s : St) (w : World) (h : Dsk w d s) :
    Calls Tryz.prog 24 #[.pointer (some ⟨d.D, 0, none⟩)] w fun e w' => ∃ v, e = .returned v ∧ w'.ownsRow w.heap.size 3 1 v s.waits.length (wpages s.waits) ∧ Below w.heap.size w w' := by
  by_cases hn : 0 < s.waits.length
  · exact waits_some d s w h hn
  · exact waits_none d s w h (List.length_eq_zero_iff.1 (by omega))
set_option maxHeartbeats 400000 in
theorem waits_nil (w : World) : Calls Tryz.prog 24 #[.pointer none] w fun e w' => e = .returned (.slice none 0 0) ∧ w = w' := by
  go_enter Tryz.func24, Tryz.ntmps24
  go_wp2_with fail
  go_ret
  exact ⟨rfl, rfl⟩
end Go.Proofs.YtgihpdhkjneimaaGreatDoor.Dk

/- Write of disk: what it returns, and what the disk is behind it. -/
namespace Go.Proofs.YtgihpdhkjneimaaGreatDoor.Dk
open Go.RowKit
open Go.Lib (hid)

theorem info68 : (Tryz.prog.info? 99).map (fun i => (i.zero, i.size, i.bytes)) = some (some (.agg #[.int .i64 0, .string ⟨#[]⟩]), 2, 24) := by kernel_rfl

/-- a write waits -/
def pushS (s : St) (n : Nat) (t : ByteArray) : St := { s with waits := s.waits ++ [(n, t)] }
def countW (s : St) : St := { s with writes := s.writes + 1 }
def writeS (s : St) (n : Nat) (t : ByteArray) : St := burnS (countW (pushS s n t))
theorem push_good {s : St} (h : Good s) {n : Nat} {t : ByteArray} (hn : n < s.pages.length) (ht : t.size = 256) (hf : s.waits.length < 1000000) : Good (pushS s n t) := by
  refine ⟨h.n1, h.n2, h.sizes, fun x hx => ?_, by simp [pushS]; omega, h.fuse, h.reads, h.writes, h.flushes⟩
  simp only [pushS, List.mem_append, List.mem_singleton] at hx
  rcases hx with hx | rfl
  · exact h.wait x hx
  · exact ⟨hn, ht⟩
theorem countW_good {s : St} (h : Good s) (hw : s.writes < 1000000) : Good (countW s) := by
  refine ⟨h.n1, h.n2, h.sizes, h.wait, h.few, h.fuse, h.reads, ?_, h.flushes⟩
  have := h.writes
  show 0 ≤ s.writes + 1 ∧ s.writes + 1 ≤ 1000000
  omega
theorem wcells_push (l : List (Nat × ByteArray)) (n : Nat) (t : ByteArray) : wcells (l ++ [(n, t)]) = wcells l ++ [.int .i64 n, .string t] := by
  simp [wcells]

/-- what the disk is when its waits have grown -/
theorem Dsk.pushed {w w2 : World} {d : Ptrs} {s : St} (h : Dsk w d s) {g cap n : Nat} {t : ByteArray} (hn : n < s.pages.length) (ht : t.size = 256) (hf : s.waits.length < 1000000)
    (ho : w2.ownsRow 0 99 2 (.slice (some ⟨g, 0, none⟩) (s.waits.length + 1) cap) (s.waits.length + 1) (wcells s.waits ++ [.int .i64 n, .string t])) (hg : w.grownBy w2 d.wv.ownBlock) (hat : d.wv.ownBlock = some g ∨ g = w.heap.size) :
    Dsk (w2.setCell ⟨d.D, 1, none⟩ (.slice (some ⟨g, 0, none⟩) (s.waits.length + 1) cap)) { d with wv := .slice (some ⟨g, 0, none⟩) (s.waits.length + 1) cap } (pushS s n t) := by
  have hgD : g ≠ d.D := by
    rcases hat with h1 | h1
    · intro e; exact h.dw (by rw [h1, e])
    · have := h.ltD; omega
  have hgP : g ≠ d.P := by
    rcases hat with h1 | h1
    · intro e; exact h.pw (by rw [h1, e])
    · have := h.ltP; omega
  have hD : w2.heap[d.D]? = w.heap[d.D]? := hg.block _ h.ltD (Ne.symm h.dw)
  have hP : w2.heap[d.P]? = w.heap[d.P]? := hg.block _ h.ltP (Ne.symm h.pw)
  refine ⟨?_, ?_, ?_, h.dp, ?_, ?_, push_good h.good hn ht hf⟩
  · rw [heap_setCell_same _ _ _ _ _ _ (by rw [hD]; exact h.head)]; rfl
  · show ∃ cur, (w2.setCell _ _).heap[d.P]? = _ ∧ _
    rw [heap_setCell_other _ _ _ _ (Ne.symm h.dp), hP]; exact h.pages
  · have e1 : (pushS s n t).waits.length = s.waits.length + 1 := by simp [pushS]
    have e2 : wcells (pushS s n t).waits = wcells s.waits ++ [.int .i64 n, .string t] := wcells_push _ _ _
    rw [e1, e2]
    refine ⟨ho.1, ?_⟩
    rcases ho.2 with ⟨hv, _⟩ | ⟨g', cap', cur, hv, hb0, hg', rest⟩
    · cases hv
    · refine .inr ⟨g', cap', cur, hv, hb0, ?_, rest⟩
      have : g' = g := by cases hv; rfl
      rw [this, heap_setCell_other _ _ _ _ hgD, ← this]; exact hg'
  · show some g ≠ some d.D
    intro e; exact hgD (by injection e)
  · show some g ≠ some d.P
    intro e; exact hgP (by injection e)
theorem Only.pushed {w0 w w2 : World} {d : Ptrs} (h : Only d w0 w) {v : Value} (hg : w.grownBy w2 d.wv.ownBlock) : Only d w0 (w2.setCell ⟨d.D, 1, none⟩ v) := by
  refine ⟨hg.os.trans h.os, hg.tape.trans h.tape, hg.output.trans h.output, by rw [World.size_setCell]; exact Nat.le_trans h.size hg.size, fun k hk hn => ?_⟩
  rw [heap_setCell_other _ _ _ _ (fun e => hn (.inl e)), hg.block k (Nat.lt_of_lt_of_le hk h.size) (fun e => hn (.inr (.inr e.symm))), h.block k hk hn]

set_option maxRecDepth 100000 in
set_option maxHeartbeats 1000000 in
theorem write_ok (d : Ptrs) (s : St) (n : Nat) (t : ByteArray) (w : World) (h : Dsk w d s) (hn : n < s.pages.length) (ht : t.size = 256) (hfz : s.fuse ≠ 0) (hf : s.waits.length < 1000000) (hw : s.writes < 1000000) :
    Calls Tryz.prog 78 #[.pointer (some ⟨d.D, 0, none⟩), .int .i64 n, .string t] w fun e w' => e = .returned (.int .i64 0) ∧ ∃ v, Dsk w' { d with wv := v } (writeS s n t) ∧ Only d w w' ∧ From d { d with wv := v } w := by
  obtain ⟨i0, hi0, hz0, hz1, hz2⟩ := info_parts info68
  have e1 : decide ((0 : Int) ≤ (n : Int) ∧ (n : Int) < (s.pages.length : Int)) = true := by simp; omega
  have e2 : ((t.size : Int) != 256) = false := by simp; omega
  have e3 : (s.fuse == 0) = false := by simpa using hfz
  have hmax : s.waits.length + 1 ≤ maxLen := by unfold maxLen; omega
  have hby : (s.waits.length + 1) * 24 ≤ 140737488355328 := by omega
  have HH := hid h
  have HT : Hid (t.size ≤ 1000000) := hid (by omega)
  have c := h.cells
  clear h
  go_enter Tryz.func78, Tryz.ntmps78
  go_wp2_with (first
    | (go_at_call 123; refine (has_ok d s n _ HH.out).mono ?_; rintro e w' ⟨rfl, rfl⟩)
    | (go_at_call 124; refine (dead_ok d s _ HH.out).mono ?_; rintro e w' ⟨rfl, rfl⟩))
  go_region_law (first
    | (refine step_append_lies _ (by rfl) _ _ _ (by rfl) 0 99 i0 _ 2 24 Tryz.underlying85 hi0 hz0 hz1 hz2 rfl (by omega) d.wv s.waits.length (wcells s.waits) (by rfl) ((HH1.out.waits.alloc _))
        ⟨w1.heap.size, 0, none⟩ 1 1 [.int .i64 n, .string t] (by rfl) (by rfl) (World.news_of_block (cs := #[.int .i64 n, .string t]) (t := 99) (fr := (0, 0)) (heap_alloc_new w1 _)) (by simp [Value.oneCell'])
        (by omega) hmax hby (by omega) (w1.heap.size + 1) (by simp) ?_; intro gg cap w2 hown1 hgrow hat hlt
       have HO := hid hown1; have HG := hid hgrow; have HA := hid hat; clear hown1 hgrow hat hlt
       have c3 : w2.frozen? ⟨d.D, 1, none⟩ = false := by rw [HG.out.frozen_far _ (by have := HH1.out.ltD; simp; omega) (fun e => HH1.out.dw e.symm)]; have := (HH1.out.below ((Below.refl w1.heap.size w1).alloc (Nat.le_refl _) (.cells #[.int .i64 n, .string t] 99))).free 1; exact this
       have c4 : w2.cell? ⟨d.D, 1, none⟩ = some d.wv := by rw [HG.out.cell_far _ (by have := HH1.out.ltD; simp; omega) (fun e => HH1.out.dw e.symm)]; exact (HH1.out.below ((Below.refl w1.heap.size w1).alloc (Nat.le_refl _) (.cells #[.int .i64 n, .string t] 99))).cells.2.1)
    | (go_simp; go_at_call 72; refine (own_ok t _ HT.out).mono ?_; rintro e w1 ⟨rfl, hb⟩; have HH1 := hid (HH.out.drew.below hb); have HB := hid (Only.below (d := d) (w := w.drew) hb); clear hb; have c1 := HH1.out.cells; have c2 := HH1.out.ltD))
  all_goals
    have hA := HH1.out.below ((Below.refl w1.heap.size w1).alloc (Nat.le_refl _) (.cells #[.int .i64 n, .string t] 99))
    have hD := hA.pushed hn ht hf HO.out HG.out (by have := HA.out; simpa using this)
    have hon : Only d w (w1.alloc (.cells #[.int .i64 n, .string t] 99)) :=
      ⟨HB.out.os, HB.out.tape, HB.out.output, by have := HB.out.size; simp at this ⊢; omega, fun k hk hn => by
        have h1 : k < w1.heap.size := Nat.lt_of_lt_of_le hk HB.out.size
        rw [((Below.refl w1.heap.size w1).alloc (Nat.le_refl _) (.cells #[.int .i64 n, .string t] 99)).block k h1, HB.out.block k hk hn]; rfl⟩
    have hon2 := Only.pushed hon (v := .slice (some ⟨gg, 0, none⟩) (s.waits.length + 1) cap) HG.out
    have hfr : From d { d with wv := .slice (some ⟨gg, 0, none⟩) (s.waits.length + 1) cap } w := by
      rintro k (rfl | rfl | hk)
      · exact .inl (.inl rfl)
      · exact .inl (.inr (.inl rfl))
      · have : gg = k := by injection hk
        subst this
        rcases HA.out with h1 | h1
        · exact .inl (.inr (.inr h1))
        · right; have := HB.out.size; simp at this; omega
    have HD := hid hD; have HON := hid hon2; have HF := hid hfr
    clear hA hD hon hon2 hfr c1 c2 c3 c4 HO HG HA HB HH1
    generalize hv : (Value.slice (some ⟨gg, 0, none⟩) (s.waits.length + 1) cap) = v at HD HON HF ⊢
    clear hv
    generalize w2.setCell ⟨d.D, 1, none⟩ v = w3 at HD HON ⊢
    have cc := HD.out.cells
    have ff := HD.out.free 4
    have hwb := HD.out.good.writes
    have hwb1 := hwb.1
    have hwb2 := hwb.2
    have hd4 : Dsk (w3.setCell ⟨d.D, 4, none⟩ (.int .i64 ((pushS s n t).writes + 1))) { d with wv := v } (countW (pushS s n t)) :=
      HD.out.store 4 _ (countW (pushS s n t)) rfl rfl (countW_good HD.out.good hw) rfl
    have HD4 := hid hd4; clear hd4
    have HON4 := hid (HON.out.store 4 (.int .i64 ((pushS s n t).writes + 1)))
    clear hwb
    go_wp2_with (go_at_call 125; refine (burn_ok { d with wv := v } (countW (pushS s n t)) _ HD4.out).mono ?_; rintro e w4 ⟨rfl, hd5, hon5⟩; have HD5 := hid hd5; have HON5 := hid hon5; clear hd5 hon5)
    go_ret
    exact ⟨rfl, v, HD5.out, HON4.out.trans HF.out HON5.out, HF.out⟩

set_option maxHeartbeats 400000 in
theorem write_bad (d : Ptrs) (s : St) (n : Int) (t : ByteArray) (w : World) (h : Dsk w d s) (hb : n < 0 ∨ s.pages.length ≤ n ∨ t.size ≠ 256 ∨ s.fuse = 0) :
    Calls Tryz.prog 78 #[.pointer (some ⟨d.D, 0, none⟩), .int .i64 n, .string t] w fun e w' => e = .returned (.int .i64 1) ∧ w = w' := by
  have HH := hid h; clear h
  by_cases h1 : 0 ≤ n ∧ n < s.pages.length
  · have e1 : decide (0 ≤ n ∧ n < (s.pages.length : Int)) = true := by simpa using h1
    by_cases h2 : t.size = 256
    · have e2 : ((t.size : Int) != 256) = false := by simp; omega
      have e3 : (s.fuse == 0) = true := by simp; omega
      clear hb h1 h2
      go_enter Tryz.func78, Tryz.ntmps78
      go_wp2_with (first
        | (go_at_call 123; refine (has_ok d s n _ HH.out).mono ?_; rintro e w' ⟨rfl, rfl⟩)
        | (go_at_call 124; refine (dead_ok d s _ HH.out).mono ?_; rintro e w' ⟨rfl, rfl⟩))
      go_ret
      exact ⟨rfl, rfl⟩
    · have e2 : ((t.size : Int) != 256) = true := by simp; omega
      clear hb h1 h2
      go_enter Tryz.func78, Tryz.ntmps78
      go_wp2_with (first
        | (go_at_call 123; refine (has_ok d s n _ HH.out).mono ?_; rintro e w' ⟨rfl, rfl⟩)
        | (go_at_call 124; refine (dead_ok d s _ HH.out).mono ?_; rintro e w' ⟨rfl, rfl⟩))
      go_ret
      exact ⟨rfl, rfl⟩
  · have e1 : decide (0 ≤ n ∧ n < (s.pages.length : Int)) = false := by simpa using h1
    clear hb h1
    go_enter Tryz.func78, Tryz.ntmps78
    go_wp2_with (first
      | (go_at_call 123; refine (has_ok d s n _ HH.out).mono ?_; rintro e w' ⟨rfl, rfl⟩)
      | (go_at_call 124; refine (dead_ok d s _ HH.out).mono ?_; rintro e w' ⟨rfl, rfl⟩))
    go_ret
    exact ⟨rfl, rfl⟩
set_option maxHeartbeats 400000 in
theorem write_nil (n : Int) (t : ByteArray) (w : World) :
    Calls Tryz.prog 78 #[.pointer none, .int .i64 n, .string t] w fun e w' => e = .returned (.int .i64 1) ∧ w = w' := by
  go_enter Tryz.func78, Tryz.ntmps78
  go_wp2_with (go_at_call 123; refine (has_nil n _).mono ?_; rintro e w' ⟨rfl, rfl⟩)
  go_ret
  exact ⟨rfl, rfl⟩
end Go.Proofs.YtgihpdhkjneimaaGreatDoor.Dk

/- A new disk among the calls: each call's contract, by what the disk is alone. -/
namespace Go.Proofs.YtgihpdhkjneimaaGreatDoor.Dk
open Go.RowKit
open Go.Lib (hid)

/-- a disk at D that is new since w, and nothing that was there at w has turned -/
structure Lv (w wr : World) (D : Nat) (s : St) : Prop where
  ex : ∃ d : Ptrs, d.D = D ∧ Dsk wr d s ∧ ∀ k, Foot d k → w.heap.size ≤ k
  below : Below w.heap.size w wr
theorem Lv.good {w wr : World} {D : Nat} {s : St} (h : Lv w wr D s) : Good s := by obtain ⟨d, _, hd, _⟩ := h.ex; exact hd.good
theorem Lv.next {w wr w' : World} {D : Nat} {s : St} (h : Lv w wr D s) (hb : Below wr.heap.size wr w') : Lv w w' D s := by
  obtain ⟨d, h1, hd, hf⟩ := h.ex
  exact ⟨⟨d, h1, hd.below hb, hf⟩, h.below.trans (hb.mono h.below.size)⟩
theorem Lv.alloc {w wr : World} {D : Nat} {s : St} (h : Lv w wr D s) (o : Obj) : Lv w (wr.alloc o) D s := h.next ((Below.refl _ _).alloc (Nat.le_refl _) o)
theorem Lv.drewN {w wr : World} {D : Nat} {s : St} (h : Lv w wr D s) (n : Nat) : Lv w (wr.drewN n) D s := by
  obtain ⟨d, h1, hd, hf⟩ := h.ex
  exact ⟨⟨d, h1, hd.drewN n, hf⟩, ⟨h.below.os, h.below.tape, h.below.output, h.below.size, h.below.block⟩⟩
theorem Lv.drew {w wr : World} {D : Nat} {s : St} (h : Lv w wr D s) : Lv w wr.drew D s := by
  obtain ⟨d, h1, hd, hf⟩ := h.ex
  exact ⟨⟨d, h1, hd.drew, hf⟩, ⟨h.below.os, h.below.tape, h.below.output, h.below.size, h.below.block⟩⟩
theorem Lv.step {w wr w' : World} {d : Ptrs} (d' : Ptrs) {s' : St} (hf : ∀ k, Foot d k → w.heap.size ≤ k) (hb : Below w.heap.size w wr) (hd : Dsk w' d' s') (ho : Only d wr w') (hfr : From d d' wr) (hDD : d'.D = d.D) : Lv w w' d.D s' :=
  ⟨⟨d', hDD, hd, fun k hk => by
    rcases hfr k hk with h | h
    · exact hf k h
    · have := hb.size; omega⟩, hb.trans (ho.to_below hb.size hf)⟩
theorem lv_new (n : Nat) (w wr : World) (hb : Below w.heap.size w wr) (h1 : 1 ≤ n) (h2 : n ≤ 1000) :
    Calls Tryz.prog 9 #[.int .i64 (n : Int)] wr fun e w' => ∃ D, e = .returned (.tuple #[.pointer (some ⟨D, 0, none⟩), .int .i64 0]) ∧ Lv w w' D (newS (blanks n)) :=
  (new_ok n wr h1 h2).mono fun _ _ ⟨d, h1, h2, h3, h4⟩ => ⟨d.D, h1, ⟨⟨d, rfl, h2, fun k hk => Nat.le_trans hb.size (h4 k hk)⟩, hb.trans (h3.mono hb.size)⟩⟩
theorem lv_write (n : Nat) (t : ByteArray) {w wr : World} {D : Nat} {s : St} (h : Lv w wr D s) (hn : n < s.pages.length) (ht : t.size = 256) (hfz : s.fuse ≠ 0) (hf : s.waits.length < 1000000) (hw : s.writes < 1000000) :
    Calls Tryz.prog 78 #[.pointer (some ⟨D, 0, none⟩), .int .i64 (n : Int), .string t] wr fun e w' => e = .returned (.int .i64 0) ∧ Lv w w' D (writeS s n t) := by
  obtain ⟨d, rfl, hd, hfo⟩ := h.ex
  exact (write_ok d s n t wr hd hn ht hfz hf hw).mono fun _ _ ⟨h1, v, h2, h3, h4⟩ => ⟨h1, Lv.step { d with wv := v } hfo h.below h2 h3 h4 rfl⟩
theorem lv_write_bad (n : Int) (t : ByteArray) {w wr : World} {D : Nat} {s : St} (h : Lv w wr D s) (hb : n < 0 ∨ s.pages.length ≤ n ∨ t.size ≠ 256 ∨ s.fuse = 0) :
    Calls Tryz.prog 78 #[.pointer (some ⟨D, 0, none⟩), .int .i64 n, .string t] wr fun e w' => e = .returned (.int .i64 1) ∧ wr = w' := by
  obtain ⟨d, rfl, hd, hfo⟩ := h.ex
  exact write_bad d s n t wr hd hb
theorem lv_flush {w wr : World} {D : Nat} {s : St} (h : Lv w wr D s) (hfz : s.fuse ≠ 0) (hfl : s.flushes < 1000000) :
    Calls Tryz.prog 91 #[.pointer (some ⟨D, 0, none⟩)] wr fun e w' => e = .returned (.int .i64 (s.waits.length : Int)) ∧ Lv w w' D (flushS s) := by
  obtain ⟨d, rfl, hd, hfo⟩ := h.ex
  exact (flush_ok d s wr hd hfz hfl).mono fun _ _ ⟨h1, v, h2, h3, h4⟩ => ⟨h1, Lv.step { d with wv := v } hfo h.below h2 h3 h4 rfl⟩
theorem lv_read (i : Nat) (t : ByteArray) {w wr : World} {D : Nat} {s : St} (h : Lv w wr D s) (hi : i < s.pages.length) (hr : s.reads < 1000000) (ht : (applyW s.pages s.waits)[i]? = some t) :
    Calls Tryz.prog 132 #[.pointer (some ⟨D, 0, none⟩), .int .i64 (i : Int)] wr fun e w' => e = .returned (.tuple #[.string t, .int .i64 0]) ∧ Lv w w' D (readS s) := by
  obtain ⟨d, rfl, hd, hfo⟩ := h.ex
  refine (read_ok d s i wr hd hi hr).mono fun _ _ ⟨t', h1, h2, h3, h4⟩ => ?_
  rw [ht] at h2
  cases h2
  exact ⟨h1, Lv.step d hfo h.below h3 h4 (From.refl _ _) rfl⟩
theorem lv_crash (q : Option Addr) (c : Nat) (ks : List Int) (torn a : Int) (o : List ByteArray) {w wr : World} {D : Nat} {s : St} (h : Lv w wr D s) (hks : Kept wr q ks) (hkm : ks.length ≤ maxLen) (hc : comeS s ks torn a = some o) :
    Calls Tryz.prog 26 #[.pointer (some ⟨D, 0, none⟩), .slice q ks.length c, .int .i64 torn, .int .i64 a] wr fun e w' => e = .returned (.int .i64 0) ∧ Lv w w' D (crashS s o) := by
  obtain ⟨d, rfl, hd, hfo⟩ := h.ex
  exact (crash_ok d s wr hd q c ks hks hkm torn a o hc).mono fun _ _ ⟨h1, v, h2, h3, h4⟩ => ⟨h1, Lv.step { d with wv := v } hfo h.below h2 h3 h4 rfl⟩
theorem lv_counts {w wr : World} {D : Nat} {s : St} (h : Lv w wr D s) :
    Calls Tryz.prog 30 #[.pointer (some ⟨D, 0, none⟩)] wr fun e w' => e = .returned (.tuple #[.int .i64 s.reads, .int .i64 s.writes, .int .i64 s.flushes]) ∧ ∃ n, w' = wr.drewN n := by
  obtain ⟨d, rfl, hd, hfo⟩ := h.ex
  exact counts_ok d s wr hd
theorem lv_size {w wr : World} {D : Nat} {s : St} (h : Lv w wr D s) :
    Calls Tryz.prog 75 #[.pointer (some ⟨D, 0, none⟩)] wr fun e w' => e = .returned (.int .i64 (s.pages.length : Int)) ∧ wr = w' := by
  obtain ⟨d, rfl, hd, hfo⟩ := h.ex
  exact size_ok d s wr hd
theorem lv_image {w wr : World} {D : Nat} {s : St} (h : Lv w wr D s) :
    Calls Tryz.prog 22 #[.pointer (some ⟨D, 0, none⟩)] wr fun e w' => ∃ g cap, e = .returned (.slice (some ⟨g, 0, none⟩) s.pages.length cap) ∧ wr.heap.size ≤ g ∧ g < w'.heap.size ∧ (∀ j (hj : j < s.pages.length), w'.cell? ⟨g, j, none⟩ = some (.string s.pages[j])) ∧ Below wr.heap.size wr w' := by
  obtain ⟨d, rfl, hd, hfo⟩ := h.ex
  refine (image_ok d s wr hd).mono fun e w' ⟨v, h1, h2, h3⟩ => ?_
  have hn := hd.good.n1
  rcases h2.2 with ⟨_, h0⟩ | ⟨g, cap, cur, rfl, h4, h5, h6, h7, h8, h9⟩
  · omega
  · refine ⟨g, cap, h1, h4, (Array.getElem?_eq_some_iff.1 h5).1, fun j hj => ?_, h3⟩
    rw [cell_of_row _ _ _ _ _ _ h5]
    rw [Nat.mul_one] at h9
    have e := congrArg (·[j]?) h9
    rw [List.getElem?_take_of_lt hj] at e
    simp [sv, hj] at e
    simpa using e
theorem lv_waits {w wr : World} {D : Nat} {s : St} (h : Lv w wr D s) :
    Calls Tryz.prog 24 #[.pointer (some ⟨D, 0, none⟩)] wr fun e w' => ∃ p cap, e = .returned (.slice p s.waits.length cap) ∧ Below wr.heap.size wr w' := by
  obtain ⟨d, rfl, hd, hfo⟩ := h.ex
  refine (waits_ok d s wr hd).mono fun e w' ⟨v, h1, h2, h3⟩ => ?_
  rcases h2.2 with ⟨hv, h0⟩ | ⟨g, cap, cur, rfl, _⟩
  · exact ⟨none, 0, by rw [h1, hv, h0], h3⟩
  · exact ⟨_, cap, h1, h3⟩
end Go.Proofs.YtgihpdhkjneimaaGreatDoor.Dk
