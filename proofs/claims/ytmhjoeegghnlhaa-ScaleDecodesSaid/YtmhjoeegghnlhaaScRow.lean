/- A row of numbers of the call's own, turned in place: one more put in, one taken out (Insert and Delete of slices). Out of AtRow. -/
import Derived.Test.YtmhjoeegghnlhaaKyZip
import Derived.Test.YtmhjoeegghnlhaaBkApp
import Derived.Deep.AppendLies
import Derived.Deep.AppendSrc
import Derived.Laws.CopyRow
import Derived.Laws.OwnMore
import Derived.Lib.Overlaps
import Derived.Lib.AppendZerosOnto
import Derived.Shelf.Spec.SlicesInsert
import Derived.Deep.DeepAppendRoom
import Derived.Lib.SliceRun
namespace Go.Proofs.Ytmhjoeegghnlhaa.Sc
open Go.RowKit Go.Lib
open Go.Lib (hid)
open Go.Proofs.Ytmhjoeegghnlhaa.Ky Go.Proofs.Ytmhjoeegghnlhaa.Bk

theorem rsize : (Try.prog.info? 30).map (·.size) = some 1 := by kernel_rfl
theorem rec_own {w : World} (ty : TypeId) {base : Nat} (v : Value) (n : Nat) (xs : List Value) (hown : w.ownsRow base 30 1 v n xs) (q : Option Addr) (m c : Nat) (news : List Value) (hq : ReadAt w q news) (hl : news.length = m) (h1 : ∀ u ∈ news, u.oneCell' = true) (hb : n + m ≤ 100000000) (hbase : base ≤ w.heap.size) :
    ∃ v' w', (Builtin.append_ #[31, 31] ty #[v, .slice q m c]).run Try.prog w = .ok v' w' ∧ Owns w base 30 1 v (n + m) (xs ++ news) v' w' := by
  obtain ⟨i, hi, hz0, hz1, hz2⟩ := info_parts kinfo
  exact run_app_own (P := Try.prog) Try.underlying31 hi hz0 hz1 hz2 rfl (by decide) ty v n xs hown q m c news hq (by omega) h1 (by unfold maxLen; omega) (by omega) hbase
/-- a copy of k records into a row that is known whole -/
theorem run_copy_rec (w : World) (ty : TypeId) (g o dLen dCap : Nat) (a : Addr) (sLen sCap : Nat) (cur : Array Value) (t : TypeId) (k : Nat) (cs : List Value)
    (hk : k = Nat.min sLen dLen) (hcl : cs.length = k) (hg : w.heap[g]? = some (.cells cur t (0, 0)))
    (hsrc : ∀ j v, cs[j]? = some v → w.cell? (a.add j) = some v) (hfit : o + cs.length ≤ cur.size) (h1 : ∀ v ∈ cs, v.oneCell' = true) :
    (Builtin.copy_ #[31, 31] ty #[.slice (some ⟨g, o, none⟩) dLen dCap, .slice (some a) sLen sCap]).run Try.prog w =
      .ok (goInt k) (w.setRow g (cur.toList.take o ++ cs ++ cur.toList.drop (o + cs.length)).toArray) := by
  have hl := run_loadCells_list (P := Try.prog) w a cs hsrc
  have hst := run_storeCells_at Try.prog g o t cs 0 cur w hg (by simpa using hfit) h1
  cases hq : Try.prog.info? 30 with
  | none => have := rsize; rw [hq] at this; cases this
  | some i =>
    have hi : i.size = 1 := by have := rsize; rw [hq] at this; simpa using this
    have hc2 : Nat.min sLen dLen = cs.length := by rw [hcl, hk]
    simp [Builtin.copy_, run_underlying Try.underlying31, Builtin.lenOf, Builtin.firstCells, sizeOf, typeInfo, hq, hi, hc2, hl, hst, hk]
/-- a row that is laid anew is the call's own -/
theorem own_setRow {w : World} {g c n N : Nat} {cur : Array Value} (hg : w.heap[g]? = some (.cells cur 30 (0, 0))) (hN : N ≤ g) (hc : c ≤ maxLen) (hn : n ≤ c) (ys : List Value) (hys : ys.length = c) :
    (w.setRow g ys.toArray).ownsRow N 30 1 (.slice (some ⟨g, 0, none⟩) n c) n (ys.take (n)) ∧ w.grownBy (w.setRow g ys.toArray) (some g) :=
  ⟨⟨by rw [List.length_take, hys]; omega, .inr ⟨g, c, ys.toArray, rfl, hN, setRow_heap w g _ _ _ _ hg, hn, hc, by simpa using hys, by simp⟩⟩,
    ⟨rfl, rfl, rfl, by simp, fun k _ hk => setRow_other w g k _ (fun e => hk (by rw [e]))⟩⟩
theorem grown_refl (w : World) (r : Option Nat) : w.grownBy w r := ⟨rfl, rfl, rfl, Nat.le_refl _, fun _ _ _ => rfl⟩
theorem grown_trans {w w1 w2 : World} {r : Option Nat} (h : w.grownBy w1 r) (g : w1.grownBy w2 r) : w.grownBy w2 r :=
  ⟨g.os.trans h.os, g.tape.trans h.tape, g.output.trans h.output, Nat.le_trans h.size g.size, fun k hk hn => by rw [g.block k (Nat.lt_of_lt_of_le hk h.size) hn, h.block k hk hn]⟩
theorem grown_drew {w w1 : World} {r : Option Nat} (h : w.grownBy w1 r) : w.grownBy w1.drew r := ⟨h.os, h.tape, h.output, h.size, h.block⟩
/-- what a list is, of which two cells are put in at i -/
def insL (xs : List Value) (i : Nat) (u : Value) : List Value := xs.take i ++ [u] ++ xs.drop i
def delL (xs : List Value) (i : Nat) : List Value := xs.take (i) ++ xs.drop ((i + 1))
set_option maxRecDepth 100000 in
theorem slice_back0 (p : Option Addr) (n c : Nat) (_ : n ≤ c) : ∃ P, ∀ w : World, (Instr.slice 31 (.slice p n c) (some (.int .i64 (n : Int))) none none).run Try.prog w = .ok (.slice P 0 (c - n)) w := by
  refine ⟨if c = n then p else p.map fun a => a.add (n), fun w => ?_⟩
  have hs : (sizeOf 30).run Try.prog w = .ok 1 w := by kernel_rfl
  rw [run_slice_l w _ p n c (by kernel_rfl) .i64 n (by omega) (by omega)]
  have e : Try.prog.elem 31 = 30 := by kernel_rfl
  rw [e, hs]
  simp only [Result.andThen, sliced, Int.toNat_natCast, Nat.sub_self, Nat.mul_one]
set_option maxRecDepth 100000 in
theorem slice_backD (p : Option Addr) (len c n : Nat) (h : n ≤ len) (hc : len ≤ c) : ∃ P, (P = p.map (fun a => a.add (n)) ∨ len = n) ∧ ∀ w : World, (Instr.slice 31 (.slice p len c) (some (.int .i64 (n : Int))) none none).run Try.prog w = .ok (.slice P (len - n) (c - n)) w := by
  refine ⟨if c = n then p else p.map fun a => a.add (n), ?_, fun w => ?_⟩
  · split
    · right; omega
    · left; rfl
  · have hs : (sizeOf 30).run Try.prog w = .ok 1 w := by kernel_rfl
    rw [run_slice_l w _ p len c (by kernel_rfl) .i64 n (by omega) (by omega)]
    have e : Try.prog.elem 31 = 30 := by kernel_rfl
    rw [e, hs]
    simp only [Result.andThen, sliced, Int.toNat_natCast, Nat.mul_one]
/-- what Insert leaves -/
def InsPost (w : World) (N n i : Nat) (v u0 : Value) (xs : List Value) (e : Ending) (w' : World) : Prop :=
  ∃ v', e = .returned v' ∧ w'.ownsRow N 30 1 v' (n + 1) (insL xs i u0) ∧ w.grownBy w' v.ownBlock ∧ (v'.ownBlock = v.ownBlock ∨ v'.ownBlock = some w.heap.size)
set_option maxRecDepth 100000 in
set_option maxHeartbeats 4000000 in
/-- at the end -/
theorem ins_end (w : World) (N n vb : Nat) (v u0 : Value) (xs : List Value) (hown : w.ownsRow N 30 1 v n xs) (hN : N ≤ w.heap.size) (hn : n ≤ 1000)
    (hvb : w.heap[vb]? = some (.cells #[u0] 30 (0, 0))) (h0 : u0.oneCell' = true) :
    Calls Try.prog 41 #[v, .int .i64 (n : Int), .slice (some ⟨vb, 0, none⟩) 1 1] w (InsPost w N n n v u0 xs) := by
  have hxl : xs.length = n := by have := hown.1; omega
  have hrd : ReadAt w (some ⟨vb, 0, none⟩) [u0] := fun j y hj => by
    refine ⟨vb, 0, rfl, (Array.getElem?_eq_some_iff.1 hvb).1, ?_⟩
    rw [cell_of_row _ _ _ _ _ _ hvb, Nat.zero_add]
    match j, hj with
    | 0, hj => simpa using hj
    | 1, hj => simp at hj
  have HA := hid (rec_own (w := w) 31 v n xs hown (some ⟨vb, 0, none⟩) 1 1 [u0] hrd rfl (fun y hy => by simp at hy; subst hy; exact h0) (by omega) hN)
  obtain ⟨p, c, rfl, hnc⟩ : ∃ p c, v = .slice p n c ∧ n ≤ c := by
    rcases hown.2 with ⟨rfl, rfl⟩ | ⟨g, cap, cur, rfl, _, _, hnc, _⟩
    · exact ⟨_, _, rfl, Nat.le_refl _⟩
    · exact ⟨_, _, rfl, hnc⟩
  have HE := hid (show insL xs n u0 = xs ++ [u0] by
    unfold insL; rw [← hxl, List.take_length, List.drop_length, List.append_nil])
  have hsl := slice_back0 p n c hnc
  obtain ⟨P1, hsl⟩ := hsl
  clear hown hvb hrd hxl
  go_enter Try.func41, Try.ntmps41
  go_wp2_with (at_builtin; refine wpList_app rfl _ _ _ rfl rfl rfl HA.out ?_)
  intro v' w1 hF
  have HF := hid hF; clear hF
  go_wp2_with fail
  go_ret
  refine ⟨v', rfl, ?_, HF.out.2.1, HF.out.2.2⟩
  rw [HE.out]; exact HF.out.1
theorem cell_slot {w : World} {b off : Nat} {cur : Array Value} {T : TypeId} {xs : List Value} {n : Nat} (hg : w.heap[b]? = some (.cells cur T (0, 0))) (ht : cur.toList.take (n) = xs) : ∀ j v, (xs.drop off)[j]? = some v → w.cell? ((⟨b, off, none⟩ : Addr).add j) = some v := fun j v hj => by
  rw [List.getElem?_drop, ← ht, List.getElem?_take] at hj
  split at hj
  · rw [Bk.addr_add, cell_of_row _ _ _ _ _ _ hg]; simpa using hj
  · cases hj
set_option maxRecDepth 100000 in
set_option maxHeartbeats 4000000 in
/-- ahead of the end, where there is room -/
theorem ins_shift (w : World) (N n i c b vb : Nat) (u0 : Value) (xs : List Value) (hown : w.ownsRow N 30 1 (.slice (some ⟨b, 0, none⟩) n c) n xs) (h1c : ∀ v ∈ xs, v.oneCell' = true) (hi : i < n) (hroom : n + 1 ≤ c) (hn : n ≤ 1000) (hne : vb ≠ b)
    (hvb : w.heap[vb]? = some (.cells #[u0] 30 (0, 0))) (h0 : u0.oneCell' = true) :
    Calls Try.prog 41 #[.slice (some ⟨b, 0, none⟩) n c, .int .i64 (i : Int), .slice (some ⟨vb, 0, none⟩) 1 1] w (InsPost w N n i (.slice (some ⟨b, 0, none⟩) n c) u0 xs) := by
  have hxl : xs.length = n := by have := hown.1; omega
  obtain ⟨cur, hNb, hg, hcm, hcs, ht⟩ : ∃ cur : Array Value, N ≤ b ∧ w.heap[b]? = some (.cells cur 30 (0, 0)) ∧ c ≤ maxLen ∧ cur.size = c ∧ cur.toList.take (n) = xs := by
    rcases hown.2 with ⟨h, _⟩ | ⟨g, cap, cur, hv, hb, hh, _, hm, hs, ht⟩
    · cases h
    · simp only [Value.slice.injEq, Option.some.injEq, Addr.mk.injEq, and_true, true_and] at hv
      obtain ⟨rfl, rfl⟩ := hv
      exact ⟨cur, hb, hh, hm, by omega, by rw [Nat.mul_one] at ht; exact ht⟩
  unfold maxLen at hcm
  obtain ⟨i1, hi1⟩ : ∃ i1, i + 1 = i1 := ⟨_, rfl⟩
  obtain ⟨n1, hn1⟩ : ∃ n1, n + 1 = n1 := ⟨_, rfl⟩
  have hi1Z : (i : Int) + 1 = (i1 : Int) := by omega
  have hn1Z : (n : Int) + 1 = (n1 : Int) := by omega
  have hw1 : IntKind.i64.wrap ((i : Int) + 1) = (i1 : Int) := by rw [IntKind.wrap_i64]; omega
  have hw2 : IntKind.i64.wrap ((n : Int) + 1) = (n1 : Int) := by rw [IntKind.wrap_i64]; omega
  have hw3 : IntKind.i64.wrap (i1 : Int) = (i1 : Int) := by rw [IntKind.wrap_i64]; omega
  have hw4 : IntKind.i64.wrap (n1 : Int) = (n1 : Int) := by rw [IntKind.wrap_i64]; omega
  have hov : ∀ lb cb, (callFunc 61 #[.slice (some ⟨vb, 0, none⟩) 1 1, .slice (some ⟨b, i1, none⟩) lb cb]).run Try.prog w = .ok (.value (.bool false)) w := fun lb cb => by
    rw [run_callFunc_extern Try.func61 (by kernel_rfl) (by kernel_rfl) (by kernel_rfl) (e := Extern.SlicesOverlaps.overlaps #[31, 31] #[4]) (by kernel_rfl),
      Lib.run_overlaps_apart w 31 4 30 Try.underlying31 1 (fun w => by kernel_rfl) ⟨vb, 0, none⟩ ⟨b, i1, none⟩ 1 1 lb cb hne 30 30 1 cur.size
        (by simp [World.shape?, hvb]) (by simp [World.shape?, hg]) (by omega) (frozen_of_row _ _ _ _ _ hvb) (frozen_of_row _ _ _ _ _ hvb)]
    rfl
  have hdl : (xs.drop (i)).length = (n - i) := by rw [List.length_drop, hxl]
  obtain ⟨ys, hys⟩ : ∃ ys, ys = cur.toList.take (i1) ++ xs.drop (i) ++ cur.toList.drop (i1 + (xs.drop (i)).length) := ⟨_, rfl⟩
  have hcl : cur.toList.length = c := by simpa using hcs
  have hyl : ys.length = c := by rw [hys]; simp only [List.length_append, List.length_take, List.length_drop, hcl, hxl]; omega
  obtain ⟨W1, hW1⟩ : ∃ W1, w.drew.setRow b ys.toArray = W1 := ⟨_, rfl⟩
  have hcp1 : ∀ ty dc sc, (Builtin.copy_ #[31, 31] ty #[.slice (some ⟨b, i1, none⟩) (n1 - i1) dc, .slice (some ⟨b, i, none⟩) (n1 - i) sc]).run Try.prog w.drew = .ok (goInt ((n - i : Nat) : Int)) W1 := fun ty dc sc => by
    rw [← hW1, hys]
    exact run_copy_rec w.drew ty b (i1) (n1 - i1) dc ⟨b, i, none⟩ (n1 - i) sc cur 30 (n - i) (xs.drop (i)) (by simp only [Nat.min_def]; split <;> omega) hdl hg (cell_slot (w := w.drew) hg ht) (by rw [hdl]; omega) (fun v hv => h1c v (List.mem_of_mem_drop hv))
  have hg1 : W1.heap[b]? = some (.cells ys.toArray 30 (0, 0)) := by rw [← hW1]; exact setRow_heap w.drew b _ _ _ _ hg
  have hvb1 : W1.heap[vb]? = some (.cells #[u0] 30 (0, 0)) := by rw [← hW1, setRow_other w.drew b vb _ hne]; exact hvb
  obtain ⟨zs, hzs⟩ : ∃ zs, zs = ys.toArray.toList.take (i) ++ [u0] ++ ys.toArray.toList.drop (i + [u0].length) := ⟨_, rfl⟩
  have hzl : zs.length = c := by rw [hzs]; simp [hyl]; omega
  have hcp2 : ∀ ty dc, (Builtin.copy_ #[31, 31] ty #[.slice (some ⟨b, i, none⟩) (n1 - i) dc, .slice (some ⟨vb, 0, none⟩) 1 1]).run Try.prog W1 = .ok (goInt 1) (W1.setRow b zs.toArray) := fun ty dc => by
    rw [hzs]
    refine run_copy_rec W1 ty b (i) (n1 - i) dc ⟨vb, 0, none⟩ 1 1 ys.toArray 30 1 [u0] (by simp only [Nat.min_def]; split <;> omega) rfl hg1 (fun j v hj => ?_) (by simp [hyl]; omega) (fun y hy => by simp at hy; subst hy; exact h0)
    rw [Bk.addr_add, cell_of_row _ _ _ _ _ _ hvb1, Nat.zero_add]
    simpa using hj
  have HO := hid (own_setRow hg1 hNb (by unfold maxLen; omega) (show n + 1 ≤ c from hroom) zs hzl)
  have HZ := hid (show zs.take ((n + 1)) = insL xs i u0 by
    have t1 : ys.take (i) = xs.take (i) := by
      rw [hys, List.append_assoc, List.take_append_of_le_length (by rw [List.length_take, hcl]; omega), List.take_take, Nat.min_eq_left (by omega), ← ht, List.take_take, Nat.min_eq_left (by omega)]
    have t2 : (ys.drop (i1)).take ((n - i)) = xs.drop (i) := by
      rw [hys, List.append_assoc, List.drop_append, List.drop_of_length_le (by rw [List.length_take]; omega), List.nil_append, List.length_take, hcl, show i1 - min (i1) (c) = 0 by omega, List.drop_zero, List.take_append_of_le_length (by rw [hdl]; exact Nat.le_refl _), List.take_of_length_le (by rw [hdl]; exact Nat.le_refl _)]
    have hz2 : zs = xs.take (i) ++ [u0] ++ ys.drop (i1) := by rw [hzs, ← t1, ← hi1]; simp
    rw [hz2]
    unfold insL
    rw [List.take_append, List.take_of_length_le (by simp; omega)]
    congr 1
    rw [← t2]
    congr 1
    simp; omega)
  have HG := hid (show w.grownBy W1 (some b) by rw [← hW1]; exact ⟨rfl, rfl, rfl, by simp, fun k _ hk => setRow_other w.drew b k _ (fun e => hk (by rw [e]))⟩)
  have hb1 : (0 : Int) ≤ (i1 : Int) := by omega
  have hb2 : (0 : Int) ≤ (n1 : Int) := by omega
  have hb3 : (n1 : Int) ≤ (c : Int) := by omega
  have hb4 : (i1 : Int) ≤ (n1 : Int) := by omega
  have hb5 : (i : Int) ≤ (n1 : Int) := by omega
  have hb6 : (i : Int) ≤ (n : Int) := by omega
  have hc0 : ¬ (c = 0) := by omega
  have hc1 : ¬ (c = i) := by omega
  have hc2 : ¬ (c = i1) := by omega
  have hz2 : ¬ ((i : Int) = (n : Int)) := by omega
  have hz3 : ¬ ((c : Int) < (n1 : Int)) := by omega
  clear hown hys hzs hyl hzl hg1 hvb1 hg hvb ht hcs hcl hdl hi1Z hn1Z hxl h1c hcm hNb
  clear hW1
  have mixed : Try.prog.follows Departure.mixedOrders = true := by kernel_rfl
  go_enter Try.func41, Try.ntmps41
  go_wp2_with (simp only [hov])
  go_region_law_o (refine step_copy_runI rfl _ _ 31 31 rfl _ _ (by simp [Act.eval, Act.put]) (by simp [Act.eval, Act.put]) (hcp1 _ _ _) ?_)
  go_wp2_with (at_builtin; refine wpList_copy_runI _ rfl _ _ 31 31 rfl _ _ rfl rfl (hcp2 _ _) ?_)
  go_ret
  subst hn1
  exact ⟨_, rfl, by rw [← HZ.out]; exact HO.out.1, grown_trans HG.out HO.out.2, .inl rfl⟩
theorem row_parts {w : World} {N b n c : Nat} {xs : List Value} (hown : w.ownsRow N 30 1 (.slice (some ⟨b, 0, none⟩) n c) n xs) : ∃ cur : Array Value, N ≤ b ∧ w.heap[b]? = some (.cells cur 30 (0, 0)) ∧ c ≤ maxLen ∧ cur.size = c ∧ cur.toList.take (n) = xs ∧ n ≤ c := by
  rcases hown.2 with ⟨h, _⟩ | ⟨g, cap, cur, hv, hb, hh, hnc, hm, hs, ht⟩
  · cases h
  · simp only [Value.slice.injEq, Option.some.injEq, Addr.mk.injEq, and_true, true_and] at hv
    obtain ⟨rfl, rfl⟩ := hv
    exact ⟨cur, hb, hh, hm, by omega, by rw [Nat.mul_one] at ht; exact ht, hnc⟩
theorem rzero_size : (Value.int .u32 0).cells.size = 1 := rfl
theorem zeros_size (n : Nat) : (Builtin.zeroCells (Value.int .u32 0).cells n).size = n := by simp [Builtin.zeroCells, Value.cells]
set_option maxRecDepth 100000 in
set_option maxHeartbeats 4000000 in
/-- ahead of the end, where there is no room -/
theorem ins_grow (w : World) (N n i b vb : Nat) (u0 : Value) (xs : List Value) (hown : w.ownsRow N 30 1 (.slice (some ⟨b, 0, none⟩) n n) n xs) (h1c : ∀ v ∈ xs, v.oneCell' = true) (hi : i < n) (hn : n ≤ 1000)
    (hvb : w.heap[vb]? = some (.cells #[u0] 30 (0, 0))) (h0 : u0.oneCell' = true) :
    Calls Try.prog 41 #[.slice (some ⟨b, 0, none⟩) n n, .int .i64 (i : Int), .slice (some ⟨vb, 0, none⟩) 1 1] w (InsPost w N n i (.slice (some ⟨b, 0, none⟩) n n) u0 xs) := by
  have hxl : xs.length = n := by have := hown.1; omega
  obtain ⟨cur, hNb, hg, hcm, hcs, ht, _⟩ := row_parts hown
  unfold maxLen at hcm
  obtain ⟨i1, hi1⟩ : ∃ i1, i + 1 = i1 := ⟨_, rfl⟩
  obtain ⟨n1, hn1⟩ : ∃ n1, n + 1 = n1 := ⟨_, rfl⟩
  obtain ⟨d, hd⟩ : ∃ d, n1 - i = d := ⟨_, rfl⟩
  have hi1Z : (i : Int) + 1 = (i1 : Int) := by omega
  have hn1Z : (n : Int) + 1 = (n1 : Int) := by omega
  have hdZ : (n1 : Int) - (i : Int) = (d : Int) := by omega
  have hw1 : IntKind.i64.wrap ((i : Int) + 1) = (i1 : Int) := by rw [IntKind.wrap_i64]; omega
  have hw2 : IntKind.i64.wrap ((n : Int) + 1) = (n1 : Int) := by rw [IntKind.wrap_i64]; omega
  have hw3 : IntKind.i64.wrap (i1 : Int) = (i1 : Int) := by rw [IntKind.wrap_i64]; omega
  have hw4 : IntKind.i64.wrap (n1 : Int) = (n1 : Int) := by rw [IntKind.wrap_i64]; omega
  have hw5 : IntKind.i64.wrap ((n1 : Int) - (i : Int)) = (d : Int) := by rw [IntKind.wrap_i64]; omega
  have hw6 : IntKind.i64.wrap (d : Int) = (d : Int) := by rw [IntKind.wrap_i64]; omega
  obtain ⟨i0, hi0, hz0, hzs, hzb⟩ := info_parts kinfo
  have hik : i + d = n1 := by omega
  have hold : (Builtin.firstCells i0.size i (.slice (some ⟨b, 0, none⟩) i n)).run Try.prog w.drew = .ok (xs.take (i)).toArray w.drew := by
    rw [hzs]
    refine run_firstCells_some w.drew 1 i ⟨b, 0, none⟩ i n (xs.take (i)) (by rw [List.length_take]; omega) (fun j v hj => ?_)
    rw [List.getElem?_take] at hj
    split at hj
    · exact cell_slot (w := w.drew) hg ht j v (by rw [List.drop_zero]; exact hj)
    · cases hj
  have hrz : ∀ ty, (Builtin.append_ #[31, 3] ty #[.slice (some ⟨b, 0, none⟩) i n, .int .i64 (d : Int)]).run Try.prog w = _ := fun ty =>
    Lib.run_append_grow_zeros w 31 3 ty 30 i0 _ .i64 .i64 Try.underlying31 Try.underlying3 hi0 hz0 (some ⟨b, 0, none⟩) i n (xs.take (i)) hold d (by omega) (by omega) (by omega) (by omega) (by rw [hzb]; omega) (by rw [hzb, hik]; exact growslice_fits (by omega) (by omega))
  rw [hik] at hrz
  have hGn : n1 ≤ grownCap w n1 n 30 := grownCap_ge w _ _ _
  have hGm : grownCap w n1 n 30 ≤ maxLen := grownCap_le_maxLen w n1 n _ (by unfold maxLen; omega)
  unfold maxLen at hGm
  obtain ⟨G, hG⟩ : ∃ G, grownCap w n1 n 30 = G := ⟨_, rfl⟩
  rw [hG] at hrz hGn hGm
  obtain ⟨ROW, hROW⟩ : ∃ ROW : Array Value, (xs.take (i)).toArray ++ Builtin.zeroCells (Value.int .u32 0).cells d ++ Builtin.zeroCells (Value.int .u32 0).cells (G - n1) = ROW := ⟨_, rfl⟩
  rw [hROW] at hrz
  have hRs : ROW.size = G := by
    rw [← hROW, Array.size_append, Array.size_append, zeros_size, zeros_size, List.size_toArray, List.length_take, hxl]; omega
  have hRt : ROW.toList.take (i) = xs.take (i) := by
    rw [← hROW, Array.toList_append, Array.toList_append, List.append_assoc, List.take_append_of_le_length (by simp; omega), List.take_of_length_le (by simp; omega)]
  obtain ⟨g, hgs⟩ : ∃ g, w.heap.size = g := ⟨_, rfl⟩
  obtain ⟨W1, hW1⟩ : ∃ W1, w.drew.alloc (.cells ROW 30) = W1 := ⟨_, rfl⟩
  have hg1 : W1.heap[g]? = some (.cells ROW 30 (0, 0)) := by rw [← hW1, ← hgs]; exact heap_alloc_new w.drew _
  have hbl : b < w.heap.size := (Array.getElem?_eq_some_iff.1 hg).1
  have hvl : vb < w.heap.size := (Array.getElem?_eq_some_iff.1 hvb).1
  have hst1 : ∀ k, k < w.heap.size → W1.heap[k]? = w.heap[k]? := fun k hk => by rw [← hW1]; exact Below.heap_alloc w.drew _ _ hk
  rw [hgs, hW1] at hrz
  have hgr1 : w.grownBy W1 (some b) := by rw [← hW1]; exact ⟨rfl, rfl, rfl, by simp, fun k hk _ => Below.heap_alloc w.drew _ _ hk⟩
  obtain ⟨ys, hys⟩ : ∃ ys, ys = ROW.toList.take (i) ++ [u0] ++ ROW.toList.drop (i + [u0].length) := ⟨_, rfl⟩
  have hRl : ROW.toList.length = G := by simpa using hRs
  have hyl : ys.length = G := by rw [hys]; simp only [List.length_append, List.length_take, List.length_drop, List.length_cons, List.length_nil, hRl]; omega
  obtain ⟨W2, hW2⟩ : ∃ W2, W1.setRow g ys.toArray = W2 := ⟨_, rfl⟩
  have hcpA : ∀ ty dc, (Builtin.copy_ #[31, 31] ty #[.slice (some ⟨g, i, none⟩) (n1 - i) dc, .slice (some ⟨vb, 0, none⟩) 1 1]).run Try.prog W1 = .ok (goInt 1) W2 := fun ty dc => by
    rw [← hW2, hys]
    refine run_copy_rec W1 ty g (i) (n1 - i) dc ⟨vb, 0, none⟩ 1 1 ROW 30 1 [u0] (by simp only [Nat.min_def]; split <;> omega) rfl hg1 (fun j v hj => ?_) (by rw [hRs]; simp; omega) (fun y hy => by simp at hy; subst hy; exact h0)
    rw [Bk.addr_add, cell_of_row _ _ _ _ _ _ ((hst1 vb hvl).trans hvb), Nat.zero_add]
    simpa using hj
  have hg2 : W2.heap[g]? = some (.cells ys.toArray 30 (0, 0)) := by rw [← hW2]; exact setRow_heap W1 g _ _ _ _ hg1
  have hb2 : W2.heap[b]? = some (.cells cur 30 (0, 0)) := by rw [← hW2, setRow_other W1 g b _ (by omega), hst1 b hbl]; exact hg
  have hgr2 : w.grownBy W2 (some b) := by
    rw [← hW2]
    exact ⟨hgr1.os, hgr1.tape, hgr1.output, by simpa using hgr1.size, fun k hk _ => by rw [setRow_other W1 g k _ (by omega)]; exact hst1 k hk⟩
  have hdl : (xs.drop (i)).length = (n - i) := by rw [List.length_drop, hxl]
  obtain ⟨zs, hzz⟩ : ∃ zs, zs = ys.toArray.toList.take (i1) ++ xs.drop (i) ++ ys.toArray.toList.drop (i1 + (xs.drop (i)).length) := ⟨_, rfl⟩
  have hzl : zs.length = G := by rw [hzz]; simp only [List.length_append, List.length_take, List.length_drop, hyl, hxl]; omega
  have hcpB : ∀ ty dc sc, (Builtin.copy_ #[31, 31] ty #[.slice (some ⟨g, i1, none⟩) (n1 - i1) dc, .slice (some ⟨b, i, none⟩) (n - i) sc]).run Try.prog W2.drew = .ok (goInt ((n - i : Nat) : Int)) (W2.drew.setRow g zs.toArray) := fun ty dc sc => by
    rw [hzz]
    exact run_copy_rec W2.drew ty g (i1) (n1 - i1) dc ⟨b, i, none⟩ (n - i) sc ys.toArray 30 (n - i) (xs.drop (i)) (by simp only [Nat.min_def]; split <;> omega) hdl hg2 (cell_slot (w := W2.drew) hb2 ht) (by rw [hdl]; simp [hyl]; omega) (fun v hv => h1c v (List.mem_of_mem_drop hv))
  have HO := hid (own_setRow (w := W2.drew) (N := N) hg2 (by omega) (by unfold maxLen; omega) (show n + 1 ≤ G by omega) zs hzl)
  have HZ := hid (show zs.take ((n + 1)) = insL xs i u0 by
    have t1 : ys.take (i1) = xs.take (i) ++ [u0] := by
      rw [hys, hRt, List.take_append_of_le_length (by simp; omega), List.take_of_length_le (by simp; omega)]
    rw [hzz]
    unfold insL
    rw [List.toList_toArray, t1, List.take_append_of_le_length (by simp [hxl]; omega), List.take_of_length_le (by simp [hxl]; omega)])
  have HG := hid (grown_drew hgr2)
  have HG3 := hid (show (w.grownBy (W2.drew.setRow g zs.toArray) (some b)) from ⟨hgr2.os, hgr2.tape, hgr2.output, by simpa using hgr2.size, fun k hk hn => by rw [setRow_other W2.drew g k _ (by omega)]; exact hgr2.block k hk hn⟩)
  have HGS := hid hgs
  have k1 : (0 : Int) ≤ (i1 : Int) := by omega
  have k2 : (0 : Int) ≤ (n1 : Int) := by omega
  have k4 : (i1 : Int) ≤ (n1 : Int) := by omega
  have k5 : (i : Int) ≤ (n1 : Int) := by omega
  have k6 : (i : Int) ≤ (n : Int) := by omega
  have hc1 : ¬ (n = i) := by omega
  have hc2 : ¬ (G = i) := by omega
  have hc3 : ¬ (G = i1) := by omega
  have hc4 : ¬ (n = 0) := by omega
  have hz2 : ¬ ((i : Int) = (n : Int)) := by omega
  have hz3 : (n : Int) < (n1 : Int) := by omega
  clear hown hys hzz hyl hzl hg1 hg2 hb2 hg hvb ht hcs hdl hi1Z hn1Z hxl h1c hcm hNb hgr1 hgr2 hst1 hold hROW hRs hRt hRl hbl hvl hdZ hik hd hi0 hz0 hzs hzb
  clear hW1 hW2 hG hgs HG
  have mixed : Try.prog.follows Departure.mixedOrders = true := by kernel_rfl
  go_enter Try.func41, Try.ntmps41
  go_wp2_with (first
    | (at_builtin; refine Lib.wpList_append_run _ rfl _ _ _ _ rfl _ _ rfl rfl _ _ (hrz _) ?_)
    | (at_builtin; refine wpList_copy_runI _ rfl _ _ 31 31 rfl _ _ rfl rfl (hcpA _ _) ?_))
  go_region_law_o (refine step_copy_runI rfl _ _ 31 31 rfl _ _ (by simp [Act.eval, Act.put]) (by simp [Act.eval, Act.put]) (hcpB _ _ _) ?_)
  go_wp2_with fail
  go_ret
  subst hn1
  exact ⟨_, rfl, by rw [← HZ.out]; exact HO.out.1, HG3.out, .inr (by rw [HGS.out]; rfl)⟩
/-- Insert of one record into a row of the call's own -/
theorem ins_ok (w : World) (N n i vb : Nat) (v u0 : Value) (xs : List Value) (hown : w.ownsRow N 30 1 v n xs) (h1c : ∀ v ∈ xs, v.oneCell' = true) (hN : N ≤ w.heap.size) (hi : i ≤ n) (hn : n ≤ 1000) (hne : v.ownBlock ≠ some vb)
    (hvb : w.heap[vb]? = some (.cells #[u0] 30 (0, 0))) (h0 : u0.oneCell' = true) :
    Calls Try.prog 41 #[v, .int .i64 (i : Int), .slice (some ⟨vb, 0, none⟩) 1 1] w (InsPost w N n i v u0 xs) := by
  by_cases he : i = n
  · subst he
    exact ins_end w N i vb v u0 xs hown hN hn hvb h0
  · rcases hown.2 with ⟨_, h⟩ | ⟨g, cap, cur, rfl, hb, hh, hnc, hm, hs, ht⟩
    · omega
    · by_cases hr : n + 1 ≤ cap
      · exact ins_shift w N n i cap g vb u0 xs hown h1c (by omega) hr hn (fun e => hne (by rw [e]; rfl)) hvb h0
      · obtain rfl : n = cap := by omega
        exact ins_grow w N n i g vb u0 xs hown h1c (by omega) hn hvb h0
/-- what Delete leaves -/
def DelPost (w : World) (N n i : Nat) (v : Value) (xs : List Value) (e : Ending) (w' : World) : Prop :=
  ∃ v', e = .returned v' ∧ w'.ownsRow N 30 1 v' (n - 1) (delL xs i) ∧ w.grownBy w' v.ownBlock ∧ v'.ownBlock = v.ownBlock
/-- a record that is none, in its cells -/
def zr2 : List Value := [.int .u32 0]
theorem run_clear_rec (w : World) (ty : TypeId) (g o c : Nat) (cur : Array Value) (t : TypeId) (hg : w.heap[g]? = some (.cells cur t (0, 0))) (hfit : o + 1 ≤ cur.size) :
    (Builtin.clear_ #[31] ty #[.slice (some ⟨g, o, none⟩) 1 c]).run Try.prog w = .ok (.tuple #[]) (w.setRow g (cur.toList.take o ++ zr2 ++ cur.toList.drop (o + 1)).toArray) := by
  have hv : (zeroValue 30).run Try.prog w = .ok (.int .u32 0) w := by kernel_rfl
  have hzc : (Builtin.zeroCells (Value.int .u32 0).cells 1).toList = zr2 := by
    simp [Builtin.zeroCells, Value.cells]; rfl
  have hst := run_storeCells_at Try.prog g o t zr2 0 cur w hg (by rw [Nat.add_zero]; exact hfit) (by intro y hy; simp [zr2] at hy; subst hy; rfl)
  rw [Nat.add_zero, show zr2.length = 1 from rfl] at hst
  simp [Builtin.clear_, run_underlying Try.underlying31, hv, hzc, hst]
set_option maxRecDepth 100000 in
set_option maxHeartbeats 4000000 in
/-- Delete of one record out of a row of the call's own -/
theorem del_ok (w : World) (N n i j : Nat) (v : Value) (xs : List Value) (hown : w.ownsRow N 30 1 v n xs) (h1c : ∀ v ∈ xs, v.oneCell' = true) (hj : j = i + 1) (hi : i < n) (hn : n ≤ 1000) :
    Calls Try.prog 43 #[v, .int .i64 (i : Int), .int .i64 (j : Int)] w (DelPost w N n i v xs) := by
  obtain ⟨b, c, rfl⟩ : ∃ b c, v = .slice (some ⟨b, 0, none⟩) n c := by
    rcases hown.2 with ⟨_, h⟩ | ⟨g, cap, cur, rfl, _⟩
    · omega
    · exact ⟨g, cap, rfl⟩
  have hxl : xs.length = n := by have := hown.1; omega
  obtain ⟨cur, hNb, hg, hcm, hcs, ht, hnc⟩ := row_parts hown
  obtain ⟨i0, hi0, hz0, hzs, hzb⟩ := info_parts kinfo
  have hfr : w.ownsRow N 30 1 (.slice (some ⟨b, 0, none⟩) i c) i (xs.take (i)) :=
    ⟨by rw [List.length_take, hxl]; omega, .inr ⟨b, c, cur, rfl, hNb, hg, by omega, hcm, by omega, by rw [Nat.mul_one, ← ht, List.take_take, Nat.min_eq_left (by omega)]⟩⟩
  have hdl : (xs.drop (j)).length = (n - j) := by rw [List.length_drop, hxl]
  obtain ⟨P1, hP1, hsl⟩ := slice_backD (some ⟨b, 0, none⟩) n c j (by omega) hnc
  have hrun : ∀ ty, ∃ w', (Builtin.append_ #[31, 31] ty #[.slice (some ⟨b, 0, none⟩) i c, .slice P1 (n - j) (c - j)]).run Try.prog w.drew = .ok (.slice (some ⟨b, 0, none⟩) (n - 1) c) w' ∧ (w'.ownsRow N 30 1 (.slice (some ⟨b, 0, none⟩) (n - 1) c) (n - 1) (delL xs i) ∧ w.grownBy w' (some b)) := fun ty => by
    have hx : delL xs i = xs.take (i) ++ xs.drop (j) := by unfold delL; rw [hj]
    by_cases hz : n = j
    · have hd0 : xs.drop (j) = [] := List.drop_eq_nil_of_le (by rw [hxl, hz]; exact Nat.le_refl _)
      refine ⟨w.drew, ?_, ?_, grown_drew (grown_refl w _)⟩
      · rw [show n - j = 0 by omega, show n - 1 = i by omega]
        have hic : i ≤ c := by omega
        cases P1 <;> simp [Builtin.append_, run_underlying Try.underlying31, sizeOf, typeInfo, hi0, Builtin.lenOf, Builtin.firstCells, hic, storeCells, loadCells, loadCellsFrom]
      · rw [hx, hd0, List.append_nil, show n - 1 = i by omega]; exact hfr
    · obtain ⟨e⟩ : Nonempty (P1 = some ⟨b, j, none⟩) := ⟨by rcases hP1 with h | h; rw [h]; simp only [Option.map_some, Bk.addr_add, Nat.zero_add]; omega⟩
      subst e
      obtain ⟨w', h1, h2, h3⟩ := run_append_own_spare (P := Try.prog) (w := w.drew) N 31 ty 30 i0 1 Try.underlying31 hi0 hzs b i c (xs.take (i)) hfr ⟨b, j, none⟩ (n - j) (c - j) (xs.drop (j)) (by rw [hdl]; omega) (cell_slot (w := w.drew) hg ht) (fun v hv => h1c v (List.mem_of_mem_drop hv)) (by omega)
      rw [show i + (n - j) = n - 1 by omega] at h1 h2
      exact ⟨w', h1, by rw [hx]; exact h2, ⟨h3.os, h3.tape, h3.output, h3.size, h3.block⟩⟩
  have HR := hid hrun
  obtain ⟨n1, hn1⟩ : ∃ n1, n - 1 = n1 := ⟨_, rfl⟩
  simp only [hn1] at HR
  have hq1 : (0 : Int) ≤ (j : Int) := by omega
  have hq2 : (i : Int) ≤ (j : Int) := by omega
  have hq3 : (j : Int) ≤ (n : Int) := by omega
  have hq4 : (n : Int) ≤ (c : Int) := by omega
  have hq5 : (i : Int) ≤ (c : Int) := by omega
  have hq6 : (n1 : Int) ≤ (n : Int) := by omega
  have hq8 : (n1 : Int) ≤ (c : Int) := by omega
  have hq7 : ¬ ((i : Int) = (j : Int)) := by omega
  have hc1 : ¬ (c = n1) := by omega
  have hc2 : ¬ (c = 0) := by omega
  have hn2 : n - n1 = 1 := by omega
  have HN := hid (And.intro hn1 (And.intro hi (And.intro hcm hnc)))
  clear hown h1c hxl hg hcs ht hfr hdl hP1 hrun hNb hcm hi0 hz0 hzs hzb hn1 hj
  go_enter Try.func43, Try.ntmps43
  go_wp2_with fail
  go_region_law (refine step_app (by rfl) _ _ _ (by rfl) (by rfl) (by rfl) (F := fun v' w' => v' = .slice (some ⟨b, 0, none⟩) n1 c ∧ w'.ownsRow N 30 1 (.slice (some ⟨b, 0, none⟩) n1 c) n1 (delL xs i) ∧ w.grownBy w' (some b)) (by obtain ⟨w', h1, h2, h3⟩ := HR.out _; exact ⟨_, w', h1, rfl, h2, h3⟩) ?_; rintro v' w4 ⟨rfl, ho, hgr⟩; have HO := hid ho; have HG := hid hgr; clear ho hgr)
  all_goals
    have hpo := row_parts HO.out
    obtain ⟨cur2, hNb2, hg2, hcm2, hcs2, ht2, hnc2⟩ := hpo
    have hcl : ∀ ty c', (Builtin.clear_ #[31] ty #[.slice (some ⟨b, n1, none⟩) 1 c']).run Try.prog w4 = _ := fun ty c' => run_clear_rec w4 ty b (n1) c' cur2 30 hg2 (by omega)
    have HF := hid (own_setRow (w := w4) (N := N) hg2 hNb2 hcm2 hnc2 (cur2.toList.take (n1) ++ zr2 ++ cur2.toList.drop (n1 + 1)) (by
      have : cur2.toList.length = c := by simpa using hcs2
      simp only [List.length_append, List.length_take, List.length_drop, this, show zr2.length = 1 from rfl]; omega))
    have HT := hid (show (cur2.toList.take (n1) ++ zr2 ++ cur2.toList.drop (n1 + 1)).take (n1) = delL xs i by
      have : cur2.toList.length = c := by simpa using hcs2
      rw [List.append_assoc, List.take_append_of_le_length (by rw [List.length_take, this]; omega), List.take_take, Nat.min_self, ht2])
    obtain ⟨W5, hW5⟩ : ∃ W5, w4.setRow b (cur2.toList.take (n1) ++ zr2 ++ cur2.toList.drop (n1 + 1)).toArray = W5 := ⟨_, rfl⟩
    rw [hW5] at HF
    simp only [hW5] at hcl
    clear hg2 hcm2 hcs2 ht2 hNb2 hnc2 hW5
    go_wp2_with fail
    go_ret
    refine ⟨_, rfl, ?_, grown_trans HG.out HF.out.2, rfl⟩
    rw [HN.out.1, ← HT.out]; exact HF.out.1
end Go.Proofs.Ytmhjoeegghnlhaa.Sc
