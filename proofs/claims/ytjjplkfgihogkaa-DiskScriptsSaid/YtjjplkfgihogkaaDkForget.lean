/- forget and Waits of disk. -/
import Derived.Test.YtjjplkfgihogkaaDkSmall
import Derived.Lib.SliceRun
namespace Go.Proofs.Ytjjplkfgihogkaa.Dk
open Go.RowKit
open Go.Lib (hid)

/-- so many writes of nothing, as cells -/
def zw (n : Nat) : List Value := (List.replicate n [Value.int .i64 0, Value.string ⟨#[]⟩]).flatten
theorem zw_length (n : Nat) : (zw n).length = n * 2 := by
  induction n with
  | zero => rfl
  | succ n ih => simp only [zw, List.replicate_succ, List.flatten_cons, List.length_append, List.length_cons, List.length_nil] at ih ⊢; omega

theorem zw_at (n i : Nat) : (zw n)[i]? = if i < n * 2 then some (if i % 2 = 0 then Value.int .i64 0 else Value.string ⟨#[]⟩) else none := by
  induction n generalizing i with
  | zero => simp [zw]
  | succ n ih =>
    have e : zw (n + 1) = Value.int .i64 0 :: Value.string ⟨#[]⟩ :: zw n := by simp [zw, List.replicate_succ]
    rw [e]
    match i with
    | 0 => simp
    | 1 => simp; omega
    | i + 2 =>
      rw [List.getElem?_cons_succ, List.getElem?_cons_succ, ih]
      have h1 : (i + 2) % 2 = i % 2 := by omega
      rw [h1]
      by_cases h : i < n * 2
      · have h2 : i + 2 < (n + 1) * 2 := by omega
        simp only [h, h2, if_true]
      · have h2 : ¬ i + 2 < (n + 1) * 2 := by omega
        simp only [h, h2, if_false]
theorem zero_cells (n : Nat) : (Builtin.zeroCells #[Value.int .i64 0, Value.string ⟨#[]⟩] n).toList = zw n := by
  apply List.ext_getElem?
  intro i
  rw [zw_at]
  unfold Builtin.zeroCells
  by_cases h : i < n * 2
  · rw [if_pos h]
    rcases Nat.mod_two_eq_zero_or_one i with h0 | h0
    · simp [h, h0]
    · simp [h, h0]
  · rw [if_neg h]
    simp; omega
theorem zero68 (w : World) : (zeroValue 63).run Try.prog w = .ok (.agg #[.int .i64 0, .string ⟨#[]⟩]) w := by
  have h : (Try.prog.info? 63).map (fun i => (i.zero, i.size)) = some (some (.agg #[.int .i64 0, .string ⟨#[]⟩]), 2) := by kernel_rfl
  exact (zero_of_info (P := Try.prog) h).1 w
/-- 'clear' of a slice of writes -/
theorem run_clear (w : World) (ty : TypeId) (g n c : Nat) (cur : Array Value) (hn : 0 < n) (hg : w.heap[g]? = some (.cells cur 63 (0, 0))) (hs : n * 2 ≤ cur.size) :
    (Builtin.clear_ #[56] ty #[.slice (some ⟨g, 0, none⟩) n c]).run Try.prog w = .ok (.tuple #[]) (w.setCells g 0 (zw n)) := by
  have hc : ∀ j, j < (zw n).length → (w.cell? ⟨g, 0 + 0 + j, none⟩).isSome = true := fun j hj => by
    rw [zw_length] at hj
    rw [cell_of_row _ _ _ _ _ _ hg]; simp; omega
  have hf : ∀ j, j < (zw n).length → w.frozen? ⟨g, 0 + 0 + j, none⟩ = false := fun j _ => frozen_of_row _ _ _ _ _ hg
  have h1 : ∀ v ∈ zw n, v.oneCell' = true := fun v hv => by
    simp only [zw, List.mem_flatten, List.mem_replicate] at hv
    obtain ⟨l, ⟨_, rfl⟩, hv⟩ := hv
    simp at hv
    rcases hv with rfl | rfl <;> rfl
  have hst := run_storeCells_cells (P := Try.prog) g 0 (zw n) 0 w hc hf h1
  simp only [Nat.add_zero] at hst
  obtain ⟨m, rfl⟩ : ∃ m, n = m + 1 := ⟨n - 1, by omega⟩
  have hzc := zero_cells (m + 1)
  simp [Builtin.clear_, run_underlying Try.underlying56, Value.cells, hzc, hst]

theorem run_clear0 (w : World) (ty : TypeId) (a : Option Addr) (c : Nat) :
    (Builtin.clear_ #[56] ty #[.slice a 0 c]).run Try.prog w = .ok (.tuple #[]) w := by
  cases a <;> simp [Builtin.clear_, run_underlying Try.underlying56]

theorem setCells_row (g : Nat) (e : TypeId) : ∀ (vs : List Value) (o : Nat) (w : World) (cur : Array Value), w.heap[g]? = some (.cells cur e (0, 0)) →
    (∃ cur', (w.setCells g o vs).heap[g]? = some (.cells cur' e (0, 0)) ∧ cur'.size = cur.size) ∧ (∀ k, k ≠ g → (w.setCells g o vs).heap[k]? = w.heap[k]?) ∧ (w.setCells g o vs).heap.size = w.heap.size ∧
      (w.setCells g o vs).os = w.os ∧ (w.setCells g o vs).tape = w.tape ∧ (w.setCells g o vs).output = w.output
  | [], o, w, cur, h => ⟨⟨cur, h, rfl⟩, fun _ _ => rfl, rfl, rfl, rfl, rfl⟩
  | v :: vs, o, w, cur, h => by
    have h1 : (w.setCell ⟨g, o, none⟩ v).heap[g]? = some (.cells (cur.setIfInBounds o v) e (0, 0)) := heap_setCell_same _ _ _ _ _ _ h
    obtain ⟨⟨c2, h2, h3⟩, h4, h5, h6, h7, h8⟩ := setCells_row g e vs (o + 1) (w.setCell ⟨g, o, none⟩ v) _ h1
    refine ⟨⟨c2, h2, by rw [h3]; simp⟩, fun k hk => ?_, ?_, h6, h7, h8⟩
    · show ((w.setCell ⟨g, o, none⟩ v).setCells g (o + 1) vs).heap[k]? = _
      rw [h4 k hk, heap_setCell_other _ _ _ _ hk]
    · show ((w.setCell ⟨g, o, none⟩ v).setCells g (o + 1) vs).heap.size = _
      rw [h5, World.size_setCell]

/-- behind the clearing of a row of its own, and the cut of its slice -/
theorem Dsk.cleared {w : World} {d : Ptrs} {s : St} (h : Dsk w d s) {g cap : Nat} {cur : Array Value} (hv : d.wv = .slice (some ⟨g, 0, none⟩) s.waits.length cap)
    (hg : w.heap[g]? = some (.cells cur 63 (0, 0))) (hcap : cap ≤ maxLen) (hsz : cur.size = cap * 2) :
    Dsk ((w.setCells g 0 (zw s.waits.length)).setCell ⟨d.D, 1, none⟩ (.slice (some ⟨g, 0, none⟩) 0 cap)) { d with wv := .slice (some ⟨g, 0, none⟩) 0 cap } (noWaits s) ∧
    Only d w ((w.setCells g 0 (zw s.waits.length)).setCell ⟨d.D, 1, none⟩ (.slice (some ⟨g, 0, none⟩) 0 cap)) ∧ From d { d with wv := .slice (some ⟨g, 0, none⟩) 0 cap } w := by
  have hgD : g ≠ d.D := fun e => h.dw (by rw [hv, e]; rfl)
  have hgP : g ≠ d.P := fun e => h.pw (by rw [hv, e]; rfl)
  obtain ⟨⟨c2, h2, h3⟩, h4, h5, h6, h7, h8⟩ := setCells_row g 63 (zw s.waits.length) 0 w cur hg
  refine ⟨⟨?_, ?_, ?_, h.dp, ?_, ?_, noWaits_good h.good⟩, ⟨h6, h7, h8, by rw [World.size_setCell, h5]; exact Nat.le_refl _, fun k hk hn => ?_⟩, ?_⟩
  · rw [heap_setCell_same _ _ _ _ _ _ (by rw [h4 _ (Ne.symm hgD)]; exact h.head)]; rfl
  · show ∃ cur, ((w.setCells _ _ _).setCell _ _).heap[d.P]? = _ ∧ _
    rw [heap_setCell_other _ _ _ _ (Ne.symm h.dp), h4 _ (Ne.symm hgP)]; exact h.pages
  · refine ⟨rfl, .inr ⟨g, cap, c2, rfl, Nat.zero_le _, ?_, Nat.zero_le _, hcap, by rw [h3, hsz], by simp [noWaits, wcells]⟩⟩
    rw [heap_setCell_other _ _ _ _ hgD]; exact h2
  · show some g ≠ some d.D
    intro e; exact hgD (by injection e)
  · show some g ≠ some d.P
    intro e; exact hgP (by injection e)
  · have hkg : k ≠ g := fun e => hn (.inr (.inr (by rw [hv, e]; rfl)))
    rw [heap_setCell_other _ _ _ _ (fun e => hn (.inl e)), h4 k hkg]
  · rintro k (rfl | rfl | hk)
    · exact .inl (.inl rfl)
    · exact .inl (.inr (.inl rfl))
    · exact .inl (.inr (.inr (by rw [hv]; exact hk)))
theorem From.self (d : Ptrs) (w : World) : From d { d with wv := d.wv } w := fun _ h => .inl h
set_option maxHeartbeats 400000 in
theorem forget_none (d : Ptrs) (s : St) (w : World) (h : Dsk w d s) (hn : s.waits = []) :
    Calls Try.prog 34 #[.pointer (some ⟨d.D, 0, none⟩)] w fun e w' => e = .returned (.int .i64 0) ∧ ∃ v, Dsk w' { d with wv := v } (noWaits s) ∧ Only d w w' ∧ From d { d with wv := v } w := by
  have hc := fun ty a c w => run_clear0 w ty a c
  have hown := h.waits
  rw [hn] at hown
  have hd : Dsk (w.setCell ⟨d.D, 1, none⟩ d.wv) d (noWaits s) := h.store 1 d.wv (noWaits s) rfl hn.symm (noWaits_good h.good) rfl
  have hon : Only d w (w.setCell ⟨d.D, 1, none⟩ d.wv) := (Only.refl d w).store 1 d.wv
  rcases hown.2 with ⟨hv, _⟩ | ⟨g, cap, cur, hv, _, hg, _, hcap, hsz, _⟩
  · have c := h.cells
    rw [hv] at c hd hon
    have f := h.free 1
    have HS := hid (And.intro hd hon); clear h hown hd hon hv
    go_enter Try.func34, Try.ntmps34
    go_wp2_with fail
    go_ret
    exact ⟨rfl, d.wv, HS.out.1, HS.out.2, From.self d w⟩
  · have hv' : d.wv = .slice (some ⟨g, 0, none⟩) 0 cap := hv
    have c := h.cells
    rw [hv'] at c hd hon
    have f := h.free 1
    have HS := hid (And.intro hd hon); clear h hown hd hon hv hv'
    go_enter Try.func34, Try.ntmps34
    go_wp2_with fail
    go_ret
    exact ⟨rfl, d.wv, HS.out.1, HS.out.2, From.self d w⟩
set_option maxHeartbeats 400000 in
theorem forget_some (d : Ptrs) (s : St) (w : World) (h : Dsk w d s) (hn : 0 < s.waits.length) :
    Calls Try.prog 34 #[.pointer (some ⟨d.D, 0, none⟩)] w fun e w' => e = .returned (.int .i64 (s.waits.length : Int)) ∧ ∃ v, Dsk w' { d with wv := v } (noWaits s) ∧ Only d w w' ∧ From d { d with wv := v } w := by
  rcases h.waits.2 with ⟨_, h0⟩ | ⟨g, cap, cur, hv, _, hg, hle, hcap, hsz, _⟩
  · omega
  · have hc := fun ty => run_clear w ty g s.waits.length cap cur hn hg (by rw [hsz]; omega)
    have hcl := h.cleared hv hg hcap hsz
    have hgD : g ≠ d.D := fun e => h.dw (by rw [hv, e]; rfl)
    obtain ⟨_, h4, _, _, _, _⟩ := setCells_row g 63 (zw s.waits.length) 0 w cur hg
    have c := h.cells
    rw [hv] at c
    have c2 : (w.setCells g 0 (zw s.waits.length)).cell? ⟨d.D, 1, none⟩ = some (.slice (some ⟨g, 0, none⟩) s.waits.length cap) := by
      unfold World.cell?; rw [h4 _ (Ne.symm hgD)]; exact c.2.1
    have f := h.free 1
    have f2 : (w.setCells g 0 (zw s.waits.length)).frozen? ⟨d.D, 1, none⟩ = false := by
      unfold World.frozen?; rw [h4 _ (Ne.symm hgD)]; exact f
    have hm : s.waits.length ≤ maxLen := Nat.le_trans hle hcap
    have HS := hid hcl; clear hcl h h4 hg hsz hgD hv
    go_enter Try.func34, Try.ntmps34
    go_wp2_with fail
    go_ret
    exact ⟨rfl, _, HS.out⟩
end Go.Proofs.Ytjjplkfgihogkaa.Dk
