/- maps.Keys and slices.Sorted at region's map: the keys, sorted. -/
import Derived.Test.YtnmhdlincgefeaaRgLay
import Derived.Test.YtnmhdlincgefeaaRgMath
import Derived.Lib.SlKeysI
import Derived.Maps.OwnRows
import Derived.ControlIn
namespace Go.Proofs.Ytnmhdlincgefeaa.Rg
open Go.RowKit Go.Maps Go.Sort Go.Shelf Go.ChangeShapes Go.ChangeMaps

/-- a permutation of them sorts to them -/
theorem numL_sort (C ss : List Int) (h : ss.Perm (numL C)) : ss.mergeSort (fun x y => decide (x ≤ y)) = numL C := by
  rw [Go.mergeSort_of_perm_i h]
  exact List.mergeSort_of_pairwise ((numL_rise C).imp (fun h => decide_eq_true (by omega)))
/-- slices.Sort's two contracts -/
theorem sorts_in (m : Nat) : AnyZI.SortsIn Try.prog Try.sortedA_ren Fence.wide m :=
  ⟨fun blk off cap ss W hH hblk hsz => callsIn_wide.2 (AnyM.slices_Sort_int Try.sortA blk off cap ss W hH hblk hsz),
   fun p cap W => callsIn_wide.2 (AnyM.slices_Sort_int_none Try.sortA p cap W)⟩
theorem keys_ok (mb : Option Nat) (W : World) : Calls Try.prog 28 #[.map mb] W fun e w' =>
    e = .returned (.func (.func 45) #[] #[.pointer (some ⟨W.heap.size, 0, none⟩)]) ∧ w' = W.alloc (.cells #[.map mb] 65) :=
  (callsIn_wide (n := 6)).1 (AnyZI.keys_in Try.keysA Fence.wide 6 trivial rfl mb W)
set_option maxHeartbeats 1000000 in
theorem sorted_ok {H : Type} (b nn : Nat) (D0 : DataW H) (R : Value → Option (DataW H × List MemPlace)) (w : World) (hown : w.ownsMap Try.prog 3 R b nn D0) (hmax : Maps.size D0 ≤ maxLen) (hbytes : Maps.size D0 * 8 ≤ 140737488355328) :
    Calls Try.prog 27 #[.func (.func 45) #[] #[.pointer (some ⟨w.heap.size, 0, none⟩)]] (w.alloc (.cells #[.map (some b)] 65)) fun e w' => ∃ (v : Value) (ss : List Int), e = .returned v ∧ ss.Perm (intKeys D0) ∧
      w'.ownsRow (w.heap.size + 1) 3 1 v ss.length ((ss.mergeSort (fun x y => decide (x ≤ y))).map encZ) ∧ (v = .slice none 0 0 ↔ ss = []) ∧ Below (w.heap.size + 1) (w.alloc (.cells #[.map (some b)] 65)) w' := by
  have hbl := hown.lt
  have hseq : SeqGives Fence.wide 3 Try.prog 45 #[.pointer (some ⟨w.heap.size, 0, none⟩)] encZ (fun ss => ss.Perm (intKeys D0)) (Maps.size D0) (w.alloc (.cells #[.map (some b)] 65)) :=
    AnyZI.keys_gives (ρ := Try.keysA_ren) { Try.keysA with } Fence.wide _ trivial rfl (by omega) w.heap.size b nn D0 _ (by simp) (by simp) (by
      obtain ⟨es, clock, hb, Ft, hs, hD⟩ := hown
      exact ⟨es, clock, (Below.heap_alloc _ _ b hbl).trans hb, Ft, hs, hD⟩)
  have cS := AnyZI.sorted_in Try.sortedA Fence.wide 6 trivial trivial trivial trivial rfl (by omega) (sorts_in _) (enters_of Try.func44 (by kernel_rfl) rfl) 45 #[.pointer (some ⟨w.heap.size, 0, none⟩)] trivial (enters_of Try.func45 (by kernel_rfl) rfl) _ _ hmax hbytes _ hseq
  change CallsIn _ _ Try.prog 27 _ _ _ at cS
  have e1 : (w.alloc (.cells #[.map (some b)] 65)).heap.size = w.heap.size + 1 := by simp
  rw [e1] at cS
  exact callsIn_wide.1 cS
/-- a map of slices is a map -/
theorem groups_map {H : Type} {w : World} {P : Program} {k : TypeId} {base : Nat} {e : TypeId} {q : IntKind} {b n : Nat} {D : DataW H} (h : w.ownsGroups P k base e q b n D) : w.ownsMap P k (rowElem w base e q) b n D := by
  obtain ⟨es, clock, hb, F, hs, hD, _⟩ := h
  exact ⟨es, clock, hb, F, hs, hD⟩
/-- what the map reads as when k rounds are over -/
def grp {H : Type} (C : List Int) : Nat → DataW H
  | 0 => .map []
  | k + 1 => (grp C k).put (.int .i64 (C.getD k 0)) (.slice (lits .i64 ((plc C (k + 1) (C.getD k 0)).map fun (p : Nat) => (p : Int))) [])
theorem grp_map {H : Type} (C : List Int) (k : Nat) : IsMap (grp (H := H) C k) := by
  cases k with
  | zero => exact ⟨[], rfl⟩
  | succ k =>
    have := grp_map (H := H) C k
    exact this.put _ _
theorem grp_at {H : Type} (C : List Int) (k : Nat) (x : Int) : (grp (H := H) C k).atKey (.int .i64 x) .nil = if plc C k x = [] then .nil else .slice (lits .i64 ((plc C k x).map fun (p : Nat) => (p : Int))) [] := by
  induction k with
  | zero => simp [grp, plc_zero]; rfl
  | succ k ih =>
    unfold grp
    by_cases h : C.getD k 0 = x
    · rw [← h, atKey_put_same (grp_map C k) (k := .int .i64 _) True.intro, if_neg]
      rw [plc_yes _ _ _ rfl]; simp
    · rw [atKey_put_other (fun e => h (by cases e; rfl)), ih, plc_no _ _ _ h]
theorem grp_has {H : Type} (C : List Int) (k : Nat) (hk : k ≤ C.length) (x : Int) : has (grp (H := H) C k) (.int .i64 x) = true ↔ x ∈ C.take k := by
  induction k with
  | zero => simp [grp, has]
  | succ k ih =>
    have hk' : k < C.length := by omega
    have e : C.take (k + 1) = C.take k ++ [C[k]] := List.take_succ_eq_append_getElem hk'
    have g : C.getD k 0 = C[k] := by rw [List.getD_eq_getElem?_getD, List.getElem?_eq_getElem hk']; rfl
    unfold grp
    rw [e, List.mem_append, List.mem_singleton, g]
    by_cases h : x = C[k]
    · subst h
      rw [has_put_same (grp_map C k) (k := .int .i64 _) True.intro]; simp
    · rw [has_put_other (fun e => h (by cases e; rfl)), ih (by omega)]; simp [h]
theorem lits_inj {H : Type} {q : IntKind} {a b : List Int} (h : lits (H := H) q a = lits q b) : a = b := by
  unfold lits at h
  exact (List.map_inj_right (fun x y hxy => by cases hxy; rfl)).1 h
/-- what the slice at a key holds: the places at which that stands -/
theorem grp_zs {H : Type} {w : World} {base : Nat} {e : TypeId} {C : List Int} {k : Nat} {x : Int} {v : Value} {zs : List Int} (hat : (grp (H := H) C k).atKey (.int .i64 x) .nil = rowDatum .i64 v zs) (ho : w.ownsInts base e .i64 v zs) : zs = (plc C k x).map fun (p : Nat) => (p : Int) := by
  rw [grp_at] at hat
  rcases ho.datum (H := H) with ⟨h1, h2⟩ | h1
  · rw [h1] at hat
    by_cases hp : plc C k x = []
    · rw [hp, h2]; rfl
    · rw [if_neg hp] at hat; cases hat
  · rw [h1] at hat
    by_cases hp : plc C k x = []
    · rw [if_pos hp] at hat; cases hat
    · rw [if_neg hp] at hat
      injection hat with h3
      exact (lits_inj h3).symm
/-- behind a round -/
theorem grp_step {H : Type} {w w1 : World} {base : Nat} {e : TypeId} {C : List Int} {k : Nat} {v v' : Value} {zs : List Int} (hat : (grp (H := H) C k).atKey (.int .i64 (C.getD k 0)) .nil = rowDatum .i64 v zs) (ho : w.ownsInts base e .i64 v zs) (ho' : w1.ownsInts base e .i64 v' (zs ++ [(k : Int)])) :
    (grp (H := H) C k).put (.int .i64 (C.getD k 0)) (rowDatum .i64 v' (zs ++ [(k : Int)])) = grp C (k + 1) := by
  rw [ho'.datum_pos (by simp), grp_zs hat ho]
  show _ = (grp C k).put _ _
  rw [plc_yes _ _ _ rfl, List.map_append]
  rfl
/-- the keys, sorted -/
theorem grp_keys {H : Type} {w : World} {P : Program} {t : TypeId} {R : Value → Option (DataW H × List MemPlace)} {b n : Nat} {C : List Int} (hown : w.ownsMap P t R b n (grp C C.length)) (K : Keyed P t) (ht : P.underlying t = some (.int .i64)) : (numL C).Perm (intKeys (grp (H := H) C C.length)) := by
  refine CollectedI.perm (left := fun _ => false) ⟨numL_nodup C, fun x => ?_⟩ hown K ht (fun _ => rfl)
  rw [grp_has C C.length (Nat.le_refl _), List.take_length, numL_mem]
  simp
theorem grp_size {H : Type} (C : List Int) (k : Nat) : Maps.size (grp (H := H) C k) ≤ k := by
  have : ∀ k, Tidy (grp (H := H) C k) ∧ Maps.size (grp (H := H) C k) ≤ k := by
    intro k
    induction k with
    | zero => exact ⟨tidy_empty, Nat.le_refl _⟩
    | succ k ih =>
      refine ⟨ih.1.put (k := .int .i64 (C.getD k 0)) True.intro _, ?_⟩
      unfold grp
      rw [size_put ih.1]
      split <;> omega
  exact (this k).2
end Go.Proofs.Ytnmhdlincgefeaa.Rg
