/- Cells of a slab and their places, in plain numbers. -/
namespace Go.Proofs.Ytnmhdlincgefeaa.Sl
/-- how many cells there are of such sizes -/
def prodL : List Nat → Nat
  | [] => 1
  | s :: t => s * prodL t
/-- the cell of a place -/
def cellL : List Nat → Nat → List Nat
  | [], _ => []
  | s :: t, n => (n / prodL t) % s :: cellL t n
/-- how many cells are ahead of one -/
def placeA : Nat → List Nat → List Nat → Nat
  | a, s :: t, c :: d => placeA (a * s + c) t d
  | a, _, _ => a
def placeL (S c : List Nat) : Nat := placeA 0 S c
/-- is it a cell of such sizes? -/
def okC : List Nat → List Nat → Bool
  | [], [] => true
  | s :: t, c :: d => decide (c < s) && okC t d
  | _, _ => false
theorem prodL_append (A B : List Nat) : prodL (A ++ B) = prodL A * prodL B := by
  induction A with
  | nil => simp [prodL]
  | cons a A ih => simp only [List.cons_append, prodL, ih, Nat.mul_assoc]
theorem prodL_pos (S : List Nat) (h : ∀ s ∈ S, 0 < s) : 0 < prodL S := by
  induction S with
  | nil => simp [prodL]
  | cons s t ih => exact Nat.mul_pos (h s (by simp)) (ih fun x hx => h x (by simp [hx]))
theorem cellL_length (S : List Nat) (n : Nat) : (cellL S n).length = S.length := by
  induction S with
  | nil => rfl
  | cons s t ih => simp [cellL, ih]
theorem cellL_append (A B : List Nat) (n : Nat) : cellL (A ++ B) n = cellL A (n / prodL B) ++ cellL B n := by
  induction A with
  | nil => rfl
  | cons a A ih => simp only [List.cons_append, cellL, ih, prodL_append, Nat.div_div_eq_div_mul, Nat.mul_comm (prodL B)]
theorem placeA_append (a : Nat) (A B c d : List Nat) (h : A.length = c.length) : placeA a (A ++ B) (c ++ d) = placeA (placeA a A c) B d := by
  induction A generalizing a c with
  | nil => cases c with
    | nil => rfl
    | cons x y => cases h
  | cons s t ih => cases c with
    | nil => cases h
    | cons x y => simp only [List.cons_append, placeA]; exact ih _ _ (by simpa using h)
theorem placeA_eq (a : Nat) (S c : List Nat) (h : S.length = c.length) : placeA a S c = a * prodL S + placeL S c := by
  unfold placeL
  induction S generalizing a c with
  | nil => cases c with
    | nil => simp [placeA, prodL]
    | cons x y => cases h
  | cons s t ih => cases c with
    | nil => cases h
    | cons x y =>
      simp only [placeA, prodL]
      rw [ih _ _ (by simpa using h), ih (0 * s + x) _ (by simpa using h)]
      simp only [Nat.zero_mul, Nat.zero_add, Nat.add_mul, Nat.mul_assoc, Nat.add_assoc]
theorem placeL_cons (s c : Nat) (t d : List Nat) (h : t.length = d.length) : placeL (s :: t) (c :: d) = c * prodL t + placeL t d := by
  have := placeA_eq c t d h
  show placeA (0 * s + c) t d = _
  rw [Nat.zero_mul, Nat.zero_add, this]
theorem placeL_append (A B c d : List Nat) (h : A.length = c.length) (h2 : B.length = d.length) : placeL (A ++ B) (c ++ d) = placeL A c * prodL B + placeL B d := by
  unfold placeL
  rw [placeA_append 0 A B c d h, placeA_eq _ B d h2]
  rfl
theorem placeL_cell (S : List Nat) (n : Nat) : placeL S (cellL S n) = n % prodL S := by
  induction S with
  | nil => simp [placeL, placeA, prodL, Nat.mod_one]
  | cons s t ih =>
    unfold cellL
    rw [placeL_cons _ _ _ _ (cellL_length t n).symm, ih]
    show _ = n % (s * prodL t)
    rw [Nat.mul_comm s, Nat.mod_mul, Nat.mul_comm (prodL t), Nat.add_comm]
theorem okC_length (S c : List Nat) (h : okC S c = true) : S.length = c.length := by
  induction S generalizing c with
  | nil => cases c with
    | nil => rfl
    | cons x y => cases h
  | cons s t ih => cases c with
    | nil => cases h
    | cons x y => simp only [okC, Bool.and_eq_true] at h; simp [ih y h.2]
theorem placeL_lt (S c : List Nat) (h : okC S c = true) : placeL S c < prodL S := by
  induction S generalizing c with
  | nil => cases c with
    | nil => simp [placeL, placeA, prodL]
    | cons x y => cases h
  | cons s t ih => cases c with
    | nil => cases h
    | cons x y =>
      simp only [okC, Bool.and_eq_true, decide_eq_true_eq] at h
      rw [placeL_cons _ _ _ _ (okC_length t y h.2)]
      have h1 := ih y h.2
      have h2 : (x + 1) * prodL t ≤ s * prodL t := Nat.mul_le_mul_right _ h.1
      rw [Nat.add_mul, Nat.one_mul] at h2
      show _ < s * prodL t
      omega
theorem cellL_ok (S : List Nat) (n : Nat) (h : ∀ s ∈ S, 0 < s) : okC S (cellL S n) = true := by
  induction S with
  | nil => rfl
  | cons s t ih =>
    simp only [cellL, okC, Bool.and_eq_true, decide_eq_true_eq]
    exact ⟨Nat.mod_lt _ (h s (by simp)), ih fun x hx => h x (by simp [hx])⟩
theorem cellL_mod (S : List Nat) (n : Nat) : cellL S (n % prodL S) = cellL S n := by
  suffices H : ∀ k, cellL S (n % (prodL S * k)) = cellL S n by
    have := H 1; rwa [Nat.mul_one] at this
  induction S with
  | nil => intro k; rfl
  | cons s t ih =>
    intro k
    unfold cellL
    have e1 : n % (prodL (s :: t) * k) = n % (prodL t * (s * k)) := by rw [show prodL (s :: t) = s * prodL t from rfl, Nat.mul_comm s, Nat.mul_assoc]
    rw [e1, ih (s * k)]
    congr 1
    rw [Nat.mod_mul_right_div_self, Nat.mod_mul_right_mod]
theorem cellL_place (S c : List Nat) (h : okC S c = true) : cellL S (placeL S c) = c := by
  induction S generalizing c with
  | nil => cases c with
    | nil => rfl
    | cons x y => cases h
  | cons s t ih => cases c with
    | nil => cases h
    | cons x y =>
      simp only [okC, Bool.and_eq_true, decide_eq_true_eq] at h
      have hp := placeL_lt t y h.2
      rw [placeL_cons _ _ _ _ (okC_length t y h.2)]
      unfold cellL
      have e1 : (x * prodL t + placeL t y) / prodL t = x := by
        rw [Nat.add_comm, Nat.add_mul_div_right _ _ (by omega), Nat.div_eq_of_lt hp, Nat.zero_add]
      have e2 : cellL t (x * prodL t + placeL t y) = cellL t (placeL t y) := by
        rw [← cellL_mod t (x * prodL t + placeL t y), Nat.add_comm, Nat.add_mul_mod_self_right, Nat.mod_eq_of_lt hp]
      rw [e1, e2, ih y h.2, Nat.mod_eq_of_lt h.1]
/-- the loop of Cell: one place from the back -/
theorem cellL_drop (S : List Nat) (n i : Nat) (h : i < S.length) : cellL (S.drop i) n = (n / prodL (S.drop (i + 1))) % S[i] :: cellL (S.drop (i + 1)) n := by
  rw [List.drop_eq_getElem_cons h]; rfl
theorem prodL_drop (S : List Nat) (i : Nat) (h : i < S.length) : prodL (S.drop i) = S[i] * prodL (S.drop (i + 1)) := by
  rw [List.drop_eq_getElem_cons h]; rfl
theorem cellL_at (S : List Nat) (n i : Nat) (h : i < S.length) : (cellL S n)[i]? = some (n / prodL (S.drop (i + 1)) % S[i]) := by
  induction S generalizing i with
  | nil => simp at h
  | cons s t ih => cases i with
    | zero => simp [cellL]
    | succ i => simp only [cellL, List.getElem?_cons_succ, List.drop_succ_cons, List.getElem_cons_succ]; exact ih i (by simpa using h)
/-- the place of a cell that is a cell of other sizes at one dimension -/
theorem placeL_set (A B : List Nat) (s s' m k : Nat) :
    placeL (A ++ s :: B) ((cellL (A ++ s' :: B) k).set A.length m) = (k / (s' * prodL B) % prodL A) * (s * prodL B) + m * prodL B + k % prodL B := by
  rw [cellL_append, List.set_append_right _ _ (by rw [cellL_length]; exact Nat.le_refl _), cellL_length, Nat.sub_self]
  rw [show cellL (s' :: B) k = (k / prodL B) % s' :: cellL B k from rfl, List.set_cons_zero, placeL_append _ _ _ _ (cellL_length A _).symm (by simp [cellL_length]), placeL_cons _ _ _ _ (cellL_length B k).symm, placeL_cell, placeL_cell]
  show k / (s' * prodL B) % prodL A * (s * prodL B) + _ = _
  omega
/-- a row of contents -/
def rowL {α : Type} (C : List α) (inner n : Nat) : List α := (C.drop (n * inner)).take inner
/-- the number of the old row, of that of a new one: number i is there twice -/
def decR (sz i q : Nat) : Nat := q / (sz + 1) * sz + (if q % (sz + 1) > i then q % (sz + 1) - 1 else q % (sz + 1))
theorem range_mul (a b : Nat) : List.range ((a + 1) * b) = List.range (a * b) ++ (List.range b).map (a * b + ·) := by
  rw [Nat.add_mul, Nat.one_mul, List.range_add]
theorem twice_one (sz i : Nat) (h : i < sz) : (List.range sz).flatMap (fun n => if n = i then [n, n] else [n]) = (List.range (sz + 1)).map (fun m => if m > i then m - 1 else m) := by
  have H : ∀ k, (List.range k).flatMap (fun n => if n = i then [n, n] else [n]) = (List.range (if k ≤ i then k else k + 1)).map (fun m => if m > i then m - 1 else m) := by
    intro k
    induction k with
    | zero => simp
    | succ k ih =>
      rw [List.range_succ, List.flatMap_append, ih, List.flatMap_cons, List.flatMap_nil, List.append_nil]
      rcases Nat.lt_trichotomy k i with hk | hk | hk
      · rw [if_pos (by omega), if_pos (show k + 1 ≤ i by omega), if_neg (by omega), List.range_succ, List.map_append, List.map_singleton, if_neg (by omega)]
      · subst hk
        rw [if_pos (Nat.le_refl _), if_neg (show ¬ k + 1 ≤ k by omega), if_pos rfl, List.range_succ (n := k + 1), List.range_succ, List.map_append, List.map_append, List.map_singleton, List.map_singleton, if_neg (by omega), if_pos (by omega), List.append_assoc]
        rfl
      · rw [if_neg (by omega), if_neg (by omega), if_neg (by omega), List.range_succ (n := k + 1), List.map_append, List.map_singleton, if_pos (by omega)]
        rfl
  rw [H sz, if_neg (by omega)]
theorem twice_all (o sz i : Nat) (h : i < sz) : (List.range (o * sz)).flatMap (fun n => if n % sz = i then [n, n] else [n]) = (List.range (o * (sz + 1))).map (decR sz i) := by
  induction o with
  | zero => simp
  | succ o ih =>
    rw [range_mul, range_mul, List.flatMap_append, List.map_append, ih]
    congr 1
    rw [List.flatMap_map, List.map_map]
    have e1 : (List.range sz).flatMap (fun a => if (o * sz + a) % sz = i then [o * sz + a, o * sz + a] else [o * sz + a]) = ((List.range sz).flatMap (fun n => if n = i then [n, n] else [n])).map (o * sz + ·) := by
      rw [List.map_flatMap]
      rw [List.flatMap_def, List.flatMap_def]
      congr 1
      apply List.map_congr_left
      intro a ha
      rw [List.mem_range] at ha
      rw [Nat.add_comm (o * sz) a, Nat.add_mul_mod_self_right, Nat.mod_eq_of_lt ha]
      split <;> simp [Nat.add_comm]
    rw [e1, twice_one sz i h, List.map_map]
    apply List.map_congr_left
    intro a ha
    rw [List.mem_range] at ha
    show o * sz + _ = decR sz i (o * (sz + 1) + a)
    unfold decR
    have e2 : (o * (sz + 1) + a) / (sz + 1) = o := by
      rw [Nat.add_comm, Nat.add_mul_div_right _ _ (by omega), Nat.div_eq_of_lt ha, Nat.zero_add]
    have e3 : (o * (sz + 1) + a) % (sz + 1) = a := by
      rw [Nat.add_comm, Nat.add_mul_mod_self_right, Nat.mod_eq_of_lt ha]
    rw [e2, e3]
theorem rowL_at {α : Type} (x : α) (C : List α) (inner n : Nat) (h : (n + 1) * inner ≤ C.length) : rowL C inner n = (List.range inner).map fun r => C.getD (n * inner + r) x := by
  rw [Nat.add_mul, Nat.one_mul] at h
  apply List.ext_getElem?
  intro j
  unfold rowL
  by_cases hj : j < inner
  · rw [List.getElem?_take_of_lt hj, List.getElem?_drop, List.getElem?_map, List.getElem?_range hj, Option.map_some, List.getD_eq_getElem?_getD, List.getElem?_eq_getElem (by omega)]
    rfl
  · rw [List.getElem?_eq_none (by rw [List.length_take, List.length_drop]; omega), List.getElem?_eq_none (by simp; omega)]
theorem rows_cells {α : Type} (x : α) (C : List α) (inner Q : Nat) (f : Nat → Nat) (hi : 0 < inner) (h : ∀ q, q < Q → (f q + 1) * inner ≤ C.length) :
    ((List.range Q).map f).flatMap (rowL C inner) = (List.range (Q * inner)).map fun k => C.getD (f (k / inner) * inner + k % inner) x := by
  induction Q with
  | zero => simp
  | succ Q ih =>
    rw [range_mul, List.range_succ, List.map_append, List.flatMap_append, List.map_append, ih (fun q hq => h q (by omega)), List.map_singleton, List.flatMap_cons, List.flatMap_nil, List.append_nil]
    congr 1
    rw [rowL_at x C inner (f Q) (h Q (by omega)), List.map_map]
    apply List.map_congr_left
    intro r hr
    rw [List.mem_range] at hr
    show _ = C.getD (f ((Q * inner + r) / inner) * inner + (Q * inner + r) % inner) x
    have e2 : (Q * inner + r) / inner = Q := by
      rw [Nat.add_comm, Nat.add_mul_div_right _ _ hi, Nat.div_eq_of_lt hr, Nat.zero_add]
    have e3 : (Q * inner + r) % inner = r := by
      rw [Nat.add_comm, Nat.add_mul_mod_self_right, Nat.mod_eq_of_lt hr]
    rw [e2, e3]
/-- Grow by rows is Grow by cells -/
theorem grow_eq {α : Type} (x : α) (A B : List Nat) (C : List α) (sz i : Nat) (hB : ∀ s ∈ B, 0 < s) (hi : i < sz) (hC : C.length = prodL (A ++ sz :: B)) :
    (List.range (C.length / prodL B)).flatMap (fun n => if n % sz = i then rowL C (prodL B) n ++ rowL C (prodL B) n else rowL C (prodL B) n) =
    (List.range (prodL (A ++ (sz + 1) :: B))).map fun k => C.getD (placeL (A ++ sz :: B) ((cellL (A ++ (sz + 1) :: B) k).set A.length (if k / prodL B % (sz + 1) > i then k / prodL B % (sz + 1) - 1 else k / prodL B % (sz + 1)))) x := by
  have hp := prodL_pos B hB
  have e0 : prodL (A ++ sz :: B) = prodL A * sz * prodL B := by rw [prodL_append, show prodL (sz :: B) = sz * prodL B from rfl, Nat.mul_assoc]
  have e1 : prodL (A ++ (sz + 1) :: B) = prodL A * (sz + 1) * prodL B := by rw [prodL_append, show prodL ((sz + 1) :: B) = (sz + 1) * prodL B from rfl, Nat.mul_assoc]
  have e2 : C.length / prodL B = prodL A * sz := by rw [hC, e0, Nat.mul_div_cancel _ hp]
  rw [e2]
  have e3 : (List.range (prodL A * sz)).flatMap (fun n => if n % sz = i then rowL C (prodL B) n ++ rowL C (prodL B) n else rowL C (prodL B) n) =
      ((List.range (prodL A * sz)).flatMap (fun n => if n % sz = i then [n, n] else [n])).flatMap (rowL C (prodL B)) := by
    rw [List.flatMap_assoc]
    congr 1
    funext n
    split <;> simp
  have hdec : ∀ q, q < prodL A * (sz + 1) → decR sz i q < prodL A * sz := by
    intro q hq
    have h1 : q / (sz + 1) < prodL A := by rw [Nat.div_lt_iff_lt_mul (by omega)]; exact hq
    have h2 : q % (sz + 1) < sz + 1 := Nat.mod_lt _ (by omega)
    have h3 : (q / (sz + 1) + 1) * sz ≤ prodL A * sz := Nat.mul_le_mul_right _ h1
    rw [Nat.add_mul, Nat.one_mul] at h3
    unfold decR
    split <;> omega
  rw [e3, twice_all _ _ _ hi, rows_cells x C (prodL B) _ _ hp (fun q hq => by rw [hC, e0]; exact Nat.mul_le_mul_right _ (hdec q hq)), e1]
  apply List.map_congr_left
  intro k hk
  rw [List.mem_range] at hk
  rw [placeL_set]
  congr 1
  have h4 : k / ((sz + 1) * prodL B) < prodL A := by
    rw [Nat.div_lt_iff_lt_mul (Nat.mul_pos (by omega) hp), ← Nat.mul_assoc]; exact hk
  rw [Nat.mod_eq_of_lt h4]
  unfold decR
  rw [Nat.div_div_eq_div_mul, Nat.mul_comm (prodL B) (sz + 1), Nat.add_mul, Nat.mul_assoc]
/-- Shrink: what stays, by rows and by cells -/
theorem stay_eq {α : Type} (x : α) (C : List α) (inner sz i Q : Nat) (hi : 0 < inner) (h : Q * inner ≤ C.length) :
    (List.range Q).flatMap (fun n => if n % sz = i then [] else rowL C inner n) = ((List.range (Q * inner)).filter fun k => decide (k / inner % sz ≠ i)).map fun k => C.getD k x := by
  induction Q with
  | zero => simp
  | succ Q ih =>
    have h' := h
    rw [Nat.add_mul, Nat.one_mul] at h'
    rw [range_mul, List.range_succ, List.flatMap_append, List.filter_append, List.map_append, ih (by omega), List.flatMap_cons, List.flatMap_nil, List.append_nil]
    congr 1
    have e : ∀ r ∈ List.range inner, (Q * inner + r) / inner = Q := by
      intro r hr
      rw [List.mem_range] at hr
      rw [Nat.add_comm, Nat.add_mul_div_right _ _ hi, Nat.div_eq_of_lt hr, Nat.zero_add]
    by_cases hq : Q % sz = i
    · rw [if_pos hq, List.filter_eq_nil_iff.2]
      · rfl
      · intro k hk
        obtain ⟨r, hr, rfl⟩ := List.mem_map.1 hk
        rw [e r hr]
        simp [hq]
    · rw [if_neg hq, List.filter_eq_self.2, rowL_at x C inner Q h, List.map_map]
      · rfl
      · intro k hk
        obtain ⟨r, hr, rfl⟩ := List.mem_map.1 hk
        rw [e r hr]
        simp [hq]
/-- two rows are one, by cells -/
theorem rowL_same {α : Type} (x : α) (C : List α) (inner n m : Nat) (hn : (n + 1) * inner ≤ C.length) (hm : (m + 1) * inner ≤ C.length) :
    rowL C inner n = rowL C inner m ↔ ∀ r, r < inner → C.getD (n * inner + r) x = C.getD (m * inner + r) x := by
  rw [rowL_at x C inner n hn, rowL_at x C inner m hm]
  constructor
  · intro h r hr
    exact List.map_inj_left.1 h r (List.mem_range.2 hr)
  · intro h
    exact List.map_inj_left.2 fun r hr => h r (List.mem_range.1 hr)
/-- all cells from low's numbers to high's, in the cells' order -/
def rangeL : List Nat → List Nat → List (List Nat)
  | l :: L, h :: H => (List.range' l (h + 1 - l)).flatMap fun c => (rangeL L H).map (c :: ·)
  | _, _ => [[]]
/-- is a cell in a range? -/
def withinL : List Nat → List Nat → List Nat → Bool
  | c :: D, l :: L, h :: H => decide (l ≤ c) && decide (c ≤ h) && withinL D L H
  | _, _, _ => true
/-- the cell behind one, in a range -/
def nextL : List Nat → List Nat → List Nat → Option (List Nat)
  | c :: D, _ :: L, h :: H => match nextL D L H with
    | some D' => some (c :: D')
    | none => if c < h then some ((c + 1) :: L) else none
  | _, _, _ => none
/-- each is what comes behind the one before, and behind the last there is none -/
def chainL {α : Type} (f : α → Option α) : List α → Prop
  | [] => False
  | [x] => f x = none
  | x :: y :: t => f x = some y ∧ chainL f (y :: t)
theorem all_cells (S : List Nat) (h : ∀ s ∈ S, 0 < s) : (List.range (prodL S)).map (cellL S) = rangeL (S.map fun _ => 0) (S.map (· - 1)) := by
  induction S with
  | nil => rfl
  | cons s t ih =>
    have hs := h s (by simp)
    have ht := prodL_pos t fun x hx => h x (by simp [hx])
    have ih := ih fun x hx => h x (by simp [hx])
    simp only [List.map_cons, rangeL]
    rw [← ih, show s - 1 + 1 - 0 = s by omega]
    suffices H : ∀ k, k ≤ s → (List.range (k * prodL t)).map (cellL (s :: t)) = (List.range' 0 k).flatMap fun c => ((List.range (prodL t)).map (cellL t)).map (c :: ·) by
      exact H s (Nat.le_refl _)
    intro k
    induction k with
    | zero => intro _; simp
    | succ k ik =>
      intro hk
      rw [range_mul, List.map_append, ik (by omega), List.range'_concat, List.flatMap_append, List.flatMap_cons, List.flatMap_nil, List.append_nil]
      congr 1
      rw [List.map_map, List.map_map]
      apply List.map_congr_left
      intro r hr
      rw [List.mem_range] at hr
      show ((k * prodL t + r) / prodL t) % s :: cellL t (k * prodL t + r) = (0 + 1 * k) :: cellL t r
      rw [Nat.add_comm (k * prodL t), Nat.add_mul_div_right _ _ ht, Nat.div_eq_of_lt hr, Nat.zero_add, Nat.mod_eq_of_lt (by omega), ← cellL_mod t (r + _), Nat.add_mul_mod_self_right, cellL_mod, Nat.zero_add, Nat.one_mul]
theorem filter_range' (l h a n : Nat) (h1 : a ≤ l) (h2 : h < a + n) : (List.range' a n).filter (fun c => decide (l ≤ c) && decide (c ≤ h)) = List.range' l (h + 1 - l) := by
  induction n generalizing a with
  | zero => rw [show h + 1 - l = 0 by omega]; rfl
  | succ n ih =>
    rw [List.range'_succ]
    by_cases e : a = l
    · subst e
      rcases Nat.lt_or_ge h a with e | e
      · rw [show h + 1 - a = 0 by omega, List.filter_eq_nil_iff.2]
        · rfl
        · intro c hc
          have : a ≤ c := by rcases List.mem_cons.1 hc with rfl | hc; exact Nat.le_refl _; have := List.mem_range'_1.1 hc; omega
          simp; omega
      · rw [List.filter_cons_of_pos (by simp; exact e), show h + 1 - a = (h - a) + 1 by omega, List.range'_succ]
        congr 1
        clear ih h1
        have : ∀ (m b : Nat), a < b → b ≤ h + 1 → h < b + m → (List.range' b m).filter (fun c => decide (a ≤ c) && decide (c ≤ h)) = List.range' b (h + 1 - b) := by
          intro m
          induction m with
          | zero => intro b _ _ _; rw [show h + 1 - b = 0 by omega]; rfl
          | succ m ih =>
            intro b hb hb2 hb3
            rw [List.range'_succ]
            by_cases e : b ≤ h
            · rw [List.filter_cons_of_pos (by simp; omega), show h + 1 - b = (h - b) + 1 by omega, List.range'_succ, ih (b + 1) (by omega) (by omega) (by omega), show h + 1 - (b + 1) = h - b by omega]
            · rw [show h + 1 - b = 0 by omega, List.filter_eq_nil_iff.2]
              · rfl
              · intro c hc
                have : b ≤ c := by rcases List.mem_cons.1 hc with rfl | hc; exact Nat.le_refl _; have := List.mem_range'_1.1 hc; omega
                simp; omega
        rw [this n (a + 1) (by omega) (by omega) (by omega), show h + 1 - (a + 1) = h - a by omega]
    · rw [List.filter_cons_of_neg (by simp; omega)]
      exact ih (a + 1) (by omega) (by omega)
theorem flatMap_filter {α β : Type} (l : List α) (p : α → Bool) (f : α → List β) : (l.filter p).flatMap f = l.flatMap fun a => if p a = true then f a else [] := by
  induction l with
  | nil => rfl
  | cons a l ih =>
    rw [List.filter_cons, List.flatMap_cons, ← ih]
    split <;> simp
/-- the cells of a range, out of all -/
theorem filter_within (S low high : List Nat) (hl : okC S low = true) (hh : okC S high = true) (hs : ∀ s ∈ S, 0 < s) :
    ((List.range (prodL S)).map (cellL S)).filter (fun c => withinL c low high) = rangeL low high := by
  rw [all_cells S hs]
  induction S generalizing low high with
  | nil =>
    cases low with
    | nil => cases high with
      | nil => rfl
      | cons x y => cases hh
    | cons x y => cases hl
  | cons s t ih =>
    cases low with
    | nil => cases hl
    | cons l L => cases high with
      | nil => cases hh
      | cons h H =>
        simp only [okC, Bool.and_eq_true, decide_eq_true_eq] at hl hh
        have ih := ih L H hl.2 hh.2 fun x hx => hs x (by simp [hx])
        simp only [List.map_cons, rangeL]
        rw [List.filter_flatMap, ← filter_range' l h 0 (s - 1 + 1 - 0) (Nat.zero_le _) (by omega), flatMap_filter]
        congr 1
        funext c
        rw [List.filter_map, ← ih]
        by_cases e : (decide (l ≤ c) && decide (c ≤ h)) = true
        · rw [if_pos e]
          congr 1
          apply List.filter_congr
          intro d _
          show withinL (c :: d) (l :: L) (h :: H) = withinL d L H
          simp only [withinL, e, Bool.true_and]
        · rw [if_neg e, List.filter_eq_nil_iff.2]
          · rfl
          · intro d _
            show ¬ withinL (c :: d) (l :: L) (h :: H) = true
            have e' : (decide (l ≤ c) && decide (c ≤ h)) = false := by simpa using e
            simp only [withinL, e', Bool.false_and]
            simp
theorem nextL_last (low high : List Nat) (e : low.length = high.length) : nextL high low high = none := by
  induction low generalizing high with
  | nil => cases high <;> rfl
  | cons l L ih => cases high with
    | nil => rfl
    | cons h H => simp only [nextL, ih H (by simpa using e), Nat.lt_irrefl, if_false]
theorem rangeL_ne (low high : List Nat) (e : withinL low low high = true) : rangeL low high ≠ [] := by
  induction low generalizing high with
  | nil => simp [rangeL]
  | cons l L ih => cases high with
    | nil => simp [rangeL]
    | cons h H =>
      simp only [withinL, Bool.and_eq_true, decide_eq_true_eq] at e
      simp only [rangeL]
      rw [show h + 1 - l = (h - l) + 1 by omega, List.range'_succ, List.flatMap_cons]
      intro h0
      exact ih H e.2 (List.map_eq_nil_iff.1 (List.append_eq_nil_iff.1 h0).1)
theorem rangeL_head (low high : List Nat) (e : withinL low low high = true) (hlen : low.length = high.length) : (rangeL low high).head? = some low := by
  induction low generalizing high with
  | nil => rfl
  | cons l L ih => cases high with
    | nil => cases hlen
    | cons h H =>
      simp only [withinL, Bool.and_eq_true, decide_eq_true_eq] at e
      simp only [rangeL]
      rw [show h + 1 - l = (h - l) + 1 by omega, List.range'_succ, List.flatMap_cons, List.head?_append, List.head?_map, ih H e.2 (by simpa using hlen)]
      rfl
theorem chainL_cons (c l h : Nat) (L H : List Nat) (R : List (List Nat)) (hR : chainL (fun D => nextL D L H) R) (hc : ¬ c < h) : chainL (fun D => nextL D (l :: L) (h :: H)) (R.map (c :: ·)) := by
  induction R with
  | nil => exact hR
  | cons x t ih => cases t with
    | nil =>
      show nextL (c :: x) (l :: L) (h :: H) = none
      have : nextL x L H = none := hR
      simp only [nextL, this, if_neg hc]
    | cons y t =>
      refine ⟨?_, ih hR.2⟩
      have : nextL x L H = some y := hR.1
      show nextL (c :: x) (l :: L) (h :: H) = some (c :: y)
      simp only [nextL, this]
theorem chainL_before (c l h : Nat) (L H : List Nat) (R T : List (List Nat)) (hR : chainL (fun D => nextL D L H) R) (hc : c < h) (hT : chainL (fun D => nextL D (l :: L) (h :: H)) T) (h0 : T.head? = some ((c + 1) :: L)) :
    chainL (fun D => nextL D (l :: L) (h :: H)) (R.map (c :: ·) ++ T) := by
  induction R with
  | nil => exact hR.elim
  | cons x t ih => cases t with
    | nil =>
      cases T with
      | nil => cases h0
      | cons z T =>
        injection h0 with h0; subst h0
        refine ⟨?_, hT⟩
        have : nextL x L H = none := hR
        show nextL (c :: x) (l :: L) (h :: H) = some _
        simp only [nextL, this, if_pos hc]
    | cons y t =>
      refine ⟨?_, ih hR.2⟩
      have : nextL x L H = some y := hR.1
      show nextL (c :: x) (l :: L) (h :: H) = some (c :: y)
      simp only [nextL, this]
/-- next goes through a range, cell by cell -/
theorem next_range (low high : List Nat) (e : withinL low low high = true) (hlen : low.length = high.length) : chainL (fun D => nextL D low high) (rangeL low high) := by
  induction low generalizing high with
  | nil => cases high with
    | nil => rfl
    | cons x y => cases hlen
  | cons l L ih => cases high with
    | nil => cases hlen
    | cons h H =>
      have e' := e
      simp only [withinL, Bool.and_eq_true, decide_eq_true_eq] at e
      have hR := ih H e.2 (by simpa using hlen)
      have hh := rangeL_head L H e.2 (by simpa using hlen)
      simp only [rangeL]
      suffices G : ∀ n c, c + n = h → chainL (fun D => nextL D (l :: L) (h :: H)) ((List.range' c (n + 1)).flatMap fun c => (rangeL L H).map (c :: ·)) by
        have := G (h - l) l (by omega)
        rwa [show h - l + 1 = h + 1 - l by omega] at this
      intro n
      induction n with
      | zero =>
        intro c hc
        rw [List.range'_succ, List.flatMap_cons]
        simp only [List.range'_zero, List.flatMap_nil, List.append_nil]
        exact chainL_cons c l h L H _ hR (by omega)
      | succ n ik =>
        intro c hc
        rw [List.range'_succ, List.flatMap_cons]
        refine chainL_before c l h L H _ _ hR (by omega) (ik (c + 1) (by omega)) ?_
        rw [List.range'_succ, List.flatMap_cons, List.head?_append, List.head?_map, hh]
        rfl
/-- the places of a range's cells, out of all places -/
theorem places_eq (S low high : List Nat) (hl : okC S low = true) (hh : okC S high = true) (hs : ∀ s ∈ S, 0 < s) :
    (rangeL low high).map (placeL S) = (List.range (prodL S)).filter fun k => withinL (cellL S k) low high := by
  rw [← filter_within S low high hl hh hs, List.filter_map, List.map_map]
  have : ∀ k ∈ (List.range (prodL S)).filter ((fun c => withinL c low high) ∘ cellL S), (placeL S ∘ cellL S) k = id k := by
    intro k hk
    have := List.mem_range.1 (List.mem_filter.1 hk).1
    show placeL S (cellL S k) = k
    rw [placeL_cell, Nat.mod_eq_of_lt this]
  rw [List.map_congr_left this, List.map_id]
  rfl
/-- how many cells a range has -/
def countL : List Nat → List Nat → Nat
  | l :: L, h :: H => (h + 1 - l) * countL L H
  | _, _ => 1
theorem rangeL_length (low high : List Nat) : (rangeL low high).length = countL low high := by
  induction low generalizing high with
  | nil => rfl
  | cons l L ih => cases high with
    | nil => rfl
    | cons h H =>
      simp only [rangeL, countL]
      rw [List.length_flatMap]
      simp only [List.length_map, ih H]
      rw [List.map_const', List.sum_replicate_nat, List.length_range']
theorem set_all {α : Type} (x : α) (ps : List Nat) (C : List α) (i : Nat) : (ps.foldl (fun C p => C.set p x) C)[i]? = if i ∈ ps ∧ i < C.length then some x else C[i]? := by
  induction ps generalizing C with
  | nil => simp
  | cons p ps ih =>
    rw [List.foldl_cons, ih, List.length_set, List.getElem?_set]
    by_cases h1 : p = i
    · subst h1
      by_cases h2 : p < C.length
      · simp [h2]
      · simp [h2]
    · rw [if_neg h1]
      have : (i ∈ p :: ps) ↔ i ∈ ps := by rw [List.mem_cons]; constructor; rintro (h | h); exact absurd h.symm h1; exact h; exact Or.inr
      simp only [this]
theorem set_all_length {α : Type} (x : α) (ps : List Nat) (C : List α) : (ps.foldl (fun C p => C.set p x) C).length = C.length := by
  induction ps generalizing C with
  | nil => rfl
  | cons p ps ih => rw [List.foldl_cons, ih, List.length_set]
/-- Fill by ranges is Fill by cells -/
theorem fill_eq {α : Type} (x : α) (C : List α) (ok : Nat → Bool) : ((List.range C.length).filter ok).foldl (fun C p => C.set p x) C = (List.range C.length).foldl (fun C p => if ok p = true then C.set p x else C) C := by
  rw [List.foldl_filter]
end Go.Proofs.Ytnmhdlincgefeaa.Sl
