/- Rows of ints that the program has made; appends, clones. -/
import Derived.Test.YtnmhdlincgefeaaSlBase
import Derived.Laws.CopyOwn
import Derived.Lib.SliceRun
import Derived.Deep.AppendLies
import Derived.Deep.AppendSrc
import Derived.Deep.DeepAppendRoom
namespace Go.Proofs.Ytnmhdlincgefeaa.Sl
open Go.RowKit
open Go.Lib (hid)

theorem addr_add (b off j : Nat) : (⟨b, off, none⟩ : Addr).add j = ⟨b, off + j, none⟩ := by unfold Addr.add; split <;> simp_all
/-- cells that are read from a place on -/
def ReadAt (w : World) (p : Option Addr) (xs : List Value) : Prop := ∀ j u, xs[j]? = some u → ∃ b off, p = some ⟨b, off, none⟩ ∧ b < w.heap.size ∧ w.cell? ⟨b, off + j, none⟩ = some u
theorem ReadAt.below {w w' : World} {p : Option Addr} {xs : List Value} (h : ReadAt w p xs) (hb : Below w.heap.size w w') : ReadAt w' p xs := fun j u hj => by
  obtain ⟨b, off, e, hl, hc⟩ := h j u hj
  exact ⟨b, off, e, Nat.lt_of_lt_of_le hl hb.size, (hb.cell (p := ⟨b, _, none⟩) hl).trans hc⟩
theorem ReadAt.nil (w : World) (p : Option Addr) : ReadAt w p [] := fun j u hj => absurd hj (by simp)
theorem ReadAt.some_at {w : World} {p : Option Addr} {xs : List Value} (h : ReadAt w p xs) (h0 : 0 < xs.length) : ∃ b off, p = some ⟨b, off, none⟩ ∧ ∀ j u, xs[j]? = some u → w.cell? ((⟨b, off, none⟩ : Addr).add j) = some u := by
  obtain ⟨b, off, e, _, _⟩ := h 0 _ (List.getElem?_eq_getElem h0)
  refine ⟨b, off, e, fun j u hj => ?_⟩
  obtain ⟨b', off', e', _, hc⟩ := h j u hj
  rw [e] at e'
  cases e'
  rw [addr_add]; exact hc
theorem ReadAt.src {w : World} {p : Option Addr} {news : List Value} {P : Program} {t e : TypeId} {size m : Nat} (ht : P.underlying t = some (.slice e)) (h : ReadAt w p news) (hl : news.length = m * size) (hz : 0 < size) (h1 : ∀ u ∈ news, u.oneCell' = true) (c : Nat) : Src P size t (.slice p m c) m news w := by
  by_cases hm : m = 0
  · subst hm
    have hn : news = [] := List.length_eq_zero_iff.1 (by omega)
    subst hn
    cases p with
    | none => exact Src.ofNil w ht c
    | some a => exact Src.ofSlice w ht a 0 c [] (by simp) (fun j u hj => absurd hj (by simp)) (fun u hu => absurd hu (by simp))
  · obtain ⟨b, off, rfl, hc⟩ := h.some_at (by rw [hl]; exact Nat.mul_pos (by omega) hz)
    exact Src.ofSlice w ht _ m c news hl hc h1
/-- onto a slice that has no room -/
theorem run_app_full {P : Program} {w : World} {t e : TypeId} {i : TypeInfo} {z : Value} {size bytes : Nat} (ht : P.underlying t = some (.slice e)) (hi : P.info? e = some i) (hz : i.zero = some z)
    (hsize : i.size = size) (hby : i.bytes = bytes) (hzs : z.cells.size = size) (hsz : 0 < size) (ty : TypeId) (x : Option Addr) (n : Nat) (xs : List Value) (hx : ReadAt w x xs) (hxl : xs.length = n * size)
    (y : Value) (m : Nat) (news : List Value) (hs : Src P size t y m news w) (h63 : n + m ≤ maxLen) (hbytes : (n + m) * bytes ≤ 140737488355328) :
    ∃ p' c' w', (Builtin.append_ #[t, t] ty #[.slice x n n, y]).run P w = .ok (.slice p' (n + m) c') w' ∧ ReadAt w' p' (xs ++ news) ∧ Below w.heap.size w w' ∧ n + m ≤ c' ∧ (0 < m → w'.ownsRow w.heap.size e size (.slice p' (n + m) c') (n + m) (xs ++ news) ∧ p' = some ⟨w.heap.size, 0, none⟩) := by
  subst hsize
  subst hby
  by_cases hm : m = 0
  · subst hm
    have hn : news = [] := List.length_eq_zero_iff.1 (by have := hs.newsLen; omega)
    subst hn
    have hr : (Builtin.append_ #[t, t] ty #[.slice x n n, y]).run P w = .ok (.slice x (n + 0) n) w := by
      have hl := hs.len
      have hc := hs.cells
      rcases hs.kind with ⟨_, _⟩ | hk
      · cases x with
        | none =>
          have : n = 0 := by
            by_cases h0 : 0 < xs.length
            · obtain ⟨b, off, e1, _⟩ := hx.some_at h0; cases e1
            · rcases Nat.eq_zero_or_pos n with h | h
              · exact h
              · exact absurd (Nat.mul_pos h hsz) (by omega)
          subst this
          simp [Builtin.append_, run_underlying ht, sizeOf, typeInfo, hi, hl, hc]
        | some a =>
          simp [Builtin.append_, run_underlying ht, sizeOf, typeInfo, hi, hl, hc, storeCells]
      · rw [ht] at hk; cases hk
    refine ⟨x, n, w, hr, by rw [List.append_nil]; exact hx, Below.refl _ _, Nat.le_refl _, fun h => absurd h (by omega)⟩
  · have hold : (Builtin.firstCells i.size n (.slice x n n)).run P w.drew = .ok xs.toArray w.drew := by
      by_cases h0 : 0 < xs.length
      · obtain ⟨b, off, rfl, hc⟩ := hx.some_at h0
        exact run_firstCells_some w.drew i.size n _ n n xs hxl (by simpa using hc)
      · have hxn : xs = [] := List.length_eq_zero_iff.1 (by omega)
        subst hxn
        have hn0 : n = 0 := by
          rcases Nat.eq_zero_or_pos n with h | h
          · exact h
          · have := Nat.mul_pos h hsz; simp at hxl; omega
        subst hn0
        cases x with
        | none => exact run_firstCells_none w.drew i.size 0 0 0
        | some a => exact run_firstCells_some w.drew i.size 0 a 0 0 [] (by simp) (fun j u hj => absurd hj (by simp))
    have hr := run_append_grow_src (P := P) w t t ty e i z ht hi hz x n n xs hold y m news hs (by omega) (by unfold maxLen at h63; omega) (growslice_fits (by omega) hbytes)
    have hge := grownCap_ge w (n + m) n e
    have hcm := grownCap_le_maxLen w (n + m) n e h63
    generalize grownCap w (n + m) n e = cap at hr hge hcm
    have hsize : ((xs ++ news).toArray ++ Builtin.zeroCells z.cells (cap - (n + m))).size = cap * i.size := by
      have h1 := hs.newsLen
      have h2 : (Builtin.zeroCells z.cells (cap - (n + m))).size = (cap - (n + m)) * i.size := by
        rw [← hzs]
        simp [Builtin.zeroCells]
      rw [Array.size_append, h2, List.size_toArray, List.length_append, hxl, h1, ← Nat.add_mul, ← Nat.add_mul]
      congr 1; omega
    have htake : ((xs ++ news).toArray ++ Builtin.zeroCells z.cells (cap - (n + m))).toList.take ((n + m) * i.size) = xs ++ news := by
      rw [Array.toList_append]
      have hl : (xs ++ news).length = (n + m) * i.size := by rw [List.length_append, hxl, hs.newsLen, Nat.add_mul]
      rw [← hl]
      exact List.take_left
    have hheap : (w.drew.alloc (.cells ((xs ++ news).toArray ++ Builtin.zeroCells z.cells (cap - (n + m))) e)).heap[w.heap.size]? = some (.cells ((xs ++ news).toArray ++ Builtin.zeroCells z.cells (cap - (n + m))) e (0, 0)) := heap_alloc_new w.drew _
    refine ⟨_, _, _, hr, fun j u hj => ⟨w.heap.size, 0, rfl, by simp, ?_⟩, ((Below.refl _ _).drew.alloc (Nat.le_refl _) _), hge, fun _ => ⟨⟨by rw [List.length_append, hxl, hs.newsLen, Nat.add_mul], .inr ⟨w.heap.size, cap, _, rfl, Nat.le_refl _, hheap, hge, hcm, hsize, htake⟩⟩, rfl⟩⟩
    rw [cell_of_row _ _ _ _ _ _ hheap, Nat.zero_add]
    have hjl : j < (n + m) * i.size := by
      have := (List.getElem?_eq_some_iff.1 hj).1
      rw [List.length_append, hxl, hs.newsLen, ← Nat.add_mul] at this
      exact this
    rw [← htake, List.getElem?_take, if_pos hjl, Array.getElem?_toList] at hj
    exact hj
/-- onto a row of the call's own -/
theorem run_app_own {P : Program} {w : World} {t e : TypeId} {i : TypeInfo} {z : Value} {size bytes : Nat} (ht : P.underlying t = some (.slice e)) (hi : P.info? e = some i) (hz : i.zero = some z)
    (hsize : i.size = size) (hby : i.bytes = bytes) (hzs : z.cells.size = size) (hsz : 0 < size) (ty : TypeId) {base : Nat} (v : Value) (n : Nat) (xs : List Value) (hown : w.ownsRow base e size v n xs)
    (q : Option Addr) (m c : Nat) (news : List Value) (hq : ReadAt w q news) (hl : news.length = m * size) (h1 : ∀ u ∈ news, u.oneCell' = true) (h63 : n + m ≤ maxLen) (hbytes : (n + m) * bytes ≤ 140737488355328) (hbase : base ≤ w.heap.size) :
    ∃ v' w', (Builtin.append_ #[t, t] ty #[v, .slice q m c]).run P w = .ok v' w' ∧ w'.ownsRow base e size v' (n + m) (xs ++ news) ∧ w.grownBy w' v.ownBlock ∧ (v'.ownBlock = v.ownBlock ∨ v'.ownBlock = some w.heap.size) := by
  by_cases hm : m = 0
  · subst hm
    have hn : news = [] := List.length_eq_zero_iff.1 (by omega)
    subst hn
    have hr : (Builtin.append_ #[t, t] ty #[v, .slice q 0 c]).run P w = .ok v w := by
      subst hsize
      rcases hown.2 with ⟨rfl, rfl⟩ | ⟨g, cap, cur, rfl, _, _, hle, _⟩
      · cases q <;> simp [Builtin.append_, run_underlying ht, sizeOf, typeInfo, hi, Builtin.lenOf, Builtin.firstCells, loadCells, loadCellsFrom]
      · cases q <;> simp [Builtin.append_, run_underlying ht, sizeOf, typeInfo, hi, Builtin.lenOf, Builtin.firstCells, loadCells, loadCellsFrom, storeCells, hle]
    refine ⟨v, w, hr, by rw [List.append_nil]; exact hown, ⟨rfl, rfl, rfl, Nat.le_refl _, fun _ _ _ => rfl⟩, .inl rfl⟩
  · obtain ⟨b, off, rfl, hc⟩ := hq.some_at (by rw [hl]; exact Nat.mul_pos (by omega) hsz)
    obtain ⟨g, cap, w', hr, h2, h3, h4, _⟩ := run_append_lies (P := P) w t ty base e i z size bytes ht hi hz hsize hby hzs hsz v n xs hown ⟨b, off, none⟩ m c news hl hc h1 (by omega) h63 hbytes hbase w.heap.size rfl
    refine ⟨_, w', hr, h2, h3, ?_⟩
    rcases h4 with h4 | h4
    · exact .inl h4.symm
    · right; rw [h4]; rfl
section
variable {P : Program} {w : World} {ops : Array Oper} {o : Oper} {a : Act} {Q : Exit → Act → World → Prop}
theorem wp_app_run {K : Act → World → Prop} (s x : Operand) (t : TypeId) (ho : o.op = .call { callee := .builtin .append, args := #[s, x], argTypes := #[t, t] }) {v y v' : Value} {w' : World} (hs : a.eval s = v) (hx : a.eval x = y)
    (hr : (Builtin.append_ #[t, t] o.type #[v, y]).run P w = .ok v' w') (h : K (a.put o.dst v') w') : o.wp P a w K Q := by
  unfold Oper.wp execOp
  simp only [ho, resolve, invoke, builtin, Sem.run_bind, Sem.run_pure, Result.andThen_ok, List.map_toArray, List.map_cons, List.map_nil, hs, hx, hr]
  exact h
/-- an append at the walk: what it gives is told by 'F' -/
theorem wpList_app {rest : List Oper} (hgd : o.guard = none) (s x : Operand) (t : TypeId) (ho : o.op = .call { callee := .builtin .append, args := #[s, x], argTypes := #[t, t] }) {v y : Value} (hs : a.eval s = v) (hx : a.eval x = y) {F : Value → World → Prop}
    (hr : ∃ v' w', (Builtin.append_ #[t, t] o.type #[v, y]).run P w = .ok v' w' ∧ F v' w') (h : ∀ v' w', F v' w' → wpList P ops Q rest (a.put o.dst v') w') : wpList P ops Q (o :: rest) a w := by
  obtain ⟨v', w', hr, hf⟩ := hr
  exact wpList_plain hgd fun _ hK => wp_app_run s x t ho hs hx hr (hK _ _ (h v' w' hf))
theorem step_app {K : Act → World → Prop} {E : Prop} (hgd : o.guard = none) (s x : Operand) (t : TypeId) (ho : o.op = .call { callee := .builtin .append, args := #[s, x], argTypes := #[t, t] }) {v y : Value} (hs : a.eval s = v) (hx : a.eval x = y) {F : Value → World → Prop}
    (hr : ∃ v' w', (Builtin.append_ #[t, t] o.type #[v, y]).run P w = .ok v' w' ∧ F v' w') (h : ∀ v' w', F v' w' → K (a.put o.dst v') w') :
    if Region.wanted o (yielded ops a.tmps) = true then Oper.wp P o a w K Q else E := by
  have hw : Region.wanted o (yielded ops a.tmps) = true := by simp [Region.wanted, hgd]
  rw [if_pos hw]
  obtain ⟨v', w', hr, hf⟩ := hr
  exact wp_app_run s x t ho hs hx hr (h v' w' hf)
end
/-- what an append onto a slice without room gives -/
def Full (w : World) (e : TypeId) (size n m : Nat) (ys : List Value) (v' : Value) (w' : World) : Prop :=
  ∃ p' c', v' = .slice p' (n + m) c' ∧ ReadAt w' p' ys ∧ Below w.heap.size w w' ∧ n + m ≤ c' ∧ (0 < m → w'.ownsRow w.heap.size e size (.slice p' (n + m) c') (n + m) ys ∧ p' = some ⟨w.heap.size, 0, none⟩)
/-- what an append onto a row of the call's own gives -/
def Owns (w : World) (base : Nat) (e : TypeId) (size : Nat) (v : Value) (n : Nat) (ys : List Value) (v' : Value) (w' : World) : Prop :=
  w'.ownsRow base e size v' n ys ∧ w.grownBy w' v.ownBlock ∧ (v'.ownBlock = v.ownBlock ∨ v'.ownBlock = some w.heap.size)
/-- ints -/
theorem iinfo : (Try.prog.info? 3).map (fun i => (i.zero, i.size, i.bytes)) = some (some (.int .i64 0), 1, 8) := by kernel_rfl
theorem iv_one (l : List Int) : ∀ u ∈ iv l, u.oneCell' = true := fun u hu => by
  obtain ⟨x, _, rfl⟩ := List.mem_map.1 hu
  rfl
theorem iv_append (l m : List Int) : iv (l ++ m) = iv l ++ iv m := by simp [iv]
theorem iv_at (l : List Int) (j : Nat) (h : j < l.length) : (iv l)[j]'(by rw [iv_length]; exact h) = .int .i64 l[j] := by simp [iv]
theorem CellsAt.read {w : World} {p : Option Addr} {l : List Value} (h : CellsAt w p l) : ReadAt w p l := fun j u hj => by
  obtain ⟨hjl, rfl⟩ := List.getElem?_eq_some_iff.1 hj
  exact h j hjl
theorem ReadAt.cells {w : World} {p : Option Addr} {l : List Value} (h : ReadAt w p l) : CellsAt w p l := fun j hj => h j _ (List.getElem?_eq_getElem hj)
theorem int_full {w : World} (ty : TypeId) (x : Option Addr) (n : Nat) (xs : List Value) (hx : ReadAt w x xs) (hxl : xs.length = n) (q : Option Addr) (m c : Nat) (news : List Value) (hq : ReadAt w q news) (hl : news.length = m) (h1 : ∀ u ∈ news, u.oneCell' = true) (hb : n + m ≤ 100000000) :
    ∃ v' w', (Builtin.append_ #[22, 22] ty #[.slice x n n, .slice q m c]).run Try.prog w = .ok v' w' ∧ Full w 3 1 n m (xs ++ news) v' w' := by
  obtain ⟨i, hi, hz0, hz1, hz2⟩ := info_parts iinfo
  obtain ⟨p', c', w', hr, h⟩ := run_app_full (P := Try.prog) Try.underlying22 hi hz0 hz1 hz2 rfl (by decide) ty x n xs hx (by rw [Nat.mul_one]; exact hxl) (.slice q m c) m news (hq.src Try.underlying22 (by rw [Nat.mul_one]; exact hl) (by decide) h1 c) (by unfold maxLen; omega) (by omega)
  exact ⟨_, w', hr, p', c', rfl, h⟩
theorem int_own {w : World} (ty : TypeId) {base : Nat} (v : Value) (n : Nat) (xs : List Value) (hown : w.ownsRow base 3 1 v n xs) (q : Option Addr) (m c : Nat) (news : List Value) (hq : ReadAt w q news) (hl : news.length = m) (h1 : ∀ u ∈ news, u.oneCell' = true) (hb : n + m ≤ 100000000) (hbase : base ≤ w.heap.size) :
    ∃ v' w', (Builtin.append_ #[22, 22] ty #[v, .slice q m c]).run Try.prog w = .ok v' w' ∧ Owns w base 3 1 v (n + m) (xs ++ news) v' w' := by
  obtain ⟨i, hi, hz0, hz1, hz2⟩ := info_parts iinfo
  exact run_app_own (P := Try.prog) Try.underlying22 hi hz0 hz1 hz2 rfl (by decide) ty v n xs hown q m c news hq (by rw [Nat.mul_one]; exact hl) h1 (by unfold maxLen; omega) (by omega) hbase
/-- block g holds l, and behind it whatever room -/
def Row (w : World) (g : Nat) (l : List Int) : Prop := ∃ r : List Value, w.heap[g]? = some (.cells (iv l ++ r).toArray 3 (0, 0))
theorem Row.lt {w : World} {g : Nat} {l : List Int} (h : Row w g l) : g < w.heap.size := by obtain ⟨r, h⟩ := h; exact (Array.getElem?_eq_some_iff.1 h).1
theorem Row.keep {w w' : World} {g : Nat} {l : List Int} (h : Row w g l) (he : w'.heap[g]? = w.heap[g]?) : Row w' g l := by obtain ⟨r, h⟩ := h; exact ⟨r, he.trans h⟩
theorem Row.below {w w' : World} {g : Nat} {l : List Int} (h : Row w g l) (hb : Below w.heap.size w w') : Row w' g l := h.keep (hb.block g h.lt)
theorem Row.cell {w : World} {g : Nat} {l : List Int} (h : Row w g l) (j : Nat) (hj : j < l.length) : w.cell? ⟨g, j, none⟩ = some (.int .i64 l[j]) := by
  obtain ⟨r, h⟩ := h
  rw [cell_of_row _ _ _ _ _ _ h, List.getElem?_toArray, List.getElem?_append_left (by rw [iv_length]; exact hj)]
  simp [iv, hj]
theorem Row.frozen {w : World} {g : Nat} {l : List Int} (h : Row w g l) (j : Nat) : w.frozen? ⟨g, j, none⟩ = false := by
  obtain ⟨r, h⟩ := h
  exact frozen_of_row _ _ _ _ _ h
theorem Row.cells {w : World} {g : Nat} {l : List Int} (h : Row w g l) : CellsAt w (some ⟨g, 0, none⟩) (iv l) := fun j hj => by
  rw [iv_length] at hj
  exact ⟨g, 0, rfl, h.lt, by rw [Nat.zero_add, h.cell j hj, iv_at l j hj]⟩
theorem Row.set {w : World} {g : Nat} {l : List Int} (h : Row w g l) (i : Nat) (hi : i < l.length) (x : Int) : Row (w.setCell ⟨g, i, none⟩ (.int .i64 x)) g (l.set i x) := by
  obtain ⟨r, h⟩ := h
  refine ⟨r, ?_⟩
  rw [heap_setCell_same _ _ _ _ _ _ h]
  congr 2
  rw [List.setIfInBounds_toArray]
  congr 1
  rw [List.set_append_left _ _ (by rw [iv_length]; exact hi)]
  simp [iv]
theorem Row.far {w : World} {g : Nat} {l : List Int} (h : Row w g l) (a : Addr) (v : Value) (hne : g ≠ a.block) : Row (w.setCell a v) g l := h.keep (heap_setCell_other _ _ _ _ hne)
theorem row_of_owns {w : World} {base : Nat} {v : Value} {l : List Int} (h : w.ownsRow base 3 1 v l.length (iv l)) (h0 : 0 < l.length) : ∃ g c, v = .slice (some ⟨g, 0, none⟩) l.length c ∧ base ≤ g ∧ Row w g l ∧ l.length ≤ c := by
  rcases h.2 with ⟨_, hz⟩ | ⟨g, cap, cur, e, hb, hg, h1, h2, h3, h4⟩
  · omega
  · refine ⟨g, cap, e, hb, ⟨cur.toList.drop l.length, ?_⟩, h1⟩
    rw [Nat.mul_one] at h4
    rw [hg, ← h4, List.take_append_drop]
theorem row_of_full {w w' : World} {l : List Int} {v' : Value} (h0 : 0 < l.length) (h : Full w 3 1 0 l.length (iv l) v' w') : ∃ c, v' = .slice (some ⟨w.heap.size, 0, none⟩) l.length c ∧ Row w' w.heap.size l ∧ Below w.heap.size w w' ∧ l.length ≤ c := by
  obtain ⟨p', c', rfl, hr, hb, hcc, ho⟩ := h
  obtain ⟨ho, hp⟩ := ho h0
  rw [Nat.zero_add] at *
  subst hp
  obtain ⟨g, c, e, hb2, hg, _⟩ := row_of_owns ho h0
  injection e with e1 e2 e3
  injection e1 with e1
  injection e1 with e1
  subst e1
  exact ⟨c', rfl, hg, hb, hcc⟩
/-- what Clone gives -/
def Cloned (w : World) (l : List Int) (e : Ending) (w' : World) : Prop := ∃ p c, e = .returned (.slice p l.length c) ∧ l.length ≤ c ∧ CellsAt w' p (iv l) ∧ Below w.heap.size w w' ∧ (0 < l.length → p = some ⟨w.heap.size + 1, 0, none⟩ ∧ Row w' (w.heap.size + 1) l)
theorem row_any {w w' : World} {l : List Int} {v' : Value} (h : Full w 3 1 0 l.length (iv l) v' w') : ∃ p c, v' = .slice p l.length c ∧ l.length ≤ c ∧ CellsAt w' p (iv l) ∧ Below w.heap.size w w' ∧ (0 < l.length → p = some ⟨w.heap.size, 0, none⟩ ∧ Row w' w.heap.size l) := by
  by_cases h0 : 0 < l.length
  · obtain ⟨c, rfl, hr, hb, hcc⟩ := row_of_full h0 h
    exact ⟨_, c, rfl, hcc, hr.cells, hb, fun _ => ⟨rfl, hr⟩⟩
  · obtain ⟨p', c', rfl, hr, hb, hcc, ho⟩ := h
    exact ⟨p', c', by rw [Nat.zero_add], by omega, hr.cells, hb, fun h => absurd h h0⟩
set_option maxRecDepth 100000 in
set_option maxHeartbeats 1000000 in
theorem clone_ok (l : List Int) (p : Option Addr) (c : Nat) (w : World) (h : CellsAt w p (iv l)) (hl : l.length ≤ 1000000) :
    Calls Try.prog 23 #[.slice p l.length c] w (Cloned w l) := by
  have q22 : ∀ (w : World) (a : Option Addr) (n c n' c' : Nat), (binOp .eql 22 (.slice a n c) (.slice none n' c')).run Try.prog w = .ok (.bool a.isNone) w := fun w a n c n' c' => Lib.run_eql_slice_nil w _ _ a n c n' c' Try.underlying22
  cases p with
  | none =>
    obtain rfl : l = [] := by
      cases l with
      | nil => rfl
      | cons x y => obtain ⟨b, off, e, _⟩ := h 0 (by simp [iv]); cases e
    clear h
    go_enter Try.func23, Try.ntmps23
    go_wp2_with fail
    go_ret
    exact ⟨none, 0, rfl, Nat.le_refl _, fun j hj => absurd hj (by simp [iv]), Below.refl _ _, fun h => absurd h (by simp)⟩
  | some a =>
    have HR : Hid (∀ W, Below w.heap.size w W → ReadAt W (some a) (iv l)) := hid fun W hb => (h.below hb).read
    clear h
    go_enter Try.func23, Try.ntmps23
    go_wp2_with (at_builtin; refine wpList_app rfl _ _ _ rfl rfl rfl (int_full _ _ 0 [] (ReadAt.nil _ _) rfl _ l.length _ (iv l) (HR.out _ (below_alloc w _)) (iv_length l) (iv_one l) (by omega)) ?_)
    intro v' w1 hF
    obtain ⟨q, c', rfl, hcc, hr, hb, h0⟩ := row_any hF
    have HCC := hid hcc
    have HQ := hid hr
    have H0 := hid h0
    have HB := hid (show Below w.heap.size w w1 from ((below_alloc w _).trans (hb.mono (by simp))))
    clear hF hr hb h0 hcc
    go_wp2_with fail
    go_ret
    exact ⟨_, c', rfl, HCC.out, HQ.out, HB.out, fun h => by simpa using H0.out h⟩
end Go.Proofs.Ytnmhdlincgefeaa.Sl
