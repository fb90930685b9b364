/- Appends of whatever to whatever: onto a slice without room, and onto a row of the call's own. -/
import Derived.Test.YtnmhdlincgefeaaBkSmall
namespace Go.Proofs.Ytnmhdlincgefeaa.Bk
open Go.RowKit
open Go.Lib (hid)
open Go.Proofs.Ytnmhdlincgefeaa.Ky

/-- cells that are read from a place on -/
def ReadAt (w : World) (p : Option Addr) (xs : List Value) : Prop := ∀ j u, xs[j]? = some u → ∃ b off, p = some ⟨b, off, none⟩ ∧ b < w.heap.size ∧ w.cell? ⟨b, off + j, none⟩ = some u
theorem ReadAt.below {w w' : World} {p : Option Addr} {xs : List Value} (h : ReadAt w p xs) (hb : Below w.heap.size w w') : ReadAt w' p xs := fun j u hj => by
  obtain ⟨b, off, e, hl, hc⟩ := h j u hj
  exact ⟨b, off, e, Nat.lt_of_lt_of_le hl hb.size, (hb.cell (p := ⟨b, _, none⟩) hl).trans hc⟩
theorem ReadAt.nil (w : World) (p : Option Addr) : ReadAt w p [] := fun j u hj => absurd hj (by simp)
theorem ReadAt.some_at {w : World} {p : Option Addr} {xs : List Value} (h : ReadAt w p xs) (h0 : 0 < xs.length) : ∃ b off, p = some ⟨b, off, none⟩ ∧ ∀ j u, xs[j]? = some u → w.cell? ((⟨b, off, none⟩ : Addr).add j) = some u := by
  obtain ⟨b, off, e, _, _⟩ := h 0 _ (List.getElem?_eq_getElem h0)
  refine ⟨b, off, e, fun j u hj => ?_⟩
  obtain ⟨b', off', e', _, hc⟩ := h j u hj
  rw [e] at e'
  cases e'
  rw [addr_add]; exact hc
theorem ReadAt.src {w : World} {p : Option Addr} {news : List Value} {P : Program} {t e : TypeId} {size m : Nat} (ht : P.underlying t = some (.slice e)) (h : ReadAt w p news) (hl : news.length = m * size) (hz : 0 < size) (h1 : ∀ u ∈ news, u.oneCell' = true) (c : Nat) : Src P size t (.slice p m c) m news w := by
  by_cases hm : m = 0
  · subst hm
    have hn : news = [] := List.length_eq_zero_iff.1 (by omega)
    subst hn
    cases p with
    | none => exact Src.ofNil w ht c
    | some a => exact Src.ofSlice w ht a 0 c [] (by simp) (fun j u hj => absurd hj (by simp)) (fun u hu => absurd hu (by simp))
  · obtain ⟨b, off, rfl, hc⟩ := h.some_at (by rw [hl]; exact Nat.mul_pos (by omega) hz)
    exact Src.ofSlice w ht _ m c news hl hc h1
/-- onto a slice that has no room -/
theorem run_app_full {P : Program} {w : World} {t e : TypeId} {i : TypeInfo} {z : Value} {size bytes : Nat} (ht : P.underlying t = some (.slice e)) (hi : P.info? e = some i) (hz : i.zero = some z)
    (hsize : i.size = size) (hby : i.bytes = bytes) (hzs : z.cells.size = size) (hsz : 0 < size) (ty : TypeId) (x : Option Addr) (n : Nat) (xs : List Value) (hx : ReadAt w x xs) (hxl : xs.length = n * size)
    (y : Value) (m : Nat) (news : List Value) (hs : Src P size t y m news w) (h63 : n + m ≤ maxLen) (hbytes : (n + m) * bytes ≤ 140737488355328) :
    ∃ p' c' w', (Builtin.append_ #[t, t] ty #[.slice x n n, y]).run P w = .ok (.slice p' (n + m) c') w' ∧ ReadAt w' p' (xs ++ news) ∧ Below w.heap.size w w' ∧ n + m ≤ c' ∧ (0 < m → w'.ownsRow w.heap.size e size (.slice p' (n + m) c') (n + m) (xs ++ news) ∧ p' = some ⟨w.heap.size, 0, none⟩) := by
  subst hsize
  subst hby
  by_cases hm : m = 0
  · subst hm
    have hn : news = [] := List.length_eq_zero_iff.1 (by have := hs.newsLen; omega)
    subst hn
    have hr : (Builtin.append_ #[t, t] ty #[.slice x n n, y]).run P w = .ok (.slice x (n + 0) n) w := by
      have hl := hs.len
      have hc := hs.cells
      rcases hs.kind with ⟨_, _⟩ | hk
      · cases x with
        | none =>
          have : n = 0 := by
            by_cases h0 : 0 < xs.length
            · obtain ⟨b, off, e1, _⟩ := hx.some_at h0; cases e1
            · rcases Nat.eq_zero_or_pos n with h | h
              · exact h
              · exact absurd (Nat.mul_pos h hsz) (by omega)
          subst this
          simp [Builtin.append_, run_underlying ht, sizeOf, typeInfo, hi, hl, hc]
        | some a =>
          simp [Builtin.append_, run_underlying ht, sizeOf, typeInfo, hi, hl, hc, storeCells]
      · rw [ht] at hk; cases hk
    refine ⟨x, n, w, hr, by rw [List.append_nil]; exact hx, Below.refl _ _, Nat.le_refl _, fun h => absurd h (by omega)⟩
  · have hold : (Builtin.firstCells i.size n (.slice x n n)).run P w.drew = .ok xs.toArray w.drew := by
      by_cases h0 : 0 < xs.length
      · obtain ⟨b, off, rfl, hc⟩ := hx.some_at h0
        exact run_firstCells_some w.drew i.size n _ n n xs hxl (by simpa using hc)
      · have hxn : xs = [] := List.length_eq_zero_iff.1 (by omega)
        subst hxn
        have hn0 : n = 0 := by
          rcases Nat.eq_zero_or_pos n with h | h
          · exact h
          · have := Nat.mul_pos h hsz; simp at hxl; omega
        subst hn0
        cases x with
        | none => exact run_firstCells_none w.drew i.size 0 0 0
        | some a => exact run_firstCells_some w.drew i.size 0 a 0 0 [] (by simp) (fun j u hj => absurd hj (by simp))
    have hr := run_append_grow_src (P := P) w t t ty e i z ht hi hz x n n xs hold y m news hs (by omega) (by unfold maxLen at h63; omega) (growslice_fits (by omega) hbytes)
    have hge := grownCap_ge w (n + m) n e
    have hcm := grownCap_le_maxLen w (n + m) n e h63
    generalize grownCap w (n + m) n e = cap at hr hge hcm
    have hsize : ((xs ++ news).toArray ++ Builtin.zeroCells z.cells (cap - (n + m))).size = cap * i.size := by
      have h1 := hs.newsLen
      have h2 : (Builtin.zeroCells z.cells (cap - (n + m))).size = (cap - (n + m)) * i.size := by
        rw [← hzs]
        simp [Builtin.zeroCells]
      rw [Array.size_append, h2, List.size_toArray, List.length_append, hxl, h1, ← Nat.add_mul, ← Nat.add_mul]
      congr 1; omega
    have htake : ((xs ++ news).toArray ++ Builtin.zeroCells z.cells (cap - (n + m))).toList.take ((n + m) * i.size) = xs ++ news := by
      rw [Array.toList_append]
      have hl : (xs ++ news).length = (n + m) * i.size := by rw [List.length_append, hxl, hs.newsLen, Nat.add_mul]
      rw [← hl]
      exact List.take_left
    have hheap : (w.drew.alloc (.cells ((xs ++ news).toArray ++ Builtin.zeroCells z.cells (cap - (n + m))) e)).heap[w.heap.size]? = some (.cells ((xs ++ news).toArray ++ Builtin.zeroCells z.cells (cap - (n + m))) e (0, 0)) := heap_alloc_new w.drew _
    refine ⟨_, _, _, hr, fun j u hj => ⟨w.heap.size, 0, rfl, by simp, ?_⟩, ((Below.refl _ _).drew.alloc (Nat.le_refl _) _), hge, fun _ => ⟨⟨by rw [List.length_append, hxl, hs.newsLen, Nat.add_mul], .inr ⟨w.heap.size, cap, _, rfl, Nat.le_refl _, hheap, hge, hcm, hsize, htake⟩⟩, rfl⟩⟩
    rw [cell_of_row _ _ _ _ _ _ hheap, Nat.zero_add]
    have hjl : j < (n + m) * i.size := by
      have := (List.getElem?_eq_some_iff.1 hj).1
      rw [List.length_append, hxl, hs.newsLen, ← Nat.add_mul] at this
      exact this
    rw [← htake, List.getElem?_take, if_pos hjl, Array.getElem?_toList] at hj
    exact hj
/-- onto a row of the call's own -/
theorem run_app_own {P : Program} {w : World} {t e : TypeId} {i : TypeInfo} {z : Value} {size bytes : Nat} (ht : P.underlying t = some (.slice e)) (hi : P.info? e = some i) (hz : i.zero = some z)
    (hsize : i.size = size) (hby : i.bytes = bytes) (hzs : z.cells.size = size) (hsz : 0 < size) (ty : TypeId) {base : Nat} (v : Value) (n : Nat) (xs : List Value) (hown : w.ownsRow base e size v n xs)
    (q : Option Addr) (m c : Nat) (news : List Value) (hq : ReadAt w q news) (hl : news.length = m * size) (h1 : ∀ u ∈ news, u.oneCell' = true) (h63 : n + m ≤ maxLen) (hbytes : (n + m) * bytes ≤ 140737488355328) (hbase : base ≤ w.heap.size) :
    ∃ v' w', (Builtin.append_ #[t, t] ty #[v, .slice q m c]).run P w = .ok v' w' ∧ w'.ownsRow base e size v' (n + m) (xs ++ news) ∧ w.grownBy w' v.ownBlock ∧ (v'.ownBlock = v.ownBlock ∨ v'.ownBlock = some w.heap.size) := by
  by_cases hm : m = 0
  · subst hm
    have hn : news = [] := List.length_eq_zero_iff.1 (by omega)
    subst hn
    have hr : (Builtin.append_ #[t, t] ty #[v, .slice q 0 c]).run P w = .ok v w := by
      subst hsize
      rcases hown.2 with ⟨rfl, rfl⟩ | ⟨g, cap, cur, rfl, _, _, hle, _⟩
      · cases q <;> simp [Builtin.append_, run_underlying ht, sizeOf, typeInfo, hi, Builtin.lenOf, Builtin.firstCells, loadCells, loadCellsFrom]
      · cases q <;> simp [Builtin.append_, run_underlying ht, sizeOf, typeInfo, hi, Builtin.lenOf, Builtin.firstCells, loadCells, loadCellsFrom, storeCells, hle]
    refine ⟨v, w, hr, by rw [List.append_nil]; exact hown, ⟨rfl, rfl, rfl, Nat.le_refl _, fun _ _ _ => rfl⟩, .inl rfl⟩
  · obtain ⟨b, off, rfl, hc⟩ := hq.some_at (by rw [hl]; exact Nat.mul_pos (by omega) hsz)
    obtain ⟨g, cap, w', hr, h2, h3, h4, _⟩ := run_append_lies (P := P) w t ty base e i z size bytes ht hi hz hsize hby hzs hsz v n xs hown ⟨b, off, none⟩ m c news hl hc h1 (by omega) h63 hbytes hbase w.heap.size rfl
    refine ⟨_, w', hr, h2, h3, ?_⟩
    rcases h4 with h4 | h4
    · exact .inl h4.symm
    · right; rw [h4]; rfl
section
variable {P : Program} {w : World} {ops : Array Oper} {o : Oper} {a : Act} {Q : Exit → Act → World → Prop}
theorem wp_app_run {K : Act → World → Prop} (s x : Operand) (t : TypeId) (ho : o.op = .call { callee := .builtin .append, args := #[s, x], argTypes := #[t, t] }) {v y v' : Value} {w' : World} (hs : a.eval s = v) (hx : a.eval x = y)
    (hr : (Builtin.append_ #[t, t] o.type #[v, y]).run P w = .ok v' w') (h : K (a.put o.dst v') w') : o.wp P a w K Q := by
  unfold Oper.wp execOp
  simp only [ho, resolve, invoke, builtin, Sem.run_bind, Sem.run_pure, Result.andThen_ok, List.map_toArray, List.map_cons, List.map_nil, hs, hx, hr]
  exact h
/-- an append at the walk: what it gives is told by 'F' -/
theorem wpList_app {rest : List Oper} (hgd : o.guard = none) (s x : Operand) (t : TypeId) (ho : o.op = .call { callee := .builtin .append, args := #[s, x], argTypes := #[t, t] }) {v y : Value} (hs : a.eval s = v) (hx : a.eval x = y) {F : Value → World → Prop}
    (hr : ∃ v' w', (Builtin.append_ #[t, t] o.type #[v, y]).run P w = .ok v' w' ∧ F v' w') (h : ∀ v' w', F v' w' → wpList P ops Q rest (a.put o.dst v') w') : wpList P ops Q (o :: rest) a w := by
  obtain ⟨v', w', hr, hf⟩ := hr
  exact wpList_plain hgd fun _ hK => wp_app_run s x t ho hs hx hr (hK _ _ (h v' w' hf))
theorem step_app {K : Act → World → Prop} {E : Prop} (hgd : o.guard = none) (s x : Operand) (t : TypeId) (ho : o.op = .call { callee := .builtin .append, args := #[s, x], argTypes := #[t, t] }) {v y : Value} (hs : a.eval s = v) (hx : a.eval x = y) {F : Value → World → Prop}
    (hr : ∃ v' w', (Builtin.append_ #[t, t] o.type #[v, y]).run P w = .ok v' w' ∧ F v' w') (h : ∀ v' w', F v' w' → K (a.put o.dst v') w') :
    if Region.wanted o (yielded ops a.tmps) = true then Oper.wp P o a w K Q else E := by
  have hw : Region.wanted o (yielded ops a.tmps) = true := by simp [Region.wanted, hgd]
  rw [if_pos hw]
  obtain ⟨v', w', hr, hf⟩ := hr
  exact wp_app_run s x t ho hs hx hr (h v' w' hf)
end
/-- what an append onto a slice without room gives -/
def Full (w : World) (e : TypeId) (size n m : Nat) (ys : List Value) (v' : Value) (w' : World) : Prop :=
  ∃ p' c', v' = .slice p' (n + m) c' ∧ ReadAt w' p' ys ∧ Below w.heap.size w w' ∧ n + m ≤ c' ∧ (0 < m → w'.ownsRow w.heap.size e size (.slice p' (n + m) c') (n + m) ys ∧ p' = some ⟨w.heap.size, 0, none⟩)
/-- what an append onto a row of the call's own gives -/
def Owns (w : World) (base : Nat) (e : TypeId) (size : Nat) (v : Value) (n : Nat) (ys : List Value) (v' : Value) (w' : World) : Prop :=
  w'.ownsRow base e size v' n ys ∧ w.grownBy w' v.ownBlock ∧ (v'.ownBlock = v.ownBlock ∨ v'.ownBlock = some w.heap.size)
theorem kinfo : (Try.prog.info? 55).map (fun i => (i.zero, i.size, i.bytes)) = some (some (.int .u32 0), 1, 4) := by kernel_rfl
/-- a point's cells -/
def kl (l : List Nat) : List Value := l.map fun (x : Nat) => Value.int .u32 (x : Int)
theorem kl_length (l : List Nat) : (kl l).length = l.length := by simp [kl]
theorem kl_one (l : List Nat) : ∀ u ∈ kl l, u.oneCell' = true := fun u hu => by
  obtain ⟨x, _, rfl⟩ := List.mem_map.1 hu
  rfl
theorem Pt.read {w : World} {p : Option Addr} {l : List Nat} (h : Pt w p l) : ReadAt w p (kl l) := fun j u hj => by
  have hjl : j < l.length := by have := (List.getElem?_eq_some_iff.1 hj).1; rwa [kl_length] at this
  obtain ⟨b, off, e, hb, hc⟩ := h.cells j hjl
  refine ⟨b, off, e, hb, hc.trans ?_⟩
  rw [← hj]; simp [kl, hjl]
theorem key_full {w : World} (ty : TypeId) (x : Option Addr) (q : Option Addr) (l : List Nat) (c : Nat) (hq : Pt w q l) (hb : l.length ≤ 100000000) :
    ∃ v' w', (Builtin.append_ #[41, 41] ty #[.slice x 0 0, .slice q l.length c]).run Try.prog w = .ok v' w' ∧ Full w 55 1 0 l.length (kl l) v' w' := by
  obtain ⟨i, hi, hz0, hz1, hz2⟩ := info_parts kinfo
  obtain ⟨p', c', w', hr, h⟩ := run_app_full (P := Try.prog) Try.underlying41 hi hz0 hz1 hz2 rfl (by decide) ty x 0 [] (ReadAt.nil w x) (by simp) (.slice q l.length c) l.length (kl l) ((Pt.read hq).src Try.underlying41 (by rw [kl_length, Nat.mul_one]) (by decide) (kl_one l) c) (by unfold maxLen; omega) (by omega)
  exact ⟨_, w', hr, p', c', rfl, h⟩
/-- a point that is new -/
theorem new_pt {w w' : World} {l : List Nat} {v' : Value} (hf : ∀ j, (hj : j < l.length) → l[j] < 4294967296) (h : Full w 55 1 0 l.length (kl l) v' w') :
    ∃ p' c', v' = .slice p' l.length c' ∧ PtD (fun k => k < w.heap.size) w' p' l ∧ Below w.heap.size w w' := by
  obtain ⟨p', c', rfl, hr, hb, _, ho⟩ := h
  refine ⟨p', c', by rw [Nat.zero_add], ⟨fun j hj => ?_, hf⟩, hb⟩
  obtain ⟨b, off, e, hlt, hc⟩ := hr j (.int .u32 (l[j] : Int)) (by simp [kl, hj])
  refine ⟨b, off, e, hlt, ?_, hc⟩
  have := (ho (by omega)).2
  rw [e] at this
  injection this with this
  injection this with h1
  omega
end Go.Proofs.Ytnmhdlincgefeaa.Bk
