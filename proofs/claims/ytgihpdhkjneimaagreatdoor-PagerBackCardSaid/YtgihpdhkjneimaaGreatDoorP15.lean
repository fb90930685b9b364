/- Merged out of ApGen, EnApp, JnComm, JnMeth, JnCom2. -/
import Derived.Test.YtgihpdhkjneimaaGreatDoorRows
import Derived.WalkKit
import Derived.WalkSmall
import Derived.Lib.Hide
import Derived.LoopTactic
import Derived.RegionTactic
import Derived.ChangeAlike
import Derived.Below
import Derived.Deep.AppendLies
import Derived.Deep.AppendSrc
import Derived.Test.YtgihpdhkjneimaaGreatDoorP13
import Derived.Test.YtgihpdhkjneimaaGreatDoorP14
/- Appends of whatever to whatever: onto a slice without room, and onto a row of the call's own (of no package: out of BkApp). -/
namespace Go.Proofs.YtgihpdhkjneimaaGreatDoor.Ap
open Go.RowKit
open Go.Lib (hid)
theorem addr_add (b o i : Nat) : (⟨b, o, none⟩ : Addr).add i = ⟨b, o + i, none⟩ := by unfold Addr.add; split <;> simp_all
/-- cells that are read from a place on -/
def ReadAt (w : World) (p : Option Addr) (xs : List Value) : Prop := ∀ j u, xs[j]? = some u → ∃ b off, p = some ⟨b, off, none⟩ ∧ b < w.heap.size ∧ w.cell? ⟨b, off + j, none⟩ = some u
theorem ReadAt.below {w w' : World} {p : Option Addr} {xs : List Value} (h : ReadAt w p xs) (hb : Below w.heap.size w w') : ReadAt w' p xs := fun j u hj => by
  obtain ⟨b, off, e, hl, hc⟩ := h j u hj
  exact ⟨b, off, e, Nat.lt_of_lt_of_le hl hb.size, (hb.cell (p := ⟨b, _, none⟩) hl).trans hc⟩
theorem ReadAt.nil (w : World) (p : Option Addr) : ReadAt w p [] := fun j u hj => absurd hj (by simp)
theorem ReadAt.some_at {w : World} {p : Option Addr} {xs : List Value} (h : ReadAt w p xs) (h0 : 0 < xs.length) : ∃ b off, p = some ⟨b, off, none⟩ ∧ ∀ j u, xs[j]? = some u → w.cell? ((⟨b, off, none⟩ : Addr).add j) = some u := by
  obtain ⟨b, off, e, _, _⟩ := h 0 _ (List.getElem?_eq_getElem h0)
  refine ⟨b, off, e, fun j u hj => ?_⟩
  obtain ⟨b', off', e', _, hc⟩ := h j u hj
  rw [e] at e'
  cases e'
  rw [addr_add]; exact hc
theorem ReadAt.src {w : World} {p : Option Addr} {news : List Value} {P : Program} {t e : TypeId} {size m : Nat} (ht : P.underlying t = some (.slice e)) (h : ReadAt w p news) (hl : news.length = m * size) (hz : 0 < size) (h1 : ∀ u ∈ news, u.oneCell' = true) (c : Nat) : Src P size t (.slice p m c) m news w := by
  by_cases hm : m = 0
  · subst hm
    have hn : news = [] := List.length_eq_zero_iff.1 (by omega)
    subst hn
    cases p with
    | none => exact Src.ofNil w ht c
    | some a => exact Src.ofSlice w ht a 0 c [] (by simp) (fun j u hj => absurd hj (by simp)) (fun u hu => absurd hu (by simp))
  · obtain ⟨b, off, rfl, hc⟩ := h.some_at (by rw [hl]; exact Nat.mul_pos (by omega) hz)
    exact Src.ofSlice w ht _ m c news hl hc h1
/-- onto a slice that has no room -/
theorem run_app_full {P : Program} {w : World} {t e : TypeId} {i : TypeInfo} {z : Value} {size bytes : Nat} (ht : P.underlying t = some (.slice e)) (hi : P.info? e = some i) (hz : i.zero = some z)
    (hsize : i.size = size) (hby : i.bytes = bytes) (hzs : z.cells.size = size) (hsz : 0 < size) (ty : TypeId) (x : Option Addr) (n : Nat) (xs : List Value) (hx : ReadAt w x xs) (hxl : xs.length = n * size)
    (y : Value) (m : Nat) (news : List Value) (hs : Src P size t y m news w) (h63 : n + m ≤ maxLen) (hbytes : (n + m) * bytes ≤ 140737488355328) :
    ∃ p' c' w', (Builtin.append_ #[t, t] ty #[.slice x n n, y]).run P w = .ok (.slice p' (n + m) c') w' ∧ ReadAt w' p' (xs ++ news) ∧ Below w.heap.size w w' ∧ n + m ≤ c' ∧ (0 < m → w'.ownsRow w.heap.size e size (.slice p' (n + m) c') (n + m) (xs ++ news) ∧ p' = some ⟨w.heap.size, 0, none⟩) := by
  subst hsize
  subst hby
  by_cases hm : m = 0
  · subst hm
    have hn : news = [] := List.length_eq_zero_iff.1 (by have := hs.newsLen; omega)
    subst hn
    have hr : (Builtin.append_ #[t, t] ty #[.slice x n n, y]).run P w = .ok (.slice x (n + 0) n) w := by
      have hl := hs.len
      have hc := hs.cells
      rcases hs.kind with ⟨_, _⟩ | hk
      · cases x with
        | none =>
          have : n = 0 := by
            by_cases h0 : 0 < xs.length
            · obtain ⟨b, off, e1, _⟩ := hx.some_at h0; cases e1
            · rcases Nat.eq_zero_or_pos n with h | h
              · exact h
              · exact absurd (Nat.mul_pos h hsz) (by omega)
          subst this
          simp [Builtin.append_, run_underlying ht, sizeOf, typeInfo, hi, hl, hc]
        | some a =>
          simp [Builtin.append_, run_underlying ht, sizeOf, typeInfo, hi, hl, hc, storeCells]
      · rw [ht] at hk; cases hk
    refine ⟨x, n, w, hr, by rw [List.append_nil]; exact hx, Below.refl _ _, Nat.le_refl _, fun h => absurd h (by omega)⟩
  · have hold : (Builtin.firstCells i.size n (.slice x n n)).run P w.drew = .ok xs.toArray w.drew := by
      by_cases h0 : 0 < xs.length
      · obtain ⟨b, off, rfl, hc⟩ := hx.some_at h0
        exact run_firstCells_some w.drew i.size n _ n n xs hxl (by simpa using hc)
      · have hxn : xs = [] := List.length_eq_zero_iff.1 (by omega)
        subst hxn
        have hn0 : n = 0 := by
          rcases Nat.eq_zero_or_pos n with h | h
          · exact h
          · have := Nat.mul_pos h hsz; simp at hxl; omega
        subst hn0
        cases x with
        | none => exact run_firstCells_none w.drew i.size 0 0 0
        | some a => exact run_firstCells_some w.drew i.size 0 a 0 0 [] (by simp) (fun j u hj => absurd hj (by simp))
    have hr := run_append_grow_src (P := P) w t t ty e i z ht hi hz x n n xs hold y m news hs (by omega) (by unfold maxLen at h63; omega) (growslice_fits (by omega) hbytes)
    have hge := grownCap_ge w (n + m) n e
    have hcm := grownCap_le_maxLen w (n + m) n e h63
    generalize grownCap w (n + m) n e = cap at hr hge hcm
    have hsize : ((xs ++ news).toArray ++ Builtin.zeroCells z.cells (cap - (n + m))).size = cap * i.size := by
      have h1 := hs.newsLen
      have h2 : (Builtin.zeroCells z.cells (cap - (n + m))).size = (cap - (n + m)) * i.size := by
        rw [← hzs]
        simp [Builtin.zeroCells]
      rw [Array.size_append, h2, List.size_toArray, List.length_append, hxl, h1, ← Nat.add_mul, ← Nat.add_mul]
      congr 1; omega
    have htake : ((xs ++ news).toArray ++ Builtin.zeroCells z.cells (cap - (n + m))).toList.take ((n + m) * i.size) = xs ++ news := by
      rw [Array.toList_append]
      have hl : (xs ++ news).length = (n + m) * i.size := by rw [List.length_append, hxl, hs.newsLen, Nat.add_mul]
      rw [← hl]
      exact List.take_left
    have hheap : (w.drew.alloc (.cells ((xs ++ news).toArray ++ Builtin.zeroCells z.cells (cap - (n + m))) e)).heap[w.heap.size]? = some (.cells ((xs ++ news).toArray ++ Builtin.zeroCells z.cells (cap - (n + m))) e (0, 0)) := heap_alloc_new w.drew _
    refine ⟨_, _, _, hr, fun j u hj => ⟨w.heap.size, 0, rfl, by simp, ?_⟩, ((Below.refl _ _).drew.alloc (Nat.le_refl _) _), hge, fun _ => ⟨⟨by rw [List.length_append, hxl, hs.newsLen, Nat.add_mul], .inr ⟨w.heap.size, cap, _, rfl, Nat.le_refl _, hheap, hge, hcm, hsize, htake⟩⟩, rfl⟩⟩
    rw [cell_of_row _ _ _ _ _ _ hheap, Nat.zero_add]
    have hjl : j < (n + m) * i.size := by
      have := (List.getElem?_eq_some_iff.1 hj).1
      rw [List.length_append, hxl, hs.newsLen, ← Nat.add_mul] at this
      exact this
    rw [← htake, List.getElem?_take, if_pos hjl, Array.getElem?_toList] at hj
    exact hj
/-- onto a row of the call's own -/
theorem run_app_own {P : Program} {w : World} {t e : TypeId} {i : TypeInfo} {z : Value} {size bytes : Nat} (ht : P.underlying t = some (.slice e)) (hi : P.info? e = some i) (hz : i.zero = some z)
    (hsize : i.size = size) (hby : i.bytes = bytes) (hzs : z.cells.size = size) (hsz : 0 < size) (ty : TypeId) {base : Nat} (v : Value) (n : Nat) (xs : List Value) (hown : w.ownsRow base e size v n xs)
    (q : Option Addr) (m c : Nat) (news : List Value) (hq : ReadAt w q news) (hl : news.length = m * size) (h1 : ∀ u ∈ news, u.oneCell' = true) (h63 : n + m ≤ maxLen) (hbytes : (n + m) * bytes ≤ 140737488355328) (hbase : base ≤ w.heap.size) :
    ∃ v' w', (Builtin.append_ #[t, t] ty #[v, .slice q m c]).run P w = .ok v' w' ∧ w'.ownsRow base e size v' (n + m) (xs ++ news) ∧ w.grownBy w' v.ownBlock ∧ (v'.ownBlock = v.ownBlock ∨ v'.ownBlock = some w.heap.size) := by
  by_cases hm : m = 0
  · subst hm
    have hn : news = [] := List.length_eq_zero_iff.1 (by omega)
    subst hn
    have hr : (Builtin.append_ #[t, t] ty #[v, .slice q 0 c]).run P w = .ok v w := by
      subst hsize
      rcases hown.2 with ⟨rfl, rfl⟩ | ⟨g, cap, cur, rfl, _, _, hle, _⟩
      · cases q <;> simp [Builtin.append_, run_underlying ht, sizeOf, typeInfo, hi, Builtin.lenOf, Builtin.firstCells, loadCells, loadCellsFrom]
      · cases q <;> simp [Builtin.append_, run_underlying ht, sizeOf, typeInfo, hi, Builtin.lenOf, Builtin.firstCells, loadCells, loadCellsFrom, storeCells, hle]
    refine ⟨v, w, hr, by rw [List.append_nil]; exact hown, ⟨rfl, rfl, rfl, Nat.le_refl _, fun _ _ _ => rfl⟩, .inl rfl⟩
  · obtain ⟨b, off, rfl, hc⟩ := hq.some_at (by rw [hl]; exact Nat.mul_pos (by omega) hsz)
    obtain ⟨g, cap, w', hr, h2, h3, h4, _⟩ := run_append_lies (P := P) w t ty base e i z size bytes ht hi hz hsize hby hzs hsz v n xs hown ⟨b, off, none⟩ m c news hl hc h1 (by omega) h63 hbytes hbase w.heap.size rfl
    refine ⟨_, w', hr, h2, h3, ?_⟩
    rcases h4 with h4 | h4
    · exact .inl h4.symm
    · right; rw [h4]; rfl
section
variable {P : Program} {w : World} {ops : Array Oper} {o : Oper} {a : Act} {Q : Exit → Act → World → Prop}
theorem wp_app_run {K : Act → World → Prop} (s x : Operand) (t : TypeId) (ho : o.op = .call { callee := .builtin .append, args := #[s, x], argTypes := #[t, t] }) {v y v' : Value} {w' : World} (hs : a.eval s = v) (hx : a.eval x = y)
    (hr : (Builtin.append_ #[t, t] o.type #[v, y]).run P w = .ok v' w') (h : K (a.put o.dst v') w') : o.wp P a w K Q := by
  unfold Oper.wp execOp
  simp only [ho, resolve, invoke, builtin, Sem.run_bind, Sem.run_pure, Result.andThen_ok, List.map_toArray, List.map_cons, List.map_nil, hs, hx, hr]
  exact h
/-- an append at the walk: what it gives is told by 'F' -/
theorem wpList_app {rest : List Oper} (hgd : o.guard = none) (s x : Operand) (t : TypeId) (ho : o.op = .call { callee := .builtin .append, args := #[s, x], argTypes := #[t, t] }) {v y : Value} (hs : a.eval s = v) (hx : a.eval x = y) {F : Value → World → Prop}
    (hr : ∃ v' w', (Builtin.append_ #[t, t] o.type #[v, y]).run P w = .ok v' w' ∧ F v' w') (h : ∀ v' w', F v' w' → wpList P ops Q rest (a.put o.dst v') w') : wpList P ops Q (o :: rest) a w := by
  obtain ⟨v', w', hr, hf⟩ := hr
  exact wpList_plain hgd fun _ hK => wp_app_run s x t ho hs hx hr (hK _ _ (h v' w' hf))
theorem step_app {K : Act → World → Prop} {E : Prop} (hgd : o.guard = none) (s x : Operand) (t : TypeId) (ho : o.op = .call { callee := .builtin .append, args := #[s, x], argTypes := #[t, t] }) {v y : Value} (hs : a.eval s = v) (hx : a.eval x = y) {F : Value → World → Prop}
    (hr : ∃ v' w', (Builtin.append_ #[t, t] o.type #[v, y]).run P w = .ok v' w' ∧ F v' w') (h : ∀ v' w', F v' w' → K (a.put o.dst v') w') :
    if Region.wanted o (yielded ops a.tmps) = true then Oper.wp P o a w K Q else E := by
  have hw : Region.wanted o (yielded ops a.tmps) = true := by simp [Region.wanted, hgd]
  rw [if_pos hw]
  obtain ⟨v', w', hr, hf⟩ := hr
  exact wp_app_run s x t ho hs hx hr (h v' w' hf)
end
/-- what an append onto a slice without room gives -/
def Full (w : World) (e : TypeId) (size n m : Nat) (ys : List Value) (v' : Value) (w' : World) : Prop :=
  ∃ p' c', v' = .slice p' (n + m) c' ∧ ReadAt w' p' ys ∧ Below w.heap.size w w' ∧ n + m ≤ c' ∧ (0 < m → w'.ownsRow w.heap.size e size (.slice p' (n + m) c') (n + m) ys ∧ p' = some ⟨w.heap.size, 0, none⟩)
/-- what an append onto a row of the call's own gives -/
def Owns (w : World) (base : Nat) (e : TypeId) (size : Nat) (v : Value) (n : Nat) (ys : List Value) (v' : Value) (w' : World) : Prop :=
  w'.ownsRow base e size v' n ys ∧ w.grownBy w' v.ownBlock ∧ (v'.ownBlock = v.ownBlock ∨ v'.ownBlock = some w.heap.size)
theorem info_parts {P : Program} {e : TypeId} {z : Value} {s n : Nat} (h : (P.info? e).map (fun i => (i.zero, i.size, i.bytes)) = some (some z, s, n)) : ∃ i, P.info? e = some i ∧ i.zero = some z ∧ i.size = s ∧ i.bytes = n := by
  obtain ⟨i, h1, h2⟩ := Option.map_eq_some_iff.1 h
  simp only [Prod.mk.injEq] at h2
  exact ⟨i, h1, h2.1, h2.2.1, h2.2.2⟩
end Go.Proofs.YtgihpdhkjneimaaGreatDoor.Ap

/- A list of pages, copied by an append into new memory; one body of it stored. -/
namespace Go.Proofs.YtgihpdhkjneimaaGreatDoor.En
open Go.RowKit
open Go.Lib (hid)
open Go.Proofs.YtgihpdhkjneimaaGreatDoor.Ap

def flatP (L : List PageT) : List Value := L.flatMap fun p => [.int .i64 p.1, .int .i64 p.2.1, .string p.2.2]
theorem flatP_cons (p : PageT) (L : List PageT) : flatP (p :: L) = .int .i64 p.1 :: .int .i64 p.2.1 :: .string p.2.2 :: flatP L := rfl
theorem flatP_length (L : List PageT) : (flatP L).length = L.length * 3 := by
  induction L with
  | nil => rfl
  | cons p L ih => rw [flatP_cons, List.length_cons, List.length_cons, List.length_cons, ih, List.length_cons]; omega
theorem flatP_one (L : List PageT) : ∀ u ∈ flatP L, u.oneCell' = true := fun u hu => by
  obtain ⟨p, _, h⟩ := List.mem_flatMap.1 hu
  simp only [List.mem_cons, List.not_mem_nil, or_false] at h
  rcases h with rfl | rfl | rfl <;> rfl
theorem flatP_at (L : List PageT) : ∀ i (h : i < L.length), (flatP L)[i * 3]? = some (.int .i64 L[i].1) ∧ (flatP L)[i * 3 + 1]? = some (.int .i64 L[i].2.1) ∧ (flatP L)[i * 3 + 2]? = some (.string L[i].2.2) := by
  induction L with
  | nil => intro i h; simp at h
  | cons p L ih =>
    intro i h
    rw [flatP_cons]
    cases i with
    | zero => exact ⟨rfl, rfl, rfl⟩
    | succ i =>
      have := ih i (by simpa using h)
      rw [show (i + 1) * 3 = i * 3 + 1 + 1 + 1 by omega]
      simpa using this
theorem Pgs.read {w : World} {p : Option Addr} {L : List PageT} (h : Pgs w p L) : ReadAt w p (flatP L) := fun j u hj => by
  have hjl : j < L.length * 3 := by rw [← flatP_length]; exact (List.getElem?_eq_some_iff.1 hj).1
  obtain ⟨i, r, rfl, hr⟩ : ∃ i r, j = i * 3 + r ∧ r < 3 := ⟨j / 3, j % 3, by omega, Nat.mod_lt _ (by decide)⟩
  have hi : i < L.length := by omega
  obtain ⟨b, off, e, hb, c0, c1, c2⟩ := h i hi
  obtain ⟨a0, a1, a2⟩ := flatP_at L i hi
  refine ⟨b, off, e, hb, ?_⟩
  rcases (by omega : r = 0 ∨ r = 1 ∨ r = 2) with rfl | rfl | rfl
  · rw [Nat.add_zero] at hj ⊢; rw [a0] at hj; cases hj; exact c0
  · rw [a1] at hj; cases hj; rw [← Nat.add_assoc]; exact c1
  · rw [a2] at hj; cases hj; rw [← Nat.add_assoc]; exact c2
theorem pinfo : (Tryz.prog.info? 69).map (fun i => (i.zero, i.size, i.bytes)) = some (some (.agg #[.int .i64 0, .int .i64 0, .string ⟨#[]⟩]), 3, 32) := by kernel_rfl
/-- pages in a block of the call's own, that may be written -/
structure Mine (w : World) (g : Nat) (M : List PageT) : Prop where
  cell : ∀ i (_ : i < M.length), w.cell? ⟨g, i * 3, none⟩ = some (.int .i64 M[i].1) ∧ w.cell? ⟨g, i * 3 + 1, none⟩ = some (.int .i64 M[i].2.1) ∧ w.cell? ⟨g, i * 3 + 2, none⟩ = some (.string M[i].2.2)
  free : ∀ j, w.frozen? ⟨g, j, none⟩ = false
  lt : g < w.heap.size
theorem Mine.below {w w' : World} {g : Nat} {M : List PageT} (h : Mine w g M) (hb : Below w.heap.size w w') : Mine w' g M :=
  ⟨fun i hi => by
    obtain ⟨c0, c1, c2⟩ := h.cell i hi
    exact ⟨(hb.cell (p := ⟨g, i * 3, none⟩) h.lt).trans c0, (hb.cell (p := ⟨g, i * 3 + 1, none⟩) h.lt).trans c1, (hb.cell (p := ⟨g, i * 3 + 2, none⟩) h.lt).trans c2⟩,
   fun j => (hb.frozen (p := ⟨g, j, none⟩) h.lt).trans (h.free j), Nat.lt_of_lt_of_le h.lt hb.size⟩
theorem Mine.pgs {w : World} {g : Nat} {M : List PageT} (h : Mine w g M) : Pgs w (some ⟨g, 0, none⟩) M := fun i hi => by
  obtain ⟨c0, c1, c2⟩ := h.cell i hi
  exact ⟨g, 0, rfl, h.lt, by rw [Nat.zero_add]; exact c0, by rw [Nat.zero_add]; exact c1, by rw [Nat.zero_add]; exact c2⟩
theorem Mine.set {w : World} {g : Nat} {M : List PageT} (h : Mine w g M) (k : Nat) (hk : k < M.length) (b : ByteArray) : Mine (w.setCell ⟨g, k * 3 + 2, none⟩ (.string b)) g (M.set k (M[k].1, M[k].2.1, b)) := by
  refine ⟨fun i hi => ?_, fun j => by rw [World.frozen?_setCell]; exact h.free j, by rw [World.size_setCell]; exact h.lt⟩
  have hi' : i < M.length := by simpa using hi
  obtain ⟨c0, c1, c2⟩ := h.cell i hi'
  by_cases e : k = i
  · subst e
    refine ⟨?_, ?_, ?_⟩
    · rw [World.cell?_setCell_other _ _ _ _ (by intro e2; injection e2; omega), c0]; simp
    · rw [World.cell?_setCell_other _ _ _ _ (by intro e2; injection e2; omega), c1]; simp
    · rw [World.cell?_setCell_same' _ _ _ (by rw [c2]; rfl)]; simp
  · refine ⟨?_, ?_, ?_⟩
    · rw [World.cell?_setCell_other _ _ _ _ (by intro e2; injection e2; omega), c0]; simp [e]
    · rw [World.cell?_setCell_other _ _ _ _ (by intro e2; injection e2; omega), c1]; simp [e]
    · rw [World.cell?_setCell_other _ _ _ _ (by intro e2; injection e2; omega), c2]; simp [e]
/-- what an append of pages onto no slice gives -/
def MineNew (w : World) (L : List PageT) (v' : Value) (w' : World) : Prop := ∃ c', v' = .slice (some ⟨w.heap.size, 0, none⟩) L.length c' ∧ Mine w' w.heap.size L ∧ Below w.heap.size w w'
theorem pages_new {w : World} (ty : TypeId) (q : Option Addr) (L : List PageT) (c n : Nat) (hn : L.length = n) (hq : Pgs w q L) (h0 : 0 < n) (hb : n ≤ 100000) :
    ∃ v' w', (Builtin.append_ #[37, 37] ty #[.slice none 0 0, .slice q n c]).run Tryz.prog w = .ok v' w' ∧ MineNew w L v' w' := by
  subst hn
  obtain ⟨i, hi, hz0, hz1, hz2⟩ := Ap.info_parts pinfo
  obtain ⟨p', c', w', hr, h1, h2, h3, h4⟩ := run_app_full (P := Tryz.prog) Tryz.underlying37 hi hz0 hz1 hz2 rfl (by decide) ty none 0 [] (ReadAt.nil w none) (by simp) (.slice q L.length c) L.length (flatP L) (hq.read.src Tryz.underlying37 (flatP_length L) (by decide) (flatP_one L) c) (by unfold maxLen; omega) (by omega)
  obtain ⟨h5, rfl⟩ := h4 h0
  rw [Nat.zero_add] at hr h5
  refine ⟨_, w', hr, c', rfl, ⟨fun i hi => ?_, fun j => ?_, ?_⟩, h2⟩
  · obtain ⟨a0, a1, a2⟩ := flatP_at L i hi
    have hc : ∀ j u, (flatP L)[j]? = some u → w'.cell? ⟨w.heap.size, j, none⟩ = some u := fun j u hj => by
      obtain ⟨b, off, e, _, hc⟩ := h1 j u (by simpa using hj)
      cases e
      rw [Nat.zero_add] at hc; exact hc
    exact ⟨hc _ _ a0, hc _ _ a1, hc _ _ a2⟩
  · rcases h5.2 with ⟨h6, h7⟩ | ⟨g, cap, cur, e, _, hh, _⟩
    · cases h6
    · cases e
      exact frozen_of_row _ _ _ _ _ hh
  · rcases h5.2 with ⟨h6, h7⟩ | ⟨g, cap, cur, e, _, hh, _⟩
    · cases h6
    · cases e
      exact (Array.getElem?_eq_some_iff.1 hh).1
end Go.Proofs.YtgihpdhkjneimaaGreatDoor.En

/- The small calls of a journal: made, Tx, Room, Next, commit, staged. -/
namespace Go.Proofs.YtgihpdhkjneimaaGreatDoor.Jn
open Go.RowKit
open Go.Lib (hid)
open Go.Proofs.YtgihpdhkjneimaaGreatDoor.Dk
open Go.Proofs.YtgihpdhkjneimaaGreatDoor.En (Lst entC encR mayE mayS PageT Pgs ent_at infoC oneC textS)
open Go.Proofs.YtgihpdhkjneimaaGreatDoor.Sm (U sumB wpList_store_whole)
section
variable {J D b n t : Nat} {w : World}
set_option maxHeartbeats 1000000 in
theorem made_nil (w : World) : Calls Tryz.prog 88 #[.pointer none] w fun e w' => e = .returned (.bool false) ∧ w' = w := by
  go_enter Tryz.func88, Tryz.ntmps88
  go_wp2_with fail
  go_ret
  exact ⟨rfl, rfl⟩
set_option maxHeartbeats 1000000 in
theorem made_ok (h : JAt w J D b n t) : Calls Tryz.prog 88 #[.pointer (some ⟨J, 0, none⟩)] w fun e w' => e = .returned (.bool true) ∧ w' = w := by
  have H := hid h
  obtain ⟨j0, j1, j2, j3⟩ := h.cells
  clear h
  go_enter Tryz.func88, Tryz.ntmps88
  go_wp2_with fail
  go_ret
  exact ⟨rfl, rfl⟩
set_option maxHeartbeats 1000000 in
theorem tx_nil (w : World) : Calls Tryz.prog 57 #[.pointer none] w fun e w' => e = .returned (.int .i64 0) ∧ w' = w := by
  go_enter Tryz.func57, Tryz.ntmps57
  go_wp2_with fail
  go_ret
  exact ⟨rfl, rfl⟩
set_option maxHeartbeats 1000000 in
theorem tx_ok (h : JAt w J D b n t) : Calls Tryz.prog 57 #[.pointer (some ⟨J, 0, none⟩)] w fun e w' => e = .returned (.int .i64 (t : Int)) ∧ w' = w := by
  have H := hid h
  obtain ⟨j0, j1, j2, j3⟩ := h.cells
  clear h
  go_enter Tryz.func57, Tryz.ntmps57
  go_wp2_with fail
  go_ret
  exact ⟨rfl, rfl⟩
set_option maxHeartbeats 1000000 in
theorem room_nil (w : World) : Calls Tryz.prog 48 #[.pointer none] w fun e w' => e = .returned (.int .i64 0) ∧ w' = w := by
  go_enter Tryz.func48, Tryz.ntmps48
  go_wp2_with fail
  refine (made_nil _).mono ?_
  rintro e w' ⟨rfl, rfl⟩
  go_wp2_with fail
  go_ret
  exact ⟨rfl, rfl⟩
set_option maxHeartbeats 1000000 in
theorem room_ok (h : JAt w J D b n t) (m : Nat) (hm : n = m + 1) (hn : n ≤ 999) : Calls Tryz.prog 48 #[.pointer (some ⟨J, 0, none⟩)] w fun e w' => e = .returned (.int .i64 (m : Int)) ∧ w' = w := by
  have H := hid h
  obtain ⟨j0, j1, j2, j3⟩ := h.cells
  have hw : wrap64 ((n : Int) - 1) = (m : Int) := by unfold wrap64; omega
  clear h
  go_enter Tryz.func48, Tryz.ntmps48
  go_wp2_with fail
  refine (made_ok H.out).mono ?_
  rintro e w' ⟨rfl, rfl⟩
  go_wp2_with fail
  go_ret
  exact ⟨rfl, rfl⟩
set_option maxHeartbeats 1000000 in
theorem next_nil (w : World) : Calls Tryz.prog 51 #[.pointer none] w fun e w' => e = .returned (.int .i64 1) ∧ w' = w := by
  go_enter Tryz.func51, Tryz.ntmps51
  go_wp2_with fail
  refine (made_nil _).mono ?_
  rintro e w' ⟨rfl, rfl⟩
  go_wp2_with fail
  go_ret
  exact ⟨rfl, rfl⟩
set_option maxHeartbeats 1000000 in
theorem next_last (h : JAt w J D b n 4294967295) : Calls Tryz.prog 51 #[.pointer (some ⟨J, 0, none⟩)] w fun e w' => e = .returned (.int .i64 1) ∧ w' = w := by
  have H := hid h
  obtain ⟨j0, j1, j2, j3⟩ := h.cells
  clear h
  go_enter Tryz.func51, Tryz.ntmps51
  go_wp2_with fail
  refine (made_ok H.out).mono ?_
  rintro e w' ⟨rfl, rfl⟩
  go_wp2_with fail
  go_ret
  exact ⟨rfl, rfl⟩
set_option maxHeartbeats 1000000 in
theorem next_ok (h : JAt w J D b n t) (ht : t < 4294967295) : Calls Tryz.prog 51 #[.pointer (some ⟨J, 0, none⟩)] w fun e w' => e = .returned (.int .i64 0) ∧ w' = w.setCell ⟨J, 3, none⟩ (.int .i64 ((t + 1 : Nat) : Int)) := by
  have H := hid h
  obtain ⟨j0, j1, j2, j3⟩ := h.cells
  have hf : w.frozen? ⟨J, 3, none⟩ = false := frozen_of_row _ _ _ _ _ h
  obtain ⟨t', ht'⟩ : ∃ t', t + 1 = t' := ⟨_, rfl⟩
  have hw : wrap64 ((t : Int) + 1) = (t' : Int) := by unfold wrap64; omega
  have k1 : IntKind.u64.wrap (t : Int) = t := by rw [show IntKind.u64.wrap (t : Int) = (t : Int) % 18446744073709551616 from rfl]; omega
  have k2 : ((t : Int) == 4294967295) = false := by simp; omega
  rw [ht']
  clear h ht ht'
  go_enter Tryz.func51, Tryz.ntmps51
  go_wp2_with fail
  refine (made_ok H.out).mono ?_
  rintro e w' ⟨rfl, rfl⟩
  go_wp2_with fail
  go_ret
  exact ⟨rfl, rfl⟩
theorem step_store {P : Program} {o : Oper} {ops : Array Oper} {a : Act} {w : World} {K : Act → World → Prop} {Q : Exit → Act → World → Prop} {E : Prop} (hgd : o.guard = none) (ty : TypeId) (x y : Operand) (ho : o.op = .store ty x y)
    (g : Nat) (cells : Array Value) (hx : a.eval x = .pointer (some ⟨g, 0, none⟩)) (hy : a.eval y = .agg cells) (t : TypeId) (old : Array Value) (hg : w.heap[g]? = some (.cells old t (0, 0))) (hi : (P.info? ty).map (·.size) = some cells.size)
    (hold : old.size = cells.size) (h1 : cells.all (·.oneCell') = true) (h : K (a.put o.dst undef) (w.setRow g cells)) : if Region.wanted o (yielded ops a.tmps) = true then Oper.wp P o a w K Q else E := by
  have hw : Region.wanted o (yielded ops a.tmps) = true := by simp [Region.wanted, hgd]
  rw [if_pos hw]
  exact wp_store_row ty x y ho g cells hx hy t old hg hi hold h1 h
theorem blk_on {V v1 : World} {g : Nat} {o : Obj} (hb : Below V.drew.heap.size V.drew v1) (hx : V.heap[g]? = some o) : v1.heap[g]? = some o := (hb.block g (Array.getElem?_eq_some_iff.1 hx).1).trans hx
theorem jset (h : JAt w J D b n t) (t' : Nat) : JAt (w.setCell ⟨J, 3, none⟩ (.int .i64 (t' : Int))) J D b n t' := by
  unfold JAt at h ⊢
  have hlt := (Array.getElem?_eq_some_iff.1 h).1
  rw [setCell_eq_setRow _ _ _ _ _ _ _ h, setRow_heap _ _ _ _ _ _ h]
  rfl
set_option maxRecDepth 100000 in
set_option maxHeartbeats 4000000 in
theorem jcommit (h : JAt w J D b n t) (hL : Lst w) (p : Option Addr) (L : List PageT) (c : Nat) (hp : Pgs w p L) (hl : L.length ≤ 1000) :
    Calls Tryz.prog 92 #[.pointer (some ⟨J, 0, none⟩), .slice p L.length c] w fun e w' => e = .returned (.agg (entC 2 t L.length 0 0 ⟨#[]⟩ L.length (U (sumB (textS L L.length))))) ∧ Below w.heap.size w w' := by
  obtain ⟨m, hm⟩ : ∃ m, L.length = m := ⟨_, rfl⟩
  obtain ⟨u, hu⟩ : ∃ u, U (sumB (textS L L.length)) = u := ⟨_, rfl⟩
  have HS := hid fun (V : World) (hV : Lst V) (hq : Pgs V p L) => (show Calls Tryz.prog 129 #[.slice p m c] V fun e w' => e = .returned (.int .u32 u) ∧ Below V.heap.size V w' by
    have h2 := En.sum_ok L p c V hV hq hl; rw [hu, hm] at h2; exact h2)
  rw [hu, hm]
  have HL := hid hL; have HG := hid hp; have HH := hid h
  have HP := hid hL.pos
  clear hL hp h hu hm hl
  have HB0 := hid ((Below.refl w.heap.size w).alloc (Nat.le_refl _) (.cells (entC 0 0 0 0 0 ⟨#[]⟩ 0 0) 134))
  have HX0 := hid (heap_alloc_new w (.cells (entC 0 0 0 0 0 ⟨#[]⟩ 0 0) 134))
  go_enter Tryz.func92, Tryz.ntmps92
  go_wp2_with fail
  generalize w.alloc (.cells (entC 0 0 0 0 0 ⟨#[]⟩ 0 0) 134) = X at *
  have HD := hid fun (V : World) (hv : Below X.heap.size X V) => (show V.cell? ⟨J, 3, none⟩ = some (.int .i64 (t : Int)) from ((HH.out.below HB0.out).below hv).cells.2.2.2)
  have B0 := hid (Below.refl X.heap.size X).drew
  have y0 := HD.out _ B0.out
  have x0 := HD.out _ (Below.refl X.heap.size X)
  refine wp_region_held_drew (S := (fun V => V.cell? ⟨J, 3, none⟩ = some (.int .i64 (t : Int)))) (by kernel_rfl) (by exact y0) (fun hHeld => ?_)
  refine wpAnyH_take (i := 0) (oi := { dst := some 5, op := Op.move (Operand.tmp 0), type := 90, pos := "journal.go:111", after := #[], guard := none }) (v := ?vc0) rfl (by kernel_rfl) (by kernel_rfl) (by kernel_rfl) (fun _ _ _ h => h) (Or.inl ⟨by rfl, ?hyc0⟩) (by assumption) ?restc0
  case hyc0 => (intro w hSw; (try dsimp only at hSw); go_simp; (try with_reducible rfl))
  simp only [Act.put, List.setIfInBounds_toArray, List.set_cons_zero, List.set_cons_succ]
  refine wpAnyH_take (i := 1) (oi := { dst := some 6, op := Op.nilCheck (Operand.tmp 5), type := 0, pos := "journal.go:111", after := #[{ on := 0, ground := Ground.data }], guard := none }) (v := ?vc1) rfl (by kernel_rfl) (by kernel_rfl) (by kernel_rfl) (fun _ _ _ h => h) (Or.inl ⟨by rfl, ?hyc1⟩) (by assumption) ?restc1
  case hyc1 => (intro w hSw; (try dsimp only at hSw); go_simp; (try with_reducible rfl))
  simp only [Act.put, List.setIfInBounds_toArray, List.set_cons_zero, List.set_cons_succ]
  refine wpAnyH_take (i := 2) (oi := { dst := some 7, op := Op.fieldAddr 132 (Operand.tmp 6) 3, type := 0, pos := "journal.go:111", after := #[{ on := 1, ground := Ground.data }], guard := none }) (v := ?vc2) rfl (by kernel_rfl) (by kernel_rfl) (by kernel_rfl) (fun _ _ _ h => h) (Or.inl ⟨by rfl, ?hyc2⟩) (by assumption) ?restc2
  case hyc2 => (intro w hSw; (try dsimp only at hSw); go_simp; (try with_reducible rfl))
  simp only [Act.put, List.setIfInBounds_toArray, List.set_cons_zero, List.set_cons_succ]
  refine wpAnyH_take (i := 3) (oi := { dst := some 8, op := Op.load 3 (Operand.tmp 7), type := 3, pos := "journal.go:111", after := #[{ on := 2, ground := Ground.data }], guard := none }) (v := ?vc3) rfl (by kernel_rfl) (by kernel_rfl) (by kernel_rfl) (fun _ _ _ h => h) (Or.inl ⟨by rfl, ?hyc3⟩) (by assumption) ?restc3
  case hyc3 => (intro w hSw; (try dsimp only at hSw); go_simp; (try with_reducible rfl))
  simp only [Act.put, List.setIfInBounds_toArray, List.set_cons_zero, List.set_cons_succ]
  refine wpAnyH_take (i := 4) (oi := { dst := some 9, op := Op.move (Operand.tmp 1), type := 37, pos := "journal.go:111", after := #[], guard := none }) (v := ?vc4) rfl (by kernel_rfl) (by kernel_rfl) (by kernel_rfl) (fun _ _ _ h => h) (Or.inl ⟨by rfl, ?hyc4⟩) (by assumption) ?restc4
  case hyc4 => (intro w hSw; (try dsimp only at hSw); go_simp; (try with_reducible rfl))
  simp only [Act.put, List.setIfInBounds_toArray, List.set_cons_zero, List.set_cons_succ]
  refine wpAnyH_take (i := 5) (oi := { dst := some 10, op := Op.call { callee := Callee.builtin Builtin.len, args := #[Operand.tmp 9], argTypes := #[37] }, type := 3, pos := "journal.go:111", after := #[{ on := 4, ground := Ground.data }], guard := none }) (v := ?vc5) rfl (by kernel_rfl) (by kernel_rfl) (by kernel_rfl) (fun _ _ _ h => h) (Or.inl ⟨by rfl, ?hyc5⟩) (by assumption) ?restc5
  case hyc5 => (intro w hSw; (try dsimp only at hSw); go_simp; (try with_reducible rfl))
  simp only [Act.put, List.setIfInBounds_toArray, List.set_cons_zero, List.set_cons_succ]
  refine wpAnyH_take (i := 6) (oi := { dst := some 11, op := Op.move (Operand.tmp 1), type := 37, pos := "journal.go:111", after := #[], guard := none }) (v := ?vc6) rfl (by kernel_rfl) (by kernel_rfl) (by kernel_rfl) (fun _ _ _ h => h) (Or.inl ⟨by rfl, ?hyc6⟩) (by assumption) ?restc6
  case hyc6 => (intro w hSw; (try dsimp only at hSw); go_simp; (try with_reducible rfl))
  simp only [Act.put, List.setIfInBounds_toArray, List.set_cons_zero, List.set_cons_succ]
  refine wpAnyH_take (i := 7) (oi := { dst := some 12, op := Op.call { callee := Callee.builtin Builtin.len, args := #[Operand.tmp 11], argTypes := #[37] }, type := 3, pos := "journal.go:111", after := #[{ on := 6, ground := Ground.data }], guard := none }) (v := ?vc7) rfl (by kernel_rfl) (by kernel_rfl) (by kernel_rfl) (fun _ _ _ h => h) (Or.inl ⟨by rfl, ?hyc7⟩) (by assumption) ?restc7
  case hyc7 => (intro w hSw; (try dsimp only at hSw); go_simp; (try with_reducible rfl))
  simp only [Act.put, List.setIfInBounds_toArray, List.set_cons_zero, List.set_cons_succ]
  refine wpAnyH_take (i := 8) (oi := { dst := some 13, op := Op.move (Operand.tmp 1), type := 37, pos := "journal.go:111", after := #[], guard := none }) (v := ?vc8) rfl (by kernel_rfl) (by kernel_rfl) (by kernel_rfl) (fun _ _ _ h => h) (Or.inl ⟨by rfl, ?hyc8⟩) (by assumption) ?restc8
  case hyc8 => (intro w hSw; (try dsimp only at hSw); go_simp; (try with_reducible rfl))
  simp only [Act.put, List.setIfInBounds_toArray, List.set_cons_zero, List.set_cons_succ]
  refine wpAnyH_ready (rs := [9]) (by kernel_rfl) (by simp) (AllReadyH.cons (o := { dst := some 14, op := Op.call { callee := Callee.value (Operand.func 129), args := #[Operand.tmp 13], argTypes := #[37] }, type := 82, pos := "journal.go:111", after := #[{ on := 8, ground := Ground.data }], guard := none }) rfl (fun K hK => ?_) AllReadyH.nil)
  go_simp
  go_at_call 129
  refine (HS.out _ (HL.out.next HP.out (HB0.out.trans (B0.out.mono HB0.out.size))) (HG.out.below (HB0.out.trans (B0.out.mono HB0.out.size)))).mono ?_
  rintro e v1 ⟨rfl, hb⟩
  have B1 := hid (B0.out.trans (hb.mono B0.out.size))
  have y1 := HD.out _ B1.out
  have HZ1 := hid (blk_on hb HX0.out)
  clear hb
  go_wp2_with fail
  refine hK.out _ _ y1 (fun hHeld => ?_)
  clear hK K
  refine wpAnyH_take (i := 10) (oi := { dst := some 15, op := Op.build 134 #[(0, Operand.const (Value.int IntKind.i64 2)), (1, Operand.tmp 8), (2, Operand.tmp 10), (4, Operand.tmp 12), (5, Operand.tmp 14)], type := 134, pos := "journal.go:111", after := #[{ on := 3, ground := Ground.data }, { on := 5, ground := Ground.data }, { on := 7, ground := Ground.data }, { on := 9, ground := Ground.data }], guard := none }) (v := ?vc10) rfl (by kernel_rfl) (by kernel_rfl) (by kernel_rfl) (fun _ _ _ h => h) (Or.inl ⟨by rfl, ?hyc10⟩) (by assumption) ?restc10
  case hyc10 => (intro w hSw; (try dsimp only at hSw); go_simp; (try with_reducible rfl))
  simp only [Act.put, List.setIfInBounds_toArray, List.set_cons_zero, List.set_cons_succ]
  refine wpAnyH_ready (rs := [11]) (by kernel_rfl) (by simp) (AllReadyH.cons (o := { dst := none, op := Op.store 134 (Operand.tmp 4) (Operand.tmp 15), type := 0, pos := "journal.go:111", after := #[{ on := 10, ground := Ground.data }, { on := 9, ground := Ground.chain }, { on := 0, ground := Ground.phase }, { on := 1, ground := Ground.phase }, { on := 2, ground := Ground.phase }, { on := 3, ground := Ground.phase }, { on := 4, ground := Ground.phase }, { on := 5, ground := Ground.phase }, { on := 6, ground := Ground.phase }, { on := 7, ground := Ground.phase }, { on := 8, ground := Ground.phase }, { on := 9, ground := Ground.phase }, { on := 10, ground := Ground.phase }], guard := none }) rfl (fun K hK => ?_) AllReadyH.nil)
  refine step_store rfl 134 (.tmp 4) (.tmp 15) rfl w.heap.size (entC 2 t m 0 0 ⟨#[]⟩ m u) rfl rfl 134 (entC 0 0 0 0 0 ⟨#[]⟩ 0 0) HZ1.out (infoC _ _ _ _ _ _ _ _) rfl (oneC _ _ _ _ _ _ _ _) ?_
  refine hK.out _ _ (by rw [cell_setRow_other _ _ _ _ (by intro e9; have e8 : J = w.heap.size := e9; have := HH.out.lt; omega)]; exact y1) (fun hHeld => ?_)
  clear hK K
  refine wpAnyH_done (by kernel_rfl) ?_ _
  have HF := hid (setRow_heap _ _ _ (entC 2 t m 0 0 ⟨#[]⟩ m u) _ _ HZ1.out)
  obtain ⟨q0, q1, q2, q3, q4, q5, q6, q7⟩ := ent_at HF.out
  go_wp2_with fail
  refine bodyPost_ret (v := .agg (entC 2 t m 0 0 ⟨#[]⟩ m u)) (by simp [results, Tryz.results92, go_sem, q0, q1, q2, q3, q4, q5, q6, q7]) rfl ⟨rfl, ?_⟩
  exact below_setRow (HB0.out.trans (B1.out.mono HB0.out.size)) (Nat.le_refl _) _
end
end Go.Proofs.YtgihpdhkjneimaaGreatDoor.Jn

/- staged; Commit and Abort of a journal. -/
namespace Go.Proofs.YtgihpdhkjneimaaGreatDoor.Jn
open Go.RowKit
open Go.Lib (hid)
open Go.Proofs.YtgihpdhkjneimaaGreatDoor.Dk
open Go.Proofs.YtgihpdhkjneimaaGreatDoor.En (Lst entC encR mayE mayS PageT Pgs ent_at infoC oneC textS)
open Go.Proofs.YtgihpdhkjneimaaGreatDoor.Sm (U sumB wpList_store_whole)
/-- all may be staged -/
def AllS (L : List PageT) : Prop := ∀ j (h : j < L.length), mayS L[j].1 L[j].2.1 L[j].2.2
theorem pgs_ks {K : Nat → Prop} {w w' : World} {p : Option Addr} {L : List PageT} (h : Pgs w p L) (hk : KS K w w') (hK : ∀ g off, p = some ⟨g, off, none⟩ → 0 < L.length → K g) : Pgs w' p L := fun i hi => by
  obtain ⟨b, off, e, hb, c0, c1, c2⟩ := h i hi
  have hg := hK b off e (by omega)
  exact ⟨b, off, e, Nat.lt_of_lt_of_le hb hk.size, (ks_cell hk hg hb).trans c0, (ks_cell hk hg hb).trans c1, (ks_cell hk hg hb).trans c2⟩
theorem may1 {k n : Int} {b : ByteArray} (t i : Nat) (ht : 1 ≤ t) (ht2 : t ≤ 4294967295) (hi : i ≤ 999) (h : mayS k n b) : mayE 1 t i k n b 0 0 := ⟨by omega, by omega, by omega, by omega, .inl ⟨rfl, h, rfl, rfl⟩⟩
theorem may2 (t m : Nat) (u : Int) (ht : 1 ≤ t) (ht2 : t ≤ 4294967295) (hm : m ≤ 999) (hm1 : 1 ≤ m) : mayE 2 t m 0 0 ⟨#[]⟩ m u := ⟨by omega, by omega, by omega, by omega, .inr (.inl ⟨rfl, by omega, rfl, (En.noP_iff _ _ _).2 ⟨rfl, rfl, rfl⟩⟩)⟩
theorem may3 (t : Nat) (ht : 1 ≤ t) (ht2 : t ≤ 4294967295) : mayE 3 t (0 : Nat) 0 0 ⟨#[]⟩ 0 0 := ⟨by omega, by omega, by decide, by decide, .inr (.inr ⟨rfl, (En.noP_iff _ _ _).2 ⟨rfl, rfl, rfl⟩, rfl, rfl⟩)⟩
theorem notmay1 {k n : Int} {b : ByteArray} (h : ¬ mayS k n b) : ¬ mayE 1 1 0 k n b 0 0 := by
  rintro ⟨-, -, -, -, ⟨-, h2, -⟩ | ⟨h2, -⟩ | ⟨h2, -⟩⟩
  · exact h h2
  · exact absurd h2 (by decide)
  · exact absurd h2 (by decide)
set_option maxRecDepth 100000 in
set_option maxHeartbeats 4000000 in
theorem staged_any (L : List PageT) (p : Option Addr) (c : Nat) (w : World) (hL : Lst w) (hp : Pgs w p L) (hl : L.length ≤ 1000000) (r : Bool) (hr : r = true ↔ AllS L) :
    Calls Tryz.prog 89 #[.slice p L.length c] w fun e w' => e = .returned (.bool r) ∧ Below w.heap.size w w' := by
  obtain ⟨n, hn⟩ : ∃ n, L.length = n := ⟨_, rfl⟩
  have H := hid hp; have HN := hid hn; have HL := hid hL; have HR := hid hr
  rw [hn] at hl ⊢
  clear hp hn hL hr
  go_enter Tryz.func89, Tryz.ntmps89
  go_wp2_with fail
  go_loopw [7] (fun s wr => ∃ i : Nat, s = .int .i64 i ∧ i ≤ n ∧ Below w.heap.size w wr ∧ ∀ j (h : j < L.length), j < i → mayS L[j].1 L[j].2.1 L[j].2.2) (fun s _ => n - (intOf s).toNat)
  case atStart => exact ⟨0, rfl, Nat.zero_le _, Below.refl _ _, fun j _ hj => absurd hj (Nat.not_lt_zero _)⟩
  case round =>
    obtain ⟨i, rfl, hi, hb, hms⟩ := hrel
    have HB := hid hb; have HMS := hid hms
    clear hb hms
    by_cases hlt : i < n
    · have hiL : i < L.length := by rw [HN.out]; exact hlt
      obtain ⟨b, off, rfl, hbl, d0, d1, d2⟩ := H.out.below HB.out i hiL
      have HI := hid hlt
      have HLT := hid hiL
      obtain ⟨q0, e0⟩ : ∃ q, (L[i]'hiL) = q := ⟨_, rfl⟩
      rw [e0] at d0 d1 d2
      obtain ⟨k0, m0, b0⟩ := q0
      dsimp only at d0 d1 d2
      have HB1 := hid (HB.out.trans ((Below.refl wr.heap.size wr).alloc (Nat.le_refl _) (.cells #[.int .i64 k0, .int .i64 m0, .string b0] 69)|>.mono HB.out.size))
      have HE := hid (show mayS (L[i]'hiL).1 (L[i]'hiL).2.1 (L[i]'hiL).2.2 ↔ mayS k0 m0 b0 by rw [e0])
      clear e0
      by_cases hm : mayS k0 m0 b0
      · have HCK := hid fun (V : World) => En.check_yes 1 1 0 k0 m0 0 0 b0 V (may1 1 0 (by decide) (by decide) (by decide) hm)
        have HM := hid hm
        clear hm
        go_wp2_with fail
        refine (HCK.out _).mono ?_
        rintro e w2 ⟨rfl, hb⟩
        have HB2 := hid (HB1.out.trans (hb.mono HB1.out.size))
        clear hb
        go_wp2_with fail
        go_roundw
        case rel => exact ⟨i + 1, by go_num, HI.out, HB2.out, fun j hj hji => by
          rcases Nat.lt_or_ge j i with h | h
          · exact HMS.out j hj h
          · obtain rfl : j = i := by omega
            exact HE.out.2 HM.out⟩
        case measure => simp [intOf]; have := HI.out; omega
      · have HCK := hid fun (V : World) => En.check_no 1 1 0 k0 m0 0 0 b0 V (by decide) (notmay1 hm)
        have hrf : r = false := by
          cases hr2 : r with
          | false => rfl
          | true => exact absurd (HE.out.1 (HR.out.1 hr2 i HLT.out)) hm
        have HRF := hid hrf
        clear hm hrf
        go_wp2_with fail
        refine (HCK.out _).mono ?_
        rintro e w2 ⟨rfl, hb⟩
        have HB2 := hid (HB1.out.trans (hb.mono HB1.out.size))
        clear hb
        go_wp2_with fail
        go_ret
        exact ⟨by rw [HRF.out]; rfl, HB2.out⟩
    · obtain rfl : i = n := by omega
      have HRF := hid (show r = true from HR.out.2 fun j hj => HMS.out j hj (by rw [← HN.out]; exact hj))
      clear hlt hi
      go_wp2_with fail
      go_ret
      exact ⟨by rw [HRF.out]; rfl, HB.out⟩
/-- behind the writes of the first i pages -/
noncomputable def wrS (s : St) (b t : Nat) (L : List PageT) : Nat → St
  | 0 => s
  | i + 1 => (wrU (wrS s b t L i) ((b + i : Nat) : Int) (pgJ (b + i) 1 t (i : Nat) (L.getD i (0, 0, ⟨#[]⟩)).1 (L.getD i (0, 0, ⟨#[]⟩)).2.1 (L.getD i (0, 0, ⟨#[]⟩)).2.2 0 0)).2
/-- behind a Commit -/
noncomputable def comS (s : St) (b t : Nat) (L : List PageT) : St :=
  (flU (wrU (flU (wrS s b t L L.length)).2 ((b + L.length : Nat) : Int) (pgJ (b + L.length) 2 t (L.length : Nat) 0 0 ⟨#[]⟩ (L.length : Nat) (U (sumB (textS L L.length))))).2).2
/-- behind an Abort -/
noncomputable def aboS (s : St) (b t : Nat) : St := (flU (wrU s ((b : Nat) : Int) (pgJ b 3 t (0 : Nat) 0 0 ⟨#[]⟩ 0 0)).2).2
theorem few_wrS {s : St} {k : Nat} (h : Few s k) (b t : Nat) (L : List PageT) (i : Nat) : Few (wrS s b t L i) (k + i) := by
  induction i with
  | zero => exact h
  | succ i ih => exact few_wr ih _ _
theorem few_com {s : St} {k : Nat} (h : Few s k) (b t : Nat) (L : List PageT) : Few (comS s b t L) (k + L.length + 3) := few_fl (few_wr (few_fl (few_wrS h b t L L.length)) _ _)
theorem few_abo {s : St} {k : Nat} (h : Few s k) (b t : Nat) : Few (aboS s b t) (k + 2) := few_fl (few_wr h _ _)
/-- a journal's place -/
structure JOk (b n t : Nat) : Prop where
  n2 : 2 ≤ n
  n9 : n ≤ 999
  bn : b + n ≤ 1000
  t1 : 1 ≤ t
  t2 : t ≤ 4294967295
section
variable {K : Nat → Prop} {J D b n t : Nat} {wr : World} {s : St}
set_option maxHeartbeats 1000000 in
theorem jabort_nil (w : World) : Calls Tryz.prog 80 #[.pointer none] w fun e w' => e = .returned (.int .i64 1) ∧ w' = w := by
  go_enter Tryz.func80, Tryz.ntmps80
  go_wp2_with fail
  refine (made_nil _).mono ?_
  rintro e w' ⟨rfl, rfl⟩
  go_wp2_with fail
  go_ret
  exact ⟨rfl, rfl⟩
set_option maxRecDepth 100000 in
set_option maxHeartbeats 4000000 in
theorem jabort (h : Jk K J D wr s b n t) (ok : JOk b n t) {k : Nat} (hf : Few s k) (hk : k + 10 < 1000000) :
    Calls Tryz.prog 80 #[.pointer (some ⟨J, 0, none⟩)] wr fun e w' => e = .returned (.int .i64 0) ∧ Cd K D w' (aboS s b t) ∧ KS K wr w' := by
  have HJ := hid h
  have HW := hid (jwrite (kd := 3) (tx := (t : Int)) (pk := 0) (pn := 0) (i := 0) (bo := ⟨#[]⟩) (ct := 0) (sm := 0) h hf (by omega) (by decide) (by decide) (may3 t ok.t1 ok.t2) (by have := ok.bn; have := ok.n2; omega))
  unfold aboS
  rw [Nat.add_zero] at HW
  have hf2 := few_wr hf ((b : Nat) : Int) (pgJ b 3 t (0 : Nat) 0 0 ⟨#[]⟩ 0 0)
  generalize (wrU s ((b : Nat) : Int) (pgJ b 3 t (0 : Nat) 0 0 ⟨#[]⟩ 0 0)).2 = s2 at *
  have HF := hid fun (V : World) (c : Cd K D V s2) => c.flush hf2 (by omega)
  clear hf2 hf hk ok
  obtain ⟨j0, j1, j2, j3⟩ := h.j.cells
  clear h
  go_enter Tryz.func80, Tryz.ntmps80
  go_wp2_with fail
  refine (made_ok HJ.out.j).mono ?_
  rintro e w' ⟨rfl, rfl⟩
  go_wp2_with fail
  refine HW.out.mono ?_
  rintro e w1 ⟨rfl, hc, hks⟩
  have HC1 := hid hc
  have HK1 := hid hks
  have HJ1 := hid (HJ.out.step hc hks)
  clear hc hks j0 j1 j2 j3
  obtain ⟨j0, j1, j2, j3⟩ := HJ1.out.j.cells
  go_wp2_with fail
  refine (HF.out _ HC1.out).mono ?_
  rintro e w2 ⟨rfl, hc, hks⟩
  have HC2 := hid hc
  have HK2 := hid (HK1.out.trans hks)
  clear hc hks
  go_wp2_with fail
  go_ret
  exact ⟨rfl, HC2.out, HK2.out⟩
end
end Go.Proofs.YtgihpdhkjneimaaGreatDoor.Jn

/- Commit of a journal. -/
namespace Go.Proofs.YtgihpdhkjneimaaGreatDoor.Jn
open Go.RowKit
open Go.Lib (hid)
open Go.Proofs.YtgihpdhkjneimaaGreatDoor.Dk
open Go.Proofs.YtgihpdhkjneimaaGreatDoor.En (Lst entC encR mayE mayS PageT Pgs ent_at infoC oneC textS)
open Go.Proofs.YtgihpdhkjneimaaGreatDoor.Sm (U sumB wpList_store_whole)
theorem KS.mono {K : Nat → Prop} {w w1 w2 : World} (h : KS K w w1) (g : Below w1.heap.size w1 w2) : KS K w w2 := h.trans (KS.of g)
section
variable {K : Nat → Prop} {J D b n t : Nat} {wr : World} {s : St}
set_option maxHeartbeats 1000000 in
theorem jcom_nil (w : World) (p : Option Addr) (m c : Nat) : Calls Tryz.prog 49 #[.pointer none, .slice p m c] w fun e w' => e = .returned (.int .i64 1) ∧ w' = w := by
  go_enter Tryz.func49, Tryz.ntmps49
  go_wp2_with fail
  refine (made_nil _).mono ?_
  rintro e w' ⟨rfl, rfl⟩
  go_wp2_with fail
  go_ret
  exact ⟨rfl, rfl⟩
set_option maxHeartbeats 1000000 in
theorem jcom_none (h : JAt wr J D b n t) (p : Option Addr) (c : Nat) : Calls Tryz.prog 49 #[.pointer (some ⟨J, 0, none⟩), .slice p 0 c] wr fun e w' => e = .returned (.int .i64 1) ∧ w' = wr := by
  have H := hid h
  clear h
  go_enter Tryz.func49, Tryz.ntmps49
  go_wp2_with fail
  refine (made_ok H.out).mono ?_
  rintro e w' ⟨rfl, rfl⟩
  go_wp2_with fail
  go_ret
  exact ⟨rfl, rfl⟩
set_option maxHeartbeats 1000000 in
theorem jcom_bad (h : JAt wr J D b n t) (hL : Lst wr) (p : Option Addr) (L : List PageT) (c : Nat) (hp : Pgs wr p L) (h0 : 0 < L.length) (hl : L.length ≤ 1000000) (hs : ¬ AllS L) :
    Calls Tryz.prog 49 #[.pointer (some ⟨J, 0, none⟩), .slice p L.length c] wr fun e w' => e = .returned (.int .i64 1) ∧ Below wr.heap.size wr w' := by
  have H := hid h
  have HS := hid (staged_any L p c wr hL hp hl false ⟨(fun h => by cases h), (fun h => absurd h hs)⟩)
  obtain ⟨m, hm⟩ : ∃ m, L.length = m := ⟨_, rfl⟩
  rw [hm] at HS h0 ⊢
  have e0 : ((m : Int) == 0) = false := by simp; omega
  have e1 : (m == 0) = false := by simp; omega
  clear h hL hp hl hs hm h0
  go_enter Tryz.func49, Tryz.ntmps49
  go_wp2_with fail
  refine (made_ok H.out).mono ?_
  rintro e w' ⟨rfl, rfl⟩
  go_wp2_with fail
  refine HS.out.mono ?_
  rintro e w2 ⟨rfl, hb⟩
  have HB := hid hb
  clear hb
  go_wp2_with fail
  go_ret
  exact ⟨rfl, HB.out⟩
set_option maxHeartbeats 1000000 in
theorem jcom_full (h : JAt wr J D b n t) (hL : Lst wr) (hn : n ≤ 999) (p : Option Addr) (L : List PageT) (c : Nat) (hp : Pgs wr p L) (h0 : 0 < L.length) (hl : L.length ≤ 1000000) (hs : AllS L) (r : Nat) (hr : n = r + 1) (hfl : r < L.length) :
    Calls Tryz.prog 49 #[.pointer (some ⟨J, 0, none⟩), .slice p L.length c] wr fun e w' => e = .returned (.int .i64 3) ∧ Below wr.heap.size wr w' := by
  have H := hid h
  have HS := hid (staged_any L p c wr hL hp hl true ⟨(fun _ => hs), (fun _ => rfl)⟩)
  have HR := hid fun (V : World) (hb : Below wr.heap.size wr V) => room_ok (h.below hb) r hr hn
  obtain ⟨m, hm⟩ : ∃ m, L.length = m := ⟨_, rfl⟩
  rw [hm] at HS h0 hfl ⊢
  have e0 : ((m : Int) == 0) = false := by simp; omega
  have e1 : (m == 0) = false := by simp; omega
  have e2 : decide ((r : Int) < (m : Int)) = true := by simp; omega
  have e3 : decide (r < m) = true := by simp; omega
  clear h hL hp hl hs hm h0 hn hr hfl
  go_enter Tryz.func49, Tryz.ntmps49
  go_wp2_with fail
  refine (made_ok H.out).mono ?_
  rintro e w' ⟨rfl, rfl⟩
  go_wp2_with fail
  refine HS.out.mono ?_
  rintro e w2 ⟨rfl, hb⟩
  have HB := hid hb
  clear hb
  go_wp2_with fail
  refine (HR.out _ HB.out).mono ?_
  rintro e w' ⟨rfl, rfl⟩
  go_wp2_with fail
  go_ret
  exact ⟨rfl, HB.out⟩
set_option maxRecDepth 100000 in
set_option maxHeartbeats 4000000 in
theorem jcom_ok {w0 : World} (h : Jk K J D w0 s b n t) (ok : JOk b n t) {k : Nat} (hf : Few s k) (p : Option Addr) (L : List PageT) (c : Nat) (hk : k + L.length + 10 < 1000000) (hp : Pgs w0 p L) (hK : ∀ g off, p = some ⟨g, off, none⟩ → 0 < L.length → K g) (h0 : 0 < L.length) (hs : AllS L) (r : Nat) (hr : n = r + 1) (hl : L.length ≤ r) :
    Calls Tryz.prog 49 #[.pointer (some ⟨J, 0, none⟩), .slice p L.length c] w0 fun e w' => e = .returned (.int .i64 0) ∧ Cd K D w' (comS s b t L) ∧ KS K w0 w' := by
  have HJ := hid h
  have HS := hid (staged_any L p c w0 h.lst hp (by have := ok.n9; omega) true ⟨(fun _ => hs), (fun _ => rfl)⟩)
  have HR := hid fun (V : World) (hb : Below w0.heap.size w0 V) => room_ok (h.j.below hb) r hr ok.n9
  have HG := hid fun (V : World) (hv : KS K w0 V) => pgs_ks hp hv hK
  have HCM := hid fun (V : World) (hj : JAt V J D b n t) (hl2 : Lst V) (hq : Pgs V p L) => jcommit hj hl2 p L c hq (by have := ok.n9; omega)
  have HAS := hid hs
  have HFW := hid fun i => few_wrS hf b t L i
  have HF1 := hid fun (V : World) (cd : Cd K D V (wrS s b t L L.length)) => cd.flush (few_wrS hf b t L L.length) (by omega)
  have HW2 := hid fun (V : World) (hj : Jk K J D V (flU (wrS s b t L L.length)).2 b n t) => jwrite (kd := 2) (tx := (t : Int)) (pk := 0) (pn := 0) (i := L.length) (bo := ⟨#[]⟩) (ct := (L.length : Nat)) (sm := U (sumB (textS L L.length))) hj (few_fl (few_wrS hf b t L L.length)) (by omega) (by unfold U; omega) (by unfold U; have := (sumB (textS L L.length)).isLt; omega) (may2 t L.length _ ok.t1 ok.t2 (by have := ok.n9; omega) h0) (by have := ok.bn; omega)
  have HF2 := hid fun (V : World) (cd : Cd K D V (wrU (flU (wrS s b t L L.length)).2 ((b + L.length : Nat) : Int) (pgJ (b + L.length) 2 t (L.length : Nat) 0 0 ⟨#[]⟩ (L.length : Nat) (U (sumB (textS L L.length))))).2) => cd.flush (few_wr (few_fl (few_wrS hf b t L L.length)) _ _) (by omega)
  have HWI := hid fun (i : Nat) (hi : i < L.length) (KX : Nat → Prop) (V : World) (hj : Jk KX J D V (wrS s b t L i) b n t) => jwrite (kd := 1) (tx := (t : Int)) (pk := (L[i]'hi).1) (pn := (L[i]'hi).2.1) (i := i) (bo := (L[i]'hi).2.2) (ct := 0) (sm := 0) hj (few_wrS hf b t L i) (by omega) (by decide) (by decide) (may1 t i ok.t1 ok.t2 (by have := ok.n9; omega) (hs i hi)) (by have := ok.bn; omega)
  have HWN := hid fun (i : Nat) (hi : i < L.length) => (show wrS s b t L (i + 1) = (wrU (wrS s b t L i) ((b + i : Nat) : Int) (pgJ (b + i) 1 t (i : Nat) (L[i]'hi).1 (L[i]'hi).2.1 (L[i]'hi).2.2 0 0)).2 by
    show (wrU (wrS s b t L i) _ _).2 = _
    rw [List.getD_eq_getElem?_getD, List.getElem?_eq_getElem hi]; rfl)
  unfold comS
  obtain ⟨m, hm⟩ : ∃ m, L.length = m := ⟨_, rfl⟩
  have HN := hid hm
  rw [hm] at HS h0 hl HCM HF1 HW2 HF2 ⊢
  have e0 : ((m : Int) == 0) = false := by simp; omega
  have e1 : (m == 0) = false := by simp; omega
  have e2 : decide ((r : Int) < (m : Int)) = false := by simp; omega
  have e3 : decide (r < m) = false := by simp; omega
  have HKM := hid (show m ≤ 1000 by have := ok.n9; omega)
  clear h hf hk hp hK h0 hs hr hl hm ok
  go_enter Tryz.func49, Tryz.ntmps49
  go_wp2_with fail
  refine (made_ok HJ.out.j).mono ?_
  rintro e w' ⟨rfl, hw⟩
  obtain rfl := hw.symm
  go_wp2_with fail
  refine HS.out.mono ?_
  rintro e w2 ⟨rfl, hb⟩
  have HB := hid (KS.of (K := K) hb)
  have HRR := hid (HR.out _ hb)
  have HJ2 := hid (HJ.out.next hb)
  clear hb
  go_wp2_with fail
  refine HRR.out.mono ?_
  rintro e w' ⟨rfl, hw⟩
  obtain rfl := hw.symm
  go_wp2_with fail
  clear e0 e1 e2 e3 HRR
  go_loopw [27] (fun x wx => ∃ i : Nat, x = .int .i64 i ∧ i ≤ m ∧ Jk K J D wx (wrS s b t L i) b n t ∧ KS K w0 wx) (fun x _ => m - (intOf x).toNat)
  case atStart => exact ⟨0, rfl, Nat.zero_le _, HJ2.out, HB.out⟩
  case round =>
    obtain ⟨i, rfl, hi, hj, hks⟩ := hrel
    have HJ3 := hid hj
    have HK3 := hid hks
    clear hj hks HB HJ2
    by_cases hlt : i < m
    · have hiL : i < L.length := by rw [HN.out]; exact hlt
      obtain ⟨g, off, rfl, hbl, d0, d1, d2⟩ := HG.out _ HK3.out i hiL
      have HI := hid hlt
      have HWI3 := hid (HWI.out i hiL)
      have HWN3 := hid (HWN.out i hiL)
      obtain ⟨q0, e0⟩ : ∃ q, (L[i]'hiL) = q := ⟨_, rfl⟩
      rw [e0] at d0 d1 d2 HWI3 HWN3
      obtain ⟨k0, m0, b0⟩ := q0
      dsimp only at d0 d1 d2
      clear e0
      have A4 := hid ((Below.refl wr.heap.size wr).alloc (Nat.le_refl _) (.cells #[.int .i64 k0, .int .i64 m0, .string b0] 69))
      have HX := hid (heap_alloc_new wr (.cells #[.int .i64 k0, .int .i64 m0, .string b0] 69))
      have HJ4 := hid (show Jk (fun j => K j ∨ j = wr.heap.size) J D (wr.alloc (.cells #[.int .i64 k0, .int .i64 m0, .string b0] 69)) (wrS s b t L i) b n t from ⟨HJ3.out.cd.more A4.out (fun k hk => hk.imp id (fun e => by omega)) (fun k hk => by
        rcases hk with hk | hk
        · have := HJ3.out.cd.lt k hk; simp; omega
        · subst hk; simp), .inl HJ3.out.kJ, .inl HJ3.out.k0, HJ3.out.j.below A4.out, HJ3.out.lst.next HJ3.out.lst.pos A4.out⟩)
      have HK4 := hid (HK3.out.trans (KS.of A4.out))
      go_wp2_with fail
      generalize wr.alloc (.cells #[.int .i64 k0, .int .i64 m0, .string b0] 69) = X at *
      have HDD := hid fun (V : World) (hv : KS (fun j => K j ∨ j = wr.heap.size) X V) => (show V.cell? ⟨J, 3, none⟩ = some (.int .i64 (t : Int)) ∧ V.cell? ⟨wr.heap.size, 0, none⟩ = some (.int .i64 k0) ∧ V.cell? ⟨wr.heap.size, 1, none⟩ = some (.int .i64 m0) ∧ V.cell? ⟨wr.heap.size, 2, none⟩ = some (.string b0) from by
        have hx := (hv.block wr.heap.size (Array.getElem?_eq_some_iff.1 HX.out).1 (.inr rfl)).trans HX.out
        exact ⟨(ks_cell hv HJ4.out.kJ HJ4.out.j.lt).trans HJ4.out.j.cells.2.2.2, by rw [cell_of_row _ _ _ _ _ _ hx]; rfl, by rw [cell_of_row _ _ _ _ _ _ hx]; rfl, by rw [cell_of_row _ _ _ _ _ _ hx]; rfl⟩)
      have y0 := HDD.out _ (KS.of (Below.refl X.heap.size X).drew)
      have x0 := HDD.out _ (KS.of (Below.refl X.heap.size X))
      have HJ5 := hid (HJ4.out.next (Below.refl X.heap.size X).drew)
      go_region_held3 (fun V => V.cell? ⟨J, 3, none⟩ = some (.int .i64 (t : Int)) ∧ V.cell? ⟨wr.heap.size, 0, none⟩ = some (.int .i64 k0) ∧ V.cell? ⟨wr.heap.size, 1, none⟩ = some (.int .i64 m0) ∧ V.cell? ⟨wr.heap.size, 2, none⟩ = some (.string b0)) (first | exact x0 | exact y0 | exact y1 | go_keep)
        (first
          | (go_at_call 90; with_reducible refine (HWI3.out _ _ HJ5.out).mono ?_; rintro e v1 ⟨rfl, hc, hks⟩; have HC1 := hid hc; have HK1 := hid ((KS.of (Below.refl X.heap.size X).drew).trans hks); have y1 := HDD.out _ HK1.out; clear hc hks)
          | fail)
      have HJ6 := hid (show Jk K J D v1 (wrS s b t L (i + 1)) b n t from by
        rw [HWN3.out]
        exact HJ3.out.step (HC1.out.less fun j e => .inl e) ((KS.of (K := K) (Below.refl wr.heap.size wr)).trans (KS.refl K wr) |>.trans (by exact (KS.less (KS.trans (KS.of A4.out) HK1.out) (fun j e => .inl e)))))
      have HK6 := hid (HK4.out.trans (KS.less HK1.out (fun j e => .inl e)))
      clear HX HJ4 HK4 HDD y0 x0 HJ5 HC1 HK1 y1 A4
      have hnn := HKM.out
      go_wp2_with fail
      go_roundw
      case rel => exact ⟨i + 1, by go_num, HI.out, HJ6.out, HK6.out⟩
      case measure => simp [intOf]; have := HI.out; omega
    · obtain rfl : i = m := by omega
      clear hlt hi
      obtain ⟨j0, j1, j2, j3⟩ := HJ3.out.j.cells
      go_wp2_with fail
      refine (HF1.out _ HJ3.out.cd).mono ?_
      rintro e w4 ⟨rfl, hc, hks⟩
      have HJ4 := hid (HJ3.out.step hc hks)
      have HK4 := hid (HK3.out.trans hks)
      clear hc hks j0 j1 j2 j3
      go_wp2_with fail
      refine (HCM.out _ HJ4.out.j HJ4.out.lst (HG.out _ HK4.out)).mono ?_
      rintro e w5 ⟨rfl, hb⟩
      have HJ5 := hid (HJ4.out.next hb)
      have HK5 := hid (HK4.out.trans (KS.of hb))
      clear hb
      go_wp2_with fail
      refine (HW2.out _ HJ5.out).mono ?_
      rintro e w6 ⟨rfl, hc, hks⟩
      have HJ6 := hid (HJ5.out.step hc hks)
      have HK6 := hid (HK5.out.trans hks)
      clear hc hks
      obtain ⟨j0, j1, j2, j3⟩ := HJ6.out.j.cells
      go_wp2_with fail
      refine (HF2.out _ HJ6.out.cd).mono ?_
      rintro e w7 ⟨rfl, hc, hks⟩
      have HC7 := hid hc
      have HK7 := hid (HK6.out.trans hks)
      clear hc hks
      go_wp2_with fail
      go_ret
      exact ⟨rfl, HC7.out, HK7.out⟩
end
end Go.Proofs.YtgihpdhkjneimaaGreatDoor.Jn
