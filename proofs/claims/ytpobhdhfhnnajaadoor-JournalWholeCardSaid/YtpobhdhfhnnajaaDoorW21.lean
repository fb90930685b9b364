/- Merged out of BkApp, DkROf, DkROk, DkOp0, WhOpn, JnWhL. -/
import Derived.Test.YtpobhdhfhnnajaaDoorW20
import Derived.Test.YtpobhdhfhnnajaaDoorW06
import Derived.Test.YtpobhdhfhnnajaaDoorW18
import Derived.Test.YtpobhdhfhnnajaaDoorW04
import Derived.Test.YtpobhdhfhnnajaaDoorW05
import Derived.Lib.SmallJoins
import Derived.ProofKit
import Derived.Deep.Slices
import Derived.ChangeSlices
/- Appends of whatever to whatever: onto a slice without room, and onto a row of the call's own. -/
namespace Go.Proofs.YtpobhdhfhnnajaaDoor.Bk
open Go.RowKit
open Go.Lib (hid)
open Go.Proofs.YtpobhdhfhnnajaaDoor.Ky

/-- cells that are read from a place on -/
def ReadAt (w : World) (p : Option Addr) (xs : List Value) : Prop := ∀ j u, xs[j]? = some u → ∃ b off, p = some ⟨b, off, none⟩ ∧ b < w.heap.size ∧ w.cell? ⟨b, off + j, none⟩ = some u
theorem ReadAt.below {w w' : World} {p : Option Addr} {xs : List Value} (h : ReadAt w p xs) (hb : Below w.heap.size w w') : ReadAt w' p xs := fun j u hj => by
  obtain ⟨b, off, e, hl, hc⟩ := h j u hj
  exact ⟨b, off, e, Nat.lt_of_lt_of_le hl hb.size, (hb.cell (p := ⟨b, _, none⟩) hl).trans hc⟩
theorem ReadAt.nil (w : World) (p : Option Addr) : ReadAt w p [] := fun j u hj => absurd hj (by simp)
theorem ReadAt.some_at {w : World} {p : Option Addr} {xs : List Value} (h : ReadAt w p xs) (h0 : 0 < xs.length) : ∃ b off, p = some ⟨b, off, none⟩ ∧ ∀ j u, xs[j]? = some u → w.cell? ((⟨b, off, none⟩ : Addr).add j) = some u := by
  obtain ⟨b, off, e, _, _⟩ := h 0 _ (List.getElem?_eq_getElem h0)
  refine ⟨b, off, e, fun j u hj => ?_⟩
  obtain ⟨b', off', e', _, hc⟩ := h j u hj
  rw [e] at e'
  cases e'
  rw [addr_add]; exact hc
theorem ReadAt.src {w : World} {p : Option Addr} {news : List Value} {P : Program} {t e : TypeId} {size m : Nat} (ht : P.underlying t = some (.slice e)) (h : ReadAt w p news) (hl : news.length = m * size) (hz : 0 < size) (h1 : ∀ u ∈ news, u.oneCell' = true) (c : Nat) : Src P size t (.slice p m c) m news w := by
  by_cases hm : m = 0
  · subst hm
    have hn : news = [] := List.length_eq_zero_iff.1 (by omega)
    subst hn
    cases p with
    | none => exact Src.ofNil w ht c
    | some a => exact Src.ofSlice w ht a 0 c [] (by simp) (fun j u hj => absurd hj (by simp)) (fun u hu => absurd hu (by simp))
  · obtain ⟨b, off, rfl, hc⟩ := h.some_at (by rw [hl]; exact Nat.mul_pos (by omega) hz)
    exact Src.ofSlice w ht _ m c news hl hc h1
/-- onto a slice that has no room -/
theorem run_app_full {P : Program} {w : World} {t e : TypeId} {i : TypeInfo} {z : Value} {size bytes : Nat} (ht : P.underlying t = some (.slice e)) (hi : P.info? e = some i) (hz : i.zero = some z)
    (hsize : i.size = size) (hby : i.bytes = bytes) (hzs : z.cells.size = size) (hsz : 0 < size) (ty : TypeId) (x : Option Addr) (n : Nat) (xs : List Value) (hx : ReadAt w x xs) (hxl : xs.length = n * size)
    (y : Value) (m : Nat) (news : List Value) (hs : Src P size t y m news w) (h63 : n + m ≤ maxLen) (hbytes : (n + m) * bytes ≤ 140737488355328) :
    ∃ p' c' w', (Builtin.append_ #[t, t] ty #[.slice x n n, y]).run P w = .ok (.slice p' (n + m) c') w' ∧ ReadAt w' p' (xs ++ news) ∧ Below w.heap.size w w' ∧ n + m ≤ c' ∧ (0 < m → w'.ownsRow w.heap.size e size (.slice p' (n + m) c') (n + m) (xs ++ news) ∧ p' = some ⟨w.heap.size, 0, none⟩) := by
  subst hsize
  subst hby
  by_cases hm : m = 0
  · subst hm
    have hn : news = [] := List.length_eq_zero_iff.1 (by have := hs.newsLen; omega)
    subst hn
    have hr : (Builtin.append_ #[t, t] ty #[.slice x n n, y]).run P w = .ok (.slice x (n + 0) n) w := by
      have hl := hs.len
      have hc := hs.cells
      rcases hs.kind with ⟨_, _⟩ | hk
      · cases x with
        | none =>
          have : n = 0 := by
            by_cases h0 : 0 < xs.length
            · obtain ⟨b, off, e1, _⟩ := hx.some_at h0; cases e1
            · rcases Nat.eq_zero_or_pos n with h | h
              · exact h
              · exact absurd (Nat.mul_pos h hsz) (by omega)
          subst this
          simp [Builtin.append_, run_underlying ht, sizeOf, typeInfo, hi, hl, hc]
        | some a =>
          simp [Builtin.append_, run_underlying ht, sizeOf, typeInfo, hi, hl, hc, storeCells]
      · rw [ht] at hk; cases hk
    refine ⟨x, n, w, hr, by rw [List.append_nil]; exact hx, Below.refl _ _, Nat.le_refl _, fun h => absurd h (by omega)⟩
  · have hold : (Builtin.firstCells i.size n (.slice x n n)).run P w.drew = .ok xs.toArray w.drew := by
      by_cases h0 : 0 < xs.length
      · obtain ⟨b, off, rfl, hc⟩ := hx.some_at h0
        exact run_firstCells_some w.drew i.size n _ n n xs hxl (by simpa using hc)
      · have hxn : xs = [] := List.length_eq_zero_iff.1 (by omega)
        subst hxn
        have hn0 : n = 0 := by
          rcases Nat.eq_zero_or_pos n with h | h
          · exact h
          · have := Nat.mul_pos h hsz; simp at hxl; omega
        subst hn0
        cases x with
        | none => exact run_firstCells_none w.drew i.size 0 0 0
        | some a => exact run_firstCells_some w.drew i.size 0 a 0 0 [] (by simp) (fun j u hj => absurd hj (by simp))
    have hr := run_append_grow_src (P := P) w t t ty e i z ht hi hz x n n xs hold y m news hs (by omega) (by unfold maxLen at h63; omega) (growslice_fits (by omega) hbytes)
    have hge := grownCap_ge w (n + m) n e
    have hcm := grownCap_le_maxLen w (n + m) n e h63
    generalize grownCap w (n + m) n e = cap at hr hge hcm
    have hsize : ((xs ++ news).toArray ++ Builtin.zeroCells z.cells (cap - (n + m))).size = cap * i.size := by
      have h1 := hs.newsLen
      have h2 : (Builtin.zeroCells z.cells (cap - (n + m))).size = (cap - (n + m)) * i.size := by
        rw [← hzs]
        simp [Builtin.zeroCells]
      rw [Array.size_append, h2, List.size_toArray, List.length_append, hxl, h1, ← Nat.add_mul, ← Nat.add_mul]
      congr 1; omega
    have htake : ((xs ++ news).toArray ++ Builtin.zeroCells z.cells (cap - (n + m))).toList.take ((n + m) * i.size) = xs ++ news := by
      rw [Array.toList_append]
      have hl : (xs ++ news).length = (n + m) * i.size := by rw [List.length_append, hxl, hs.newsLen, Nat.add_mul]
      rw [← hl]
      exact List.take_left
    have hheap : (w.drew.alloc (.cells ((xs ++ news).toArray ++ Builtin.zeroCells z.cells (cap - (n + m))) e)).heap[w.heap.size]? = some (.cells ((xs ++ news).toArray ++ Builtin.zeroCells z.cells (cap - (n + m))) e (0, 0)) := heap_alloc_new w.drew _
    refine ⟨_, _, _, hr, fun j u hj => ⟨w.heap.size, 0, rfl, by simp, ?_⟩, ((Below.refl _ _).drew.alloc (Nat.le_refl _) _), hge, fun _ => ⟨⟨by rw [List.length_append, hxl, hs.newsLen, Nat.add_mul], .inr ⟨w.heap.size, cap, _, rfl, Nat.le_refl _, hheap, hge, hcm, hsize, htake⟩⟩, rfl⟩⟩
    rw [cell_of_row _ _ _ _ _ _ hheap, Nat.zero_add]
    have hjl : j < (n + m) * i.size := by
      have := (List.getElem?_eq_some_iff.1 hj).1
      rw [List.length_append, hxl, hs.newsLen, ← Nat.add_mul] at this
      exact this
    rw [← htake, List.getElem?_take, if_pos hjl, Array.getElem?_toList] at hj
    exact hj
/-- onto a row of the call's own -/
theorem run_app_own {P : Program} {w : World} {t e : TypeId} {i : TypeInfo} {z : Value} {size bytes : Nat} (ht : P.underlying t = some (.slice e)) (hi : P.info? e = some i) (hz : i.zero = some z)
    (hsize : i.size = size) (hby : i.bytes = bytes) (hzs : z.cells.size = size) (hsz : 0 < size) (ty : TypeId) {base : Nat} (v : Value) (n : Nat) (xs : List Value) (hown : w.ownsRow base e size v n xs)
    (q : Option Addr) (m c : Nat) (news : List Value) (hq : ReadAt w q news) (hl : news.length = m * size) (h1 : ∀ u ∈ news, u.oneCell' = true) (h63 : n + m ≤ maxLen) (hbytes : (n + m) * bytes ≤ 140737488355328) (hbase : base ≤ w.heap.size) :
    ∃ v' w', (Builtin.append_ #[t, t] ty #[v, .slice q m c]).run P w = .ok v' w' ∧ w'.ownsRow base e size v' (n + m) (xs ++ news) ∧ w.grownBy w' v.ownBlock ∧ (v'.ownBlock = v.ownBlock ∨ v'.ownBlock = some w.heap.size) := by
  by_cases hm : m = 0
  · subst hm
    have hn : news = [] := List.length_eq_zero_iff.1 (by omega)
    subst hn
    have hr : (Builtin.append_ #[t, t] ty #[v, .slice q 0 c]).run P w = .ok v w := by
      subst hsize
      rcases hown.2 with ⟨rfl, rfl⟩ | ⟨g, cap, cur, rfl, _, _, hle, _⟩
      · cases q <;> simp [Builtin.append_, run_underlying ht, sizeOf, typeInfo, hi, Builtin.lenOf, Builtin.firstCells, loadCells, loadCellsFrom]
      · cases q <;> simp [Builtin.append_, run_underlying ht, sizeOf, typeInfo, hi, Builtin.lenOf, Builtin.firstCells, loadCells, loadCellsFrom, storeCells, hle]
    refine ⟨v, w, hr, by rw [List.append_nil]; exact hown, ⟨rfl, rfl, rfl, Nat.le_refl _, fun _ _ _ => rfl⟩, .inl rfl⟩
  · obtain ⟨b, off, rfl, hc⟩ := hq.some_at (by rw [hl]; exact Nat.mul_pos (by omega) hsz)
    obtain ⟨g, cap, w', hr, h2, h3, h4, _⟩ := run_append_lies (P := P) w t ty base e i z size bytes ht hi hz hsize hby hzs hsz v n xs hown ⟨b, off, none⟩ m c news hl hc h1 (by omega) h63 hbytes hbase w.heap.size rfl
    refine ⟨_, w', hr, h2, h3, ?_⟩
    rcases h4 with h4 | h4
    · exact .inl h4.symm
    · right; rw [h4]; rfl
section
variable {P : Program} {w : World} {ops : Array Oper} {o : Oper} {a : Act} {Q : Exit → Act → World → Prop}
theorem wp_app_run {K : Act → World → Prop} (s x : Operand) (t : TypeId) (ho : o.op = .call { callee := .builtin .append, args := #[s, x], argTypes := #[t, t] }) {v y v' : Value} {w' : World} (hs : a.eval s = v) (hx : a.eval x = y)
    (hr : (Builtin.append_ #[t, t] o.type #[v, y]).run P w = .ok v' w') (h : K (a.put o.dst v') w') : o.wp P a w K Q := by
  unfold Oper.wp execOp
  simp only [ho, resolve, invoke, builtin, Sem.run_bind, Sem.run_pure, Result.andThen_ok, List.map_toArray, List.map_cons, List.map_nil, hs, hx, hr]
  exact h
/-- an append at the walk: what it gives is told by 'F' -/
theorem wpList_app {rest : List Oper} (hgd : o.guard = none) (s x : Operand) (t : TypeId) (ho : o.op = .call { callee := .builtin .append, args := #[s, x], argTypes := #[t, t] }) {v y : Value} (hs : a.eval s = v) (hx : a.eval x = y) {F : Value → World → Prop}
    (hr : ∃ v' w', (Builtin.append_ #[t, t] o.type #[v, y]).run P w = .ok v' w' ∧ F v' w') (h : ∀ v' w', F v' w' → wpList P ops Q rest (a.put o.dst v') w') : wpList P ops Q (o :: rest) a w := by
  obtain ⟨v', w', hr, hf⟩ := hr
  exact wpList_plain hgd fun _ hK => wp_app_run s x t ho hs hx hr (hK _ _ (h v' w' hf))
theorem step_app {K : Act → World → Prop} {E : Prop} (hgd : o.guard = none) (s x : Operand) (t : TypeId) (ho : o.op = .call { callee := .builtin .append, args := #[s, x], argTypes := #[t, t] }) {v y : Value} (hs : a.eval s = v) (hx : a.eval x = y) {F : Value → World → Prop}
    (hr : ∃ v' w', (Builtin.append_ #[t, t] o.type #[v, y]).run P w = .ok v' w' ∧ F v' w') (h : ∀ v' w', F v' w' → K (a.put o.dst v') w') :
    if Region.wanted o (yielded ops a.tmps) = true then Oper.wp P o a w K Q else E := by
  have hw : Region.wanted o (yielded ops a.tmps) = true := by simp [Region.wanted, hgd]
  rw [if_pos hw]
  obtain ⟨v', w', hr, hf⟩ := hr
  exact wp_app_run s x t ho hs hx hr (h v' w' hf)
end
/-- what an append onto a slice without room gives -/
def Full (w : World) (e : TypeId) (size n m : Nat) (ys : List Value) (v' : Value) (w' : World) : Prop :=
  ∃ p' c', v' = .slice p' (n + m) c' ∧ ReadAt w' p' ys ∧ Below w.heap.size w w' ∧ n + m ≤ c' ∧ (0 < m → w'.ownsRow w.heap.size e size (.slice p' (n + m) c') (n + m) ys ∧ p' = some ⟨w.heap.size, 0, none⟩)
/-- what an append onto a row of the call's own gives -/
def Owns (w : World) (base : Nat) (e : TypeId) (size : Nat) (v : Value) (n : Nat) (ys : List Value) (v' : Value) (w' : World) : Prop :=
  w'.ownsRow base e size v' n ys ∧ w.grownBy w' v.ownBlock ∧ (v'.ownBlock = v.ownBlock ∨ v'.ownBlock = some w.heap.size)
theorem kinfo : (Tryd.prog.info? 64).map (fun i => (i.zero, i.size, i.bytes)) = some (some (.int .u32 0), 1, 4) := by kernel_rfl
/-- a point's cells -/
def kl (l : List Nat) : List Value := l.map fun (x : Nat) => Value.int .u32 (x : Int)
theorem kl_length (l : List Nat) : (kl l).length = l.length := by simp [kl]
theorem kl_one (l : List Nat) : ∀ u ∈ kl l, u.oneCell' = true := fun u hu => by
  obtain ⟨x, _, rfl⟩ := List.mem_map.1 hu
  rfl
theorem Pt.read {w : World} {p : Option Addr} {l : List Nat} (h : Pt w p l) : ReadAt w p (kl l) := fun j u hj => by
  have hjl : j < l.length := by have := (List.getElem?_eq_some_iff.1 hj).1; rwa [kl_length] at this
  obtain ⟨b, off, e, hb, hc⟩ := h.cells j hjl
  refine ⟨b, off, e, hb, hc.trans ?_⟩
  rw [← hj]; simp [kl, hjl]
/-- a point that is new -/
theorem new_pt {w w' : World} {l : List Nat} {v' : Value} (hf : ∀ j, (hj : j < l.length) → l[j] < 4294967296) (h : Full w 64 1 0 l.length (kl l) v' w') :
    ∃ p' c', v' = .slice p' l.length c' ∧ PtD (fun k => k < w.heap.size) w' p' l ∧ Below w.heap.size w w' := by
  obtain ⟨p', c', rfl, hr, hb, _, ho⟩ := h
  refine ⟨p', c', by rw [Nat.zero_add], ⟨fun j hj => ?_, hf⟩, hb⟩
  obtain ⟨b, off, e, hlt, hc⟩ := hr j (.int .u32 (l[j] : Int)) (by simp [kl, hj])
  refine ⟨b, off, e, hlt, ?_, hc⟩
  have := (ho (by omega)).2
  rw [e] at this
  injection this with this
  injection this with h1
  omega
end Go.Proofs.YtpobhdhfhnnajaaDoor.Bk

/- Of of the reference: a disk of an image, or none. -/
namespace Go.Proofs.YtpobhdhfhnnajaaDoor.Dk
open Go.RowKit
open Go.Lib (hid)
open Go.Proofs.YtpobhdhfhnnajaaDoor.Bk (Owns ReadAt step_app run_app_own)

theorem ballocS (w : World) (o : Obj) : Below w.heap.size w (w.alloc o) := (Below.refl _ _).alloc (Nat.le_refl _) o
theorem strinfo : (Tryd.prog.info? 9).map (fun i => (i.zero, i.size, i.bytes)) = some (some (.string ⟨#[]⟩), 1, 16) := by kernel_rfl
theorem str_own {w : World} (ty : TypeId) {base : Nat} (v : Value) (n : Nat) (xs : List Value) (hown : w.ownsRow base 9 1 v n xs) (q : Option Addr) (m c : Nat) (news : List Value) (hq : ReadAt w q news) (hl : news.length = m * 1) (h1 : ∀ u ∈ news, u.oneCell' = true) (hb : n + m ≤ 1000000) (hbase : base ≤ w.heap.size) :
    ∃ v' w', (Builtin.append_ #[48, 48] ty #[v, .slice q m c]).run Tryd.prog w = .ok v' w' ∧ Owns w base 9 1 v (n + m) (xs ++ news) v' w' := by
  obtain ⟨i, hi, hz0, hz1, hz2⟩ := info_parts strinfo
  exact run_app_own (P := Tryd.prog) Tryd.underlying48 hi hz0 hz1 hz2 rfl (by decide) ty v n xs hown q m c news hq hl h1 (by unfold maxLen; omega) (by omega) hbase
theorem sread_one (W : World) (u : Value) (T : TypeId) : ReadAt (W.alloc (.cells #[u] T)) (some ⟨W.heap.size, 0, none⟩) [u] := fun j y hj => by
  refine ⟨W.heap.size, 0, rfl, by simp, ?_⟩
  rw [cell_of_row _ _ _ _ _ _ (heap_alloc_new W _), Nat.zero_add]
  match j, hj with
  | 0, hj => simpa using hj
/-- the reference's disk under way: so many pages -/
structure PR (w V : World) (g : Nat) (v : Value) (l : List ByteArray) : Prop where
  box : V.heap[g]? = some (.cells #[v, .slice none 0 0, .int .i64 0, .int .i64 0, .int .i64 0, .int .i64 (-1)] 76 (0, 0))
  own : V.ownsRow (g + 1) 9 1 v l.length (sv l)
  below : Below g w V
theorem PR.lt {w V : World} {g : Nat} {v : Value} {l : List ByteArray} (h : PR w V g v l) : g < V.heap.size := (Array.getElem?_eq_some_iff.1 h.box).1
theorem PR.cell {w V : World} {g : Nat} {v : Value} {l : List ByteArray} (h : PR w V g v l) : V.cell? ⟨g, 0, none⟩ = some v ∧ V.frozen? ⟨g, 0, none⟩ = false :=
  ⟨by rw [cell_of_row _ _ _ _ _ _ h.box]; rfl, frozen_of_row _ _ _ _ _ h.box⟩
theorem own_belowS {w w' : World} {base e size n : Nat} {v : Value} {xs : List Value} (h : w.ownsRow base e size v n xs) (hb : Below w.heap.size w w') : w'.ownsRow base e size v n xs := by
  refine ⟨h.1, ?_⟩
  rcases h.2 with hn | ⟨g, cap, cur, hv, hb0, hg, rest⟩
  · exact .inl hn
  · exact .inr ⟨g, cap, cur, hv, hb0, by rw [hb.block g (Array.getElem?_eq_some_iff.1 hg).1]; exact hg, rest⟩
theorem own_setS {w : World} {base e size n g i : Nat} {v u : Value} {xs : List Value} (h : w.ownsRow base e size v n xs) (hg : g < base) : (w.setCell ⟨g, i, none⟩ u).ownsRow base e size v n xs := by
  refine ⟨h.1, ?_⟩
  rcases h.2 with hn | ⟨g', cap, cur, hv, hb0, hh, rest⟩
  · exact .inl hn
  · exact .inr ⟨g', cap, cur, hv, hb0, by rw [heap_setCell_other _ _ _ _ (show g' ≠ g by omega)]; exact hh, rest⟩
theorem row_sliceS {w : World} {base e size n : Nat} {v : Value} {xs : List Value} (h : w.ownsRow base e size v n xs) : ∃ p m c, v = .slice p m c := by
  rcases h.2 with ⟨rfl, _⟩ | ⟨g, cap, cur, rfl, _⟩
  · exact ⟨_, _, _, rfl⟩
  · exact ⟨_, _, _, rfl⟩
/-- one more page: an array of it, the append, the store -/
theorem PR.more {w V w4 : World} {g : Nat} {v v' : Value} {l : List ByteArray} {t : ByteArray} (h : PR w V g v l) (hgw : g = w.heap.size) {W : World} (hW : Below V.heap.size V W)
    (ho : Owns W (g + 1) 9 1 v (l.length + 1) (sv l ++ [.string t]) v' w4) :
    PR w (w4.setCell ⟨g, 0, none⟩ v') g v' (l ++ [t]) ∧ w4.cell? ⟨g, 0, none⟩ = some v ∧ w4.frozen? ⟨g, 0, none⟩ = false := by
  obtain ⟨h1, h2, h3⟩ := ho
  have hlt := h.lt
  have hne : ∀ b, v.ownBlock = some b → b ≠ g := fun b hb => by have := (h.own.lt b hb).1; omega
  have hbx : w4.heap[g]? = some (.cells #[v, .slice none 0 0, .int .i64 0, .int .i64 0, .int .i64 0, .int .i64 (-1)] 76 (0, 0)) := by
    rw [h2.block g (Nat.lt_of_lt_of_le hlt hW.size) (fun e => hne g e.symm rfl), hW.block g hlt]; exact h.box
  refine ⟨⟨?_, ?_, ?_⟩, by rw [cell_of_row _ _ _ _ _ _ hbx]; rfl, frozen_of_row _ _ _ _ _ hbx⟩
  · rw [heap_setCell_same _ _ _ _ _ _ hbx]; simp
  · rw [List.length_append, show sv (l ++ [t]) = sv l ++ [.string t] by simp [sv]]
    exact own_setS h1 (Nat.lt_succ_self g)
  · have hb1 : Below g w W := h.below.trans (hW.mono (Nat.le_of_lt hlt))
    have hb2 : Below g w w4 := hb1.grown h2 (Nat.le_of_lt (Nat.lt_of_lt_of_le hlt hW.size)) (fun k hk => by have := (h.own.lt k hk).1; omega)
    exact hb2.setCell (p := ⟨g, 0, none⟩) (Nat.le_refl _) _
def OfPost (w : World) (ok : Bool) (e : Ending) (w' : World) : Prop :=
  Below w.heap.size w w' ∧ ((ok = true ∧ ∃ D, e = .returned (.tuple #[.pointer (some ⟨D, 0, none⟩), .int .i64 0])) ∨ (ok = false ∧ e = .returned (.tuple #[.pointer none, .int .i64 1])))
/-- may these texts be an image? -/
def imgOk (l : List ByteArray) : Bool := l.all fun t => t.size == 256
set_option maxHeartbeats 400000 in
theorem refOf_few (p : Option Addr) (c : Nat) (w : World) :
    Calls Tryd.prog 18 #[.slice p 0 c] w fun e w' => e = .returned (.tuple #[.pointer none, .int .i64 1]) ∧ w = w' := by
  go_enter Tryd.func18, Tryd.ntmps18
  go_wp2_with fail
  go_ret2
  exact ⟨rfl, rfl⟩
set_option maxRecDepth 100000 in
set_option maxHeartbeats 4000000 in
theorem refOf_ok (l : List ByteArray) (p : Option Addr) (c : Nat) (w : World) (h1 : 1 ≤ l.length) (h2 : l.length ≤ 1000) (hs : ∀ t ∈ l, t.size ≤ 100000) (hp : CellsAt w p (sv l)) (hlt0 : ∀ b off, p = some ⟨b, off, none⟩ → b < w.heap.size) :
    Calls Tryd.prog 18 #[.slice p l.length c] w (OfPost w (imgOk l)) := by
  have HP := hid hp; have HL0 := hid hlt0; have HSZ := hid hs; clear hp hlt0 hs
  have e1 : decide ((l.length : Int) < 1) = false := by simp; omega
  have e2 : decide ((1000 : Int) < (l.length : Int)) = false := by simp; omega
  go_enter Tryd.func18, Tryd.ntmps18
  go_wp2_with fail
  clear e1 e2
  go_loopw [5] (fun i wr => ∃ (k : Nat) (v : Value), k ≤ l.length ∧ i = .int .i64 k ∧ PR w wr w.heap.size v (l.take k) ∧ imgOk (l.take k) = true) (fun i _ => l.length - (intOf i).toNat)
  case atStart =>
    refine ⟨0, .slice none 0 0, by omega, rfl, ⟨?_, World.ownsRow_nil _ _ _ _, ?_⟩, rfl⟩
    · exact heap_alloc_new _ _
    · exact ballocS w _
  case round =>
    obtain ⟨k, v, hk, rfl, hpr, hok⟩ := hrel
    have HK := hid hpr; have HOK := hid hok; clear hpr hok
    rename World => w0
    by_cases hlt : k < l.length
    · obtain ⟨b, off, rfl, hc⟩ := HP.out k (by rw [sv_length]; exact hlt)
      have hbw := HL0.out b off rfl
      have hc0 : w.cell? ⟨b, off + k, none⟩ = some (.string l[k]) := by have := hc; simp [sv] at this; exact this
      have hc1 : w0.cell? ⟨b, off + k, none⟩ = some (.string l[k]) := by rw [HK.out.below.cell (p := ⟨b, off + k, none⟩) hbw]; exact hc0
      have HNX : Hid (l.take (k + 1) = l.take k ++ [l[k]]) := hid (List.take_succ_eq_append_getElem hlt)
      have hsz := HSZ.out _ (List.getElem_mem hlt)
      have htk : (l.take k).length = k := by rw [List.length_take]; omega
      clear hc hc0
      by_cases hn : l[k].size = 256
      · have HOK2 : Hid (imgOk (l.take (k + 1)) = true) := hid (by
          rw [HNX.out]; unfold imgOk; rw [List.all_append]
          have := HOK.out; unfold imgOk at this; rw [this]; simp [hn])
        generalize l[k] = t at hc1 hn HNX hsz
        have e3 : ((t.size : Int) != 256) = false := by simp; omega
        clear hn
        obtain ⟨c0, f0⟩ := HK.out.cell
        have HW := hid (ballocS w0 (.cells #[.string t] 9)).drew
        have HAP := hid (str_own (w := (w0.alloc (.cells #[.string t] 9)).drew) 48 v (l.take k).length (sv (l.take k)) (own_belowS HK.out.own HW.out) (some ⟨w0.heap.size, 0, none⟩) 1 1 [.string t] (fun j u hj => by obtain ⟨b', o', h1, h2, h3⟩ := sread_one w0 (.string t) 9 j u hj; exact ⟨b', o', h1, h2, h3⟩) rfl (by simp [Value.oneCell']) (by omega) (by have := HK.out.lt; simp; omega))
        have c5 : (w0.alloc (.cells #[.string t] 9)).cell? ⟨w.heap.size, 0, none⟩ = some v := (HW.out.cell (p := ⟨w.heap.size, 0, none⟩) HK.out.lt).trans c0
        have c6 : (w0.alloc (.cells #[.string t] 9)).cell? ⟨b, off + k, none⟩ = some (.string t) := (HW.out.cell (p := ⟨b, off + k, none⟩) (Nat.lt_of_lt_of_le hbw HK.out.below.size)).trans hc1
        go_wp2_with fail
        go_region_law (first
          | (refine step_app (by rfl) _ _ _ (by rfl) (by rfl) (by rfl) HAP.out ?_; intro v' w4 hF; obtain ⟨pp, nn, cc, hvv⟩ := Go.Proofs.YtpobhdhfhnnajaaDoor.Dk.row_sliceS hF.1; subst hvv; have HM := hid (HK.out.more rfl HW.out hF); have c4 : w4.cell? ⟨w.heap.size, 0, none⟩ = some v := HM.out.2.1; have f4 : w4.frozen? ⟨w.heap.size, 0, none⟩ = false := HM.out.2.2; clear hF))
        all_goals
          clear c0 f0 c4 f4 c5 c6
          go_wp2_with fail
          go_roundw
          case rel => exact ⟨k + 1, _, by omega, by go_num, by rw [HNX.out]; exact HM.out.1, HOK2.out⟩
          case measure => simp [intOf]; omega
      · have HNO : Hid (imgOk l = false) := hid (by
          unfold imgOk
          rw [List.all_eq_false]
          exact ⟨l[k], List.getElem_mem hlt, by simpa using hn⟩)
        generalize l[k] = t at hc1 hn hsz
        have e3 : ((t.size : Int) != 256) = true := by simp; omega
        clear hn HNX
        go_wp2_with fail
        refine bodyPost_ret (v := .tuple #[.pointer none, .int .i64 1]) (by simp [results, Tryd.results18, go_sem]) rfl ?_
        exact ⟨HK.out.below, .inr ⟨HNO.out, rfl⟩⟩
    · obtain rfl : k = l.length := by omega
      have HYES : Hid (imgOk l = true) := hid (by have := HOK.out; rwa [List.take_length] at this)
      go_wp2_with fail
      refine bodyPost_ret (v := .tuple #[.pointer (some ⟨w.heap.size, 0, none⟩), .int .i64 0]) (by simp [results, Tryd.results18, go_sem]) rfl ?_
      exact ⟨HK.out.below, .inl ⟨HYES.out, _, rfl⟩⟩
end Go.Proofs.YtpobhdhfhnnajaaDoor.Dk

/- Of of the document's disk gives one. -/
namespace Go.Proofs.YtpobhdhfhnnajaaDoor.Dk
open Go.RowKit
open Go.Lib (hid)
open Go.Proofs.YtpobhdhfhnnajaaDoor.Bk (Owns ReadAt step_app run_app_own)
theorem prr_done {w V : World} {g : Nat} {v : Value} {l : List ByteArray} (h : PR w V g v l) (h1 : 1 ≤ l.length) (hg : Good (newS l)) :
    ∃ d : Ptrs, d.D = g ∧ Rk V d (newS l) ∧ ∀ k, Foot d k → g ≤ k := by
  obtain ⟨hx, hy | ⟨g', cap, cur, hv, hb, hh, hle, hm, hsz, htk⟩⟩ := h.own
  · omega
  · subst hv
    rw [Nat.mul_one] at hsz htk
    refine ⟨⟨g, g', cap, .slice none 0 0⟩, rfl, ⟨h.box, ⟨cur, hh, hsz, hle, hm, htk⟩, World.ownsRow_nil _ _ _ _, by show g ≠ g'; omega, by simp [Value.ownBlock], by simp [Value.ownBlock], hg⟩, ?_⟩
    intro k hk
    rcases hk with e | e | e
    · have e : k = g := e; omega
    · have e : k = g' := e; omega
    · cases e
set_option maxRecDepth 100000 in
set_option maxHeartbeats 4000000 in
theorem refOf_rk (l : List ByteArray) (p : Option Addr) (c : Nat) (w : World) (h1 : 1 ≤ l.length) (h2 : l.length ≤ 1000) (hs : ∀ t ∈ l, t.size = 256) (hp : CellsAt w p (sv l)) (hlt0 : ∀ b off, p = some ⟨b, off, none⟩ → b < w.heap.size) :
    Calls Tryd.prog 18 #[.slice p l.length c] w fun e w' => ∃ d : Ptrs, e = .returned (.tuple #[.pointer (some ⟨d.D, 0, none⟩), .int .i64 0]) ∧ Rk w' d (newS l) ∧ Below w.heap.size w w' ∧ ∀ k, Foot d k → w.heap.size ≤ k := by
  have HGD := hid (newS_good h1 h2 hs)
  have HP := hid hp; have HL0 := hid hlt0; have HSZ := hid hs; clear hp hlt0 hs
  have e1 : decide ((l.length : Int) < 1) = false := by simp; omega
  have e2 : decide ((1000 : Int) < (l.length : Int)) = false := by simp; omega
  go_enter Tryd.func18, Tryd.ntmps18
  go_wp2_with fail
  clear e1 e2
  go_loopw [5] (fun i wr => ∃ (k : Nat) (v : Value), k ≤ l.length ∧ i = .int .i64 k ∧ PR w wr w.heap.size v (l.take k) ∧ imgOk (l.take k) = true) (fun i _ => l.length - (intOf i).toNat)
  case atStart =>
    refine ⟨0, .slice none 0 0, by omega, rfl, ⟨?_, World.ownsRow_nil _ _ _ _, ?_⟩, rfl⟩
    · exact heap_alloc_new _ _
    · exact ballocS w _
  case round =>
    obtain ⟨k, v, hk, rfl, hpr, hok⟩ := hrel
    have HK := hid hpr; have HOK := hid hok; clear hpr hok
    rename World => w0
    by_cases hlt : k < l.length
    · obtain ⟨b, off, rfl, hc⟩ := HP.out k (by rw [sv_length]; exact hlt)
      have hbw := HL0.out b off rfl
      have hc0 : w.cell? ⟨b, off + k, none⟩ = some (.string l[k]) := by have := hc; simp [sv] at this; exact this
      have hc1 : w0.cell? ⟨b, off + k, none⟩ = some (.string l[k]) := by rw [HK.out.below.cell (p := ⟨b, off + k, none⟩) hbw]; exact hc0
      have HNX : Hid (l.take (k + 1) = l.take k ++ [l[k]]) := hid (List.take_succ_eq_append_getElem hlt)
      have hsz := HSZ.out _ (List.getElem_mem hlt)
      have htk : (l.take k).length = k := by rw [List.length_take]; omega
      clear hc hc0
      by_cases hn : l[k].size = 256
      · have HOK2 : Hid (imgOk (l.take (k + 1)) = true) := hid (by
          rw [HNX.out]; unfold imgOk; rw [List.all_append]
          have := HOK.out; unfold imgOk at this; rw [this]; simp [hn])
        generalize l[k] = t at hc1 hn HNX hsz
        have e3 : ((t.size : Int) != 256) = false := by simp; omega
        clear hn
        obtain ⟨c0, f0⟩ := HK.out.cell
        have HW := hid (ballocS w0 (.cells #[.string t] 9)).drew
        have HAP := hid (str_own (w := (w0.alloc (.cells #[.string t] 9)).drew) 48 v (l.take k).length (sv (l.take k)) (own_belowS HK.out.own HW.out) (some ⟨w0.heap.size, 0, none⟩) 1 1 [.string t] (fun j u hj => by obtain ⟨b', o', h1, h2, h3⟩ := sread_one w0 (.string t) 9 j u hj; exact ⟨b', o', h1, h2, h3⟩) rfl (by simp [Value.oneCell']) (by omega) (by have := HK.out.lt; simp; omega))
        have c5 : (w0.alloc (.cells #[.string t] 9)).cell? ⟨w.heap.size, 0, none⟩ = some v := (HW.out.cell (p := ⟨w.heap.size, 0, none⟩) HK.out.lt).trans c0
        have c6 : (w0.alloc (.cells #[.string t] 9)).cell? ⟨b, off + k, none⟩ = some (.string t) := (HW.out.cell (p := ⟨b, off + k, none⟩) (Nat.lt_of_lt_of_le hbw HK.out.below.size)).trans hc1
        go_wp2_with fail
        go_region_law (first
          | (refine step_app (by rfl) _ _ _ (by rfl) (by rfl) (by rfl) HAP.out ?_; intro v' w4 hF; obtain ⟨pp, nn, cc, hvv⟩ := Go.Proofs.YtpobhdhfhnnajaaDoor.Dk.row_sliceS hF.1; subst hvv; have HM := hid (HK.out.more rfl HW.out hF); have c4 : w4.cell? ⟨w.heap.size, 0, none⟩ = some v := HM.out.2.1; have f4 : w4.frozen? ⟨w.heap.size, 0, none⟩ = false := HM.out.2.2; clear hF))
        all_goals
          clear c0 f0 c4 f4 c5 c6
          go_wp2_with fail
          go_roundw
          case rel => exact ⟨k + 1, _, by omega, by go_num, by rw [HNX.out]; exact HM.out.1, HOK2.out⟩
          case measure => simp [intOf]; omega
      · exact absurd hsz hn
    · obtain rfl : k = l.length := by omega
      have HF := hid (show PR w w0 w.heap.size v l by have := HK.out; rwa [List.take_length] at this)
      obtain ⟨d, hd, hr, hf⟩ := prr_done HF.out (by omega) HGD.out
      have HRR := hid (And.intro hr hf)
      go_wp2_with fail
      refine bodyPost_ret (v := .tuple #[.pointer (some ⟨w.heap.size, 0, none⟩), .int .i64 0]) (by simp [results, Tryd.results18, go_sem]) rfl ?_
      exact ⟨d, by rw [hd], HRR.out.1, HF.out.below, HRR.out.2⟩
end Go.Proofs.YtpobhdhfhnnajaaDoor.Dk

/- Lists of ints that came in, opened, with their room; bytes. -/
namespace Go.Proofs.YtpobhdhfhnnajaaDoor.Dk
open Go.RowKit
open Go.Lib (hid)
open Go.ChangeShapes Go.WideShapes Go.Joins Go.Deep

/-- a slice of ints that came in -/
structure Is (w : World) (p : Option Addr) (l : List Int) : Prop where
  cells : Kept w p l
theorem Is.below {w w' : World} {p : Option Addr} {l : List Int} (h : Is w p l) (hb : Below w.heap.size w w') : Is w' p l := ⟨fun j hj => by
  obtain ⟨b, off, e, hlt, hc⟩ := h.cells j hj
  exact ⟨b, off, e, Nat.lt_of_lt_of_le hlt hb.size, (hb.cell (p := ⟨b, off + j, none⟩) hlt).trans hc⟩⟩
theorem wf_i64 {x : Int} (h : (Lit.int .i64 x).wf = true) : -9223372036854775808 ≤ x ∧ x ≤ 9223372036854775807 := by
  have h1 : IntKind.i64.min = -9223372036854775808 := rfl
  have h2 : IntKind.i64.max = 9223372036854775807 := rfl
  simp [Lit.wf] at h
  omega
theorem wf_u8 {x : Int} (h : (Lit.int .u8 x).wf = true) : 0 ≤ x ∧ x < 256 := by
  have h1 : IntKind.u8.min = 0 := rfl
  have h2 : IntKind.u8.max = 255 := rfl
  simp [Lit.wf] at h
  omega
section
variable {H : Type} {enc : TypeId × Value → H} {W : World} {base : Nat} {sp : Nat → Bool} {hd : Bool}
theorem cs_int : Tryd.prog.cellsOf 3 = 1 := by kernel_rfl
theorem addr_at {a : Addr} {k : IntKind} {zs : List Int} {len : Nat} (hl : len ≤ zs.length) (hc : ∀ i, i < zs.length → W.cell? (a.add i) = some (.int k (zs.getD i 0))) (h0 : 0 < len) :
    ∃ b off, a = ⟨b, off, none⟩ ∧ b < W.heap.size ∧ ∀ j, j < len → W.cell? ⟨b, off + j, none⟩ = some (.int k (zs.getD j 0)) := by
  obtain ⟨blk, off, spot⟩ := a
  have hfirst := hc 0 (by omega)
  have hspot : spot = none := by simpa [Addr.add] using World.cell?_spot hfirst
  subst hspot
  have hadd : ∀ i, (⟨blk, off, none⟩ : Addr).add i = ⟨blk, off + i, none⟩ := fun i => by unfold Addr.add; split <;> simp_all
  rw [hadd] at hfirst
  refine ⟨blk, off, rfl, block_lt_of_cell hfirst, fun j hj => ?_⟩
  have := hc j (by omega)
  rwa [hadd] at this
theorem ints_trod {n : Nat} {cs : List Value} {x : DataW H × List MemPlace} {v : Value} (hcs0 : cs = [v]) (hf : DataW.trod enc Tryd.prog W base sp hd n 42 cs = some x) : ∃ p l c, v = .slice p l.length c ∧ Is W p l ∧ l.length ≤ 9223372036854775807 ∧ l.length ≤ c := by
  rcases open_ints Tryd.underlying42 Tryd.underlying3 cs_int hf with ⟨hcs, _⟩ | ⟨a, len, cap, zs, hcs, _, hlc, hcm, hzl, _, hc, hw⟩
  · rw [hcs] at hcs0
    simp at hcs0
    subst hcs0
    exact ⟨none, [], 0, rfl, ⟨fun j hj => absurd hj (by simp)⟩, by simp, by simp⟩
  · rw [hcs] at hcs0
    simp at hcs0
    subst hcs0
    have hl : len ≤ zs.length := by rw [hzl]; split <;> omega
    have hlen : (zs.take len).length = len := by simp; omega
    refine ⟨some a, zs.take len, cap, by rw [hlen], ⟨fun j hj => ?_⟩, by rw [hlen]; unfold maxLen at hcm; omega, by rw [hlen]; exact hlc⟩
    have hj3 : j < len := by rw [hlen] at hj; exact hj
    have hj2 : j < zs.length := by omega
    obtain ⟨b, off, rfl, hlt, hcell⟩ := addr_at hl hc (by omega : 0 < len)
    refine ⟨b, off, rfl, hlt, ?_⟩
    rw [hcell j (by omega), List.getElem_take, List.getD_eq_getElem?_getD, List.getElem?_eq_getElem hj2, Option.getD_some]
end
end Go.Proofs.YtpobhdhfhnnajaaDoor.Dk

/- Structs that come in, opened (written by a program of mine). -/
namespace Go.Proofs.YtpobhdhfhnnajaaDoor.Dk
open Go.RowKit
open Go.Lib (hid)
open Go.ChangeShapes Go.WideShapes Go.Joins Go.Deep
section
variable {H : Type} {enc : TypeId × Value → H} {W : World} {base : Nat} {sp : Nat → Bool} {hd : Bool}
theorem cz_Pg_s : Tryd.prog.cellsOf 24 = 1 := by kernel_rfl
theorem cz_int : Tryd.prog.cellsOf 3 = 1 := by kernel_rfl
theorem cz_intc : Tryd.prog.cellsOf 42 = 1 := by kernel_rfl
theorem cz_string : Tryd.prog.cellsOf 9 = 1 := by kernel_rfl
theorem cz_one {l : List Value} {j c : Nat} {x : Value} (hx : l[j]? = some x) (hc : c = 1) : (l.drop j).take c = [x] := by
  subst hc
  obtain ⟨h, e⟩ := List.getElem?_eq_some_iff.1 hx
  rw [List.drop_eq_getElem_cons h, e]; rfl
theorem cz_two {l : List Value} {j c : Nat} {x y : Value} (hx : l[j]? = some x) (hy : l[j + 1]? = some y) (hc : c = 2) : (l.drop j).take c = [x, y] := by
  subst hc
  obtain ⟨h, e⟩ := List.getElem?_eq_some_iff.1 hx
  obtain ⟨h', e'⟩ := List.getElem?_eq_some_iff.1 hy
  rw [List.drop_eq_getElem_cons h, List.drop_eq_getElem_cons h', e, e']; rfl
/-- what such a struct holds -/
structure PgD where
  a0 : Int
  a1 : Int
  t2 : ByteArray
def PgD.cells (d : PgD) : List Value := [.int .i64 d.a0, .int .i64 d.a1, .string d.t2]
structure PgD.Ok (w : World) (d : PgD) : Prop where
  f0 : (-9223372036854775808 ≤ d.a0 ∧ d.a0 ≤ 9223372036854775807)
  f1 : (-9223372036854775808 ≤ d.a1 ∧ d.a1 ≤ 9223372036854775807)
  f2 : d.t2.size ≤ 9223372036854775807
theorem PgD.Ok.below {w w' : World} {d : PgD} (h : d.Ok w) (_ : Below w.heap.size w w') : d.Ok w' := ⟨h.f0, h.f1, h.f2⟩
theorem cz_Pg : Tryd.prog.cellsOf 60 = 3 := by kernel_rfl
set_option maxRecDepth 100000 in
set_option maxHeartbeats 1000000 in
theorem pg_cells {n : Nat} {l : List Value} {x : DataW H × List MemPlace} (hl : l.length = 3) (hf : DataW.trod enc Tryd.prog W base sp hd n 60 l = some x) : ∃ d : PgD, l = d.cells ∧ d.Ok W := by
  obtain ⟨x0, x1, x2, rfl⟩ : ∃ x0 x1 x2, l = [x0, x1, x2] := by
    match l, hl with
    | [x0, x1, x2], _ => exact ⟨x0, x1, x2, rfl⟩
  obtain ⟨xs, m, _, _, _, hlen, hff⟩ := DataW.trod_struct Tryd.underlying60 hf
  have hlen2 : xs.length = 3 := hlen
  have some_at : ∀ j, j < 3 → (xs[j]?).isSome = true := fun j hj => by rw [List.getElem?_eq_getElem (by omega)]; rfl
  obtain ⟨y0, hy0⟩ := Option.isSome_iff_exists.1 (some_at 0 (by omega))
  have h0 := hff 0 _ rfl
  rw [hy0] at h0
  have g0 : DataW.trod enc Tryd.prog W base sp hd m 3 [x0] = some y0 := by rw [← show (([x0, x1, x2] : List Value).drop 0).take (Tryd.prog.cellsOf 3) = [x0] from cz_one rfl cz_int]; exact h0
  obtain ⟨y1, hy1⟩ := Option.isSome_iff_exists.1 (some_at 1 (by omega))
  have h1 := hff 1 _ rfl
  rw [hy1] at h1
  have g1 : DataW.trod enc Tryd.prog W base sp hd m 3 [x1] = some y1 := by rw [← show (([x0, x1, x2] : List Value).drop 1).take (Tryd.prog.cellsOf 3) = [x1] from cz_one rfl cz_int]; exact h1
  obtain ⟨y2, hy2⟩ := Option.isSome_iff_exists.1 (some_at 2 (by omega))
  have h2 := hff 2 _ rfl
  rw [hy2] at h2
  have g2 : DataW.trod enc Tryd.prog W base sp hd m 9 [x2] = some y2 := by rw [← show (([x0, x1, x2] : List Value).drop 2).take (Tryd.prog.cellsOf 9) = [x2] from cz_one rfl cz_string]; exact h2
  obtain ⟨a0, e0, _, wf0⟩ := DataW.trod_int Tryd.underlying3 g0
  simp only [List.cons.injEq, and_true] at e0
  subst e0
  obtain ⟨a1, e1, _, wf1⟩ := DataW.trod_int Tryd.underlying3 g1
  simp only [List.cons.injEq, and_true] at e1
  subst e1
  obtain ⟨t2, e2, _, wt2⟩ := DataW.trod_string Tryd.underlying9 g2
  simp only [List.cons.injEq, and_true] at e2
  subst e2
  exact ⟨⟨a0, a1, t2⟩, rfl, ⟨wf_i64 wf0, wf_i64 wf1, (by unfold maxLen at wt2; show t2.size ≤ 9223372036854775807; omega)⟩⟩
/-- a value that is such a struct -/
def PgV (w : World) (v : Value) : Prop := ∃ d : PgD, v = .agg d.cells.toArray ∧ d.Ok w
set_option maxRecDepth 100000 in
theorem open_Pg {v : Value} {d : DataW H} {p : List MemPlace} (hv : Value.okWide Tryd.prog W .any base 60 v) (h : DataW.Trod enc Tryd.prog W 0 (fun _ => true) true 60 v d p) : PgV W v := by
  obtain ⟨cs, rfl, hsz⟩ := okWide_struct Tryd.underlying60 hv
  obtain ⟨fuel, hf⟩ := h
  rw [cz_Pg] at hsz
  obtain ⟨l⟩ := cs
  obtain ⟨d, rfl, hd⟩ := pg_cells (l := l) hsz hf
  exact ⟨d, rfl, hd⟩
/-- an element of a slice of such structs, from a cell on -/
structure PgAt (w : World) (b o : Nat) (d : PgD) : Prop where
  d0 : w.cell? ⟨b, o, none⟩ = some (.int .i64 d.a0)
  d1 : w.cell? ⟨b, o + 1, none⟩ = some (.int .i64 d.a1)
  d2 : w.cell? ⟨b, o + 2, none⟩ = some (.string d.t2)
  ok : d.Ok w
theorem PgAt.below {w w' : World} {b o : Nat} {d : PgD} (h : PgAt w b o d) (hlt : b < w.heap.size) (hb : Below w.heap.size w w') : PgAt w' b o d := ⟨(hb.cell (p := ⟨b, o, none⟩) hlt).trans h.d0, (hb.cell (p := ⟨b, o + 1, none⟩) hlt).trans h.d1, (hb.cell (p := ⟨b, o + 2, none⟩) hlt).trans h.d2, h.ok.below hb⟩
def IsPgs (w : World) (a : Option Addr) (len : Nat) : Prop :=
  len ≤ maxLen ∧ (len = 0 ∨ ∃ b off, a = some ⟨b, off, none⟩ ∧ b < w.heap.size ∧ ∀ i, i < len → ∃ d, PgAt w b (off + i * 3) d)
theorem IsPgs.below {w w' : World} {a : Option Addr} {len : Nat} (h : IsPgs w a len) (hb : Below w.heap.size w w') : IsPgs w' a len := by
  refine ⟨h.1, ?_⟩
  rcases h.2 with h0 | ⟨b, off, e, hlt, hd⟩
  · exact .inl h0
  · exact .inr ⟨b, off, e, Nat.lt_of_lt_of_le hlt hb.size, fun i hi => by obtain ⟨d, h2⟩ := hd i hi; exact ⟨d, h2.below hlt hb⟩⟩
set_option maxRecDepth 100000 in
set_option maxHeartbeats 1000000 in
theorem pgs_trod {n : Nat} {cs : List Value} {x : DataW H × List MemPlace} {v : Value} (hcs0 : cs = [v]) (hf : DataW.trod enc Tryd.prog W base sp hd n 24 cs = some x) : ∃ a len cap, v = .slice a len cap ∧ IsPgs W a len := by
  rcases open_slice Tryd.underlying24 hf with ⟨hcs, _⟩ | ⟨x, l, c, m, n, D, Pl, hcs, _, hlc, hcm, hm, _, hi⟩
  · rw [hcs] at hcs0
    simp at hcs0
    subst hcs0
    exact ⟨none, 0, 0, rfl, Nat.zero_le _, .inl rfl⟩
  · rw [hcs] at hcs0
    simp at hcs0
    subst hcs0
    refine ⟨_, _, _, rfl, ?_⟩
    by_cases h0 : l = 0
    · exact ⟨by rw [h0]; exact Nat.zero_le _, .inl h0⟩
    · have hml : l ≤ m := by rw [hm]; split <;> omega
      have cell : ∀ i, i < l → ∃ d : PgD, (∀ j y, d.cells[j]? = some y → W.cell? ((x.add (i * 3)).add j) = some y) ∧ d.Ok W := by
        intro i hil
        obtain ⟨cs', hc, ht'⟩ := hi i (by omega)
        rw [cz_Pg] at hc
        obtain ⟨_, hl6, hat⟩ := World.cells?_some hc
        obtain ⟨d, rfl, rest⟩ := pg_cells hl6 ht'
        refine ⟨d, fun j y hy => ?_, rest⟩
        rw [hat j (by have := (List.getElem?_eq_some_iff.1 hy).1; simpa [PgD.cells] using this), hy]
      obtain ⟨blk, off, spot⟩ := x
      obtain ⟨d0, hc0, _⟩ := cell 0 (by omega)
      have hfirst := hc0 0 _ rfl
      have hspot : spot = none := by simpa [Addr.add] using World.cell?_spot hfirst
      subst hspot
      have hadd : ∀ o i, (⟨blk, o, none⟩ : Addr).add i = ⟨blk, o + i, none⟩ := fun o i => by unfold Addr.add; split <;> simp_all
      refine ⟨by unfold maxLen at hcm ⊢; omega, .inr ⟨blk, off, rfl, ?_, fun i hil => ?_⟩⟩
      · rw [hadd, hadd] at hfirst; exact block_lt_of_cell hfirst
      · obtain ⟨d, hc, g⟩ := cell i hil
        have e0 := hc 0 _ rfl
        have e1 := hc 1 _ rfl
        have e2 := hc 2 _ rfl
        rw [hadd, hadd] at e0 e1 e2
        exact ⟨d, e0, e1, e2, g⟩
set_option maxRecDepth 100000 in
theorem open_Pgs {v : Value} {d : DataW H} {p : List MemPlace} (hv : Value.okWide Tryd.prog W .any base 24 v) (h : DataW.Trod enc Tryd.prog W 0 (fun _ => true) true 24 v d p) : ∃ a len cap, v = .slice a len cap ∧ IsPgs W a len := by
  obtain ⟨a, len, cap, rfl⟩ := okWide_slice Tryd.underlying24 hv
  obtain ⟨fuel, hf⟩ := h
  exact pgs_trod (cs := (Value.slice a len cap).cells.toList) (by simp [Value.cells]) hf
/-- what such a struct holds -/
structure WhD where
  p0 : Option Addr
  n0 : Nat
  c0 : Nat
  p1 : Option Addr
  n1 : Nat
  c1 : Nat
  p2 : Option Addr
  l2 : List Int
  c2 : Nat
  a3 : Int
  a4 : Int
def WhD.cells (d : WhD) : List Value := [.slice d.p0 d.n0 d.c0, .slice d.p1 d.n1 d.c1, .slice d.p2 d.l2.length d.c2, .int .i64 d.a3, .int .i64 d.a4]
structure WhD.Ok (w : World) (d : WhD) : Prop where
  f0 : IsPgs w d.p0 d.n0
  f1 : IsPgs w d.p1 d.n1
  f2 : (Is w d.p2 d.l2 ∧ d.l2.length ≤ 9223372036854775807 ∧ d.l2.length ≤ d.c2)
  f3 : (-9223372036854775808 ≤ d.a3 ∧ d.a3 ≤ 9223372036854775807)
  f4 : (-9223372036854775808 ≤ d.a4 ∧ d.a4 ≤ 9223372036854775807)
theorem WhD.Ok.below {w w' : World} {d : WhD} (h : d.Ok w) (hb : Below w.heap.size w w') : d.Ok w' := ⟨h.f0.below hb, h.f1.below hb, ⟨h.f2.1.below hb, h.f2.2⟩, h.f3, h.f4⟩
theorem cz_Wh : Tryd.prog.cellsOf 44 = 5 := by kernel_rfl
set_option maxRecDepth 100000 in
set_option maxHeartbeats 1000000 in
theorem wh_cells {n : Nat} {l : List Value} {x : DataW H × List MemPlace} (hl : l.length = 5) (hf : DataW.trod enc Tryd.prog W base sp hd n 44 l = some x) : ∃ d : WhD, l = d.cells ∧ d.Ok W := by
  obtain ⟨x0, x1, x2, x3, x4, rfl⟩ : ∃ x0 x1 x2 x3 x4, l = [x0, x1, x2, x3, x4] := by
    match l, hl with
    | [x0, x1, x2, x3, x4], _ => exact ⟨x0, x1, x2, x3, x4, rfl⟩
  obtain ⟨xs, m, _, _, _, hlen, hff⟩ := DataW.trod_struct Tryd.underlying44 hf
  have hlen2 : xs.length = 5 := hlen
  have some_at : ∀ j, j < 5 → (xs[j]?).isSome = true := fun j hj => by rw [List.getElem?_eq_getElem (by omega)]; rfl
  obtain ⟨y0, hy0⟩ := Option.isSome_iff_exists.1 (some_at 0 (by omega))
  have h0 := hff 0 _ rfl
  rw [hy0] at h0
  have g0 : DataW.trod enc Tryd.prog W base sp hd m 24 [x0] = some y0 := by rw [← show (([x0, x1, x2, x3, x4] : List Value).drop 0).take (Tryd.prog.cellsOf 24) = [x0] from cz_one rfl cz_Pg_s]; exact h0
  obtain ⟨y1, hy1⟩ := Option.isSome_iff_exists.1 (some_at 1 (by omega))
  have h1 := hff 1 _ rfl
  rw [hy1] at h1
  have g1 : DataW.trod enc Tryd.prog W base sp hd m 24 [x1] = some y1 := by rw [← show (([x0, x1, x2, x3, x4] : List Value).drop 1).take (Tryd.prog.cellsOf 24) = [x1] from cz_one rfl cz_Pg_s]; exact h1
  obtain ⟨y2, hy2⟩ := Option.isSome_iff_exists.1 (some_at 2 (by omega))
  have h2 := hff 2 _ rfl
  rw [hy2] at h2
  have g2 : DataW.trod enc Tryd.prog W base sp hd m 42 [x2] = some y2 := by rw [← show (([x0, x1, x2, x3, x4] : List Value).drop 2).take (Tryd.prog.cellsOf 42) = [x2] from cz_one rfl cz_intc]; exact h2
  obtain ⟨y3, hy3⟩ := Option.isSome_iff_exists.1 (some_at 3 (by omega))
  have h3 := hff 3 _ rfl
  rw [hy3] at h3
  have g3 : DataW.trod enc Tryd.prog W base sp hd m 3 [x3] = some y3 := by rw [← show (([x0, x1, x2, x3, x4] : List Value).drop 3).take (Tryd.prog.cellsOf 3) = [x3] from cz_one rfl cz_int]; exact h3
  obtain ⟨y4, hy4⟩ := Option.isSome_iff_exists.1 (some_at 4 (by omega))
  have h4 := hff 4 _ rfl
  rw [hy4] at h4
  have g4 : DataW.trod enc Tryd.prog W base sp hd m 3 [x4] = some y4 := by rw [← show (([x0, x1, x2, x3, x4] : List Value).drop 4).take (Tryd.prog.cellsOf 3) = [x4] from cz_one rfl cz_int]; exact h4
  obtain ⟨p0, n0, c0, rfl, hp0⟩ := pgs_trod rfl g0
  obtain ⟨p1, n1, c1, rfl, hp1⟩ := pgs_trod rfl g1
  obtain ⟨p2, l2, c2, rfl, hp2, hk2, hc2⟩ := ints_trod rfl g2
  obtain ⟨a3, e3, _, wf3⟩ := DataW.trod_int Tryd.underlying3 g3
  simp only [List.cons.injEq, and_true] at e3
  subst e3
  obtain ⟨a4, e4, _, wf4⟩ := DataW.trod_int Tryd.underlying3 g4
  simp only [List.cons.injEq, and_true] at e4
  subst e4
  exact ⟨⟨p0, n0, c0, p1, n1, c1, p2, l2, c2, a3, a4⟩, rfl, ⟨hp0, hp1, ⟨hp2, hk2, hc2⟩, wf_i64 wf3, wf_i64 wf4⟩⟩
/-- a value that is such a struct -/
def WhV (w : World) (v : Value) : Prop := ∃ d : WhD, v = .agg d.cells.toArray ∧ d.Ok w
set_option maxRecDepth 100000 in
theorem open_Wh {v : Value} {d : DataW H} {p : List MemPlace} (hv : Value.okWide Tryd.prog W .any base 44 v) (h : DataW.Trod enc Tryd.prog W 0 (fun _ => true) true 44 v d p) : WhV W v := by
  obtain ⟨cs, rfl, hsz⟩ := okWide_struct Tryd.underlying44 hv
  obtain ⟨fuel, hf⟩ := h
  rw [cz_Wh] at hsz
  obtain ⟨l⟩ := cs
  obtain ⟨d, rfl, hd⟩ := wh_cells (l := l) hsz hf
  exact ⟨d, rfl, hd⟩
end
end Go.Proofs.YtpobhdhfhnnajaaDoor.Dk

/- What JournalWhole leans on: Crash and Image of a disk apart, the document's disk of it, old pages. -/
namespace Go.Proofs.YtpobhdhfhnnajaaDoor.Jn
open Go.RowKit
open Go.Lib (hid)
open Go.Proofs.YtpobhdhfhnnajaaDoor.Dk
open Go.Proofs.YtpobhdhfhnnajaaDoor.En (Lst PageT Pgs pgs_list mayS)
open Go.Proofs.YtpobhdhfhnnajaaDoor.Pg (openL)
open Classical in
/-- what a Commit of few pages does -/
noncomputable def comQ (s : St) (b t : Nat) (L : List PageT) : Int × St := if L.length = 0 then (1, s) else comR s b t L
theorem comQ_fuse {s : St} (hf : s.fuse = -1) (b t : Nat) (L : List PageT) : (comQ s b t L).2.fuse = -1 := by
  unfold comQ; split
  · exact hf
  · exact comR_fuse hf b t L
theorem comQ_len (s : St) (b t : Nat) (L : List PageT) : (comQ s b t L).2.pages.length = s.pages.length := by
  unfold comQ; split
  · rfl
  · exact comR_len s b t L
theorem comQ_few {s : St} {k : Nat} (h : Few s k) (b t : Nat) (L : List PageT) : Few (comQ s b t L).2 (k + L.length + 3) := by
  unfold comQ; split
  · exact few_up h (by omega)
  · exact comR_few h b t L
theorem jcom_q {K : Nat → Prop} {J D b n t : Nat} {w0 : World} {s : St} (h : Jk K J D w0 s b n t) (ok : JOk b n t) {k : Nat} (hf : Few s k) (p : Option Addr) (L : List PageT) (c : Nat) (hk : k + L.length + 10 < 1000000) (hp : Pgs w0 p L) (hK : ∀ g off, p = some ⟨g, off, none⟩ → 0 < L.length → K g) (hl : L.length < n) :
    Calls Tryd.prog 11 #[.pointer (some ⟨J, 0, none⟩), .slice p L.length c] w0 fun e w' => e = .returned (.int .i64 (comQ s b t L).1) ∧ Cd K D w' (comQ s b t L).2 ∧ KS K w0 w' := by
  unfold comQ
  by_cases h0 : L.length = 0
  · rw [if_pos h0, h0]
    refine (jcom_none h.j p c).mono ?_
    rintro e w' ⟨rfl, rfl⟩
    exact ⟨rfl, h.cd, KS.refl _ _⟩
  · rw [if_neg h0]
    exact jcom_any h ok hf p L c hk hp hK (by omega) hl
theorem fl_waits {s : St} (hf : s.fuse = -1) : (flU s).2.waits = [] := by
  unfold flU
  rw [if_neg (by omega)]; rfl
theorem com_waits {s : St} (hf : s.fuse = -1) (b t : Nat) (L : List PageT) : (comS s b t L).waits = [] := fl_waits (wr_fuse (fl_fuse (wrS_fuse hf b t L _)))
theorem comQ_waits {s : St} (hf : s.fuse = -1) (hw : s.waits = []) (b t : Nat) (L : List PageT) : (comQ s b t L).2.waits = [] := by
  unfold comQ comR; split
  · exact hw
  · split
    · exact com_waits hf b t L
    · exact hw
theorem vw_pages {s : St} (h : s.waits = []) (j : Nat) : vw s j = s.pages.getD j emptyB := by
  unfold vw; rw [h]; rfl
theorem no_empty {m i t : Nat} (kd pk pn : Int) (bo : ByteArray) (ct sm : Int) : ¬ IsJ emptyB m i t kd pk pn bo ct sm := by
  rintro ⟨S, h, -⟩
  have e : emptyB.data.toList = [] := rfl
  rw [e] at h
  unfold openL at h
  rw [if_pos (by decide)] at h
  cases h
theorem no_new (n j i t : Nat) (kd pk pn : Int) (bo : ByteArray) (ct sm : Int) : ¬ IsJ ((blanks n).getD j emptyB) j i t kd pk pn bo ct sm := by
  unfold blanks
  rw [List.getD_eq_getElem?_getD, List.getElem?_replicate]
  split
  · exact no_blank kd pk pn bo ct sm
  · exact no_empty kd pk pn bo ct sm
/-- of what another transaction left nothing is read -/
theorem old_none {n b m t t' : Nat} (ok : JOk b m t') (hne : t ≠ t') (L : List PageT) (hl : L.length < m) (hp : b + m ≤ n) (j i : Nat) (kd pk pn : Int) (bo : ByteArray) (ct sm : Int) : ¬ IsJ ((comQ (newS (blanks n)) b t' L).2.pages.getD j emptyB) j i t kd pk pn bo ct sm := by
  rw [← vw_pages (comQ_waits (s := newS (blanks n)) rfl rfl b t' L)]
  have hn : ¬ IsJ (vw (newS (blanks n)) j) j i t kd pk pn bo ct sm := by rw [vw_pages rfl]; exact no_new n j i t kd pk pn bo ct sm
  unfold comQ
  split
  · exact hn
  · rename_i h0
    unfold comR
    split
    · rename_i hs
      show ¬ IsJ (vw (comS (newS (blanks n)) b t' L) j) j i t kd pk pn bo ct sm
      rw [com_vw (s := newS (blanks n)) rfl ok (by omega) hs hl (by show b + m ≤ (blanks n).length; unfold blanks; rw [List.length_replicate]; exact hp)]
      split
      · rename_i hj
        intro h
        have hlt : j - b < L.length := by omega
        rw [stg_at hlt, show b + (j - b) = j by omega] at h
        exact hne (isJ_same h (isJ_pgJ (by decide) (by decide) (may1 t' (j - b) ok.t1 ok.t2 (by have := ok.n9; omega) (hs (j - b) hlt)) (by have := ok.bn; omega))).2.1
      · split
        · rename_i _ hj
          subst hj
          intro h
          unfold cmt at h
          exact hne (isJ_same h (isJ_pgJ (U_fit _).1 (U_fit _).2 (may2 t' L.length _ ok.t1 ok.t2 (by have := ok.n9; omega) (by omega)) (by have := ok.bn; omega))).2.1
        · exact hn
    · exact hn
section
variable {K : Nat → Prop} {D : Nat} {wr : World} {s : St}
theorem cd_crash (h : Cd K D wr s) (q : Option Addr) (c : Nat) (ks : List Int) (hks : Kept wr q ks) (hkl : ks.length ≤ 1000000) (torn a : Int) :
    Calls Tryd.prog 24 #[.pointer (some ⟨D, 0, none⟩), .slice q ks.length c, .int .i64 torn, .int .i64 a] wr fun e w' => e = .returned (.int .i64 (crU s ks torn a).1) ∧ Cd K D w' (crU s ks torn a).2 ∧ KS K wr w' := by
  refine h.code (Q := fun e => e = .returned (.int .i64 (crU s ks torn a).1)) fun d hd hk => ?_
  subst hd
  unfold crU
  cases hc : comeS s ks torn a with
  | none =>
    refine (crash_no d s wr hk q c ks hks (by unfold maxLen; omega) torn a hc).mono ?_
    rintro e w' ⟨rfl, hb⟩
    exact ⟨rfl, d, rfl, hk.below hb, Only.below hb, From.refl _ _⟩
  | some o => exact (crash_ok d s wr hk q c ks hks (by unfold maxLen; omega) torn a o hc).mono fun _ _ ⟨h1, v, h2, h3, h4⟩ => ⟨h1, { d with wv := v }, rfl, h2, h3, h4⟩
theorem cd_image (h : Cd K D wr s) :
    Calls Tryd.prog 19 #[.pointer (some ⟨D, 0, none⟩)] wr fun e w' => ∃ g cap, e = .returned (.slice (some ⟨g, 0, none⟩) s.pages.length cap) ∧ g < w'.heap.size ∧ CellsAt w' (some ⟨g, 0, none⟩) (sv s.pages) ∧ Below wr.heap.size wr w' := by
  obtain ⟨d, rfl, hd, _⟩ := h.ex
  refine (image_ok d s wr hd).mono fun e w' ⟨v, h1, h2, h3⟩ => ?_
  have hn := hd.good.n1
  rcases h2.2 with ⟨_, h0⟩ | ⟨g, cap, cur, rfl, h4, h5, h6, h7, h8, h9⟩
  · omega
  · refine ⟨g, cap, h1, (Array.getElem?_eq_some_iff.1 h5).1, fun j hj => ⟨g, 0, rfl, ?_⟩, h3⟩
    have hj' : j < s.pages.length := by simpa [sv] using hj
    rw [cell_of_row _ _ _ _ _ _ h5, Nat.zero_add]
    rw [Nat.mul_one] at h9
    have e := congrArg (·[j]?) h9
    rw [List.getElem?_take_of_lt hj'] at e
    simp [sv, hj'] at e
    simpa [sv] using e
theorem bd_make {w' : World} {t : St} {b : Ptrs} (h : Cd K D wr s) (hb : Below wr.heap.size wr w') (hr : Rk w' b t) (hf : ∀ k, Foot b k → wr.heap.size ≤ k) : Bd K D b.D w' s t := by
  obtain ⟨a, h1, h3, h5⟩ := h.ex
  exact ⟨⟨a, b, h1, rfl, h3.below hb, hr, h5, fun k hk e => by have := hf k hk; have := h.lt k e; omega, fun k hk e => by have := h3.lt k hk; have := hf k e; omega⟩, fun k hk => Nat.lt_of_lt_of_le (h.lt k hk) hb.size⟩
theorem kept_ks {w w' : World} {q : Option Addr} {ks : List Int} (h : Kept w q ks) (hk : KS K w w') (hK : ∀ j, j < w.heap.size → K j) : Kept w' q ks := fun j hj => by
  obtain ⟨b, off, e, hlt, hc⟩ := h j hj
  exact ⟨b, off, e, Nat.lt_of_lt_of_le hlt hk.size, (ks_cell hk (hK b hlt) hlt).trans hc⟩
end
/-- pages that came in -/
theorem whpgs {w : World} {a : Option Addr} {len : Nat} (h : Dk.IsPgs w a len) : ∃ L : List PageT, L.length = len ∧ Pgs w a L := by
  rcases h.2 with h0 | ⟨b, off, e, hlt, hd⟩
  · exact ⟨[], h0.symm, (fun i hi => absurd hi (by simp))⟩
  · refine ⟨(List.range len).attach.map fun i => ((hd i.1 (List.mem_range.1 i.2)).choose.a0, (hd i.1 (List.mem_range.1 i.2)).choose.a1, (hd i.1 (List.mem_range.1 i.2)).choose.t2), by simp, fun i hi => ?_⟩
    have hi' : i < len := by simpa using hi
    have hs := (hd i hi').choose_spec
    refine ⟨b, off, e, hlt, ?_, ?_, ?_⟩
    · simpa using hs.d0
    · simpa using hs.d1
    · simpa using hs.d2
end Go.Proofs.YtpobhdhfhnnajaaDoor.Jn
