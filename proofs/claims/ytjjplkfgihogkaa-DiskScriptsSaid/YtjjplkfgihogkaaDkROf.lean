/- Of of the reference: a disk of an image, or none. -/
import Derived.Test.YtjjplkfgihogkaaDkSame
import Derived.Test.YtjjplkfgihogkaaBkApp
namespace Go.Proofs.Ytjjplkfgihogkaa.Dk
open Go.RowKit
open Go.Lib (hid)
open Go.Proofs.Ytjjplkfgihogkaa.Bk (Owns ReadAt step_app run_app_own)

theorem ballocS (w : World) (o : Obj) : Below w.heap.size w (w.alloc o) := (Below.refl _ _).alloc (Nat.le_refl _) o
theorem strinfo : (Try.prog.info? 9).map (fun i => (i.zero, i.size, i.bytes)) = some (some (.string ⟨#[]⟩), 1, 16) := by kernel_rfl
theorem str_own {w : World} (ty : TypeId) {base : Nat} (v : Value) (n : Nat) (xs : List Value) (hown : w.ownsRow base 9 1 v n xs) (q : Option Addr) (m c : Nat) (news : List Value) (hq : ReadAt w q news) (hl : news.length = m * 1) (h1 : ∀ u ∈ news, u.oneCell' = true) (hb : n + m ≤ 1000000) (hbase : base ≤ w.heap.size) :
    ∃ v' w', (Builtin.append_ #[40, 40] ty #[v, .slice q m c]).run Try.prog w = .ok v' w' ∧ Owns w base 9 1 v (n + m) (xs ++ news) v' w' := by
  obtain ⟨i, hi, hz0, hz1, hz2⟩ := info_parts strinfo
  exact run_app_own (P := Try.prog) Try.underlying40 hi hz0 hz1 hz2 rfl (by decide) ty v n xs hown q m c news hq hl h1 (by unfold maxLen; omega) (by omega) hbase
theorem sread_one (W : World) (u : Value) (T : TypeId) : ReadAt (W.alloc (.cells #[u] T)) (some ⟨W.heap.size, 0, none⟩) [u] := fun j y hj => by
  refine ⟨W.heap.size, 0, rfl, by simp, ?_⟩
  rw [cell_of_row _ _ _ _ _ _ (heap_alloc_new W _), Nat.zero_add]
  match j, hj with
  | 0, hj => simpa using hj
/-- the reference's disk under way: so many pages -/
structure PR (w V : World) (g : Nat) (v : Value) (l : List ByteArray) : Prop where
  box : V.heap[g]? = some (.cells #[v, .slice none 0 0, .int .i64 0, .int .i64 0, .int .i64 0, .int .i64 (-1)] 43 (0, 0))
  own : V.ownsRow (g + 1) 9 1 v l.length (sv l)
  below : Below g w V
theorem PR.lt {w V : World} {g : Nat} {v : Value} {l : List ByteArray} (h : PR w V g v l) : g < V.heap.size := (Array.getElem?_eq_some_iff.1 h.box).1
theorem PR.cell {w V : World} {g : Nat} {v : Value} {l : List ByteArray} (h : PR w V g v l) : V.cell? ⟨g, 0, none⟩ = some v ∧ V.frozen? ⟨g, 0, none⟩ = false :=
  ⟨by rw [cell_of_row _ _ _ _ _ _ h.box]; rfl, frozen_of_row _ _ _ _ _ h.box⟩
theorem own_belowS {w w' : World} {base e size n : Nat} {v : Value} {xs : List Value} (h : w.ownsRow base e size v n xs) (hb : Below w.heap.size w w') : w'.ownsRow base e size v n xs := by
  refine ⟨h.1, ?_⟩
  rcases h.2 with hn | ⟨g, cap, cur, hv, hb0, hg, rest⟩
  · exact .inl hn
  · exact .inr ⟨g, cap, cur, hv, hb0, by rw [hb.block g (Array.getElem?_eq_some_iff.1 hg).1]; exact hg, rest⟩
theorem own_setS {w : World} {base e size n g i : Nat} {v u : Value} {xs : List Value} (h : w.ownsRow base e size v n xs) (hg : g < base) : (w.setCell ⟨g, i, none⟩ u).ownsRow base e size v n xs := by
  refine ⟨h.1, ?_⟩
  rcases h.2 with hn | ⟨g', cap, cur, hv, hb0, hh, rest⟩
  · exact .inl hn
  · exact .inr ⟨g', cap, cur, hv, hb0, by rw [heap_setCell_other _ _ _ _ (show g' ≠ g by omega)]; exact hh, rest⟩
theorem row_sliceS {w : World} {base e size n : Nat} {v : Value} {xs : List Value} (h : w.ownsRow base e size v n xs) : ∃ p m c, v = .slice p m c := by
  rcases h.2 with ⟨rfl, _⟩ | ⟨g, cap, cur, rfl, _⟩
  · exact ⟨_, _, _, rfl⟩
  · exact ⟨_, _, _, rfl⟩
/-- one more page: an array of it, the append, the store -/
theorem PR.more {w V w4 : World} {g : Nat} {v v' : Value} {l : List ByteArray} {t : ByteArray} (h : PR w V g v l) (hgw : g = w.heap.size) {W : World} (hW : Below V.heap.size V W)
    (ho : Owns W (g + 1) 9 1 v (l.length + 1) (sv l ++ [.string t]) v' w4) :
    PR w (w4.setCell ⟨g, 0, none⟩ v') g v' (l ++ [t]) ∧ w4.cell? ⟨g, 0, none⟩ = some v ∧ w4.frozen? ⟨g, 0, none⟩ = false := by
  obtain ⟨h1, h2, h3⟩ := ho
  have hlt := h.lt
  have hne : ∀ b, v.ownBlock = some b → b ≠ g := fun b hb => by have := (h.own.lt b hb).1; omega
  have hbx : w4.heap[g]? = some (.cells #[v, .slice none 0 0, .int .i64 0, .int .i64 0, .int .i64 0, .int .i64 (-1)] 43 (0, 0)) := by
    rw [h2.block g (Nat.lt_of_lt_of_le hlt hW.size) (fun e => hne g e.symm rfl), hW.block g hlt]; exact h.box
  refine ⟨⟨?_, ?_, ?_⟩, by rw [cell_of_row _ _ _ _ _ _ hbx]; rfl, frozen_of_row _ _ _ _ _ hbx⟩
  · rw [heap_setCell_same _ _ _ _ _ _ hbx]; simp
  · rw [List.length_append, show sv (l ++ [t]) = sv l ++ [.string t] by simp [sv]]
    exact own_setS h1 (Nat.lt_succ_self g)
  · have hb1 : Below g w W := h.below.trans (hW.mono (Nat.le_of_lt hlt))
    have hb2 : Below g w w4 := hb1.grown h2 (Nat.le_of_lt (Nat.lt_of_lt_of_le hlt hW.size)) (fun k hk => by have := (h.own.lt k hk).1; omega)
    exact hb2.setCell (p := ⟨g, 0, none⟩) (Nat.le_refl _) _
def OfPost (w : World) (ok : Bool) (e : Ending) (w' : World) : Prop :=
  Below w.heap.size w w' ∧ ((ok = true ∧ ∃ D, e = .returned (.tuple #[.pointer (some ⟨D, 0, none⟩), .int .i64 0])) ∨ (ok = false ∧ e = .returned (.tuple #[.pointer none, .int .i64 1])))
/-- may these texts be an image? -/
def imgOk (l : List ByteArray) : Bool := l.all fun t => t.size == 256
end Go.Proofs.Ytjjplkfgihogkaa.Dk
