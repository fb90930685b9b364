/- Decode of the reference. -/
import Derived.Test.YtkjcbfdplhcjpaaBkReadsM
namespace Go.Proofs.Ytkjcbfdplhcjpaa.Bk
open Go.RowKit
open Go.Lib (hid)
open Go.Proofs.Ytkjcbfdplhcjpaa.Ky

theorem key_own {w : World} (ty : TypeId) {base : Nat} (v : Value) (n : Nat) (xs : List Value) (hown : w.ownsRow base 66 1 v n xs) (q : Option Addr) (m c : Nat) (news : List Value) (hq : ReadAt w q news) (hl : news.length = m) (h1 : ∀ u ∈ news, u.oneCell' = true) (hb : n + m ≤ 100000000) (hbase : base ≤ w.heap.size) :
    ∃ v' w', (Builtin.append_ #[31, 31] ty #[v, .slice q m c]).run Try.prog w = .ok v' w' ∧ Owns w base 66 1 v (n + m) (xs ++ news) v' w' := by
  obtain ⟨i, hi, hz0, hz1, hz2⟩ := info_parts kinfo
  exact run_app_own (P := Try.prog) Try.underlying31 hi hz0 hz1 hz2 rfl (by decide) ty v n xs hown q m c news hq (by omega) h1 (by unfold maxLen; omega) (by omega) hbase
theorem read_one (W : World) (u : Value) (T : TypeId) : ReadAt (W.alloc (.cells #[u] T)) (some ⟨W.heap.size, 0, none⟩) [u] := fun j y hj => by
  refine ⟨W.heap.size, 0, rfl, by simp, ?_⟩
  rw [cell_of_row _ _ _ _ _ _ (heap_alloc_new W _), Nat.zero_add]
  match j, hj with
  | 0, hj => simpa using hj
theorem own_set {w : World} {base e size n g i : Nat} {v u : Value} {xs : List Value} (h : w.ownsRow base e size v n xs) (hg : g < base) : (w.setCell ⟨g, i, none⟩ u).ownsRow base e size v n xs := by
  refine ⟨h.1, ?_⟩
  rcases h.2 with hn | ⟨b, cap, cur, hv, hb0, hh, rest⟩
  · exact .inl hn
  · exact .inr ⟨b, cap, cur, hv, hb0, by rw [heap_setCell_other _ _ _ _ (show b ≠ g by omega)]; exact hh, rest⟩
/-- behind j coordinates of the k-th record -/
structure KR (wr wz : World) (g : Nat) (v : Value) (l : List Nat) : Prop where
  box : wz.heap[g]? = some (.cells #[v, .string ⟨#[]⟩] 33)
  own : wz.ownsRow (g + 1) 66 1 v l.length (kl l)
  below : Below g wr wz
theorem KR.lt {wr wz : World} {g : Nat} {v : Value} {l : List Nat} (h : KR wr wz g v l) : g < wz.heap.size := (Array.getElem?_eq_some_iff.1 h.box).1
theorem KR.cells {wr wz : World} {g : Nat} {v : Value} {l : List Nat} (h : KR wr wz g v l) : wz.cell? ⟨g, 0, none⟩ = some v ∧ wz.cell? ⟨g, 1, none⟩ = some (.string ⟨#[]⟩) ∧ wz.frozen? ⟨g, 0, none⟩ = false ∧ wz.frozen? ⟨g, 1, none⟩ = false :=
  ⟨by rw [cell_of_row _ _ _ _ _ _ h.box]; rfl, by rw [cell_of_row _ _ _ _ _ _ h.box]; rfl, frozen_of_row _ _ _ _ _ h.box, frozen_of_row _ _ _ _ _ h.box⟩
theorem kl_snoc (l : List Nat) (x : Nat) : kl (l ++ [x]) = kl l ++ [.int .u32 (x : Int)] := by simp [kl]
/-- one more coordinate: an array of it, the append, the store -/
theorem KR.more {wr wz w4 : World} {g : Nat} {v v' : Value} {l : List Nat} {x : Nat} (h : KR wr wz g v l) (hg : g = wr.heap.size) {W : World} (hW : Below wz.heap.size wz W)
    (ho : Owns W (g + 1) 66 1 v (l.length + 1) (kl l ++ [.int .u32 (x : Int)]) v' w4) :
    KR wr (w4.setCell ⟨g, 0, none⟩ v') g v' (l ++ [x]) ∧ w4.cell? ⟨g, 0, none⟩ = some v ∧ w4.frozen? ⟨g, 0, none⟩ = false := by
  obtain ⟨h1, h2, h3⟩ := ho
  have hlt := h.lt
  have hne : ∀ b, v.ownBlock = some b → b ≠ g := fun b hb => by have := (h.own.lt b hb).1; omega
  have hbx : w4.heap[g]? = some (.cells #[v, .string ⟨#[]⟩] 33) := by
    rw [h2.block g (Nat.lt_of_lt_of_le hlt hW.size) (fun e => hne g e.symm rfl), hW.block g hlt]; exact h.box
  refine ⟨⟨?_, ?_, ?_⟩, by rw [cell_of_row _ _ _ _ _ _ hbx]; rfl, frozen_of_row _ _ _ _ _ hbx⟩
  · rw [heap_setCell_same _ _ _ _ _ _ hbx]; simp
  · rw [List.length_append, kl_snoc]
    exact own_set h1 (Nat.lt_succ_self g)
  · refine Below.setCell (p := ⟨g, 0, none⟩) ?_ (Nat.le_refl _) v'
    exact (h.below.trans (hW.mono (by omega))).grown h2 (by have := hW.size; omega) (fun b hb => by have := (h.own.lt b hb).1; omega)
end Go.Proofs.Ytkjcbfdplhcjpaa.Bk
