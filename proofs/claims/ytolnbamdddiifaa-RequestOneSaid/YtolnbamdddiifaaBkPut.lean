/- Put and Cut, of both sides. -/
import Derived.Test.YtolnbamdddiifaaBkFind
namespace Go.Proofs.Ytolnbamdddiifaa.Bk
open Go.RowKit
open Go.Lib (hid)
open Go.Proofs.Ytolnbamdddiifaa.Ky

theorem ReadAt.take {w : World} {p : Option Addr} {xs : List Value} (h : ReadAt w p xs) (n : Nat) : ReadAt w p (xs.take n) := fun j u hj => h j u (by
  rw [List.getElem?_take] at hj
  split at hj
  · exact hj
  · cases hj)
theorem ReadAt.drop {w : World} {p : Option Addr} {xs : List Value} (h : ReadAt w p xs) (n : Nat) : ReadAt w (cutP p n) (xs.drop n) := fun j u hj => by
  rw [List.getElem?_drop] at hj
  obtain ⟨b, off, e, hb, hc⟩ := h _ _ hj
  refine ⟨b, off + n, by rw [e]; unfold cutP; simp [addr_add], hb, ?_⟩
  rw [← hc]; congr 2; omega
theorem ReadAt.end {w : World} {p : Option Addr} {xs : List Value} {n : Nat} (h : xs.length ≤ n) : ReadAt w p (xs.drop n) := by
  rw [List.drop_eq_nil_of_le h]; exact ReadAt.nil w p
theorem Rs.open {D : Nat → Prop} {w : World} {p : Option Addr} {L : List Rec} (h : Rs D w p L) : ∃ xs, RC D w xs L ∧ ReadAt w p xs := by
  obtain ⟨xs, h1, h2⟩ := h
  exact ⟨xs, h1, fun j u hj => by
    obtain ⟨b, off, e, hb, _, hc⟩ := h2 j u hj
    exact ⟨b, off, e, hb, hc⟩⟩
/-- what a cut leaves, wherever it points -/
theorem read_cut {w : World} {p : Option Addr} {xs : List Value} (h : ReadAt w p xs) (n : Nat) (P : Option Addr) (hP : P = cutP p n ∨ xs.length ≤ n) : ReadAt w P (xs.drop n) := by
  rcases hP with rfl | hP
  · exact h.drop n
  · exact ReadAt.end hP
set_option maxRecDepth 100000 in
/-- the slices that Put and Cut take of a list, wherever it points -/
theorem slice_front (p : Option Addr) (len c n : Nat) (h : n ≤ len) (hc : len ≤ c) (w : World) : (Instr.slice 27 (.slice p len c) none (some (.int .i64 (n : Int))) (some (.int .i64 (n : Int)))).run Try.prog w = .ok (.slice p n n) w := by
  have hs : (sizeOf 56).run Try.prog w = .ok 2 w := by kernel_rfl
  rw [run_slice_hm w _ p len c (by kernel_rfl) .i64 .i64 n n (by omega) (by omega) (by omega)]
  have e : Try.prog.elem 27 = 56 := by kernel_rfl
  rw [e, hs]
  simp only [Result.andThen, sliced, Int.toNat_natCast, Nat.sub_zero, Nat.zero_mul]
  congr 2
  split
  · rfl
  · cases p with
    | none => rfl
    | some a => simp only [Option.map_some]; congr 1
set_option maxRecDepth 100000 in
theorem slice_back (p : Option Addr) (len c n : Nat) (h : n ≤ len) (hc : len ≤ c) : ∃ P, (P = cutP p (n * 2) ∨ len ≤ n) ∧ ∀ w : World, (Instr.slice 27 (.slice p len c) (some (.int .i64 (n : Int))) none none).run Try.prog w = .ok (.slice P (len - n) (c - n)) w := by
  refine ⟨if c = n then p else p.map fun a => a.add (n * 2), ?_, fun w => ?_⟩
  · split
    · right; omega
    · left; rfl
  · have hs : (sizeOf 56).run Try.prog w = .ok 2 w := by kernel_rfl
    rw [run_slice_l w _ p len c (by kernel_rfl) .i64 n (by omega) (by omega)]
    have e : Try.prog.elem 27 = 56 := by kernel_rfl
    rw [e, hs]
    simp only [Result.andThen, sliced, Int.toNat_natCast]
theorem read_new (W : World) (u v : Value) (T : TypeId) : ReadAt (W.alloc (.cells #[u, v] T)) (some ⟨W.heap.size, 0, none⟩) [u, v] := fun j y hj => by
  refine ⟨W.heap.size, 0, rfl, by simp, ?_⟩
  rw [cell_of_row _ _ _ _ _ _ (heap_alloc_new W _), Nat.zero_add]
  match j, hj with
  | 0, hj => simpa using hj
  | 1, hj => simpa using hj
theorem stay_two {w2 w' : World} {g : Nat} {u v x y : Value} {T : TypeId} (hg : g < w2.heap.size) (h0 : w2.cell? ⟨g, 0, none⟩ = some u) (h1 : w2.cell? ⟨g, 1, none⟩ = some v) (hb : Below (w2.drew.alloc (.cells #[x, y] T)).heap.size (w2.drew.alloc (.cells #[x, y] T)) w') : w'.cell? ⟨g, 0, none⟩ = some u ∧ w'.cell? ⟨g, 1, none⟩ = some v := by
  have hl : g < (w2.drew.alloc (.cells #[x, y] T)).heap.size := by simp; omega
  have e : ∀ i, (w2.drew.alloc (.cells #[x, y] T)).cell? ⟨g, i, none⟩ = w2.cell? ⟨g, i, none⟩ := fun i => World.cell?_alloc_lt w2.drew _ ⟨g, i, none⟩ hg
  exact ⟨(hb.cell (p := ⟨g, 0, none⟩) hl).trans ((e 0).trans h0), (hb.cell (p := ⟨g, 1, none⟩) hl).trans ((e 1).trans h1)⟩
theorem big_put {L : List Rec} {x : List Nat} {t : ByteArray} (hl : bigR L) (hx : x.length ≤ 1000) (ht : t.size ≤ 1000) (hl2 : L.length < 1000) : bigR (putR L (x, t)) := by
  refine ⟨by rw [putR_length]; split <;> omega, fun r hr => ?_⟩
  unfold putR at hr
  rcases List.mem_append.1 hr with h | h
  · exact hl.2 r (List.mem_of_mem_take h)
  · rcases List.mem_cons.1 h with rfl | h
    · exact ⟨hx, ht⟩
    · exact hl.2 r (List.mem_of_mem_drop h)
theorem big_cut {L : List Rec} (k : List Nat) (hl : bigR L) : bigR (cutR L k) := by
  refine ⟨by rw [cutR_length]; have := hl.1; split <;> omega, fun r hr => ?_⟩
  unfold cutR at hr
  split at hr
  · rcases List.mem_append.1 hr with h | h
    · exact hl.2 r (List.mem_of_mem_take h)
    · exact hl.2 r (List.mem_of_mem_drop h)
  · exact hl.2 r hr
theorem Rs.lt {w : World} {p : Option Addr} {L : List Rec} {N : Nat} (h : Rs (Lt N) w p L) {M : Nat} (hm : M ≤ N) : Rs (Lt M) w p L := h.less fun _ _ hb => Nat.lt_of_lt_of_le hb hm
theorem one_two (u v : Value) (hu : u.oneCell' = true) (hv : v.oneCell' = true) : ∀ y ∈ [u, v], y.oneCell' = true := fun y hy => by
  simp at hy; rcases hy with rfl | rfl <;> assumption
theorem mem_take {α : Type} {l : List α} {n : Nat} {P : α → Prop} (h : ∀ y ∈ l, P y) : ∀ y ∈ l.take n, P y := fun y hy => h y (List.mem_of_mem_take hy)
theorem mem_drop {α : Type} {l : List α} {n : Nat} {P : α → Prop} (h : ∀ y ∈ l, P y) : ∀ y ∈ l.drop n, P y := fun y hy => h y (List.mem_of_mem_drop hy)
/-- what the two appends of Put leave -/
theorem put_rows {w w5 : World} {base : Nat} {xs : List Value} {L M : List Rec} {x : List Nat} {t : ByteArray} {q : Option Addr} {c' n m : Nat} {v'' : Value} (hrc : RC (fun _ => False) w xs L) (hq : Pt w q x) (hn : n ≤ L.length) (hm : m ≤ L.length)
    (hM : M = (L.take n ++ [(x, t)]) ++ L.drop m) (hb : Below w.heap.size w w5) {zs : List Value} (ho : w5.ownsRow base 56 2 v'' (n + 1 + (L.length - m)) zs) (hz : zs = (xs.take (n * 2) ++ [.slice q x.length c', .string t]) ++ xs.drop (m * 2)) :
    ∃ p5 c5, v'' = .slice p5 M.length c5 ∧ Rs (fun _ => False) w5 p5 M := by
  subst hz
  have hl : M.length = n + 1 + (L.length - m) := by rw [hM]; simp; omega
  rw [← hl] at ho
  refine Rs.of_row ho ?_ (fun _ _ h => h)
  rw [hM]
  exact (((hrc.take n hn).app (RC.one (Pt.ptd hq))).app (hrc.drop m hm)).below hb
end Go.Proofs.Ytolnbamdddiifaa.Bk
