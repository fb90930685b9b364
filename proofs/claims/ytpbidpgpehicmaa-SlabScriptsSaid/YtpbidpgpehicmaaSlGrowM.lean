/- What Grow leaves, in plain numbers and in memory. -/
import Derived.Test.YtpbidpgpehicmaaSlRows1
namespace Go.Proofs.Ytpbidpgpehicmaa.Sl
open Go.RowKit Go.Shelf
open Go.Lib (hid)

/-- the contents with row i twice -/
def growC (S : List Nat) (C : List Int) (d i : Nat) : List Int :=
  (List.range (C.length / prodL (S.drop (d + 1)))).flatMap fun n => if n % S.getD d 1 = i then rowL C (prodL (S.drop (d + 1))) n ++ rowL C (prodL (S.drop (d + 1))) n else rowL C (prodL (S.drop (d + 1))) n
theorem split_at (S : List Nat) (d : Nat) (hd : d < S.length) : S = S.take d ++ S.getD d 1 :: S.drop (d + 1) := by
  conv => lhs; rw [← List.take_append_drop d S, List.drop_eq_getElem_cons hd]
  rw [List.getD_eq_getElem?_getD, List.getElem?_eq_getElem hd]; rfl
theorem set_split (S : List Nat) (d x : Nat) (hd : d < S.length) : S.set d x = S.take d ++ x :: S.drop (d + 1) := by
  rw [List.set_eq_take_append_cons_drop, if_pos hd]
theorem prod_at (S : List Nat) (d : Nat) (hd : d < S.length) : prodL S = prodL (S.take d) * (S.getD d 1 * prodL (S.drop (d + 1))) := by
  conv => lhs; rw [split_at S d hd]
  rw [prodL_append]; rfl
theorem prod_set (S : List Nat) (d x : Nat) (hd : d < S.length) : prodL (S.set d x) = prodL (S.take d) * (x * prodL (S.drop (d + 1))) := by
  rw [set_split S d x hd, prodL_append]; rfl
theorem grow_cells (S : List Nat) (C : List Int) (F : Fits S C) (d i : Nat) (hd : d < S.length) (hi : i < S.getD d 1) :
    growC S C d i = (List.range (prodL (S.set d (S.getD d 1 + 1)))).map fun k => C.getD (placeL S ((cellL (S.set d (S.getD d 1 + 1)) k).set d (if k / prodL (S.drop (d + 1)) % (S.getD d 1 + 1) > i then k / prodL (S.drop (d + 1)) % (S.getD d 1 + 1) - 1 else k / prodL (S.drop (d + 1)) % (S.getD d 1 + 1)))) 0 := by
  have hs := split_at S d hd
  have hl : (S.take d).length = d := by rw [List.length_take]; omega
  have := grow_eq (0 : Int) (S.take d) (S.drop (d + 1)) C (S.getD d 1) i (fun s hs => F.pos s (List.mem_of_mem_drop hs)) hi (by rw [← hs]; exact F.len)
  rw [hl, ← hs, ← set_split S d _ hd] at this
  exact this
theorem grow_len (S : List Nat) (C : List Int) (F : Fits S C) (d i : Nat) (hd : d < S.length) (hi : i < S.getD d 1) : (growC S C d i).length = prodL (S.set d (S.getD d 1 + 1)) := by
  rw [grow_cells S C F d i hd hi]; simp
theorem grow_most (S : List Nat) (C : List Int) (F : Fits S C) (d : Nat) (hd : d < S.length) : C.length / S.getD d 1 * (S.getD d 1 + 1) = prodL (S.set d (S.getD d 1 + 1)) := by
  have hp : 0 < S.getD d 1 := by
    rw [List.getD_eq_getElem?_getD, List.getElem?_eq_getElem hd]; exact F.pos _ (List.getElem_mem hd)
  rw [F.len, prod_at S d hd, prod_set S d _ hd]
  generalize S.getD d 1 = z at *
  generalize prodL (S.take d) = x
  generalize prodL (S.drop (d + 1)) = y
  have e : x * (z * y) = x * y * z := by rw [Nat.mul_comm z y, Nat.mul_assoc]
  rw [e, Nat.mul_div_cancel _ hp, Nat.mul_comm (z + 1) y, Nat.mul_assoc]
theorem grow_fits (S : List Nat) (C : List Int) (F : Fits S C) (d i : Nat) (hd : d < S.length) (hi : i < S.getD d 1) (hm : C.length / S.getD d 1 * (S.getD d 1 + 1) ≤ 4096) : Fits (S.set d (S.getD d 1 + 1)) (growC S C d i) := by
  rw [grow_most S C F d hd] at hm
  refine ⟨?_, by rw [List.length_set]; exact F.few, ?_, hm, grow_len S C F d i hd hi⟩
  · intro e
    have := congrArg List.length e
    rw [List.length_set, List.length_nil] at this
    omega
  · intro s hs
    rw [set_split S d _ hd] at hs
    rcases List.mem_append.1 hs with h | h
    · exact F.pos s (List.mem_of_mem_take h)
    · rcases List.mem_cons.1 h with rfl | h
      · omega
      · exact F.pos s (List.mem_of_mem_drop h)
/-- what Grow leaves -/
def Grown (w : World) (b g : Nat) (S : List Nat) (C : List Int) (d i : Nat) (e : Ending) (w' : World) : Prop :=
  ∃ h', e = .returned (.int .i64 0) ∧ Slb w' b g h' (zs (S.set d (S.getD d 1 + 1))) (growC S C d i) ∧ w.heap.size ≤ h' ∧ Onl (fun k => k = b ∨ k = g) w w'
/-- other sizes at one dimension, other contents: how they come into memory -/
theorem slab_turn {w W W5 : World} {b g h D : Nat} {S : List Nat} {C A : List Int} {pv : Option Addr} {cv d x : Nat} (H : Slb w b g h (zs S) C) (keep : ∀ k, k < w.heap.size → W.heap[k]? = w.heap[k]?) (hos : W.os = w.os) (htp : W.tape = w.tape) (hou : W.output = w.output) (hsz : w.heap.size ≤ W.heap.size)
    (hrow : W.ownsRow w.heap.size 3 1 (.slice pv A.length cv) A.length (iv A)) (hA : 0 < A.length) (hd : d < S.length) (hD : w.heap.size ≤ D) (hK : W.heap[D]? = some (.deferred (some [])))
    (hW5 : ((W.setCell ⟨g, d, none⟩ (.int .i64 (x : Int))).setCell ⟨b, 1, none⟩ (.slice pv A.length cv)).drew = W5) :
    ∃ h', Slb (W5.putObj D (.deferred none)) b g h' (zs (S.set d x)) A ∧ w.heap.size ≤ h' ∧ Onl (fun k => k = b ∨ k = g) w (W5.putObj D (.deferred none)) := by
  obtain ⟨h', c', e, hbase, hr, hc⟩ := row_of_owns hrow hA
  injection e with e1 e2 e3
  subst e1; subst e3
  have hne := H.ne
  have hlt := H.lts
  have hb := hlt b (.inl rfl)
  have hg := hlt g (.inr (.inl rfl))
  have hDh : D ≠ h' := fun e => by
    obtain ⟨r, hr⟩ := hr
    rw [← e, hK] at hr; cases hr
  have hheap : ∀ k, k ≠ b → k ≠ g → k ≠ D → (W5.putObj D (.deferred none)).heap[k]? = W.heap[k]? := fun k h1 h2 h3 => by
    rw [World.putObj_heap_other h3, ← hW5]
    show ((W.setCell ⟨g, d, none⟩ (.int .i64 (x : Int))).setCell ⟨b, 1, none⟩ (.slice (some ⟨h', 0, none⟩) A.length cv)).heap[k]? = _
    rw [heap_setCell_other _ _ _ _ h1, heap_setCell_other _ _ _ _ h2]
  refine ⟨h', ⟨?_, ?_, ?_, ?_⟩, hbase, ⟨?_, ?_, ?_, ?_, ?_⟩⟩
  · obtain ⟨k, m, h1, h2, e⟩ := H.head
    refine ⟨k, cv, by rw [zs_len, List.length_set]; rwa [zs_len] at h1, hc, ?_⟩
    rw [World.putObj_heap_other (by omega), ← hW5]
    show ((W.setCell ⟨g, d, none⟩ (.int .i64 (x : Int))).setCell ⟨b, 1, none⟩ (.slice (some ⟨h', 0, none⟩) A.length cv)).heap[b]? = _
    have := heap_setCell_same (W.setCell ⟨g, d, none⟩ (.int .i64 (x : Int))) b 1 _ _ (.slice (some ⟨h', 0, none⟩) A.length cv) ((heap_setCell_other W ⟨g, d, none⟩ b (.int .i64 (x : Int)) hne.1).trans ((keep b hb).trans e))
    rw [this]
    simp [zs]
  · have h1 : Row W g (zs S) := H.sz.keep (keep g hg)
    have h2 := h1.set d (by rw [zs_len]; exact hd) (x : Int)
    rw [zs_set] at h2
    refine (h2.far ⟨b, 1, none⟩ (.slice (some ⟨h', 0, none⟩) A.length cv) (fun e => hne.1 e.symm)).keep ?_
    rw [World.putObj_heap_other (by omega), ← hW5]
    rfl
  · exact hr.keep (hheap h' (by omega) (by omega) (fun e => hDh e.symm))
  · exact ⟨hne.1, by omega, by omega⟩
  · rw [← hW5]; exact hos
  · rw [← hW5]; exact htp
  · rw [← hW5]; exact hou
  · rw [← hW5]; simp; exact hsz
  · intro k hk hq
    rw [hheap k (fun e => hq (.inl e)) (fun e => hq (.inr e)) (by omega)]
    exact keep k hk
end Go.Proofs.Ytpbidpgpehicmaa.Sl
