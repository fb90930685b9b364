/- rows of slab: the contents by pieces; the function value. -/
import Derived.Test.YtpbidpgpehicmaaSlFill
namespace Go.Proofs.Ytpbidpgpehicmaa.Sl
open Go.RowKit Go.Shelf
open Go.Lib (hid)

set_option maxRecDepth 100000 in
theorem slice_l (p : Option Addr) (len c n : Nat) (h : n ≤ len) (hc : len ≤ c) : ∃ P, (P = p.map (fun a => a.add n) ∨ len = n) ∧ ∀ w : World, (Instr.slice 30 (.slice p len c) (some (.int .i64 (n : Int))) none none).run Try.prog w = .ok (.slice P (len - n) (c - n)) w := by
  refine ⟨if c = n then p else p.map fun a => a.add n, ?_, fun w => ?_⟩
  · split
    · right; omega
    · left; rfl
  · have hs : (sizeOf 3).run Try.prog w = .ok 1 w := by kernel_rfl
    rw [run_slice_l w _ p len c (by kernel_rfl) .i64 n (by omega) (by omega)]
    have e : Try.prog.elem 30 = 3 := by kernel_rfl
    rw [e, hs]
    simp only [Result.andThen, sliced, Int.toNat_natCast, Nat.mul_one]
theorem cells_drop {w : World} {p P : Option Addr} {l : List Value} {n len : Nat} (h : CellsAt w p l) (hl : l.length = len) (hP : P = p.map (fun a => a.add n) ∨ len = n) : CellsAt w P (l.drop n) := fun j hj => by
  rw [List.length_drop] at hj
  rcases hP with rfl | hP
  · obtain ⟨b, off, rfl, hb, hc⟩ := h (n + j) (by omega)
    refine ⟨b, off + n, by simp [addr_add], hb, ?_⟩
    rw [Nat.add_assoc, hc, List.getElem_drop]
  · omega
theorem iv_drop (l : List Int) (n : Nat) : (iv l).drop n = iv (l.drop n) := by simp [iv, List.map_drop]
theorem zs_drop (l : List Nat) (n : Nat) : (zs l).drop n = zs (l.drop n) := by simp [zs, List.map_drop]
theorem prodL_snoc (l : List Nat) (x : Nat) : prodL (l ++ [x]) = prodL l * x := by rw [prodL_append]; simp [prodL]
/-- what rows gives: a function value that captures three boxes -/
def RowsR (w : World) (b d L : Nat) (e : Ending) (w' : World) : Prop :=
  e = .returned (.func (.func 46) #[] #[.pointer (some ⟨w.heap.size, 0, none⟩), .pointer (some ⟨w.heap.size + 1 + 1, 0, none⟩), .pointer (some ⟨w.heap.size + 1, 0, none⟩)]) ∧
  Below w.heap.size w w' ∧ w'.heap.size = w.heap.size + 1 + 1 + 1 ∧ Boxed w' w.heap.size 23 (.pointer (some ⟨b, 0, none⟩)) ∧ Boxed w' (w.heap.size + 1) 3 (.int .i64 (d : Int)) ∧ Boxed w' (w.heap.size + 1 + 1) 3 (.int .i64 (L : Int))
set_option maxRecDepth 100000 in
set_option maxHeartbeats 2000000 in
theorem rows_ok (w : World) (b g h : Nat) (S : List Nat) (C : List Int) (H : Slb w b g h (zs S) C) (F : Fits S C) (d : Nat) (hd : d < S.length) :
    Calls Try.prog 33 #[.pointer (some ⟨b, 0, none⟩), .int .i64 (d : Int)] w (RowsR w b d (prodL (S.drop (d + 1)))) := by
  obtain ⟨k, m, hk, _, HS⟩ := H.sb
  rw [zs_len] at hk
  obtain ⟨P, hP, hsl⟩ := slice_l (some ⟨g, 0, none⟩) S.length k (d + 1) (by omega) hk
  obtain ⟨W1, hW1⟩ : ∃ W1, ((w.alloc (.cells #[.pointer (some ⟨b, 0, none⟩)] 23)).alloc (.cells #[.int .i64 (d : Int)] 3)).alloc (.cells #[.int .i64 1] 3) = W1 := ⟨_, rfl⟩
  have hB1 : Below w.heap.size w W1 := by rw [← hW1]; exact ((below_alloc w _).alloc (by simp) _).alloc (by simp; omega) _
  have hs1 : W1.heap.size = w.heap.size + 1 + 1 + 1 := by rw [← hW1]; simp
  have g0 : Boxed W1 w.heap.size 23 (.pointer (some ⟨b, 0, none⟩)) := by rw [← hW1]; exact ((Boxed.new w _ _).alloc _).alloc _
  have g1 : Boxed W1 (w.heap.size + 1) 3 (.int .i64 (d : Int)) := by
    rw [← hW1]
    have := Boxed.new (w.alloc (.cells #[.pointer (some ⟨b, 0, none⟩)] 23)) 3 (.int .i64 (d : Int))
    rw [World.size_alloc] at this
    exact this.alloc _
  have g2 : Boxed W1 (w.heap.size + 1 + 1) 3 (.int .i64 1) := by
    rw [← hW1]
    have := Boxed.new ((w.alloc (.cells #[.pointer (some ⟨b, 0, none⟩)] 23)).alloc (.cells #[.int .i64 (d : Int)] 3)) 3 (.int .i64 1)
    rw [World.size_alloc, World.size_alloc] at this
    exact this
  have hD : CellsAt w P (iv (zs (S.drop (d + 1)))) := by
    have := cells_drop HS.sz (by rw [iv_length, zs_len]) hP
    rwa [iv_drop, zs_drop] at this
  have hlen : (S.drop (d + 1)).length = S.length - (d + 1) := List.length_drop
  have y0 := (HS.below hB1).cell0
  rw [zs_len] at y0
  have x0 := g0.cell
  have x1 := g1.cell
  have hsl' : ∀ V : World, (Instr.slice 30 (.slice (some ⟨g, 0, none⟩) S.length k) (some (.int .i64 ((d : Int) + 1))) none none).run Try.prog V = .ok (.slice P (S.drop (d + 1)).length (k - (d + 1))) V := fun V => by rw [hlen]; exact hsl V
  have hdd : (d : Int) ≤ 1000 := by have := F.few; omega
  have hpm : ∀ K, prodL ((S.drop (d + 1)).take K) ≤ 4096 := fun K => by
    have h1 := prodL_take (S.drop (d + 1)) K (fun s hs => F.pos s (List.mem_of_mem_drop hs))
    have h2 : prodL (S.drop (d + 1)) ≤ prodL S := by
      have e : prodL S = prodL (S.take (d + 1)) * prodL (S.drop (d + 1)) := by rw [← prodL_append, List.take_append_drop]
      have := prodL_pos (S.take (d + 1)) fun s hs => F.pos s (List.mem_of_mem_take hs)
      rw [e]
      exact Nat.le_mul_of_pos_left _ this
    have := F.most
    omega
  have HPM := hid hpm; have HD := hid hD; have G0 := hid g0; have G1 := hid g1; have G2 := hid g2; have HB1 := hid hB1; have HS1 := hid hs1
  have hfew : (S.drop (d + 1)).length ≤ 6 := by have := F.few; omega
  clear hpm hD g0 g1 g2 hB1 hs1 H HS F hd hlen hsl hP hk
  generalize S.drop (d + 1) = D at *
  go_enter Try.func33, Try.ntmps33
  go_wp2_with fail
  go_quiet (fail)
  go_wp2_with fail
  clear x0 x1 y0 hsl' hW1
  go_loopw [16] (fun i wr => ∃ K : Nat, K ≤ D.length ∧ i = .int .i64 K ∧ W1.grownBy wr (some (w.heap.size + 1 + 1)) ∧ wr.heap.size = W1.heap.size ∧ Boxed wr (w.heap.size + 1 + 1) 3 (.int .i64 (prodL (D.take K) : Nat))) (fun i _ => D.length - (intOf i).toNat)
  case atStart => exact ⟨0, by omega, rfl, ⟨rfl, rfl, rfl, Nat.le_refl _, fun _ _ _ => rfl⟩, rfl, G2.out⟩
  case round =>
    obtain ⟨K, hK, rfl, hg, hsz, hbx⟩ := hrel
    by_cases hlt : K < D.length
    · obtain ⟨b1, o1, rfl, lt1, c1⟩ := HD.out K (by rw [iv_length, zs_len]; exact hlt)
      have d1 : w.cell? ⟨b1, o1 + K, none⟩ = some (.int .i64 (D[K] : Nat)) := by have := c1; simp [iv, zs] at this; exact this
      have hs1 := HS1.out
      have d2 : wr.cell? ⟨b1, o1 + K, none⟩ = some (.int .i64 (D[K] : Nat)) :=
        (World.cell?_of_block (hg.block b1 (by omega) (fun e => by injection e with e; omega))).trans ((HB1.out.cell (p := ⟨b1, o1 + K, none⟩) lt1).trans d1)
      have hm := HPM.out (K + 1)
      have hsn : prodL (D.take (K + 1)) = prodL (D.take K) * D[K] := by rw [List.take_succ_eq_append_getElem hlt, prodL_snoc]
      rw [hsn] at hm
      have HSN := hid hsn
      have hcx := hbx.cell
      have hfx := hbx.frozen
      have HBX := hid hbx; have HG := hid hg; have HSZ := hid hsz
      clear c1 d1 hsn hs1 hbx hg hsz
      generalize prodL (D.take K) = y at *
      generalize D[K] = z at *
      have e1 := hid (show wrap64 ((y : Int) * (z : Int)) = ((y * z : Nat) : Int) by rw [← Int.natCast_mul]; exact Go.IntWalk.wrap64_in _ (by omega))
      clear hm
      go_wp2_with fail
      go_roundw
      case rel =>
        refine ⟨K + 1, by omega, by go_num, ?_, ?_, ?_⟩
        · have := grownBy_set HG.out 0 0 (.int .i64 (wrap64 ((y : Int) * (z : Int))))
          exact this
        · rw [World.size_setCell]; exact HSZ.out
        · rw [e1.out, HSN.out]; exact HBX.out.set _
      case measure => simp [intOf]; omega
    · obtain rfl : K = D.length := by omega
      rw [List.take_length] at hbx
      have HBX := hid hbx; have HG := hid hg; have HSZ := hid hsz
      clear hbx hg hsz
      go_wp2_with fail
      go_ret
      have hs1 := HS1.out
      have hb1 := HB1.out
      have hg := HG.out
      refine ⟨rfl, ⟨hg.os.trans hb1.os, hg.tape.trans hb1.tape, hg.output.trans hb1.output, by have := hg.size; have := hb1.size; omega, fun j hj => ?_⟩, by rw [HSZ.out, hs1], ?_, ?_, HBX.out⟩
      · rw [hg.block j (by omega) (fun e => by injection e with e; omega), hb1.block j hj]
      · exact G0.out.kept hg (fun e => by injection e with e; omega)
      · exact G1.out.kept hg (fun e => by injection e with e; omega)
end Go.Proofs.Ytpbidpgpehicmaa.Sl
