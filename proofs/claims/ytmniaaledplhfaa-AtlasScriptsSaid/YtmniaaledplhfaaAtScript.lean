/- A script of Ops, opened; 'short'; the reference's Put that refuses. -/
import Derived.Test.YtmniaaledplhfaaAtPair
import Derived.Test.YtmniaaledplhfaaAtOpen
import Derived.Deep.Slices
namespace Go.Proofs.Ytmniaaledplhfaa.At
open Go.RowKit
open Go.Lib (hid)
open Go.ChangeShapes Go.WideShapes Go.Joins Go.Deep
open Go.Proofs.Ytmniaaledplhfaa.Ky Go.Proofs.Ytmniaaledplhfaa.Bk Go.Proofs.Ytmniaaledplhfaa.Pt

section
variable {H : Type} {enc : TypeId × Value → H} {W : World} {base : Nat} {sp : Nat → Bool} {hd : Bool}
set_option maxRecDepth 100000 in
theorem op_cellsA {n : Nat} {l : List Value} {x : DataW H × List MemPlace} (hl : l.length = 5) (hf : DataW.trod enc Try.prog W base sp hd n 37 l = some x) :
    ∃ (a : Int) (p : Option Addr) (k : List Nat) (c : Nat) (t : ByteArray) (q : Option Addr) (lo : List Nat) (c2 : Nat) (r : Option Addr) (hi : List Nat) (c3 : Nat), l = [.int .i64 a, .slice p k.length c, .string t, .slice q lo.length c2, .slice r hi.length c3] ∧ Pt W p k ∧ Pt W q lo ∧ Pt W r hi ∧ k.length ≤ 9223372036854775807 ∧ t.size ≤ 9223372036854775807 ∧ lo.length ≤ 9223372036854775807 ∧ hi.length ≤ 9223372036854775807 := by
  obtain ⟨x0, x1, x2, x3, x4, rfl⟩ : ∃ x0 x1 x2 x3 x4, l = [x0, x1, x2, x3, x4] := by
    match l, hl with
    | [x0, x1, x2, x3, x4], _ => exact ⟨x0, x1, x2, x3, x4, rfl⟩
  obtain ⟨xs, m, _, _, _, hlen, hff⟩ := DataW.trod_struct Try.underlying37 hf
  have hlen3 : xs.length = 3 := hlen
  have some_at : ∀ j, j < 3 → (xs[j]?).isSome = true := fun j hj => by rw [List.getElem?_eq_getElem (by omega)]; rfl
  obtain ⟨y0, hy0⟩ := Option.isSome_iff_exists.1 (some_at 0 (by omega))
  obtain ⟨y1, hy1⟩ := Option.isSome_iff_exists.1 (some_at 1 (by omega))
  obtain ⟨y2, hy2⟩ := Option.isSome_iff_exists.1 (some_at 2 (by omega))
  have h0 := hff 0 _ rfl
  have h1 := hff 1 _ rfl
  have h2 := hff 2 _ rfl
  rw [hy0] at h0
  rw [hy1] at h1
  rw [hy2] at h2
  have h0' : DataW.trod enc Try.prog W base sp hd m 3 [x0] = some y0 := by rw [← show (([x0, x1, x2, x3, x4] : List Value).drop 0).take (Try.prog.cellsOf 3) = [x0] from cell_one rfl c3]; exact h0
  have h1' : DataW.trod enc Try.prog W base sp hd m 33 [x1, x2] = some y1 := by rw [← show (([x0, x1, x2, x3, x4] : List Value).drop 1).take (Try.prog.cellsOf 33) = [x1, x2] from cell_two rfl rfl cRec]; exact h1
  have h2' : DataW.trod enc Try.prog W base sp hd m 35 [x3, x4] = some y2 := by rw [← show (([x0, x1, x2, x3, x4] : List Value).drop 3).take (Try.prog.cellsOf 35) = [x3, x4] from cell_two rfl rfl cBox]; exact h2
  obtain ⟨a, e, _, _⟩ := DataW.trod_int Try.underlying3 h0'
  simp at e
  subst e
  obtain ⟨p, k, c, t, e, hp, hk, ht⟩ := rec_cells rfl h1'
  cases e
  obtain ⟨q, lo, c2, r, hi, c3, e, hq, hr, hlo, hhi⟩ := box_cells rfl h2'
  cases e
  exact ⟨a, p, k, c, t, q, lo, c2, r, hi, c3, rfl, hp, hq, hr, hk, ht, hlo, hhi⟩
/-- an element of a script, in five cells -/
structure OpA (w : World) (b o : Nat) (a : Int) (p : Option Addr) (k : List Nat) (c : Nat) (t : ByteArray) (q : Option Addr) (lo : List Nat) (c2 : Nat) (r : Option Addr) (hi : List Nat) (c3 : Nat) : Prop where
  d0 : w.cell? ⟨b, o, none⟩ = some (.int .i64 a)
  d1 : w.cell? ⟨b, o + 1, none⟩ = some (.slice p k.length c)
  d2 : w.cell? ⟨b, o + 2, none⟩ = some (.string t)
  d3 : w.cell? ⟨b, o + 3, none⟩ = some (.slice q lo.length c2)
  d4 : w.cell? ⟨b, o + 4, none⟩ = some (.slice r hi.length c3)
  hk : Pt w p k
  hlo : Pt w q lo
  hhi : Pt w r hi
  fit : k.length ≤ 9223372036854775807 ∧ t.size ≤ 9223372036854775807 ∧ lo.length ≤ 9223372036854775807 ∧ hi.length ≤ 9223372036854775807
/-- a script that came in -/
def IsScriptA (w : World) (a : Option Addr) (len : Nat) : Prop :=
  len ≤ maxLen ∧ (len = 0 ∨ ∃ b off, a = some ⟨b, off, none⟩ ∧ b < w.heap.size ∧ ∀ i, i < len → ∃ x p k c t q lo c2 r hi c3, OpA w b (off + i * 5) x p k c t q lo c2 r hi c3)
theorem script_trodA {n : Nat} {cs : List Value} {x : DataW H × List MemPlace} {a : Option Addr} {len cap : Nat} (hcs0 : cs = [.slice a len cap]) (hf : DataW.trod enc Try.prog W base sp hd n 22 cs = some x) : IsScriptA W a len := by
  rcases open_slice Try.underlying22 hf with ⟨hcs, _⟩ | ⟨x, l, c, m, n, D, Pl, hcs, _, hlc, hcm, hm, _, hi⟩
  · rw [hcs] at hcs0
    simp at hcs0
    exact ⟨by rw [← hcs0.2.1]; exact Nat.zero_le _, .inl hcs0.2.1.symm⟩
  · rw [hcs] at hcs0
    simp at hcs0
    obtain ⟨rfl, rfl, rfl⟩ := hcs0
    by_cases h0 : l = 0
    · exact ⟨by rw [h0]; exact Nat.zero_le _, .inl h0⟩
    · have hml : l ≤ m := by rw [hm]; split <;> omega
      have cell : ∀ i, i < l → ∃ (a : Int) (p : Option Addr) (k : List Nat) (c : Nat) (t : ByteArray) (q : Option Addr) (lo : List Nat) (c2 : Nat) (r : Option Addr) (hi : List Nat) (c3 : Nat), (∀ j y, [Value.int .i64 a, .slice p k.length c, .string t, .slice q lo.length c2, .slice r hi.length c3][j]? = some y → W.cell? ((x.add (i * 5)).add j) = some y) ∧ Pt W p k ∧ Pt W q lo ∧ Pt W r hi ∧ k.length ≤ 9223372036854775807 ∧ t.size ≤ 9223372036854775807 ∧ lo.length ≤ 9223372036854775807 ∧ hi.length ≤ 9223372036854775807 := by
        intro i hil
        obtain ⟨cs', hc, ht'⟩ := hi i (by omega)
        rw [cOp] at hc
        obtain ⟨_, hl6, hat⟩ := World.cells?_some hc
        obtain ⟨a, p, k, c, t, q, lo, c2, r, hi', c3, rfl, rest⟩ := op_cellsA hl6 ht'
        refine ⟨a, p, k, c, t, q, lo, c2, r, hi', c3, fun j y hy => ?_, rest⟩
        rw [hat j (by have := (List.getElem?_eq_some_iff.1 hy).1; simpa using this), hy]
      obtain ⟨blk, off, spot⟩ := x
      obtain ⟨a0, p0, k0, c0, t0, q0, lo0, c20, r0, hi0, c30, hc0, _⟩ := cell 0 (by omega)
      have hfirst := hc0 0 _ rfl
      have hspot : spot = none := by simpa [Addr.add] using World.cell?_spot hfirst
      subst hspot
      have hadd : ∀ o i, (⟨blk, o, none⟩ : Addr).add i = ⟨blk, o + i, none⟩ := fun o i => by unfold Addr.add; split <;> simp_all
      refine ⟨by unfold maxLen at hcm ⊢; omega, .inr ⟨blk, off, rfl, ?_, fun i hil => ?_⟩⟩
      · rw [hadd, hadd] at hfirst; exact block_lt_of_cell hfirst
      · obtain ⟨a, p, k, c, t, q, lo, c2, r, hi', c3, hc, g1, g2, g3, g4⟩ := cell i hil
        have e0 := hc 0 _ rfl
        have e1 := hc 1 _ rfl
        have e2 := hc 2 _ rfl
        have e3 := hc 3 _ rfl
        have e4 := hc 4 _ rfl
        rw [hadd, hadd] at e0 e1 e2 e3 e4
        exact ⟨a, p, k, c, t, q, lo, c2, r, hi', c3, e0, e1, e2, e3, e4, g1, g2, g3, g4⟩
set_option maxRecDepth 100000 in
theorem open_scriptA {v : Value} {d : DataW H} {p : List MemPlace}
    (hv : Value.okWide Try.prog W .any base 22 v) (h : DataW.Trod enc Try.prog W 0 (fun _ => true) true 22 v d p) :
    ∃ a len cap, v = .slice a len cap ∧ IsScriptA W a len := by
  obtain ⟨a, len, cap, rfl⟩ := okWide_slice Try.underlying22 hv
  obtain ⟨fuel, hf⟩ := h
  exact ⟨a, len, cap, rfl, script_trodA (a := a) (len := len) (cap := cap) (cs := (Value.slice a len cap).cells.toList) (by simp [Value.cells]) hf⟩
end
set_option maxRecDepth 100000 in
set_option maxHeartbeats 1000000 in
theorem rput_bad {N b : Nat} {X : Nat → Prop} {v : Value} {d : Int} {L : List Rec} (k : List Nat) (t : ByteArray) (q : Option Addr) (c' : Nat) (w : World) (h : Ra N w X b v d L) (hr : recB k t d = false) :
    Calls Try.prog 13 #[.pointer (some ⟨b, 0, none⟩), .agg #[.slice q k.length c', .string t]] w fun e w' => e = .returned (.int .i64 1) ∧ Below w.heap.size w w' := by
  have HC := hid fun (w' : World) => refCheckR_ok q k.length c' t d w'
  have e0 : (checkB k.length d && decide (t.size ≤ 40)) = false := hr
  rw [e0] at HC
  rw [err_false false rfl] at HC
  have HB := hid (below_alloc w (.cells #[.slice q k.length c', .string t] 33)).drew
  have HA := hid (two_cells (heap_alloc_new w (.cells #[.slice q k.length c', .string t] 33)))
  have HD := hid fun (w' : World) (hb : Below w.heap.size w w') => (h.next hb).cells.1
  have a0 := HD.out _ (below_alloc w (.cells #[.slice q k.length c', .string t] 33))
  clear hr e0 h
  go_enter Try.func13, Try.ntmps13
  go_wp2_with fail
  have a1 := HA.out.1
  have a2 := HA.out.2.1
  go_region_held3 (fun w' => w'.cell? ⟨w.heap.size, 0, none⟩ = some (.slice q k.length c') ∧ w'.cell? ⟨w.heap.size, 1, none⟩ = some (.string t) ∧ w'.cell? ⟨b, 0, none⟩ = some (.int .i64 d)) (first | exact ⟨a1, a2, a0⟩ | exact x4 | go_keep)
    (first
      | (go_at_call 11; refine (HC.out _).mono ?_; rintro e w4 ⟨rfl, hb⟩; have H2 := hid (HB.out.trans (hb.mono HB.out.size)); have x5 := two_cells ((hb.block w.heap.size (by simp)).trans (heap_alloc_new w (.cells #[.slice q k.length c', .string t] 33))); have x4 := And.intro x5.1 (And.intro x5.2.1 (HD.out _ H2.out)); clear hb)
      | fail)
  go_wp2_with fail
  go_ret
  exact ⟨rfl, H2.out⟩
end Go.Proofs.Ytmniaaledplhfaa.At
