/- An atlas in memory; what is read of it. -/
import Derived.Test.YtmniaaledplhfaaAtRow
import Derived.Test.YtmniaaledplhfaaBkFind
import Derived.Test.YtmniaaledplhfaaKyBox
import Derived.Deep.RegionHeld3
namespace Go.Proofs.Ytmniaaledplhfaa.At
open Go.RowKit
open Go.Lib (hid)
open Go.Proofs.Ytmniaaledplhfaa.Ky Go.Proofs.Ytmniaaledplhfaa.Bk

/-- an atlas' own blocks: its struct's, and its row's -/
def FT (b : Nat) (v : Value) (k : Nat) : Prop := k = b ∨ v.ownBlock = some k
/-- an atlas at b, whose row is v, of dimension d, with records L; its points are in none of its own blocks, and in none of X -/
structure Atl (N : Nat) (w : World) (X : Nat → Prop) (b : Nat) (v : Value) (d : Int) (L : List Rec) : Prop where
  head : w.heap[b]? = some (.cells #[.int .i64 d, v] 58 (0, 0))
  row : ∃ xs, w.ownsRow N 33 2 v L.length xs ∧ RC (fun k => FT b v k ∨ X k) w xs L
  lo : N ≤ b
  ne : v.ownBlock ≠ some b
  up : upL L
  big : bigR L
/-- but the blocks F all is as it was -/
structure Onl (F : Nat → Prop) (w w' : World) : Prop where
  os : w'.os = w.os
  tape : w'.tape = w.tape
  output : w'.output = w.output
  size : w.heap.size ≤ w'.heap.size
  block : ∀ k, k < w.heap.size → ¬ F k → w'.heap[k]? = w.heap[k]?
theorem Onl.keep {F : Nat → Prop} {w w' : World} (h : Onl F w w') : Keep F w w' := ⟨h.size, h.block⟩
theorem Onl.ofBelow {F : Nat → Prop} {w w' : World} (h : Below w.heap.size w w') : Onl F w w' := ⟨h.os, h.tape, h.output, h.size, fun k hk _ => h.block k hk⟩
theorem Onl.below {F : Nat → Prop} {w w' : World} {N : Nat} (h : Onl F w w') (hN : N ≤ w.heap.size) (hf : ∀ k, F k → N ≤ k) : Below N w w' :=
  ⟨h.os, h.tape, h.output, h.size, fun k hk => h.block k (Nat.lt_of_lt_of_le hk hN) (fun hk' => by have := hf k hk'; omega)⟩
theorem own_keep {w w' : World} {base e size n : Nat} {v : Value} {xs : List Value} (h : w.ownsRow base e size v n xs) (hk : ∀ g, v.ownBlock = some g → w'.heap[g]? = w.heap[g]?) : w'.ownsRow base e size v n xs := by
  refine ⟨h.1, ?_⟩
  rcases h.2 with hn | ⟨g, cap, cur, hv, hb0, hg, rest⟩
  · exact .inl hn
  · exact .inr ⟨g, cap, cur, hv, hb0, by rw [hk g (by rw [hv]; rfl)]; exact hg, rest⟩
section
variable {N b : Nat} {w w' : World} {X X' : Nat → Prop} {v : Value} {d : Int} {L : List Rec}
theorem Atl.ltb (h : Atl N w X b v d L) : b < w.heap.size := (Array.getElem?_eq_some_iff.1 h.head).1
theorem Atl.lt (h : Atl N w X b v d L) : ∀ k, FT b v k → k < w.heap.size := by
  rintro k (rfl | hk)
  · exact h.ltb
  · obtain ⟨xs, h1, _⟩ := h.row; exact (h1.lt k hk).2
theorem Atl.ge (h : Atl N w X b v d L) : ∀ k, FT b v k → N ≤ k := by
  rintro k (rfl | hk)
  · exact h.lo
  · obtain ⟨xs, h1, _⟩ := h.row; exact (h1.lt k hk).1
/-- what keeps its blocks, and turns none but some of X, keeps it -/
theorem Atl.other {F : Nat → Prop} (h : Atl N w X b v d L) (ho : Onl F w w') (hX : ∀ k, F k → X k) (ha : ∀ k, F k → ¬ FT b v k) : Atl N w' X b v d L := by
  have hb : ∀ k, FT b v k → w'.heap[k]? = w.heap[k]? := fun k hk => ho.block k (h.lt k hk) (fun hf => ha k hf hk)
  obtain ⟨xs, h1, h2⟩ := h.row
  exact ⟨by rw [hb b (.inl rfl)]; exact h.head, ⟨xs, own_keep h1 (fun g hg => hb g (.inr hg)), h2.keep ⟨ho.size, fun k hk hD => ho.block k hk (fun hf => hD (.inr (hX k hf)))⟩⟩, h.lo, h.ne, h.up, h.big⟩
theorem Atl.next (h : Atl N w X b v d L) (hb : Below w.heap.size w w') : Atl N w' X b v d L := h.other (F := fun _ => False) ⟨hb.os, hb.tape, hb.output, hb.size, fun k hk _ => hb.block k hk⟩ (fun _ h => h.elim) (fun _ h => h.elim)
theorem Atl.drew (h : Atl N w X b v d L) : Atl N w.drew X b v d L := h.next (Below.refl _ _).drew
theorem Atl.drewN (h : Atl N w X b v d L) (n : Nat) : Atl N (w.drewN n) X b v d L := h.next (below_drewN (Below.refl _ _) n)
theorem Atl.less (h : Atl N w X b v d L) (hX : ∀ k, k < w.heap.size → X' k → FT b v k ∨ X k) : Atl N w X' b v d L := by
  obtain ⟨xs, h1, h2⟩ := h.row
  exact ⟨h.head, ⟨xs, h1, h2.less fun k hk hD => hD.elim .inl (hX k hk)⟩, h.lo, h.ne, h.up, h.big⟩
theorem Atl.form (h : Atl N w X b v d L) : ∃ p c, v = .slice p L.length c ∧ L.length ≤ c ∧ c ≤ 9223372036854775807 := by
  obtain ⟨xs, h1, _⟩ := h.row
  rcases h1.2 with ⟨rfl, h0⟩ | ⟨g, cap, cur, rfl, _, _, hc, hm, _⟩
  · exact ⟨none, 0, by rw [h0], by omega, by omega⟩
  · unfold maxLen at hm; exact ⟨_, cap, rfl, hc, by omega⟩
theorem Atl.cells (h : Atl N w X b v d L) : w.cell? ⟨b, 0, none⟩ = some (.int .i64 d) ∧ w.cell? ⟨b, 1, none⟩ = some v ∧ w.frozen? ⟨b, 0, none⟩ = false ∧ w.frozen? ⟨b, 1, none⟩ = false :=
  ⟨by rw [cell_of_row _ _ _ _ _ _ h.head]; rfl, by rw [cell_of_row _ _ _ _ _ _ h.head]; rfl, frozen_of_row _ _ _ _ _ h.head, frozen_of_row _ _ _ _ _ h.head⟩
/-- its records, to be read -/
theorem Atl.rs {p : Option Addr} {c : Nat} (h : Atl N w X b (.slice p L.length c) d L) : Rs (fun _ => False) w p L := by
  obtain ⟨xs, h1, h2⟩ := h.row
  obtain ⟨p', c', e, hr⟩ := Rs.of_row h1 (h2.less (D' := fun _ => False) (fun _ _ h => h.elim)) (fun _ _ h => h)
  cases e
  exact hr
end
set_option maxHeartbeats 400000 in
theorem coords_ok {b : Nat} {d : Int} (w : World) (h : w.cell? ⟨b, 0, none⟩ = some (.int .i64 d)) :
    Calls Try.prog 29 #[.pointer (some ⟨b, 0, none⟩)] w fun e w' => e = .returned (.int .i64 d) ∧ w = w' := by
  go_enter Try.func29, Try.ntmps29
  go_wp2_with fail
  go_ret
  exact ⟨rfl, rfl⟩
set_option maxHeartbeats 400000 in
theorem coords_nil (w : World) : Calls Try.prog 29 #[.pointer none] w fun e w' => e = .returned (.int .i64 0) ∧ w = w' := by
  go_enter Try.func29, Try.ntmps29
  go_wp2_with fail
  go_ret
  exact ⟨rfl, rfl⟩
set_option maxHeartbeats 400000 in
theorem len_ok {N b : Nat} {X : Nat → Prop} {v : Value} {d : Int} {L : List Rec} (w : World) (h : Atl N w X b v d L) :
    Calls Try.prog 23 #[.pointer (some ⟨b, 0, none⟩)] w fun e w' => e = .returned (.int .i64 (L.length : Int)) ∧ w = w' := by
  obtain ⟨p, c, rfl, _, _⟩ := h.form
  have c1 := h.cells.2.1
  clear h
  go_enter Try.func23, Try.ntmps23
  go_wp2_with fail
  go_ret
  exact ⟨rfl, rfl⟩
set_option maxHeartbeats 400000 in
theorem len_nil (w : World) : Calls Try.prog 23 #[.pointer none] w fun e w' => e = .returned (.int .i64 0) ∧ w = w' := by
  go_enter Try.func23, Try.ntmps23
  go_wp2_with fail
  go_ret
  exact ⟨rfl, rfl⟩
set_option maxHeartbeats 400000 in
theorem all_ok {N b : Nat} {X : Nat → Prop} {v : Value} {d : Int} {L : List Rec} (w : World) (h : Atl N w X b v d L) :
    Calls Try.prog 22 #[.pointer (some ⟨b, 0, none⟩)] w fun e w' => ∃ p', e = .returned (.slice p' L.length L.length) ∧ Rs (Lt w.heap.size) w' p' L ∧ Below w.heap.size w w' := by
  obtain ⟨p, c, rfl, _, _⟩ := h.form
  have c1 := h.cells.2.1
  have HR := hid (records_ok L p c w h.rs h.big)
  clear h
  go_enter Try.func22, Try.ntmps22
  go_wp2_with (go_at_call 26; refine HR.out.mono ?_; rintro e w6 ⟨p6, rfl, hr, hb⟩; have H6 := hid (And.intro hr hb); clear hr hb)
  go_ret
  exact ⟨p6, rfl, H6.out.1, H6.out.2⟩
set_option maxHeartbeats 400000 in
theorem all_nil (w : World) : Calls Try.prog 22 #[.pointer none] w fun e w' => e = .returned (.slice none 0 0) ∧ w = w' := by
  go_enter Try.func22, Try.ntmps22
  go_wp2_with fail
  go_ret
  exact ⟨rfl, rfl⟩
set_option maxHeartbeats 400000 in
theorem copy_nil (w : World) : Calls Try.prog 9 #[.pointer none] w fun e w' => e = .returned (.pointer none) ∧ w = w' := by
  go_enter Try.func9, Try.ntmps9
  go_wp2_with fail
  go_ret
  exact ⟨rfl, rfl⟩
/-- may there be an atlas of so many coordinates? -/
def newB (d : Int) : Bool := decide (1 ≤ d ∧ d ≤ 6)
set_option maxHeartbeats 400000 in
theorem new_ok (d : Int) (w : World) (h : 1 ≤ d ∧ d ≤ 6) :
    Calls Try.prog 4 #[.int .i64 d] w fun e w' => e = .returned (.tuple #[.pointer (some ⟨w.heap.size, 0, none⟩), .int .i64 0]) ∧ w' = w.alloc (.cells #[.int .i64 d, .slice none 0 0] 58 (0, 0)) := by
  have e1 : decide (d < 1) = false := by simp; omega
  have e2 : decide (6 < d) = false := by simp; omega
  clear h
  go_enter Try.func4, Try.ntmps4
  go_wp2_with fail
  go_ret2
  exact ⟨rfl, rfl⟩
theorem atl_new (d : Int) (w : World) (N : Nat) (hN : N ≤ w.heap.size) (X : Nat → Prop) : Atl N (w.alloc (.cells #[.int .i64 d, .slice none 0 0] 58 (0, 0))) X w.heap.size (.slice none 0 0) d [] :=
  ⟨heap_alloc_new _ _, ⟨[], World.ownsRow_nil _ _ _ _, RC.nil⟩, hN, by simp [Value.ownBlock], List.Pairwise.nil, by unfold bigR; simp⟩
set_option maxHeartbeats 400000 in
theorem new_bad (d : Int) (w : World) (h : d < 1 ∨ 6 < d) : Calls Try.prog 4 #[.int .i64 d] w fun e w' => e = .returned (.tuple #[.pointer none, .int .i64 1]) ∧ w = w' := by
  by_cases h1 : d < 1
  · have e1 : decide (d < 1) = true := by simpa using h1
    clear h h1
    go_enter Try.func4, Try.ntmps4
    go_wp2_with fail
    go_ret2
    exact ⟨rfl, rfl⟩
  · have e1 : decide (d < 1) = false := by simpa using h1
    have e2 : decide (6 < d) = true := by simp; omega
    clear h h1
    go_enter Try.func4, Try.ntmps4
    go_wp2_with fail
    go_ret2
    exact ⟨rfl, rfl⟩
set_option maxRecDepth 100000 in
set_option maxHeartbeats 1000000 in
theorem search_ok (n : Nat) (p : Nat → Bool) (x y : Value) (w : World) (hn : n ≤ 1000000)
    (hf : ∀ (m i : Nat), i < n → Calls Try.prog 44 #[.int .i64 (i : Int), x, y] (w.drewN m) fun e w' => e = .returned (.bool (p i)) ∧ ∃ q, w' = (w.drewN m).drewN q)
    (hm : ∀ a b, a ≤ b → b < n → p a = true → p b = true) :
    Calls Try.prog 43 #[.int .i64 (n : Int), .func (.func 44) #[] #[x, y]] w fun e w' => ∃ r : Nat, e = .returned (.int .i64 (r : Int)) ∧ r ≤ n ∧ ((∀ t, t < r → p t = false) ∧ ∀ t, r ≤ t → t < n → p t = true) ∧ ∃ q, w' = w.drewN q := by
  have HF := hid hf; have M := hid hm; clear hf hm
  go_enter Try.func43, Try.ntmps43
  go_wp2_with fail
  go_loopw [5, 6] (fun s5 s6 wr => ∃ lo hi q : Nat, s5 = .int .i64 lo ∧ s6 = .int .i64 hi ∧ lo ≤ hi ∧ hi ≤ n ∧ wr = w.drewN q ∧ Hid ((∀ t, t < lo → p t = false) ∧ ∀ t, hi ≤ t → t < n → p t = true)) (fun s5 s6 _ => (intOf s6).toNat - (intOf s5).toNat)
  case atStart => exact ⟨0, n, 0, rfl, rfl, by omega, by omega, rfl, hid ⟨fun t h => absurd h (by omega), fun t h h' => absurd h (by omega)⟩⟩
  case round =>
    obtain ⟨lo, hi, q, rfl, rfl, hlh, hin, hwr, I⟩ := hrel
    have HW := hid hwr; clear hwr
    by_cases hlt : lo < hi
    · have hc := HF.out q ((lo + hi) / 2) (by omega)
      rw [← HW.out, show (((lo + hi) / 2 : Nat) : Int) = ((lo : Int) + (hi : Int)) / 2 by omega] at hc
      have HC := hid hc
      clear hc
      cases hp : p ((lo + hi) / 2) with
      | false =>
        rw [hp] at HC
        have HN : Hid ((∀ t, t < (lo + hi) / 2 + 1 → p t = false) ∧ ∀ t, hi ≤ t → t < n → p t = true) := hid ⟨fun t ht => (by
          cases h : p t with
          | false => rfl
          | true =>
            have := M.out t ((lo + hi) / 2) (by omega) (by omega) h
            rw [hp] at this
            cases this), I.out.2⟩
        clear hp I
        go_wp2_with (go_at_call 44; refine HC.out.mono ?_; rintro e w' ⟨rfl, nq, hw'⟩; have HW2 := hid (show w' = w.drewN (q + nq) by rw [hw', HW.out, World.drewN_drewN]); clear hw')
        go_roundw
        case rel => exact ⟨(lo + hi) / 2 + 1, hi, q + nq, by rw [show ((lo : Int) + (hi : Int)) / 2 + 1 = (((lo + hi) / 2 + 1 : Nat) : Int) by omega], rfl, by omega, hin, HW2.out, HN⟩
        case measure => simp [intOf]; omega
      | true =>
        rw [hp] at HC
        have HN : Hid ((∀ t, t < lo → p t = false) ∧ ∀ t, (lo + hi) / 2 ≤ t → t < n → p t = true) := hid ⟨I.out.1, fun t ht htn => M.out ((lo + hi) / 2) t ht htn hp⟩
        clear hp I
        go_wp2_with (go_at_call 44; refine HC.out.mono ?_; rintro e w' ⟨rfl, nq, hw'⟩; have HW2 := hid (show w' = w.drewN (q + nq) by rw [hw', HW.out, World.drewN_drewN]); clear hw')
        go_roundw
        case rel => exact ⟨lo, (lo + hi) / 2, q + nq, rfl, by rw [show ((lo : Int) + (hi : Int)) / 2 = (((lo + hi) / 2 : Nat) : Int) by omega], by omega, by omega, HW2.out, HN⟩
        case measure => simp [intOf]; omega
    · obtain rfl : hi = lo := by omega
      go_wp2_with fail
      go_ret
      exact ⟨hi, rfl, hin, I.out, q, HW.out⟩
set_option maxRecDepth 100000 in
set_option maxHeartbeats 1000000 in
/-- the closure: an atlas and a point in their boxes -/
theorem findcl_ok {D : Nat → Prop} (L : List Rec) (k : List Nat) (p q : Option Addr) (c c' A B b i : Nat) (w : World) (hp : Rs D w p L) (hq : Pt w q k) (hl : bigR L) (hi : i < L.length)
    (hA : w.cell? ⟨A, 0, none⟩ = some (.pointer (some ⟨b, 0, none⟩))) (hb1 : w.cell? ⟨b, 1, none⟩ = some (.slice p L.length c)) (hB : w.cell? ⟨B, 0, none⟩ = some (.slice q k.length c')) :
    Calls Try.prog 44 #[.int .i64 (i : Int), .pointer (some ⟨A, 0, none⟩), .pointer (some ⟨B, 0, none⟩)] w fun e w' => e = .returned (.bool (decide (0 ≤ cmp L[i].1 k))) ∧ ∃ m, w' = w.drewN m := by
  obtain ⟨g, off, q1, c1, rfl, _, d1, _, hp1⟩ := hp.at i hi
  have hb := hl.2 _ (List.getElem_mem hi)
  have HS := hid fun (m : Nat) => compare_ok L[i].1 k q1 q c1 c' (w.drewN m) (hp1.pt.drewN m) (hq.drewN m) (by omega)
  have hlen := hl.1
  clear hp hq hb hp1 hl
  generalize L[i].1.length = x at d1 HS
  generalize cmp L[i].1 k = r at HS
  go_enter Try.func44, Try.ntmps44
  go_wp2_with fail
  go_quiet ((go_at_call 45; exact quiet_eq (HS.out _)))
  go_wp2_with fail
  go_ret
  exact ⟨rfl, _, rfl⟩
set_option maxRecDepth 100000 in
set_option maxHeartbeats 2000000 in
theorem find_ok {N b : Nat} {X : Nat → Prop} {v : Value} {d : Int} {L : List Rec} (k : List Nat) (q : Option Addr) (c' : Nat) (w : World) (h : Atl N w X b v d L) (hq : Pt w q k) :
    Calls Try.prog 30 #[.pointer (some ⟨b, 0, none⟩), .slice q k.length c'] w fun e w' => e = .returned (.tuple #[.int .i64 (lessN L k : Int), .bool (hasN L k)]) ∧ Below w.heap.size w w' := by
  obtain ⟨p, c, rfl, _, _⟩ := h.form
  have hl := h.big
  have hu := h.up
  obtain ⟨oa, hoa⟩ : ∃ o, o = Obj.cells #[Value.pointer (some ⟨b, 0, none⟩)] 23 := ⟨_, rfl⟩
  obtain ⟨ob, hob⟩ : ∃ o, o = Obj.cells #[Value.slice q k.length c'] 31 := ⟨_, rfl⟩
  obtain ⟨W, hW⟩ : ∃ W, W = (w.alloc oa).alloc ob := ⟨_, rfl⟩
  have hB0 : Below w.heap.size w W := by rw [hW]; exact (below_alloc w oa).alloc (below_alloc w oa).size ob
  have hA : W.cell? ⟨w.heap.size, 0, none⟩ = some (.pointer (some ⟨b, 0, none⟩)) := by rw [hW, cell_of_row _ _ _ _ _ _ ((two_new w oa ob).1.trans (by rw [hoa]))]; rfl
  have hB : W.cell? ⟨w.heap.size + 1, 0, none⟩ = some (.slice q k.length c') := by rw [hW, cell_of_row _ _ _ _ _ _ ((two_new w oa ob).2.1.trans (by rw [hob]))]; rfl
  have hPW : Rs (fun _ => False) W p L := h.rs.below hB0
  have hQW := hq.below hB0
  have hC : W.cell? ⟨b, 1, none⟩ = some (.slice p L.length c) := (h.next hB0).cells.2.1
  have HSE := hid (search_ok L.length (fun i => if h : i < L.length then decide (0 ≤ cmp L[i].1 k) else true) (.pointer (some ⟨w.heap.size, 0, none⟩)) (.pointer (some ⟨w.heap.size + 1, 0, none⟩)) W (by have := hl.1; omega)
    (fun m i hi => by
      simp only [dif_pos hi]
      exact findcl_ok L k p q c c' _ _ b i (W.drewN m) (hPW.drewN m) (hQW.drewN m) hl hi hA hC hB)
    (fun a b hab hb ha => by
      have hal : a < L.length := by omega
      simp only [dif_pos hb, dif_pos hal, decide_eq_true_eq] at ha ⊢
      by_cases e : a = b
      · subst e; exact ha
      · have h1 := List.pairwise_iff_getElem.1 hu a b hal hb (by omega)
        have h2 := cmp_flip k L[a].1
        have h3 := cmp_flip k L[b].1
        have := cmp_le_lt (a := k) (b := L[a].1) (c := L[b].1) (by omega) h1
        omega))
  have HB0 := hid hB0
  have HA := hid hA
  have HBB := hid hB
  have HCC := hid hC
  have HPW := hid hPW
  have HQW := hid hQW
  have HL := hid hl
  have hlen := hl.1
  clear h hq hl hu hB0 hA hB hPW hQW hC
  go_enter Try.func30, Try.ntmps30
  subst hoa hob
  have a1 := HA.out
  have b1 := HBB.out
  have c1 := HCC.out
  rw [hW] at a1 b1 c1
  go_wp2_with fail
  rw [← hW] at a1 b1 c1 ⊢
  clear hW
  refine HSE.out.mono ?_
  rintro e w2 ⟨r, rfl, hr, hs, m, hw2⟩
  have HS := hid hs; have HW := hid hw2; clear hs hw2
  clear HSE
  have a2 : w2.cell? ⟨w.heap.size, 0, none⟩ = some (.pointer (some ⟨b, 0, none⟩)) := by rw [HW.out]; exact HA.out
  have b2 : w2.cell? ⟨w.heap.size + 1, 0, none⟩ = some (.slice q k.length c') := by rw [HW.out]; exact HBB.out
  have c2 : w2.cell? ⟨b, 1, none⟩ = some (.slice p L.length c) := by rw [HW.out]; exact HCC.out
  have HP2 := hid (show Rs (fun _ => False) w2 p L by rw [HW.out]; exact HPW.out.drewN m)
  have HQ2 := hid (show Pt w2 q k by rw [HW.out]; exact HQW.out.drewN m)
  have HB2 := hid (show Below w.heap.size w w2 by rw [HW.out]; exact below_drewN HB0.out m)
  have HS1 : ∀ t, (h : t < L.length) → t < r → cmp L[t].1 k < 0 := fun t h ht => by
    have h1 := HS.out.1 t ht
    simp only [dif_pos h, decide_eq_false_iff_not] at h1
    omega
  have HS2 : ∀ t, (h : t < L.length) → r ≤ t → ¬ cmp L[t].1 k < 0 := fun t h ht => by
    have h1 := HS.out.2 t ht h
    simp only [dif_pos h, decide_eq_true_eq] at h1
    omega
  have HR := hid (less_of hr HS1 HS2)
  clear HS1 HS2
  clear a1 b1 c1 HS HW HA HBB HCC HPW HQW
  by_cases hlt : r < L.length
  · obtain ⟨g, off, q1, c1, rfl, _, d1, _, hp1⟩ := HP2.out.at r hlt
    have hbg := HL.out.2 _ (List.getElem_mem hlt)
    have HC := hid fun (m : Nat) => compare_ok L[r].1 k q1 q c1 c' (w2.drewN m) (hp1.pt.drewN m) (HQ2.out.drewN m) (by omega)
    have HH := hid (show hasN L k = (cmp L[r].1 k == 0) by have e := HR.out; rw [has_at (by omega), getElem_same (by omega) hlt e.symm])
    have hlt' : decide ((r : Int) < (L.length : Int)) = true := by simp; omega
    clear hbg hp1
    generalize L[r].1.length = x at d1 HC
    generalize cmp L[r].1 k = y at HC HH
    go_wp2_with fail
    go_quiet ((go_at_call 45; exact quiet_eq (HC.out _)))
    go_wp2_with fail
    go_ret2
    exact ⟨ret_two HR.out HH.out, below_drewN HB2.out _⟩
  · have HH := hid (has_none (L := L) (k := k) (by rw [← HR.out]; exact hlt))
    have hlt' : decide ((r : Int) < (L.length : Int)) = false := by simp; omega
    have hlt2 : decide (r < L.length) = false := by simpa using hlt
    go_wp2_with fail
    go_quiet (fail)
    go_wp2_with fail
    go_ret2
    exact ⟨ret_two HR.out HH.out, below_drewN HB2.out _⟩
end Go.Proofs.Ytmniaaledplhfaa.At
