/- Encode of bucket. -/
import Derived.Test.YtkjcbfdplhcjpaaBkCut
import Derived.Test.YtkjcbfdplhcjpaaBkIs
import Derived.Test.YtkjcbfdplhcjpaaFdOf
namespace Go.Proofs.Ytkjcbfdplhcjpaa.Bk
open Go.RowKit
open Go.Lib (hid)
open Go.Proofs.Ytkjcbfdplhcjpaa.Ky
open Go.Proofs.Ytkjcbfdplhcjpaa

set_option maxRecDepth 100000 in
set_option maxHeartbeats 2000000 in
theorem rises_ok {D : Nat → Prop} (L : List Rec) (p : Option Addr) (c : Nat) (w : World) (hp : Rs D w p L) (hl : bigR L) :
    Calls Try.prog 98 #[.slice p L.length c] w fun e w' => e = .returned (.bool (decide (upL L))) ∧ ∃ n, w' = w.drewN n := by
  have HP := hid hp; have HL := hid hl; have hlen0 := hl.1; clear hp hl
  go_enter Try.func98, Try.ntmps98
  go_wp2_with fail
  go_loopw [3] (fun i wr => ∃ k : Nat, 1 ≤ k ∧ (k ≤ L.length ∨ k = 1) ∧ i = .int .i64 k ∧ Hid (upTo L k) ∧ ∃ n, wr = w.drewN n) (fun i _ => L.length - (intOf i).toNat)
  case atStart => exact ⟨1, by omega, by omega, rfl, hid (fun i _ h => absurd h (by omega)), 0, rfl⟩
  case round =>
    obtain ⟨k, hk1, hk, rfl, HU, n, hwr⟩ := hrel
    have HPr := hid (show Rs D wr p L by rw [hwr]; exact HP.out.drewN n)
    have HW := hid hwr
    clear hwr HP
    by_cases hlt : k < L.length
    · obtain ⟨j, hkj⟩ : ∃ j, k = j + 1 := ⟨k - 1, by omega⟩
      have hjl : j < L.length := by omega
      obtain ⟨b, off, q1, c1, rfl, _, d1, _, hp1⟩ := HPr.out.at j hjl
      obtain ⟨b2, off2, q2, c2, e2, _, d3, _, hp2⟩ := HPr.out.at k hlt
      cases e2
      have hb := HL.out.2 _ (List.getElem_mem hjl)
      have HS := hid fun (m : Nat) => compare_ok L[j].1 L[k].1 q1 q2 c1 c2 (wr.drewN m) (hp1.pt.drewN m) (hp2.pt.drewN m) (by omega)
      have ej : (k : Int) - 1 = (j : Int) := by omega
      have ew : IntKind.i64.wrap ((k : Int) - 1) = (j : Int) := by rw [ej]; exact Go.IntWalk.i64_in _ (by omega)
      have ew2 : IntKind.i64.wrap (j : Int) = (j : Int) := Go.IntWalk.i64_in _ (by omega)
      by_cases hc : cmp L[j].1 L[k].1 < 0
      · have hge : decide ((0 : Int) ≤ cmp L[j].1 L[k].1) = false := by simp; omega
        have HN := hid (upTo_succ HU.out (by omega) hlt (by subst hkj; exact hc))
        clear hb hp1 hp2 hc hkj
        generalize L[j].1.length = x1 at d1 HS
        generalize L[k].1.length = x2 at d3 HS
        generalize cmp L[j].1 L[k].1 = r at HS hge
        go_wp2_with fail
        go_quiet ((go_at_call 89; exact quiet_eq (HS.out _)))
        go_wp2_with fail
        go_roundw
        case rel => exact ⟨k + 1, by omega, by omega, by go_num, HN, _, by rw [HW.out]; exact World.drewN_drewN _ _ _⟩
        case measure => simp [intOf]; omega
      · have hge : decide ((0 : Int) ≤ cmp L[j].1 L[k].1) = true := by simp; omega
        have HN := hid (show decide (upL L) = false by subst hkj; exact decide_eq_false (fun hu => hc (List.pairwise_iff_getElem.1 hu j (j + 1) (by omega) hlt (by omega))))
        clear hb hp1 hp2 hc hkj
        generalize L[j].1.length = x1 at d1 HS
        generalize L[k].1.length = x2 at d3 HS
        generalize cmp L[j].1 L[k].1 = r at HS hge
        go_wp2_with fail
        go_quiet ((go_at_call 89; exact quiet_eq (HS.out _)))
        go_wp2_with fail
        go_ret
        rw [HN.out]
        exact ⟨rfl, _, by rw [HW.out]; exact World.drewN_drewN _ _ _⟩
    · have HN := hid (show decide (upL L) = true from decide_eq_true (upTo_all (fun i h hi => HU.out i h (by omega))))
      go_wp2_with fail
      go_ret
      rw [HN.out]
      exact ⟨rfl, n, HW.out⟩
/-- a bucket's bytes -/
def encK (k : List Nat) : List UInt8 := k.flatMap (Fd.be 4)
def encR (r : Rec) : List UInt8 := encK r.1 ++ (Fd.be 1 r.2.size ++ r.2.data.toList)
def encL (L : List Rec) : List UInt8 := Fd.be 1 L.length ++ L.flatMap encR
theorem encK_length (k : List Nat) : (encK k).length = 4 * k.length := by
  induction k with
  | nil => rfl
  | cons a l ih => unfold encK at *; simp only [List.flatMap_cons, List.length_append, Fd.be_length, List.length_cons, ih]; omega
theorem encR_length (r : Rec) : (encR r).length = 4 * r.1.length + 1 + r.2.size := by
  unfold encR
  rw [List.length_append, List.length_append, encK_length, Fd.be_length, Fd.size_list]; omega
theorem encL_length (L : List Rec) : (encL L).length = sizeR L := by
  have : (L.flatMap encR).length = (L.map fun r => 4 * r.1.length + 1 + r.2.size).sum := by
    induction L with
    | nil => rfl
    | cons a l ih => simp only [List.flatMap_cons, List.length_append, List.map_cons, List.sum_cons, ih, encR_length]
  unfold encL sizeR
  rw [List.length_append, Fd.be_length, this]
/-- the blocks of a writer that turn -/
def K2 (G B : Nat) : Nat → Prop := fun b => b = G ∨ b = B
/-- a writer at G, its area at A, B; P is written, S bytes in all -/
structure Wr (w : World) (N G A B : Nat) (P : List UInt8) (S : Nat) : Prop where
  box : w.heap[G]? = some (.cells #[.pointer (some ⟨A, 0, none⟩), .int .i64 (P.length : Int)] 126 (0, 0))
  area : Fd.Area 138 w A B (P ++ List.replicate (S - P.length) 0)
  le : P.length ≤ S
  ge : N ≤ G ∧ N ≤ A ∧ N ≤ B
  ne : G ≠ A ∧ G ≠ B
/-- what has turned since: below N nothing, and of the rest G and B alone -/
structure Wu (N G B : Nat) (w w' : World) : Prop where
  below : Below N w w'
  keep : Keep (K2 G B) w w'
theorem Wu.refl (N G B : Nat) (w : World) : Wu N G B w w := ⟨Below.refl _ _, Nat.le_refl _, fun _ _ _ => rfl⟩
theorem Wu.trans {N G B : Nat} {w w1 w2 : World} (h : Wu N G B w w1) (g : Wu N G B w1 w2) : Wu N G B w w2 :=
  ⟨h.below.trans g.below, Nat.le_trans h.keep.size g.keep.size, fun k hk hD => by rw [g.keep.block k (Nat.lt_of_lt_of_le hk h.keep.size) hD, h.keep.block k hk hD]⟩
theorem Wu.of_below {N G B : Nat} {w w' : World} (h : Below w.heap.size w w') (hN : N ≤ w.heap.size) : Wu N G B w w' := ⟨h.mono hN, .below h⟩
theorem Wu.of_drew {N G B : Nat} {w w' : World} (h : Wu N G B w.drew w') : Wu N G B w w' := ⟨⟨h.below.os, h.below.tape, h.below.output, h.below.size, h.below.block⟩, h.keep.size, h.keep.block⟩
theorem upd_keep {G B : Nat} {l : List UInt8} {w w' : World} (h : Fd.Upd B l w w') : Keep (K2 G B) w w' := ⟨h.size, fun k hk hD => h.block k hk (fun e => hD (.inr e))⟩
theorem Wr.below {w w' : World} {N G A B : Nat} {P : List UInt8} {S : Nat} (h : Wr w N G A B P S) (hb : Below w.heap.size w w') : Wr w' N G A B P S :=
  ⟨(hb.block _ (Array.getElem?_eq_some_iff.1 h.box).1).trans h.box, h.area.below hb, h.le, h.ge, h.ne⟩
theorem Wr.drew {w : World} {N G A B : Nat} {P : List UInt8} {S : Nat} (h : Wr w N G A B P S) : Wr w.drew N G A B P S := h.below (Below.refl _ _).drew
theorem Wr.cells {w : World} {N G A B : Nat} {P : List UInt8} {S : Nat} (h : Wr w N G A B P S) : w.cell? ⟨G, 0, none⟩ = some (.pointer (some ⟨A, 0, none⟩)) ∧ w.cell? ⟨G, 1, none⟩ = some (.int .i64 (P.length : Int)) ∧ w.frozen? ⟨G, 1, none⟩ = false :=
  ⟨by rw [cell_of_row _ _ _ _ _ _ h.box]; rfl, by rw [cell_of_row _ _ _ _ _ _ h.box]; rfl, frozen_of_row _ _ _ _ _ h.box⟩
theorem put_front (P T : List UInt8) (S : Nat) (h : P.length + T.length ≤ S) : Fd.putAt (P ++ List.replicate (S - P.length) 0) P.length T = (P ++ T) ++ List.replicate (S - (P ++ T).length) 0 := by
  unfold Fd.putAt
  rw [List.take_left, List.drop_append, List.drop_eq_nil_of_le (by omega), List.nil_append, List.drop_replicate, List.length_append]
  congr 2; omega
/-- the area is written, and the place goes on -/
theorem Wr.put {w w' : World} {N G A B : Nat} {P T : List UInt8} {S : Nat} (h : Wr w N G A B P S) (_ : N ≤ w.heap.size) (hs : P.length + T.length ≤ S) (hu : Fd.Upd B (Fd.putAt (P ++ List.replicate (S - P.length) 0) P.length T) w w') :
    Wr (w'.setCell ⟨G, 1, none⟩ (.int .i64 ((P.length : Int) + (T.length : Int)))) N G A B (P ++ T) S ∧ Wu N G B w (w'.setCell ⟨G, 1, none⟩ (.int .i64 ((P.length : Int) + (T.length : Int)))) ∧ w'.cell? ⟨G, 0, none⟩ = some (.pointer (some ⟨A, 0, none⟩)) ∧ w'.cell? ⟨G, 1, none⟩ = some (.int .i64 (P.length : Int)) ∧ w'.frozen? ⟨G, 1, none⟩ = false := by
  rw [put_front P T S hs] at hu
  have hGl := (Array.getElem?_eq_some_iff.1 h.box).1
  have hbox : w'.heap[G]? = some (.cells #[.pointer (some ⟨A, 0, none⟩), .int .i64 (P.length : Int)] 126 (0, 0)) := (hu.block G hGl h.ne.2).trans h.box
  have hlen : ((P ++ T) ++ List.replicate (S - (P ++ T).length) 0).length = (P ++ List.replicate (S - P.length) 0).length := by simp; have := h.le; omega
  have ha := h.area.upd hu hlen
  refine ⟨⟨?_, ?_, by simp; omega, h.ge, h.ne⟩, ⟨⟨hu.os, hu.tape, hu.output, by rw [World.size_setCell]; exact hu.size, fun k hk => ?_⟩, by rw [World.size_setCell]; exact hu.size, fun k hk hD => ?_⟩, by rw [cell_of_row _ _ _ _ _ _ hbox]; rfl, by rw [cell_of_row _ _ _ _ _ _ hbox]; rfl, frozen_of_row _ _ _ _ _ hbox⟩
  · rw [heap_setCell_same _ _ _ _ _ _ hbox, List.length_append]; simp
  · refine ⟨?_, ?_, ha.ne, ha.len⟩
    · rw [heap_setCell_other _ _ _ _ (Ne.symm h.ne.1)]; exact ha.ptr
    · unfold Fd.Row; rw [heap_setCell_other _ _ _ _ (Ne.symm h.ne.2)]; exact ha.row
  · have h1 := h.ge
    rw [heap_setCell_other _ _ _ _ (show k ≠ G by omega), hu.block k (by omega) (by omega)]
  · have h1 : k ≠ G := fun e => hD (.inl e)
    have h2 : k ≠ B := fun e => hD (.inr e)
    rw [heap_setCell_other _ _ _ _ h1, hu.block k hk h2]
set_option maxRecDepth 100000 in
set_option maxHeartbeats 2000000 in
theorem wnumber_ok (wd n : Nat) (w : World) {N G A B : Nat} {P : List UInt8} {S : Nat} (h : Wr w N G A B P S) (hN : N ≤ w.heap.size) (hwd : wd = 1 ∨ wd = 4) (hn : n < 256 ^ wd) (hs : P.length + wd ≤ S) :
    Calls Try.prog 101 #[.pointer (some ⟨G, 0, none⟩), .int .i64 (wd : Int), .int .u32 (n : Int)] w fun e w' => e = .returned (.tuple #[]) ∧ Wr w' N G A B (P ++ Fd.be wd n) S ∧ Wu N G B w w' := by
  have HW := hid h
  have hS := h.area.len
  rw [List.length_append, List.length_replicate] at hS
  have hle := h.le
  have HP := hid fun (w' : World) (h' : Wr w' N G A B P S) => (show Calls Try.prog 115 #[.pointer (some ⟨A, 0, none⟩), .int .i64 (P.length : Int), .int .i64 (wd : Int), .int .u32 (n : Int)] w' fun e w2 => e = .returned (.int .i64 0) ∧ Fd.Upd B (Fd.putAt (P ++ List.replicate (S - P.length) 0) P.length (Fd.be wd n)) w' w2 by
    rcases hwd with rfl | rfl
    · exact Fd.put_1 A B _ P.length n w' h'.area (by simp; omega) hn
    · exact Fd.put_4 A B _ P.length n w' h'.area (by simp; omega) hn)
  have HPUT := hid fun (w2 : World) (hu : Fd.Upd B (Fd.putAt (P ++ List.replicate (S - P.length) 0) P.length (Fd.be wd n)) w.drew w2) => h.drew.put (T := Fd.be wd n) hN (by rw [Fd.be_length]; exact hs) hu
  have HBL := hid (Fd.be_length wd n)
  obtain ⟨c0, c1, _⟩ := h.cells
  have hwd4 : wd ≤ 4 := by omega
  clear h hwd hn
  generalize P.length = a at *
  go_enter Try.func101, Try.ntmps101
  go_wp2_with fail
  go_still_tail 10, (by kernel_rfl)
  change wpList _ _ _ _ _ w.drew
  clear c0 c1
  have HW2 := hid HW.out.drew
  go_wp2_with (go_at_call 115; refine (HP.out _ HW2.out).mono ?_; rintro e w2 ⟨rfl, hu⟩; have h5 := HPUT.out w2 hu; rw [HBL.out] at h5; obtain ⟨h51, h52, d0, d1, d2⟩ := h5; have H5 := hid (And.intro h51 h52); clear h51 h52 hu)
  refine bodyPost_end (v := .tuple #[]) (by simp [results, Try.results101, go_sem]) rfl ⟨rfl, ?_⟩
  exact ⟨H5.out.1, H5.out.2.of_drew⟩
theorem encK_take (x : List Nat) (j : Nat) (h : j < x.length) : encK (x.take (j + 1)) = encK (x.take j) ++ Fd.be 4 x[j] := by
  unfold encK; rw [List.take_succ_eq_append_getElem h, List.flatMap_append]; simp
set_option maxRecDepth 100000 in
set_option maxHeartbeats 4000000 in
theorem wrecord_ok (x : List Nat) (t : ByteArray) (q : Option Addr) (c : Nat) (w : World) {N G A B : Nat} {P : List UInt8} {S : Nat} (h : Wr w N G A B P S) (hN : N ≤ w.heap.size) (hq : PtD (K2 G B) w q x) (hx : x.length ≤ 1000) (ht : t.size < 256) (hs : P.length + (4 * x.length + 1 + t.size) ≤ S) :
    Calls Try.prog 102 #[.pointer (some ⟨G, 0, none⟩), .agg #[.slice q x.length c, .string t]] w fun e w' => e = .returned (.tuple #[]) ∧ Wr w' N G A B (P ++ encR (x, t)) S ∧ Wu N G B w w' := by
  obtain ⟨W, hW⟩ : ∃ W, W = w.alloc (.cells #[.slice q x.length c, .string t] 33) := ⟨_, rfl⟩
  have hS := h.area.len
  rw [List.length_append, List.length_replicate] at hS
  have hle := h.le
  have hbW : Below w.heap.size w W := by rw [hW]; exact below_alloc w _
  have hA0 : W.heap[w.heap.size]? = some (.cells #[.slice q x.length c, .string t] 33) := by rw [hW]; exact heap_alloc_new _ _
  have hgk : ¬ K2 G B w.heap.size := by
    have h1 := (Array.getElem?_eq_some_iff.1 h.box).1
    have h2 := h.area.row.lt
    unfold K2; omega
  have HA := hid fun (w' : World) (hk : Keep (K2 G B) W w') => two_cells ((hk.block w.heap.size (by rw [hW]; simp) hgk).trans hA0)
  have HW := hid (h.below hbW)
  have HU := hid (Wu.of_below (N := N) (G := G) (B := B) hbW hN)
  have HNW := hid (Nat.le_trans hN hbW.size)
  have HQ := hid (hq.keep (.below (D := K2 G B) hbW))
  have HXS := hid hs
  have HKL := hid fun (j : Nat) => encK_length (x.take j)
  clear h hq hbW hA0 hgk
  go_enter Try.func102, Try.ntmps102
  go_wp2_with fail
  rw [← hW]
  clear hW
  go_loopw [9] (fun i wr => ∃ j : Nat, j ≤ x.length ∧ i = .int .i64 j ∧ Wr wr N G A B (P ++ encK (x.take j)) S ∧ Wu N G B W wr) (fun i _ => x.length - (intOf i).toNat)
  case atStart => exact ⟨0, by omega, rfl, by simpa [encK] using HW.out, Wu.refl _ _ _ _⟩
  case round =>
    obtain ⟨j, hj, rfl, hw, hu⟩ := hrel
    have HR := hid hw; have HUR := hid hu; clear hw hu
    by_cases hlt : j < x.length
    · obtain ⟨b, off, rfl, _, _, d1⟩ := (HQ.out.keep HUR.out.keep).cells j hlt
      have hf := HQ.out.fit j hlt
      have HNM := hid (wnumber_ok 4 x[j] wr HR.out (Nat.le_trans HNW.out HUR.out.keep.size) (.inr rfl) (by omega) (by have h1 := HKL.out j; have h2 := HXS.out; rw [List.length_take] at h1; rw [List.length_append, h1]; omega))
      rw [List.append_assoc, ← encK_take x j hlt] at HNM
      clear hf
      generalize x[j] = y at d1 HNM
      go_wp2_with (go_at_call 101; refine HNM.out.mono ?_; rintro e w2 ⟨rfl, h1, h2⟩; have HR2 := hid h1; have HU2 := hid (HUR.out.trans h2); clear h1 h2)
      go_roundw
      case rel => exact ⟨j + 1, by omega, by go_num, HR2.out, HU2.out⟩
      case measure => simp [intOf]; omega
    · obtain rfl : j = x.length := by omega
      have HRX := hid (show Wr wr N G A B (P ++ encK x) S by have := HR.out; rw [List.take_length] at this; exact this)
      have HEK := hid (encK_length x)
      have a0 := HA.out _ HUR.out.keep
      have HNM := hid (wnumber_ok 1 t.size wr HRX.out (Nat.le_trans HNW.out HUR.out.keep.size) (.inl rfl) (by omega) (by have h2 := HXS.out; rw [List.length_append, HEK.out]; omega))
      have HU0 := hid (fun (w' : World) (h : Wu N G B W w') => HA.out _ h.keep)
      obtain ⟨PP, hPP⟩ : ∃ PP, P ++ encK x ++ Fd.be 1 t.size = PP := ⟨_, rfl⟩
      have hPL : PP.length + t.size ≤ S := by have h2 := HXS.out; rw [← hPP, List.length_append, List.length_append, HEK.out, Fd.be_length]; omega
      have HPP := hid (show PP ++ t.data.toList = P ++ encR (x, t) by rw [← hPP]; unfold encR; simp only [List.append_assoc])
      rw [hPP] at HNM
      have HTX := hid fun (w' : World) (h' : Wr w' N G A B PP S) => Fd.putText_ok A B _ PP.length t w' h'.area (by simp; omega)
      have HPX := hid fun (w2 w3 : World) (h' : Wr w2 N G A B PP S) (hN : N ≤ w2.heap.size) (hu : Fd.Upd B (Fd.putAt (PP ++ List.replicate (S - PP.length) 0) PP.length t.data.toList) w2 w3) => h'.put (T := t.data.toList) hN (by rw [Fd.size_list]; exact hPL) hu
      have HSL := hid (Fd.size_list t)
      clear HR HKL hPP
      go_wp2_with (go_at_call 101; refine HNM.out.mono ?_; rintro e w2 ⟨rfl, h1, h2⟩; have HR2 := hid h1; have HU2 := hid (HUR.out.trans h2); have a2 := HU0.out _ HU2.out; have g2 := HR2.out.cells; clear h1 h2)
      obtain ⟨a20, a21, _⟩ := a2
      obtain ⟨g20, g21, _⟩ := g2
      go_still_tail 10, (by kernel_rfl)
      change wpList _ _ _ _ _ w2.drew
      clear a0 a20 a21 g20 g21
      have HR3 := hid HR2.out.drew
      go_wp2_with (go_at_call 116; refine (HTX.out _ HR3.out).mono ?_; rintro e w3 ⟨rfl, hu⟩; have HU3 := hid hu; clear hu)
      obtain ⟨h51, h52, d0, d1, d2⟩ := HPX.out w2.drew w3.drew HR3.out (Nat.le_trans HNW.out HU2.out.keep.size) HU3.out.drew
      rw [HSL.out] at h51 h52
      have a3 := HA.out w3.drew ⟨Nat.le_trans HU2.out.keep.size HU3.out.size, fun k hk hD => ((upd_keep HU3.out).block k (Nat.lt_of_lt_of_le hk HU2.out.keep.size) hD).trans (HU2.out.keep.block k hk hD)⟩
      have H5 := hid (And.intro h51 h52)
      clear h51 h52
      obtain ⟨a30, a31, _⟩ := a3
      have c0 : w3.cell? ⟨w.heap.size, 0, none⟩ = some (.slice q x.length c) := a30
      have c1 : w3.cell? ⟨w.heap.size, 1, none⟩ = some (.string t) := a31
      have c2 : w3.cell? ⟨G, 0, none⟩ = some (.pointer (some ⟨A, 0, none⟩)) := d0
      have c3 : w3.cell? ⟨G, 1, none⟩ = some (.int .i64 (PP.length : Int)) := d1
      have c4 : w3.frozen? ⟨G, 1, none⟩ = false := d2
      clear a30 a31 d0 d1 d2
      go_still_tail 10, (by kernel_rfl)
      change wpList _ _ _ _ _ w3.drew
      go_wp2_with fail
      refine bodyPost_end (v := .tuple #[]) (by simp [results, Try.results102, go_sem]) rfl ⟨rfl, ?_⟩
      refine ⟨HPP.out ▸ H5.out.1, ?_⟩
      exact (HU.out.trans HU2.out).trans H5.out.2.of_drew
end Go.Proofs.Ytkjcbfdplhcjpaa.Bk
