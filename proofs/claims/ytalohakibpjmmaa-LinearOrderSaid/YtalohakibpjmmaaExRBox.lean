/- The reference's Box of layer 16. -/
import Derived.Test.YtalohakibpjmmaaExBox
import Derived.Test.YtalohakibpjmmaaPtHalf4
namespace Go.Proofs.Ytalohakibpjmmaa.Ex
open Go.RowKit
open Go.Lib (hid)
open Go.Proofs.Ytalohakibpjmmaa.Ky
open Go.Proofs.Ytalohakibpjmmaa.Pt
open Go.Proofs.Ytalohakibpjmmaa.Bk

theorem refHalves_cell {n d a : Nat} (hn : 1 ≤ n ∧ n ≤ 6) (hd : d < 32) {p q : Option Addr} (c c' : Nat) (V : World) (g : Pt V p (cell n d a).1) (g' : Pt V q (cell n d a).2) :
    Calls Try.prog 46 #[.agg #[.slice p n c, .slice q n c'], .int .i64 ((d % n : Nat) : Int)] V fun e w' => ∃ p1 c1 p2 c2 p3 c3 p4 c4, e = .returned (.tuple #[.agg #[.slice p1 n c1, .slice p2 n c2], .agg #[.slice p3 n c3, .slice p4 n c4], .bool true]) ∧
      Pt w' p1 (cell n (d + 1) (2 * a)).1 ∧ Pt w' p2 (cell n (d + 1) (2 * a)).2 ∧ Pt w' p3 (cell n (d + 1) (2 * a + 1)).1 ∧ Pt w' p4 (cell n (d + 1) (2 * a + 1)).2 ∧ Below V.heap.size V w' := by
  have f0 := cell_fit hn d a (by omega)
  have f1 := cell_fit hn (d + 1) (2 * a) (by omega)
  have f2 := cell_fit hn (d + 1) (2 * a + 1) (by omega)
  obtain ⟨k1, k2⟩ := cell_two n d a
  have hb := cell_half hn d a hd
  have HH := refHalves_ok (cell n d a).1 (cell n d a).2 p q c c' ((d % n : Nat) : Int) V g g' (by rw [f0.1]; omega)
  unfold HalfPost at HH
  rw [hb, show xlo (cell n d a).1 (cell n d a).2 ((d % n : Nat) : Int) = (cell n (d + 1) (2 * a)).1 by rw [k1], show xhi (cell n d a).1 (cell n d a).2 ((d % n : Nat) : Int) = (cell n (d + 1) (2 * a)).2 by rw [k1], show ylo (cell n d a).1 (cell n d a).2 ((d % n : Nat) : Int) = (cell n (d + 1) (2 * a + 1)).1 by rw [k2], show yhi (cell n d a).1 (cell n d a).2 ((d % n : Nat) : Int) = (cell n (d + 1) (2 * a + 1)).2 by rw [k2], f0.1, f0.2, f1.1, f1.2, f2.1, f2.2] at HH
  exact HH
theorem Pt.all {w : World} {p : Option Addr} {l : List Nat} (h : Pt w p l) : PtD (fun k => k < 0) w p l := ⟨fun j hj => by
  obtain ⟨b, off, h1, h2, h3⟩ := h.cells j hj
  exact ⟨b, off, h1, h2, by omega, h3⟩, h.fit⟩
def HalvedC (N n : Nat) (W : World) (x y : List Nat × List Nat) (s s' : Value) (V : World) : Prop :=
  ∃ g g' p1 c1 p2 c2 p3 c3 p4 c4, s = .pointer (some ⟨g, 0, none⟩) ∧ s' = .pointer (some ⟨g', 0, none⟩) ∧ V.heap[g]? = some (.cells #[.slice p1 n c1, .slice p2 n c2] 32 (0, 0)) ∧ V.heap[g']? = some (.cells #[.slice p3 n c3, .slice p4 n c4] 32 (0, 0)) ∧ (N ≤ g ∧ N ≤ g') ∧ Fours 0 V p1 p2 p3 p4 x y ∧ Below N W V
/-- how far the making of two boxes is: the call (f), the boxes (f6, f7), their values (h6, h7) -/
structure TC (N n : Nat) (W : World) (x y : List Nat × List Nat) (f f6 f7 h6 h7 : Bool) (p1 p2 p3 p4 : Option Addr) (c1 c2 c3 c4 g6 g7 : Nat) (V : World) : Prop where
  below : Below N W V
  le : N ≤ V.heap.size
  four : f = true → Fours 0 V p1 p2 p3 p4 x y
  k6 : f6 = true → N ≤ g6 ∧ V.heap[g6]? = some (.cells (if h6 then #[.slice p1 n c1, .slice p2 n c2] else #[Value.slice none 0 0, .slice none 0 0]) 32 (0, 0))
  k7 : f7 = true → N ≤ g7 ∧ V.heap[g7]? = some (.cells (if h7 then #[.slice p3 n c3, .slice p4 n c4] else #[Value.slice none 0 0, .slice none 0 0]) 32 (0, 0))
  ne : f6 = true → f7 = true → g6 ≠ g7
section
variable {N n : Nat} {W : World} {x y : List Nat × List Nat} {f f6 f7 h6 h7 : Bool} {p1 p2 p3 p4 : Option Addr} {c1 c2 c3 c4 g6 g7 : Nat} {V : World}
theorem TC.start (n : Nat) (W : World) (x y : List Nat × List Nat) : TC W.heap.size n W x y false false false false false none none none none 0 0 0 0 0 0 W.drew :=
  ⟨(Below.refl _ _).drew, Nat.le_refl _, nofun, nofun, nofun, nofun⟩
theorem TC.call (h : TC N n W x y false f6 f7 false false p1 p2 p3 p4 c1 c2 c3 c4 g6 g7 V) {w9 : World} {q1 q2 q3 q4 : Option Addr} (d1 d2 d3 d4 : Nat) (hf : Fours 0 w9 q1 q2 q3 q4 x y) (hb : Below V.heap.size V w9) : TC N n W x y true f6 f7 false false q1 q2 q3 q4 d1 d2 d3 d4 g6 g7 w9 :=
  ⟨h.below.trans (hb.mono h.le), Nat.le_trans h.le hb.size, fun _ => hf, fun e => ⟨(h.k6 e).1, (hb.block _ (lt_of (h.k6 e).2)).trans (h.k6 e).2⟩, fun e => ⟨(h.k7 e).1, (hb.block _ (lt_of (h.k7 e).2)).trans (h.k7 e).2⟩, h.ne⟩
theorem TC.al6 (h : TC N n W x y f false f7 false false p1 p2 p3 p4 c1 c2 c3 c4 g6 g7 V) : TC N n W x y f true f7 false false p1 p2 p3 p4 c1 c2 c3 c4 V.heap.size g7 (V.alloc (.cells #[Value.slice none 0 0, .slice none 0 0] 32)) := by
  have hb := below_alloc V (.cells #[Value.slice none 0 0, .slice none 0 0] 32)
  exact ⟨h.below.trans (hb.mono h.le), Nat.le_trans h.le hb.size, fun e => (h.four e).below hb, fun _ => ⟨h.le, heap_alloc_new _ _⟩, fun e => ⟨(h.k7 e).1, (hb.block _ (lt_of (h.k7 e).2)).trans (h.k7 e).2⟩, fun _ e => by have := lt_of (h.k7 e).2; omega⟩
theorem TC.al7 (h : TC N n W x y f f6 false false false p1 p2 p3 p4 c1 c2 c3 c4 g6 g7 V) : TC N n W x y f f6 true false false p1 p2 p3 p4 c1 c2 c3 c4 g6 V.heap.size (V.alloc (.cells #[Value.slice none 0 0, .slice none 0 0] 32)) := by
  have hb := below_alloc V (.cells #[Value.slice none 0 0, .slice none 0 0] 32)
  exact ⟨h.below.trans (hb.mono h.le), Nat.le_trans h.le hb.size, fun e => (h.four e).below hb, fun e => ⟨(h.k6 e).1, (hb.block _ (lt_of (h.k6 e).2)).trans (h.k6 e).2⟩, fun _ => ⟨h.le, heap_alloc_new _ _⟩, fun e _ => by have := lt_of (h.k6 e).2; omega⟩
theorem TC.zero6 (h : TC N n W x y true true true false false p1 p2 p3 p4 c1 c2 c3 c4 g6 g7 V) : V.cell? ⟨g6, 0, none⟩ = some (.slice none 0 0) ∧ V.cell? ⟨g6, 1, none⟩ = some (.slice none 0 0) ∧ V.frozen? ⟨g6, 0, none⟩ = false ∧ V.frozen? ⟨g6, 1, none⟩ = false := zero_cells (h.k6 rfl).2
theorem TC.zero7 (h : TC N n W x y true true true true false p1 p2 p3 p4 c1 c2 c3 c4 g6 g7 V) : V.cell? ⟨g7, 0, none⟩ = some (.slice none 0 0) ∧ V.cell? ⟨g7, 1, none⟩ = some (.slice none 0 0) ∧ V.frozen? ⟨g7, 0, none⟩ = false ∧ V.frozen? ⟨g7, 1, none⟩ = false := zero_cells (h.k7 rfl).2
theorem TC.st6 (h : TC N n W x y true true true false false p1 p2 p3 p4 c1 c2 c3 c4 g6 g7 V) : TC N n W x y true true true true false p1 p2 p3 p4 c1 c2 c3 c4 g6 g7 ((V.setCell ⟨g6, 0, none⟩ (.slice p1 n c1)).setCell ⟨g6, 1, none⟩ (.slice p2 n c2)) :=
  ⟨(h.below.setCell (p := ⟨g6, 0, none⟩) (h.k6 rfl).1 _).setCell (p := ⟨g6, 1, none⟩) (h.k6 rfl).1 _, by rw [World.size_setCell, World.size_setCell]; exact h.le, fun _ => (h.four rfl).set (h.k6 rfl).2, fun _ => ⟨(h.k6 rfl).1, zero_two (h.k6 rfl).2 _ _⟩, fun _ => ⟨(h.k7 rfl).1, other_two (h.k7 rfl).2 (fun e => h.ne rfl rfl e.symm) _ _⟩, h.ne⟩
theorem TC.st7 (h : TC N n W x y true true true true false p1 p2 p3 p4 c1 c2 c3 c4 g6 g7 V) : TC N n W x y true true true true true p1 p2 p3 p4 c1 c2 c3 c4 g6 g7 ((V.setCell ⟨g7, 0, none⟩ (.slice p3 n c3)).setCell ⟨g7, 1, none⟩ (.slice p4 n c4)) :=
  ⟨(h.below.setCell (p := ⟨g7, 0, none⟩) (h.k7 rfl).1 _).setCell (p := ⟨g7, 1, none⟩) (h.k7 rfl).1 _, by rw [World.size_setCell, World.size_setCell]; exact h.le, fun _ => (h.four rfl).set (h.k7 rfl).2, fun _ => ⟨(h.k6 rfl).1, other_two (h.k6 rfl).2 (h.ne rfl rfl) _ _⟩, fun _ => ⟨(h.k7 rfl).1, zero_two (h.k7 rfl).2 _ _⟩, h.ne⟩
theorem TC.fin (h : TC N n W x y true true true true true p1 p2 p3 p4 c1 c2 c3 c4 g6 g7 V) : HalvedC N n W x y (.pointer (some ⟨g6, 0, none⟩)) (.pointer (some ⟨g7, 0, none⟩)) V :=
  ⟨g6, g7, p1, c1, p2, c2, p3, c3, p4, c4, rfl, rfl, (h.k6 rfl).2, (h.k7 rfl).2, ⟨(h.k6 rfl).1, (h.k7 rfl).1⟩, h.four rfl, h.below⟩
end
theorem br_again {n : Nat} {W V : World} {g : Nat} {p q p' q' : Option Addr} {c c' k k' : Nat} {l h : List Nat} (hb : Below g W V) (hG : V.heap[g]? = some (.cells #[.slice p n c, .slice q n c'] 32)) (h1 : Pt V p' l) (h2 : Pt V q' h) :
    (((V.setCell ⟨g, 0, none⟩ (.slice p' n k)).setCell ⟨g, 1, none⟩ (.slice q' n k')).heap[g]? = some (.cells #[.slice p' n k, .slice q' n k'] 32)) ∧ (Pt ((V.setCell ⟨g, 0, none⟩ (.slice p' n k)).setCell ⟨g, 1, none⟩ (.slice q' n k')) p' l ∧ Pt ((V.setCell ⟨g, 0, none⟩ (.slice p' n k)).setCell ⟨g, 1, none⟩ (.slice q' n k')) q' h) ∧ Below g W ((V.setCell ⟨g, 0, none⟩ (.slice p' n k)).setCell ⟨g, 1, none⟩ (.slice q' n k')) :=
  ⟨two_set hG _ _, ⟨pt_off2 h1 hG, pt_off2 h2 hG⟩, (hb.setCell (p := ⟨g, 0, none⟩) (Nat.le_refl _) _).setCell (p := ⟨g, 1, none⟩) (Nat.le_refl _) _⟩
set_option maxRecDepth 100000 in
set_option maxHeartbeats 4000000 in
theorem refBox_yes {n D A : Nat} (hn : 1 ≤ n ∧ n ≤ 6) (hD : D ≤ 12) (hA : A < 2 ^ D) (w : World) :
    Calls Try.prog 32 #[.int .i64 (n : Int), .int .i64 (D : Int), .int .i64 (A : Int)] w (CellPost w n (cell n D A)) := by
  have HC := hid (refIs_ok (D : Int) (A : Int) (w.alloc (.cells #[Value.slice none 0 0, .slice none 0 0] 32)))
  rw [show hasA (D : Int) (A : Int) = true from hasA_iff.2 ⟨D, A, rfl, hD, rfl, hA⟩] at HC
  have HWH := hid fun (V : World) => refWhole_ok (n : Int) V
  unfold OneBox at HWH
  rw [show wholeLo (n : Int) = lowW n by unfold wholeLo; rw [if_pos (by omega), Int.toNat_natCast], show wholeHi (n : Int) = highW n by unfold wholeHi; rw [if_pos (by omega), Int.toNat_natCast], show (lowW n).length = n by simp [lowW], show (highW n).length = n by simp [highW]] at HWH
  have HZ := hid (heap_alloc_new w (.cells #[Value.slice none 0 0, .slice none 0 0] 32))
  have HB0 := hid (below_alloc w (.cells #[Value.slice none 0 0, .slice none 0 0] 32))
  have HS0 : Hid ((w.alloc (.cells #[Value.slice none 0 0, .slice none 0 0] 32)).heap.size = w.heap.size + 1) := hid (by simp)
  have hP := pow_12 hD
  have HN := hid hn; have HD := hid hD; have HA := hid (show A < 4096 by omega)
  have d1 : decide ((n : Int) < 1) = false := by simp; omega
  have d2 : decide ((6 : Int) < (n : Int)) = false := by simp; omega
  have d3 : decide (6 < n) = false := by simp; omega
  have d4 : decide (n < 1) = false := by simp; omega
  clear hn hA hP
  go_enter Try.func32, Try.ntmps32
  go_wp2_with fail
  refine HC.out.mono ?_
  rintro e w1 ⟨rfl, rfl⟩
  go_wp2_with fail
  refine (HWH.out _).mono ?_
  rintro e w3 ⟨P, c1, Q, c2, rfl, q1, q2, hb⟩
  have HB3 := hid (HB0.out.trans (hb.mono HB0.out.size))
  have HZ3 := hid ((hb.block w.heap.size (by rw [HS0.out]; omega)).trans HZ.out)
  have HS3 := hid (show w.heap.size + 1 ≤ w3.heap.size by rw [← HS0.out]; exact hb.size)
  obtain ⟨W, hW⟩ : ∃ W, w3.alloc (.cells #[Value.slice P n c1, .slice Q n c2] 32) = W := ⟨_, rfl⟩
  have HG := hid (show W.heap[w3.heap.size]? = some (.cells #[Value.slice P n c1, .slice Q n c2] 32) by rw [← hW]; exact heap_alloc_new _ _)
  have HP := hid (show Pt W P (lowW n) by rw [← hW]; exact q1.alloc _)
  have HQ := hid (show Pt W Q (highW n) by rw [← hW]; exact q2.alloc _)
  have HSW := hid (show W.heap.size = w3.heap.size + 1 by rw [← hW]; simp)
  have HBW := hid (show Below w3.heap.size w3 W by rw [← hW]; exact below_alloc _ _)
  clear hb q1 q2 d1 d2 d3 d4 HC HWH HZ HB0
  go_wp2_with fail
  clear hW
  go_loopw [9] (fun s wr => BR n D A W w3.heap.size s wr) (fun s _ => D - (intOf s).toNat)
  case atStart => exact ⟨0, P, Q, c1, c2, rfl, by omega, HG.out, ⟨HP.out, HQ.out⟩, Below.refl _ _⟩
  case round =>
    rename World => wa
    obtain ⟨i, p, q, c, c', rfl, hi, hg, ⟨hp, hq⟩, hb⟩ := hrel
    have HBI := hid hb
    have hga : w3.heap.size < wa.heap.size := Nat.lt_of_lt_of_le (by rw [HSW.out]; omega) hb.size
    have HGA := hid hga
    by_cases hlt : i < D
    · obtain ⟨a, ha⟩ : ∃ a, A / 2 ^ (D - i) = a := ⟨_, rfl⟩
      rw [ha] at hp hq
      obtain ⟨M, hM⟩ : ∃ M, D - 1 = M := ⟨_, rfl⟩
      obtain ⟨L, hL⟩ : ∃ L, M - i = L := ⟨_, rfl⟩
      obtain ⟨t, ht⟩ : ∃ t, A / 2 ^ L = t := ⟨_, rfl⟩
      have hDi : D - i = L + 1 := by omega
      have hDi2 : D - (i + 1) = L := by omega
      have hta : t / 2 = a := by rw [← ht, ← ha, Nat.div_div_eq_div_mul, ← Nat.pow_succ, hDi]
      have ht4 : t < 4096 := by rw [← ht]; exact Nat.lt_of_le_of_lt (Nat.div_le_self _ _) HA.out
      have hD12 := HD.out
      obtain ⟨mm, hmm⟩ : ∃ mm, i % n = mm := ⟨_, rfl⟩
      have HH := hid fun (V : World) (hb : Below wa.heap.size wa V) => refHalves_cell (a := a) HN.out (show i < 32 by omega) c c' V (hp.below hb) (hq.below hb)
      rw [hmm] at HH
      have hn1 := HN.out
      have hmi : mm ≤ i := by rw [← hmm]; exact Nat.mod_le _ _
      have r1 : (i : Int) % (n : Int) = (mm : Int) := by rw [← hmm]; simp
      have r2 : (i : Int).tmod (n : Int) = (mm : Int) := by rw [Int.tmod_eq_emod_of_nonneg (by omega)]; exact r1
      have r3 : IntKind.i64.wrap (mm : Int) = (mm : Int) := Go.IntWalk.i64_in _ (by omega)
      have r4 : ((n : Int) == 0) = false := by simp; omega
      have r5 : ¬ (n : Int) = 0 := by omega
      have r6 : ¬ n = 0 := by omega
      clear hmm hn1 hmi
      have HE := hid (show ∀ x, t % 2 = x → x = 0 → cell n (i + 1) (2 * a) = cell n (i + 1) (A / 2 ^ (D - (i + 1))) from fun x h1 h2 => by rw [hDi2, ht]; congr 1; omega)
      have HO := hid (show ∀ x, t % 2 = x → x = 1 → cell n (i + 1) (2 * a + 1) = cell n (i + 1) (A / 2 ^ (D - (i + 1))) from fun x h1 h2 => by rw [hDi2, ht]; congr 1; omega)
      generalize cell n (i + 1) (2 * a) = X at HH HE
      generalize cell n (i + 1) (2 * a + 1) = Y at HH HO
      have e1 : decide ((i : Int) < (D : Int)) = true := by simp; omega
      have s1 : IntKind.i64.wrap ((D : Int) - 1) = (M : Int) := by rw [show (D : Int) - 1 = (M : Int) by omega]; exact Go.IntWalk.i64_in _ (by omega)
      have s2 : IntKind.i64.wrap ((M : Int) - (i : Int)) = (L : Int) := by rw [show (M : Int) - (i : Int) = (L : Int) by omega]; exact Go.IntWalk.i64_in _ (by omega)
      have g3 : 0 ≤ (L : Int) := by omega
      have g4 : decide ((L : Int) < 0) = false := by simp
      have s3 : (A : Int) / (2 : Int) ^ L = (t : Int) := by rw [← ht]; simp
      have s3' : (A : Int) / (2 : Int) ^ (min L 64) = (t : Int) := by rw [Nat.min_eq_left (by omega)]; exact s3
      have s4 : IntKind.i64.wrap ((i : Int) + 1) = (i : Int) + 1 := Go.IntWalk.i64_in _ (by omega)
      obtain ⟨x, hx⟩ : ∃ x, t % 2 = x := ⟨_, rfl⟩
      have hx2 : x = 0 ∨ x = 1 := by omega
      have HX := hid hx
      have HIL := hid hlt
      have HGG := hid hg
      have HSX := hid fun (V : World) (hb : Below wa.heap.size wa V) => (show V.cell? ⟨w3.heap.size, 0, none⟩ = some (.slice p n c) ∧ V.cell? ⟨w3.heap.size, 1, none⟩ = some (.slice q n c') from by
        have h := two_cells ((hb.block _ HGA.out).trans HGG.out)
        exact ⟨h.1, h.2.1⟩)
      have h0 : IntKind.u64.wrap (L : Int) = (L : Int) := Go.IntWalk.u64_in _ (by omega)
      clear ha hM hL ht hDi hDi2 hta ht4 hD12 hx hi hg hp hq hb hga hlt
      have x0 := HSX.out _ (Below.refl wa.heap.size wa).drew
      have J0 := hid (TC.start n wa X Y)
      go_wp2_with fail
      go_cut [10, 11] (fun s s' wx => HalvedC wa.heap.size n wa X Y s s' wx)
      case first =>
        refine wp_region_held_drew (S := fun w' => w'.cell? ⟨w3.heap.size, 0, none⟩ = some (.slice p n c) ∧ w'.cell? ⟨w3.heap.size, 1, none⟩ = some (.slice q n c')) (by kernel_rfl) (by exact x0) (fun hHeld => ?_)
        clear x0
        generalize wa.drew = v0 at J0 hHeld ⊢
        refine wpAnyH_take (i := 0) (oi := { dst := some 34, op := Go.Op.load 32 (Go.Operand.tmp 8), type := 32, pos := "ref.go:22", after := #[], guard := none }) (v := ?v1) rfl (by kernel_rfl) (by kernel_rfl) (by kernel_rfl) (fun _ _ _ h => h) (Or.inl ⟨by rfl, ?hy1⟩) (by assumption) ?rest1
        case hy1 => (intro w hSw; (try dsimp only at hSw); go_simp; (try with_reducible rfl))
        simp only [Act.put, List.setIfInBounds_toArray, List.set_cons_zero, List.set_cons_succ]
        refine wpAnyH_take (i := 1) (oi := { dst := some 35, op := Go.Op.move (Go.Operand.tmp 9), type := 3, pos := "ref.go:22", after := #[], guard := none }) (v := ?v2) rfl (by kernel_rfl) (by kernel_rfl) (by kernel_rfl) (fun _ _ _ h => h) (Or.inl ⟨by rfl, ?hy2⟩) (by assumption) ?rest2
        case hy2 => (intro w hSw; (try dsimp only at hSw); go_simp; (try with_reducible rfl))
        simp only [Act.put, List.setIfInBounds_toArray, List.set_cons_zero, List.set_cons_succ]
        refine wpAnyH_take (i := 2) (oi := { dst := some 36, op := Go.Op.move (Go.Operand.tmp 0), type := 3, pos := "ref.go:22", after := #[], guard := none }) (v := ?v3) rfl (by kernel_rfl) (by kernel_rfl) (by kernel_rfl) (fun _ _ _ h => h) (Or.inl ⟨by rfl, ?hy3⟩) (by assumption) ?rest3
        case hy3 => (intro w hSw; (try dsimp only at hSw); go_simp; (try with_reducible rfl))
        simp only [Act.put, List.setIfInBounds_toArray, List.set_cons_zero, List.set_cons_succ]
        refine wpAnyH_take (i := 3) (oi := { dst := some 37, op := Go.Op.binOp Go.BinOp.rem 3 (Go.Operand.tmp 35) (Go.Operand.tmp 36) 3, type := 3, pos := "ref.go:22", after := #[{ on := 1, ground := Go.Ground.data }, { on := 2, ground := Go.Ground.data }], guard := none }) (v := ?v4) rfl (by kernel_rfl) (by kernel_rfl) (by kernel_rfl) (fun _ _ _ h => h) (Or.inl ⟨by rfl, ?hy4⟩) (by assumption) ?rest4
        case hy4 => (intro w hSw; (try dsimp only at hSw); go_simp; (try with_reducible rfl))
        simp only [Act.put, List.setIfInBounds_toArray, List.set_cons_zero, List.set_cons_succ]
        refine wpAnyH_ready (rs := [4, 9, 10]) (by kernel_rfl) (by simp) (AllReadyH.cons (o := { dst := some 38, op := Go.Op.call { callee := Go.Callee.value (Go.Operand.func 46), args := #[Go.Operand.tmp 34, Go.Operand.tmp 37], argTypes := #[32, 3] }, type := 65, pos := "ref.go:22", after := #[{ on := 0, ground := Go.Ground.data }, { on := 3, ground := Go.Ground.data }], guard := none }) rfl (fun K hK => ?_) (AllReadyH.cons (o := { dst := some 10, op := Go.Op.alloc 32, type := 0, pos := "ref.go:22", after := #[], guard := none }) rfl (fun K hK => ?_) (AllReadyH.cons (o := { dst := some 11, op := Go.Op.alloc 32, type := 0, pos := "ref.go:22", after := #[], guard := none }) rfl (fun K hK => ?_) AllReadyH.nil)))
        ·
          go_simp
          go_at_call 46
          refine (HH.out _ J0.out.below).mono ?_
          rintro e w9 ⟨p1, c1, p2, c2, p3, c3, p4, c4, rfl, g1, g2, g3, g4, hb⟩
          have J5 := hid (J0.out.call c1 c2 c3 c4 ⟨Pt.all g1, Pt.all g2, Pt.all g3, Pt.all g4⟩ hb)
          clear g1 g2 g3 g4 hb J0
          refine hK.out _ _ (HSX.out _ J5.out.below) (fun hHeld => ?_)
          clear hK K
          refine wpAnyH_take (i := 5) (oi := { dst := some 33, op := Go.Op.move (Go.Operand.tmp 38), type := 65, pos := "ref.go:22", after := #[{ on := 4, ground := Go.Ground.data }], guard := none }) (v := ?v6) rfl (by kernel_rfl) (by kernel_rfl) (by kernel_rfl) (fun _ _ _ h => h) (Or.inl ⟨by rfl, ?hy6⟩) (by assumption) ?rest6
          case hy6 => (intro w hSw; (try dsimp only at hSw); go_simp; (try with_reducible rfl))
          simp only [Act.put, List.setIfInBounds_toArray, List.set_cons_zero, List.set_cons_succ]
          refine wpAnyH_take (i := 6) (oi := { dst := some 39, op := Go.Op.extract (Go.Operand.tmp 33) 0, type := 32, pos := "ref.go:22", after := #[{ on := 5, ground := Go.Ground.data }], guard := none }) (v := ?v7) rfl (by kernel_rfl) (by kernel_rfl) (by kernel_rfl) (fun _ _ _ h => h) (Or.inl ⟨by rfl, ?hy7⟩) (by assumption) ?rest7
          case hy7 => (intro w hSw; (try dsimp only at hSw); go_simp; (try with_reducible rfl))
          simp only [Act.put, List.setIfInBounds_toArray, List.set_cons_zero, List.set_cons_succ]
          refine wpAnyH_take (i := 7) (oi := { dst := some 40, op := Go.Op.extract (Go.Operand.tmp 33) 1, type := 32, pos := "ref.go:22", after := #[{ on := 5, ground := Go.Ground.data }, { on := 11, ground := Go.Ground.gcOnly Go.Departure.lateStores }], guard := none }) (v := ?v8) rfl (by kernel_rfl) (by kernel_rfl) (by kernel_rfl) (fun _ _ _ h => h) (Or.inl ⟨by rfl, ?hy8⟩) (by assumption) ?rest8
          case hy8 => (intro w hSw; (try dsimp only at hSw); go_simp; (try with_reducible rfl))
          simp only [Act.put, List.setIfInBounds_toArray, List.set_cons_zero, List.set_cons_succ]
          refine wpAnyH_take (i := 8) (oi := { dst := some 41, op := Go.Op.extract (Go.Operand.tmp 33) 2, type := 4, pos := "ref.go:22", after := #[{ on := 5, ground := Go.Ground.data }, { on := 12, ground := Go.Ground.gcOnly Go.Departure.lateStores }], guard := none }) (v := ?v9) rfl (by kernel_rfl) (by kernel_rfl) (by kernel_rfl) (fun _ _ _ h => h) (Or.inl ⟨by rfl, ?hy9⟩) (by assumption) ?rest9
          case hy9 => (intro w hSw; (try dsimp only at hSw); go_simp; (try with_reducible rfl))
          simp only [Act.put, List.setIfInBounds_toArray, List.set_cons_zero, List.set_cons_succ]
          refine wpAnyH_ready (rs := [9, 10]) (by kernel_rfl) (by simp) (AllReadyH.cons (o := { dst := some 10, op := Go.Op.alloc 32, type := 0, pos := "ref.go:22", after := #[], guard := none }) rfl (fun K hK => ?_) (AllReadyH.cons (o := { dst := some 11, op := Go.Op.alloc 32, type := 0, pos := "ref.go:22", after := #[], guard := none }) rfl (fun K hK => ?_) AllReadyH.nil))
          ·
            have J10 := hid J5.out.al6
            go_simp
            refine hK.out _ _ (HSX.out _ J10.out.below) (fun hHeld => ?_)
            clear hK K J5
            generalize w9.alloc (.cells #[Value.slice none 0 0, .slice none 0 0] 32) = v10 at J10 hHeld ⊢
            refine wpAnyH_ready (rs := [10]) (by kernel_rfl) (by simp) (AllReadyH.cons (o := { dst := some 11, op := Go.Op.alloc 32, type := 0, pos := "ref.go:22", after := #[], guard := none }) rfl (fun K hK => ?_) AllReadyH.nil)
            have J11 := hid J10.out.al7
            go_simp
            refine hK.out _ _ (HSX.out _ J11.out.below) (fun hHeld => ?_)
            clear hK K J10
            generalize v10.alloc (.cells #[Value.slice none 0 0, .slice none 0 0] 32) = v11 at J11 hHeld ⊢
            refine wpAnyH_ready (rs := [11]) (by kernel_rfl) (by simp) (AllReadyH.cons (o := { dst := none, op := Go.Op.store 32 (Go.Operand.tmp 10) (Go.Operand.tmp 39), type := 0, pos := "ref.go:22", after := #[{ on := 9, ground := Go.Ground.data }, { on := 6, ground := Go.Ground.data }, { on := 4, ground := Go.Ground.chain }, { on := 0, ground := Go.Ground.phase }, { on := 1, ground := Go.Ground.phase }, { on := 2, ground := Go.Ground.phase }, { on := 3, ground := Go.Ground.phase }, { on := 4, ground := Go.Ground.phase }, { on := 5, ground := Go.Ground.phase }, { on := 6, ground := Go.Ground.phase }, { on := 7, ground := Go.Ground.textOnly Go.Departure.lateStores }, { on := 8, ground := Go.Ground.textOnly Go.Departure.lateStores }, { on := 9, ground := Go.Ground.phase }, { on := 10, ground := Go.Ground.phase }], guard := none }) rfl (fun K hK => ?_) AllReadyH.nil)
            have J12 := hid J11.out.st6
            have z := J11.out.zero6
            go_simp
            clear z
            refine hK.out _ _ (HSX.out _ J12.out.below) (fun hHeld => ?_)
            clear hK K J11
            generalize (v11.setCell ⟨w9.heap.size, 0, none⟩ (.slice p1 n c1)).setCell ⟨w9.heap.size, 1, none⟩ (.slice p2 n c2) = v12 at J12 hHeld ⊢
            refine wpAnyH_ready (rs := [12]) (by kernel_rfl) (by simp) (AllReadyH.cons (o := { dst := none, op := Go.Op.store 32 (Go.Operand.tmp 11) (Go.Operand.tmp 40), type := 0, pos := "ref.go:22", after := #[{ on := 10, ground := Go.Ground.data }, { on := 7, ground := Go.Ground.data }, { on := 11, ground := Go.Ground.chain }, { on := 0, ground := Go.Ground.phase }, { on := 1, ground := Go.Ground.phase }, { on := 2, ground := Go.Ground.phase }, { on := 3, ground := Go.Ground.phase }, { on := 4, ground := Go.Ground.phase }, { on := 5, ground := Go.Ground.phase }, { on := 6, ground := Go.Ground.phase }, { on := 7, ground := Go.Ground.phase }, { on := 8, ground := Go.Ground.textOnly Go.Departure.lateStores }, { on := 9, ground := Go.Ground.phase }, { on := 10, ground := Go.Ground.phase }, { on := 11, ground := Go.Ground.phase }], guard := none }) rfl (fun K hK => ?_) AllReadyH.nil)
            have J13 := hid J12.out.st7
            have z := J12.out.zero7
            go_simp
            clear z
            refine hK.out _ _ (HSX.out _ J13.out.below) (fun hHeld => ?_)
            clear hK K J12
            generalize (v12.setCell ⟨v10.heap.size, 0, none⟩ (.slice p3 n c3)).setCell ⟨v10.heap.size, 1, none⟩ (.slice p4 n c4) = v13 at J13 hHeld ⊢
            refine wpAnyH_ready (rs := [13]) (by kernel_rfl) (by simp) (AllReadyH.cons (o := { dst := some 12, op := Go.Op.assign (Go.Operand.tmp 41), type := 4, pos := "ref.go:22", after := #[{ on := 8, ground := Go.Ground.data }, { on := 12, ground := Go.Ground.chain }, { on := 0, ground := Go.Ground.phase }, { on := 1, ground := Go.Ground.phase }, { on := 2, ground := Go.Ground.phase }, { on := 3, ground := Go.Ground.phase }, { on := 4, ground := Go.Ground.phase }, { on := 5, ground := Go.Ground.phase }, { on := 6, ground := Go.Ground.phase }, { on := 7, ground := Go.Ground.phase }, { on := 8, ground := Go.Ground.phase }, { on := 9, ground := Go.Ground.phase }, { on := 10, ground := Go.Ground.phase }, { on := 11, ground := Go.Ground.phase }, { on := 12, ground := Go.Ground.phase }], guard := none }) rfl (fun K hK => ?_) AllReadyH.nil)
            have J14 := J13
            go_simp
            refine hK.out _ _ (HSX.out _ J14.out.below) (fun hHeld => ?_)
            clear hK K J13
            refine wpAnyH_done (by kernel_rfl) ?_ _
            have HJ := hid J14.out.fin; clear J14
            go_wp2_with fail
            go_meet
            exact HJ.out
          ·
            have J15 := hid J5.out.al7
            go_simp
            refine hK.out _ _ (HSX.out _ J15.out.below) (fun hHeld => ?_)
            clear hK K J5
            generalize w9.alloc (.cells #[Value.slice none 0 0, .slice none 0 0] 32) = v15 at J15 hHeld ⊢
            refine wpAnyH_ready (rs := [9]) (by kernel_rfl) (by simp) (AllReadyH.cons (o := { dst := some 10, op := Go.Op.alloc 32, type := 0, pos := "ref.go:22", after := #[], guard := none }) rfl (fun K hK => ?_) AllReadyH.nil)
            have J16 := hid J15.out.al6
            go_simp
            refine hK.out _ _ (HSX.out _ J16.out.below) (fun hHeld => ?_)
            clear hK K J15
            generalize v15.alloc (.cells #[Value.slice none 0 0, .slice none 0 0] 32) = v16 at J16 hHeld ⊢
            refine wpAnyH_ready (rs := [11]) (by kernel_rfl) (by simp) (AllReadyH.cons (o := { dst := none, op := Go.Op.store 32 (Go.Operand.tmp 10) (Go.Operand.tmp 39), type := 0, pos := "ref.go:22", after := #[{ on := 9, ground := Go.Ground.data }, { on := 6, ground := Go.Ground.data }, { on := 4, ground := Go.Ground.chain }, { on := 0, ground := Go.Ground.phase }, { on := 1, ground := Go.Ground.phase }, { on := 2, ground := Go.Ground.phase }, { on := 3, ground := Go.Ground.phase }, { on := 4, ground := Go.Ground.phase }, { on := 5, ground := Go.Ground.phase }, { on := 6, ground := Go.Ground.phase }, { on := 7, ground := Go.Ground.textOnly Go.Departure.lateStores }, { on := 8, ground := Go.Ground.textOnly Go.Departure.lateStores }, { on := 9, ground := Go.Ground.phase }, { on := 10, ground := Go.Ground.phase }], guard := none }) rfl (fun K hK => ?_) AllReadyH.nil)
            have J17 := hid J16.out.st6
            have z := J16.out.zero6
            go_simp
            clear z
            refine hK.out _ _ (HSX.out _ J17.out.below) (fun hHeld => ?_)
            clear hK K J16
            generalize (v16.setCell ⟨v15.heap.size, 0, none⟩ (.slice p1 n c1)).setCell ⟨v15.heap.size, 1, none⟩ (.slice p2 n c2) = v17 at J17 hHeld ⊢
            refine wpAnyH_ready (rs := [12]) (by kernel_rfl) (by simp) (AllReadyH.cons (o := { dst := none, op := Go.Op.store 32 (Go.Operand.tmp 11) (Go.Operand.tmp 40), type := 0, pos := "ref.go:22", after := #[{ on := 10, ground := Go.Ground.data }, { on := 7, ground := Go.Ground.data }, { on := 11, ground := Go.Ground.chain }, { on := 0, ground := Go.Ground.phase }, { on := 1, ground := Go.Ground.phase }, { on := 2, ground := Go.Ground.phase }, { on := 3, ground := Go.Ground.phase }, { on := 4, ground := Go.Ground.phase }, { on := 5, ground := Go.Ground.phase }, { on := 6, ground := Go.Ground.phase }, { on := 7, ground := Go.Ground.phase }, { on := 8, ground := Go.Ground.textOnly Go.Departure.lateStores }, { on := 9, ground := Go.Ground.phase }, { on := 10, ground := Go.Ground.phase }, { on := 11, ground := Go.Ground.phase }], guard := none }) rfl (fun K hK => ?_) AllReadyH.nil)
            have J18 := hid J17.out.st7
            have z := J17.out.zero7
            go_simp
            clear z
            refine hK.out _ _ (HSX.out _ J18.out.below) (fun hHeld => ?_)
            clear hK K J17
            generalize (v17.setCell ⟨w9.heap.size, 0, none⟩ (.slice p3 n c3)).setCell ⟨w9.heap.size, 1, none⟩ (.slice p4 n c4) = v18 at J18 hHeld ⊢
            refine wpAnyH_ready (rs := [13]) (by kernel_rfl) (by simp) (AllReadyH.cons (o := { dst := some 12, op := Go.Op.assign (Go.Operand.tmp 41), type := 4, pos := "ref.go:22", after := #[{ on := 8, ground := Go.Ground.data }, { on := 12, ground := Go.Ground.chain }, { on := 0, ground := Go.Ground.phase }, { on := 1, ground := Go.Ground.phase }, { on := 2, ground := Go.Ground.phase }, { on := 3, ground := Go.Ground.phase }, { on := 4, ground := Go.Ground.phase }, { on := 5, ground := Go.Ground.phase }, { on := 6, ground := Go.Ground.phase }, { on := 7, ground := Go.Ground.phase }, { on := 8, ground := Go.Ground.phase }, { on := 9, ground := Go.Ground.phase }, { on := 10, ground := Go.Ground.phase }, { on := 11, ground := Go.Ground.phase }, { on := 12, ground := Go.Ground.phase }], guard := none }) rfl (fun K hK => ?_) AllReadyH.nil)
            have J19 := J18
            go_simp
            refine hK.out _ _ (HSX.out _ J19.out.below) (fun hHeld => ?_)
            clear hK K J18
            refine wpAnyH_done (by kernel_rfl) ?_ _
            have HJ := hid J19.out.fin; clear J19
            go_wp2_with fail
            go_meet
            exact HJ.out
        ·
          have J20 := hid J0.out.al6
          go_simp
          refine hK.out _ _ (HSX.out _ J20.out.below) (fun hHeld => ?_)
          clear hK K J0
          generalize v0.alloc (.cells #[Value.slice none 0 0, .slice none 0 0] 32) = v20 at J20 hHeld ⊢
          refine wpAnyH_ready (rs := [4, 10]) (by kernel_rfl) (by simp) (AllReadyH.cons (o := { dst := some 38, op := Go.Op.call { callee := Go.Callee.value (Go.Operand.func 46), args := #[Go.Operand.tmp 34, Go.Operand.tmp 37], argTypes := #[32, 3] }, type := 65, pos := "ref.go:22", after := #[{ on := 0, ground := Go.Ground.data }, { on := 3, ground := Go.Ground.data }], guard := none }) rfl (fun K hK => ?_) (AllReadyH.cons (o := { dst := some 11, op := Go.Op.alloc 32, type := 0, pos := "ref.go:22", after := #[], guard := none }) rfl (fun K hK => ?_) AllReadyH.nil))
          ·
            go_simp
            go_at_call 46
            refine (HH.out _ J20.out.below).mono ?_
            rintro e w9 ⟨p1, c1, p2, c2, p3, c3, p4, c4, rfl, g1, g2, g3, g4, hb⟩
            have J21 := hid (J20.out.call c1 c2 c3 c4 ⟨Pt.all g1, Pt.all g2, Pt.all g3, Pt.all g4⟩ hb)
            clear g1 g2 g3 g4 hb J20
            refine hK.out _ _ (HSX.out _ J21.out.below) (fun hHeld => ?_)
            clear hK K
            refine wpAnyH_take (i := 5) (oi := { dst := some 33, op := Go.Op.move (Go.Operand.tmp 38), type := 65, pos := "ref.go:22", after := #[{ on := 4, ground := Go.Ground.data }], guard := none }) (v := ?v22) rfl (by kernel_rfl) (by kernel_rfl) (by kernel_rfl) (fun _ _ _ h => h) (Or.inl ⟨by rfl, ?hy22⟩) (by assumption) ?rest22
            case hy22 => (intro w hSw; (try dsimp only at hSw); go_simp; (try with_reducible rfl))
            simp only [Act.put, List.setIfInBounds_toArray, List.set_cons_zero, List.set_cons_succ]
            refine wpAnyH_take (i := 6) (oi := { dst := some 39, op := Go.Op.extract (Go.Operand.tmp 33) 0, type := 32, pos := "ref.go:22", after := #[{ on := 5, ground := Go.Ground.data }], guard := none }) (v := ?v23) rfl (by kernel_rfl) (by kernel_rfl) (by kernel_rfl) (fun _ _ _ h => h) (Or.inl ⟨by rfl, ?hy23⟩) (by assumption) ?rest23
            case hy23 => (intro w hSw; (try dsimp only at hSw); go_simp; (try with_reducible rfl))
            simp only [Act.put, List.setIfInBounds_toArray, List.set_cons_zero, List.set_cons_succ]
            refine wpAnyH_take (i := 7) (oi := { dst := some 40, op := Go.Op.extract (Go.Operand.tmp 33) 1, type := 32, pos := "ref.go:22", after := #[{ on := 5, ground := Go.Ground.data }, { on := 11, ground := Go.Ground.gcOnly Go.Departure.lateStores }], guard := none }) (v := ?v24) rfl (by kernel_rfl) (by kernel_rfl) (by kernel_rfl) (fun _ _ _ h => h) (Or.inl ⟨by rfl, ?hy24⟩) (by assumption) ?rest24
            case hy24 => (intro w hSw; (try dsimp only at hSw); go_simp; (try with_reducible rfl))
            simp only [Act.put, List.setIfInBounds_toArray, List.set_cons_zero, List.set_cons_succ]
            refine wpAnyH_take (i := 8) (oi := { dst := some 41, op := Go.Op.extract (Go.Operand.tmp 33) 2, type := 4, pos := "ref.go:22", after := #[{ on := 5, ground := Go.Ground.data }, { on := 12, ground := Go.Ground.gcOnly Go.Departure.lateStores }], guard := none }) (v := ?v25) rfl (by kernel_rfl) (by kernel_rfl) (by kernel_rfl) (fun _ _ _ h => h) (Or.inl ⟨by rfl, ?hy25⟩) (by assumption) ?rest25
            case hy25 => (intro w hSw; (try dsimp only at hSw); go_simp; (try with_reducible rfl))
            simp only [Act.put, List.setIfInBounds_toArray, List.set_cons_zero, List.set_cons_succ]
            refine wpAnyH_ready (rs := [10]) (by kernel_rfl) (by simp) (AllReadyH.cons (o := { dst := some 11, op := Go.Op.alloc 32, type := 0, pos := "ref.go:22", after := #[], guard := none }) rfl (fun K hK => ?_) AllReadyH.nil)
            have J26 := hid J21.out.al7
            go_simp
            refine hK.out _ _ (HSX.out _ J26.out.below) (fun hHeld => ?_)
            clear hK K J21
            generalize w9.alloc (.cells #[Value.slice none 0 0, .slice none 0 0] 32) = v26 at J26 hHeld ⊢
            refine wpAnyH_ready (rs := [11]) (by kernel_rfl) (by simp) (AllReadyH.cons (o := { dst := none, op := Go.Op.store 32 (Go.Operand.tmp 10) (Go.Operand.tmp 39), type := 0, pos := "ref.go:22", after := #[{ on := 9, ground := Go.Ground.data }, { on := 6, ground := Go.Ground.data }, { on := 4, ground := Go.Ground.chain }, { on := 0, ground := Go.Ground.phase }, { on := 1, ground := Go.Ground.phase }, { on := 2, ground := Go.Ground.phase }, { on := 3, ground := Go.Ground.phase }, { on := 4, ground := Go.Ground.phase }, { on := 5, ground := Go.Ground.phase }, { on := 6, ground := Go.Ground.phase }, { on := 7, ground := Go.Ground.textOnly Go.Departure.lateStores }, { on := 8, ground := Go.Ground.textOnly Go.Departure.lateStores }, { on := 9, ground := Go.Ground.phase }, { on := 10, ground := Go.Ground.phase }], guard := none }) rfl (fun K hK => ?_) AllReadyH.nil)
            have J27 := hid J26.out.st6
            have z := J26.out.zero6
            go_simp
            clear z
            refine hK.out _ _ (HSX.out _ J27.out.below) (fun hHeld => ?_)
            clear hK K J26
            generalize (v26.setCell ⟨v0.heap.size, 0, none⟩ (.slice p1 n c1)).setCell ⟨v0.heap.size, 1, none⟩ (.slice p2 n c2) = v27 at J27 hHeld ⊢
            refine wpAnyH_ready (rs := [12]) (by kernel_rfl) (by simp) (AllReadyH.cons (o := { dst := none, op := Go.Op.store 32 (Go.Operand.tmp 11) (Go.Operand.tmp 40), type := 0, pos := "ref.go:22", after := #[{ on := 10, ground := Go.Ground.data }, { on := 7, ground := Go.Ground.data }, { on := 11, ground := Go.Ground.chain }, { on := 0, ground := Go.Ground.phase }, { on := 1, ground := Go.Ground.phase }, { on := 2, ground := Go.Ground.phase }, { on := 3, ground := Go.Ground.phase }, { on := 4, ground := Go.Ground.phase }, { on := 5, ground := Go.Ground.phase }, { on := 6, ground := Go.Ground.phase }, { on := 7, ground := Go.Ground.phase }, { on := 8, ground := Go.Ground.textOnly Go.Departure.lateStores }, { on := 9, ground := Go.Ground.phase }, { on := 10, ground := Go.Ground.phase }, { on := 11, ground := Go.Ground.phase }], guard := none }) rfl (fun K hK => ?_) AllReadyH.nil)
            have J28 := hid J27.out.st7
            have z := J27.out.zero7
            go_simp
            clear z
            refine hK.out _ _ (HSX.out _ J28.out.below) (fun hHeld => ?_)
            clear hK K J27
            generalize (v27.setCell ⟨w9.heap.size, 0, none⟩ (.slice p3 n c3)).setCell ⟨w9.heap.size, 1, none⟩ (.slice p4 n c4) = v28 at J28 hHeld ⊢
            refine wpAnyH_ready (rs := [13]) (by kernel_rfl) (by simp) (AllReadyH.cons (o := { dst := some 12, op := Go.Op.assign (Go.Operand.tmp 41), type := 4, pos := "ref.go:22", after := #[{ on := 8, ground := Go.Ground.data }, { on := 12, ground := Go.Ground.chain }, { on := 0, ground := Go.Ground.phase }, { on := 1, ground := Go.Ground.phase }, { on := 2, ground := Go.Ground.phase }, { on := 3, ground := Go.Ground.phase }, { on := 4, ground := Go.Ground.phase }, { on := 5, ground := Go.Ground.phase }, { on := 6, ground := Go.Ground.phase }, { on := 7, ground := Go.Ground.phase }, { on := 8, ground := Go.Ground.phase }, { on := 9, ground := Go.Ground.phase }, { on := 10, ground := Go.Ground.phase }, { on := 11, ground := Go.Ground.phase }, { on := 12, ground := Go.Ground.phase }], guard := none }) rfl (fun K hK => ?_) AllReadyH.nil)
            have J29 := J28
            go_simp
            refine hK.out _ _ (HSX.out _ J29.out.below) (fun hHeld => ?_)
            clear hK K J28
            refine wpAnyH_done (by kernel_rfl) ?_ _
            have HJ := hid J29.out.fin; clear J29
            go_wp2_with fail
            go_meet
            exact HJ.out
          ·
            have J30 := hid J20.out.al7
            go_simp
            refine hK.out _ _ (HSX.out _ J30.out.below) (fun hHeld => ?_)
            clear hK K J20
            generalize v20.alloc (.cells #[Value.slice none 0 0, .slice none 0 0] 32) = v30 at J30 hHeld ⊢
            refine wpAnyH_ready (rs := [4]) (by kernel_rfl) (by simp) (AllReadyH.cons (o := { dst := some 38, op := Go.Op.call { callee := Go.Callee.value (Go.Operand.func 46), args := #[Go.Operand.tmp 34, Go.Operand.tmp 37], argTypes := #[32, 3] }, type := 65, pos := "ref.go:22", after := #[{ on := 0, ground := Go.Ground.data }, { on := 3, ground := Go.Ground.data }], guard := none }) rfl (fun K hK => ?_) AllReadyH.nil)
            go_simp
            go_at_call 46
            refine (HH.out _ J30.out.below).mono ?_
            rintro e w9 ⟨p1, c1, p2, c2, p3, c3, p4, c4, rfl, g1, g2, g3, g4, hb⟩
            have J31 := hid (J30.out.call c1 c2 c3 c4 ⟨Pt.all g1, Pt.all g2, Pt.all g3, Pt.all g4⟩ hb)
            clear g1 g2 g3 g4 hb J30
            refine hK.out _ _ (HSX.out _ J31.out.below) (fun hHeld => ?_)
            clear hK K
            refine wpAnyH_take (i := 5) (oi := { dst := some 33, op := Go.Op.move (Go.Operand.tmp 38), type := 65, pos := "ref.go:22", after := #[{ on := 4, ground := Go.Ground.data }], guard := none }) (v := ?v32) rfl (by kernel_rfl) (by kernel_rfl) (by kernel_rfl) (fun _ _ _ h => h) (Or.inl ⟨by rfl, ?hy32⟩) (by assumption) ?rest32
            case hy32 => (intro w hSw; (try dsimp only at hSw); go_simp; (try with_reducible rfl))
            simp only [Act.put, List.setIfInBounds_toArray, List.set_cons_zero, List.set_cons_succ]
            refine wpAnyH_take (i := 6) (oi := { dst := some 39, op := Go.Op.extract (Go.Operand.tmp 33) 0, type := 32, pos := "ref.go:22", after := #[{ on := 5, ground := Go.Ground.data }], guard := none }) (v := ?v33) rfl (by kernel_rfl) (by kernel_rfl) (by kernel_rfl) (fun _ _ _ h => h) (Or.inl ⟨by rfl, ?hy33⟩) (by assumption) ?rest33
            case hy33 => (intro w hSw; (try dsimp only at hSw); go_simp; (try with_reducible rfl))
            simp only [Act.put, List.setIfInBounds_toArray, List.set_cons_zero, List.set_cons_succ]
            refine wpAnyH_take (i := 7) (oi := { dst := some 40, op := Go.Op.extract (Go.Operand.tmp 33) 1, type := 32, pos := "ref.go:22", after := #[{ on := 5, ground := Go.Ground.data }, { on := 11, ground := Go.Ground.gcOnly Go.Departure.lateStores }], guard := none }) (v := ?v34) rfl (by kernel_rfl) (by kernel_rfl) (by kernel_rfl) (fun _ _ _ h => h) (Or.inl ⟨by rfl, ?hy34⟩) (by assumption) ?rest34
            case hy34 => (intro w hSw; (try dsimp only at hSw); go_simp; (try with_reducible rfl))
            simp only [Act.put, List.setIfInBounds_toArray, List.set_cons_zero, List.set_cons_succ]
            refine wpAnyH_take (i := 8) (oi := { dst := some 41, op := Go.Op.extract (Go.Operand.tmp 33) 2, type := 4, pos := "ref.go:22", after := #[{ on := 5, ground := Go.Ground.data }, { on := 12, ground := Go.Ground.gcOnly Go.Departure.lateStores }], guard := none }) (v := ?v35) rfl (by kernel_rfl) (by kernel_rfl) (by kernel_rfl) (fun _ _ _ h => h) (Or.inl ⟨by rfl, ?hy35⟩) (by assumption) ?rest35
            case hy35 => (intro w hSw; (try dsimp only at hSw); go_simp; (try with_reducible rfl))
            simp only [Act.put, List.setIfInBounds_toArray, List.set_cons_zero, List.set_cons_succ]
            refine wpAnyH_ready (rs := [11]) (by kernel_rfl) (by simp) (AllReadyH.cons (o := { dst := none, op := Go.Op.store 32 (Go.Operand.tmp 10) (Go.Operand.tmp 39), type := 0, pos := "ref.go:22", after := #[{ on := 9, ground := Go.Ground.data }, { on := 6, ground := Go.Ground.data }, { on := 4, ground := Go.Ground.chain }, { on := 0, ground := Go.Ground.phase }, { on := 1, ground := Go.Ground.phase }, { on := 2, ground := Go.Ground.phase }, { on := 3, ground := Go.Ground.phase }, { on := 4, ground := Go.Ground.phase }, { on := 5, ground := Go.Ground.phase }, { on := 6, ground := Go.Ground.phase }, { on := 7, ground := Go.Ground.textOnly Go.Departure.lateStores }, { on := 8, ground := Go.Ground.textOnly Go.Departure.lateStores }, { on := 9, ground := Go.Ground.phase }, { on := 10, ground := Go.Ground.phase }], guard := none }) rfl (fun K hK => ?_) AllReadyH.nil)
            have J36 := hid J31.out.st6
            have z := J31.out.zero6
            go_simp
            clear z
            refine hK.out _ _ (HSX.out _ J36.out.below) (fun hHeld => ?_)
            clear hK K J31
            generalize (w9.setCell ⟨v0.heap.size, 0, none⟩ (.slice p1 n c1)).setCell ⟨v0.heap.size, 1, none⟩ (.slice p2 n c2) = v36 at J36 hHeld ⊢
            refine wpAnyH_ready (rs := [12]) (by kernel_rfl) (by simp) (AllReadyH.cons (o := { dst := none, op := Go.Op.store 32 (Go.Operand.tmp 11) (Go.Operand.tmp 40), type := 0, pos := "ref.go:22", after := #[{ on := 10, ground := Go.Ground.data }, { on := 7, ground := Go.Ground.data }, { on := 11, ground := Go.Ground.chain }, { on := 0, ground := Go.Ground.phase }, { on := 1, ground := Go.Ground.phase }, { on := 2, ground := Go.Ground.phase }, { on := 3, ground := Go.Ground.phase }, { on := 4, ground := Go.Ground.phase }, { on := 5, ground := Go.Ground.phase }, { on := 6, ground := Go.Ground.phase }, { on := 7, ground := Go.Ground.phase }, { on := 8, ground := Go.Ground.textOnly Go.Departure.lateStores }, { on := 9, ground := Go.Ground.phase }, { on := 10, ground := Go.Ground.phase }, { on := 11, ground := Go.Ground.phase }], guard := none }) rfl (fun K hK => ?_) AllReadyH.nil)
            have J37 := hid J36.out.st7
            have z := J36.out.zero7
            go_simp
            clear z
            refine hK.out _ _ (HSX.out _ J37.out.below) (fun hHeld => ?_)
            clear hK K J36
            generalize (v36.setCell ⟨v20.heap.size, 0, none⟩ (.slice p3 n c3)).setCell ⟨v20.heap.size, 1, none⟩ (.slice p4 n c4) = v37 at J37 hHeld ⊢
            refine wpAnyH_ready (rs := [13]) (by kernel_rfl) (by simp) (AllReadyH.cons (o := { dst := some 12, op := Go.Op.assign (Go.Operand.tmp 41), type := 4, pos := "ref.go:22", after := #[{ on := 8, ground := Go.Ground.data }, { on := 12, ground := Go.Ground.chain }, { on := 0, ground := Go.Ground.phase }, { on := 1, ground := Go.Ground.phase }, { on := 2, ground := Go.Ground.phase }, { on := 3, ground := Go.Ground.phase }, { on := 4, ground := Go.Ground.phase }, { on := 5, ground := Go.Ground.phase }, { on := 6, ground := Go.Ground.phase }, { on := 7, ground := Go.Ground.phase }, { on := 8, ground := Go.Ground.phase }, { on := 9, ground := Go.Ground.phase }, { on := 10, ground := Go.Ground.phase }, { on := 11, ground := Go.Ground.phase }, { on := 12, ground := Go.Ground.phase }], guard := none }) rfl (fun K hK => ?_) AllReadyH.nil)
            have J38 := J37
            go_simp
            refine hK.out _ _ (HSX.out _ J38.out.below) (fun hHeld => ?_)
            clear hK K J37
            refine wpAnyH_done (by kernel_rfl) ?_ _
            have HJ := hid J38.out.fin; clear J38
            go_wp2_with fail
            go_meet
            exact HJ.out
        ·
          have J39 := hid J0.out.al7
          go_simp
          refine hK.out _ _ (HSX.out _ J39.out.below) (fun hHeld => ?_)
          clear hK K J0
          generalize v0.alloc (.cells #[Value.slice none 0 0, .slice none 0 0] 32) = v39 at J39 hHeld ⊢
          refine wpAnyH_ready (rs := [4, 9]) (by kernel_rfl) (by simp) (AllReadyH.cons (o := { dst := some 38, op := Go.Op.call { callee := Go.Callee.value (Go.Operand.func 46), args := #[Go.Operand.tmp 34, Go.Operand.tmp 37], argTypes := #[32, 3] }, type := 65, pos := "ref.go:22", after := #[{ on := 0, ground := Go.Ground.data }, { on := 3, ground := Go.Ground.data }], guard := none }) rfl (fun K hK => ?_) (AllReadyH.cons (o := { dst := some 10, op := Go.Op.alloc 32, type := 0, pos := "ref.go:22", after := #[], guard := none }) rfl (fun K hK => ?_) AllReadyH.nil))
          ·
            go_simp
            go_at_call 46
            refine (HH.out _ J39.out.below).mono ?_
            rintro e w9 ⟨p1, c1, p2, c2, p3, c3, p4, c4, rfl, g1, g2, g3, g4, hb⟩
            have J40 := hid (J39.out.call c1 c2 c3 c4 ⟨Pt.all g1, Pt.all g2, Pt.all g3, Pt.all g4⟩ hb)
            clear g1 g2 g3 g4 hb J39
            refine hK.out _ _ (HSX.out _ J40.out.below) (fun hHeld => ?_)
            clear hK K
            refine wpAnyH_take (i := 5) (oi := { dst := some 33, op := Go.Op.move (Go.Operand.tmp 38), type := 65, pos := "ref.go:22", after := #[{ on := 4, ground := Go.Ground.data }], guard := none }) (v := ?v41) rfl (by kernel_rfl) (by kernel_rfl) (by kernel_rfl) (fun _ _ _ h => h) (Or.inl ⟨by rfl, ?hy41⟩) (by assumption) ?rest41
            case hy41 => (intro w hSw; (try dsimp only at hSw); go_simp; (try with_reducible rfl))
            simp only [Act.put, List.setIfInBounds_toArray, List.set_cons_zero, List.set_cons_succ]
            refine wpAnyH_take (i := 6) (oi := { dst := some 39, op := Go.Op.extract (Go.Operand.tmp 33) 0, type := 32, pos := "ref.go:22", after := #[{ on := 5, ground := Go.Ground.data }], guard := none }) (v := ?v42) rfl (by kernel_rfl) (by kernel_rfl) (by kernel_rfl) (fun _ _ _ h => h) (Or.inl ⟨by rfl, ?hy42⟩) (by assumption) ?rest42
            case hy42 => (intro w hSw; (try dsimp only at hSw); go_simp; (try with_reducible rfl))
            simp only [Act.put, List.setIfInBounds_toArray, List.set_cons_zero, List.set_cons_succ]
            refine wpAnyH_take (i := 7) (oi := { dst := some 40, op := Go.Op.extract (Go.Operand.tmp 33) 1, type := 32, pos := "ref.go:22", after := #[{ on := 5, ground := Go.Ground.data }, { on := 11, ground := Go.Ground.gcOnly Go.Departure.lateStores }], guard := none }) (v := ?v43) rfl (by kernel_rfl) (by kernel_rfl) (by kernel_rfl) (fun _ _ _ h => h) (Or.inl ⟨by rfl, ?hy43⟩) (by assumption) ?rest43
            case hy43 => (intro w hSw; (try dsimp only at hSw); go_simp; (try with_reducible rfl))
            simp only [Act.put, List.setIfInBounds_toArray, List.set_cons_zero, List.set_cons_succ]
            refine wpAnyH_take (i := 8) (oi := { dst := some 41, op := Go.Op.extract (Go.Operand.tmp 33) 2, type := 4, pos := "ref.go:22", after := #[{ on := 5, ground := Go.Ground.data }, { on := 12, ground := Go.Ground.gcOnly Go.Departure.lateStores }], guard := none }) (v := ?v44) rfl (by kernel_rfl) (by kernel_rfl) (by kernel_rfl) (fun _ _ _ h => h) (Or.inl ⟨by rfl, ?hy44⟩) (by assumption) ?rest44
            case hy44 => (intro w hSw; (try dsimp only at hSw); go_simp; (try with_reducible rfl))
            simp only [Act.put, List.setIfInBounds_toArray, List.set_cons_zero, List.set_cons_succ]
            refine wpAnyH_ready (rs := [9]) (by kernel_rfl) (by simp) (AllReadyH.cons (o := { dst := some 10, op := Go.Op.alloc 32, type := 0, pos := "ref.go:22", after := #[], guard := none }) rfl (fun K hK => ?_) AllReadyH.nil)
            have J45 := hid J40.out.al6
            go_simp
            refine hK.out _ _ (HSX.out _ J45.out.below) (fun hHeld => ?_)
            clear hK K J40
            generalize w9.alloc (.cells #[Value.slice none 0 0, .slice none 0 0] 32) = v45 at J45 hHeld ⊢
            refine wpAnyH_ready (rs := [11]) (by kernel_rfl) (by simp) (AllReadyH.cons (o := { dst := none, op := Go.Op.store 32 (Go.Operand.tmp 10) (Go.Operand.tmp 39), type := 0, pos := "ref.go:22", after := #[{ on := 9, ground := Go.Ground.data }, { on := 6, ground := Go.Ground.data }, { on := 4, ground := Go.Ground.chain }, { on := 0, ground := Go.Ground.phase }, { on := 1, ground := Go.Ground.phase }, { on := 2, ground := Go.Ground.phase }, { on := 3, ground := Go.Ground.phase }, { on := 4, ground := Go.Ground.phase }, { on := 5, ground := Go.Ground.phase }, { on := 6, ground := Go.Ground.phase }, { on := 7, ground := Go.Ground.textOnly Go.Departure.lateStores }, { on := 8, ground := Go.Ground.textOnly Go.Departure.lateStores }, { on := 9, ground := Go.Ground.phase }, { on := 10, ground := Go.Ground.phase }], guard := none }) rfl (fun K hK => ?_) AllReadyH.nil)
            have J46 := hid J45.out.st6
            have z := J45.out.zero6
            go_simp
            clear z
            refine hK.out _ _ (HSX.out _ J46.out.below) (fun hHeld => ?_)
            clear hK K J45
            generalize (v45.setCell ⟨w9.heap.size, 0, none⟩ (.slice p1 n c1)).setCell ⟨w9.heap.size, 1, none⟩ (.slice p2 n c2) = v46 at J46 hHeld ⊢
            refine wpAnyH_ready (rs := [12]) (by kernel_rfl) (by simp) (AllReadyH.cons (o := { dst := none, op := Go.Op.store 32 (Go.Operand.tmp 11) (Go.Operand.tmp 40), type := 0, pos := "ref.go:22", after := #[{ on := 10, ground := Go.Ground.data }, { on := 7, ground := Go.Ground.data }, { on := 11, ground := Go.Ground.chain }, { on := 0, ground := Go.Ground.phase }, { on := 1, ground := Go.Ground.phase }, { on := 2, ground := Go.Ground.phase }, { on := 3, ground := Go.Ground.phase }, { on := 4, ground := Go.Ground.phase }, { on := 5, ground := Go.Ground.phase }, { on := 6, ground := Go.Ground.phase }, { on := 7, ground := Go.Ground.phase }, { on := 8, ground := Go.Ground.textOnly Go.Departure.lateStores }, { on := 9, ground := Go.Ground.phase }, { on := 10, ground := Go.Ground.phase }, { on := 11, ground := Go.Ground.phase }], guard := none }) rfl (fun K hK => ?_) AllReadyH.nil)
            have J47 := hid J46.out.st7
            have z := J46.out.zero7
            go_simp
            clear z
            refine hK.out _ _ (HSX.out _ J47.out.below) (fun hHeld => ?_)
            clear hK K J46
            generalize (v46.setCell ⟨v0.heap.size, 0, none⟩ (.slice p3 n c3)).setCell ⟨v0.heap.size, 1, none⟩ (.slice p4 n c4) = v47 at J47 hHeld ⊢
            refine wpAnyH_ready (rs := [13]) (by kernel_rfl) (by simp) (AllReadyH.cons (o := { dst := some 12, op := Go.Op.assign (Go.Operand.tmp 41), type := 4, pos := "ref.go:22", after := #[{ on := 8, ground := Go.Ground.data }, { on := 12, ground := Go.Ground.chain }, { on := 0, ground := Go.Ground.phase }, { on := 1, ground := Go.Ground.phase }, { on := 2, ground := Go.Ground.phase }, { on := 3, ground := Go.Ground.phase }, { on := 4, ground := Go.Ground.phase }, { on := 5, ground := Go.Ground.phase }, { on := 6, ground := Go.Ground.phase }, { on := 7, ground := Go.Ground.phase }, { on := 8, ground := Go.Ground.phase }, { on := 9, ground := Go.Ground.phase }, { on := 10, ground := Go.Ground.phase }, { on := 11, ground := Go.Ground.phase }, { on := 12, ground := Go.Ground.phase }], guard := none }) rfl (fun K hK => ?_) AllReadyH.nil)
            have J48 := J47
            go_simp
            refine hK.out _ _ (HSX.out _ J48.out.below) (fun hHeld => ?_)
            clear hK K J47
            refine wpAnyH_done (by kernel_rfl) ?_ _
            have HJ := hid J48.out.fin; clear J48
            go_wp2_with fail
            go_meet
            exact HJ.out
          ·
            have J49 := hid J39.out.al6
            go_simp
            refine hK.out _ _ (HSX.out _ J49.out.below) (fun hHeld => ?_)
            clear hK K J39
            generalize v39.alloc (.cells #[Value.slice none 0 0, .slice none 0 0] 32) = v49 at J49 hHeld ⊢
            refine wpAnyH_ready (rs := [4]) (by kernel_rfl) (by simp) (AllReadyH.cons (o := { dst := some 38, op := Go.Op.call { callee := Go.Callee.value (Go.Operand.func 46), args := #[Go.Operand.tmp 34, Go.Operand.tmp 37], argTypes := #[32, 3] }, type := 65, pos := "ref.go:22", after := #[{ on := 0, ground := Go.Ground.data }, { on := 3, ground := Go.Ground.data }], guard := none }) rfl (fun K hK => ?_) AllReadyH.nil)
            go_simp
            go_at_call 46
            refine (HH.out _ J49.out.below).mono ?_
            rintro e w9 ⟨p1, c1, p2, c2, p3, c3, p4, c4, rfl, g1, g2, g3, g4, hb⟩
            have J50 := hid (J49.out.call c1 c2 c3 c4 ⟨Pt.all g1, Pt.all g2, Pt.all g3, Pt.all g4⟩ hb)
            clear g1 g2 g3 g4 hb J49
            refine hK.out _ _ (HSX.out _ J50.out.below) (fun hHeld => ?_)
            clear hK K
            refine wpAnyH_take (i := 5) (oi := { dst := some 33, op := Go.Op.move (Go.Operand.tmp 38), type := 65, pos := "ref.go:22", after := #[{ on := 4, ground := Go.Ground.data }], guard := none }) (v := ?v51) rfl (by kernel_rfl) (by kernel_rfl) (by kernel_rfl) (fun _ _ _ h => h) (Or.inl ⟨by rfl, ?hy51⟩) (by assumption) ?rest51
            case hy51 => (intro w hSw; (try dsimp only at hSw); go_simp; (try with_reducible rfl))
            simp only [Act.put, List.setIfInBounds_toArray, List.set_cons_zero, List.set_cons_succ]
            refine wpAnyH_take (i := 6) (oi := { dst := some 39, op := Go.Op.extract (Go.Operand.tmp 33) 0, type := 32, pos := "ref.go:22", after := #[{ on := 5, ground := Go.Ground.data }], guard := none }) (v := ?v52) rfl (by kernel_rfl) (by kernel_rfl) (by kernel_rfl) (fun _ _ _ h => h) (Or.inl ⟨by rfl, ?hy52⟩) (by assumption) ?rest52
            case hy52 => (intro w hSw; (try dsimp only at hSw); go_simp; (try with_reducible rfl))
            simp only [Act.put, List.setIfInBounds_toArray, List.set_cons_zero, List.set_cons_succ]
            refine wpAnyH_take (i := 7) (oi := { dst := some 40, op := Go.Op.extract (Go.Operand.tmp 33) 1, type := 32, pos := "ref.go:22", after := #[{ on := 5, ground := Go.Ground.data }, { on := 11, ground := Go.Ground.gcOnly Go.Departure.lateStores }], guard := none }) (v := ?v53) rfl (by kernel_rfl) (by kernel_rfl) (by kernel_rfl) (fun _ _ _ h => h) (Or.inl ⟨by rfl, ?hy53⟩) (by assumption) ?rest53
            case hy53 => (intro w hSw; (try dsimp only at hSw); go_simp; (try with_reducible rfl))
            simp only [Act.put, List.setIfInBounds_toArray, List.set_cons_zero, List.set_cons_succ]
            refine wpAnyH_take (i := 8) (oi := { dst := some 41, op := Go.Op.extract (Go.Operand.tmp 33) 2, type := 4, pos := "ref.go:22", after := #[{ on := 5, ground := Go.Ground.data }, { on := 12, ground := Go.Ground.gcOnly Go.Departure.lateStores }], guard := none }) (v := ?v54) rfl (by kernel_rfl) (by kernel_rfl) (by kernel_rfl) (fun _ _ _ h => h) (Or.inl ⟨by rfl, ?hy54⟩) (by assumption) ?rest54
            case hy54 => (intro w hSw; (try dsimp only at hSw); go_simp; (try with_reducible rfl))
            simp only [Act.put, List.setIfInBounds_toArray, List.set_cons_zero, List.set_cons_succ]
            refine wpAnyH_ready (rs := [11]) (by kernel_rfl) (by simp) (AllReadyH.cons (o := { dst := none, op := Go.Op.store 32 (Go.Operand.tmp 10) (Go.Operand.tmp 39), type := 0, pos := "ref.go:22", after := #[{ on := 9, ground := Go.Ground.data }, { on := 6, ground := Go.Ground.data }, { on := 4, ground := Go.Ground.chain }, { on := 0, ground := Go.Ground.phase }, { on := 1, ground := Go.Ground.phase }, { on := 2, ground := Go.Ground.phase }, { on := 3, ground := Go.Ground.phase }, { on := 4, ground := Go.Ground.phase }, { on := 5, ground := Go.Ground.phase }, { on := 6, ground := Go.Ground.phase }, { on := 7, ground := Go.Ground.textOnly Go.Departure.lateStores }, { on := 8, ground := Go.Ground.textOnly Go.Departure.lateStores }, { on := 9, ground := Go.Ground.phase }, { on := 10, ground := Go.Ground.phase }], guard := none }) rfl (fun K hK => ?_) AllReadyH.nil)
            have J55 := hid J50.out.st6
            have z := J50.out.zero6
            go_simp
            clear z
            refine hK.out _ _ (HSX.out _ J55.out.below) (fun hHeld => ?_)
            clear hK K J50
            generalize (w9.setCell ⟨v39.heap.size, 0, none⟩ (.slice p1 n c1)).setCell ⟨v39.heap.size, 1, none⟩ (.slice p2 n c2) = v55 at J55 hHeld ⊢
            refine wpAnyH_ready (rs := [12]) (by kernel_rfl) (by simp) (AllReadyH.cons (o := { dst := none, op := Go.Op.store 32 (Go.Operand.tmp 11) (Go.Operand.tmp 40), type := 0, pos := "ref.go:22", after := #[{ on := 10, ground := Go.Ground.data }, { on := 7, ground := Go.Ground.data }, { on := 11, ground := Go.Ground.chain }, { on := 0, ground := Go.Ground.phase }, { on := 1, ground := Go.Ground.phase }, { on := 2, ground := Go.Ground.phase }, { on := 3, ground := Go.Ground.phase }, { on := 4, ground := Go.Ground.phase }, { on := 5, ground := Go.Ground.phase }, { on := 6, ground := Go.Ground.phase }, { on := 7, ground := Go.Ground.phase }, { on := 8, ground := Go.Ground.textOnly Go.Departure.lateStores }, { on := 9, ground := Go.Ground.phase }, { on := 10, ground := Go.Ground.phase }, { on := 11, ground := Go.Ground.phase }], guard := none }) rfl (fun K hK => ?_) AllReadyH.nil)
            have J56 := hid J55.out.st7
            have z := J55.out.zero7
            go_simp
            clear z
            refine hK.out _ _ (HSX.out _ J56.out.below) (fun hHeld => ?_)
            clear hK K J55
            generalize (v55.setCell ⟨v0.heap.size, 0, none⟩ (.slice p3 n c3)).setCell ⟨v0.heap.size, 1, none⟩ (.slice p4 n c4) = v56 at J56 hHeld ⊢
            refine wpAnyH_ready (rs := [13]) (by kernel_rfl) (by simp) (AllReadyH.cons (o := { dst := some 12, op := Go.Op.assign (Go.Operand.tmp 41), type := 4, pos := "ref.go:22", after := #[{ on := 8, ground := Go.Ground.data }, { on := 12, ground := Go.Ground.chain }, { on := 0, ground := Go.Ground.phase }, { on := 1, ground := Go.Ground.phase }, { on := 2, ground := Go.Ground.phase }, { on := 3, ground := Go.Ground.phase }, { on := 4, ground := Go.Ground.phase }, { on := 5, ground := Go.Ground.phase }, { on := 6, ground := Go.Ground.phase }, { on := 7, ground := Go.Ground.phase }, { on := 8, ground := Go.Ground.phase }, { on := 9, ground := Go.Ground.phase }, { on := 10, ground := Go.Ground.phase }, { on := 11, ground := Go.Ground.phase }, { on := 12, ground := Go.Ground.phase }], guard := none }) rfl (fun K hK => ?_) AllReadyH.nil)
            have J57 := J56
            go_simp
            refine hK.out _ _ (HSX.out _ J57.out.below) (fun hHeld => ?_)
            clear hK K J56
            refine wpAnyH_done (by kernel_rfl) ?_ _
            have HJ := hid J57.out.fin; clear J57
            go_wp2_with fail
            go_meet
            exact HJ.out
      case rest =>
      obtain ⟨g, g', p1, k1, p2, k2, p3, k3, p4, k4, rfl, rfl, hg, hg', ⟨hN, hN'⟩, hf, hb⟩ := hcut
      have HV := hid hb
      have HP1 := hid hf.1.pt; have HP2 := hid hf.2.1.pt; have HP3 := hid hf.2.2.1.pt; have HP4 := hid hf.2.2.2.pt
      have hne : g' ≠ w3.heap.size := by have := HGA.out; omega
      have hG := (hb.block _ HGA.out).trans HGG.out
      have x1 := two_cells hg
      have x3 := two_cells hG
      have HR1 := hid (br_again (k := k1) (k' := k2) (HBI.out.trans (hb.mono (Nat.le_of_lt HGA.out))) hG HP1.out HP2.out)
      have HR2 := hid (br_again (k := k3) (k' := k4) HR1.out.2.2 HR1.out.1 (pt_off2 (p' := p1) (q' := p2) (m := n) (d := k1) (m' := n) (d' := k2) HP3.out hG) (pt_off2 (p' := p1) (q' := p2) (m := n) (d := k1) (m' := n) (d' := k2) HP4.out hG))
      have x2 := two_cells (other_two hg' hne (.slice p1 n k1) (.slice p2 n k2))
      have x4 := two_cells HR1.out.1
      clear hf hb hg hg' hN hN' hne hG x0
      rcases hx2 with rfl | rfl
      · have s6 : (t : Int).tmod 2 = 0 := by rw [Int.tmod_eq_emod_of_nonneg (by omega)]; have := HX.out; omega
        rw [HE.out 0 HX.out rfl] at HR1
        go_wp2_with fail
        go_roundw
        case rel => exact ⟨i + 1, p1, p2, k1, k2, by go_num, HIL.out, HR1.out⟩
        case measure => simp [intOf]; have := HIL.out; omega
      · have s6 : (t : Int).tmod 2 = 1 := by rw [Int.tmod_eq_emod_of_nonneg (by omega)]; have := HX.out; omega
        rw [HO.out 1 HX.out rfl] at HR2
        go_wp2_with fail
        go_roundw
        case rel => exact ⟨i + 1, p3, p4, k3, k4, by go_num, HIL.out, HR2.out⟩
        case measure => simp [intOf]; have := HIL.out; omega
    · obtain rfl : i = D := by omega
      rw [Nat.sub_self, Nat.pow_zero, Nat.div_one] at hp hq
      have e1 : decide ((i : Int) < (i : Int)) = false := by simp
      have za := two_cells hg
      have hz : wa.heap[w.heap.size]? = some (.cells #[Value.slice none 0 0, .slice none 0 0] 32 (0, 0)) := by
        have h3 := HS3.out
        rw [hb.block w.heap.size (by omega), HBW.out.block w.heap.size (by omega)]; exact HZ3.out
      have hBw : Below w.heap.size w wa := HB3.out.trans ((HBW.out.trans (hb.mono (Nat.le_refl _))).mono (by have := HS3.out; omega))
      have z := zero_cells hz
      have HS := hid (store_out hBw (Nat.le_refl _) hz hp hq (.slice p n c) (.slice q n c') (by simp))
      clear hg hp hq hb hi hlt hz hBw
      go_wp2_with fail
      have z2 := HS.out.2.2.2
      refine bodyPost_ret (v := .tuple #[.agg #[.slice p n c, .slice q n c'], .int .i64 0]) (by simp [results, Try.results32, go_sem, z2]) rfl ?_
      exact ⟨p, c, q, c', rfl, HS.out.1, HS.out.2.1, HS.out.2.2.1⟩
set_option maxRecDepth 100000 in
set_option maxHeartbeats 4000000 in
theorem refBox_no (dim d a : Int) (w : World) (h : okB dim d a = false) :
    Calls Try.prog 32 #[.int .i64 dim, .int .i64 d, .int .i64 a] w fun e w' => e = .returned (.tuple #[.agg #[.slice none 0 0, .slice none 0 0], .int .i64 1]) ∧ Below w.heap.size w w' := by
  have HC := hid fun (V : World) => refIs_ok d a V
  have HB := hid (below_alloc w (.cells #[Value.slice none 0 0, .slice none 0 0] 32))
  have hz := heap_alloc_new w (.cells #[Value.slice none 0 0, .slice none 0 0] 32)
  have z := zero_cells hz
  clear hz
  by_cases h1 : dim < 1
  · have d1 : decide (dim < 1) = true := by simpa using h1
    clear h HC h1
    go_enter Try.func32, Try.ntmps32
    go_wp2_with fail
    refine bodyPost_ret (v := .tuple #[.agg #[.slice none 0 0, .slice none 0 0], .int .i64 1]) (by simp [results, Try.results32, go_sem]) rfl ?_
    exact ⟨rfl, HB.out⟩
  · have d1 : decide (dim < 1) = false := by simpa using h1
    by_cases h2 : 6 < dim
    · have d2 : decide (6 < dim) = true := by simpa using h2
      clear h HC h1 h2
      go_enter Try.func32, Try.ntmps32
      go_wp2_with fail
      refine bodyPost_ret (v := .tuple #[.agg #[.slice none 0 0, .slice none 0 0], .int .i64 1]) (by simp [results, Try.results32, go_sem]) rfl ?_
      exact ⟨rfl, HB.out⟩
    · have d2 : decide (6 < dim) = false := by simpa using h2
      have e3 : hasA d a = false := by
        unfold okB mayB at h
        rw [decide_eq_true (by omega), decide_eq_true (by omega)] at h
        simpa using h
      rw [e3] at HC
      clear h h1 h2 e3
      go_enter Try.func32, Try.ntmps32
      go_wp2_with fail
      refine (HC.out _).mono ?_
      rintro e w1 ⟨rfl, rfl⟩
      go_wp2_with fail
      refine bodyPost_ret (v := .tuple #[.agg #[.slice none 0 0, .slice none 0 0], .int .i64 1]) (by simp [results, Try.results32, go_sem]) rfl ?_
      exact ⟨rfl, HB.out⟩
end Go.Proofs.Ytalohakibpjmmaa.Ex
