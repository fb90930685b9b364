/- LinearHolds walked: a point is in its chain's box, and in that of neither one beside it; grown, it stays in its chain or goes to the next one. -/
import Derived.Test.YtalohakibpjmmaaLnGrwW
import Derived.Test.YtalohakibpjmmaaLnRef
import Derived.Test.YtalohakibpjmmaaKyOpen
namespace Go.Proofs.Ytalohakibpjmmaa
open Go.RowKit
open Go.Lib (hid)
open Go.ChangeShapes Go.WideShapes Go.Joins Go.Deep
open Go.Proofs.Ytalohakibpjmmaa.Ky
open Go.Proofs.Ytalohakibpjmmaa.Bk
open Go.Proofs.Ytalohakibpjmmaa.Ex
open Go.Proofs.Ytalohakibpjmmaa.Ln
set_option maxRecDepth 100000 in
theorem LinearHolds_open0 {H : Type} {enc : TypeId × Value → H} {W : World} {base : Nat} {v : Value} {d : DataW H} {p : List MemPlace} (hv : Value.okWide Try.prog W .any base 23 v) (h : DataW.Trod enc Try.prog W 0 (fun _ => true) true 23 v d p) : KeyV W v := open_key hv h
/-- a chain's box, and whether a point is in it -/
theorem box_in {n L X C : Nat} (hn : 1 ≤ n ∧ n ≤ 6) (hL : L ≤ 10) (hX : X < 2 ^ L) (hC : C < 2 ^ L + X) {k : List Nat} (hk : k.length = n) (hf : ∀ y ∈ k, y < 4294967296) :
    bB (n : Int) (L : Int) (X : Int) (C : Int) = true ∧ inB k (bL (n : Int) (L : Int) (X : Int) (C : Int)).1 (bL (n : Int) (L : Int) (X : Int) (C : Int)).2 = decide (C = fnd k L X) := by
  refine ⟨bB_iff.2 ⟨n, L, X, C, rfl, hn.1, hn.2, rfl, hL, rfl, hX, rfl, hC⟩, ?_⟩
  rw [bL_yes hn hL hX hC, in_cell hn hk hf _ _ (by have := dep_le (L := L) (X := X) (c := C) hL; omega) (adr_lt hX hC)]
  exact decide_eq_decide.2 fnd_iff
/-- a chain that there isn't -/
theorem box_out {n L X : Nat} {c : Int} (hc : c < 0 ∨ ((2 ^ L + X : Nat) : Int) ≤ c) : bB (n : Int) (L : Int) (X : Int) c = false := by
  cases h : bB (n : Int) (L : Int) (X : Int) c with
  | false => rfl
  | true =>
    obtain ⟨n', L', X', C, h1, _, _, h2, _, h3, _, h4, h5⟩ := bB_iff.1 h
    obtain rfl : L = L' := by omega
    obtain rfl : X = X' := by omega
    omega
theorem bL_len (dim l x c : Int) : (bL dim l x c).1.length ≤ 1000000 ∧ (bL dim l x c).2.length ≤ 1000000 := by
  unfold bL; split
  · exact bxL_len _ _ _
  · simp
/-- where a point goes -/
theorem fnd_grown {k : List Nat} {L X : Nat} (hL : L ≤ 9) (hX : X < 2 ^ L) :
    ∃ L' X' : Nat, grA (L : Int) (X : Int) = (L' : Int) ∧ grX (L : Int) (X : Int) = (X' : Int) ∧ grC (L : Int) (X : Int) = ((2 * X : Nat) : Int) ∧
      ((fnd k L X < 2 * X ∧ fnd k L' X' = fnd k L X) ∨ (2 * X < fnd k L X ∧ fnd k L' X' = fnd k L X + 1) ∨ (fnd k L X = 2 * X ∧ fnd k L' X' = fnd k L X) ∨ (fnd k L X = 2 * X ∧ fnd k L' X' = fnd k L X + 1)) := by
  have hv : lvB (L : Int) (X : Int) = true := lvB_iff.2 ⟨L, X, rfl, by omega, rfl, hX⟩
  have h10 : (L : Int) ≠ 10 := by omega
  have eA : grA (L : Int) (X : Int) = if (X : Int) + 1 = ((2 ^ L : Nat) : Int) then (L : Int) + 1 else (L : Int) := by unfold grA; rw [if_pos ⟨hv, h10⟩, Int.toNat_natCast]
  have eX : grX (L : Int) (X : Int) = if (X : Int) + 1 = ((2 ^ L : Nat) : Int) then 0 else (X : Int) + 1 := by unfold grX; rw [if_pos ⟨hv, h10⟩, Int.toNat_natCast]
  have eC : grC (L : Int) (X : Int) = 2 * (X : Int) := by unfold grC; rw [if_pos ⟨hv, h10⟩]
  have h1 := bits_lt k L
  have h2 := bits_half k L
  by_cases hq : (X : Int) + 1 = ((2 ^ L : Nat) : Int)
  · rw [if_pos hq] at eA eX
    refine ⟨L + 1, 0, by omega, by omega, by omega, ?_⟩
    rw [show fnd k (L + 1) 0 = bitsK k (L + 1) by unfold fnd; rw [if_neg (by omega)]; omega]
    unfold fnd
    split <;> omega
  · rw [if_neg hq] at eA eX
    refine ⟨L, X + 1, by omega, by omega, by omega, ?_⟩
    unfold fnd
    split <;> split <;> omega
set_option maxHeartbeats 1000000 in
/-- a point of too many coordinates -/
theorem bits_far {n : Nat} (p : Option Addr) (c : Nat) (d : Int) (w : World) (h : mayN n = false) :
    Calls Try.prog 39 #[.slice p n c, .int .i64 d] w fun e w' => e = .returned (.tuple #[.int .i64 0, .int .i64 1]) ∧ w = w' := by
  have HC := hid fun w' : World => check_ok p n c (n : Int) w'
  rw [check_self, h, err_false false rfl] at HC
  clear h
  go_enter Try.func39, Try.ntmps39
  go_wp2_with fail
  refine (HC.out _).mono ?_
  rintro e w1 ⟨rfl, rfl⟩
  go_wp2_with fail
  go_ret2
  exact ⟨rfl, rfl⟩
set_option maxHeartbeats 1000000 in
theorem find_far {n : Nat} (p : Option Addr) (c : Nat) (d : Int) (w : World) (h : mayN n = false) :
    Calls Try.prog 27 #[.slice p n c, .int .i64 d] w fun e w' => e = .returned (.tuple #[.int .i64 0, .int .i64 1]) ∧ w = w' := by
  have HC := hid fun w' : World => mayD_ok d w'
  have HB := hid (bits_far p c d w h)
  clear h
  cases hm : mayD d with
  | false =>
    rw [hm] at HC
    clear hm HB
    go_enter Try.func27, Try.ntmps27
    go_wp2_with fail
    refine (HC.out _).mono ?_
    rintro e w' ⟨rfl, rfl⟩
    go_wp2_with fail
    go_ret2
    exact ⟨rfl, rfl⟩
  | true =>
    rw [hm] at HC
    clear hm
    go_enter Try.func27, Try.ntmps27
    go_wp2_with fail
    refine (HC.out _).mono ?_
    rintro e w' ⟨rfl, rfl⟩
    go_wp2_with fail
    refine HB.out.mono ?_
    rintro e w' ⟨rfl, rfl⟩
    go_wp2_with fail
    go_ret2
    exact ⟨rfl, rfl⟩
set_option maxHeartbeats 1000000 in
theorem findL_far {n : Nat} (p : Option Addr) (c : Nat) (l x : Int) (w : World) (h : mayN n = false) :
    Calls Try.prog 12 #[.slice p n c, .int .i64 l, .int .i64 x] w fun e w' => e = .returned (.tuple #[.int .i64 0, .int .i64 1]) ∧ w = w' := by
  have HC := hid fun w' : World => lvB_ok l x w'
  have HB := hid (find_far p c l w h)
  clear h
  cases hm : lvB l x with
  | false =>
    rw [hm] at HC
    clear hm HB
    go_enter Try.func12, Try.ntmps12
    go_wp2_with fail
    refine (HC.out _).mono ?_
    rintro e w' ⟨rfl, rfl⟩
    go_wp2_with fail
    go_ret2
    exact ⟨rfl, rfl⟩
  | true =>
    rw [hm] at HC
    clear hm
    go_enter Try.func12, Try.ntmps12
    go_wp2_with fail
    refine (HC.out _).mono ?_
    rintro e w' ⟨rfl, rfl⟩
    go_wp2_with fail
    refine HB.out.mono ?_
    rintro e w' ⟨rfl, rfl⟩
    go_wp2_with fail
    go_ret2
    exact ⟨rfl, rfl⟩
set_option maxRecDepth 100000 in
set_option maxHeartbeats 4000000 in
theorem holds_far {n : Nat} (p : Option Addr) (c : Nat) (l x : Int) (w : World) (h : mayN n = false) :
    Calls Try.prog 7 #[.slice p n c, .int .i64 l, .int .i64 x] w fun e w' => e = .returned (.bool true) ∧ Below w.heap.size w w' := by
  have HF := hid (findL_far p c l x w h)
  clear h
  go_enter Try.func7, Try.ntmps7
  go_wp2_with fail
  refine HF.out.mono ?_
  rintro e w1 ⟨rfl, rfl⟩
  go_wp2_with fail
  refine (Ln.live_any _).mono ?_
  rintro e w2 ⟨rfl, hb⟩
  have H2 := hid hb; clear hb
  go_wp2_with fail
  go_ret
  exact ⟨rfl, H2.out⟩
set_option maxRecDepth 100000 in
set_option maxHeartbeats 4000000 in
theorem holds_out (k : List Nat) (p : Option Addr) (c : Nat) (l x : Int) (w : World) (hp : Pt w p k) (hl : k.length ≤ 6) (h : fB k l x = false ∨ 9 < l) :
    Calls Try.prog 7 #[.slice p k.length c, .int .i64 l, .int .i64 x] w fun e w' => e = .returned (.bool true) ∧ Below w.heap.size w w' := by
  have HF := hid (findL_ok k p c l x w hp (by omega))
  cases hb : fB k l x with
  | false =>
    rw [hb, err_false false rfl] at HF
    generalize fV k l x = f at HF
    clear hp hl h hb
    go_enter Try.func7, Try.ntmps7
    go_wp2_with fail
    refine HF.out.mono ?_
    rintro e w1 ⟨rfl, m, hw⟩
    have H1 := hid (show Below w.heap.size w w1 by rw [hw]; exact below_drewN (Below.refl _ _) m); clear hw
    go_wp2_with fail
    refine (Ln.live_any _).mono ?_
    rintro e w2 ⟨rfl, hb⟩
    have H2 := hid (H1.out.trans (hb.mono H1.out.size)); clear hb
    go_wp2_with fail
    go_ret
    exact ⟨rfl, H2.out⟩
  | true =>
    rw [hb, err_true true rfl] at HF
    generalize fV k l x = f at HF
    have e1 : decide (9 < l) = true := by
      rcases h with h | h
      · rw [hb] at h; cases h
      · simpa using h
    clear hp hl h hb
    go_enter Try.func7, Try.ntmps7
    go_wp2_with fail
    refine HF.out.mono ?_
    rintro e w1 ⟨rfl, m, hw⟩
    have H1 := hid (show Below w.heap.size w w1 by rw [hw]; exact below_drewN (Below.refl _ _) m); clear hw
    go_wp2_with fail
    refine (Ln.live_any _).mono ?_
    rintro e w2 ⟨rfl, hb⟩
    have H2 := hid (H1.out.trans (hb.mono H1.out.size)); clear hb
    go_wp2_with fail
    go_ret
    exact ⟨rfl, H2.out⟩

set_option maxRecDepth 100000 in
set_option maxHeartbeats 4000000 in
theorem holds_00lt (k : List Nat) (p : Option Addr) (c n f g s : Nat) (l x l' x' : Int) (l2 u2 l4 u4 l5 u5 : List Nat) (w : World) (hp : Pt w p k) (hk : k.length = n) (hn : n ≤ 6) (hl : decide (9 < l) = false) (hf : f ≤ 4096)
    (HF : Calls Try.prog 12 #[.slice p n c, .int .i64 l, .int .i64 x] w fun e w' => e = .returned (.tuple #[.int .i64 (f : Int), .int .i64 0]) ∧ ∃ m, w' = w.drewN m)
    (HB2 : ∀ V : World, Calls Try.prog 14 #[.int .i64 (n : Int), .int .i64 l, .int .i64 x, .int .i64 (f : Int)] V (AnyBox V (l2, u2) 0)) (hi2 : inB k l2 u2 = true)
    (HB4 : ∀ V : World, Calls Try.prog 14 #[.int .i64 (n : Int), .int .i64 l, .int .i64 x, .int .i64 ((f : Int) + 1)] V (AnyBox V (l4, u4) 1))
    (HB5 : ∀ V : World, Calls Try.prog 14 #[.int .i64 (n : Int), .int .i64 l, .int .i64 x, .int .i64 ((f : Int) - 1)] V (AnyBox V (l5, u5) 1))
    (HG : ∀ V : World, Calls Try.prog 20 #[.int .i64 l, .int .i64 x] V fun e w' => e = .returned (.tuple #[.int .i64 l', .int .i64 x', .int .i64 (s : Int), .int .i64 0]) ∧ V = w')
    (HN : ∀ V : World, Pt V p k → Calls Try.prog 12 #[.slice p n c, .int .i64 l', .int .i64 x'] V fun e w' => e = .returned (.tuple #[.int .i64 (g : Int), .int .i64 0]) ∧ ∃ m, w' = V.drewN m)
    (hs : (f < s ∧ g = f)) :
    Calls Try.prog 7 #[.slice p n c, .int .i64 l, .int .i64 x] w fun e w' => e = .returned (.bool true) ∧ Below w.heap.size w w' := by
  unfold AnyBox at HB2 HB4 HB5
  have HF := hid HF; have HB2 := hid HB2; have HB4 := hid HB4; have HB5 := hid HB5; have HG := hid HG; have HN := hid HN
  have HP := hid hp
  have HI2 := hid (show ∀ (p' q' : Option Addr) (a b : Nat) (V : World), Pt V p k → Pt V p' l2 → Pt V q' u2 → Calls Try.prog 24 #[.slice p n c, .agg #[.slice p' l2.length a, .slice q' u2.length b]] V fun e w' => e = .returned (.bool true) ∧ Below V.heap.size V w' from fun p' q' a b V g0 g1 g2 => by have := refIn_ok k l2 u2 p p' q' c a b V g0 g1 g2 (by omega); rw [hk, hi2] at this; exact this)
  have s1 : IntKind.i64.wrap ((f : Int) + 1) = (f : Int) + 1 := Go.IntWalk.i64_in _ (by omega)
  have s2 : IntKind.i64.wrap ((f : Int) - 1) = (f : Int) - 1 := Go.IntWalk.i64_in _ (by omega)
  have n1 : decide ((6 : Int) < (n : Int)) = false := by simp; omega
  have n2 : decide (6 < n) = false := by simp; omega
  obtain rfl : g = f := hs.2
  have d1 : decide ((g : Int) < (s : Int)) = true := by simpa using hs.1
  have d1' : decide (g < s) = true := by simpa using hs.1
  clear hp hk hn hf hs hi2
  go_enter Try.func7, Try.ntmps7
  go_wp2_with fail
  refine HF.out.mono ?_
  rintro e w1 ⟨rfl, m, hw⟩
  have H1 := hid (show Below w.heap.size w w1 by rw [hw]; exact below_drewN (Below.refl _ _) m); clear hw
  go_wp2_with fail
  refine (HB2.out _).mono ?_
  rintro e w2 ⟨p2, c2, q2, d2, rfl, h1, h2, hb⟩
  obtain ⟨V2, hV2⟩ : ∃ V, w2.alloc (.cells #[Value.slice p2 l2.length c2, .slice q2 u2.length d2] 32) = V := ⟨_, rfl⟩
  have B2 := hid (show Below w.heap.size w V2 by rw [← hV2]; exact (H1.out.trans (hb.mono H1.out.size)).alloc (H1.out.trans (hb.mono H1.out.size)).size _)
  have S2 := hid (show Below w1.heap.size w1 V2 by rw [← hV2]; exact hb.alloc hb.size _)
  have P2 := hid (show Pt V2 p2 _ by rw [← hV2]; exact h1.alloc _)
  have Q2 := hid (show Pt V2 q2 _ by rw [← hV2]; exact h2.alloc _)
  have G2 := hid (show V2.heap[w2.heap.size]? = some (.cells #[Value.slice p2 l2.length c2, .slice q2 u2.length d2] 32 (0, 0)) by rw [← hV2]; exact heap_alloc_new _ _)
  clear hb h1 h2
  have x2 := two_cells G2.out
  go_wp2_with fail
  refine (HI2.out p2 q2 c2 d2 V2 (HP.out.below B2.out) P2.out Q2.out).mono ?_
  rintro e w3 ⟨rfl, hb⟩
  have H3 := hid (B2.out.trans (hb.mono B2.out.size)); clear hb x2 hV2
  go_wp2_with fail
  refine (HB4.out _).mono ?_
  rintro e w4 ⟨p4, c4, q4, d4, rfl, h1, h2, hb⟩
  obtain ⟨V4, hV4⟩ : ∃ V, w4.alloc (.cells #[Value.slice p4 l4.length c4, .slice q4 u4.length d4] 32) = V := ⟨_, rfl⟩
  have B4 := hid (show Below w.heap.size w V4 by rw [← hV4]; exact (H3.out.trans (hb.mono H3.out.size)).alloc (H3.out.trans (hb.mono H3.out.size)).size _)
  have S4 := hid (show Below w3.heap.size w3 V4 by rw [← hV4]; exact hb.alloc hb.size _)
  have P4 := hid (show Pt V4 p4 _ by rw [← hV4]; exact h1.alloc _)
  have Q4 := hid (show Pt V4 q4 _ by rw [← hV4]; exact h2.alloc _)
  have G4 := hid (show V4.heap[w4.heap.size]? = some (.cells #[Value.slice p4 l4.length c4, .slice q4 u4.length d4] 32 (0, 0)) by rw [← hV4]; exact heap_alloc_new _ _)
  clear hb h1 h2
  go_wp2_with fail
  refine (HB5.out _).mono ?_
  rintro e w5 ⟨p5, c5, q5, d5, rfl, h1, h2, hb⟩
  obtain ⟨V5, hV5⟩ : ∃ V, w5.alloc (.cells #[Value.slice p5 l5.length c5, .slice q5 u5.length d5] 32) = V := ⟨_, rfl⟩
  have B5 := hid (show Below w.heap.size w V5 by rw [← hV5]; exact (B4.out.trans (hb.mono B4.out.size)).alloc (B4.out.trans (hb.mono B4.out.size)).size _)
  have S5 := hid (show Below V4.heap.size V4 V5 by rw [← hV5]; exact hb.alloc hb.size _)
  have P5 := hid (show Pt V5 p5 _ by rw [← hV5]; exact h1.alloc _)
  have Q5 := hid (show Pt V5 q5 _ by rw [← hV5]; exact h2.alloc _)
  have G5 := hid (show V5.heap[w5.heap.size]? = some (.cells #[Value.slice p5 l5.length c5, .slice q5 u5.length d5] 32 (0, 0)) by rw [← hV5]; exact heap_alloc_new _ _)
  clear hb h1 h2
  have G45 := hid ((S5.out.block _ (lt_of G4.out)).trans G4.out)
  have x4 := two_cells G45.out
  have x5 := two_cells G5.out
  clear hV4
  go_wp2_with fail
  refine (HG.out _).mono ?_
  rintro e w8 ⟨rfl, hw8⟩
  have B8 := hid (show Below w.heap.size w w8 by rw [← hw8]; exact B5.out); clear hw8
  clear x4 x5 hV5
  go_wp2_with fail
  refine (HN.out w8 (HP.out.below B8.out)).mono ?_
  rintro e w9 ⟨rfl, m9, hw⟩
  have B9 := hid (show Below w.heap.size w w9 by rw [hw]; exact below_drewN B8.out m9); clear hw
  go_wp2_with fail
  refine (Ln.live_any _).mono ?_
  rintro e w10 ⟨rfl, hb⟩
  have B10 := hid (B9.out.trans (hb.mono B9.out.size)); clear hb
  go_wp2_with fail
  go_ret
  exact ⟨rfl, B10.out⟩
set_option maxRecDepth 100000 in
set_option maxHeartbeats 4000000 in
theorem holds_00gt (k : List Nat) (p : Option Addr) (c n f g s : Nat) (l x l' x' : Int) (l2 u2 l4 u4 l5 u5 : List Nat) (w : World) (hp : Pt w p k) (hk : k.length = n) (hn : n ≤ 6) (hl : decide (9 < l) = false) (hf : f ≤ 4096)
    (HF : Calls Try.prog 12 #[.slice p n c, .int .i64 l, .int .i64 x] w fun e w' => e = .returned (.tuple #[.int .i64 (f : Int), .int .i64 0]) ∧ ∃ m, w' = w.drewN m)
    (HB2 : ∀ V : World, Calls Try.prog 14 #[.int .i64 (n : Int), .int .i64 l, .int .i64 x, .int .i64 (f : Int)] V (AnyBox V (l2, u2) 0)) (hi2 : inB k l2 u2 = true)
    (HB4 : ∀ V : World, Calls Try.prog 14 #[.int .i64 (n : Int), .int .i64 l, .int .i64 x, .int .i64 ((f : Int) + 1)] V (AnyBox V (l4, u4) 1))
    (HB5 : ∀ V : World, Calls Try.prog 14 #[.int .i64 (n : Int), .int .i64 l, .int .i64 x, .int .i64 ((f : Int) - 1)] V (AnyBox V (l5, u5) 1))
    (HG : ∀ V : World, Calls Try.prog 20 #[.int .i64 l, .int .i64 x] V fun e w' => e = .returned (.tuple #[.int .i64 l', .int .i64 x', .int .i64 (s : Int), .int .i64 0]) ∧ V = w')
    (HN : ∀ V : World, Pt V p k → Calls Try.prog 12 #[.slice p n c, .int .i64 l', .int .i64 x'] V fun e w' => e = .returned (.tuple #[.int .i64 (g : Int), .int .i64 0]) ∧ ∃ m, w' = V.drewN m)
    (hs : (s < f ∧ g = f + 1)) :
    Calls Try.prog 7 #[.slice p n c, .int .i64 l, .int .i64 x] w fun e w' => e = .returned (.bool true) ∧ Below w.heap.size w w' := by
  unfold AnyBox at HB2 HB4 HB5
  have HF := hid HF; have HB2 := hid HB2; have HB4 := hid HB4; have HB5 := hid HB5; have HG := hid HG; have HN := hid HN
  have HP := hid hp
  have HI2 := hid (show ∀ (p' q' : Option Addr) (a b : Nat) (V : World), Pt V p k → Pt V p' l2 → Pt V q' u2 → Calls Try.prog 24 #[.slice p n c, .agg #[.slice p' l2.length a, .slice q' u2.length b]] V fun e w' => e = .returned (.bool true) ∧ Below V.heap.size V w' from fun p' q' a b V g0 g1 g2 => by have := refIn_ok k l2 u2 p p' q' c a b V g0 g1 g2 (by omega); rw [hk, hi2] at this; exact this)
  have s1 : IntKind.i64.wrap ((f : Int) + 1) = (f : Int) + 1 := Go.IntWalk.i64_in _ (by omega)
  have s2 : IntKind.i64.wrap ((f : Int) - 1) = (f : Int) - 1 := Go.IntWalk.i64_in _ (by omega)
  have n1 : decide ((6 : Int) < (n : Int)) = false := by simp; omega
  have n2 : decide (6 < n) = false := by simp; omega
  obtain rfl : g = f + 1 := hs.2
  rw [show ((f + 1 : Nat) : Int) = (f : Int) + 1 by omega] at HN
  have d1 : decide ((f : Int) < (s : Int)) = false := by simp; omega
  have d1' : decide (f < s) = false := by simp; omega
  have d2 : decide ((s : Int) < (f : Int)) = true := by simpa using hs.1
  have d2' : decide (s < f) = true := by simpa using hs.1
  clear hp hk hn hf hs hi2
  go_enter Try.func7, Try.ntmps7
  go_wp2_with fail
  refine HF.out.mono ?_
  rintro e w1 ⟨rfl, m, hw⟩
  have H1 := hid (show Below w.heap.size w w1 by rw [hw]; exact below_drewN (Below.refl _ _) m); clear hw
  go_wp2_with fail
  refine (HB2.out _).mono ?_
  rintro e w2 ⟨p2, c2, q2, d2, rfl, h1, h2, hb⟩
  obtain ⟨V2, hV2⟩ : ∃ V, w2.alloc (.cells #[Value.slice p2 l2.length c2, .slice q2 u2.length d2] 32) = V := ⟨_, rfl⟩
  have B2 := hid (show Below w.heap.size w V2 by rw [← hV2]; exact (H1.out.trans (hb.mono H1.out.size)).alloc (H1.out.trans (hb.mono H1.out.size)).size _)
  have S2 := hid (show Below w1.heap.size w1 V2 by rw [← hV2]; exact hb.alloc hb.size _)
  have P2 := hid (show Pt V2 p2 _ by rw [← hV2]; exact h1.alloc _)
  have Q2 := hid (show Pt V2 q2 _ by rw [← hV2]; exact h2.alloc _)
  have G2 := hid (show V2.heap[w2.heap.size]? = some (.cells #[Value.slice p2 l2.length c2, .slice q2 u2.length d2] 32 (0, 0)) by rw [← hV2]; exact heap_alloc_new _ _)
  clear hb h1 h2
  have x2 := two_cells G2.out
  go_wp2_with fail
  refine (HI2.out p2 q2 c2 d2 V2 (HP.out.below B2.out) P2.out Q2.out).mono ?_
  rintro e w3 ⟨rfl, hb⟩
  have H3 := hid (B2.out.trans (hb.mono B2.out.size)); clear hb x2 hV2
  go_wp2_with fail
  refine (HB4.out _).mono ?_
  rintro e w4 ⟨p4, c4, q4, d4, rfl, h1, h2, hb⟩
  obtain ⟨V4, hV4⟩ : ∃ V, w4.alloc (.cells #[Value.slice p4 l4.length c4, .slice q4 u4.length d4] 32) = V := ⟨_, rfl⟩
  have B4 := hid (show Below w.heap.size w V4 by rw [← hV4]; exact (H3.out.trans (hb.mono H3.out.size)).alloc (H3.out.trans (hb.mono H3.out.size)).size _)
  have S4 := hid (show Below w3.heap.size w3 V4 by rw [← hV4]; exact hb.alloc hb.size _)
  have P4 := hid (show Pt V4 p4 _ by rw [← hV4]; exact h1.alloc _)
  have Q4 := hid (show Pt V4 q4 _ by rw [← hV4]; exact h2.alloc _)
  have G4 := hid (show V4.heap[w4.heap.size]? = some (.cells #[Value.slice p4 l4.length c4, .slice q4 u4.length d4] 32 (0, 0)) by rw [← hV4]; exact heap_alloc_new _ _)
  clear hb h1 h2
  go_wp2_with fail
  refine (HB5.out _).mono ?_
  rintro e w5 ⟨p5, c5, q5, d5, rfl, h1, h2, hb⟩
  obtain ⟨V5, hV5⟩ : ∃ V, w5.alloc (.cells #[Value.slice p5 l5.length c5, .slice q5 u5.length d5] 32) = V := ⟨_, rfl⟩
  have B5 := hid (show Below w.heap.size w V5 by rw [← hV5]; exact (B4.out.trans (hb.mono B4.out.size)).alloc (B4.out.trans (hb.mono B4.out.size)).size _)
  have S5 := hid (show Below V4.heap.size V4 V5 by rw [← hV5]; exact hb.alloc hb.size _)
  have P5 := hid (show Pt V5 p5 _ by rw [← hV5]; exact h1.alloc _)
  have Q5 := hid (show Pt V5 q5 _ by rw [← hV5]; exact h2.alloc _)
  have G5 := hid (show V5.heap[w5.heap.size]? = some (.cells #[Value.slice p5 l5.length c5, .slice q5 u5.length d5] 32 (0, 0)) by rw [← hV5]; exact heap_alloc_new _ _)
  clear hb h1 h2
  have G45 := hid ((S5.out.block _ (lt_of G4.out)).trans G4.out)
  have x4 := two_cells G45.out
  have x5 := two_cells G5.out
  clear hV4
  go_wp2_with fail
  refine (HG.out _).mono ?_
  rintro e w8 ⟨rfl, hw8⟩
  have B8 := hid (show Below w.heap.size w w8 by rw [← hw8]; exact B5.out); clear hw8
  clear x4 x5 hV5
  go_wp2_with fail
  refine (HN.out w8 (HP.out.below B8.out)).mono ?_
  rintro e w9 ⟨rfl, m9, hw⟩
  have B9 := hid (show Below w.heap.size w w9 by rw [hw]; exact below_drewN B8.out m9); clear hw
  go_wp2_with fail
  refine (Ln.live_any _).mono ?_
  rintro e w10 ⟨rfl, hb⟩
  have B10 := hid (B9.out.trans (hb.mono B9.out.size)); clear hb
  go_wp2_with fail
  go_ret
  exact ⟨rfl, B10.out⟩
set_option maxRecDepth 100000 in
set_option maxHeartbeats 4000000 in
theorem holds_00es (k : List Nat) (p : Option Addr) (c n f g s : Nat) (l x l' x' : Int) (l2 u2 l4 u4 l5 u5 : List Nat) (w : World) (hp : Pt w p k) (hk : k.length = n) (hn : n ≤ 6) (hl : decide (9 < l) = false) (hf : f ≤ 4096)
    (HF : Calls Try.prog 12 #[.slice p n c, .int .i64 l, .int .i64 x] w fun e w' => e = .returned (.tuple #[.int .i64 (f : Int), .int .i64 0]) ∧ ∃ m, w' = w.drewN m)
    (HB2 : ∀ V : World, Calls Try.prog 14 #[.int .i64 (n : Int), .int .i64 l, .int .i64 x, .int .i64 (f : Int)] V (AnyBox V (l2, u2) 0)) (hi2 : inB k l2 u2 = true)
    (HB4 : ∀ V : World, Calls Try.prog 14 #[.int .i64 (n : Int), .int .i64 l, .int .i64 x, .int .i64 ((f : Int) + 1)] V (AnyBox V (l4, u4) 1))
    (HB5 : ∀ V : World, Calls Try.prog 14 #[.int .i64 (n : Int), .int .i64 l, .int .i64 x, .int .i64 ((f : Int) - 1)] V (AnyBox V (l5, u5) 1))
    (HG : ∀ V : World, Calls Try.prog 20 #[.int .i64 l, .int .i64 x] V fun e w' => e = .returned (.tuple #[.int .i64 l', .int .i64 x', .int .i64 (s : Int), .int .i64 0]) ∧ V = w')
    (HN : ∀ V : World, Pt V p k → Calls Try.prog 12 #[.slice p n c, .int .i64 l', .int .i64 x'] V fun e w' => e = .returned (.tuple #[.int .i64 (g : Int), .int .i64 0]) ∧ ∃ m, w' = V.drewN m)
    (hs : (f = s ∧ g = f)) :
    Calls Try.prog 7 #[.slice p n c, .int .i64 l, .int .i64 x] w fun e w' => e = .returned (.bool true) ∧ Below w.heap.size w w' := by
  unfold AnyBox at HB2 HB4 HB5
  have HF := hid HF; have HB2 := hid HB2; have HB4 := hid HB4; have HB5 := hid HB5; have HG := hid HG; have HN := hid HN
  have HP := hid hp
  have HI2 := hid (show ∀ (p' q' : Option Addr) (a b : Nat) (V : World), Pt V p k → Pt V p' l2 → Pt V q' u2 → Calls Try.prog 24 #[.slice p n c, .agg #[.slice p' l2.length a, .slice q' u2.length b]] V fun e w' => e = .returned (.bool true) ∧ Below V.heap.size V w' from fun p' q' a b V g0 g1 g2 => by have := refIn_ok k l2 u2 p p' q' c a b V g0 g1 g2 (by omega); rw [hk, hi2] at this; exact this)
  have s1 : IntKind.i64.wrap ((f : Int) + 1) = (f : Int) + 1 := Go.IntWalk.i64_in _ (by omega)
  have s2 : IntKind.i64.wrap ((f : Int) - 1) = (f : Int) - 1 := Go.IntWalk.i64_in _ (by omega)
  have n1 : decide ((6 : Int) < (n : Int)) = false := by simp; omega
  have n2 : decide (6 < n) = false := by simp; omega
  obtain rfl : f = s := hs.1
  obtain rfl : g = f := hs.2
  have d1 : decide ((g : Int) < (g : Int)) = false := by simp
  have d1' : decide (g < g) = false := by simp
  clear hp hk hn hf hs hi2
  go_enter Try.func7, Try.ntmps7
  go_wp2_with fail
  refine HF.out.mono ?_
  rintro e w1 ⟨rfl, m, hw⟩
  have H1 := hid (show Below w.heap.size w w1 by rw [hw]; exact below_drewN (Below.refl _ _) m); clear hw
  go_wp2_with fail
  refine (HB2.out _).mono ?_
  rintro e w2 ⟨p2, c2, q2, d2, rfl, h1, h2, hb⟩
  obtain ⟨V2, hV2⟩ : ∃ V, w2.alloc (.cells #[Value.slice p2 l2.length c2, .slice q2 u2.length d2] 32) = V := ⟨_, rfl⟩
  have B2 := hid (show Below w.heap.size w V2 by rw [← hV2]; exact (H1.out.trans (hb.mono H1.out.size)).alloc (H1.out.trans (hb.mono H1.out.size)).size _)
  have S2 := hid (show Below w1.heap.size w1 V2 by rw [← hV2]; exact hb.alloc hb.size _)
  have P2 := hid (show Pt V2 p2 _ by rw [← hV2]; exact h1.alloc _)
  have Q2 := hid (show Pt V2 q2 _ by rw [← hV2]; exact h2.alloc _)
  have G2 := hid (show V2.heap[w2.heap.size]? = some (.cells #[Value.slice p2 l2.length c2, .slice q2 u2.length d2] 32 (0, 0)) by rw [← hV2]; exact heap_alloc_new _ _)
  clear hb h1 h2
  have x2 := two_cells G2.out
  go_wp2_with fail
  refine (HI2.out p2 q2 c2 d2 V2 (HP.out.below B2.out) P2.out Q2.out).mono ?_
  rintro e w3 ⟨rfl, hb⟩
  have H3 := hid (B2.out.trans (hb.mono B2.out.size)); clear hb x2 hV2
  go_wp2_with fail
  refine (HB4.out _).mono ?_
  rintro e w4 ⟨p4, c4, q4, d4, rfl, h1, h2, hb⟩
  obtain ⟨V4, hV4⟩ : ∃ V, w4.alloc (.cells #[Value.slice p4 l4.length c4, .slice q4 u4.length d4] 32) = V := ⟨_, rfl⟩
  have B4 := hid (show Below w.heap.size w V4 by rw [← hV4]; exact (H3.out.trans (hb.mono H3.out.size)).alloc (H3.out.trans (hb.mono H3.out.size)).size _)
  have S4 := hid (show Below w3.heap.size w3 V4 by rw [← hV4]; exact hb.alloc hb.size _)
  have P4 := hid (show Pt V4 p4 _ by rw [← hV4]; exact h1.alloc _)
  have Q4 := hid (show Pt V4 q4 _ by rw [← hV4]; exact h2.alloc _)
  have G4 := hid (show V4.heap[w4.heap.size]? = some (.cells #[Value.slice p4 l4.length c4, .slice q4 u4.length d4] 32 (0, 0)) by rw [← hV4]; exact heap_alloc_new _ _)
  clear hb h1 h2
  go_wp2_with fail
  refine (HB5.out _).mono ?_
  rintro e w5 ⟨p5, c5, q5, d5, rfl, h1, h2, hb⟩
  obtain ⟨V5, hV5⟩ : ∃ V, w5.alloc (.cells #[Value.slice p5 l5.length c5, .slice q5 u5.length d5] 32) = V := ⟨_, rfl⟩
  have B5 := hid (show Below w.heap.size w V5 by rw [← hV5]; exact (B4.out.trans (hb.mono B4.out.size)).alloc (B4.out.trans (hb.mono B4.out.size)).size _)
  have S5 := hid (show Below V4.heap.size V4 V5 by rw [← hV5]; exact hb.alloc hb.size _)
  have P5 := hid (show Pt V5 p5 _ by rw [← hV5]; exact h1.alloc _)
  have Q5 := hid (show Pt V5 q5 _ by rw [← hV5]; exact h2.alloc _)
  have G5 := hid (show V5.heap[w5.heap.size]? = some (.cells #[Value.slice p5 l5.length c5, .slice q5 u5.length d5] 32 (0, 0)) by rw [← hV5]; exact heap_alloc_new _ _)
  clear hb h1 h2
  have G45 := hid ((S5.out.block _ (lt_of G4.out)).trans G4.out)
  have x4 := two_cells G45.out
  have x5 := two_cells G5.out
  clear hV4
  go_wp2_with fail
  refine (HG.out _).mono ?_
  rintro e w8 ⟨rfl, hw8⟩
  have B8 := hid (show Below w.heap.size w w8 by rw [← hw8]; exact B5.out); clear hw8
  clear x4 x5 hV5
  go_wp2_with fail
  refine (HN.out w8 (HP.out.below B8.out)).mono ?_
  rintro e w9 ⟨rfl, m9, hw⟩
  have B9 := hid (show Below w.heap.size w w9 by rw [hw]; exact below_drewN B8.out m9); clear hw
  go_wp2_with fail
  refine (Ln.live_any _).mono ?_
  rintro e w10 ⟨rfl, hb⟩
  have B10 := hid (B9.out.trans (hb.mono B9.out.size)); clear hb
  go_wp2_with fail
  go_ret
  exact ⟨rfl, B10.out⟩
set_option maxRecDepth 100000 in
set_option maxHeartbeats 4000000 in
theorem holds_00en (k : List Nat) (p : Option Addr) (c n f g s : Nat) (l x l' x' : Int) (l2 u2 l4 u4 l5 u5 : List Nat) (w : World) (hp : Pt w p k) (hk : k.length = n) (hn : n ≤ 6) (hl : decide (9 < l) = false) (hf : f ≤ 4096)
    (HF : Calls Try.prog 12 #[.slice p n c, .int .i64 l, .int .i64 x] w fun e w' => e = .returned (.tuple #[.int .i64 (f : Int), .int .i64 0]) ∧ ∃ m, w' = w.drewN m)
    (HB2 : ∀ V : World, Calls Try.prog 14 #[.int .i64 (n : Int), .int .i64 l, .int .i64 x, .int .i64 (f : Int)] V (AnyBox V (l2, u2) 0)) (hi2 : inB k l2 u2 = true)
    (HB4 : ∀ V : World, Calls Try.prog 14 #[.int .i64 (n : Int), .int .i64 l, .int .i64 x, .int .i64 ((f : Int) + 1)] V (AnyBox V (l4, u4) 1))
    (HB5 : ∀ V : World, Calls Try.prog 14 #[.int .i64 (n : Int), .int .i64 l, .int .i64 x, .int .i64 ((f : Int) - 1)] V (AnyBox V (l5, u5) 1))
    (HG : ∀ V : World, Calls Try.prog 20 #[.int .i64 l, .int .i64 x] V fun e w' => e = .returned (.tuple #[.int .i64 l', .int .i64 x', .int .i64 (s : Int), .int .i64 0]) ∧ V = w')
    (HN : ∀ V : World, Pt V p k → Calls Try.prog 12 #[.slice p n c, .int .i64 l', .int .i64 x'] V fun e w' => e = .returned (.tuple #[.int .i64 (g : Int), .int .i64 0]) ∧ ∃ m, w' = V.drewN m)
    (hs : (f = s ∧ g = f + 1)) :
    Calls Try.prog 7 #[.slice p n c, .int .i64 l, .int .i64 x] w fun e w' => e = .returned (.bool true) ∧ Below w.heap.size w w' := by
  unfold AnyBox at HB2 HB4 HB5
  have HF := hid HF; have HB2 := hid HB2; have HB4 := hid HB4; have HB5 := hid HB5; have HG := hid HG; have HN := hid HN
  have HP := hid hp
  have HI2 := hid (show ∀ (p' q' : Option Addr) (a b : Nat) (V : World), Pt V p k → Pt V p' l2 → Pt V q' u2 → Calls Try.prog 24 #[.slice p n c, .agg #[.slice p' l2.length a, .slice q' u2.length b]] V fun e w' => e = .returned (.bool true) ∧ Below V.heap.size V w' from fun p' q' a b V g0 g1 g2 => by have := refIn_ok k l2 u2 p p' q' c a b V g0 g1 g2 (by omega); rw [hk, hi2] at this; exact this)
  have s1 : IntKind.i64.wrap ((f : Int) + 1) = (f : Int) + 1 := Go.IntWalk.i64_in _ (by omega)
  have s2 : IntKind.i64.wrap ((f : Int) - 1) = (f : Int) - 1 := Go.IntWalk.i64_in _ (by omega)
  have n1 : decide ((6 : Int) < (n : Int)) = false := by simp; omega
  have n2 : decide (6 < n) = false := by simp; omega
  obtain rfl : f = s := hs.1
  obtain rfl : g = f + 1 := hs.2
  rw [show ((f + 1 : Nat) : Int) = (f : Int) + 1 by omega] at HN
  have d1 : decide ((f : Int) < (f : Int)) = false := by simp
  have d1' : decide (f < f) = false := by simp
  have d3 : ((f : Int) + 1 == (f : Int)) = false := by rw [beq_eq_false_iff_ne]; omega
  clear hp hk hn hf hs hi2
  go_enter Try.func7, Try.ntmps7
  go_wp2_with fail
  refine HF.out.mono ?_
  rintro e w1 ⟨rfl, m, hw⟩
  have H1 := hid (show Below w.heap.size w w1 by rw [hw]; exact below_drewN (Below.refl _ _) m); clear hw
  go_wp2_with fail
  refine (HB2.out _).mono ?_
  rintro e w2 ⟨p2, c2, q2, d2, rfl, h1, h2, hb⟩
  obtain ⟨V2, hV2⟩ : ∃ V, w2.alloc (.cells #[Value.slice p2 l2.length c2, .slice q2 u2.length d2] 32) = V := ⟨_, rfl⟩
  have B2 := hid (show Below w.heap.size w V2 by rw [← hV2]; exact (H1.out.trans (hb.mono H1.out.size)).alloc (H1.out.trans (hb.mono H1.out.size)).size _)
  have S2 := hid (show Below w1.heap.size w1 V2 by rw [← hV2]; exact hb.alloc hb.size _)
  have P2 := hid (show Pt V2 p2 _ by rw [← hV2]; exact h1.alloc _)
  have Q2 := hid (show Pt V2 q2 _ by rw [← hV2]; exact h2.alloc _)
  have G2 := hid (show V2.heap[w2.heap.size]? = some (.cells #[Value.slice p2 l2.length c2, .slice q2 u2.length d2] 32 (0, 0)) by rw [← hV2]; exact heap_alloc_new _ _)
  clear hb h1 h2
  have x2 := two_cells G2.out
  go_wp2_with fail
  refine (HI2.out p2 q2 c2 d2 V2 (HP.out.below B2.out) P2.out Q2.out).mono ?_
  rintro e w3 ⟨rfl, hb⟩
  have H3 := hid (B2.out.trans (hb.mono B2.out.size)); clear hb x2 hV2
  go_wp2_with fail
  refine (HB4.out _).mono ?_
  rintro e w4 ⟨p4, c4, q4, d4, rfl, h1, h2, hb⟩
  obtain ⟨V4, hV4⟩ : ∃ V, w4.alloc (.cells #[Value.slice p4 l4.length c4, .slice q4 u4.length d4] 32) = V := ⟨_, rfl⟩
  have B4 := hid (show Below w.heap.size w V4 by rw [← hV4]; exact (H3.out.trans (hb.mono H3.out.size)).alloc (H3.out.trans (hb.mono H3.out.size)).size _)
  have S4 := hid (show Below w3.heap.size w3 V4 by rw [← hV4]; exact hb.alloc hb.size _)
  have P4 := hid (show Pt V4 p4 _ by rw [← hV4]; exact h1.alloc _)
  have Q4 := hid (show Pt V4 q4 _ by rw [← hV4]; exact h2.alloc _)
  have G4 := hid (show V4.heap[w4.heap.size]? = some (.cells #[Value.slice p4 l4.length c4, .slice q4 u4.length d4] 32 (0, 0)) by rw [← hV4]; exact heap_alloc_new _ _)
  clear hb h1 h2
  go_wp2_with fail
  refine (HB5.out _).mono ?_
  rintro e w5 ⟨p5, c5, q5, d5, rfl, h1, h2, hb⟩
  obtain ⟨V5, hV5⟩ : ∃ V, w5.alloc (.cells #[Value.slice p5 l5.length c5, .slice q5 u5.length d5] 32) = V := ⟨_, rfl⟩
  have B5 := hid (show Below w.heap.size w V5 by rw [← hV5]; exact (B4.out.trans (hb.mono B4.out.size)).alloc (B4.out.trans (hb.mono B4.out.size)).size _)
  have S5 := hid (show Below V4.heap.size V4 V5 by rw [← hV5]; exact hb.alloc hb.size _)
  have P5 := hid (show Pt V5 p5 _ by rw [← hV5]; exact h1.alloc _)
  have Q5 := hid (show Pt V5 q5 _ by rw [← hV5]; exact h2.alloc _)
  have G5 := hid (show V5.heap[w5.heap.size]? = some (.cells #[Value.slice p5 l5.length c5, .slice q5 u5.length d5] 32 (0, 0)) by rw [← hV5]; exact heap_alloc_new _ _)
  clear hb h1 h2
  have G45 := hid ((S5.out.block _ (lt_of G4.out)).trans G4.out)
  have x4 := two_cells G45.out
  have x5 := two_cells G5.out
  clear hV4
  go_wp2_with fail
  refine (HG.out _).mono ?_
  rintro e w8 ⟨rfl, hw8⟩
  have B8 := hid (show Below w.heap.size w w8 by rw [← hw8]; exact B5.out); clear hw8
  clear x4 x5 hV5
  go_wp2_with fail
  refine (HN.out w8 (HP.out.below B8.out)).mono ?_
  rintro e w9 ⟨rfl, m9, hw⟩
  have B9 := hid (show Below w.heap.size w w9 by rw [hw]; exact below_drewN B8.out m9); clear hw
  go_wp2_with fail
  refine (Ln.live_any _).mono ?_
  rintro e w10 ⟨rfl, hb⟩
  have B10 := hid (B9.out.trans (hb.mono B9.out.size)); clear hb
  go_wp2_with fail
  go_ret
  exact ⟨rfl, B10.out⟩
set_option maxRecDepth 100000 in
set_option maxHeartbeats 4000000 in
theorem holds_01lt (k : List Nat) (p : Option Addr) (c n f g s : Nat) (l x l' x' : Int) (l2 u2 l4 u4 l5 u5 : List Nat) (w : World) (hp : Pt w p k) (hk : k.length = n) (hn : n ≤ 6) (hl : decide (9 < l) = false) (hf : f ≤ 4096)
    (HF : Calls Try.prog 12 #[.slice p n c, .int .i64 l, .int .i64 x] w fun e w' => e = .returned (.tuple #[.int .i64 (f : Int), .int .i64 0]) ∧ ∃ m, w' = w.drewN m)
    (HB2 : ∀ V : World, Calls Try.prog 14 #[.int .i64 (n : Int), .int .i64 l, .int .i64 x, .int .i64 (f : Int)] V (AnyBox V (l2, u2) 0)) (hi2 : inB k l2 u2 = true)
    (HB4 : ∀ V : World, Calls Try.prog 14 #[.int .i64 (n : Int), .int .i64 l, .int .i64 x, .int .i64 ((f : Int) + 1)] V (AnyBox V (l4, u4) 1))
    (HB5 : ∀ V : World, Calls Try.prog 14 #[.int .i64 (n : Int), .int .i64 l, .int .i64 x, .int .i64 ((f : Int) - 1)] V (AnyBox V (l5, u5) 0)) (hi5 : inB k l5 u5 = false)
    (HG : ∀ V : World, Calls Try.prog 20 #[.int .i64 l, .int .i64 x] V fun e w' => e = .returned (.tuple #[.int .i64 l', .int .i64 x', .int .i64 (s : Int), .int .i64 0]) ∧ V = w')
    (HN : ∀ V : World, Pt V p k → Calls Try.prog 12 #[.slice p n c, .int .i64 l', .int .i64 x'] V fun e w' => e = .returned (.tuple #[.int .i64 (g : Int), .int .i64 0]) ∧ ∃ m, w' = V.drewN m)
    (hs : (f < s ∧ g = f)) :
    Calls Try.prog 7 #[.slice p n c, .int .i64 l, .int .i64 x] w fun e w' => e = .returned (.bool true) ∧ Below w.heap.size w w' := by
  unfold AnyBox at HB2 HB4 HB5
  have HF := hid HF; have HB2 := hid HB2; have HB4 := hid HB4; have HB5 := hid HB5; have HG := hid HG; have HN := hid HN
  have HP := hid hp
  have HI2 := hid (show ∀ (p' q' : Option Addr) (a b : Nat) (V : World), Pt V p k → Pt V p' l2 → Pt V q' u2 → Calls Try.prog 24 #[.slice p n c, .agg #[.slice p' l2.length a, .slice q' u2.length b]] V fun e w' => e = .returned (.bool true) ∧ Below V.heap.size V w' from fun p' q' a b V g0 g1 g2 => by have := refIn_ok k l2 u2 p p' q' c a b V g0 g1 g2 (by omega); rw [hk, hi2] at this; exact this)
  have HI5 := hid (show ∀ (p' q' : Option Addr) (a b : Nat) (V : World), Pt V p k → Pt V p' l5 → Pt V q' u5 → Calls Try.prog 24 #[.slice p n c, .agg #[.slice p' l5.length a, .slice q' u5.length b]] V fun e w' => e = .returned (.bool false) ∧ Below V.heap.size V w' from fun p' q' a b V g0 g1 g2 => by have := refIn_ok k l5 u5 p p' q' c a b V g0 g1 g2 (by omega); rw [hk, hi5] at this; exact this)
  have s1 : IntKind.i64.wrap ((f : Int) + 1) = (f : Int) + 1 := Go.IntWalk.i64_in _ (by omega)
  have s2 : IntKind.i64.wrap ((f : Int) - 1) = (f : Int) - 1 := Go.IntWalk.i64_in _ (by omega)
  have n1 : decide ((6 : Int) < (n : Int)) = false := by simp; omega
  have n2 : decide (6 < n) = false := by simp; omega
  obtain rfl : g = f := hs.2
  have d1 : decide ((g : Int) < (s : Int)) = true := by simpa using hs.1
  have d1' : decide (g < s) = true := by simpa using hs.1
  clear hp hk hn hf hs hi2 hi5
  go_enter Try.func7, Try.ntmps7
  go_wp2_with fail
  refine HF.out.mono ?_
  rintro e w1 ⟨rfl, m, hw⟩
  have H1 := hid (show Below w.heap.size w w1 by rw [hw]; exact below_drewN (Below.refl _ _) m); clear hw
  go_wp2_with fail
  refine (HB2.out _).mono ?_
  rintro e w2 ⟨p2, c2, q2, d2, rfl, h1, h2, hb⟩
  obtain ⟨V2, hV2⟩ : ∃ V, w2.alloc (.cells #[Value.slice p2 l2.length c2, .slice q2 u2.length d2] 32) = V := ⟨_, rfl⟩
  have B2 := hid (show Below w.heap.size w V2 by rw [← hV2]; exact (H1.out.trans (hb.mono H1.out.size)).alloc (H1.out.trans (hb.mono H1.out.size)).size _)
  have S2 := hid (show Below w1.heap.size w1 V2 by rw [← hV2]; exact hb.alloc hb.size _)
  have P2 := hid (show Pt V2 p2 _ by rw [← hV2]; exact h1.alloc _)
  have Q2 := hid (show Pt V2 q2 _ by rw [← hV2]; exact h2.alloc _)
  have G2 := hid (show V2.heap[w2.heap.size]? = some (.cells #[Value.slice p2 l2.length c2, .slice q2 u2.length d2] 32 (0, 0)) by rw [← hV2]; exact heap_alloc_new _ _)
  clear hb h1 h2
  have x2 := two_cells G2.out
  go_wp2_with fail
  refine (HI2.out p2 q2 c2 d2 V2 (HP.out.below B2.out) P2.out Q2.out).mono ?_
  rintro e w3 ⟨rfl, hb⟩
  have H3 := hid (B2.out.trans (hb.mono B2.out.size)); clear hb x2 hV2
  go_wp2_with fail
  refine (HB4.out _).mono ?_
  rintro e w4 ⟨p4, c4, q4, d4, rfl, h1, h2, hb⟩
  obtain ⟨V4, hV4⟩ : ∃ V, w4.alloc (.cells #[Value.slice p4 l4.length c4, .slice q4 u4.length d4] 32) = V := ⟨_, rfl⟩
  have B4 := hid (show Below w.heap.size w V4 by rw [← hV4]; exact (H3.out.trans (hb.mono H3.out.size)).alloc (H3.out.trans (hb.mono H3.out.size)).size _)
  have S4 := hid (show Below w3.heap.size w3 V4 by rw [← hV4]; exact hb.alloc hb.size _)
  have P4 := hid (show Pt V4 p4 _ by rw [← hV4]; exact h1.alloc _)
  have Q4 := hid (show Pt V4 q4 _ by rw [← hV4]; exact h2.alloc _)
  have G4 := hid (show V4.heap[w4.heap.size]? = some (.cells #[Value.slice p4 l4.length c4, .slice q4 u4.length d4] 32 (0, 0)) by rw [← hV4]; exact heap_alloc_new _ _)
  clear hb h1 h2
  go_wp2_with fail
  refine (HB5.out _).mono ?_
  rintro e w5 ⟨p5, c5, q5, d5, rfl, h1, h2, hb⟩
  obtain ⟨V5, hV5⟩ : ∃ V, w5.alloc (.cells #[Value.slice p5 l5.length c5, .slice q5 u5.length d5] 32) = V := ⟨_, rfl⟩
  have B5 := hid (show Below w.heap.size w V5 by rw [← hV5]; exact (B4.out.trans (hb.mono B4.out.size)).alloc (B4.out.trans (hb.mono B4.out.size)).size _)
  have S5 := hid (show Below V4.heap.size V4 V5 by rw [← hV5]; exact hb.alloc hb.size _)
  have P5 := hid (show Pt V5 p5 _ by rw [← hV5]; exact h1.alloc _)
  have Q5 := hid (show Pt V5 q5 _ by rw [← hV5]; exact h2.alloc _)
  have G5 := hid (show V5.heap[w5.heap.size]? = some (.cells #[Value.slice p5 l5.length c5, .slice q5 u5.length d5] 32 (0, 0)) by rw [← hV5]; exact heap_alloc_new _ _)
  clear hb h1 h2
  have G45 := hid ((S5.out.block _ (lt_of G4.out)).trans G4.out)
  have x4 := two_cells G45.out
  have x5 := two_cells G5.out
  clear hV4
  go_wp2_with fail
  refine (HI5.out p5 q5 c5 d5 V5 (HP.out.below B5.out) P5.out Q5.out).mono ?_
  rintro e w7 ⟨rfl, hb⟩
  have B7 := hid (B5.out.trans (hb.mono B5.out.size))
  clear hb x4 x5 hV5
  go_wp2_with fail
  refine (HG.out _).mono ?_
  rintro e w8 ⟨rfl, hw8⟩
  have B8 := hid (show Below w.heap.size w w8 by rw [← hw8]; exact B7.out); clear hw8
  go_wp2_with fail
  refine (HN.out w8 (HP.out.below B8.out)).mono ?_
  rintro e w9 ⟨rfl, m9, hw⟩
  have B9 := hid (show Below w.heap.size w w9 by rw [hw]; exact below_drewN B8.out m9); clear hw
  go_wp2_with fail
  refine (Ln.live_any _).mono ?_
  rintro e w10 ⟨rfl, hb⟩
  have B10 := hid (B9.out.trans (hb.mono B9.out.size)); clear hb
  go_wp2_with fail
  go_ret
  exact ⟨rfl, B10.out⟩
set_option maxRecDepth 100000 in
set_option maxHeartbeats 4000000 in
theorem holds_01gt (k : List Nat) (p : Option Addr) (c n f g s : Nat) (l x l' x' : Int) (l2 u2 l4 u4 l5 u5 : List Nat) (w : World) (hp : Pt w p k) (hk : k.length = n) (hn : n ≤ 6) (hl : decide (9 < l) = false) (hf : f ≤ 4096)
    (HF : Calls Try.prog 12 #[.slice p n c, .int .i64 l, .int .i64 x] w fun e w' => e = .returned (.tuple #[.int .i64 (f : Int), .int .i64 0]) ∧ ∃ m, w' = w.drewN m)
    (HB2 : ∀ V : World, Calls Try.prog 14 #[.int .i64 (n : Int), .int .i64 l, .int .i64 x, .int .i64 (f : Int)] V (AnyBox V (l2, u2) 0)) (hi2 : inB k l2 u2 = true)
    (HB4 : ∀ V : World, Calls Try.prog 14 #[.int .i64 (n : Int), .int .i64 l, .int .i64 x, .int .i64 ((f : Int) + 1)] V (AnyBox V (l4, u4) 1))
    (HB5 : ∀ V : World, Calls Try.prog 14 #[.int .i64 (n : Int), .int .i64 l, .int .i64 x, .int .i64 ((f : Int) - 1)] V (AnyBox V (l5, u5) 0)) (hi5 : inB k l5 u5 = false)
    (HG : ∀ V : World, Calls Try.prog 20 #[.int .i64 l, .int .i64 x] V fun e w' => e = .returned (.tuple #[.int .i64 l', .int .i64 x', .int .i64 (s : Int), .int .i64 0]) ∧ V = w')
    (HN : ∀ V : World, Pt V p k → Calls Try.prog 12 #[.slice p n c, .int .i64 l', .int .i64 x'] V fun e w' => e = .returned (.tuple #[.int .i64 (g : Int), .int .i64 0]) ∧ ∃ m, w' = V.drewN m)
    (hs : (s < f ∧ g = f + 1)) :
    Calls Try.prog 7 #[.slice p n c, .int .i64 l, .int .i64 x] w fun e w' => e = .returned (.bool true) ∧ Below w.heap.size w w' := by
  unfold AnyBox at HB2 HB4 HB5
  have HF := hid HF; have HB2 := hid HB2; have HB4 := hid HB4; have HB5 := hid HB5; have HG := hid HG; have HN := hid HN
  have HP := hid hp
  have HI2 := hid (show ∀ (p' q' : Option Addr) (a b : Nat) (V : World), Pt V p k → Pt V p' l2 → Pt V q' u2 → Calls Try.prog 24 #[.slice p n c, .agg #[.slice p' l2.length a, .slice q' u2.length b]] V fun e w' => e = .returned (.bool true) ∧ Below V.heap.size V w' from fun p' q' a b V g0 g1 g2 => by have := refIn_ok k l2 u2 p p' q' c a b V g0 g1 g2 (by omega); rw [hk, hi2] at this; exact this)
  have HI5 := hid (show ∀ (p' q' : Option Addr) (a b : Nat) (V : World), Pt V p k → Pt V p' l5 → Pt V q' u5 → Calls Try.prog 24 #[.slice p n c, .agg #[.slice p' l5.length a, .slice q' u5.length b]] V fun e w' => e = .returned (.bool false) ∧ Below V.heap.size V w' from fun p' q' a b V g0 g1 g2 => by have := refIn_ok k l5 u5 p p' q' c a b V g0 g1 g2 (by omega); rw [hk, hi5] at this; exact this)
  have s1 : IntKind.i64.wrap ((f : Int) + 1) = (f : Int) + 1 := Go.IntWalk.i64_in _ (by omega)
  have s2 : IntKind.i64.wrap ((f : Int) - 1) = (f : Int) - 1 := Go.IntWalk.i64_in _ (by omega)
  have n1 : decide ((6 : Int) < (n : Int)) = false := by simp; omega
  have n2 : decide (6 < n) = false := by simp; omega
  obtain rfl : g = f + 1 := hs.2
  rw [show ((f + 1 : Nat) : Int) = (f : Int) + 1 by omega] at HN
  have d1 : decide ((f : Int) < (s : Int)) = false := by simp; omega
  have d1' : decide (f < s) = false := by simp; omega
  have d2 : decide ((s : Int) < (f : Int)) = true := by simpa using hs.1
  have d2' : decide (s < f) = true := by simpa using hs.1
  clear hp hk hn hf hs hi2 hi5
  go_enter Try.func7, Try.ntmps7
  go_wp2_with fail
  refine HF.out.mono ?_
  rintro e w1 ⟨rfl, m, hw⟩
  have H1 := hid (show Below w.heap.size w w1 by rw [hw]; exact below_drewN (Below.refl _ _) m); clear hw
  go_wp2_with fail
  refine (HB2.out _).mono ?_
  rintro e w2 ⟨p2, c2, q2, d2, rfl, h1, h2, hb⟩
  obtain ⟨V2, hV2⟩ : ∃ V, w2.alloc (.cells #[Value.slice p2 l2.length c2, .slice q2 u2.length d2] 32) = V := ⟨_, rfl⟩
  have B2 := hid (show Below w.heap.size w V2 by rw [← hV2]; exact (H1.out.trans (hb.mono H1.out.size)).alloc (H1.out.trans (hb.mono H1.out.size)).size _)
  have S2 := hid (show Below w1.heap.size w1 V2 by rw [← hV2]; exact hb.alloc hb.size _)
  have P2 := hid (show Pt V2 p2 _ by rw [← hV2]; exact h1.alloc _)
  have Q2 := hid (show Pt V2 q2 _ by rw [← hV2]; exact h2.alloc _)
  have G2 := hid (show V2.heap[w2.heap.size]? = some (.cells #[Value.slice p2 l2.length c2, .slice q2 u2.length d2] 32 (0, 0)) by rw [← hV2]; exact heap_alloc_new _ _)
  clear hb h1 h2
  have x2 := two_cells G2.out
  go_wp2_with fail
  refine (HI2.out p2 q2 c2 d2 V2 (HP.out.below B2.out) P2.out Q2.out).mono ?_
  rintro e w3 ⟨rfl, hb⟩
  have H3 := hid (B2.out.trans (hb.mono B2.out.size)); clear hb x2 hV2
  go_wp2_with fail
  refine (HB4.out _).mono ?_
  rintro e w4 ⟨p4, c4, q4, d4, rfl, h1, h2, hb⟩
  obtain ⟨V4, hV4⟩ : ∃ V, w4.alloc (.cells #[Value.slice p4 l4.length c4, .slice q4 u4.length d4] 32) = V := ⟨_, rfl⟩
  have B4 := hid (show Below w.heap.size w V4 by rw [← hV4]; exact (H3.out.trans (hb.mono H3.out.size)).alloc (H3.out.trans (hb.mono H3.out.size)).size _)
  have S4 := hid (show Below w3.heap.size w3 V4 by rw [← hV4]; exact hb.alloc hb.size _)
  have P4 := hid (show Pt V4 p4 _ by rw [← hV4]; exact h1.alloc _)
  have Q4 := hid (show Pt V4 q4 _ by rw [← hV4]; exact h2.alloc _)
  have G4 := hid (show V4.heap[w4.heap.size]? = some (.cells #[Value.slice p4 l4.length c4, .slice q4 u4.length d4] 32 (0, 0)) by rw [← hV4]; exact heap_alloc_new _ _)
  clear hb h1 h2
  go_wp2_with fail
  refine (HB5.out _).mono ?_
  rintro e w5 ⟨p5, c5, q5, d5, rfl, h1, h2, hb⟩
  obtain ⟨V5, hV5⟩ : ∃ V, w5.alloc (.cells #[Value.slice p5 l5.length c5, .slice q5 u5.length d5] 32) = V := ⟨_, rfl⟩
  have B5 := hid (show Below w.heap.size w V5 by rw [← hV5]; exact (B4.out.trans (hb.mono B4.out.size)).alloc (B4.out.trans (hb.mono B4.out.size)).size _)
  have S5 := hid (show Below V4.heap.size V4 V5 by rw [← hV5]; exact hb.alloc hb.size _)
  have P5 := hid (show Pt V5 p5 _ by rw [← hV5]; exact h1.alloc _)
  have Q5 := hid (show Pt V5 q5 _ by rw [← hV5]; exact h2.alloc _)
  have G5 := hid (show V5.heap[w5.heap.size]? = some (.cells #[Value.slice p5 l5.length c5, .slice q5 u5.length d5] 32 (0, 0)) by rw [← hV5]; exact heap_alloc_new _ _)
  clear hb h1 h2
  have G45 := hid ((S5.out.block _ (lt_of G4.out)).trans G4.out)
  have x4 := two_cells G45.out
  have x5 := two_cells G5.out
  clear hV4
  go_wp2_with fail
  refine (HI5.out p5 q5 c5 d5 V5 (HP.out.below B5.out) P5.out Q5.out).mono ?_
  rintro e w7 ⟨rfl, hb⟩
  have B7 := hid (B5.out.trans (hb.mono B5.out.size))
  clear hb x4 x5 hV5
  go_wp2_with fail
  refine (HG.out _).mono ?_
  rintro e w8 ⟨rfl, hw8⟩
  have B8 := hid (show Below w.heap.size w w8 by rw [← hw8]; exact B7.out); clear hw8
  go_wp2_with fail
  refine (HN.out w8 (HP.out.below B8.out)).mono ?_
  rintro e w9 ⟨rfl, m9, hw⟩
  have B9 := hid (show Below w.heap.size w w9 by rw [hw]; exact below_drewN B8.out m9); clear hw
  go_wp2_with fail
  refine (Ln.live_any _).mono ?_
  rintro e w10 ⟨rfl, hb⟩
  have B10 := hid (B9.out.trans (hb.mono B9.out.size)); clear hb
  go_wp2_with fail
  go_ret
  exact ⟨rfl, B10.out⟩
set_option maxRecDepth 100000 in
set_option maxHeartbeats 4000000 in
theorem holds_01es (k : List Nat) (p : Option Addr) (c n f g s : Nat) (l x l' x' : Int) (l2 u2 l4 u4 l5 u5 : List Nat) (w : World) (hp : Pt w p k) (hk : k.length = n) (hn : n ≤ 6) (hl : decide (9 < l) = false) (hf : f ≤ 4096)
    (HF : Calls Try.prog 12 #[.slice p n c, .int .i64 l, .int .i64 x] w fun e w' => e = .returned (.tuple #[.int .i64 (f : Int), .int .i64 0]) ∧ ∃ m, w' = w.drewN m)
    (HB2 : ∀ V : World, Calls Try.prog 14 #[.int .i64 (n : Int), .int .i64 l, .int .i64 x, .int .i64 (f : Int)] V (AnyBox V (l2, u2) 0)) (hi2 : inB k l2 u2 = true)
    (HB4 : ∀ V : World, Calls Try.prog 14 #[.int .i64 (n : Int), .int .i64 l, .int .i64 x, .int .i64 ((f : Int) + 1)] V (AnyBox V (l4, u4) 1))
    (HB5 : ∀ V : World, Calls Try.prog 14 #[.int .i64 (n : Int), .int .i64 l, .int .i64 x, .int .i64 ((f : Int) - 1)] V (AnyBox V (l5, u5) 0)) (hi5 : inB k l5 u5 = false)
    (HG : ∀ V : World, Calls Try.prog 20 #[.int .i64 l, .int .i64 x] V fun e w' => e = .returned (.tuple #[.int .i64 l', .int .i64 x', .int .i64 (s : Int), .int .i64 0]) ∧ V = w')
    (HN : ∀ V : World, Pt V p k → Calls Try.prog 12 #[.slice p n c, .int .i64 l', .int .i64 x'] V fun e w' => e = .returned (.tuple #[.int .i64 (g : Int), .int .i64 0]) ∧ ∃ m, w' = V.drewN m)
    (hs : (f = s ∧ g = f)) :
    Calls Try.prog 7 #[.slice p n c, .int .i64 l, .int .i64 x] w fun e w' => e = .returned (.bool true) ∧ Below w.heap.size w w' := by
  unfold AnyBox at HB2 HB4 HB5
  have HF := hid HF; have HB2 := hid HB2; have HB4 := hid HB4; have HB5 := hid HB5; have HG := hid HG; have HN := hid HN
  have HP := hid hp
  have HI2 := hid (show ∀ (p' q' : Option Addr) (a b : Nat) (V : World), Pt V p k → Pt V p' l2 → Pt V q' u2 → Calls Try.prog 24 #[.slice p n c, .agg #[.slice p' l2.length a, .slice q' u2.length b]] V fun e w' => e = .returned (.bool true) ∧ Below V.heap.size V w' from fun p' q' a b V g0 g1 g2 => by have := refIn_ok k l2 u2 p p' q' c a b V g0 g1 g2 (by omega); rw [hk, hi2] at this; exact this)
  have HI5 := hid (show ∀ (p' q' : Option Addr) (a b : Nat) (V : World), Pt V p k → Pt V p' l5 → Pt V q' u5 → Calls Try.prog 24 #[.slice p n c, .agg #[.slice p' l5.length a, .slice q' u5.length b]] V fun e w' => e = .returned (.bool false) ∧ Below V.heap.size V w' from fun p' q' a b V g0 g1 g2 => by have := refIn_ok k l5 u5 p p' q' c a b V g0 g1 g2 (by omega); rw [hk, hi5] at this; exact this)
  have s1 : IntKind.i64.wrap ((f : Int) + 1) = (f : Int) + 1 := Go.IntWalk.i64_in _ (by omega)
  have s2 : IntKind.i64.wrap ((f : Int) - 1) = (f : Int) - 1 := Go.IntWalk.i64_in _ (by omega)
  have n1 : decide ((6 : Int) < (n : Int)) = false := by simp; omega
  have n2 : decide (6 < n) = false := by simp; omega
  obtain rfl : f = s := hs.1
  obtain rfl : g = f := hs.2
  have d1 : decide ((g : Int) < (g : Int)) = false := by simp
  have d1' : decide (g < g) = false := by simp
  clear hp hk hn hf hs hi2 hi5
  go_enter Try.func7, Try.ntmps7
  go_wp2_with fail
  refine HF.out.mono ?_
  rintro e w1 ⟨rfl, m, hw⟩
  have H1 := hid (show Below w.heap.size w w1 by rw [hw]; exact below_drewN (Below.refl _ _) m); clear hw
  go_wp2_with fail
  refine (HB2.out _).mono ?_
  rintro e w2 ⟨p2, c2, q2, d2, rfl, h1, h2, hb⟩
  obtain ⟨V2, hV2⟩ : ∃ V, w2.alloc (.cells #[Value.slice p2 l2.length c2, .slice q2 u2.length d2] 32) = V := ⟨_, rfl⟩
  have B2 := hid (show Below w.heap.size w V2 by rw [← hV2]; exact (H1.out.trans (hb.mono H1.out.size)).alloc (H1.out.trans (hb.mono H1.out.size)).size _)
  have S2 := hid (show Below w1.heap.size w1 V2 by rw [← hV2]; exact hb.alloc hb.size _)
  have P2 := hid (show Pt V2 p2 _ by rw [← hV2]; exact h1.alloc _)
  have Q2 := hid (show Pt V2 q2 _ by rw [← hV2]; exact h2.alloc _)
  have G2 := hid (show V2.heap[w2.heap.size]? = some (.cells #[Value.slice p2 l2.length c2, .slice q2 u2.length d2] 32 (0, 0)) by rw [← hV2]; exact heap_alloc_new _ _)
  clear hb h1 h2
  have x2 := two_cells G2.out
  go_wp2_with fail
  refine (HI2.out p2 q2 c2 d2 V2 (HP.out.below B2.out) P2.out Q2.out).mono ?_
  rintro e w3 ⟨rfl, hb⟩
  have H3 := hid (B2.out.trans (hb.mono B2.out.size)); clear hb x2 hV2
  go_wp2_with fail
  refine (HB4.out _).mono ?_
  rintro e w4 ⟨p4, c4, q4, d4, rfl, h1, h2, hb⟩
  obtain ⟨V4, hV4⟩ : ∃ V, w4.alloc (.cells #[Value.slice p4 l4.length c4, .slice q4 u4.length d4] 32) = V := ⟨_, rfl⟩
  have B4 := hid (show Below w.heap.size w V4 by rw [← hV4]; exact (H3.out.trans (hb.mono H3.out.size)).alloc (H3.out.trans (hb.mono H3.out.size)).size _)
  have S4 := hid (show Below w3.heap.size w3 V4 by rw [← hV4]; exact hb.alloc hb.size _)
  have P4 := hid (show Pt V4 p4 _ by rw [← hV4]; exact h1.alloc _)
  have Q4 := hid (show Pt V4 q4 _ by rw [← hV4]; exact h2.alloc _)
  have G4 := hid (show V4.heap[w4.heap.size]? = some (.cells #[Value.slice p4 l4.length c4, .slice q4 u4.length d4] 32 (0, 0)) by rw [← hV4]; exact heap_alloc_new _ _)
  clear hb h1 h2
  go_wp2_with fail
  refine (HB5.out _).mono ?_
  rintro e w5 ⟨p5, c5, q5, d5, rfl, h1, h2, hb⟩
  obtain ⟨V5, hV5⟩ : ∃ V, w5.alloc (.cells #[Value.slice p5 l5.length c5, .slice q5 u5.length d5] 32) = V := ⟨_, rfl⟩
  have B5 := hid (show Below w.heap.size w V5 by rw [← hV5]; exact (B4.out.trans (hb.mono B4.out.size)).alloc (B4.out.trans (hb.mono B4.out.size)).size _)
  have S5 := hid (show Below V4.heap.size V4 V5 by rw [← hV5]; exact hb.alloc hb.size _)
  have P5 := hid (show Pt V5 p5 _ by rw [← hV5]; exact h1.alloc _)
  have Q5 := hid (show Pt V5 q5 _ by rw [← hV5]; exact h2.alloc _)
  have G5 := hid (show V5.heap[w5.heap.size]? = some (.cells #[Value.slice p5 l5.length c5, .slice q5 u5.length d5] 32 (0, 0)) by rw [← hV5]; exact heap_alloc_new _ _)
  clear hb h1 h2
  have G45 := hid ((S5.out.block _ (lt_of G4.out)).trans G4.out)
  have x4 := two_cells G45.out
  have x5 := two_cells G5.out
  clear hV4
  go_wp2_with fail
  refine (HI5.out p5 q5 c5 d5 V5 (HP.out.below B5.out) P5.out Q5.out).mono ?_
  rintro e w7 ⟨rfl, hb⟩
  have B7 := hid (B5.out.trans (hb.mono B5.out.size))
  clear hb x4 x5 hV5
  go_wp2_with fail
  refine (HG.out _).mono ?_
  rintro e w8 ⟨rfl, hw8⟩
  have B8 := hid (show Below w.heap.size w w8 by rw [← hw8]; exact B7.out); clear hw8
  go_wp2_with fail
  refine (HN.out w8 (HP.out.below B8.out)).mono ?_
  rintro e w9 ⟨rfl, m9, hw⟩
  have B9 := hid (show Below w.heap.size w w9 by rw [hw]; exact below_drewN B8.out m9); clear hw
  go_wp2_with fail
  refine (Ln.live_any _).mono ?_
  rintro e w10 ⟨rfl, hb⟩
  have B10 := hid (B9.out.trans (hb.mono B9.out.size)); clear hb
  go_wp2_with fail
  go_ret
  exact ⟨rfl, B10.out⟩
set_option maxRecDepth 100000 in
set_option maxHeartbeats 4000000 in
theorem holds_01en (k : List Nat) (p : Option Addr) (c n f g s : Nat) (l x l' x' : Int) (l2 u2 l4 u4 l5 u5 : List Nat) (w : World) (hp : Pt w p k) (hk : k.length = n) (hn : n ≤ 6) (hl : decide (9 < l) = false) (hf : f ≤ 4096)
    (HF : Calls Try.prog 12 #[.slice p n c, .int .i64 l, .int .i64 x] w fun e w' => e = .returned (.tuple #[.int .i64 (f : Int), .int .i64 0]) ∧ ∃ m, w' = w.drewN m)
    (HB2 : ∀ V : World, Calls Try.prog 14 #[.int .i64 (n : Int), .int .i64 l, .int .i64 x, .int .i64 (f : Int)] V (AnyBox V (l2, u2) 0)) (hi2 : inB k l2 u2 = true)
    (HB4 : ∀ V : World, Calls Try.prog 14 #[.int .i64 (n : Int), .int .i64 l, .int .i64 x, .int .i64 ((f : Int) + 1)] V (AnyBox V (l4, u4) 1))
    (HB5 : ∀ V : World, Calls Try.prog 14 #[.int .i64 (n : Int), .int .i64 l, .int .i64 x, .int .i64 ((f : Int) - 1)] V (AnyBox V (l5, u5) 0)) (hi5 : inB k l5 u5 = false)
    (HG : ∀ V : World, Calls Try.prog 20 #[.int .i64 l, .int .i64 x] V fun e w' => e = .returned (.tuple #[.int .i64 l', .int .i64 x', .int .i64 (s : Int), .int .i64 0]) ∧ V = w')
    (HN : ∀ V : World, Pt V p k → Calls Try.prog 12 #[.slice p n c, .int .i64 l', .int .i64 x'] V fun e w' => e = .returned (.tuple #[.int .i64 (g : Int), .int .i64 0]) ∧ ∃ m, w' = V.drewN m)
    (hs : (f = s ∧ g = f + 1)) :
    Calls Try.prog 7 #[.slice p n c, .int .i64 l, .int .i64 x] w fun e w' => e = .returned (.bool true) ∧ Below w.heap.size w w' := by
  unfold AnyBox at HB2 HB4 HB5
  have HF := hid HF; have HB2 := hid HB2; have HB4 := hid HB4; have HB5 := hid HB5; have HG := hid HG; have HN := hid HN
  have HP := hid hp
  have HI2 := hid (show ∀ (p' q' : Option Addr) (a b : Nat) (V : World), Pt V p k → Pt V p' l2 → Pt V q' u2 → Calls Try.prog 24 #[.slice p n c, .agg #[.slice p' l2.length a, .slice q' u2.length b]] V fun e w' => e = .returned (.bool true) ∧ Below V.heap.size V w' from fun p' q' a b V g0 g1 g2 => by have := refIn_ok k l2 u2 p p' q' c a b V g0 g1 g2 (by omega); rw [hk, hi2] at this; exact this)
  have HI5 := hid (show ∀ (p' q' : Option Addr) (a b : Nat) (V : World), Pt V p k → Pt V p' l5 → Pt V q' u5 → Calls Try.prog 24 #[.slice p n c, .agg #[.slice p' l5.length a, .slice q' u5.length b]] V fun e w' => e = .returned (.bool false) ∧ Below V.heap.size V w' from fun p' q' a b V g0 g1 g2 => by have := refIn_ok k l5 u5 p p' q' c a b V g0 g1 g2 (by omega); rw [hk, hi5] at this; exact this)
  have s1 : IntKind.i64.wrap ((f : Int) + 1) = (f : Int) + 1 := Go.IntWalk.i64_in _ (by omega)
  have s2 : IntKind.i64.wrap ((f : Int) - 1) = (f : Int) - 1 := Go.IntWalk.i64_in _ (by omega)
  have n1 : decide ((6 : Int) < (n : Int)) = false := by simp; omega
  have n2 : decide (6 < n) = false := by simp; omega
  obtain rfl : f = s := hs.1
  obtain rfl : g = f + 1 := hs.2
  rw [show ((f + 1 : Nat) : Int) = (f : Int) + 1 by omega] at HN
  have d1 : decide ((f : Int) < (f : Int)) = false := by simp
  have d1' : decide (f < f) = false := by simp
  have d3 : ((f : Int) + 1 == (f : Int)) = false := by rw [beq_eq_false_iff_ne]; omega
  clear hp hk hn hf hs hi2 hi5
  go_enter Try.func7, Try.ntmps7
  go_wp2_with fail
  refine HF.out.mono ?_
  rintro e w1 ⟨rfl, m, hw⟩
  have H1 := hid (show Below w.heap.size w w1 by rw [hw]; exact below_drewN (Below.refl _ _) m); clear hw
  go_wp2_with fail
  refine (HB2.out _).mono ?_
  rintro e w2 ⟨p2, c2, q2, d2, rfl, h1, h2, hb⟩
  obtain ⟨V2, hV2⟩ : ∃ V, w2.alloc (.cells #[Value.slice p2 l2.length c2, .slice q2 u2.length d2] 32) = V := ⟨_, rfl⟩
  have B2 := hid (show Below w.heap.size w V2 by rw [← hV2]; exact (H1.out.trans (hb.mono H1.out.size)).alloc (H1.out.trans (hb.mono H1.out.size)).size _)
  have S2 := hid (show Below w1.heap.size w1 V2 by rw [← hV2]; exact hb.alloc hb.size _)
  have P2 := hid (show Pt V2 p2 _ by rw [← hV2]; exact h1.alloc _)
  have Q2 := hid (show Pt V2 q2 _ by rw [← hV2]; exact h2.alloc _)
  have G2 := hid (show V2.heap[w2.heap.size]? = some (.cells #[Value.slice p2 l2.length c2, .slice q2 u2.length d2] 32 (0, 0)) by rw [← hV2]; exact heap_alloc_new _ _)
  clear hb h1 h2
  have x2 := two_cells G2.out
  go_wp2_with fail
  refine (HI2.out p2 q2 c2 d2 V2 (HP.out.below B2.out) P2.out Q2.out).mono ?_
  rintro e w3 ⟨rfl, hb⟩
  have H3 := hid (B2.out.trans (hb.mono B2.out.size)); clear hb x2 hV2
  go_wp2_with fail
  refine (HB4.out _).mono ?_
  rintro e w4 ⟨p4, c4, q4, d4, rfl, h1, h2, hb⟩
  obtain ⟨V4, hV4⟩ : ∃ V, w4.alloc (.cells #[Value.slice p4 l4.length c4, .slice q4 u4.length d4] 32) = V := ⟨_, rfl⟩
  have B4 := hid (show Below w.heap.size w V4 by rw [← hV4]; exact (H3.out.trans (hb.mono H3.out.size)).alloc (H3.out.trans (hb.mono H3.out.size)).size _)
  have S4 := hid (show Below w3.heap.size w3 V4 by rw [← hV4]; exact hb.alloc hb.size _)
  have P4 := hid (show Pt V4 p4 _ by rw [← hV4]; exact h1.alloc _)
  have Q4 := hid (show Pt V4 q4 _ by rw [← hV4]; exact h2.alloc _)
  have G4 := hid (show V4.heap[w4.heap.size]? = some (.cells #[Value.slice p4 l4.length c4, .slice q4 u4.length d4] 32 (0, 0)) by rw [← hV4]; exact heap_alloc_new _ _)
  clear hb h1 h2
  go_wp2_with fail
  refine (HB5.out _).mono ?_
  rintro e w5 ⟨p5, c5, q5, d5, rfl, h1, h2, hb⟩
  obtain ⟨V5, hV5⟩ : ∃ V, w5.alloc (.cells #[Value.slice p5 l5.length c5, .slice q5 u5.length d5] 32) = V := ⟨_, rfl⟩
  have B5 := hid (show Below w.heap.size w V5 by rw [← hV5]; exact (B4.out.trans (hb.mono B4.out.size)).alloc (B4.out.trans (hb.mono B4.out.size)).size _)
  have S5 := hid (show Below V4.heap.size V4 V5 by rw [← hV5]; exact hb.alloc hb.size _)
  have P5 := hid (show Pt V5 p5 _ by rw [← hV5]; exact h1.alloc _)
  have Q5 := hid (show Pt V5 q5 _ by rw [← hV5]; exact h2.alloc _)
  have G5 := hid (show V5.heap[w5.heap.size]? = some (.cells #[Value.slice p5 l5.length c5, .slice q5 u5.length d5] 32 (0, 0)) by rw [← hV5]; exact heap_alloc_new _ _)
  clear hb h1 h2
  have G45 := hid ((S5.out.block _ (lt_of G4.out)).trans G4.out)
  have x4 := two_cells G45.out
  have x5 := two_cells G5.out
  clear hV4
  go_wp2_with fail
  refine (HI5.out p5 q5 c5 d5 V5 (HP.out.below B5.out) P5.out Q5.out).mono ?_
  rintro e w7 ⟨rfl, hb⟩
  have B7 := hid (B5.out.trans (hb.mono B5.out.size))
  clear hb x4 x5 hV5
  go_wp2_with fail
  refine (HG.out _).mono ?_
  rintro e w8 ⟨rfl, hw8⟩
  have B8 := hid (show Below w.heap.size w w8 by rw [← hw8]; exact B7.out); clear hw8
  go_wp2_with fail
  refine (HN.out w8 (HP.out.below B8.out)).mono ?_
  rintro e w9 ⟨rfl, m9, hw⟩
  have B9 := hid (show Below w.heap.size w w9 by rw [hw]; exact below_drewN B8.out m9); clear hw
  go_wp2_with fail
  refine (Ln.live_any _).mono ?_
  rintro e w10 ⟨rfl, hb⟩
  have B10 := hid (B9.out.trans (hb.mono B9.out.size)); clear hb
  go_wp2_with fail
  go_ret
  exact ⟨rfl, B10.out⟩
set_option maxRecDepth 100000 in
set_option maxHeartbeats 4000000 in
theorem holds_10lt (k : List Nat) (p : Option Addr) (c n f g s : Nat) (l x l' x' : Int) (l2 u2 l4 u4 l5 u5 : List Nat) (w : World) (hp : Pt w p k) (hk : k.length = n) (hn : n ≤ 6) (hl : decide (9 < l) = false) (hf : f ≤ 4096)
    (HF : Calls Try.prog 12 #[.slice p n c, .int .i64 l, .int .i64 x] w fun e w' => e = .returned (.tuple #[.int .i64 (f : Int), .int .i64 0]) ∧ ∃ m, w' = w.drewN m)
    (HB2 : ∀ V : World, Calls Try.prog 14 #[.int .i64 (n : Int), .int .i64 l, .int .i64 x, .int .i64 (f : Int)] V (AnyBox V (l2, u2) 0)) (hi2 : inB k l2 u2 = true)
    (HB4 : ∀ V : World, Calls Try.prog 14 #[.int .i64 (n : Int), .int .i64 l, .int .i64 x, .int .i64 ((f : Int) + 1)] V (AnyBox V (l4, u4) 0)) (hi4 : inB k l4 u4 = false)
    (HB5 : ∀ V : World, Calls Try.prog 14 #[.int .i64 (n : Int), .int .i64 l, .int .i64 x, .int .i64 ((f : Int) - 1)] V (AnyBox V (l5, u5) 1))
    (HG : ∀ V : World, Calls Try.prog 20 #[.int .i64 l, .int .i64 x] V fun e w' => e = .returned (.tuple #[.int .i64 l', .int .i64 x', .int .i64 (s : Int), .int .i64 0]) ∧ V = w')
    (HN : ∀ V : World, Pt V p k → Calls Try.prog 12 #[.slice p n c, .int .i64 l', .int .i64 x'] V fun e w' => e = .returned (.tuple #[.int .i64 (g : Int), .int .i64 0]) ∧ ∃ m, w' = V.drewN m)
    (hs : (f < s ∧ g = f)) :
    Calls Try.prog 7 #[.slice p n c, .int .i64 l, .int .i64 x] w fun e w' => e = .returned (.bool true) ∧ Below w.heap.size w w' := by
  unfold AnyBox at HB2 HB4 HB5
  have HF := hid HF; have HB2 := hid HB2; have HB4 := hid HB4; have HB5 := hid HB5; have HG := hid HG; have HN := hid HN
  have HP := hid hp
  have HI2 := hid (show ∀ (p' q' : Option Addr) (a b : Nat) (V : World), Pt V p k → Pt V p' l2 → Pt V q' u2 → Calls Try.prog 24 #[.slice p n c, .agg #[.slice p' l2.length a, .slice q' u2.length b]] V fun e w' => e = .returned (.bool true) ∧ Below V.heap.size V w' from fun p' q' a b V g0 g1 g2 => by have := refIn_ok k l2 u2 p p' q' c a b V g0 g1 g2 (by omega); rw [hk, hi2] at this; exact this)
  have HI4 := hid (show ∀ (p' q' : Option Addr) (a b : Nat) (V : World), Pt V p k → Pt V p' l4 → Pt V q' u4 → Calls Try.prog 24 #[.slice p n c, .agg #[.slice p' l4.length a, .slice q' u4.length b]] V fun e w' => e = .returned (.bool false) ∧ Below V.heap.size V w' from fun p' q' a b V g0 g1 g2 => by have := refIn_ok k l4 u4 p p' q' c a b V g0 g1 g2 (by omega); rw [hk, hi4] at this; exact this)
  have s1 : IntKind.i64.wrap ((f : Int) + 1) = (f : Int) + 1 := Go.IntWalk.i64_in _ (by omega)
  have s2 : IntKind.i64.wrap ((f : Int) - 1) = (f : Int) - 1 := Go.IntWalk.i64_in _ (by omega)
  have n1 : decide ((6 : Int) < (n : Int)) = false := by simp; omega
  have n2 : decide (6 < n) = false := by simp; omega
  obtain rfl : g = f := hs.2
  have d1 : decide ((g : Int) < (s : Int)) = true := by simpa using hs.1
  have d1' : decide (g < s) = true := by simpa using hs.1
  clear hp hk hn hf hs hi2 hi4
  go_enter Try.func7, Try.ntmps7
  go_wp2_with fail
  refine HF.out.mono ?_
  rintro e w1 ⟨rfl, m, hw⟩
  have H1 := hid (show Below w.heap.size w w1 by rw [hw]; exact below_drewN (Below.refl _ _) m); clear hw
  go_wp2_with fail
  refine (HB2.out _).mono ?_
  rintro e w2 ⟨p2, c2, q2, d2, rfl, h1, h2, hb⟩
  obtain ⟨V2, hV2⟩ : ∃ V, w2.alloc (.cells #[Value.slice p2 l2.length c2, .slice q2 u2.length d2] 32) = V := ⟨_, rfl⟩
  have B2 := hid (show Below w.heap.size w V2 by rw [← hV2]; exact (H1.out.trans (hb.mono H1.out.size)).alloc (H1.out.trans (hb.mono H1.out.size)).size _)
  have S2 := hid (show Below w1.heap.size w1 V2 by rw [← hV2]; exact hb.alloc hb.size _)
  have P2 := hid (show Pt V2 p2 _ by rw [← hV2]; exact h1.alloc _)
  have Q2 := hid (show Pt V2 q2 _ by rw [← hV2]; exact h2.alloc _)
  have G2 := hid (show V2.heap[w2.heap.size]? = some (.cells #[Value.slice p2 l2.length c2, .slice q2 u2.length d2] 32 (0, 0)) by rw [← hV2]; exact heap_alloc_new _ _)
  clear hb h1 h2
  have x2 := two_cells G2.out
  go_wp2_with fail
  refine (HI2.out p2 q2 c2 d2 V2 (HP.out.below B2.out) P2.out Q2.out).mono ?_
  rintro e w3 ⟨rfl, hb⟩
  have H3 := hid (B2.out.trans (hb.mono B2.out.size)); clear hb x2 hV2
  go_wp2_with fail
  refine (HB4.out _).mono ?_
  rintro e w4 ⟨p4, c4, q4, d4, rfl, h1, h2, hb⟩
  obtain ⟨V4, hV4⟩ : ∃ V, w4.alloc (.cells #[Value.slice p4 l4.length c4, .slice q4 u4.length d4] 32) = V := ⟨_, rfl⟩
  have B4 := hid (show Below w.heap.size w V4 by rw [← hV4]; exact (H3.out.trans (hb.mono H3.out.size)).alloc (H3.out.trans (hb.mono H3.out.size)).size _)
  have S4 := hid (show Below w3.heap.size w3 V4 by rw [← hV4]; exact hb.alloc hb.size _)
  have P4 := hid (show Pt V4 p4 _ by rw [← hV4]; exact h1.alloc _)
  have Q4 := hid (show Pt V4 q4 _ by rw [← hV4]; exact h2.alloc _)
  have G4 := hid (show V4.heap[w4.heap.size]? = some (.cells #[Value.slice p4 l4.length c4, .slice q4 u4.length d4] 32 (0, 0)) by rw [← hV4]; exact heap_alloc_new _ _)
  clear hb h1 h2
  go_wp2_with fail
  refine (HB5.out _).mono ?_
  rintro e w5 ⟨p5, c5, q5, d5, rfl, h1, h2, hb⟩
  obtain ⟨V5, hV5⟩ : ∃ V, w5.alloc (.cells #[Value.slice p5 l5.length c5, .slice q5 u5.length d5] 32) = V := ⟨_, rfl⟩
  have B5 := hid (show Below w.heap.size w V5 by rw [← hV5]; exact (B4.out.trans (hb.mono B4.out.size)).alloc (B4.out.trans (hb.mono B4.out.size)).size _)
  have S5 := hid (show Below V4.heap.size V4 V5 by rw [← hV5]; exact hb.alloc hb.size _)
  have P5 := hid (show Pt V5 p5 _ by rw [← hV5]; exact h1.alloc _)
  have Q5 := hid (show Pt V5 q5 _ by rw [← hV5]; exact h2.alloc _)
  have G5 := hid (show V5.heap[w5.heap.size]? = some (.cells #[Value.slice p5 l5.length c5, .slice q5 u5.length d5] 32 (0, 0)) by rw [← hV5]; exact heap_alloc_new _ _)
  clear hb h1 h2
  have G45 := hid ((S5.out.block _ (lt_of G4.out)).trans G4.out)
  have x4 := two_cells G45.out
  have x5 := two_cells G5.out
  clear hV4
  go_wp2_with fail
  refine (HI4.out p4 q4 c4 d4 V5 (HP.out.below B5.out) (P4.out.below S5.out) (Q4.out.below S5.out)).mono ?_
  rintro e w6 ⟨rfl, hb⟩
  have B6 := hid (B5.out.trans (hb.mono B5.out.size))
  clear hb x4 x5 hV5
  go_wp2_with fail
  refine (HG.out _).mono ?_
  rintro e w8 ⟨rfl, hw8⟩
  have B8 := hid (show Below w.heap.size w w8 by rw [← hw8]; exact B6.out); clear hw8
  go_wp2_with fail
  refine (HN.out w8 (HP.out.below B8.out)).mono ?_
  rintro e w9 ⟨rfl, m9, hw⟩
  have B9 := hid (show Below w.heap.size w w9 by rw [hw]; exact below_drewN B8.out m9); clear hw
  go_wp2_with fail
  refine (Ln.live_any _).mono ?_
  rintro e w10 ⟨rfl, hb⟩
  have B10 := hid (B9.out.trans (hb.mono B9.out.size)); clear hb
  go_wp2_with fail
  go_ret
  exact ⟨rfl, B10.out⟩
set_option maxRecDepth 100000 in
set_option maxHeartbeats 4000000 in
theorem holds_10gt (k : List Nat) (p : Option Addr) (c n f g s : Nat) (l x l' x' : Int) (l2 u2 l4 u4 l5 u5 : List Nat) (w : World) (hp : Pt w p k) (hk : k.length = n) (hn : n ≤ 6) (hl : decide (9 < l) = false) (hf : f ≤ 4096)
    (HF : Calls Try.prog 12 #[.slice p n c, .int .i64 l, .int .i64 x] w fun e w' => e = .returned (.tuple #[.int .i64 (f : Int), .int .i64 0]) ∧ ∃ m, w' = w.drewN m)
    (HB2 : ∀ V : World, Calls Try.prog 14 #[.int .i64 (n : Int), .int .i64 l, .int .i64 x, .int .i64 (f : Int)] V (AnyBox V (l2, u2) 0)) (hi2 : inB k l2 u2 = true)
    (HB4 : ∀ V : World, Calls Try.prog 14 #[.int .i64 (n : Int), .int .i64 l, .int .i64 x, .int .i64 ((f : Int) + 1)] V (AnyBox V (l4, u4) 0)) (hi4 : inB k l4 u4 = false)
    (HB5 : ∀ V : World, Calls Try.prog 14 #[.int .i64 (n : Int), .int .i64 l, .int .i64 x, .int .i64 ((f : Int) - 1)] V (AnyBox V (l5, u5) 1))
    (HG : ∀ V : World, Calls Try.prog 20 #[.int .i64 l, .int .i64 x] V fun e w' => e = .returned (.tuple #[.int .i64 l', .int .i64 x', .int .i64 (s : Int), .int .i64 0]) ∧ V = w')
    (HN : ∀ V : World, Pt V p k → Calls Try.prog 12 #[.slice p n c, .int .i64 l', .int .i64 x'] V fun e w' => e = .returned (.tuple #[.int .i64 (g : Int), .int .i64 0]) ∧ ∃ m, w' = V.drewN m)
    (hs : (s < f ∧ g = f + 1)) :
    Calls Try.prog 7 #[.slice p n c, .int .i64 l, .int .i64 x] w fun e w' => e = .returned (.bool true) ∧ Below w.heap.size w w' := by
  unfold AnyBox at HB2 HB4 HB5
  have HF := hid HF; have HB2 := hid HB2; have HB4 := hid HB4; have HB5 := hid HB5; have HG := hid HG; have HN := hid HN
  have HP := hid hp
  have HI2 := hid (show ∀ (p' q' : Option Addr) (a b : Nat) (V : World), Pt V p k → Pt V p' l2 → Pt V q' u2 → Calls Try.prog 24 #[.slice p n c, .agg #[.slice p' l2.length a, .slice q' u2.length b]] V fun e w' => e = .returned (.bool true) ∧ Below V.heap.size V w' from fun p' q' a b V g0 g1 g2 => by have := refIn_ok k l2 u2 p p' q' c a b V g0 g1 g2 (by omega); rw [hk, hi2] at this; exact this)
  have HI4 := hid (show ∀ (p' q' : Option Addr) (a b : Nat) (V : World), Pt V p k → Pt V p' l4 → Pt V q' u4 → Calls Try.prog 24 #[.slice p n c, .agg #[.slice p' l4.length a, .slice q' u4.length b]] V fun e w' => e = .returned (.bool false) ∧ Below V.heap.size V w' from fun p' q' a b V g0 g1 g2 => by have := refIn_ok k l4 u4 p p' q' c a b V g0 g1 g2 (by omega); rw [hk, hi4] at this; exact this)
  have s1 : IntKind.i64.wrap ((f : Int) + 1) = (f : Int) + 1 := Go.IntWalk.i64_in _ (by omega)
  have s2 : IntKind.i64.wrap ((f : Int) - 1) = (f : Int) - 1 := Go.IntWalk.i64_in _ (by omega)
  have n1 : decide ((6 : Int) < (n : Int)) = false := by simp; omega
  have n2 : decide (6 < n) = false := by simp; omega
  obtain rfl : g = f + 1 := hs.2
  rw [show ((f + 1 : Nat) : Int) = (f : Int) + 1 by omega] at HN
  have d1 : decide ((f : Int) < (s : Int)) = false := by simp; omega
  have d1' : decide (f < s) = false := by simp; omega
  have d2 : decide ((s : Int) < (f : Int)) = true := by simpa using hs.1
  have d2' : decide (s < f) = true := by simpa using hs.1
  clear hp hk hn hf hs hi2 hi4
  go_enter Try.func7, Try.ntmps7
  go_wp2_with fail
  refine HF.out.mono ?_
  rintro e w1 ⟨rfl, m, hw⟩
  have H1 := hid (show Below w.heap.size w w1 by rw [hw]; exact below_drewN (Below.refl _ _) m); clear hw
  go_wp2_with fail
  refine (HB2.out _).mono ?_
  rintro e w2 ⟨p2, c2, q2, d2, rfl, h1, h2, hb⟩
  obtain ⟨V2, hV2⟩ : ∃ V, w2.alloc (.cells #[Value.slice p2 l2.length c2, .slice q2 u2.length d2] 32) = V := ⟨_, rfl⟩
  have B2 := hid (show Below w.heap.size w V2 by rw [← hV2]; exact (H1.out.trans (hb.mono H1.out.size)).alloc (H1.out.trans (hb.mono H1.out.size)).size _)
  have S2 := hid (show Below w1.heap.size w1 V2 by rw [← hV2]; exact hb.alloc hb.size _)
  have P2 := hid (show Pt V2 p2 _ by rw [← hV2]; exact h1.alloc _)
  have Q2 := hid (show Pt V2 q2 _ by rw [← hV2]; exact h2.alloc _)
  have G2 := hid (show V2.heap[w2.heap.size]? = some (.cells #[Value.slice p2 l2.length c2, .slice q2 u2.length d2] 32 (0, 0)) by rw [← hV2]; exact heap_alloc_new _ _)
  clear hb h1 h2
  have x2 := two_cells G2.out
  go_wp2_with fail
  refine (HI2.out p2 q2 c2 d2 V2 (HP.out.below B2.out) P2.out Q2.out).mono ?_
  rintro e w3 ⟨rfl, hb⟩
  have H3 := hid (B2.out.trans (hb.mono B2.out.size)); clear hb x2 hV2
  go_wp2_with fail
  refine (HB4.out _).mono ?_
  rintro e w4 ⟨p4, c4, q4, d4, rfl, h1, h2, hb⟩
  obtain ⟨V4, hV4⟩ : ∃ V, w4.alloc (.cells #[Value.slice p4 l4.length c4, .slice q4 u4.length d4] 32) = V := ⟨_, rfl⟩
  have B4 := hid (show Below w.heap.size w V4 by rw [← hV4]; exact (H3.out.trans (hb.mono H3.out.size)).alloc (H3.out.trans (hb.mono H3.out.size)).size _)
  have S4 := hid (show Below w3.heap.size w3 V4 by rw [← hV4]; exact hb.alloc hb.size _)
  have P4 := hid (show Pt V4 p4 _ by rw [← hV4]; exact h1.alloc _)
  have Q4 := hid (show Pt V4 q4 _ by rw [← hV4]; exact h2.alloc _)
  have G4 := hid (show V4.heap[w4.heap.size]? = some (.cells #[Value.slice p4 l4.length c4, .slice q4 u4.length d4] 32 (0, 0)) by rw [← hV4]; exact heap_alloc_new _ _)
  clear hb h1 h2
  go_wp2_with fail
  refine (HB5.out _).mono ?_
  rintro e w5 ⟨p5, c5, q5, d5, rfl, h1, h2, hb⟩
  obtain ⟨V5, hV5⟩ : ∃ V, w5.alloc (.cells #[Value.slice p5 l5.length c5, .slice q5 u5.length d5] 32) = V := ⟨_, rfl⟩
  have B5 := hid (show Below w.heap.size w V5 by rw [← hV5]; exact (B4.out.trans (hb.mono B4.out.size)).alloc (B4.out.trans (hb.mono B4.out.size)).size _)
  have S5 := hid (show Below V4.heap.size V4 V5 by rw [← hV5]; exact hb.alloc hb.size _)
  have P5 := hid (show Pt V5 p5 _ by rw [← hV5]; exact h1.alloc _)
  have Q5 := hid (show Pt V5 q5 _ by rw [← hV5]; exact h2.alloc _)
  have G5 := hid (show V5.heap[w5.heap.size]? = some (.cells #[Value.slice p5 l5.length c5, .slice q5 u5.length d5] 32 (0, 0)) by rw [← hV5]; exact heap_alloc_new _ _)
  clear hb h1 h2
  have G45 := hid ((S5.out.block _ (lt_of G4.out)).trans G4.out)
  have x4 := two_cells G45.out
  have x5 := two_cells G5.out
  clear hV4
  go_wp2_with fail
  refine (HI4.out p4 q4 c4 d4 V5 (HP.out.below B5.out) (P4.out.below S5.out) (Q4.out.below S5.out)).mono ?_
  rintro e w6 ⟨rfl, hb⟩
  have B6 := hid (B5.out.trans (hb.mono B5.out.size))
  clear hb x4 x5 hV5
  go_wp2_with fail
  refine (HG.out _).mono ?_
  rintro e w8 ⟨rfl, hw8⟩
  have B8 := hid (show Below w.heap.size w w8 by rw [← hw8]; exact B6.out); clear hw8
  go_wp2_with fail
  refine (HN.out w8 (HP.out.below B8.out)).mono ?_
  rintro e w9 ⟨rfl, m9, hw⟩
  have B9 := hid (show Below w.heap.size w w9 by rw [hw]; exact below_drewN B8.out m9); clear hw
  go_wp2_with fail
  refine (Ln.live_any _).mono ?_
  rintro e w10 ⟨rfl, hb⟩
  have B10 := hid (B9.out.trans (hb.mono B9.out.size)); clear hb
  go_wp2_with fail
  go_ret
  exact ⟨rfl, B10.out⟩
set_option maxRecDepth 100000 in
set_option maxHeartbeats 4000000 in
theorem holds_10es (k : List Nat) (p : Option Addr) (c n f g s : Nat) (l x l' x' : Int) (l2 u2 l4 u4 l5 u5 : List Nat) (w : World) (hp : Pt w p k) (hk : k.length = n) (hn : n ≤ 6) (hl : decide (9 < l) = false) (hf : f ≤ 4096)
    (HF : Calls Try.prog 12 #[.slice p n c, .int .i64 l, .int .i64 x] w fun e w' => e = .returned (.tuple #[.int .i64 (f : Int), .int .i64 0]) ∧ ∃ m, w' = w.drewN m)
    (HB2 : ∀ V : World, Calls Try.prog 14 #[.int .i64 (n : Int), .int .i64 l, .int .i64 x, .int .i64 (f : Int)] V (AnyBox V (l2, u2) 0)) (hi2 : inB k l2 u2 = true)
    (HB4 : ∀ V : World, Calls Try.prog 14 #[.int .i64 (n : Int), .int .i64 l, .int .i64 x, .int .i64 ((f : Int) + 1)] V (AnyBox V (l4, u4) 0)) (hi4 : inB k l4 u4 = false)
    (HB5 : ∀ V : World, Calls Try.prog 14 #[.int .i64 (n : Int), .int .i64 l, .int .i64 x, .int .i64 ((f : Int) - 1)] V (AnyBox V (l5, u5) 1))
    (HG : ∀ V : World, Calls Try.prog 20 #[.int .i64 l, .int .i64 x] V fun e w' => e = .returned (.tuple #[.int .i64 l', .int .i64 x', .int .i64 (s : Int), .int .i64 0]) ∧ V = w')
    (HN : ∀ V : World, Pt V p k → Calls Try.prog 12 #[.slice p n c, .int .i64 l', .int .i64 x'] V fun e w' => e = .returned (.tuple #[.int .i64 (g : Int), .int .i64 0]) ∧ ∃ m, w' = V.drewN m)
    (hs : (f = s ∧ g = f)) :
    Calls Try.prog 7 #[.slice p n c, .int .i64 l, .int .i64 x] w fun e w' => e = .returned (.bool true) ∧ Below w.heap.size w w' := by
  unfold AnyBox at HB2 HB4 HB5
  have HF := hid HF; have HB2 := hid HB2; have HB4 := hid HB4; have HB5 := hid HB5; have HG := hid HG; have HN := hid HN
  have HP := hid hp
  have HI2 := hid (show ∀ (p' q' : Option Addr) (a b : Nat) (V : World), Pt V p k → Pt V p' l2 → Pt V q' u2 → Calls Try.prog 24 #[.slice p n c, .agg #[.slice p' l2.length a, .slice q' u2.length b]] V fun e w' => e = .returned (.bool true) ∧ Below V.heap.size V w' from fun p' q' a b V g0 g1 g2 => by have := refIn_ok k l2 u2 p p' q' c a b V g0 g1 g2 (by omega); rw [hk, hi2] at this; exact this)
  have HI4 := hid (show ∀ (p' q' : Option Addr) (a b : Nat) (V : World), Pt V p k → Pt V p' l4 → Pt V q' u4 → Calls Try.prog 24 #[.slice p n c, .agg #[.slice p' l4.length a, .slice q' u4.length b]] V fun e w' => e = .returned (.bool false) ∧ Below V.heap.size V w' from fun p' q' a b V g0 g1 g2 => by have := refIn_ok k l4 u4 p p' q' c a b V g0 g1 g2 (by omega); rw [hk, hi4] at this; exact this)
  have s1 : IntKind.i64.wrap ((f : Int) + 1) = (f : Int) + 1 := Go.IntWalk.i64_in _ (by omega)
  have s2 : IntKind.i64.wrap ((f : Int) - 1) = (f : Int) - 1 := Go.IntWalk.i64_in _ (by omega)
  have n1 : decide ((6 : Int) < (n : Int)) = false := by simp; omega
  have n2 : decide (6 < n) = false := by simp; omega
  obtain rfl : f = s := hs.1
  obtain rfl : g = f := hs.2
  have d1 : decide ((g : Int) < (g : Int)) = false := by simp
  have d1' : decide (g < g) = false := by simp
  clear hp hk hn hf hs hi2 hi4
  go_enter Try.func7, Try.ntmps7
  go_wp2_with fail
  refine HF.out.mono ?_
  rintro e w1 ⟨rfl, m, hw⟩
  have H1 := hid (show Below w.heap.size w w1 by rw [hw]; exact below_drewN (Below.refl _ _) m); clear hw
  go_wp2_with fail
  refine (HB2.out _).mono ?_
  rintro e w2 ⟨p2, c2, q2, d2, rfl, h1, h2, hb⟩
  obtain ⟨V2, hV2⟩ : ∃ V, w2.alloc (.cells #[Value.slice p2 l2.length c2, .slice q2 u2.length d2] 32) = V := ⟨_, rfl⟩
  have B2 := hid (show Below w.heap.size w V2 by rw [← hV2]; exact (H1.out.trans (hb.mono H1.out.size)).alloc (H1.out.trans (hb.mono H1.out.size)).size _)
  have S2 := hid (show Below w1.heap.size w1 V2 by rw [← hV2]; exact hb.alloc hb.size _)
  have P2 := hid (show Pt V2 p2 _ by rw [← hV2]; exact h1.alloc _)
  have Q2 := hid (show Pt V2 q2 _ by rw [← hV2]; exact h2.alloc _)
  have G2 := hid (show V2.heap[w2.heap.size]? = some (.cells #[Value.slice p2 l2.length c2, .slice q2 u2.length d2] 32 (0, 0)) by rw [← hV2]; exact heap_alloc_new _ _)
  clear hb h1 h2
  have x2 := two_cells G2.out
  go_wp2_with fail
  refine (HI2.out p2 q2 c2 d2 V2 (HP.out.below B2.out) P2.out Q2.out).mono ?_
  rintro e w3 ⟨rfl, hb⟩
  have H3 := hid (B2.out.trans (hb.mono B2.out.size)); clear hb x2 hV2
  go_wp2_with fail
  refine (HB4.out _).mono ?_
  rintro e w4 ⟨p4, c4, q4, d4, rfl, h1, h2, hb⟩
  obtain ⟨V4, hV4⟩ : ∃ V, w4.alloc (.cells #[Value.slice p4 l4.length c4, .slice q4 u4.length d4] 32) = V := ⟨_, rfl⟩
  have B4 := hid (show Below w.heap.size w V4 by rw [← hV4]; exact (H3.out.trans (hb.mono H3.out.size)).alloc (H3.out.trans (hb.mono H3.out.size)).size _)
  have S4 := hid (show Below w3.heap.size w3 V4 by rw [← hV4]; exact hb.alloc hb.size _)
  have P4 := hid (show Pt V4 p4 _ by rw [← hV4]; exact h1.alloc _)
  have Q4 := hid (show Pt V4 q4 _ by rw [← hV4]; exact h2.alloc _)
  have G4 := hid (show V4.heap[w4.heap.size]? = some (.cells #[Value.slice p4 l4.length c4, .slice q4 u4.length d4] 32 (0, 0)) by rw [← hV4]; exact heap_alloc_new _ _)
  clear hb h1 h2
  go_wp2_with fail
  refine (HB5.out _).mono ?_
  rintro e w5 ⟨p5, c5, q5, d5, rfl, h1, h2, hb⟩
  obtain ⟨V5, hV5⟩ : ∃ V, w5.alloc (.cells #[Value.slice p5 l5.length c5, .slice q5 u5.length d5] 32) = V := ⟨_, rfl⟩
  have B5 := hid (show Below w.heap.size w V5 by rw [← hV5]; exact (B4.out.trans (hb.mono B4.out.size)).alloc (B4.out.trans (hb.mono B4.out.size)).size _)
  have S5 := hid (show Below V4.heap.size V4 V5 by rw [← hV5]; exact hb.alloc hb.size _)
  have P5 := hid (show Pt V5 p5 _ by rw [← hV5]; exact h1.alloc _)
  have Q5 := hid (show Pt V5 q5 _ by rw [← hV5]; exact h2.alloc _)
  have G5 := hid (show V5.heap[w5.heap.size]? = some (.cells #[Value.slice p5 l5.length c5, .slice q5 u5.length d5] 32 (0, 0)) by rw [← hV5]; exact heap_alloc_new _ _)
  clear hb h1 h2
  have G45 := hid ((S5.out.block _ (lt_of G4.out)).trans G4.out)
  have x4 := two_cells G45.out
  have x5 := two_cells G5.out
  clear hV4
  go_wp2_with fail
  refine (HI4.out p4 q4 c4 d4 V5 (HP.out.below B5.out) (P4.out.below S5.out) (Q4.out.below S5.out)).mono ?_
  rintro e w6 ⟨rfl, hb⟩
  have B6 := hid (B5.out.trans (hb.mono B5.out.size))
  clear hb x4 x5 hV5
  go_wp2_with fail
  refine (HG.out _).mono ?_
  rintro e w8 ⟨rfl, hw8⟩
  have B8 := hid (show Below w.heap.size w w8 by rw [← hw8]; exact B6.out); clear hw8
  go_wp2_with fail
  refine (HN.out w8 (HP.out.below B8.out)).mono ?_
  rintro e w9 ⟨rfl, m9, hw⟩
  have B9 := hid (show Below w.heap.size w w9 by rw [hw]; exact below_drewN B8.out m9); clear hw
  go_wp2_with fail
  refine (Ln.live_any _).mono ?_
  rintro e w10 ⟨rfl, hb⟩
  have B10 := hid (B9.out.trans (hb.mono B9.out.size)); clear hb
  go_wp2_with fail
  go_ret
  exact ⟨rfl, B10.out⟩
set_option maxRecDepth 100000 in
set_option maxHeartbeats 4000000 in
theorem holds_10en (k : List Nat) (p : Option Addr) (c n f g s : Nat) (l x l' x' : Int) (l2 u2 l4 u4 l5 u5 : List Nat) (w : World) (hp : Pt w p k) (hk : k.length = n) (hn : n ≤ 6) (hl : decide (9 < l) = false) (hf : f ≤ 4096)
    (HF : Calls Try.prog 12 #[.slice p n c, .int .i64 l, .int .i64 x] w fun e w' => e = .returned (.tuple #[.int .i64 (f : Int), .int .i64 0]) ∧ ∃ m, w' = w.drewN m)
    (HB2 : ∀ V : World, Calls Try.prog 14 #[.int .i64 (n : Int), .int .i64 l, .int .i64 x, .int .i64 (f : Int)] V (AnyBox V (l2, u2) 0)) (hi2 : inB k l2 u2 = true)
    (HB4 : ∀ V : World, Calls Try.prog 14 #[.int .i64 (n : Int), .int .i64 l, .int .i64 x, .int .i64 ((f : Int) + 1)] V (AnyBox V (l4, u4) 0)) (hi4 : inB k l4 u4 = false)
    (HB5 : ∀ V : World, Calls Try.prog 14 #[.int .i64 (n : Int), .int .i64 l, .int .i64 x, .int .i64 ((f : Int) - 1)] V (AnyBox V (l5, u5) 1))
    (HG : ∀ V : World, Calls Try.prog 20 #[.int .i64 l, .int .i64 x] V fun e w' => e = .returned (.tuple #[.int .i64 l', .int .i64 x', .int .i64 (s : Int), .int .i64 0]) ∧ V = w')
    (HN : ∀ V : World, Pt V p k → Calls Try.prog 12 #[.slice p n c, .int .i64 l', .int .i64 x'] V fun e w' => e = .returned (.tuple #[.int .i64 (g : Int), .int .i64 0]) ∧ ∃ m, w' = V.drewN m)
    (hs : (f = s ∧ g = f + 1)) :
    Calls Try.prog 7 #[.slice p n c, .int .i64 l, .int .i64 x] w fun e w' => e = .returned (.bool true) ∧ Below w.heap.size w w' := by
  unfold AnyBox at HB2 HB4 HB5
  have HF := hid HF; have HB2 := hid HB2; have HB4 := hid HB4; have HB5 := hid HB5; have HG := hid HG; have HN := hid HN
  have HP := hid hp
  have HI2 := hid (show ∀ (p' q' : Option Addr) (a b : Nat) (V : World), Pt V p k → Pt V p' l2 → Pt V q' u2 → Calls Try.prog 24 #[.slice p n c, .agg #[.slice p' l2.length a, .slice q' u2.length b]] V fun e w' => e = .returned (.bool true) ∧ Below V.heap.size V w' from fun p' q' a b V g0 g1 g2 => by have := refIn_ok k l2 u2 p p' q' c a b V g0 g1 g2 (by omega); rw [hk, hi2] at this; exact this)
  have HI4 := hid (show ∀ (p' q' : Option Addr) (a b : Nat) (V : World), Pt V p k → Pt V p' l4 → Pt V q' u4 → Calls Try.prog 24 #[.slice p n c, .agg #[.slice p' l4.length a, .slice q' u4.length b]] V fun e w' => e = .returned (.bool false) ∧ Below V.heap.size V w' from fun p' q' a b V g0 g1 g2 => by have := refIn_ok k l4 u4 p p' q' c a b V g0 g1 g2 (by omega); rw [hk, hi4] at this; exact this)
  have s1 : IntKind.i64.wrap ((f : Int) + 1) = (f : Int) + 1 := Go.IntWalk.i64_in _ (by omega)
  have s2 : IntKind.i64.wrap ((f : Int) - 1) = (f : Int) - 1 := Go.IntWalk.i64_in _ (by omega)
  have n1 : decide ((6 : Int) < (n : Int)) = false := by simp; omega
  have n2 : decide (6 < n) = false := by simp; omega
  obtain rfl : f = s := hs.1
  obtain rfl : g = f + 1 := hs.2
  rw [show ((f + 1 : Nat) : Int) = (f : Int) + 1 by omega] at HN
  have d1 : decide ((f : Int) < (f : Int)) = false := by simp
  have d1' : decide (f < f) = false := by simp
  have d3 : ((f : Int) + 1 == (f : Int)) = false := by rw [beq_eq_false_iff_ne]; omega
  clear hp hk hn hf hs hi2 hi4
  go_enter Try.func7, Try.ntmps7
  go_wp2_with fail
  refine HF.out.mono ?_
  rintro e w1 ⟨rfl, m, hw⟩
  have H1 := hid (show Below w.heap.size w w1 by rw [hw]; exact below_drewN (Below.refl _ _) m); clear hw
  go_wp2_with fail
  refine (HB2.out _).mono ?_
  rintro e w2 ⟨p2, c2, q2, d2, rfl, h1, h2, hb⟩
  obtain ⟨V2, hV2⟩ : ∃ V, w2.alloc (.cells #[Value.slice p2 l2.length c2, .slice q2 u2.length d2] 32) = V := ⟨_, rfl⟩
  have B2 := hid (show Below w.heap.size w V2 by rw [← hV2]; exact (H1.out.trans (hb.mono H1.out.size)).alloc (H1.out.trans (hb.mono H1.out.size)).size _)
  have S2 := hid (show Below w1.heap.size w1 V2 by rw [← hV2]; exact hb.alloc hb.size _)
  have P2 := hid (show Pt V2 p2 _ by rw [← hV2]; exact h1.alloc _)
  have Q2 := hid (show Pt V2 q2 _ by rw [← hV2]; exact h2.alloc _)
  have G2 := hid (show V2.heap[w2.heap.size]? = some (.cells #[Value.slice p2 l2.length c2, .slice q2 u2.length d2] 32 (0, 0)) by rw [← hV2]; exact heap_alloc_new _ _)
  clear hb h1 h2
  have x2 := two_cells G2.out
  go_wp2_with fail
  refine (HI2.out p2 q2 c2 d2 V2 (HP.out.below B2.out) P2.out Q2.out).mono ?_
  rintro e w3 ⟨rfl, hb⟩
  have H3 := hid (B2.out.trans (hb.mono B2.out.size)); clear hb x2 hV2
  go_wp2_with fail
  refine (HB4.out _).mono ?_
  rintro e w4 ⟨p4, c4, q4, d4, rfl, h1, h2, hb⟩
  obtain ⟨V4, hV4⟩ : ∃ V, w4.alloc (.cells #[Value.slice p4 l4.length c4, .slice q4 u4.length d4] 32) = V := ⟨_, rfl⟩
  have B4 := hid (show Below w.heap.size w V4 by rw [← hV4]; exact (H3.out.trans (hb.mono H3.out.size)).alloc (H3.out.trans (hb.mono H3.out.size)).size _)
  have S4 := hid (show Below w3.heap.size w3 V4 by rw [← hV4]; exact hb.alloc hb.size _)
  have P4 := hid (show Pt V4 p4 _ by rw [← hV4]; exact h1.alloc _)
  have Q4 := hid (show Pt V4 q4 _ by rw [← hV4]; exact h2.alloc _)
  have G4 := hid (show V4.heap[w4.heap.size]? = some (.cells #[Value.slice p4 l4.length c4, .slice q4 u4.length d4] 32 (0, 0)) by rw [← hV4]; exact heap_alloc_new _ _)
  clear hb h1 h2
  go_wp2_with fail
  refine (HB5.out _).mono ?_
  rintro e w5 ⟨p5, c5, q5, d5, rfl, h1, h2, hb⟩
  obtain ⟨V5, hV5⟩ : ∃ V, w5.alloc (.cells #[Value.slice p5 l5.length c5, .slice q5 u5.length d5] 32) = V := ⟨_, rfl⟩
  have B5 := hid (show Below w.heap.size w V5 by rw [← hV5]; exact (B4.out.trans (hb.mono B4.out.size)).alloc (B4.out.trans (hb.mono B4.out.size)).size _)
  have S5 := hid (show Below V4.heap.size V4 V5 by rw [← hV5]; exact hb.alloc hb.size _)
  have P5 := hid (show Pt V5 p5 _ by rw [← hV5]; exact h1.alloc _)
  have Q5 := hid (show Pt V5 q5 _ by rw [← hV5]; exact h2.alloc _)
  have G5 := hid (show V5.heap[w5.heap.size]? = some (.cells #[Value.slice p5 l5.length c5, .slice q5 u5.length d5] 32 (0, 0)) by rw [← hV5]; exact heap_alloc_new _ _)
  clear hb h1 h2
  have G45 := hid ((S5.out.block _ (lt_of G4.out)).trans G4.out)
  have x4 := two_cells G45.out
  have x5 := two_cells G5.out
  clear hV4
  go_wp2_with fail
  refine (HI4.out p4 q4 c4 d4 V5 (HP.out.below B5.out) (P4.out.below S5.out) (Q4.out.below S5.out)).mono ?_
  rintro e w6 ⟨rfl, hb⟩
  have B6 := hid (B5.out.trans (hb.mono B5.out.size))
  clear hb x4 x5 hV5
  go_wp2_with fail
  refine (HG.out _).mono ?_
  rintro e w8 ⟨rfl, hw8⟩
  have B8 := hid (show Below w.heap.size w w8 by rw [← hw8]; exact B6.out); clear hw8
  go_wp2_with fail
  refine (HN.out w8 (HP.out.below B8.out)).mono ?_
  rintro e w9 ⟨rfl, m9, hw⟩
  have B9 := hid (show Below w.heap.size w w9 by rw [hw]; exact below_drewN B8.out m9); clear hw
  go_wp2_with fail
  refine (Ln.live_any _).mono ?_
  rintro e w10 ⟨rfl, hb⟩
  have B10 := hid (B9.out.trans (hb.mono B9.out.size)); clear hb
  go_wp2_with fail
  go_ret
  exact ⟨rfl, B10.out⟩
set_option maxRecDepth 100000 in
set_option maxHeartbeats 4000000 in
theorem holds_11lt (k : List Nat) (p : Option Addr) (c n f g s : Nat) (l x l' x' : Int) (l2 u2 l4 u4 l5 u5 : List Nat) (w : World) (hp : Pt w p k) (hk : k.length = n) (hn : n ≤ 6) (hl : decide (9 < l) = false) (hf : f ≤ 4096)
    (HF : Calls Try.prog 12 #[.slice p n c, .int .i64 l, .int .i64 x] w fun e w' => e = .returned (.tuple #[.int .i64 (f : Int), .int .i64 0]) ∧ ∃ m, w' = w.drewN m)
    (HB2 : ∀ V : World, Calls Try.prog 14 #[.int .i64 (n : Int), .int .i64 l, .int .i64 x, .int .i64 (f : Int)] V (AnyBox V (l2, u2) 0)) (hi2 : inB k l2 u2 = true)
    (HB4 : ∀ V : World, Calls Try.prog 14 #[.int .i64 (n : Int), .int .i64 l, .int .i64 x, .int .i64 ((f : Int) + 1)] V (AnyBox V (l4, u4) 0)) (hi4 : inB k l4 u4 = false)
    (HB5 : ∀ V : World, Calls Try.prog 14 #[.int .i64 (n : Int), .int .i64 l, .int .i64 x, .int .i64 ((f : Int) - 1)] V (AnyBox V (l5, u5) 0)) (hi5 : inB k l5 u5 = false)
    (HG : ∀ V : World, Calls Try.prog 20 #[.int .i64 l, .int .i64 x] V fun e w' => e = .returned (.tuple #[.int .i64 l', .int .i64 x', .int .i64 (s : Int), .int .i64 0]) ∧ V = w')
    (HN : ∀ V : World, Pt V p k → Calls Try.prog 12 #[.slice p n c, .int .i64 l', .int .i64 x'] V fun e w' => e = .returned (.tuple #[.int .i64 (g : Int), .int .i64 0]) ∧ ∃ m, w' = V.drewN m)
    (hs : (f < s ∧ g = f)) :
    Calls Try.prog 7 #[.slice p n c, .int .i64 l, .int .i64 x] w fun e w' => e = .returned (.bool true) ∧ Below w.heap.size w w' := by
  unfold AnyBox at HB2 HB4 HB5
  have HF := hid HF; have HB2 := hid HB2; have HB4 := hid HB4; have HB5 := hid HB5; have HG := hid HG; have HN := hid HN
  have HP := hid hp
  have HI2 := hid (show ∀ (p' q' : Option Addr) (a b : Nat) (V : World), Pt V p k → Pt V p' l2 → Pt V q' u2 → Calls Try.prog 24 #[.slice p n c, .agg #[.slice p' l2.length a, .slice q' u2.length b]] V fun e w' => e = .returned (.bool true) ∧ Below V.heap.size V w' from fun p' q' a b V g0 g1 g2 => by have := refIn_ok k l2 u2 p p' q' c a b V g0 g1 g2 (by omega); rw [hk, hi2] at this; exact this)
  have HI4 := hid (show ∀ (p' q' : Option Addr) (a b : Nat) (V : World), Pt V p k → Pt V p' l4 → Pt V q' u4 → Calls Try.prog 24 #[.slice p n c, .agg #[.slice p' l4.length a, .slice q' u4.length b]] V fun e w' => e = .returned (.bool false) ∧ Below V.heap.size V w' from fun p' q' a b V g0 g1 g2 => by have := refIn_ok k l4 u4 p p' q' c a b V g0 g1 g2 (by omega); rw [hk, hi4] at this; exact this)
  have HI5 := hid (show ∀ (p' q' : Option Addr) (a b : Nat) (V : World), Pt V p k → Pt V p' l5 → Pt V q' u5 → Calls Try.prog 24 #[.slice p n c, .agg #[.slice p' l5.length a, .slice q' u5.length b]] V fun e w' => e = .returned (.bool false) ∧ Below V.heap.size V w' from fun p' q' a b V g0 g1 g2 => by have := refIn_ok k l5 u5 p p' q' c a b V g0 g1 g2 (by omega); rw [hk, hi5] at this; exact this)
  have s1 : IntKind.i64.wrap ((f : Int) + 1) = (f : Int) + 1 := Go.IntWalk.i64_in _ (by omega)
  have s2 : IntKind.i64.wrap ((f : Int) - 1) = (f : Int) - 1 := Go.IntWalk.i64_in _ (by omega)
  have n1 : decide ((6 : Int) < (n : Int)) = false := by simp; omega
  have n2 : decide (6 < n) = false := by simp; omega
  obtain rfl : g = f := hs.2
  have d1 : decide ((g : Int) < (s : Int)) = true := by simpa using hs.1
  have d1' : decide (g < s) = true := by simpa using hs.1
  clear hp hk hn hf hs hi2 hi4 hi5
  go_enter Try.func7, Try.ntmps7
  go_wp2_with fail
  refine HF.out.mono ?_
  rintro e w1 ⟨rfl, m, hw⟩
  have H1 := hid (show Below w.heap.size w w1 by rw [hw]; exact below_drewN (Below.refl _ _) m); clear hw
  go_wp2_with fail
  refine (HB2.out _).mono ?_
  rintro e w2 ⟨p2, c2, q2, d2, rfl, h1, h2, hb⟩
  obtain ⟨V2, hV2⟩ : ∃ V, w2.alloc (.cells #[Value.slice p2 l2.length c2, .slice q2 u2.length d2] 32) = V := ⟨_, rfl⟩
  have B2 := hid (show Below w.heap.size w V2 by rw [← hV2]; exact (H1.out.trans (hb.mono H1.out.size)).alloc (H1.out.trans (hb.mono H1.out.size)).size _)
  have S2 := hid (show Below w1.heap.size w1 V2 by rw [← hV2]; exact hb.alloc hb.size _)
  have P2 := hid (show Pt V2 p2 _ by rw [← hV2]; exact h1.alloc _)
  have Q2 := hid (show Pt V2 q2 _ by rw [← hV2]; exact h2.alloc _)
  have G2 := hid (show V2.heap[w2.heap.size]? = some (.cells #[Value.slice p2 l2.length c2, .slice q2 u2.length d2] 32 (0, 0)) by rw [← hV2]; exact heap_alloc_new _ _)
  clear hb h1 h2
  have x2 := two_cells G2.out
  go_wp2_with fail
  refine (HI2.out p2 q2 c2 d2 V2 (HP.out.below B2.out) P2.out Q2.out).mono ?_
  rintro e w3 ⟨rfl, hb⟩
  have H3 := hid (B2.out.trans (hb.mono B2.out.size)); clear hb x2 hV2
  go_wp2_with fail
  refine (HB4.out _).mono ?_
  rintro e w4 ⟨p4, c4, q4, d4, rfl, h1, h2, hb⟩
  obtain ⟨V4, hV4⟩ : ∃ V, w4.alloc (.cells #[Value.slice p4 l4.length c4, .slice q4 u4.length d4] 32) = V := ⟨_, rfl⟩
  have B4 := hid (show Below w.heap.size w V4 by rw [← hV4]; exact (H3.out.trans (hb.mono H3.out.size)).alloc (H3.out.trans (hb.mono H3.out.size)).size _)
  have S4 := hid (show Below w3.heap.size w3 V4 by rw [← hV4]; exact hb.alloc hb.size _)
  have P4 := hid (show Pt V4 p4 _ by rw [← hV4]; exact h1.alloc _)
  have Q4 := hid (show Pt V4 q4 _ by rw [← hV4]; exact h2.alloc _)
  have G4 := hid (show V4.heap[w4.heap.size]? = some (.cells #[Value.slice p4 l4.length c4, .slice q4 u4.length d4] 32 (0, 0)) by rw [← hV4]; exact heap_alloc_new _ _)
  clear hb h1 h2
  go_wp2_with fail
  refine (HB5.out _).mono ?_
  rintro e w5 ⟨p5, c5, q5, d5, rfl, h1, h2, hb⟩
  obtain ⟨V5, hV5⟩ : ∃ V, w5.alloc (.cells #[Value.slice p5 l5.length c5, .slice q5 u5.length d5] 32) = V := ⟨_, rfl⟩
  have B5 := hid (show Below w.heap.size w V5 by rw [← hV5]; exact (B4.out.trans (hb.mono B4.out.size)).alloc (B4.out.trans (hb.mono B4.out.size)).size _)
  have S5 := hid (show Below V4.heap.size V4 V5 by rw [← hV5]; exact hb.alloc hb.size _)
  have P5 := hid (show Pt V5 p5 _ by rw [← hV5]; exact h1.alloc _)
  have Q5 := hid (show Pt V5 q5 _ by rw [← hV5]; exact h2.alloc _)
  have G5 := hid (show V5.heap[w5.heap.size]? = some (.cells #[Value.slice p5 l5.length c5, .slice q5 u5.length d5] 32 (0, 0)) by rw [← hV5]; exact heap_alloc_new _ _)
  clear hb h1 h2
  have G45 := hid ((S5.out.block _ (lt_of G4.out)).trans G4.out)
  have x4 := two_cells G45.out
  have x5 := two_cells G5.out
  clear hV4
  go_wp2_with fail
  refine (HI4.out p4 q4 c4 d4 V5 (HP.out.below B5.out) (P4.out.below S5.out) (Q4.out.below S5.out)).mono ?_
  rintro e w6 ⟨rfl, hb⟩
  have B6 := hid (B5.out.trans (hb.mono B5.out.size))
  have S6 := hid hb
  have y5 := two_cells ((hb.block _ (lt_of G5.out)).trans G5.out)
  clear hb x4 x5 hV5
  go_wp2_with fail
  refine (HI5.out p5 q5 c5 d5 w6 (HP.out.below B6.out) (P5.out.below S6.out) (Q5.out.below S6.out)).mono ?_
  rintro e w7 ⟨rfl, hb⟩
  have B7 := hid (B6.out.trans (hb.mono B6.out.size))
  clear hb y5
  go_wp2_with fail
  refine (HG.out _).mono ?_
  rintro e w8 ⟨rfl, hw8⟩
  have B8 := hid (show Below w.heap.size w w8 by rw [← hw8]; exact B7.out); clear hw8
  go_wp2_with fail
  refine (HN.out w8 (HP.out.below B8.out)).mono ?_
  rintro e w9 ⟨rfl, m9, hw⟩
  have B9 := hid (show Below w.heap.size w w9 by rw [hw]; exact below_drewN B8.out m9); clear hw
  go_wp2_with fail
  refine (Ln.live_any _).mono ?_
  rintro e w10 ⟨rfl, hb⟩
  have B10 := hid (B9.out.trans (hb.mono B9.out.size)); clear hb
  go_wp2_with fail
  go_ret
  exact ⟨rfl, B10.out⟩
set_option maxRecDepth 100000 in
set_option maxHeartbeats 4000000 in
theorem holds_11gt (k : List Nat) (p : Option Addr) (c n f g s : Nat) (l x l' x' : Int) (l2 u2 l4 u4 l5 u5 : List Nat) (w : World) (hp : Pt w p k) (hk : k.length = n) (hn : n ≤ 6) (hl : decide (9 < l) = false) (hf : f ≤ 4096)
    (HF : Calls Try.prog 12 #[.slice p n c, .int .i64 l, .int .i64 x] w fun e w' => e = .returned (.tuple #[.int .i64 (f : Int), .int .i64 0]) ∧ ∃ m, w' = w.drewN m)
    (HB2 : ∀ V : World, Calls Try.prog 14 #[.int .i64 (n : Int), .int .i64 l, .int .i64 x, .int .i64 (f : Int)] V (AnyBox V (l2, u2) 0)) (hi2 : inB k l2 u2 = true)
    (HB4 : ∀ V : World, Calls Try.prog 14 #[.int .i64 (n : Int), .int .i64 l, .int .i64 x, .int .i64 ((f : Int) + 1)] V (AnyBox V (l4, u4) 0)) (hi4 : inB k l4 u4 = false)
    (HB5 : ∀ V : World, Calls Try.prog 14 #[.int .i64 (n : Int), .int .i64 l, .int .i64 x, .int .i64 ((f : Int) - 1)] V (AnyBox V (l5, u5) 0)) (hi5 : inB k l5 u5 = false)
    (HG : ∀ V : World, Calls Try.prog 20 #[.int .i64 l, .int .i64 x] V fun e w' => e = .returned (.tuple #[.int .i64 l', .int .i64 x', .int .i64 (s : Int), .int .i64 0]) ∧ V = w')
    (HN : ∀ V : World, Pt V p k → Calls Try.prog 12 #[.slice p n c, .int .i64 l', .int .i64 x'] V fun e w' => e = .returned (.tuple #[.int .i64 (g : Int), .int .i64 0]) ∧ ∃ m, w' = V.drewN m)
    (hs : (s < f ∧ g = f + 1)) :
    Calls Try.prog 7 #[.slice p n c, .int .i64 l, .int .i64 x] w fun e w' => e = .returned (.bool true) ∧ Below w.heap.size w w' := by
  unfold AnyBox at HB2 HB4 HB5
  have HF := hid HF; have HB2 := hid HB2; have HB4 := hid HB4; have HB5 := hid HB5; have HG := hid HG; have HN := hid HN
  have HP := hid hp
  have HI2 := hid (show ∀ (p' q' : Option Addr) (a b : Nat) (V : World), Pt V p k → Pt V p' l2 → Pt V q' u2 → Calls Try.prog 24 #[.slice p n c, .agg #[.slice p' l2.length a, .slice q' u2.length b]] V fun e w' => e = .returned (.bool true) ∧ Below V.heap.size V w' from fun p' q' a b V g0 g1 g2 => by have := refIn_ok k l2 u2 p p' q' c a b V g0 g1 g2 (by omega); rw [hk, hi2] at this; exact this)
  have HI4 := hid (show ∀ (p' q' : Option Addr) (a b : Nat) (V : World), Pt V p k → Pt V p' l4 → Pt V q' u4 → Calls Try.prog 24 #[.slice p n c, .agg #[.slice p' l4.length a, .slice q' u4.length b]] V fun e w' => e = .returned (.bool false) ∧ Below V.heap.size V w' from fun p' q' a b V g0 g1 g2 => by have := refIn_ok k l4 u4 p p' q' c a b V g0 g1 g2 (by omega); rw [hk, hi4] at this; exact this)
  have HI5 := hid (show ∀ (p' q' : Option Addr) (a b : Nat) (V : World), Pt V p k → Pt V p' l5 → Pt V q' u5 → Calls Try.prog 24 #[.slice p n c, .agg #[.slice p' l5.length a, .slice q' u5.length b]] V fun e w' => e = .returned (.bool false) ∧ Below V.heap.size V w' from fun p' q' a b V g0 g1 g2 => by have := refIn_ok k l5 u5 p p' q' c a b V g0 g1 g2 (by omega); rw [hk, hi5] at this; exact this)
  have s1 : IntKind.i64.wrap ((f : Int) + 1) = (f : Int) + 1 := Go.IntWalk.i64_in _ (by omega)
  have s2 : IntKind.i64.wrap ((f : Int) - 1) = (f : Int) - 1 := Go.IntWalk.i64_in _ (by omega)
  have n1 : decide ((6 : Int) < (n : Int)) = false := by simp; omega
  have n2 : decide (6 < n) = false := by simp; omega
  obtain rfl : g = f + 1 := hs.2
  rw [show ((f + 1 : Nat) : Int) = (f : Int) + 1 by omega] at HN
  have d1 : decide ((f : Int) < (s : Int)) = false := by simp; omega
  have d1' : decide (f < s) = false := by simp; omega
  have d2 : decide ((s : Int) < (f : Int)) = true := by simpa using hs.1
  have d2' : decide (s < f) = true := by simpa using hs.1
  clear hp hk hn hf hs hi2 hi4 hi5
  go_enter Try.func7, Try.ntmps7
  go_wp2_with fail
  refine HF.out.mono ?_
  rintro e w1 ⟨rfl, m, hw⟩
  have H1 := hid (show Below w.heap.size w w1 by rw [hw]; exact below_drewN (Below.refl _ _) m); clear hw
  go_wp2_with fail
  refine (HB2.out _).mono ?_
  rintro e w2 ⟨p2, c2, q2, d2, rfl, h1, h2, hb⟩
  obtain ⟨V2, hV2⟩ : ∃ V, w2.alloc (.cells #[Value.slice p2 l2.length c2, .slice q2 u2.length d2] 32) = V := ⟨_, rfl⟩
  have B2 := hid (show Below w.heap.size w V2 by rw [← hV2]; exact (H1.out.trans (hb.mono H1.out.size)).alloc (H1.out.trans (hb.mono H1.out.size)).size _)
  have S2 := hid (show Below w1.heap.size w1 V2 by rw [← hV2]; exact hb.alloc hb.size _)
  have P2 := hid (show Pt V2 p2 _ by rw [← hV2]; exact h1.alloc _)
  have Q2 := hid (show Pt V2 q2 _ by rw [← hV2]; exact h2.alloc _)
  have G2 := hid (show V2.heap[w2.heap.size]? = some (.cells #[Value.slice p2 l2.length c2, .slice q2 u2.length d2] 32 (0, 0)) by rw [← hV2]; exact heap_alloc_new _ _)
  clear hb h1 h2
  have x2 := two_cells G2.out
  go_wp2_with fail
  refine (HI2.out p2 q2 c2 d2 V2 (HP.out.below B2.out) P2.out Q2.out).mono ?_
  rintro e w3 ⟨rfl, hb⟩
  have H3 := hid (B2.out.trans (hb.mono B2.out.size)); clear hb x2 hV2
  go_wp2_with fail
  refine (HB4.out _).mono ?_
  rintro e w4 ⟨p4, c4, q4, d4, rfl, h1, h2, hb⟩
  obtain ⟨V4, hV4⟩ : ∃ V, w4.alloc (.cells #[Value.slice p4 l4.length c4, .slice q4 u4.length d4] 32) = V := ⟨_, rfl⟩
  have B4 := hid (show Below w.heap.size w V4 by rw [← hV4]; exact (H3.out.trans (hb.mono H3.out.size)).alloc (H3.out.trans (hb.mono H3.out.size)).size _)
  have S4 := hid (show Below w3.heap.size w3 V4 by rw [← hV4]; exact hb.alloc hb.size _)
  have P4 := hid (show Pt V4 p4 _ by rw [← hV4]; exact h1.alloc _)
  have Q4 := hid (show Pt V4 q4 _ by rw [← hV4]; exact h2.alloc _)
  have G4 := hid (show V4.heap[w4.heap.size]? = some (.cells #[Value.slice p4 l4.length c4, .slice q4 u4.length d4] 32 (0, 0)) by rw [← hV4]; exact heap_alloc_new _ _)
  clear hb h1 h2
  go_wp2_with fail
  refine (HB5.out _).mono ?_
  rintro e w5 ⟨p5, c5, q5, d5, rfl, h1, h2, hb⟩
  obtain ⟨V5, hV5⟩ : ∃ V, w5.alloc (.cells #[Value.slice p5 l5.length c5, .slice q5 u5.length d5] 32) = V := ⟨_, rfl⟩
  have B5 := hid (show Below w.heap.size w V5 by rw [← hV5]; exact (B4.out.trans (hb.mono B4.out.size)).alloc (B4.out.trans (hb.mono B4.out.size)).size _)
  have S5 := hid (show Below V4.heap.size V4 V5 by rw [← hV5]; exact hb.alloc hb.size _)
  have P5 := hid (show Pt V5 p5 _ by rw [← hV5]; exact h1.alloc _)
  have Q5 := hid (show Pt V5 q5 _ by rw [← hV5]; exact h2.alloc _)
  have G5 := hid (show V5.heap[w5.heap.size]? = some (.cells #[Value.slice p5 l5.length c5, .slice q5 u5.length d5] 32 (0, 0)) by rw [← hV5]; exact heap_alloc_new _ _)
  clear hb h1 h2
  have G45 := hid ((S5.out.block _ (lt_of G4.out)).trans G4.out)
  have x4 := two_cells G45.out
  have x5 := two_cells G5.out
  clear hV4
  go_wp2_with fail
  refine (HI4.out p4 q4 c4 d4 V5 (HP.out.below B5.out) (P4.out.below S5.out) (Q4.out.below S5.out)).mono ?_
  rintro e w6 ⟨rfl, hb⟩
  have B6 := hid (B5.out.trans (hb.mono B5.out.size))
  have S6 := hid hb
  have y5 := two_cells ((hb.block _ (lt_of G5.out)).trans G5.out)
  clear hb x4 x5 hV5
  go_wp2_with fail
  refine (HI5.out p5 q5 c5 d5 w6 (HP.out.below B6.out) (P5.out.below S6.out) (Q5.out.below S6.out)).mono ?_
  rintro e w7 ⟨rfl, hb⟩
  have B7 := hid (B6.out.trans (hb.mono B6.out.size))
  clear hb y5
  go_wp2_with fail
  refine (HG.out _).mono ?_
  rintro e w8 ⟨rfl, hw8⟩
  have B8 := hid (show Below w.heap.size w w8 by rw [← hw8]; exact B7.out); clear hw8
  go_wp2_with fail
  refine (HN.out w8 (HP.out.below B8.out)).mono ?_
  rintro e w9 ⟨rfl, m9, hw⟩
  have B9 := hid (show Below w.heap.size w w9 by rw [hw]; exact below_drewN B8.out m9); clear hw
  go_wp2_with fail
  refine (Ln.live_any _).mono ?_
  rintro e w10 ⟨rfl, hb⟩
  have B10 := hid (B9.out.trans (hb.mono B9.out.size)); clear hb
  go_wp2_with fail
  go_ret
  exact ⟨rfl, B10.out⟩
set_option maxRecDepth 100000 in
set_option maxHeartbeats 4000000 in
theorem holds_11es (k : List Nat) (p : Option Addr) (c n f g s : Nat) (l x l' x' : Int) (l2 u2 l4 u4 l5 u5 : List Nat) (w : World) (hp : Pt w p k) (hk : k.length = n) (hn : n ≤ 6) (hl : decide (9 < l) = false) (hf : f ≤ 4096)
    (HF : Calls Try.prog 12 #[.slice p n c, .int .i64 l, .int .i64 x] w fun e w' => e = .returned (.tuple #[.int .i64 (f : Int), .int .i64 0]) ∧ ∃ m, w' = w.drewN m)
    (HB2 : ∀ V : World, Calls Try.prog 14 #[.int .i64 (n : Int), .int .i64 l, .int .i64 x, .int .i64 (f : Int)] V (AnyBox V (l2, u2) 0)) (hi2 : inB k l2 u2 = true)
    (HB4 : ∀ V : World, Calls Try.prog 14 #[.int .i64 (n : Int), .int .i64 l, .int .i64 x, .int .i64 ((f : Int) + 1)] V (AnyBox V (l4, u4) 0)) (hi4 : inB k l4 u4 = false)
    (HB5 : ∀ V : World, Calls Try.prog 14 #[.int .i64 (n : Int), .int .i64 l, .int .i64 x, .int .i64 ((f : Int) - 1)] V (AnyBox V (l5, u5) 0)) (hi5 : inB k l5 u5 = false)
    (HG : ∀ V : World, Calls Try.prog 20 #[.int .i64 l, .int .i64 x] V fun e w' => e = .returned (.tuple #[.int .i64 l', .int .i64 x', .int .i64 (s : Int), .int .i64 0]) ∧ V = w')
    (HN : ∀ V : World, Pt V p k → Calls Try.prog 12 #[.slice p n c, .int .i64 l', .int .i64 x'] V fun e w' => e = .returned (.tuple #[.int .i64 (g : Int), .int .i64 0]) ∧ ∃ m, w' = V.drewN m)
    (hs : (f = s ∧ g = f)) :
    Calls Try.prog 7 #[.slice p n c, .int .i64 l, .int .i64 x] w fun e w' => e = .returned (.bool true) ∧ Below w.heap.size w w' := by
  unfold AnyBox at HB2 HB4 HB5
  have HF := hid HF; have HB2 := hid HB2; have HB4 := hid HB4; have HB5 := hid HB5; have HG := hid HG; have HN := hid HN
  have HP := hid hp
  have HI2 := hid (show ∀ (p' q' : Option Addr) (a b : Nat) (V : World), Pt V p k → Pt V p' l2 → Pt V q' u2 → Calls Try.prog 24 #[.slice p n c, .agg #[.slice p' l2.length a, .slice q' u2.length b]] V fun e w' => e = .returned (.bool true) ∧ Below V.heap.size V w' from fun p' q' a b V g0 g1 g2 => by have := refIn_ok k l2 u2 p p' q' c a b V g0 g1 g2 (by omega); rw [hk, hi2] at this; exact this)
  have HI4 := hid (show ∀ (p' q' : Option Addr) (a b : Nat) (V : World), Pt V p k → Pt V p' l4 → Pt V q' u4 → Calls Try.prog 24 #[.slice p n c, .agg #[.slice p' l4.length a, .slice q' u4.length b]] V fun e w' => e = .returned (.bool false) ∧ Below V.heap.size V w' from fun p' q' a b V g0 g1 g2 => by have := refIn_ok k l4 u4 p p' q' c a b V g0 g1 g2 (by omega); rw [hk, hi4] at this; exact this)
  have HI5 := hid (show ∀ (p' q' : Option Addr) (a b : Nat) (V : World), Pt V p k → Pt V p' l5 → Pt V q' u5 → Calls Try.prog 24 #[.slice p n c, .agg #[.slice p' l5.length a, .slice q' u5.length b]] V fun e w' => e = .returned (.bool false) ∧ Below V.heap.size V w' from fun p' q' a b V g0 g1 g2 => by have := refIn_ok k l5 u5 p p' q' c a b V g0 g1 g2 (by omega); rw [hk, hi5] at this; exact this)
  have s1 : IntKind.i64.wrap ((f : Int) + 1) = (f : Int) + 1 := Go.IntWalk.i64_in _ (by omega)
  have s2 : IntKind.i64.wrap ((f : Int) - 1) = (f : Int) - 1 := Go.IntWalk.i64_in _ (by omega)
  have n1 : decide ((6 : Int) < (n : Int)) = false := by simp; omega
  have n2 : decide (6 < n) = false := by simp; omega
  obtain rfl : f = s := hs.1
  obtain rfl : g = f := hs.2
  have d1 : decide ((g : Int) < (g : Int)) = false := by simp
  have d1' : decide (g < g) = false := by simp
  clear hp hk hn hf hs hi2 hi4 hi5
  go_enter Try.func7, Try.ntmps7
  go_wp2_with fail
  refine HF.out.mono ?_
  rintro e w1 ⟨rfl, m, hw⟩
  have H1 := hid (show Below w.heap.size w w1 by rw [hw]; exact below_drewN (Below.refl _ _) m); clear hw
  go_wp2_with fail
  refine (HB2.out _).mono ?_
  rintro e w2 ⟨p2, c2, q2, d2, rfl, h1, h2, hb⟩
  obtain ⟨V2, hV2⟩ : ∃ V, w2.alloc (.cells #[Value.slice p2 l2.length c2, .slice q2 u2.length d2] 32) = V := ⟨_, rfl⟩
  have B2 := hid (show Below w.heap.size w V2 by rw [← hV2]; exact (H1.out.trans (hb.mono H1.out.size)).alloc (H1.out.trans (hb.mono H1.out.size)).size _)
  have S2 := hid (show Below w1.heap.size w1 V2 by rw [← hV2]; exact hb.alloc hb.size _)
  have P2 := hid (show Pt V2 p2 _ by rw [← hV2]; exact h1.alloc _)
  have Q2 := hid (show Pt V2 q2 _ by rw [← hV2]; exact h2.alloc _)
  have G2 := hid (show V2.heap[w2.heap.size]? = some (.cells #[Value.slice p2 l2.length c2, .slice q2 u2.length d2] 32 (0, 0)) by rw [← hV2]; exact heap_alloc_new _ _)
  clear hb h1 h2
  have x2 := two_cells G2.out
  go_wp2_with fail
  refine (HI2.out p2 q2 c2 d2 V2 (HP.out.below B2.out) P2.out Q2.out).mono ?_
  rintro e w3 ⟨rfl, hb⟩
  have H3 := hid (B2.out.trans (hb.mono B2.out.size)); clear hb x2 hV2
  go_wp2_with fail
  refine (HB4.out _).mono ?_
  rintro e w4 ⟨p4, c4, q4, d4, rfl, h1, h2, hb⟩
  obtain ⟨V4, hV4⟩ : ∃ V, w4.alloc (.cells #[Value.slice p4 l4.length c4, .slice q4 u4.length d4] 32) = V := ⟨_, rfl⟩
  have B4 := hid (show Below w.heap.size w V4 by rw [← hV4]; exact (H3.out.trans (hb.mono H3.out.size)).alloc (H3.out.trans (hb.mono H3.out.size)).size _)
  have S4 := hid (show Below w3.heap.size w3 V4 by rw [← hV4]; exact hb.alloc hb.size _)
  have P4 := hid (show Pt V4 p4 _ by rw [← hV4]; exact h1.alloc _)
  have Q4 := hid (show Pt V4 q4 _ by rw [← hV4]; exact h2.alloc _)
  have G4 := hid (show V4.heap[w4.heap.size]? = some (.cells #[Value.slice p4 l4.length c4, .slice q4 u4.length d4] 32 (0, 0)) by rw [← hV4]; exact heap_alloc_new _ _)
  clear hb h1 h2
  go_wp2_with fail
  refine (HB5.out _).mono ?_
  rintro e w5 ⟨p5, c5, q5, d5, rfl, h1, h2, hb⟩
  obtain ⟨V5, hV5⟩ : ∃ V, w5.alloc (.cells #[Value.slice p5 l5.length c5, .slice q5 u5.length d5] 32) = V := ⟨_, rfl⟩
  have B5 := hid (show Below w.heap.size w V5 by rw [← hV5]; exact (B4.out.trans (hb.mono B4.out.size)).alloc (B4.out.trans (hb.mono B4.out.size)).size _)
  have S5 := hid (show Below V4.heap.size V4 V5 by rw [← hV5]; exact hb.alloc hb.size _)
  have P5 := hid (show Pt V5 p5 _ by rw [← hV5]; exact h1.alloc _)
  have Q5 := hid (show Pt V5 q5 _ by rw [← hV5]; exact h2.alloc _)
  have G5 := hid (show V5.heap[w5.heap.size]? = some (.cells #[Value.slice p5 l5.length c5, .slice q5 u5.length d5] 32 (0, 0)) by rw [← hV5]; exact heap_alloc_new _ _)
  clear hb h1 h2
  have G45 := hid ((S5.out.block _ (lt_of G4.out)).trans G4.out)
  have x4 := two_cells G45.out
  have x5 := two_cells G5.out
  clear hV4
  go_wp2_with fail
  refine (HI4.out p4 q4 c4 d4 V5 (HP.out.below B5.out) (P4.out.below S5.out) (Q4.out.below S5.out)).mono ?_
  rintro e w6 ⟨rfl, hb⟩
  have B6 := hid (B5.out.trans (hb.mono B5.out.size))
  have S6 := hid hb
  have y5 := two_cells ((hb.block _ (lt_of G5.out)).trans G5.out)
  clear hb x4 x5 hV5
  go_wp2_with fail
  refine (HI5.out p5 q5 c5 d5 w6 (HP.out.below B6.out) (P5.out.below S6.out) (Q5.out.below S6.out)).mono ?_
  rintro e w7 ⟨rfl, hb⟩
  have B7 := hid (B6.out.trans (hb.mono B6.out.size))
  clear hb y5
  go_wp2_with fail
  refine (HG.out _).mono ?_
  rintro e w8 ⟨rfl, hw8⟩
  have B8 := hid (show Below w.heap.size w w8 by rw [← hw8]; exact B7.out); clear hw8
  go_wp2_with fail
  refine (HN.out w8 (HP.out.below B8.out)).mono ?_
  rintro e w9 ⟨rfl, m9, hw⟩
  have B9 := hid (show Below w.heap.size w w9 by rw [hw]; exact below_drewN B8.out m9); clear hw
  go_wp2_with fail
  refine (Ln.live_any _).mono ?_
  rintro e w10 ⟨rfl, hb⟩
  have B10 := hid (B9.out.trans (hb.mono B9.out.size)); clear hb
  go_wp2_with fail
  go_ret
  exact ⟨rfl, B10.out⟩
set_option maxRecDepth 100000 in
set_option maxHeartbeats 4000000 in
theorem holds_11en (k : List Nat) (p : Option Addr) (c n f g s : Nat) (l x l' x' : Int) (l2 u2 l4 u4 l5 u5 : List Nat) (w : World) (hp : Pt w p k) (hk : k.length = n) (hn : n ≤ 6) (hl : decide (9 < l) = false) (hf : f ≤ 4096)
    (HF : Calls Try.prog 12 #[.slice p n c, .int .i64 l, .int .i64 x] w fun e w' => e = .returned (.tuple #[.int .i64 (f : Int), .int .i64 0]) ∧ ∃ m, w' = w.drewN m)
    (HB2 : ∀ V : World, Calls Try.prog 14 #[.int .i64 (n : Int), .int .i64 l, .int .i64 x, .int .i64 (f : Int)] V (AnyBox V (l2, u2) 0)) (hi2 : inB k l2 u2 = true)
    (HB4 : ∀ V : World, Calls Try.prog 14 #[.int .i64 (n : Int), .int .i64 l, .int .i64 x, .int .i64 ((f : Int) + 1)] V (AnyBox V (l4, u4) 0)) (hi4 : inB k l4 u4 = false)
    (HB5 : ∀ V : World, Calls Try.prog 14 #[.int .i64 (n : Int), .int .i64 l, .int .i64 x, .int .i64 ((f : Int) - 1)] V (AnyBox V (l5, u5) 0)) (hi5 : inB k l5 u5 = false)
    (HG : ∀ V : World, Calls Try.prog 20 #[.int .i64 l, .int .i64 x] V fun e w' => e = .returned (.tuple #[.int .i64 l', .int .i64 x', .int .i64 (s : Int), .int .i64 0]) ∧ V = w')
    (HN : ∀ V : World, Pt V p k → Calls Try.prog 12 #[.slice p n c, .int .i64 l', .int .i64 x'] V fun e w' => e = .returned (.tuple #[.int .i64 (g : Int), .int .i64 0]) ∧ ∃ m, w' = V.drewN m)
    (hs : (f = s ∧ g = f + 1)) :
    Calls Try.prog 7 #[.slice p n c, .int .i64 l, .int .i64 x] w fun e w' => e = .returned (.bool true) ∧ Below w.heap.size w w' := by
  unfold AnyBox at HB2 HB4 HB5
  have HF := hid HF; have HB2 := hid HB2; have HB4 := hid HB4; have HB5 := hid HB5; have HG := hid HG; have HN := hid HN
  have HP := hid hp
  have HI2 := hid (show ∀ (p' q' : Option Addr) (a b : Nat) (V : World), Pt V p k → Pt V p' l2 → Pt V q' u2 → Calls Try.prog 24 #[.slice p n c, .agg #[.slice p' l2.length a, .slice q' u2.length b]] V fun e w' => e = .returned (.bool true) ∧ Below V.heap.size V w' from fun p' q' a b V g0 g1 g2 => by have := refIn_ok k l2 u2 p p' q' c a b V g0 g1 g2 (by omega); rw [hk, hi2] at this; exact this)
  have HI4 := hid (show ∀ (p' q' : Option Addr) (a b : Nat) (V : World), Pt V p k → Pt V p' l4 → Pt V q' u4 → Calls Try.prog 24 #[.slice p n c, .agg #[.slice p' l4.length a, .slice q' u4.length b]] V fun e w' => e = .returned (.bool false) ∧ Below V.heap.size V w' from fun p' q' a b V g0 g1 g2 => by have := refIn_ok k l4 u4 p p' q' c a b V g0 g1 g2 (by omega); rw [hk, hi4] at this; exact this)
  have HI5 := hid (show ∀ (p' q' : Option Addr) (a b : Nat) (V : World), Pt V p k → Pt V p' l5 → Pt V q' u5 → Calls Try.prog 24 #[.slice p n c, .agg #[.slice p' l5.length a, .slice q' u5.length b]] V fun e w' => e = .returned (.bool false) ∧ Below V.heap.size V w' from fun p' q' a b V g0 g1 g2 => by have := refIn_ok k l5 u5 p p' q' c a b V g0 g1 g2 (by omega); rw [hk, hi5] at this; exact this)
  have s1 : IntKind.i64.wrap ((f : Int) + 1) = (f : Int) + 1 := Go.IntWalk.i64_in _ (by omega)
  have s2 : IntKind.i64.wrap ((f : Int) - 1) = (f : Int) - 1 := Go.IntWalk.i64_in _ (by omega)
  have n1 : decide ((6 : Int) < (n : Int)) = false := by simp; omega
  have n2 : decide (6 < n) = false := by simp; omega
  obtain rfl : f = s := hs.1
  obtain rfl : g = f + 1 := hs.2
  rw [show ((f + 1 : Nat) : Int) = (f : Int) + 1 by omega] at HN
  have d1 : decide ((f : Int) < (f : Int)) = false := by simp
  have d1' : decide (f < f) = false := by simp
  have d3 : ((f : Int) + 1 == (f : Int)) = false := by rw [beq_eq_false_iff_ne]; omega
  clear hp hk hn hf hs hi2 hi4 hi5
  go_enter Try.func7, Try.ntmps7
  go_wp2_with fail
  refine HF.out.mono ?_
  rintro e w1 ⟨rfl, m, hw⟩
  have H1 := hid (show Below w.heap.size w w1 by rw [hw]; exact below_drewN (Below.refl _ _) m); clear hw
  go_wp2_with fail
  refine (HB2.out _).mono ?_
  rintro e w2 ⟨p2, c2, q2, d2, rfl, h1, h2, hb⟩
  obtain ⟨V2, hV2⟩ : ∃ V, w2.alloc (.cells #[Value.slice p2 l2.length c2, .slice q2 u2.length d2] 32) = V := ⟨_, rfl⟩
  have B2 := hid (show Below w.heap.size w V2 by rw [← hV2]; exact (H1.out.trans (hb.mono H1.out.size)).alloc (H1.out.trans (hb.mono H1.out.size)).size _)
  have S2 := hid (show Below w1.heap.size w1 V2 by rw [← hV2]; exact hb.alloc hb.size _)
  have P2 := hid (show Pt V2 p2 _ by rw [← hV2]; exact h1.alloc _)
  have Q2 := hid (show Pt V2 q2 _ by rw [← hV2]; exact h2.alloc _)
  have G2 := hid (show V2.heap[w2.heap.size]? = some (.cells #[Value.slice p2 l2.length c2, .slice q2 u2.length d2] 32 (0, 0)) by rw [← hV2]; exact heap_alloc_new _ _)
  clear hb h1 h2
  have x2 := two_cells G2.out
  go_wp2_with fail
  refine (HI2.out p2 q2 c2 d2 V2 (HP.out.below B2.out) P2.out Q2.out).mono ?_
  rintro e w3 ⟨rfl, hb⟩
  have H3 := hid (B2.out.trans (hb.mono B2.out.size)); clear hb x2 hV2
  go_wp2_with fail
  refine (HB4.out _).mono ?_
  rintro e w4 ⟨p4, c4, q4, d4, rfl, h1, h2, hb⟩
  obtain ⟨V4, hV4⟩ : ∃ V, w4.alloc (.cells #[Value.slice p4 l4.length c4, .slice q4 u4.length d4] 32) = V := ⟨_, rfl⟩
  have B4 := hid (show Below w.heap.size w V4 by rw [← hV4]; exact (H3.out.trans (hb.mono H3.out.size)).alloc (H3.out.trans (hb.mono H3.out.size)).size _)
  have S4 := hid (show Below w3.heap.size w3 V4 by rw [← hV4]; exact hb.alloc hb.size _)
  have P4 := hid (show Pt V4 p4 _ by rw [← hV4]; exact h1.alloc _)
  have Q4 := hid (show Pt V4 q4 _ by rw [← hV4]; exact h2.alloc _)
  have G4 := hid (show V4.heap[w4.heap.size]? = some (.cells #[Value.slice p4 l4.length c4, .slice q4 u4.length d4] 32 (0, 0)) by rw [← hV4]; exact heap_alloc_new _ _)
  clear hb h1 h2
  go_wp2_with fail
  refine (HB5.out _).mono ?_
  rintro e w5 ⟨p5, c5, q5, d5, rfl, h1, h2, hb⟩
  obtain ⟨V5, hV5⟩ : ∃ V, w5.alloc (.cells #[Value.slice p5 l5.length c5, .slice q5 u5.length d5] 32) = V := ⟨_, rfl⟩
  have B5 := hid (show Below w.heap.size w V5 by rw [← hV5]; exact (B4.out.trans (hb.mono B4.out.size)).alloc (B4.out.trans (hb.mono B4.out.size)).size _)
  have S5 := hid (show Below V4.heap.size V4 V5 by rw [← hV5]; exact hb.alloc hb.size _)
  have P5 := hid (show Pt V5 p5 _ by rw [← hV5]; exact h1.alloc _)
  have Q5 := hid (show Pt V5 q5 _ by rw [← hV5]; exact h2.alloc _)
  have G5 := hid (show V5.heap[w5.heap.size]? = some (.cells #[Value.slice p5 l5.length c5, .slice q5 u5.length d5] 32 (0, 0)) by rw [← hV5]; exact heap_alloc_new _ _)
  clear hb h1 h2
  have G45 := hid ((S5.out.block _ (lt_of G4.out)).trans G4.out)
  have x4 := two_cells G45.out
  have x5 := two_cells G5.out
  clear hV4
  go_wp2_with fail
  refine (HI4.out p4 q4 c4 d4 V5 (HP.out.below B5.out) (P4.out.below S5.out) (Q4.out.below S5.out)).mono ?_
  rintro e w6 ⟨rfl, hb⟩
  have B6 := hid (B5.out.trans (hb.mono B5.out.size))
  have S6 := hid hb
  have y5 := two_cells ((hb.block _ (lt_of G5.out)).trans G5.out)
  clear hb x4 x5 hV5
  go_wp2_with fail
  refine (HI5.out p5 q5 c5 d5 w6 (HP.out.below B6.out) (P5.out.below S6.out) (Q5.out.below S6.out)).mono ?_
  rintro e w7 ⟨rfl, hb⟩
  have B7 := hid (B6.out.trans (hb.mono B6.out.size))
  clear hb y5
  go_wp2_with fail
  refine (HG.out _).mono ?_
  rintro e w8 ⟨rfl, hw8⟩
  have B8 := hid (show Below w.heap.size w w8 by rw [← hw8]; exact B7.out); clear hw8
  go_wp2_with fail
  refine (HN.out w8 (HP.out.below B8.out)).mono ?_
  rintro e w9 ⟨rfl, m9, hw⟩
  have B9 := hid (show Below w.heap.size w w9 by rw [hw]; exact below_drewN B8.out m9); clear hw
  go_wp2_with fail
  refine (Ln.live_any _).mono ?_
  rintro e w10 ⟨rfl, hb⟩
  have B10 := hid (B9.out.trans (hb.mono B9.out.size)); clear hb
  go_wp2_with fail
  go_ret
  exact ⟨rfl, B10.out⟩
set_option maxRecDepth 100000 in
set_option maxHeartbeats 4000000 in
theorem LinearHolds_walk (v : Value) (l x : Int) (w : World) (h : KeyV w v) (_ : (Lit.int .i64 l).wf = true) (_ : (Lit.int .i64 x).wf = true) :
    Calls Try.prog 7 #[v, .int .i64 l, .int .i64 x] w fun e w' => e = .returned (.bool true) ∧ Below w.heap.size w w' := by
  obtain ⟨p, k, c, rfl, hp, hl⟩ := h
  cases hm : mayN k.length with
  | false => exact holds_far p c l x w hm
  | true =>
    have hn : 1 ≤ k.length ∧ k.length ≤ 6 := by unfold mayN at hm; simp at hm; omega
    by_cases ho : fB k l x = false ∨ 9 < l
    · exact holds_out k p c l x w hp hn.2 ho
    · have hfb : fB k l x = true := by
        cases h : fB k l x with
        | false => exact absurd (.inl h) ho
        | true => rfl
      have hv : lvB l x = true := by unfold fB at hfb; rw [Bool.and_eq_true] at hfb; exact hfb.1
      obtain ⟨L, X, rfl, hL, rfl, hX⟩ := lvB_iff.1 hv
      have hL9 : L ≤ 9 := by omega
      have hp10 := pow_10 hL
      have hkf : ∀ y ∈ k, y < 4294967296 := fun y hy => by obtain ⟨j, hj, rfl⟩ := List.getElem_of_mem hy; exact hp.fit j hj
      have hFl := fnd_lt (k := k) hX
      obtain ⟨L', X', gA, gX, gC, hcase⟩ := fnd_grown (k := k) hL9 hX
      obtain ⟨_, _, _, _, g5, _, g7, _⟩ := grown hv (show (L : Int) ≠ 10 by omega)
      obtain ⟨b2, i2⟩ := box_in (C := fnd k L X) hn hL hX hFl rfl hkf
      rw [decide_eq_true rfl] at i2
      have HF := findL_ok k p c (L : Int) (X : Int) w hp (by omega)
      rw [hfb, err_true true rfl, show fV k (L : Int) (X : Int) = ((fnd k L X : Nat) : Int) by unfold fV; rw [hfb, if_pos rfl, Int.toNat_natCast, Int.toNat_natCast]] at HF
      have HB2 := fun V : World => boxL_any (k.length : Int) (L : Int) (X : Int) ((fnd k L X : Nat) : Int) (by omega) V
      rw [b2, err_true true rfl] at HB2
      have HB4 := fun V : World => boxL_any (k.length : Int) (L : Int) (X : Int) (((fnd k L X : Nat) : Int) + 1) (by omega) V
      have HB5 := fun V : World => boxL_any (k.length : Int) (L : Int) (X : Int) (((fnd k L X : Nat) : Int) - 1) (by omega) V
      have HG := fun V : World => grow_ok (L : Int) (X : Int) V
      rw [g7, gA, gX, gC] at HG
      rw [gA, gX] at g5
      have HN := fun (V : World) (h : Pt V p k) => findL_ok k p c (L' : Int) (X' : Int) V h (by omega)
      have hfb' : fB k (L' : Int) (X' : Int) = true := by unfold fB; rw [g5, hm]; rfl
      rw [hfb', err_true true rfl, show fV k (L' : Int) (X' : Int) = ((fnd k L' X' : Nat) : Int) by unfold fV; rw [hfb', if_pos rfl, Int.toNat_natCast, Int.toNat_natCast]] at HN
      have hl9 : decide (9 < (L : Int)) = false := by simp; omega
      have hf4 : fnd k L X ≤ 4096 := by omega
      by_cases hvx : fnd k L X + 1 < 2 ^ L + X
      · obtain ⟨b4, i4⟩ := box_in (C := fnd k L X + 1) hn hL hX hvx rfl hkf
        rw [show ((fnd k L X + 1 : Nat) : Int) = ((fnd k L X : Nat) : Int) + 1 by omega] at b4 i4
        rw [decide_eq_false (by omega)] at i4
        rw [b4, err_true true rfl] at HB4
        by_cases hvy : 1 ≤ fnd k L X
        · obtain ⟨b5, i5⟩ := box_in (C := fnd k L X - 1) hn hL hX (by omega) rfl hkf
          rw [show ((fnd k L X - 1 : Nat) : Int) = ((fnd k L X : Nat) : Int) - 1 by omega] at b5 i5
          rw [decide_eq_false (by omega)] at i5
          rw [b5, err_true true rfl] at HB5
          rcases hcase with h | h | h | h
          · exact holds_11lt k p c _ _ _ _ _ _ _ _ _ _ _ _ _ _ w hp rfl hn.2 hl9 hf4 HF HB2 i2 HB4 i4 HB5 i5 HG HN h
          · exact holds_11gt k p c _ _ _ _ _ _ _ _ _ _ _ _ _ _ w hp rfl hn.2 hl9 hf4 HF HB2 i2 HB4 i4 HB5 i5 HG HN h
          · exact holds_11es k p c _ _ _ _ _ _ _ _ _ _ _ _ _ _ w hp rfl hn.2 hl9 hf4 HF HB2 i2 HB4 i4 HB5 i5 HG HN h
          · exact holds_11en k p c _ _ _ _ _ _ _ _ _ _ _ _ _ _ w hp rfl hn.2 hl9 hf4 HF HB2 i2 HB4 i4 HB5 i5 HG HN h
        · have b5 := box_out (n := k.length) (L := L) (X := X) (c := ((fnd k L X : Nat) : Int) - 1) (.inl (by omega))
          rw [b5, err_false false rfl] at HB5
          rcases hcase with h | h | h | h
          · exact holds_10lt k p c _ _ _ _ _ _ _ _ _ _ _ _ _ _ w hp rfl hn.2 hl9 hf4 HF HB2 i2 HB4 i4 HB5 HG HN h
          · exact holds_10gt k p c _ _ _ _ _ _ _ _ _ _ _ _ _ _ w hp rfl hn.2 hl9 hf4 HF HB2 i2 HB4 i4 HB5 HG HN h
          · exact holds_10es k p c _ _ _ _ _ _ _ _ _ _ _ _ _ _ w hp rfl hn.2 hl9 hf4 HF HB2 i2 HB4 i4 HB5 HG HN h
          · exact holds_10en k p c _ _ _ _ _ _ _ _ _ _ _ _ _ _ w hp rfl hn.2 hl9 hf4 HF HB2 i2 HB4 i4 HB5 HG HN h
      · have b4 := box_out (n := k.length) (L := L) (X := X) (c := ((fnd k L X : Nat) : Int) + 1) (.inr (by omega))
        rw [b4, err_false false rfl] at HB4
        by_cases hvy : 1 ≤ fnd k L X
        · obtain ⟨b5, i5⟩ := box_in (C := fnd k L X - 1) hn hL hX (by omega) rfl hkf
          rw [show ((fnd k L X - 1 : Nat) : Int) = ((fnd k L X : Nat) : Int) - 1 by omega] at b5 i5
          rw [decide_eq_false (by omega)] at i5
          rw [b5, err_true true rfl] at HB5
          rcases hcase with h | h | h | h
          · exact holds_01lt k p c _ _ _ _ _ _ _ _ _ _ _ _ _ _ w hp rfl hn.2 hl9 hf4 HF HB2 i2 HB4 HB5 i5 HG HN h
          · exact holds_01gt k p c _ _ _ _ _ _ _ _ _ _ _ _ _ _ w hp rfl hn.2 hl9 hf4 HF HB2 i2 HB4 HB5 i5 HG HN h
          · exact holds_01es k p c _ _ _ _ _ _ _ _ _ _ _ _ _ _ w hp rfl hn.2 hl9 hf4 HF HB2 i2 HB4 HB5 i5 HG HN h
          · exact holds_01en k p c _ _ _ _ _ _ _ _ _ _ _ _ _ _ w hp rfl hn.2 hl9 hf4 HF HB2 i2 HB4 HB5 i5 HG HN h
        · have b5 := box_out (n := k.length) (L := L) (X := X) (c := ((fnd k L X : Nat) : Int) - 1) (.inl (by omega))
          rw [b5, err_false false rfl] at HB5
          rcases hcase with h | h | h | h
          · exact holds_00lt k p c _ _ _ _ _ _ _ _ _ _ _ _ _ _ w hp rfl hn.2 hl9 hf4 HF HB2 i2 HB4 HB5 HG HN h
          · exact holds_00gt k p c _ _ _ _ _ _ _ _ _ _ _ _ _ _ w hp rfl hn.2 hl9 hf4 HF HB2 i2 HB4 HB5 HG HN h
          · exact holds_00es k p c _ _ _ _ _ _ _ _ _ _ _ _ _ _ w hp rfl hn.2 hl9 hf4 HF HB2 i2 HB4 HB5 HG HN h
          · exact holds_00en k p c _ _ _ _ _ _ _ _ _ _ _ _ _ _ w hp rfl hn.2 hl9 hf4 HF HB2 i2 HB4 HB5 HG HN h
end Go.Proofs.Ytalohakibpjmmaa
