/- Box of excell. -/
import Derived.Test.YtalohakibpjmmaaExHalf
import Derived.Test.YtalohakibpjmmaaExSmall
namespace Go.Proofs.Ytalohakibpjmmaa.Ex
open Go.RowKit
open Go.Lib (hid)
open Go.Proofs.Ytalohakibpjmmaa.Ky
open Go.Proofs.Ytalohakibpjmmaa.Pt
open Go.Proofs.Ytalohakibpjmmaa.Bk

/-- a box of n coordinates was returned, and OK -/
def CellPost (w : World) (n : Nat) (b : List Nat × List Nat) (e : Ending) (w' : World) : Prop :=
  ∃ p c q c', e = .returned (.tuple #[.agg #[.slice p n c, .slice q n c'], .int .i64 0]) ∧ Pt w' p b.1 ∧ Pt w' q b.2 ∧ Below w.heap.size w w'
def okB (dim d a : Int) : Bool := mayB dim && hasA d a
theorem okB_iff {dim d a : Int} : okB dim d a = true ↔ ∃ n D A : Nat, dim = (n : Int) ∧ 1 ≤ n ∧ n ≤ 6 ∧ d = (D : Int) ∧ D ≤ 12 ∧ a = (A : Int) ∧ A < 2 ^ D := by
  unfold okB mayB
  rw [Bool.and_eq_true, Bool.and_eq_true, decide_eq_true_eq, decide_eq_true_eq, hasA_iff]
  constructor
  · rintro ⟨⟨h1, h2⟩, D, A, h3, h4, h5, h6⟩
    exact ⟨dim.toNat, D, A, by omega, by omega, by omega, h3, h4, h5, h6⟩
  · rintro ⟨n, D, A, rfl, h1, h2, h3, h4, h5, h6⟩
    exact ⟨⟨by omega, by omega⟩, D, A, h3, h4, h5, h6⟩
theorem and_one (x : Nat) (h : x < 1000000) : bits .and .i64 (x : Int) 1 = ((x % 2 : Nat) : Int) := by
  have e : (BitVec.ofInt IntKind.i64.bits (x : Int) &&& BitVec.ofInt IntKind.i64.bits 1).toNat = x % 2 := by
    rw [← Nat.and_one_is_mod]
    change (BitVec.ofInt 64 (x : Int) &&& BitVec.ofInt 64 1).toNat = _
    rw [BitVec.toNat_and, BitVec.toNat_ofInt, BitVec.toNat_ofInt]
    have e1 : ((x : Int) % ((2 ^ 64 : Nat) : Int)).toNat = x := by omega
    have e2 : ((1 : Int) % ((2 ^ 64 : Nat) : Int)).toNat = 1 := by decide
    rw [e1, e2]
  show IntKind.i64.wrap _ = _
  rw [e]
  exact Go.IntWalk.i64_in _ (by omega)
def BR (n D A : Nat) (W : World) (g : Nat) (s : Value) (wr : World) : Prop :=
  ∃ (i : Nat) (p q : Option Addr) (c c' : Nat), s = .int .i64 (i : Int) ∧ i ≤ D ∧ wr.heap[g]? = some (.cells #[.slice p n c, .slice q n c'] 32) ∧ (Pt wr p (cell n i (A / 2 ^ (D - i))).1 ∧ Pt wr q (cell n i (A / 2 ^ (D - i))).2) ∧ Below g W wr
theorem pt_off2 {w : World} {A : Option Addr} {l : List Nat} (h : Pt w A l) {g : Nat} {p q p' q' : Option Addr} {n c n' c' m d m' d' : Nat} (hg : w.heap[g]? = some (.cells #[.slice p n c, .slice q n' c'] 32)) :
    Pt ((w.setCell ⟨g, 0, none⟩ (.slice p' m d)).setCell ⟨g, 1, none⟩ (.slice q' m' d')) A l := by
  have b1 : (w.setCell ⟨g, 0, none⟩ (.slice p' m d)).heap[g]? = some (.cells #[.slice p' m d, .slice q n' c'] 32 (0, 0)) := by simp [World.setCell, Array.getElem?_modify, hg]
  exact (h.off hg (by simp) (by simp)).off b1 (by simp) (by simp)
/-- the box at g is written anew -/
theorem br_set {n : Nat} {W wa V : World} {g : Nat} {p q p' q' : Option Addr} {c c' k k' : Nat} {l h : List Nat} (hgW : g < W.heap.size) (hb : Below g W wa) (hV : Below wa.heap.size wa V) (hg : wa.heap[g]? = some (.cells #[.slice p n c, .slice q n c'] 32)) (h1 : Pt V p' l) (h2 : Pt V q' h) :
    (((V.setCell ⟨g, 0, none⟩ (.slice p' n k)).setCell ⟨g, 1, none⟩ (.slice q' n k')).heap[g]? = some (.cells #[.slice p' n k, .slice q' n k'] 32)) ∧ (Pt ((V.setCell ⟨g, 0, none⟩ (.slice p' n k)).setCell ⟨g, 1, none⟩ (.slice q' n k')) p' l ∧ Pt ((V.setCell ⟨g, 0, none⟩ (.slice p' n k)).setCell ⟨g, 1, none⟩ (.slice q' n k')) q' h) ∧ Below g W ((V.setCell ⟨g, 0, none⟩ (.slice p' n k)).setCell ⟨g, 1, none⟩ (.slice q' n k')) := by
  have hga : g < wa.heap.size := Nat.lt_of_lt_of_le hgW hb.size
  have hG := (hV.block g hga).trans hg
  exact ⟨two_set hG _ _, ⟨pt_off2 h1 hG, pt_off2 h2 hG⟩, ((hb.trans (hV.mono (Nat.le_of_lt hga))).setCell (p := ⟨g, 0, none⟩) (Nat.le_refl _) _).setCell (p := ⟨g, 1, none⟩) (Nat.le_refl _) _⟩
set_option maxRecDepth 100000 in
set_option maxHeartbeats 4000000 in
theorem boxE_yes {n D A : Nat} (hn : 1 ≤ n ∧ n ≤ 6) (hD : D ≤ 12) (hA : A < 2 ^ D) (w : World) :
    Calls Try.prog 31 #[.int .i64 (n : Int), .int .i64 (D : Int), .int .i64 (A : Int)] w (CellPost w n (cell n D A)) := by
  have HC := hid (hasA_ok (D : Int) (A : Int) (w.alloc (.cells #[Value.slice none 0 0, .slice none 0 0] 32)))
  rw [show hasA (D : Int) (A : Int) = true from hasA_iff.2 ⟨D, A, rfl, hD, rfl, hA⟩] at HC
  have HWH := hid fun (V : World) => whole_ok (n : Int) V
  unfold OneBox at HWH
  rw [show wholeLo (n : Int) = lowW n by unfold wholeLo; rw [if_pos (by omega), Int.toNat_natCast], show wholeHi (n : Int) = highW n by unfold wholeHi; rw [if_pos (by omega), Int.toNat_natCast], show (lowW n).length = n by simp [lowW], show (highW n).length = n by simp [highW]] at HWH
  have HZ := hid (heap_alloc_new w (.cells #[Value.slice none 0 0, .slice none 0 0] 32))
  have HB0 := hid (below_alloc w (.cells #[Value.slice none 0 0, .slice none 0 0] 32))
  have HS0 : Hid ((w.alloc (.cells #[Value.slice none 0 0, .slice none 0 0] 32)).heap.size = w.heap.size + 1) := hid (by simp)
  have hP := pow_12 hD
  have HN := hid hn; have HD := hid hD; have HA := hid (show A < 4096 by omega)
  have d1 : decide ((n : Int) < 1) = false := by simp; omega
  have d2 : decide ((6 : Int) < (n : Int)) = false := by simp; omega
  have d3 : decide (6 < n) = false := by simp; omega
  have d4 : decide (n < 1) = false := by simp; omega
  clear hn hA hP
  go_enter Try.func31, Try.ntmps31
  go_wp2_with fail
  refine HC.out.mono ?_
  rintro e w1 ⟨rfl, rfl⟩
  go_wp2_with fail
  refine (HWH.out _).mono ?_
  rintro e w3 ⟨P, c1, Q, c2, rfl, q1, q2, hb⟩
  have HB3 := hid (HB0.out.trans (hb.mono HB0.out.size))
  have HZ3 := hid ((hb.block w.heap.size (by rw [HS0.out]; omega)).trans HZ.out)
  have HS3 := hid (show w.heap.size + 1 ≤ w3.heap.size by rw [← HS0.out]; exact hb.size)
  obtain ⟨W, hW⟩ : ∃ W, w3.alloc (.cells #[Value.slice P n c1, .slice Q n c2] 32) = W := ⟨_, rfl⟩
  have HG := hid (show W.heap[w3.heap.size]? = some (.cells #[Value.slice P n c1, .slice Q n c2] 32) by rw [← hW]; exact heap_alloc_new _ _)
  have HP := hid (show Pt W P (lowW n) by rw [← hW]; exact q1.alloc _)
  have HQ := hid (show Pt W Q (highW n) by rw [← hW]; exact q2.alloc _)
  have HSW := hid (show W.heap.size = w3.heap.size + 1 by rw [← hW]; simp)
  have HBW := hid (show Below w3.heap.size w3 W by rw [← hW]; exact below_alloc _ _)
  clear hb q1 q2 d1 d2 d3 d4 HC HWH HZ HB0
  go_wp2_with fail
  clear hW
  go_loopw [28] (fun s wr => BR n D A W w3.heap.size s wr) (fun s _ => D - (intOf s).toNat)
  case atStart => exact ⟨0, P, Q, c1, c2, rfl, by omega, HG.out, ⟨HP.out, HQ.out⟩, Below.refl _ _⟩
  case round =>
    rename World => wa
    obtain ⟨i, p, q, c, c', rfl, hi, hg, ⟨hp, hq⟩, hb⟩ := hrel
    have HBI := hid hb
    have hga : w3.heap.size < wa.heap.size := Nat.lt_of_lt_of_le (by rw [HSW.out]; omega) hb.size
    have HGA := hid hga
    by_cases hlt : i < D
    · obtain ⟨a, ha⟩ : ∃ a, A / 2 ^ (D - i) = a := ⟨_, rfl⟩
      rw [ha] at hp hq
      obtain ⟨M, hM⟩ : ∃ M, D - 1 = M := ⟨_, rfl⟩
      obtain ⟨L, hL⟩ : ∃ L, M - i = L := ⟨_, rfl⟩
      obtain ⟨t, ht⟩ : ∃ t, A / 2 ^ L = t := ⟨_, rfl⟩
      have hDi : D - i = L + 1 := by omega
      have hDi2 : D - (i + 1) = L := by omega
      have hta : t / 2 = a := by rw [← ht, ← ha, Nat.div_div_eq_div_mul, ← Nat.pow_succ, hDi]
      have ht4 : t < 4096 := by rw [← ht]; exact Nat.lt_of_le_of_lt (Nat.div_le_self _ _) HA.out
      have hD12 := HD.out
      have HH := hid (halvesE_ok HN.out (show i < 32 by omega) c c' wa hp hq)
      unfold TwoPost at HH
      have HE := hid (show ∀ x, t % 2 = x → x = 0 → cell n (i + 1) (2 * a) = cell n (i + 1) (A / 2 ^ (D - (i + 1))) from fun x h1 h2 => by rw [hDi2, ht]; congr 1; omega)
      have HO := hid (show ∀ x, t % 2 = x → x = 1 → cell n (i + 1) (2 * a + 1) = cell n (i + 1) (A / 2 ^ (D - (i + 1))) from fun x h1 h2 => by rw [hDi2, ht]; congr 1; omega)
      generalize cell n (i + 1) (2 * a) = X at HH HE
      generalize cell n (i + 1) (2 * a + 1) = Y at HH HO
      have e1 : decide ((i : Int) < (D : Int)) = true := by simp; omega
      have s1 : IntKind.i64.wrap ((D : Int) - 1) = (M : Int) := by rw [show (D : Int) - 1 = (M : Int) by omega]; exact Go.IntWalk.i64_in _ (by omega)
      have s2 : IntKind.i64.wrap ((M : Int) - (i : Int)) = (L : Int) := by rw [show (M : Int) - (i : Int) = (L : Int) by omega]; exact Go.IntWalk.i64_in _ (by omega)
      have g3 : 0 ≤ (L : Int) := by omega
      have g4 : decide ((L : Int) < 0) = false := by simp
      have s3 : (A : Int) / (2 : Int) ^ L = (t : Int) := by rw [← ht]; simp
      have s3' : (A : Int) / (2 : Int) ^ (min L 64) = (t : Int) := by rw [Nat.min_eq_left (by omega)]; exact s3
      have s4 : IntKind.i64.wrap ((i : Int) + 1) = (i : Int) + 1 := Go.IntWalk.i64_in _ (by omega)
      have HS5 := hid (and_one t (by omega))
      obtain ⟨x, hx⟩ : ∃ x, t % 2 = x := ⟨_, rfl⟩
      have hx2 : x = 0 ∨ x = 1 := by omega
      have HX := hid hx
      rw [hx] at HS5
      have HIL := hid hlt
      have za := two_cells hg
      have HGG := hid hg
      clear ha hM hL ht hDi hDi2 hta ht4 hD12 hx hi hg hp hq hb hga hlt
      go_wp2_with fail
      refine HH.out.mono ?_
      rintro e w5 ⟨p1, k1, p2, k2, p3, k3, p4, k4, rfl, g1, g2, g3', g4', hb⟩
      have HB5 := hid hb
      have HP1 := hid g1.pt; have HP2 := hid g2.pt; have HP3 := hid g3'.pt; have HP4 := hid g4'.pt
      obtain ⟨V, hV⟩ : ∃ V, (w5.alloc (.cells #[Value.slice p1 n k1, .slice p2 n k2] 32)).alloc (.cells #[Value.slice p3 n k3, .slice p4 n k4] 32) = V := ⟨_, rfl⟩
      have b1 := below_alloc w5 (.cells #[Value.slice p1 n k1, .slice p2 n k2] 32)
      have b2 := below_alloc (w5.alloc (.cells #[Value.slice p1 n k1, .slice p2 n k2] 32)) (.cells #[Value.slice p3 n k3, .slice p4 n k4] 32)
      have HV5 := hid (show Below w5.heap.size w5 V by rw [← hV]; exact b1.trans (b2.mono b1.size))
      have HV := hid (HB5.out.trans (HV5.out.mono HB5.out.size))
      have k1' : V.heap[w5.heap.size]? = some (.cells #[Value.slice p1 n k1, .slice p2 n k2] 32 (0, 0)) := by rw [← hV, b2.block _ (by simp)]; exact heap_alloc_new _ _
      have k2' : V.heap[w5.heap.size + 1]? = some (.cells #[Value.slice p3 n k3, .slice p4 n k4] 32 (0, 0)) := by
        rw [← hV]
        have := heap_alloc_new (w5.alloc (.cells #[Value.slice p1 n k1, .slice p2 n k2] 32)) (.cells #[Value.slice p3 n k3, .slice p4 n k4] 32)
        rw [World.size_alloc] at this; exact this
      have x1 := two_cells k1'
      have x2 := two_cells k2'
      have hgV := (HV.out.block _ HGA.out).trans HGG.out
      have x3 := two_cells hgV
      clear hb g1 g2 g3' g4' b1 b2 k1' k2' hgV za
      rcases hx2 with rfl | rfl
      · have s6 : bits .and .i64 (t : Int) 1 = 0 := by rw [HS5.out]; rfl
        have HR := hid (br_set (k := k1) (k' := k2) (by rw [HSW.out]; omega) HBI.out HV.out HGG.out (HP1.out.below HV5.out) (HP2.out.below HV5.out))
        rw [HE.out 0 HX.out rfl] at HR
        go_wp2_with fail
        go_roundw
        case rel => exact ⟨i + 1, p1, p2, k1, k2, by go_num, HIL.out, HR.out⟩
        case measure => simp [intOf]; have := HIL.out; omega
      · have s6 : bits .and .i64 (t : Int) 1 = 1 := by rw [HS5.out]; rfl
        have HR := hid (br_set (k := k3) (k' := k4) (by rw [HSW.out]; omega) HBI.out HV.out HGG.out (HP3.out.below HV5.out) (HP4.out.below HV5.out))
        rw [HO.out 1 HX.out rfl] at HR
        go_wp2_with fail
        go_roundw
        case rel => exact ⟨i + 1, p3, p4, k3, k4, by go_num, HIL.out, HR.out⟩
        case measure => simp [intOf]; have := HIL.out; omega
    · obtain rfl : i = D := by omega
      rw [Nat.sub_self, Nat.pow_zero, Nat.div_one] at hp hq
      have e1 : decide ((i : Int) < (i : Int)) = false := by simp
      have za := two_cells hg
      have hz : wa.heap[w.heap.size]? = some (.cells #[Value.slice none 0 0, .slice none 0 0] 32 (0, 0)) := by
        have h3 := HS3.out
        rw [hb.block w.heap.size (by omega), HBW.out.block w.heap.size (by omega)]; exact HZ3.out
      have hBw : Below w.heap.size w wa := HB3.out.trans ((HBW.out.trans (hb.mono (Nat.le_refl _))).mono (by have := HS3.out; omega))
      have z := zero_cells hz
      have HS := hid (store_out hBw (Nat.le_refl _) hz hp hq (.slice p n c) (.slice q n c') (by simp))
      clear hg hp hq hb hi hlt hz hBw
      go_wp2_with fail
      have z2 := HS.out.2.2.2
      refine bodyPost_ret (v := .tuple #[.agg #[.slice p n c, .slice q n c'], .int .i64 0]) (by simp [results, Try.results31, go_sem, z2]) rfl ?_
      exact ⟨p, c, q, c', rfl, HS.out.1, HS.out.2.1, HS.out.2.2.1⟩
set_option maxRecDepth 100000 in
set_option maxHeartbeats 4000000 in
theorem boxE_no (dim d a : Int) (w : World) (h : okB dim d a = false) :
    Calls Try.prog 31 #[.int .i64 dim, .int .i64 d, .int .i64 a] w fun e w' => e = .returned (.tuple #[.agg #[.slice none 0 0, .slice none 0 0], .int .i64 1]) ∧ Below w.heap.size w w' := by
  have HC := hid fun (V : World) => hasA_ok d a V
  have HB := hid (below_alloc w (.cells #[Value.slice none 0 0, .slice none 0 0] 32))
  have hz := heap_alloc_new w (.cells #[Value.slice none 0 0, .slice none 0 0] 32)
  have z := zero_cells hz
  clear hz
  by_cases h1 : dim < 1
  · have d1 : decide (dim < 1) = true := by simpa using h1
    clear h HC h1
    go_enter Try.func31, Try.ntmps31
    go_wp2_with fail
    refine bodyPost_ret (v := .tuple #[.agg #[.slice none 0 0, .slice none 0 0], .int .i64 1]) (by simp [results, Try.results31, go_sem]) rfl ?_
    exact ⟨rfl, HB.out⟩
  · have d1 : decide (dim < 1) = false := by simpa using h1
    by_cases h2 : 6 < dim
    · have d2 : decide (6 < dim) = true := by simpa using h2
      clear h HC h1 h2
      go_enter Try.func31, Try.ntmps31
      go_wp2_with fail
      refine bodyPost_ret (v := .tuple #[.agg #[.slice none 0 0, .slice none 0 0], .int .i64 1]) (by simp [results, Try.results31, go_sem]) rfl ?_
      exact ⟨rfl, HB.out⟩
    · have d2 : decide (6 < dim) = false := by simpa using h2
      have e3 : hasA d a = false := by
        unfold okB mayB at h
        rw [decide_eq_true (by omega), decide_eq_true (by omega)] at h
        simpa using h
      rw [e3] at HC
      clear h h1 h2 e3
      go_enter Try.func31, Try.ntmps31
      go_wp2_with fail
      refine (HC.out _).mono ?_
      rintro e w1 ⟨rfl, rfl⟩
      go_wp2_with fail
      refine bodyPost_ret (v := .tuple #[.agg #[.slice none 0 0, .slice none 0 0], .int .i64 1]) (by simp [results, Try.results31, go_sem]) rfl ?_
      exact ⟨rfl, HB.out⟩
end Go.Proofs.Ytalohakibpjmmaa.Ex
