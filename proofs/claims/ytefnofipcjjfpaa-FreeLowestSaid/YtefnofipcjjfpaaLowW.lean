/- The walk of FreeLowest. -/
import Derived.Test.YtefnofipcjjfpaaFrOpen
namespace Go.Proofs.Ytefnofipcjjfpaa
open Go.RowKit
open Go.Lib (hid)
open Go.Proofs.Ytefnofipcjjfpaa.Fr

theorem front_full (n k : Nat) (h : n ≤ k) : frontB n k = frontB n n := by
  apply eq_of_bitAt (by rw [frontB_length, frontB_length])
  intro j hj
  rw [frontB_length] at hj
  rw [frontB_at, frontB_at]
  have h1 : j < k := by omega
  simp [hj, h1]
theorem front_take_at (n k : Nat) (h : k < n) : takeN (frontB n k) = k :=
  takeN_eq _ _ (by rw [frontB_at]; simp) (fun j hj hl => by rw [frontB_length] at hl; rw [frontB_at]; simp [hj, hl]) (by rw [frontB_length]; exact h)
theorem front_take_none (n : Nat) : takeN (frontB n n) = (frontB n n).length :=
  takeN_full _ n (fun j hj hl => by rw [frontB_at]; simp [hj]) (by rw [frontB_length]; exact Nat.le_refl _)
theorem front_bit (n k : Nat) (h : k < n) : bitAt (frontB n (k + 1)) k = true := by rw [frontB_at]; simp [h]
theorem ones_front (n k m : Nat) (hm : m ≤ n) : ones (bitAt (frontB n k)) m = min m k := by
  induction m with
  | zero => simp [ones]
  | succ m ih =>
    simp only [ones]
    rw [ih (by omega), frontB_at]
    have h1 : m < n := by omega
    by_cases h2 : m < k
    · simp [h1, h2]; omega
    · simp [h1, h2]; omega
theorem left_front (n k : Nat) (h : k ≤ n) : leftN (frontB n k) = n - k := by
  unfold leftN; rw [frontB_length, ones_front _ _ _ (Nat.le_refl _)]; omega
/-- pages that were given back: whole rounds, and some of one round -/
def gvB (n f y k i : Nat) : List Bool := mkB n fun j => decide (j < f) || (decide (k < (j - f) % y) || (decide ((j - f) % y = k) && decide (i ≤ j)))
theorem gv_length (n f y k i : Nat) : (gvB n f y k i).length = n := mkB_length _ _
theorem gv_at (n f y k i j : Nat) : bitAt (gvB n f y k i) j = (decide (j < n) && (decide (j < f) || (decide (k < (j - f) % y) || (decide ((j - f) % y = k) && decide (i ≤ j))))) := mkB_at _ _ _
theorem gv_start (n f y : Nat) : gvB n f y 0 f = frontB n n := by
  apply eq_of_bitAt (by rw [gv_length, frontB_length])
  intro j hj
  rw [gv_length] at hj
  rw [gv_at, frontB_at, Bool.eq_iff_iff]
  simp only [Bool.and_eq_true, Bool.or_eq_true, decide_eq_true_eq]
  omega
theorem mod_at (f y k t : Nat) (hk : k < y) : (f + k + t * y - f) % y = k := by
  have e : f + k + t * y - f = k + y * t := by rw [Nat.mul_comm]; omega
  rw [e, Nat.add_mul_mod_self_left]; exact Nat.mod_eq_of_lt hk
theorem gv_bit (n f y k t : Nat) (hk : k < y) (hi : f + k + t * y < n) : bitAt (gvB n f y k (f + k + t * y)) (f + k + t * y) = true := by
  rw [gv_at, mod_at f y k t hk]; simp [hi]
theorem mod_gap (a b y : Nat) (h : a % y = b % y) (h1 : a ≤ b) (h2 : b < a + y) : a = b := by
  have ha := Nat.mod_add_div a y
  have hb := Nat.mod_add_div b y
  have hy : 0 < y := by omega
  by_cases e : a / y = b / y
  · rw [e] at ha; omega
  · have hle : a / y ≤ b / y := Nat.div_le_div_right h1
    have h3 : a / y + 1 ≤ b / y := by omega
    have h4 : y * (a / y + 1) ≤ y * (b / y) := Nat.mul_le_mul_left y h3
    rw [Nat.mul_add] at h4
    omega
theorem gv_step (n f y k t : Nat) (hk : k < y) (hi : f + k + t * y < n) : turnB (gvB n f y k (f + k + t * y)) (f + k + t * y) = gvB n f y k (f + k + (t + 1) * y) := by
  have hb := gv_bit n f y k t hk hi
  have hm := mod_at f y k t hk
  have e1 : f + k + (t + 1) * y = f + k + t * y + y := by rw [Nat.add_mul]; omega
  rw [e1]
  have hge : f ≤ f + k + t * y := by omega
  generalize f + k + t * y = i at hb hm hi hge
  apply eq_of_bitAt (by rw [turnB_length, gv_length, gv_length])
  intro j hj
  rw [turnB_length, gv_length] at hj
  rw [turnB_at _ _ (by rw [gv_length]; exact hi)]
  by_cases e : j = i
  · subst e
    rw [if_pos rfl, hb, gv_at, hm]
    have h1 : ¬ j < f := by omega
    have h2 : ¬ j + y ≤ j := by omega
    simp [h1, h2]
  · rw [if_neg e, gv_at, gv_at, Bool.eq_iff_iff]
    simp only [Bool.and_eq_true, Bool.or_eq_true, decide_eq_true_eq]
    have hgap : (j - f) % y = k → ¬ j < f → (i ≤ j ↔ i + y ≤ j) := fun h1 h2 => by
      constructor
      · intro h3
        by_cases h4 : i + y ≤ j
        · exact h4
        · have := mod_gap (i - f) (j - f) y (by rw [hm, h1]) (by omega) (by omega)
          omega
      · omega
    by_cases h1 : (j - f) % y = k
    · by_cases h2 : j < f
      · simp [hj, h2]
      · have := hgap h1 h2
        simp [hj, h2, h1, this]
    · simp [h1]
theorem gv_next (n f y k i : Nat) (hi : n ≤ i) : gvB n f y k i = gvB n f y (k + 1) (f + (k + 1)) := by
  apply eq_of_bitAt (by rw [gv_length, gv_length])
  intro j hj
  rw [gv_length] at hj
  rw [gv_at, gv_at, Bool.eq_iff_iff]
  simp only [Bool.and_eq_true, Bool.or_eq_true, decide_eq_true_eq]
  have hle : (j - f) % y ≤ j - f := Nat.mod_le _ _
  omega
theorem gv_end (n f y : Nat) (hy : 0 < y) : gvB n f y y (f + y) = frontB n f := by
  apply eq_of_bitAt (by rw [gv_length, frontB_length])
  intro j hj
  rw [gv_length] at hj
  have hlt : (j - f) % y < y := Nat.mod_lt _ hy
  rw [gv_at, frontB_at, Bool.eq_iff_iff]
  simp only [Bool.and_eq_true, Bool.or_eq_true, decide_eq_true_eq]
  omega

set_option maxRecDepth 100000 in
set_option maxHeartbeats 4000000 in
theorem Lowest_go (n f : Nat) (z : Int) (w : World) (h1 : 1 ≤ n) (h2 : n ≤ 200) (hf : f ≤ n) (hz : 1 ≤ z) (hz2 : z ≤ 9223372036854775807) :
    Calls Try.prog 6 #[.int .i64 (n : Int), .int .i64 (f : Int), .int .i64 z] w fun e w' => e = .returned (.bool true) ∧ Below w.heap.size w w' := by
  have HB : Hid (Below w.heap.size w w) := hid (Below.refl _ _)
  have H1 := hid (And.intro h1 hf)
  have e1 : decide ((200 : Int) < (n : Int)) = false := by simp; omega
  have e2 : decide (z < 1) = false := by simp; omega
  obtain ⟨y, hy⟩ : ∃ y : Nat, min z 200 = (y : Int) := ⟨(min z 200).toNat, by omega⟩
  have hy1 : 1 ≤ y := by omega
  have hy2 : y ≤ 200 := by omega
  have HY : Hid (∀ k : Nat, k < y ↔ ((k : Int) < z ∧ (k : Int) < 200)) := hid fun k => by omega
  have HYM := hid hy
  clear hy hz
  go_enter Try.func6, Try.ntmps6
  go_wp2_with (first
    | (go_at_call 8; refine (new_ok n f _ h1 (by omega) hf).mono ?_; rintro e w1 ⟨d, rfl, hm, hb, hd1, hd2⟩; have HM := hid hm; have HD := hid (And.intro hd1 hd2); replace HB := on_below HB hb; clear hm hb hd1 hd2)
    | (go_at_call 18; refine (encode_ok d (frontB n f) _ HM.out).mono ?_; rintro e w2 ⟨rfl, hb⟩; replace HM := hid (HM.out.below hb); replace HB := on_below HB hb; clear hb))
  clear e1 e2 h1
  generalize hs : (⟨(encB (frontB n f)).toArray⟩ : ByteArray) = s
  have HS := hid hs; clear hs
  go_loopw [10] (fun i wr => ∃ k : Nat, f ≤ k ∧ k ≤ n ∧ i = .int .i64 k ∧ Mp wr d (frontB n k) ∧ Below w.heap.size w wr) (fun i _ => n - (intOf i).toNat)
  case atStart => exact ⟨f, Nat.le_refl _, hf, rfl, HM.out, HB.out⟩
  case round =>
    clear HM HB
    obtain ⟨k, hfk, hk, rfl, hm, hb⟩ := hrel
    have HM := hid hm; have HB := hid hb; clear hm hb
    by_cases hlt : k < n
    · have HT := hid (front_take_at n k hlt)
      have HL : Hid (takeN (frontB n k) < (frontB n k).length) := hid (by rw [front_take_at n k hlt, frontB_length]; exact hlt)
      have HF := hid (frontB_more n k hlt)
      have HBT := hid (front_bit n k hlt)
      have HLN : Hid (k < (frontB n (k + 1)).length) := hid (by rw [frontB_length]; exact hlt)
      go_wp2_with (first
        | (go_at_call 12; refine (take_ok d (frontB n k) _ HM.out HL.out).mono ?_; rintro e w3 ⟨rfl, hm, ho⟩; rw [HT.out] at hm ⊢; rw [HF.out] at hm; replace HM := hid hm; replace HB := on_only HB ho HD.out.2; clear hm ho)
        | (go_at_call 21; refine (is_val d (frontB n (k + 1)) k true _ HM.out HLN.out HBT.out).mono ?_; rintro e w' ⟨rfl, m, rfl⟩; replace HM := hid (HM.out.drewN m); replace HB := on_drewN HB m))
      go_roundw
      case rel => exact ⟨k + 1, by omega, by omega, by go_num, HM.out, HB.out⟩
      case measure => simp [intOf]; omega
    · obtain rfl : k = n := by omega
      have HT := hid (front_take_none k)
      have HLF : Hid (leftN (frontB k k) = 0) := hid (by rw [left_front _ _ (Nat.le_refl _)]; omega)
      go_wp2_with (first
        | (go_at_call 12; refine (take_full d (frontB k k) _ HM.out HT.out).mono ?_; rintro e w3 ⟨rfl, m, rfl⟩; replace HM := hid (HM.out.drewN m); replace HB := on_drewN HB m)
        | (go_at_call 19; refine (HLF.out ▸ left_ok d (frontB k k) _ HM.out).mono ?_; rintro e w' ⟨rfl, rfl⟩))
      have HG : Hid (Mp (wr.drewN m) d (gvB k f y 0 (f + 0))) := hid (by rw [Nat.add_zero, gv_start]; exact HM.out)
      clear HM hfk hk hlt HT HLF
      generalize wr.drewN m = w4 at HG HB ⊢
      generalize hkn : k = n at *
      go_loopw [15] (fun q wq => ∃ k : Nat, k ≤ y ∧ q = .int .i64 k ∧ Mp wq d (gvB n f y k (f + k)) ∧ Below w.heap.size w wq) (fun q _ => y - (intOf q).toNat)
      case atStart => exact ⟨0, by omega, rfl, HG.out, HB.out⟩
      case round =>
        clear HG HB
        obtain ⟨k, hk, rfl, hm, hb⟩ := hrel
        have HM := hid hm; have HB := hid hb; clear hm hb
        by_cases hlt : k < y
        · have hkz := ((HY.out k).1 hlt).1
          have hk2 := ((HY.out k).1 hlt).2
          have hym := HYM.out
          go_wp2_with fail
          go_loopw [16] (fun q wq => ∃ t x : Nat, x = f + k + t * y ∧ x ≤ n + 200 ∧ q = .int .i64 x ∧ Mp wq d (gvB n f y k x) ∧ Below w.heap.size w wq) (fun q _ => n + 200 - (intOf q).toNat)
          case atStart => exact ⟨0, f + k, by omega, by omega, by go_num, HM.out, HB.out⟩
          case round =>
            clear HM HB
            obtain ⟨t, x, hx, hxn, rfl, hm, hb⟩ := hrel
            have HM := hid hm; have HB := hid hb; clear hm hb
            have HX := hid hx
            clear hx
            by_cases hxlt : x < n
            · have HL : Hid (x < (gvB n f y k x).length) := hid (by rw [gv_length]; exact hxlt)
              have HBT : Hid (bitAt (gvB n f y k x) x = true) := hid (by have := HX.out; subst this; exact gv_bit n f y k t hlt hxlt)
              have HN : Hid (turnB (gvB n f y k x) x = gvB n f y k (x + y) ∧ x + y = f + k + (t + 1) * y) := hid (by
                have := HX.out; subst this
                have e : f + k + t * y + y = f + k + (t + 1) * y := by rw [Nat.add_mul]; omega
                rw [e]; exact ⟨gv_step n f y k t hlt hxlt, rfl⟩)
              go_wp2_with (go_at_call 16; refine (give_ok d (gvB n f y k x) x _ HM.out HL.out HBT.out).mono ?_; rintro e w5 ⟨rfl, hm, ho⟩; rw [HN.out.1] at hm; replace HM := hid hm; replace HB := on_only HB ho HD.out.2; clear hm ho)
              go_roundw
              case rel => exact ⟨t + 1, x + y, HN.out.2, by omega, by go_num, HM.out, HB.out⟩
              case measure => simp [intOf]; omega
            · have HN : Hid (gvB n f y k x = gvB n f y (k + 1) (f + (k + 1))) := hid (gv_next n f y k x (by omega))
              go_wp2_with fail
              go_roundw
              case rel => exact ⟨k + 1, by omega, by go_num, by rw [← HN.out]; exact HM.out, HB.out⟩
              case measure => simp [intOf]; omega
        · obtain rfl : k = y := by omega
          have HE := hid (gv_end n f k (by omega))
          have HMM : Hid (Mp wr d (frontB n f)) := hid (by rw [← HE.out]; exact HM.out)
          have HLF := hid (left_front n f hf)
          have hsub : ((n - f : Nat) : Int) = (n : Int) - (f : Int) := by omega
          have HSUB := hid hsub
          clear hsub
          have HC : ∀ w', Mp w' d (frontB n f) → Calls Try.prog 19 #[.pointer (some ⟨d.M, 0, none⟩)] w' fun e w2 => e = .returned (.int .i64 ((n : Int) - (f : Int))) ∧ w' = w2 := fun w' h => by
            have := left_ok d (frontB n f) w' h
            rw [HLF.out, HSUB.out] at this
            exact this
          have HCC := hid HC
          clear HC
          have hnw : IntKind.i64.wrap ((n : Int) - (f : Int)) = (n : Int) - (f : Int) := Go.IntWalk.i64_in _ (by omega)
          by_cases hkz : (k : Int) < z
          · have e1 : decide ((k : Int) < 200) = false := by
              have := mt (fun h => (HY.out k).2 ⟨hkz, h⟩) (Nat.lt_irrefl k)
              simpa using this
            go_wp2_with (first
              | (go_at_call 18; refine (HS.out ▸ encode_ok d (frontB n f) _ HMM.out).mono ?_; rintro e w6 ⟨rfl, hb⟩; replace HMM := hid (HMM.out.below hb); replace HB := on_below HB hb; clear hb)
              | (go_at_call 19; refine (HCC.out _ HMM.out).mono ?_; rintro e w' ⟨rfl, rfl⟩)
              | (go_at_call 23; refine (live_any _).mono ?_; rintro e w7 ⟨rfl, hb⟩; replace HB := on_below HB hb; clear hb))
            go_ret
            exact ⟨rfl, HB.out⟩
          · have e1 : decide ((k : Int) < z) = false := by simpa using hkz
            go_wp2_with (first
              | (go_at_call 18; refine (HS.out ▸ encode_ok d (frontB n f) _ HMM.out).mono ?_; rintro e w6 ⟨rfl, hb⟩; replace HMM := hid (HMM.out.below hb); replace HB := on_below HB hb; clear hb)
              | (go_at_call 19; refine (HCC.out _ HMM.out).mono ?_; rintro e w' ⟨rfl, rfl⟩)
              | (go_at_call 23; refine (live_any _).mono ?_; rintro e w7 ⟨rfl, hb⟩; replace HB := on_below HB hb; clear hb))
            go_ret
            exact ⟨rfl, HB.out⟩
set_option maxRecDepth 100000 in
set_option maxHeartbeats 2000000 in
theorem FreeLowest_walk (a b z : Int) (_ha : (Lit.int .i64 a).wf = true) (_hb : (Lit.int .i64 b).wf = true) (hz : (Lit.int .i64 z).wf = true) (w : World) :
    Calls Try.prog 6 #[.int .i64 a, .int .i64 b, .int .i64 z] w fun e w' => e = .returned (.bool true) ∧ Below w.heap.size w w' := by
  have hz' := wf_int hz
  have HB : Hid (Below w.heap.size w w) := hid (Below.refl _ _)
  by_cases h1 : a < 1 ∨ 1000 < a ∨ b < 0 ∨ a < b
  · have H1 := hid h1; clear h1
    go_enter Try.func6, Try.ntmps6
    go_wp2_with (first
      | (go_at_call 8; refine (new_bad a b _ H1.out).mono ?_; rintro e w' ⟨rfl, rfl⟩)
      | (go_at_call 23; refine (live_any _).mono ?_; rintro e w7 ⟨rfl, hb⟩; replace HB := on_below HB hb; clear hb))
    go_ret
    exact ⟨rfl, HB.out⟩
  · obtain ⟨n, rfl⟩ : ∃ n : Nat, a = (n : Int) := ⟨a.toNat, by omega⟩
    obtain ⟨f, rfl⟩ : ∃ f : Nat, b = (f : Int) := ⟨b.toNat, by omega⟩
    by_cases h2 : n ≤ 200 ∧ 1 ≤ z
    · exact Lowest_go n f z w (by omega) h2.1 (by omega) h2.2 hz'.2
    · have HN : Hid (1 ≤ n ∧ n ≤ 1000 ∧ f ≤ n) := hid (by omega)
      clear h1
      by_cases h3 : n ≤ 200
      · have e1 : decide ((200 : Int) < (n : Int)) = false := by simp; omega
        have e2 : decide (z < 1) = true := by simp; omega
        clear h2 h3
        go_enter Try.func6, Try.ntmps6
        go_wp2_with (first
          | (go_at_call 8; refine (new_ok n f _ HN.out.1 HN.out.2.1 HN.out.2.2).mono ?_; rintro e w1 ⟨d, rfl, hm, hb, hd1, hd2⟩; replace HB := on_below HB hb; clear hm hb hd1 hd2)
          | (go_at_call 23; refine (live_any _).mono ?_; rintro e w7 ⟨rfl, hb⟩; replace HB := on_below HB hb; clear hb))
        go_ret
        exact ⟨rfl, HB.out⟩
      · have e1 : decide ((200 : Int) < (n : Int)) = true := by simp; omega
        clear h2 h3
        go_enter Try.func6, Try.ntmps6
        go_wp2_with (first
          | (go_at_call 8; refine (new_ok n f _ HN.out.1 HN.out.2.1 HN.out.2.2).mono ?_; rintro e w1 ⟨d, rfl, hm, hb, hd1, hd2⟩; replace HB := on_below HB hb; clear hm hb hd1 hd2)
          | (go_at_call 23; refine (live_any _).mono ?_; rintro e w7 ⟨rfl, hb⟩; replace HB := on_below HB hb; clear hb))
        go_ret
        exact ⟨rfl, HB.out⟩
end Go.Proofs.Ytefnofipcjjfpaa
