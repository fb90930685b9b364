/- Bits of both sides. -/
import Derived.Test.YtalohakibpjmmaaKyBase
import Derived.Lib.EndianBits
namespace Go.Proofs.Ytalohakibpjmmaa.Ky
open Go.RowKit
open Go.Lib (hid)

/-- the number, or 0 where there is none -/
def bitsV (k : List Nat) (n : Int) : Int := if bitsOk k.length n then (bitsK k n.toNat : Nat) else 0
theorem bits_no {k : List Nat} {n : Int} (h : bitsOk k.length n = false) : bitsV k n = 0 ∧ err (bitsOk k.length n) = 1 := by simp [bitsV, h, err]
theorem bits_yes {k : List Nat} {n : Nat} (h : bitsOk k.length n = true) : bitsV k n = (bitsK k n : Nat) ∧ err (bitsOk k.length n) = 0 := by simp [bitsV, h, err]
theorem bitsK_bound (k : List Nat) (i : Nat) (h : i < 30) : bitsK k i < 1073741824 := by
  have := bitsK_lt k i
  have h2 : 2 ^ i ≤ 2 ^ 30 := Nat.pow_le_pow_right (by omega) (by omega)
  have h3 : (2 : Nat) ^ 30 = 1073741824 := by decide
  omega
theorem bitK_at (k : List Nat) (i r t : Nat) (hr : i % k.length = r) (ht : i / k.length = t) (hk : r < k.length) : bitK k i = k[r] / 2 ^ (31 - t) % 2 := by
  unfold bitK; rw [hr, ht, List.getD_eq_getElem?_getD, List.getElem?_eq_getElem hk]; rfl
theorem bit_val (x u s : Nat) (hs : s < 1073741824) : wrap64 (2 * (s : Int) + wrap64 (((x : Int) / 2 ^ u).tmod 2)) = ((2 * s + x / 2 ^ u % 2 : Nat) : Int) := by
  have e : ((x : Int) / 2 ^ u) = ((x / 2 ^ u : Nat) : Int) := by simp
  rw [e]
  generalize x / 2 ^ u = z
  rw [Int.tmod_eq_emod_of_nonneg (by omega)]
  unfold wrap64
  omega
theorem bit_val2 (x u s : Nat) (hs : s < 1073741824) (hx : x < 4294967296) : bits .or .i64 (wrap64 ((s : Int) * 2)) (wrap64 (bits .and .u32 ((x : Int) / 2 ^ u) 1)) = ((2 * s + x / 2 ^ u % 2 : Nat) : Int) := by
  have e : ((x : Int) / 2 ^ u) = ((x / 2 ^ u : Nat) : Int) := by simp
  have hz : x / 2 ^ u < 4294967296 := Nat.lt_of_le_of_lt (Nat.div_le_self _ _) hx
  rw [e]
  generalize x / 2 ^ u = z at hz
  have h1 : bits .and .u32 (z : Int) 1 = ((z &&& 1 : Nat) : Int) := u32_and_nat z 1 hz (by decide)
  rw [h1, Nat.and_one_is_mod]
  have w1 : wrap64 ((s : Int) * 2) = ((2 * s : Nat) : Int) := by unfold wrap64; omega
  have w2 : wrap64 ((z % 2 : Nat) : Int) = ((z % 2 : Nat) : Int) := by unfold wrap64; omega
  rw [w1, w2]
  have := bits_join .i64 62 (by decide) (fun n h0 h1 => by rw [IntKind.wrap_i64]; omega) 1 ((2 * s : Nat) : Int) ((z % 2 : Nat) : Int) (by omega) (by omega) (by omega) (by omega) (by omega) (by omega)
  rw [this]
  omega
set_option maxRecDepth 100000 in
set_option maxHeartbeats 2000000 in
theorem refBits_ok (k : List Nat) (p : Option Addr) (c : Nat) (n : Int) (w : World) (hp : Pt w p k) (hl : k.length ≤ 1000000) :
    Calls Try.prog 40 #[.slice p k.length c, .int .i64 n] w fun e w' => e = .returned (.tuple #[.int .i64 (bitsV k n), .int .i64 (err (bitsOk k.length n))]) ∧ ∃ m, w' = w.drewN m := by
  by_cases h1 : (k.length : Int) < 1
  · obtain ⟨e1, e2⟩ := bits_no (k := k) (n := n) (by simp [bitsOk, mayN]; omega)
    rw [e1, e2]; clear e1 e2 hp
    go_enter Try.func40, Try.ntmps40
    go_wp2_with fail
    go_ret2
    exact ⟨rfl, 0, rfl⟩
  · have d1 : decide ((k.length : Int) < 1) = false := by simpa using h1
    by_cases h2 : 6 < (k.length : Int)
    · obtain ⟨e1, e2⟩ := bits_no (k := k) (n := n) (by simp [bitsOk, mayN]; omega)
      rw [e1, e2]; clear e1 e2 hp h1
      go_enter Try.func40, Try.ntmps40
      go_wp2_with fail
      go_ret2
      exact ⟨rfl, 0, rfl⟩
    · have d2 : decide (6 < (k.length : Int)) = false := by simpa using h2
      by_cases h3 : n < 0
      · obtain ⟨e1, e2⟩ := bits_no (k := k) (n := n) (by simp [bitsOk]; omega)
        rw [e1, e2]; clear e1 e2 hp h1 h2
        go_enter Try.func40, Try.ntmps40
        go_wp2_with fail
        go_ret2
        exact ⟨rfl, 0, rfl⟩
      · have d3 : decide (n < 0) = false := by simpa using h3
        by_cases h4 : 30 < n
        · obtain ⟨e1, e2⟩ := bits_no (k := k) (n := n) (by simp [bitsOk]; omega)
          rw [e1, e2]; clear e1 e2 hp h1 h2 h3
          go_enter Try.func40, Try.ntmps40
          go_wp2_with fail
          go_ret2
          exact ⟨rfl, 0, rfl⟩
        · have d4 : decide (30 < n) = false := by simpa using h4
          obtain ⟨N, rfl⟩ : ∃ N : Nat, n = (N : Int) := ⟨n.toNat, by omega⟩
          obtain ⟨e1, e2⟩ := bits_yes (k := k) (n := N) (by simp [bitsOk, mayN]; omega)
          rw [e1, e2]
          have d5 : decide (32 * (k.length : Int) < (N : Int)) = false := by simp; omega
          have HP := hid hp
          have HK : Hid (0 < k.length ∧ k.length ≤ 6 ∧ N ≤ 30) := hid (by omega)
          have d6 : IntKind.i64.wrap (32 * (k.length : Int)) = 32 * (k.length : Int) := Go.IntWalk.i64_in _ (by omega)
          clear e1 e2 hp h1 h2 h3 h4
          go_enter Try.func40, Try.ntmps40
          go_wp2_with fail
          clear d1 d2 d3 d4 d5 d6
          go_loopw [6, 7] (fun o i wr => ∃ j : Nat, j ≤ N ∧ i = .int .i64 j ∧ o = .int .i64 (bitsK k j : Nat) ∧ ∃ m, wr = w.drewN m) (fun _ i _ => N - (intOf i).toNat)
          case atStart => exact ⟨0, by omega, rfl, rfl, 0, rfl⟩
          case round =>
            obtain ⟨j, hj, rfl, rfl, m, rfl⟩ := hrel
            by_cases hlt : j < N
            · obtain ⟨r, hr⟩ : ∃ r, j % k.length = r := ⟨_, rfl⟩
              obtain ⟨t, ht⟩ : ∃ t, j / k.length = t := ⟨_, rfl⟩
              have hrk : r < k.length := by rw [← hr]; exact Nat.mod_lt _ HK.out.1
              have htj : t ≤ j := by rw [← ht]; exact Nat.div_le_self _ _
              have HN := hid HK.out.2.2
              have ht31 : t ≤ 31 := by have := HK.out.2.2; omega
              obtain ⟨u, hu⟩ : ∃ u, 31 - t = u := ⟨_, rfl⟩
              obtain ⟨b1, o1, rfl, _, d1⟩ := HP.out.cells r hrk
              have HF := hid (HP.out.fit r hrk)
              have HE := hid (bitK_at k j r t hr ht hrk)
              have HS : Hid (bitsK k (j + 1) = 2 * bitsK k j + bitK k j) := hid rfl
              rw [HE.out] at HS
              have HBd := hid (bitsK_bound k j (by have := HN.out; omega))
              generalize k[r] = x at d1 HF HS
              generalize bitsK k j = s at HS HBd ⊢
              have e1 : (j : Int) % (k.length : Int) = (r : Int) := by rw [← hr]; simp
              have e2 : (j : Int) / (k.length : Int) = (t : Int) := by rw [← ht]; simp
              have e1' : (j : Int).tmod (k.length : Int) = (r : Int) := by rw [Int.tmod_eq_emod_of_nonneg (by omega)]; exact e1
              have e2' : (j : Int).tdiv (k.length : Int) = (t : Int) := by rw [Int.tdiv_eq_ediv_of_nonneg (by omega)]; exact e2
              have e3 : (31 : Int) - (t : Int) = (u : Int) := by omega
              have hb := HBd.out
              have e4 : IntKind.i64.wrap (2 * (s : Int)) = 2 * (s : Int) := Go.IntWalk.i64_in _ (by omega)
              have e5 : IntKind.i64.wrap (r : Int) = (r : Int) := Go.IntWalk.i64_in _ (by omega)
              have e6 : IntKind.i64.wrap (t : Int) = (t : Int) := Go.IntWalk.i64_in _ (by omega)
              have e7 : IntKind.i64.wrap (u : Int) = (u : Int) := Go.IntWalk.i64_in _ (by omega)
              have e8 : IntKind.u64.wrap (u : Int) = (u : Int) := Go.IntWalk.u64_in _ (by omega)
              have e9 : ((k.length : Int) == 0) = false := by have := HK.out.1; rw [beq_eq_false_iff_ne]; omega
              have g1 : (0 : Int) ≤ (r : Int) := by omega
              have g2 : (r : Int) < (k.length : Int) := by omega
              clear HE hr ht hb
              have hn := HN.out
              go_wp2_with fail
              go_quiet (fail)
              go_wp2_with fail
              have HQ := hid (bit_val x u s HBd.out)
              rw [HQ.out]
              clear e1 e2 e1' e2' e3 e4 e5 e6 e7 e8 e9 g1 g2 d1
              go_roundw
              case rel => exact ⟨j + 1, by omega, by go_num, by rw [HS.out, hu], _, rfl⟩
              case measure => simp [intOf]; omega
            · obtain rfl : j = N := by omega
              go_wp2_with fail
              go_ret2
              exact ⟨rfl, m, rfl⟩
set_option maxRecDepth 100000 in
set_option maxHeartbeats 2000000 in
theorem bits_ok (k : List Nat) (p : Option Addr) (c : Nat) (n : Int) (w : World) (hp : Pt w p k) (hl : k.length ≤ 1000000) :
    Calls Try.prog 39 #[.slice p k.length c, .int .i64 n] w fun e w' => e = .returned (.tuple #[.int .i64 (bitsV k n), .int .i64 (err (bitsOk k.length n))]) ∧ ∃ m, w' = w.drewN m := by
  have HC := hid fun w' : World => check_ok p k.length c (k.length : Int) w'
  cases h1 : checkB k.length (k.length : Int) with
  | false =>
    obtain ⟨e1, e2⟩ := bits_no (k := k) (n := n) (by simp [checkB, mayB_nat] at h1; simp [bitsOk, h1])
    rw [e1, e2]; rw [h1] at HC; clear e1 e2 hp h1
    go_enter Try.func39, Try.ntmps39
    go_wp2_with (go_at_call 53; refine (HC.out _).mono ?_; rintro e w' ⟨rfl, rfl⟩; rw [err_false false rfl])
    go_ret2
    exact ⟨rfl, 0, rfl⟩
  | true =>
    by_cases h3 : n < 0
    · obtain ⟨e1, e2⟩ := bits_no (k := k) (n := n) (by simp [bitsOk]; omega)
      rw [e1, e2]; rw [h1] at HC; clear e1 e2 hp h1
      go_enter Try.func39, Try.ntmps39
      go_wp2_with (go_at_call 53; refine (HC.out _).mono ?_; rintro e w' ⟨rfl, rfl⟩; rw [err_true true rfl])
      go_ret2
      exact ⟨rfl, 0, rfl⟩
    · have d3 : decide (n < 0) = false := by simpa using h3
      by_cases h4 : 30 < n
      · obtain ⟨e1, e2⟩ := bits_no (k := k) (n := n) (by simp [bitsOk]; omega)
        rw [e1, e2]; rw [h1] at HC; clear e1 e2 hp h1 h3
        go_enter Try.func39, Try.ntmps39
        go_wp2_with (go_at_call 53; refine (HC.out _).mono ?_; rintro e w' ⟨rfl, rfl⟩; rw [err_true true rfl])
        go_ret2
        exact ⟨rfl, 0, rfl⟩
      · have d4 : decide (30 < n) = false := by simpa using h4
        obtain ⟨N, rfl⟩ : ∃ N : Nat, n = (N : Int) := ⟨n.toNat, by omega⟩
        have h1' := h1
        simp [checkB, mayB_nat, mayN] at h1'
        obtain ⟨e1, e2⟩ := bits_yes (k := k) (n := N) (by simp [bitsOk, mayN]; omega)
        rw [e1, e2]
        have HP := hid hp
        have HK : Hid (0 < k.length ∧ k.length ≤ 6 ∧ N ≤ 30) := hid (by omega)
        rw [h1] at HC
        clear e1 e2 hp h1 h1' h3 h4
        go_enter Try.func39, Try.ntmps39
        go_wp2_with (go_at_call 53; refine (HC.out _).mono ?_; rintro e w' ⟨rfl, rfl⟩; rw [err_true true rfl])
        clear d3 d4
        go_loopw [6, 24] (fun o i wr => ∃ j : Nat, j ≤ N ∧ i = .int .i64 j ∧ o = .int .i64 (bitsK k j : Nat) ∧ ∃ m, wr = w.drewN m) (fun _ i _ => N - (intOf i).toNat)
        case atStart => exact ⟨0, by omega, rfl, rfl, 0, rfl⟩
        case round =>
          obtain ⟨j, hj, rfl, rfl, m, rfl⟩ := hrel
          by_cases hlt : j < N
          · obtain ⟨r, hr⟩ : ∃ r, j % k.length = r := ⟨_, rfl⟩
            obtain ⟨t, ht⟩ : ∃ t, j / k.length = t := ⟨_, rfl⟩
            have hrk : r < k.length := by rw [← hr]; exact Nat.mod_lt _ HK.out.1
            have htj : t ≤ j := by rw [← ht]; exact Nat.div_le_self _ _
            have HN := hid HK.out.2.2
            have ht31 : t ≤ 31 := by have := HK.out.2.2; omega
            obtain ⟨u, hu⟩ : ∃ u, 31 - t = u := ⟨_, rfl⟩
            obtain ⟨b1, o1, rfl, _, d1⟩ := HP.out.cells r hrk
            have HF := hid (HP.out.fit r hrk)
            have HE := hid (bitK_at k j r t hr ht hrk)
            have HS : Hid (bitsK k (j + 1) = 2 * bitsK k j + bitK k j) := hid rfl
            rw [HE.out] at HS
            have HBd := hid (bitsK_bound k j (by have := HN.out; omega))
            generalize k[r] = x at d1 HF HS
            generalize bitsK k j = s at HS HBd ⊢
            have e1 : (j : Int) % (k.length : Int) = (r : Int) := by rw [← hr]; simp
            have e2 : (j : Int) / (k.length : Int) = (t : Int) := by rw [← ht]; simp
            have e1' : (j : Int).tmod (k.length : Int) = (r : Int) := by rw [Int.tmod_eq_emod_of_nonneg (by omega)]; exact e1
            have e2' : (j : Int).tdiv (k.length : Int) = (t : Int) := by rw [Int.tdiv_eq_ediv_of_nonneg (by omega)]; exact e2
            have e3 : (31 : Int) - (t : Int) = (u : Int) := by omega
            have hb := HBd.out
            have e5 : IntKind.i64.wrap (r : Int) = (r : Int) := Go.IntWalk.i64_in _ (by omega)
            have e6 : IntKind.i64.wrap (t : Int) = (t : Int) := Go.IntWalk.i64_in _ (by omega)
            have e7 : IntKind.i64.wrap (u : Int) = (u : Int) := Go.IntWalk.i64_in _ (by omega)
            have e9 : ((k.length : Int) == 0) = false := by have := HK.out.1; rw [beq_eq_false_iff_ne]; omega
            have g1 : (0 : Int) ≤ (r : Int) := by omega
            have g2 : (r : Int) < (k.length : Int) := by omega
            have g3 : (0 : Int) ≤ (u : Int) := by omega
            have g4 : decide ((u : Int) < 0) = false := by simp
            clear HE hr ht hb
            have hn := HN.out
            go_wp2_with fail
            go_quiet (fail)
            go_wp2_with fail
            have HQ := hid (bit_val2 x u s HBd.out HF.out)
            rw [HQ.out]
            clear e1 e2 e1' e2' e3 e5 e6 e7 e9 g1 g2 g3 g4 d1
            go_roundw
            case rel => exact ⟨j + 1, by omega, by go_num, by rw [HS.out, hu], _, rfl⟩
            case measure => simp [intOf]; omega
          · obtain rfl : j = N := by omega
            go_wp2_with fail
            go_ret2
            exact ⟨rfl, m, rfl⟩
end Go.Proofs.Ytalohakibpjmmaa.Ky
