/- Plain facts: a turn of at most 32 bits that stand one behind the other is no turn of the sum to itself. -/
import Derived.Test.YtigaddpjmgncmaaDoorSmMath
namespace Go.Proofs.YtigaddpjmgncmaaDoor.Sm

theorem stp_shl (j : Nat) (h : j < 31) : stp (1#32 <<< (j + 1)) = 1#32 <<< j := by
  have hb : (1#32 <<< (j + 1)).getLsbD 0 = false := by rw [one_bit _ _ (by omega)]; simp
  unfold stp; rw [hb]
  apply BitVec.eq_of_getLsbD_eq; intro i hi
  simp only [Bool.false_eq_true, if_false, BitVec.xor_zero]
  rw [BitVec.getLsbD_ushiftRight, one_bit _ _ (by omega), one_bit _ _ (by omega)]
  have : (1 + i = j + 1) ↔ (i = j) := by omega
  simp [this]

theorem stps_shl (k : Nat) : ∀ m, k < 32 → k ≤ m → stps m (1#32 <<< k) = stps (m - k) 1#32 := by
  induction k with
  | zero => intro m _ _; simp
  | succ k ih =>
    intro m h hm
    obtain ⟨m, rfl⟩ : ∃ j, m = j + 1 := ⟨m - 1, by omega⟩
    show stps m (stp (1#32 <<< (k + 1))) = _
    rw [stp_shl k (by omega), ih m (by omega) (by omega)]
    congr 1; omega

theorem wd_shl (r : Nat) (h : r < 8) : wd ((1 : UInt8) <<< (UInt8.ofNat r)) = 1#32 <<< r := by
  have : ∀ r : Fin 8, wd ((1 : UInt8) <<< (UInt8.ofNat r.val)) = 1#32 <<< r.val := by decide
  exact this ⟨r, h⟩
theorem one_shl (r : Nat) (h : r < 8) : ((1 : UInt8) <<< (UInt8.ofNat r)).toNat = 2 ^ r := by
  have : ∀ r : Fin 8, ((1 : UInt8) <<< (UInt8.ofNat r.val)).toNat = 2 ^ r.val := by decide
  exact this ⟨r, h⟩

theorem seen_bit (L f k : Nat) (hk : k < 32) (h : f + 32 ≤ 8 * L) :
    thr (L - (f + k) / 8) (wd ((1 : UInt8) <<< (UInt8.ofNat ((f + k) % 8)))) = stps (8 * L - f) (1#32 <<< k) := by
  rw [wd_shl _ (Nat.mod_lt _ (by decide))]
  unfold thr
  rw [stps_shl _ _ (by omega) (by omega), stps_shl _ _ hk (by omega)]
  congr 1; omega

theorem seen_step (l : List UInt8) (X b : B32) (f k : Nat) (hk : k < 32) (h : f + 32 ≤ 8 * l.length) (hq : (f + k) / 8 < l.length)
    (ha : alo full l = X ^^^ stps (8 * l.length - f) (low b k)) (hb : b.getLsbD k = true) :
    alo full (l.set ((f + k) / 8) (l[(f + k) / 8] ^^^ ((1 : UInt8) <<< (UInt8.ofNat ((f + k) % 8))))) = X ^^^ stps (8 * l.length - f) (low b (k + 1)) := by
  rw [alo_set, ha, seen_bit _ _ _ hk h, low_more b k hk, hb, stps_xor]
  simp only [if_true]
  ac_rfl
theorem seen_skip (l : List UInt8) (X b : B32) (f k : Nat) (hk : k < 32)
    (ha : alo full l = X ^^^ stps (8 * l.length - f) (low b k)) (hb : b.getLsbD k = false) :
    alo full l = X ^^^ stps (8 * l.length - f) (low b (k + 1)) := by
  rw [ha, low_more b k hk, hb]; simp

theorem seen_end (l m : List UInt8) (b : B32) (j : Nat) (hb : b ≠ 0#32) (ha : alo full l = alo full m ^^^ stps j (low b 32)) : sumB l ≠ sumB m := by
  intro h
  rw [low_all] at ha
  unfold sumB at h
  have h1 := congrArg (· ^^^ full) h
  simp only [BitVec.xor_assoc, BitVec.xor_self, BitVec.xor_zero] at h1
  rw [h1] at ha
  apply hb; apply stps_eq_zero j
  have h2 := congrArg (alo full m ^^^ ·) ha
  simp only [← BitVec.xor_assoc, BitVec.xor_self, BitVec.zero_xor] at h2
  exact h2.symm
end Go.Proofs.YtigaddpjmgncmaaDoor.Sm
