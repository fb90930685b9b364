/- Merged out of SmMath, SmWords, SmSteps, SmMatrix, SmPast, SmRef. -/
import Derived.WalkKit
import Derived.Deep.WholeRow
import Derived.Test.YtgihpdhkjneimaaGreatDoorRows
import Derived.Lib.Hide
import Derived.LoopTactic
import Derived.Laws.CopyOwn
/- Plain facts on 32-bit words for the sums of bytes: the step of a sum is linear and loses nothing; no program is imported. -/
namespace Go.Proofs.YtgihpdhkjneimaaGreatDoor.Sm

abbrev B32 := BitVec 32

def poly : B32 := 0xedb88320#32

/-- one step of a sum -/
def stp (n : B32) : B32 := (n >>> 1) ^^^ (if n.getLsbD 0 then poly else 0#32)

theorem stp_xor (a b : B32) : stp (a ^^^ b) = stp a ^^^ stp b := by
  have h : (a ^^^ b).getLsbD 0 = (a.getLsbD 0 ^^ b.getLsbD 0) := by simp
  have hs : (a ^^^ b) >>> 1 = a >>> 1 ^^^ b >>> 1 := by
    ext i hi; simp
  unfold stp; rw [h, hs]
  cases a.getLsbD 0 <;> cases b.getLsbD 0 <;> simp
  · ac_rfl
  · ac_rfl
  · rw [show a >>> 1 ^^^ poly ^^^ (b >>> 1 ^^^ poly) = a >>> 1 ^^^ b >>> 1 ^^^ (poly ^^^ poly) by ac_rfl]; simp

theorem stp_zero : stp 0#32 = 0#32 := by decide

theorem stp_eq_zero (n : B32) (h : stp n = 0#32) : n = 0#32 := by
  unfold stp at h
  cases hb : n.getLsbD 0
  · rw [hb] at h
    simp at h
    ext i hi
    rcases i with _ | i
    · simpa using hb
    · have := congrArg (fun x : B32 => x.getLsbD i) h
      simp at this
      rw [Nat.add_comm] at this
      rw [← BitVec.getLsbD_eq_getElem]; simpa using this
  · rw [hb] at h
    have := congrArg (fun x : B32 => x.getLsbD 31) h
    simp [poly] at this

def stps : Nat → B32 → B32
  | 0, n => n
  | k + 1, n => stps k (stp n)

theorem stps_xor (k : Nat) : ∀ a b : B32, stps k (a ^^^ b) = stps k a ^^^ stps k b := by
  induction k with
  | zero => intro a b; rfl
  | succ k ih => intro a b; simp only [stps, stp_xor, ih]

theorem stps_zero (k : Nat) : stps k 0#32 = 0#32 := by
  induction k with
  | zero => rfl
  | succ k ih => simp only [stps, stp_zero, ih]

theorem stps_add (j k : Nat) : ∀ n, stps (j + k) n = stps k (stps j n) := by
  induction j with
  | zero => intro n; simp [stps]
  | succ j ih => intro n; rw [show j + 1 + k = (j + k) + 1 by omega]; simp only [stps, ih]

theorem stps_eq_zero (k : Nat) : ∀ n, stps k n = 0#32 → n = 0#32 := by
  induction k with
  | zero => intro n h; exact h
  | succ k ih => intro n h; exact stp_eq_zero n (ih _ h)

theorem stps_succ' (k : Nat) (n : B32) : stps (k + 1) n = stp (stps k n) := by
  rw [stps_add k 1 n]; rfl

theorem xor_eq_zero {a b : B32} (h : a ^^^ b = 0#32) : a = b := by
  have := congrArg (· ^^^ b) h
  simpa [BitVec.xor_assoc] using this

theorem stps_inj (k : Nat) {a b : B32} (h : stps k a = stps k b) : a = b := by
  apply xor_eq_zero; apply stps_eq_zero k; rw [stps_xor, h]; simp

/-- a number gone on with so many bytes 0 -/
def thr (k : Nat) (n : B32) : B32 := stps (8 * k) n

theorem thr_xor (k : Nat) (a b : B32) : thr k (a ^^^ b) = thr k a ^^^ thr k b := stps_xor _ _ _
theorem thr_zero (k : Nat) : thr k 0#32 = 0#32 := stps_zero _
theorem thr_none (n : B32) : thr 0 n = n := rfl
theorem thr_add (j k : Nat) (n : B32) : thr (j + k) n = thr k (thr j n) := by
  unfold thr; rw [show 8 * (j + k) = 8 * j + 8 * k by omega, stps_add]
theorem thr_succ (k : Nat) (n : B32) : thr (k + 1) n = thr 1 (thr k n) := thr_add k 1 n
theorem thr_succ' (k : Nat) (n : B32) : thr (k + 1) n = thr k (thr 1 n) := by rw [Nat.add_comm]; exact thr_add 1 k n
theorem thr_eq_zero (k : Nat) (n : B32) (h : thr k n = 0#32) : n = 0#32 := stps_eq_zero _ _ h
theorem thr_inj (k : Nat) {a b : B32} (h : thr k a = thr k b) : a = b := stps_inj _ h

/-- a byte as a word -/
def wd (c : UInt8) : B32 := BitVec.ofNat 32 c.toNat

/-- a number gone on with each byte of a text -/
def alo (n : B32) (l : List UInt8) : B32 := l.foldl (fun n c => thr 1 (n ^^^ wd c)) n

theorem alo_nil (n : B32) : alo n [] = n := rfl
theorem alo_cons (n : B32) (c : UInt8) (l : List UInt8) : alo n (c :: l) = alo (thr 1 (n ^^^ wd c)) l := rfl
theorem alo_append (n : B32) (l m : List UInt8) : alo n (l ++ m) = alo (alo n l) m := by
  unfold alo; rw [List.foldl_append]
theorem alo_snoc (n : B32) (l : List UInt8) (c : UInt8) : alo n (l ++ [c]) = thr 1 (alo n l ^^^ wd c) := by
  rw [alo_append]; rfl

theorem alo_xor (l : List UInt8) : ∀ a b : B32, alo (a ^^^ b) l = alo a l ^^^ thr l.length b := by
  induction l with
  | nil => intro a b; rfl
  | cons c l ih =>
    intro a b
    rw [alo_cons, alo_cons, show a ^^^ b ^^^ wd c = (a ^^^ wd c) ^^^ b by ac_rfl, thr_xor, ih, List.length_cons, thr_succ' l.length b]

theorem alo_split (n : B32) (l : List UInt8) : alo n l = alo 0#32 l ^^^ thr l.length n := by
  have := alo_xor l 0#32 n
  simpa using this

theorem wd_zero : wd 0 = 0#32 := rfl

theorem alo_zeros (k : Nat) : ∀ n : B32, alo n (List.replicate k 0) = thr k n := by
  induction k with
  | zero => intro n; rfl
  | succ k ih => intro n; rw [List.replicate_succ, alo_cons, ih, wd_zero, thr_succ' k n]; simp

theorem wd_xor (a b : UInt8) : wd (a ^^^ b) = wd a ^^^ wd b := by
  unfold wd
  apply BitVec.eq_of_toNat_eq
  have ha := a.toNat_lt; have hb := b.toNat_lt
  have hx : a.toNat ^^^ b.toNat < 2 ^ 32 := Nat.xor_lt_two_pow (by omega) (by omega)
  simp [UInt8.toNat_xor]

/-- turning one byte of a text -/
theorem alo_set (l : List UInt8) : ∀ (n : B32) (q : Nat) (v : UInt8) (h : q < l.length),
    alo n (l.set q (l[q] ^^^ v)) = alo n l ^^^ thr (l.length - q) (wd v) := by
  induction l with
  | nil => intro n q v h; simp at h
  | cons c l ih =>
    intro n q v h
    rcases q with _ | q
    · simp only [List.set_cons_zero, List.getElem_cons_zero, alo_cons, List.length_cons, Nat.sub_zero]
      rw [wd_xor, ← BitVec.xor_assoc, thr_xor, alo_xor, thr_succ' l.length]
    · simp only [List.set_cons_succ, List.getElem_cons_succ, alo_cons, List.length_cons]
      rw [ih _ q v (by simpa using h)]
      rw [show l.length + 1 - (q + 1) = l.length - q by omega]

def full : B32 := 0xffffffff#32

def sumB (l : List UInt8) : B32 := alo full l ^^^ full
def joinB (a b : B32) (k : Nat) : B32 := thr k a ^^^ b
def zerosB (a : B32) (k : Nat) : B32 := thr k (a ^^^ full) ^^^ full
def turnedB (a : B32) (by' : List UInt8) (behind : Nat) : B32 := a ^^^ thr behind (alo 0#32 by')

theorem join_sum (l m : List UInt8) : joinB (sumB l) (sumB m) m.length = sumB (l ++ m) := by
  unfold joinB sumB
  rw [alo_append, alo_split (alo full l) m, alo_split full m, thr_xor]
  rw [show thr m.length (alo full l) ^^^ thr m.length full ^^^ (alo 0#32 m ^^^ thr m.length full ^^^ full) = alo 0#32 m ^^^ thr m.length (alo full l) ^^^ full ^^^ (thr m.length full ^^^ thr m.length full) by ac_rfl]
  simp

theorem join_assoc (a b c : B32) (j k : Nat) : joinB a (joinB b c k) (j + k) = joinB (joinB a b j) c k := by
  unfold joinB; rw [thr_add, thr_xor]; ac_rfl

theorem zeros_zeros (a : B32) (j k : Nat) : zerosB (zerosB a j) k = zerosB a (j + k) := by
  unfold zerosB; rw [thr_add]; simp [BitVec.xor_assoc]

theorem zeros_none (a : B32) : zerosB a 0 = a := by unfold zerosB; rw [thr_none]; simp [BitVec.xor_assoc]
theorem join_none (a : B32) : joinB a 0#32 0 = a := by unfold joinB; rw [thr_none]; simp

theorem turned_twice (a : B32) (t : List UInt8) (k : Nat) : turnedB (turnedB a t k) t k = a := by
  unfold turnedB; simp [BitVec.xor_assoc]

theorem turned_eq (a b : B32) (t : List UInt8) (k : Nat) : turnedB a t k = turnedB b t k ↔ a = b := by
  unfold turnedB
  constructor
  · intro h
    have := congrArg (· ^^^ thr k (alo 0#32 t)) h
    simpa [BitVec.xor_assoc] using this
  · intro h; rw [h]

theorem turned_diff (a b : B32) (t : List UInt8) (k : Nat) : turnedB a t k ^^^ a = turnedB b t k ^^^ b := by
  unfold turnedB
  rw [show a ^^^ thr k (alo 0#32 t) ^^^ a = thr k (alo 0#32 t) ^^^ (a ^^^ a) by ac_rfl, show b ^^^ thr k (alo 0#32 t) ^^^ b = thr k (alo 0#32 t) ^^^ (b ^^^ b) by ac_rfl]
  simp

theorem turned_none (a : B32) (j k : Nat) : turnedB a (List.replicate j 0) k = a := by
  unfold turnedB; rw [alo_zeros, thr_zero, thr_zero]; simp

/-- a word's lowest bits -/
def low (n : B32) (k : Nat) : B32 := BitVec.ofNat 32 (n.toNat % 2 ^ k)

theorem low_bit (n : B32) (k i : Nat) : (low n k).getLsbD i = (decide (i < k) && n.getLsbD i) := by
  unfold low
  rw [BitVec.getLsbD_ofNat, Nat.testBit_mod_two_pow]
  by_cases h : i < 32
  · simp [h, BitVec.getLsbD]
  · simp [h, BitVec.getLsbD_of_ge n i (by omega)]
theorem low_none (n : B32) : low n 0 = 0#32 := by
  apply BitVec.eq_of_getLsbD_eq; intro i _; rw [low_bit]; simp
theorem low_all (n : B32) : low n 32 = n := by
  apply BitVec.eq_of_getLsbD_eq; intro i h; rw [low_bit]; simp [h]
theorem one_bit (k i : Nat) (hk : k < 32) : (1#32 <<< k).getLsbD i = decide (i = k) := by
  rw [BitVec.getLsbD_shiftLeft]
  by_cases h : i < 32
  · by_cases e : i = k
    · subst e; simp [h]
    · by_cases g : i < k
      · simp [h, g, e]
      · have : ¬ (i - k = 0) := by omega
        simp [h, g, e, this]
  · have : i ≠ k := by omega
    simp [h, this]
theorem low_more (n : B32) (k : Nat) (hk : k < 32) : low n (k + 1) = low n k ^^^ (if n.getLsbD k then 1#32 <<< k else 0#32) := by
  apply BitVec.eq_of_getLsbD_eq; intro i hi
  rw [BitVec.getLsbD_xor, low_bit, low_bit]
  cases hb : n.getLsbD k
  · by_cases e : i = k
    · subst e; simp [hb]
    · have : (i < k + 1) ↔ i < k := by omega
      simp [this]
  · simp only [if_true]
    rw [one_bit k i hk]
    by_cases e : i = k
    · subst e; simp [hb]
    · have : (i < k + 1) ↔ i < k := by omega
      simp [this, e]

/-- it is put together of what it makes of parts -/
def Lin (f : B32 → B32) : Prop := ∀ a b, f (a ^^^ b) = f a ^^^ f b
theorem Lin.zero {f : B32 → B32} (h : Lin f) : f 0#32 = 0#32 := by
  have := h 0#32 0#32
  simpa using this
theorem lin_low {f : B32 → B32} (h : Lin f) (n : B32) (k : Nat) (hk : k < 32) :
    f (low n (k + 1)) = f (low n k) ^^^ (if n.getLsbD k then f (1#32 <<< k) else 0#32) := by
  rw [low_more n k hk, h]
  cases n.getLsbD k
  · simp [h.zero]
  · simp
theorem lin_thr (k : Nat) : Lin (thr k) := fun a b => thr_xor k a b

end Go.Proofs.YtgihpdhkjneimaaGreatDoor.Sm

/- How 32-bit words stand in the program's numbers: the step of a sum, in the numbers that a walk shows. -/
namespace Go.Proofs.YtgihpdhkjneimaaGreatDoor.Sm
open Go.RowKit

/-- a word as a number -/
def U (b : B32) : Int := (b.toNat : Int)

theorem U_lo (b : B32) : 0 ≤ U b := by unfold U; omega
theorem U_hi (b : B32) : U b < 4294967296 := by unfold U; have := b.isLt; omega
theorem U_inj {a b : B32} (h : U a = U b) : a = b := by
  unfold U at h; exact BitVec.eq_of_toNat_eq (by omega)
theorem U_of (x : Int) (h0 : 0 ≤ x) (h1 : x < 4294967296) : x = U (BitVec.ofInt 32 x) := by
  unfold U; rw [BitVec.toNat_ofInt]; omega
theorem U_beq (a b : B32) : (U a == U b) = (a == b) := by
  rw [Bool.eq_iff_iff, beq_iff_eq, beq_iff_eq]; exact ⟨U_inj, fun h => by rw [h]⟩

theorem U_xor (a b : B32) : bits .xor .u32 (U a) (U b) = U (a ^^^ b) := by
  unfold U; rw [u32_xor_nat _ _ a.isLt b.isLt, BitVec.toNat_xor]
theorem U_full : (4294967295 : Int) = U full := rfl
theorem U_zero : (0 : Int) = U 0#32 := rfl
theorem U_one : (1 : Int) = U 1#32 := rfl

theorem and_one (n : Nat) : n &&& 1 = if n % 2 = 1 then 1 else 0 := by
  rw [show n &&& 1 = n % 2 from Nat.and_two_pow_sub_one_eq_mod n 1]; split <;> omega

theorem stp_nat (a : B32) : bits .xor .u32 (U a / 2) (bits .and .u32 (U a) 1 * 3988292384 % 4294967296) = U (stp a) := by
  have h1 : bits .and .u32 (U a) 1 = ((a.toNat &&& 1 : Nat) : Int) := u32_and_nat a.toNat 1 a.isLt (by decide)
  have h2 : U a / (2 : Int) = U (a >>> 1) := by
    unfold U; rw [BitVec.toNat_ushiftRight, Nat.shiftRight_eq_div_pow]; simp
  have h3 : bits .and .u32 (U a) 1 * 3988292384 % 4294967296 = U (if a.getLsbD 0 then poly else 0#32) := by
    rw [h1, and_one]
    have : a.getLsbD 0 = decide (a.toNat % 2 = 1) := by rw [BitVec.getLsbD, Nat.testBit_zero]
    rw [this]
    by_cases h : a.toNat % 2 = 1 <;> simp [h, U, poly]
  rw [h2, h3, U_xor]; rfl

theorem U_wd (c : UInt8) : ((c.toNat : Int) % 4294967296) = U (wd c) := by
  unfold U wd; rw [BitVec.toNat_ofNat]; have := c.toNat_lt; omega
theorem xor_wd (n : B32) (c : UInt8) : bits .xor .u32 (U n) ((c.toNat : Int) % 4294967296) = U (n ^^^ wd c) := by
  rw [U_wd, U_xor]
theorem take_snoc (s : ByteArray) (k : Nat) (h : k < s.size) : s.data.toList.take (k + 1) = s.data.toList.take k ++ [s[k]] := by
  rw [List.take_succ_eq_append_getElem (by simpa using h)]; rfl
theorem alo_take (n : B32) (s : ByteArray) (k : Nat) (h : k < s.size) : alo n (s.data.toList.take (k + 1)) = thr 1 (alo n (s.data.toList.take k) ^^^ wd s[k]) := by
  rw [take_snoc s k h, alo_snoc]

theorem bit_of (n : B32) (k : Nat) : bits .and .u32 (U n / 2 ^ k) 1 = if n.getLsbD k then 1 else 0 := by
  have e : U n / 2 ^ k = ((n.toNat / 2 ^ k : Nat) : Int) := by
    unfold U; simp
  have hb : n.getLsbD k = decide (n.toNat / 2 ^ k % 2 = 1) := by
    rw [BitVec.getLsbD, Nat.testBit_eq_decide_div_mod_eq]
  have hl : n.toNat / 2 ^ k < 4294967296 := Nat.lt_of_le_of_lt (Nat.div_le_self _ _) n.isLt
  have h1 : bits .and .u32 ((n.toNat / 2 ^ k : Nat) : Int) 1 = ((n.toNat / 2 ^ k &&& 1 : Nat) : Int) := u32_and_nat _ 1 hl (by decide)
  rw [e, h1, and_one, hb]
  by_cases h : n.toNat / 2 ^ k % 2 = 1 <;> simp [h]
theorem bit_mul (n b : B32) (k : Nat) : bits .and .u32 (U n / 2 ^ k) 1 * U b % 4294967296 = U (if n.getLsbD k then b else 0#32) := by
  rw [bit_of]
  have := U_lo b; have := U_hi b
  cases n.getLsbD k
  · simp [U]
  · simp; omega

theorem shl_one (k : Nat) (h : k < 32) : (2 : Int) ^ k % 4294967296 = U (1#32 <<< k) := by
  unfold U
  rw [BitVec.toNat_shiftLeft]
  have hp : 2 ^ k < 2 ^ 32 := Nat.pow_lt_pow_right (by omega) h
  have : (1#32).toNat <<< k = 2 ^ k := by simp [Nat.shiftLeft_eq]
  rw [this, Nat.mod_eq_of_lt hp]
  have e : ((2 : Int) ^ k) = ((2 ^ k : Nat) : Int) := by simp
  have hq : (2 ^ k : Nat) < 4294967296 := hp
  rw [e]; exact Int.emod_eq_of_lt (Int.natCast_nonneg _) (Int.ofNat_lt.2 hq)

theorem odd_i64 (k : Nat) (h : k < 2 ^ 63) : (bits .and .i64 (k : Int) 1 == 1) = decide (k % 2 = 1) := by
  have e : bits .and .i64 (k : Int) ((1 : Nat) : Int) = ((k % 2 : Nat) : Int) := by
    rw [(bits_nat .i64 63 (by decide) (fun n h0 h1 => by rw [IntKind.wrap_i64]; omega) k 1 h (by decide)).1, Nat.and_one_is_mod]
  have e' : bits .and .i64 (k : Int) 1 = ((k % 2 : Nat) : Int) := e
  rw [e']
  by_cases h : k % 2 = 1
  · simp [h]
  · have : k % 2 = 0 := by omega
    simp [this]

theorem U_half (a : B32) : U a / (2 : Int) = U (a >>> 1) := by
  unfold U; rw [BitVec.toNat_ushiftRight, Nat.shiftRight_eq_div_pow]; simp
theorem U_odd (a : B32) : (U a % (2 : Int) == 1) = a.getLsbD 0 := by
  rw [BitVec.getLsbD, Nat.testBit_zero]
  unfold U
  by_cases h : a.toNat % 2 = 1
  · have : (a.toNat : Int) % 2 = 1 := by omega
    simp [h, this]
  · have : (a.toNat : Int) % 2 = 0 := by omega
    simp [h, this]
theorem stp_odd (a : B32) (h : a.getLsbD 0 = true) : bits .xor .u32 (U a / (2 : Int)) 3988292384 = U (stp a) := by
  rw [U_half, show (3988292384 : Int) = U poly from rfl, U_xor]; unfold stp; rw [h]; rfl
theorem stp_even (a : B32) (h : a.getLsbD 0 = false) : U a / (2 : Int) = U (stp a) := by
  rw [U_half]; unfold stp; rw [h]; simp

/-- what stands behind a walk's last equation -/
theorem ret_u32 {a b : Int} (h : a = b) : Ending.returned (.int .u32 a) = .returned (.int .u32 b) := by rw [h]

/-- a linear map, as the 32 words that it makes of the single bits -/
def mtx (f : B32 → B32) : Array Value := (Array.range 32).map fun i => .int .u32 (U (f (1#32 <<< i)))
/-- of which the first k are laid -/
def mtxTo (f : B32 → B32) (k : Nat) : Array Value := (Array.range 32).map fun i => .int .u32 (if i < k then U (f (1#32 <<< i)) else 0)

theorem mtx_size (f : B32 → B32) : (mtx f).size = 32 := by simp [mtx]
theorem mtxTo_size (f : B32 → B32) (k : Nat) : (mtxTo f k).size = 32 := by simp [mtxTo]
theorem mtx_at (f : B32 → B32) (k : Nat) (h : k < 32) : (mtx f)[k]? = some (.int .u32 (U (f (1#32 <<< k)))) := by
  simp [mtx, h]
theorem mtx_at' (f : B32 → B32) (k : Nat) (h : k < 32) : (mtx f)[k]'(by rw [mtx_size]; exact h) = .int .u32 (U (f (1#32 <<< k))) := by
  simp [mtx]
theorem mtxTo_zero (f : B32 → B32) : mtxTo f 0 = Array.replicate 32 (.int .u32 0) := by
  apply Array.ext <;> simp [mtxTo]
theorem mtxTo_full (f : B32 → B32) : mtxTo f 32 = mtx f := by
  apply Array.ext
  · simp [mtx, mtxTo]
  · intro i h1 h2
    have : i < 32 := by simpa [mtxTo] using h1
    simp [mtx, mtxTo, this]
theorem mtxTo_set (f : B32 → B32) (k : Nat) : (mtxTo f k).setIfInBounds k (.int .u32 (U (f (1#32 <<< k)))) = mtxTo f (k + 1) := by
  apply Array.ext
  · simp [mtxTo]
  · intro i h1 h2
    have hi : i < 32 := by simpa [mtxTo] using h2
    rw [Array.getElem_setIfInBounds (by rw [mtxTo_size]; exact hi)]
    by_cases e : k = i
    · subst e; simp [mtxTo]
    · simp only [e, if_false]
      have e2 : (i < k + 1) ↔ i < k := by omega
      simp [mtxTo, e2]
theorem mtx_cells (f : B32 → B32) : (mtx f).all (·.oneCell') = true := by
  rw [Array.all_eq_true]; intro i h; simp [mtx, Value.oneCell']
theorem mtxTo_cells (f : B32 → B32) (k : Nat) : (mtxTo f k).all (·.oneCell') = true := by
  rw [Array.all_eq_true]; intro i h; simp [mtxTo, Value.oneCell']

end Go.Proofs.YtgihpdhkjneimaaGreatDoor.Sm

/- The calls of sum32 and of the document's answer that take steps: what each returns, whatever it is called with. -/
namespace Go.Proofs.YtgihpdhkjneimaaGreatDoor.Sm
open Go.RowKit
open Go.Lib
set_option maxHeartbeats 400000 in
theorem step_any (a : B32) (w : World) :
    Calls Tryz.prog 155 #[.int .u32 (U a)] w fun e w' => e = .returned (.int .u32 (U (stp a))) ∧ w = w' := by
  go_enter Tryz.func155, Tryz.ntmps155
  go_wp2
  go_ret
  exact ⟨ret_u32 (stp_nat a), rfl⟩

set_option maxHeartbeats 400000 in
theorem eight_any (a : B32) (w : World) :
    Calls Tryz.prog 152 #[.int .u32 (U a)] w fun e w' => e = .returned (.int .u32 (U (thr 1 a))) ∧ w = w' := by
  go_enter Tryz.func152, Tryz.ntmps152
  go_wp2_with fail
  go_loop [0, 3] (fun n i => ∃ k : Nat, k ≤ 8 ∧ i = .int .i64 k ∧ n = .int .u32 (U (stps k a))) (fun _ i => 8 - (intOf i).toNat)
  case atStart => exact ⟨0, by omega, rfl, rfl⟩
  case round =>
    obtain ⟨k, hk, rfl, rfl⟩ := hrel
    by_cases hlt : k < 8
    · go_wp2_with (go_at_call 155; refine (step_any _ _).mono ?_; rintro e w' ⟨rfl, rfl⟩)
      go_round
      case rel => exact ⟨k + 1, by omega, by go_num, by rw [stps_succ']⟩
      case measure => simp [intOf]; omega
    · obtain rfl : k = 8 := by omega
      go_wp2
      go_ret
      exact ⟨rfl, rfl⟩

theorem eight_at (x : Int) (a : B32) (w : World) (h : x = U a) :
    Calls Tryz.prog 152 #[.int .u32 x] w fun e w' => e = .returned (.int .u32 (U (thr 1 a))) ∧ w = w' := by
  rw [h]; exact eight_any a w

set_option maxHeartbeats 400000 in
theorem along_any (a : B32) (s : ByteArray) (w : World) (hs : s.size ≤ maxLen) :
    Calls Tryz.prog 143 #[.int .u32 (U a), .string s] w fun e w' => e = .returned (.int .u32 (U (alo a s.data.toList))) ∧ w = w' := by
  unfold maxLen at hs
  go_enter Tryz.func143, Tryz.ntmps143
  go_wp2
  go_loop [0, 8] (fun n i => ∃ k : Nat, k ≤ s.size ∧ i = .int .i64 k ∧ n = .int .u32 (U (alo a (s.data.toList.take k)))) (fun _ i => s.size - (intOf i).toNat)
  case atStart => exact ⟨0, Nat.zero_le _, rfl, rfl⟩
  case round =>
    obtain ⟨k, hk, rfl, rfl⟩ := hrel
    by_cases hlt : k < s.size
    · go_wp2_with (go_at_call 152; refine (eight_at _ _ _ (xor_wd _ _)).mono ?_; rintro e w' ⟨rfl, rfl⟩)
      go_round
      case rel => exact ⟨k + 1, by omega, by go_num, by rw [alo_take a s k hlt]⟩
      case measure => simp [intOf]; omega
    · go_wp2
      go_ret
      exact ⟨ret_u32 (by rw [List.take_of_length_le (by simp; omega)]), rfl⟩

theorem along_at (x : Int) (a : B32) (s : ByteArray) (w : World) (hs : s.size ≤ maxLen) (h : x = U a) :
    Calls Tryz.prog 143 #[.int .u32 x, .string s] w fun e w' => e = .returned (.int .u32 (U (alo a s.data.toList))) ∧ w = w' := by
  rw [h]; exact along_any a s w hs

set_option maxHeartbeats 400000 in
theorem sum_any (s : ByteArray) (w : World) (hs : s.size ≤ maxLen) :
    Calls Tryz.prog 121 #[.string s] w fun e w' => e = .returned (.int .u32 (U (sumB s.data.toList))) ∧ w = w' := by
  go_enter Tryz.func121, Tryz.ntmps121
  go_wp2_with (go_at_call 143; refine (along_at _ full s _ hs U_full).mono ?_; rintro e w' ⟨rfl, rfl⟩)
  go_ret
  exact ⟨ret_u32 (by rw [U_full, U_xor]; rfl), rfl⟩

end Go.Proofs.YtgihpdhkjneimaaGreatDoor.Sm

/- The matrices of sum32: what the steps of a byte make of each bit, what they make of a word, and twice as many steps. -/
namespace Go.Proofs.YtgihpdhkjneimaaGreatDoor.Sm
open Go.RowKit
open Go.Lib
theorem info22 : (Tryz.prog.info? 82).map (·.size) = some 1 := by kernel_rfl
theorem heap_alloc3_new (w : World) (A B C : Obj) : (((w.alloc A).alloc B).alloc C).heap[w.heap.size + 1 + 1]? = some C := by
  have h := heap_alloc_new ((w.alloc A).alloc B) C
  have e : ((w.alloc A).alloc B).heap.size = w.heap.size + 1 + 1 := by simp
  rwa [e] at h
theorem heap_alloc3_mid (w : World) (A B C : Obj) : (((w.alloc A).alloc B).alloc C).heap[w.heap.size + 1]? = some B := by
  rw [Below.heap_alloc ((w.alloc A).alloc B) C (w.heap.size + 1) (by simp)]; exact heap_alloc2_new w A B
theorem heap_alloc3_old (w : World) (A B C : Obj) : (((w.alloc A).alloc B).alloc C).heap[w.heap.size]? = some A := by
  rw [Below.heap_alloc ((w.alloc A).alloc B) C w.heap.size (by simp; omega)]; exact heap_alloc2_old w A B

end Go.Proofs.YtgihpdhkjneimaaGreatDoor.Sm

/- The call of sum32 that goes on with so many bytes 0: by squaring it comes to what one byte after the other makes. -/
namespace Go.Proofs.YtgihpdhkjneimaaGreatDoor.Sm
open Go.RowKit
open Go.Lib

theorem wpList_store_whole {P : Program} {ops : Array Oper} {rest : List Oper} {o : Oper} {a : Act} {w : World} {Q : Exit → Act → World → Prop} (hgd : o.guard = none) (ty : TypeId) (x y : Operand) (ho : o.op = .store ty x y) (hd : o.dst = none)
    (g : Nat) (cells : Array Value) (hx : a.eval x = .pointer (some ⟨g, 0, none⟩)) (hy : a.eval y = .agg cells)
    (t : TypeId) (old : Array Value) (hg : w.heap[g]? = some (.cells old t (0, 0))) (hi : (P.info? ty).map (·.size) = some cells.size)
    (hold : old.size = cells.size) (h1 : cells.all (·.oneCell') = true)
    (h : wpList P ops Q rest a (w.setRow g cells)) : wpList P ops Q (o :: rest) a w :=
  wpList_store_row hgd ty x y ho g cells hx hy t old hg hi hold h1 (by rw [hd]; exact h)

theorem thr_half_odd (pw k : Nat) (b : B32) (h : k % 2 = 1) : thr (2 * pw * (k / 2)) (thr pw b) = thr (pw * k) b := by
  rw [← thr_add]
  congr 1
  have : k = 2 * (k / 2) + 1 := by omega
  rw [show pw * k = pw * (2 * (k / 2) + 1) by rw [← this], Nat.mul_add, Nat.mul_one, ← Nat.mul_assoc, Nat.mul_comm pw 2]
  omega
theorem thr_half_even (pw k : Nat) (b : B32) (h : ¬ k % 2 = 1) : thr (2 * pw * (k / 2)) b = thr (pw * k) b := by
  congr 1
  have : k = 2 * (k / 2) := by omega
  rw [show pw * k = pw * (2 * (k / 2)) by rw [← this], ← Nat.mul_assoc, Nat.mul_comm pw 2]

end Go.Proofs.YtgihpdhkjneimaaGreatDoor.Sm

/- The document's answer for sums, as the reference package computes it: what each of its calls returns. -/
namespace Go.Proofs.YtgihpdhkjneimaaGreatDoor.Sm
open Go.RowKit
open Go.Lib
set_option maxHeartbeats 400000 in
theorem on_aux (a b : B32) (c : UInt8) (w : World) (hx : bits .xor .u32 (U a) ((c.toNat : Int) % 4294967296) = U b) :
    Calls Tryz.prog 136 #[.int .u32 (U a), .int .u8 (c.toNat : Int)] w fun e w' => e = .returned (.int .u32 (U (thr 1 b))) ∧ w = w' := by
  go_enter Tryz.func136, Tryz.ntmps136
  go_wp2_with fail
  clear hx
  go_loop [0, 5, 6] (fun n i _ => ∃ k : Nat, k ≤ 8 ∧ i = .int .i64 k ∧ n = .int .u32 (U (stps k b))) (fun _ i _ => 8 - (intOf i).toNat)
  case atStart => exact ⟨0, by omega, rfl, rfl⟩
  case round =>
    obtain ⟨k, hk, rfl, rfl⟩ := hrel
    by_cases hlt : k < 8
    · have hq := U_odd (stps k b)
      have hlo := U_lo (stps k b)
      have hhi := U_hi (stps k b)
      generalize hv : U (stps k b) = v at *
      have HV := hid hv; clear hv
      cases hb : (stps k b).getLsbD 0
      · rw [hb] at hq
        have H := hid hb; clear hb
        go_wp2_with fail
        go_round
        case rel => exact ⟨k + 1, by omega, by go_num, by rw [← HV.out, stps_succ', stp_even _ H.out]⟩
        case measure => simp [intOf]; omega
      · rw [hb] at hq
        have H := hid hb; clear hb
        go_wp2_with fail
        go_round
        case rel => exact ⟨k + 1, by omega, by go_num, by rw [← HV.out, stps_succ', stp_odd _ H.out]⟩
        case measure => simp [intOf]; omega
    · obtain rfl : k = 8 := by omega
      go_wp2
      go_ret
      exact ⟨rfl, rfl⟩
theorem on_at (x y : Int) (a : B32) (c : UInt8) (w : World) (h : x = U a) (hc : y = (c.toNat : Int)) :
    Calls Tryz.prog 136 #[.int .u32 x, .int .u8 y] w fun e w' => e = .returned (.int .u32 (U (thr 1 (a ^^^ wd c)))) ∧ w = w' := by
  rw [h, hc]; exact on_aux a _ c w (xor_wd a c)

theorem thr_more (k : Nat) (a : B32) : thr 1 (thr k a ^^^ wd 0) = thr (k + 1) a := by
  rw [wd_zero, thr_succ k a]; simp

set_option maxHeartbeats 400000 in
theorem refSum_any (s : ByteArray) (w : World) (hs : s.size ≤ maxLen) :
    Calls Tryz.prog 108 #[.string s] w fun e w' => e = .returned (.int .u32 (U (sumB s.data.toList))) ∧ w = w' := by
  unfold maxLen at hs
  go_enter Tryz.func108, Tryz.ntmps108
  go_wp2_with fail
  go_loop [3, 4] (fun n i => ∃ k : Nat, k ≤ s.size ∧ i = .int .i64 k ∧ n = .int .u32 (U (alo full (s.data.toList.take k)))) (fun _ i => s.size - (intOf i).toNat)
  case atStart => exact ⟨0, by omega, rfl, rfl⟩
  case round =>
    obtain ⟨k, hk, rfl, rfl⟩ := hrel
    by_cases hlt : k < s.size
    · go_wp2_with (go_at_call 136; refine (on_at _ _ _ s[k] _ rfl rfl).mono ?_; rintro e w' ⟨rfl, rfl⟩)
      go_round
      case rel => exact ⟨k + 1, by omega, by go_num, by rw [alo_take full s k hlt]⟩
      case measure => simp [intOf]; omega
    · go_wp2
      go_ret
      exact ⟨ret_u32 (by rw [List.take_of_length_le (by simp; omega), U_full, U_xor]; rfl), rfl⟩

end Go.Proofs.YtgihpdhkjneimaaGreatDoor.Sm
