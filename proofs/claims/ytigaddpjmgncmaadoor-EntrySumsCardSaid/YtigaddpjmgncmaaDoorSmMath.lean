/- Plain facts on 32-bit words for the sums of bytes: the step of a sum is linear and loses nothing; no program is imported. -/
namespace Go.Proofs.YtigaddpjmgncmaaDoor.Sm

abbrev B32 := BitVec 32

def poly : B32 := 0xedb88320#32

/-- one step of a sum -/
def stp (n : B32) : B32 := (n >>> 1) ^^^ (if n.getLsbD 0 then poly else 0#32)

theorem stp_xor (a b : B32) : stp (a ^^^ b) = stp a ^^^ stp b := by
  have h : (a ^^^ b).getLsbD 0 = (a.getLsbD 0 ^^ b.getLsbD 0) := by simp
  have hs : (a ^^^ b) >>> 1 = a >>> 1 ^^^ b >>> 1 := by
    ext i hi; simp
  unfold stp; rw [h, hs]
  cases a.getLsbD 0 <;> cases b.getLsbD 0 <;> simp
  · ac_rfl
  · ac_rfl
  · rw [show a >>> 1 ^^^ poly ^^^ (b >>> 1 ^^^ poly) = a >>> 1 ^^^ b >>> 1 ^^^ (poly ^^^ poly) by ac_rfl]; simp

theorem stp_zero : stp 0#32 = 0#32 := by decide

theorem stp_eq_zero (n : B32) (h : stp n = 0#32) : n = 0#32 := by
  unfold stp at h
  cases hb : n.getLsbD 0
  · rw [hb] at h
    simp at h
    ext i hi
    rcases i with _ | i
    · simpa using hb
    · have := congrArg (fun x : B32 => x.getLsbD i) h
      simp at this
      rw [Nat.add_comm] at this
      rw [← BitVec.getLsbD_eq_getElem]; simpa using this
  · rw [hb] at h
    have := congrArg (fun x : B32 => x.getLsbD 31) h
    simp [poly] at this

def stps : Nat → B32 → B32
  | 0, n => n
  | k + 1, n => stps k (stp n)

theorem stps_xor (k : Nat) : ∀ a b : B32, stps k (a ^^^ b) = stps k a ^^^ stps k b := by
  induction k with
  | zero => intro a b; rfl
  | succ k ih => intro a b; simp only [stps, stp_xor, ih]

theorem stps_zero (k : Nat) : stps k 0#32 = 0#32 := by
  induction k with
  | zero => rfl
  | succ k ih => simp only [stps, stp_zero, ih]

theorem stps_add (j k : Nat) : ∀ n, stps (j + k) n = stps k (stps j n) := by
  induction j with
  | zero => intro n; simp [stps]
  | succ j ih => intro n; rw [show j + 1 + k = (j + k) + 1 by omega]; simp only [stps, ih]

theorem stps_eq_zero (k : Nat) : ∀ n, stps k n = 0#32 → n = 0#32 := by
  induction k with
  | zero => intro n h; exact h
  | succ k ih => intro n h; exact stp_eq_zero n (ih _ h)

theorem stps_succ' (k : Nat) (n : B32) : stps (k + 1) n = stp (stps k n) := by
  rw [stps_add k 1 n]; rfl

theorem xor_eq_zero {a b : B32} (h : a ^^^ b = 0#32) : a = b := by
  have := congrArg (· ^^^ b) h
  simpa [BitVec.xor_assoc] using this

theorem stps_inj (k : Nat) {a b : B32} (h : stps k a = stps k b) : a = b := by
  apply xor_eq_zero; apply stps_eq_zero k; rw [stps_xor, h]; simp

/-- a number gone on with so many bytes 0 -/
def thr (k : Nat) (n : B32) : B32 := stps (8 * k) n

theorem thr_xor (k : Nat) (a b : B32) : thr k (a ^^^ b) = thr k a ^^^ thr k b := stps_xor _ _ _
theorem thr_zero (k : Nat) : thr k 0#32 = 0#32 := stps_zero _
theorem thr_none (n : B32) : thr 0 n = n := rfl
theorem thr_add (j k : Nat) (n : B32) : thr (j + k) n = thr k (thr j n) := by
  unfold thr; rw [show 8 * (j + k) = 8 * j + 8 * k by omega, stps_add]
theorem thr_succ (k : Nat) (n : B32) : thr (k + 1) n = thr 1 (thr k n) := thr_add k 1 n
theorem thr_succ' (k : Nat) (n : B32) : thr (k + 1) n = thr k (thr 1 n) := by rw [Nat.add_comm]; exact thr_add 1 k n
theorem thr_eq_zero (k : Nat) (n : B32) (h : thr k n = 0#32) : n = 0#32 := stps_eq_zero _ _ h
theorem thr_inj (k : Nat) {a b : B32} (h : thr k a = thr k b) : a = b := stps_inj _ h

/-- a byte as a word -/
def wd (c : UInt8) : B32 := BitVec.ofNat 32 c.toNat

/-- a number gone on with each byte of a text -/
def alo (n : B32) (l : List UInt8) : B32 := l.foldl (fun n c => thr 1 (n ^^^ wd c)) n

theorem alo_nil (n : B32) : alo n [] = n := rfl
theorem alo_cons (n : B32) (c : UInt8) (l : List UInt8) : alo n (c :: l) = alo (thr 1 (n ^^^ wd c)) l := rfl
theorem alo_append (n : B32) (l m : List UInt8) : alo n (l ++ m) = alo (alo n l) m := by
  unfold alo; rw [List.foldl_append]
theorem alo_snoc (n : B32) (l : List UInt8) (c : UInt8) : alo n (l ++ [c]) = thr 1 (alo n l ^^^ wd c) := by
  rw [alo_append]; rfl

theorem alo_xor (l : List UInt8) : ∀ a b : B32, alo (a ^^^ b) l = alo a l ^^^ thr l.length b := by
  induction l with
  | nil => intro a b; rfl
  | cons c l ih =>
    intro a b
    rw [alo_cons, alo_cons, show a ^^^ b ^^^ wd c = (a ^^^ wd c) ^^^ b by ac_rfl, thr_xor, ih, List.length_cons, thr_succ' l.length b]

theorem alo_split (n : B32) (l : List UInt8) : alo n l = alo 0#32 l ^^^ thr l.length n := by
  have := alo_xor l 0#32 n
  simpa using this

theorem wd_zero : wd 0 = 0#32 := rfl

theorem alo_zeros (k : Nat) : ∀ n : B32, alo n (List.replicate k 0) = thr k n := by
  induction k with
  | zero => intro n; rfl
  | succ k ih => intro n; rw [List.replicate_succ, alo_cons, ih, wd_zero, thr_succ' k n]; simp

theorem wd_xor (a b : UInt8) : wd (a ^^^ b) = wd a ^^^ wd b := by
  unfold wd
  apply BitVec.eq_of_toNat_eq
  have ha := a.toNat_lt; have hb := b.toNat_lt
  have hx : a.toNat ^^^ b.toNat < 2 ^ 32 := Nat.xor_lt_two_pow (by omega) (by omega)
  simp [UInt8.toNat_xor]

/-- turning one byte of a text -/
theorem alo_set (l : List UInt8) : ∀ (n : B32) (q : Nat) (v : UInt8) (h : q < l.length),
    alo n (l.set q (l[q] ^^^ v)) = alo n l ^^^ thr (l.length - q) (wd v) := by
  induction l with
  | nil => intro n q v h; simp at h
  | cons c l ih =>
    intro n q v h
    rcases q with _ | q
    · simp only [List.set_cons_zero, List.getElem_cons_zero, alo_cons, List.length_cons, Nat.sub_zero]
      rw [wd_xor, ← BitVec.xor_assoc, thr_xor, alo_xor, thr_succ' l.length]
    · simp only [List.set_cons_succ, List.getElem_cons_succ, alo_cons, List.length_cons]
      rw [ih _ q v (by simpa using h)]
      rw [show l.length + 1 - (q + 1) = l.length - q by omega]

def full : B32 := 0xffffffff#32

def sumB (l : List UInt8) : B32 := alo full l ^^^ full
def joinB (a b : B32) (k : Nat) : B32 := thr k a ^^^ b
def zerosB (a : B32) (k : Nat) : B32 := thr k (a ^^^ full) ^^^ full
def turnedB (a : B32) (by' : List UInt8) (behind : Nat) : B32 := a ^^^ thr behind (alo 0#32 by')

theorem join_sum (l m : List UInt8) : joinB (sumB l) (sumB m) m.length = sumB (l ++ m) := by
  unfold joinB sumB
  rw [alo_append, alo_split (alo full l) m, alo_split full m, thr_xor]
  rw [show thr m.length (alo full l) ^^^ thr m.length full ^^^ (alo 0#32 m ^^^ thr m.length full ^^^ full) = alo 0#32 m ^^^ thr m.length (alo full l) ^^^ full ^^^ (thr m.length full ^^^ thr m.length full) by ac_rfl]
  simp

theorem join_assoc (a b c : B32) (j k : Nat) : joinB a (joinB b c k) (j + k) = joinB (joinB a b j) c k := by
  unfold joinB; rw [thr_add, thr_xor]; ac_rfl

theorem zeros_zeros (a : B32) (j k : Nat) : zerosB (zerosB a j) k = zerosB a (j + k) := by
  unfold zerosB; rw [thr_add]; simp [BitVec.xor_assoc]

theorem zeros_none (a : B32) : zerosB a 0 = a := by unfold zerosB; rw [thr_none]; simp [BitVec.xor_assoc]
theorem join_none (a : B32) : joinB a 0#32 0 = a := by unfold joinB; rw [thr_none]; simp

theorem turned_twice (a : B32) (t : List UInt8) (k : Nat) : turnedB (turnedB a t k) t k = a := by
  unfold turnedB; simp [BitVec.xor_assoc]

theorem turned_eq (a b : B32) (t : List UInt8) (k : Nat) : turnedB a t k = turnedB b t k ↔ a = b := by
  unfold turnedB
  constructor
  · intro h
    have := congrArg (· ^^^ thr k (alo 0#32 t)) h
    simpa [BitVec.xor_assoc] using this
  · intro h; rw [h]

theorem turned_diff (a b : B32) (t : List UInt8) (k : Nat) : turnedB a t k ^^^ a = turnedB b t k ^^^ b := by
  unfold turnedB
  rw [show a ^^^ thr k (alo 0#32 t) ^^^ a = thr k (alo 0#32 t) ^^^ (a ^^^ a) by ac_rfl, show b ^^^ thr k (alo 0#32 t) ^^^ b = thr k (alo 0#32 t) ^^^ (b ^^^ b) by ac_rfl]
  simp

theorem turned_none (a : B32) (j k : Nat) : turnedB a (List.replicate j 0) k = a := by
  unfold turnedB; rw [alo_zeros, thr_zero, thr_zero]; simp

/-- a word's lowest bits -/
def low (n : B32) (k : Nat) : B32 := BitVec.ofNat 32 (n.toNat % 2 ^ k)

theorem low_bit (n : B32) (k i : Nat) : (low n k).getLsbD i = (decide (i < k) && n.getLsbD i) := by
  unfold low
  rw [BitVec.getLsbD_ofNat, Nat.testBit_mod_two_pow]
  by_cases h : i < 32
  · simp [h, BitVec.getLsbD]
  · simp [h, BitVec.getLsbD_of_ge n i (by omega)]
theorem low_none (n : B32) : low n 0 = 0#32 := by
  apply BitVec.eq_of_getLsbD_eq; intro i _; rw [low_bit]; simp
theorem low_all (n : B32) : low n 32 = n := by
  apply BitVec.eq_of_getLsbD_eq; intro i h; rw [low_bit]; simp [h]
theorem one_bit (k i : Nat) (hk : k < 32) : (1#32 <<< k).getLsbD i = decide (i = k) := by
  rw [BitVec.getLsbD_shiftLeft]
  by_cases h : i < 32
  · by_cases e : i = k
    · subst e; simp [h]
    · by_cases g : i < k
      · simp [h, g, e]
      · have : ¬ (i - k = 0) := by omega
        simp [h, g, e, this]
  · have : i ≠ k := by omega
    simp [h, this]
theorem low_more (n : B32) (k : Nat) (hk : k < 32) : low n (k + 1) = low n k ^^^ (if n.getLsbD k then 1#32 <<< k else 0#32) := by
  apply BitVec.eq_of_getLsbD_eq; intro i hi
  rw [BitVec.getLsbD_xor, low_bit, low_bit]
  cases hb : n.getLsbD k
  · by_cases e : i = k
    · subst e; simp [hb]
    · have : (i < k + 1) ↔ i < k := by omega
      simp [this]
  · simp only [if_true]
    rw [one_bit k i hk]
    by_cases e : i = k
    · subst e; simp [hb]
    · have : (i < k + 1) ↔ i < k := by omega
      simp [this, e]

/-- it is put together of what it makes of parts -/
def Lin (f : B32 → B32) : Prop := ∀ a b, f (a ^^^ b) = f a ^^^ f b
theorem Lin.zero {f : B32 → B32} (h : Lin f) : f 0#32 = 0#32 := by
  have := h 0#32 0#32
  simpa using this
theorem lin_low {f : B32 → B32} (h : Lin f) (n : B32) (k : Nat) (hk : k < 32) :
    f (low n (k + 1)) = f (low n k) ^^^ (if n.getLsbD k then f (1#32 <<< k) else 0#32) := by
  rw [low_more n k hk, h]
  cases n.getLsbD k
  · simp [h.zero]
  · simp
theorem lin_thr (k : Nat) : Lin (thr k) := fun a b => thr_xor k a b

end Go.Proofs.YtigaddpjmgncmaaDoor.Sm
