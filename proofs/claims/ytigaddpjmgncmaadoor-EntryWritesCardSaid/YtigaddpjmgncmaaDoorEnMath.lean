/- An entry's bytes: plain. -/
import Derived.Test.YtigaddpjmgncmaaDoorEnCheck
import Derived.Test.YtigaddpjmgncmaaDoorPgMath
namespace Go.Proofs.YtigaddpjmgncmaaDoor.En
open Go.RowKit
open Go.Lib (hid)
open Go.Proofs.YtigaddpjmgncmaaDoor.Fd (be be_length num getAt putAt num_be putAt_length)
open Go.Proofs.YtigaddpjmgncmaaDoor.Pg (zs zs_length zs_drop be_num getAt_app)

/-- the bytes that all kinds have -/
def headE (kd tx ix : Nat) : List UInt8 := be 1 kd ++ (be 4 tx ++ be 2 ix)
/-- the bytes of an entry -/
def encE (kd tx ix pk pn : Nat) (b : List UInt8) (ct sm : Nat) : List UInt8 :=
  headE kd tx ix ++ (if kd = 1 then be 1 pk ++ (be 2 pn ++ b) else if kd = 2 then be 2 ct ++ be 4 sm else [])
theorem headE_length (kd tx ix : Nat) : (headE kd tx ix).length = 7 := by simp [headE, be_length]
/-- how many bytes an entry of a kind has, ahead of a body -/
def leastN (kd : Nat) : Nat := if kd = 1 then 10 else if kd = 2 then 13 else if kd = 3 then 7 else 0
theorem encE_length (kd tx ix pk pn : Nat) (b : List UInt8) (ct sm : Nat) (h : kd = 1 ∨ kd = 2 ∨ kd = 3) (hb : kd ≠ 1 → b = []) : (encE kd tx ix pk pn b ct sm).length = leastN kd + b.length := by
  unfold encE leastN
  rw [List.length_append, headE_length]
  rcases h with rfl | rfl | rfl
  · simp [be_length]; omega
  · rw [hb (by decide)]; simp [be_length]
  · rw [hb (by decide)]; simp
theorem put_app (A : List UInt8) (n o w : Nat) (x : Nat) (ho : A.length = o) : putAt (A ++ zs n) o (be w x) = (A ++ be w x) ++ zs (n - w) := by
  unfold putAt
  rw [be_length, ← ho, List.take_left, List.drop_append, zs_drop]
  simp [List.drop_eq_nil_of_le]
theorem put_text (A : List UInt8) (o : Nat) (b : List UInt8) (ho : A.length = o) : putAt (A ++ zs b.length) o b = A ++ b := by
  unfold putAt
  rw [← ho, List.take_left, List.drop_append, zs_drop]
  simp [List.drop_eq_nil_of_le, zs]
theorem put0 (n w x : Nat) : putAt (zs n) 0 (be w x) = be w x ++ zs (n - w) := by
  have := put_app [] n 0 w x rfl
  simpa using this
/-- what is laid, one behind the other -/
theorem puts_head (n kd tx ix : Nat) : putAt (putAt (putAt (zs n) 0 (be 1 kd)) 1 (be 4 tx)) 5 (be 2 ix) = headE kd tx ix ++ zs (n - 7) := by
  rw [put0 n 1 kd, put_app _ _ 1 4 tx (by simp [be_length]), put_app _ _ 5 2 ix (by simp [be_length])]
  unfold headE
  rw [show n - 1 - 4 - 2 = n - 7 by omega]
  simp
theorem puts_stage (tx ix pk pn : Nat) (b : List UInt8) (ct sm : Nat) : putAt (putAt (putAt (headE 1 tx ix ++ zs (10 + b.length - 7)) 7 (be 1 pk)) 8 (be 2 pn)) 10 b = encE 1 tx ix pk pn b ct sm := by
  rw [put_app _ _ 7 1 pk (headE_length _ _ _), put_app _ _ 8 2 pn (by rw [List.length_append, headE_length, be_length]),
    show 10 + b.length - 7 - 1 - 2 = b.length by omega, put_text _ 10 b (by rw [List.length_append, List.length_append, headE_length, be_length, be_length])]
  unfold encE
  rw [if_pos rfl]; simp
theorem puts_commit (tx ix pk pn : Nat) (b : List UInt8) (ct sm : Nat) : putAt (putAt (headE 2 tx ix ++ zs (13 - 7)) 7 (be 2 ct)) 9 (be 4 sm) = encE 2 tx ix pk pn b ct sm := by
  rw [put_app _ _ 7 2 ct (headE_length _ _ _), put_app _ _ 9 4 sm (by rw [List.length_append, headE_length, be_length])]
  unfold encE
  rw [if_neg (by decide), if_pos rfl, show 13 - 7 - 2 - 4 = 0 by omega]
  simp [zs]
theorem puts_abort (tx ix pk pn : Nat) (b : List UInt8) (ct sm : Nat) : headE 3 tx ix ++ zs (7 - 7) = encE 3 tx ix pk pn b ct sm := by
  unfold encE
  rw [if_neg (by decide), if_neg (by decide)]
  simp [zs]
/-- what a text reads as -/
structure EntN where
  kd : Nat
  tx : Nat
  ix : Nat
  pk : Nat
  pn : Nat
  b : List UInt8
  ct : Nat
  sm : Nat
def readE (l : List UInt8) : EntN :=
  let kd := num (getAt l 0 1)
  ⟨kd, num (getAt l 1 4), num (getAt l 5 2), if kd = 1 then num (getAt l 7 1) else 0, if kd = 1 then num (getAt l 8 2) else 0, if kd = 1 then l.drop 10 else [], if kd = 2 then num (getAt l 7 2) else 0, if kd = 2 then num (getAt l 9 4) else 0⟩
def EntN.enc (e : EntN) : List UInt8 := encE e.kd e.tx e.ix e.pk e.pn e.b e.ct e.sm
end Go.Proofs.YtigaddpjmgncmaaDoor.En
