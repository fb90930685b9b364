/- Merged out of EnCheck, EnMath, EnCut, EnEnc, EnAny, EnWide. -/
import Derived.Test.YtaonifdfhlbaiaaGreatDoorS07
import Derived.Test.YtaonifdfhlbaiaaGreatDoorS02
import Derived.Deep.RegionHeld3
/- Check of entry: what it answers, whatever it is asked. -/
namespace Go.Proofs.YtaonifdfhlbaiaaGreatDoor.En
open Go.RowKit
open Go.Lib (hid)
theorem rest_any (kd tx ix pk pn ct sm : Int) (b : ByteArray) (w : World) (r : Bool) (h : r = true ↔ restP kd ix pk pn b ct sm) :
    Calls Tryz.prog 78 #[.agg #[.int .i64 kd, .int .i64 tx, .int .i64 ix, .int .i64 pk, .int .i64 pn, .string b, .int .i64 ct, .int .u32 sm]] w fun e w' => e = .returned (.bool r) ∧ Below w.heap.size w w' := by
  have rF : ¬ restP kd ix pk pn b ct sm → r = false := fun hn => by
    cases r with
    | true => exact absurd (h.1 rfl) hn
    | false => rfl
  have rT : restP kd ix pk pn b ct sm → r = true := h.2
  clear h
  unfold restP at rF rT
  by_cases h1 : kd = 1
  · subst h1
    by_cases hm : mayS pk pn b
    · by_cases hc : ct = 0
      · by_cases hs : sm = 0
        · rw [rT (Or.inl ⟨rfl, hm, hc, hs⟩)]; subst hc hs; exact rest1_yes tx ix pk pn b w hm
        · rw [rF (by rintro (⟨_, _, _, h⟩ | ⟨h, _⟩ | ⟨h, _⟩) <;> omega)]; exact rest1_sm tx ix pk pn ct sm b w hm hs
      · rw [rF (by rintro (⟨_, _, h, _⟩ | ⟨h, _⟩ | ⟨h, _⟩) <;> omega)]; exact rest1_ct tx ix pk pn ct sm b w hm hc
    · rw [rF (by rintro (⟨_, h, _⟩ | ⟨h, _⟩ | ⟨h, _⟩) <;> first | exact hm h | omega)]; exact rest1_st tx ix pk pn ct sm b w hm
  · by_cases h2 : kd = 2
    · subst h2
      by_cases hc : 1 ≤ ct
      · by_cases hi : ct = ix
        · cases hp : noP pk pn b with
          | true => rw [rT (Or.inr (Or.inl ⟨rfl, hc, hi, hp⟩))]; exact rest2_pg tx ix pk pn ct sm b w hc hi true hp
          | false => rw [rF (by rintro (⟨h, _⟩ | ⟨_, _, _, h⟩ | ⟨h, _⟩) <;> first | omega | (rw [hp] at h; cases h))]; exact rest2_pg tx ix pk pn ct sm b w hc hi false hp
        · rw [rF (by rintro (⟨h, _⟩ | ⟨_, _, h, _⟩ | ⟨h, _⟩) <;> omega)]; exact rest2_ix tx ix pk pn ct sm b w hc hi
      · rw [rF (by rintro (⟨h, _⟩ | ⟨_, h, _⟩ | ⟨h, _⟩) <;> omega)]; exact rest2_lo tx ix pk pn ct sm b w hc
    · by_cases h3 : kd = 3
      · subst h3
        cases hp : noP pk pn b with
        | true =>
          by_cases hc : ct = 0
          · by_cases hs : sm = 0
            · rw [rT (Or.inr (Or.inr ⟨rfl, hp, hc, hs⟩))]; exact rest3_yes tx ix pk pn ct sm b w hp hc hs
            · rw [rF (by rintro (⟨h, _⟩ | ⟨h, _⟩ | ⟨_, _, _, h⟩) <;> omega)]; exact rest3_sm tx ix pk pn ct sm b w hp hc hs
          · rw [rF (by rintro (⟨h, _⟩ | ⟨h, _⟩ | ⟨_, _, h, _⟩) <;> omega)]; exact rest3_ct tx ix pk pn ct sm b w hp hc
        | false => rw [rF (by rintro (⟨h, _⟩ | ⟨h, _⟩ | ⟨_, h, _⟩) <;> first | omega | (rw [hp] at h; cases h))]; exact rest3_np tx ix pk pn ct sm b w hp
      · rw [rF (by rintro (⟨h, _⟩ | ⟨h, _⟩ | ⟨h, _⟩) <;> omega)]; exact rest_kd kd tx ix pk pn ct sm b w h1 h2 h3
/-- may such an entry be? -/
def mayE (kd tx ix pk pn : Int) (b : ByteArray) (ct sm : Int) : Prop := 1 ≤ tx ∧ tx ≤ 4294967295 ∧ 0 ≤ ix ∧ ix ≤ 999 ∧ restP kd ix pk pn b ct sm
set_option maxHeartbeats 1000000 in
theorem check_rest (kd tx ix pk pn ct sm : Int) (b : ByteArray) (w : World) (h1 : 1 ≤ tx) (h2 : tx ≤ 4294967295) (h3 : 0 ≤ ix) (h4 : ix ≤ 999) (hr : restP kd ix pk pn b ct sm) :
    Calls Tryz.prog 55 #[.agg #[.int .i64 kd, .int .i64 tx, .int .i64 ix, .int .i64 pk, .int .i64 pn, .string b, .int .i64 ct, .int .u32 sm]] w fun e w' => e = .returned (.int .i64 0) ∧ Below w.heap.size w w' := by
  have H := hid (show true = true ↔ restP kd ix pk pn b ct sm from ⟨fun _ => hr, fun _ => rfl⟩); clear hr
  obtain ⟨t, rfl⟩ : ∃ t : Nat, tx = (t : Int) := ⟨tx.toNat, by omega⟩
  have e1 : decide ((t : Int) < 1) = false := by simp; omega
  have e2 : IntKind.u64.wrap (t : Int) = (t : Int) := by unfold IntKind.wrap; simp [IntKind.signed, IntKind.bits]; omega
  have e3 : decide (ix < 0) = false := by simp; omega
  have e4 : decide (999 < ix) = false := by simp; omega
  go_enter Tryz.func55, Tryz.ntmps55
  go_wp2_with (go_at_call 78; refine (rest_any kd t ix pk pn ct sm b _ true H.out).mono ?_; rintro e w' ⟨rfl, hb⟩; have HB := hid hb; clear hb)
  go_ret
  exact ⟨rfl, ((Below.refl _ _).alloc (Nat.le_refl _) _).trans (HB.out.mono (by simp))⟩
set_option maxHeartbeats 1000000 in
theorem check_lo (kd tx ix pk pn ct sm : Int) (b : ByteArray) (w : World) (h1 : tx < 1) :
    Calls Tryz.prog 55 #[.agg #[.int .i64 kd, .int .i64 tx, .int .i64 ix, .int .i64 pk, .int .i64 pn, .string b, .int .i64 ct, .int .u32 sm]] w fun e w' => e = .returned (.int .i64 1) ∧ Below w.heap.size w w' := by
  go_enter Tryz.func55, Tryz.ntmps55
  go_wp2_with fail
  go_ret
  exact ⟨rfl, (Below.refl _ _).alloc (Nat.le_refl _) _⟩
set_option maxHeartbeats 1000000 in
theorem check_hi (kd tx ix pk pn ct sm : Int) (b : ByteArray) (w : World) (h1 : 4294967295 < tx) (h2 : tx ≤ 9223372036854775807) :
    Calls Tryz.prog 55 #[.agg #[.int .i64 kd, .int .i64 tx, .int .i64 ix, .int .i64 pk, .int .i64 pn, .string b, .int .i64 ct, .int .u32 sm]] w fun e w' => e = .returned (.int .i64 1) ∧ Below w.heap.size w w' := by
  obtain ⟨t, rfl⟩ : ∃ t : Nat, tx = (t : Int) := ⟨tx.toNat, by omega⟩
  have e1 : decide ((t : Int) < 1) = false := by simp; omega
  have e2 : IntKind.u64.wrap (t : Int) = (t : Int) := by unfold IntKind.wrap; simp [IntKind.signed, IntKind.bits]; omega
  have e3 : decide ((4294967295 : Int) < (t : Int)) = true := by simp; omega
  have e4 : decide (4294967295 < t) = true := by simp; omega
  go_enter Tryz.func55, Tryz.ntmps55
  go_wp2_with fail
  go_ret
  exact ⟨rfl, (Below.refl _ _).alloc (Nat.le_refl _) _⟩
set_option maxHeartbeats 1000000 in
theorem check_il (kd tx ix pk pn ct sm : Int) (b : ByteArray) (w : World) (h1 : 1 ≤ tx) (h2 : tx ≤ 4294967295) (h3 : ix < 0) :
    Calls Tryz.prog 55 #[.agg #[.int .i64 kd, .int .i64 tx, .int .i64 ix, .int .i64 pk, .int .i64 pn, .string b, .int .i64 ct, .int .u32 sm]] w fun e w' => e = .returned (.int .i64 1) ∧ Below w.heap.size w w' := by
  obtain ⟨t, rfl⟩ : ∃ t : Nat, tx = (t : Int) := ⟨tx.toNat, by omega⟩
  have e1 : decide ((t : Int) < 1) = false := by simp; omega
  have e2 : IntKind.u64.wrap (t : Int) = (t : Int) := by unfold IntKind.wrap; simp [IntKind.signed, IntKind.bits]; omega
  have e3 : decide (ix < 0) = true := by simpa using h3
  go_enter Tryz.func55, Tryz.ntmps55
  go_wp2_with fail
  go_ret
  exact ⟨rfl, (Below.refl _ _).alloc (Nat.le_refl _) _⟩
set_option maxHeartbeats 1000000 in
theorem check_ih (kd tx ix pk pn ct sm : Int) (b : ByteArray) (w : World) (h1 : 1 ≤ tx) (h2 : tx ≤ 4294967295) (h3 : 999 < ix) :
    Calls Tryz.prog 55 #[.agg #[.int .i64 kd, .int .i64 tx, .int .i64 ix, .int .i64 pk, .int .i64 pn, .string b, .int .i64 ct, .int .u32 sm]] w fun e w' => e = .returned (.int .i64 1) ∧ Below w.heap.size w w' := by
  obtain ⟨t, rfl⟩ : ∃ t : Nat, tx = (t : Int) := ⟨tx.toNat, by omega⟩
  have e1 : decide ((t : Int) < 1) = false := by simp; omega
  have e2 : IntKind.u64.wrap (t : Int) = (t : Int) := by unfold IntKind.wrap; simp [IntKind.signed, IntKind.bits]; omega
  have e3 : decide (ix < 0) = false := by simp; omega
  have e4 : decide (999 < ix) = true := by simpa using h3
  go_enter Tryz.func55, Tryz.ntmps55
  go_wp2_with fail
  go_ret
  exact ⟨rfl, (Below.refl _ _).alloc (Nat.le_refl _) _⟩
set_option maxHeartbeats 1000000 in
theorem check_nr (kd tx ix pk pn ct sm : Int) (b : ByteArray) (w : World) (h1 : 1 ≤ tx) (h2 : tx ≤ 4294967295) (h3 : 0 ≤ ix) (h4 : ix ≤ 999) (hr : ¬ restP kd ix pk pn b ct sm) :
    Calls Tryz.prog 55 #[.agg #[.int .i64 kd, .int .i64 tx, .int .i64 ix, .int .i64 pk, .int .i64 pn, .string b, .int .i64 ct, .int .u32 sm]] w fun e w' => e = .returned (.int .i64 1) ∧ Below w.heap.size w w' := by
  have H := hid (show false = true ↔ restP kd ix pk pn b ct sm from ⟨(fun h => nomatch h), (fun h => absurd h hr)⟩); clear hr
  obtain ⟨t, rfl⟩ : ∃ t : Nat, tx = (t : Int) := ⟨tx.toNat, by omega⟩
  have e1 : decide ((t : Int) < 1) = false := by simp; omega
  have e2 : IntKind.u64.wrap (t : Int) = (t : Int) := by unfold IntKind.wrap; simp [IntKind.signed, IntKind.bits]; omega
  have e3 : decide (ix < 0) = false := by simp; omega
  have e4 : decide (999 < ix) = false := by simp; omega
  go_enter Tryz.func55, Tryz.ntmps55
  go_wp2_with (go_at_call 78; refine (rest_any kd t ix pk pn ct sm b _ false H.out).mono ?_; rintro e w' ⟨rfl, hb⟩; have HB := hid hb; clear hb)
  go_ret
  exact ⟨rfl, ((Below.refl _ _).alloc (Nat.le_refl _) _).trans (HB.out.mono (by simp))⟩
theorem check_yes (kd tx ix pk pn ct sm : Int) (b : ByteArray) (w : World) (h : mayE kd tx ix pk pn b ct sm) :
    Calls Tryz.prog 55 #[.agg #[.int .i64 kd, .int .i64 tx, .int .i64 ix, .int .i64 pk, .int .i64 pn, .string b, .int .i64 ct, .int .u32 sm]] w fun e w' => e = .returned (.int .i64 0) ∧ Below w.heap.size w w' :=
  check_rest kd tx ix pk pn ct sm b w h.1 h.2.1 h.2.2.1 h.2.2.2.1 h.2.2.2.2
theorem check_no (kd tx ix pk pn ct sm : Int) (b : ByteArray) (w : World) (hx : tx ≤ 9223372036854775807) (h : ¬ mayE kd tx ix pk pn b ct sm) :
    Calls Tryz.prog 55 #[.agg #[.int .i64 kd, .int .i64 tx, .int .i64 ix, .int .i64 pk, .int .i64 pn, .string b, .int .i64 ct, .int .u32 sm]] w fun e w' => e = .returned (.int .i64 1) ∧ Below w.heap.size w w' := by
  by_cases h1 : 1 ≤ tx
  · by_cases h2 : tx ≤ 4294967295
    · by_cases h3 : 0 ≤ ix
      · by_cases h4 : ix ≤ 999
        · exact check_nr kd tx ix pk pn ct sm b w h1 h2 h3 h4 (fun hr => h ⟨h1, h2, h3, h4, hr⟩)
        · exact check_ih kd tx ix pk pn ct sm b w h1 h2 (by omega)
      · exact check_il kd tx ix pk pn ct sm b w h1 h2 (by omega)
    · exact check_hi kd tx ix pk pn ct sm b w (by omega) hx
  · exact check_lo kd tx ix pk pn ct sm b w (by omega)
end Go.Proofs.YtaonifdfhlbaiaaGreatDoor.En

/- An entry's bytes: plain. -/
namespace Go.Proofs.YtaonifdfhlbaiaaGreatDoor.En
open Go.RowKit
open Go.Lib (hid)
open Go.Proofs.YtaonifdfhlbaiaaGreatDoor.Fd (be be_length num getAt putAt num_be putAt_length)
open Go.Proofs.YtaonifdfhlbaiaaGreatDoor.Pg (zs zs_length zs_drop be_num getAt_app)

/-- the bytes that all kinds have -/
def headE (kd tx ix : Nat) : List UInt8 := be 1 kd ++ (be 4 tx ++ be 2 ix)
/-- the bytes of an entry -/
def encE (kd tx ix pk pn : Nat) (b : List UInt8) (ct sm : Nat) : List UInt8 :=
  headE kd tx ix ++ (if kd = 1 then be 1 pk ++ (be 2 pn ++ b) else if kd = 2 then be 2 ct ++ be 4 sm else [])
theorem headE_length (kd tx ix : Nat) : (headE kd tx ix).length = 7 := by simp [headE, be_length]
/-- how many bytes an entry of a kind has, ahead of a body -/
def leastN (kd : Nat) : Nat := if kd = 1 then 10 else if kd = 2 then 13 else if kd = 3 then 7 else 0
theorem encE_length (kd tx ix pk pn : Nat) (b : List UInt8) (ct sm : Nat) (h : kd = 1 ∨ kd = 2 ∨ kd = 3) (hb : kd ≠ 1 → b = []) : (encE kd tx ix pk pn b ct sm).length = leastN kd + b.length := by
  unfold encE leastN
  rw [List.length_append, headE_length]
  rcases h with rfl | rfl | rfl
  · simp [be_length]; omega
  · rw [hb (by decide)]; simp [be_length]
  · rw [hb (by decide)]; simp
theorem put_app (A : List UInt8) (n o w : Nat) (x : Nat) (ho : A.length = o) : putAt (A ++ zs n) o (be w x) = (A ++ be w x) ++ zs (n - w) := by
  unfold putAt
  rw [be_length, ← ho, List.take_left, List.drop_append, zs_drop]
  simp [List.drop_eq_nil_of_le]
theorem put_text (A : List UInt8) (o : Nat) (b : List UInt8) (ho : A.length = o) : putAt (A ++ zs b.length) o b = A ++ b := by
  unfold putAt
  rw [← ho, List.take_left, List.drop_append, zs_drop]
  simp [List.drop_eq_nil_of_le, zs]
theorem put0 (n w x : Nat) : putAt (zs n) 0 (be w x) = be w x ++ zs (n - w) := by
  have := put_app [] n 0 w x rfl
  simpa using this
/-- what is laid, one behind the other -/
theorem puts_head (n kd tx ix : Nat) : putAt (putAt (putAt (zs n) 0 (be 1 kd)) 1 (be 4 tx)) 5 (be 2 ix) = headE kd tx ix ++ zs (n - 7) := by
  rw [put0 n 1 kd, put_app _ _ 1 4 tx (by simp [be_length]), put_app _ _ 5 2 ix (by simp [be_length])]
  unfold headE
  rw [show n - 1 - 4 - 2 = n - 7 by omega]
  simp
theorem puts_stage (tx ix pk pn : Nat) (b : List UInt8) (ct sm : Nat) : putAt (putAt (putAt (headE 1 tx ix ++ zs (10 + b.length - 7)) 7 (be 1 pk)) 8 (be 2 pn)) 10 b = encE 1 tx ix pk pn b ct sm := by
  rw [put_app _ _ 7 1 pk (headE_length _ _ _), put_app _ _ 8 2 pn (by rw [List.length_append, headE_length, be_length]),
    show 10 + b.length - 7 - 1 - 2 = b.length by omega, put_text _ 10 b (by rw [List.length_append, List.length_append, headE_length, be_length, be_length])]
  unfold encE
  rw [if_pos rfl]; simp
theorem puts_commit (tx ix pk pn : Nat) (b : List UInt8) (ct sm : Nat) : putAt (putAt (headE 2 tx ix ++ zs (13 - 7)) 7 (be 2 ct)) 9 (be 4 sm) = encE 2 tx ix pk pn b ct sm := by
  rw [put_app _ _ 7 2 ct (headE_length _ _ _), put_app _ _ 9 4 sm (by rw [List.length_append, headE_length, be_length])]
  unfold encE
  rw [if_neg (by decide), if_pos rfl, show 13 - 7 - 2 - 4 = 0 by omega]
  simp [zs]
theorem puts_abort (tx ix pk pn : Nat) (b : List UInt8) (ct sm : Nat) : headE 3 tx ix ++ zs (7 - 7) = encE 3 tx ix pk pn b ct sm := by
  unfold encE
  rw [if_neg (by decide), if_neg (by decide)]
  simp [zs]
/-- what a text reads as -/
structure EntN where
  kd : Nat
  tx : Nat
  ix : Nat
  pk : Nat
  pn : Nat
  b : List UInt8
  ct : Nat
  sm : Nat
def readE (l : List UInt8) : EntN :=
  let kd := num (getAt l 0 1)
  ⟨kd, num (getAt l 1 4), num (getAt l 5 2), if kd = 1 then num (getAt l 7 1) else 0, if kd = 1 then num (getAt l 8 2) else 0, if kd = 1 then l.drop 10 else [], if kd = 2 then num (getAt l 7 2) else 0, if kd = 2 then num (getAt l 9 4) else 0⟩
def EntN.enc (e : EntN) : List UInt8 := encE e.kd e.tx e.ix e.pk e.pn e.b e.ct e.sm
end Go.Proofs.YtaonifdfhlbaiaaGreatDoor.En

/- cut of entry: does a text end ahead of what its kind has? The package's table stands in block 0. -/
namespace Go.Proofs.YtaonifdfhlbaiaaGreatDoor.En
open Go.RowKit
open Go.Lib (hid)
/-- the package's table, as it is laid -/
structure Lst (w : World) : Prop where
  c0 : w.cell? ⟨0, 0, none⟩ = some (.int .i64 0)
  c1 : w.cell? ⟨0, 1, none⟩ = some (.int .i64 10)
  c2 : w.cell? ⟨0, 2, none⟩ = some (.int .i64 13)
  c3 : w.cell? ⟨0, 3, none⟩ = some (.int .i64 7)
theorem full (s : ByteArray) (h : 0 < s.size) : s.toList.isEmpty = false := by
  rw [ByteArray.toList_eq]
  cases hl : s.data.toList with
  | nil =>
    have h2 : s.data.toList.length = s.size := by simp
    rw [hl] at h2; simp at h2; omega
  | cons => rfl
set_option maxHeartbeats 1000000 in
theorem cut_nil (w : World) : Calls Tryz.prog 96 #[.string ⟨#[]⟩] w fun e w' => e = .returned (.bool true) ∧ w' = w := by
  go_enter Tryz.func96, Tryz.ntmps96
  go_wp2_with fail
  go_ret
  exact ⟨rfl, rfl⟩
set_option maxHeartbeats 1000000 in
theorem cut_k (s : ByteArray) (k n : Nat) (w : World) (h : 0 < s.size) (hk : s[0].toNat = k) (h4 : k < 4) (hc : w.cell? ⟨0, k, none⟩ = some (.int .i64 (n : Int))) :
    Calls Tryz.prog 96 #[.string s] w fun e w' => e = .returned (.bool (decide (s.size < n))) ∧ w' = w := by
  have e0 := full s h
  have e1 : wrap64 (s[0].toNat : Int) = (k : Int) := by rw [hk]; unfold wrap64; omega
  have e2 : decide ((k : Int) < 4) = true := by simp; omega
  have e3 : (k : Int) < 4 := by omega
  have e4 : (0 : Int) ≤ (k : Int) := by omega
  clear hk
  go_enter Tryz.func96, Tryz.ntmps96
  go_wp2_with fail
  go_ret
  exact ⟨by simp, rfl⟩
set_option maxHeartbeats 1000000 in
theorem cut_far (s : ByteArray) (w : World) (h : 0 < s.size) (h4 : 4 ≤ s[0].toNat) :
    Calls Tryz.prog 96 #[.string s] w fun e w' => e = .returned (.bool false) ∧ w' = w := by
  have e0 := full s h
  obtain ⟨k, hk⟩ : ∃ k, s[0].toNat = k := ⟨_, rfl⟩
  have hk2 : k < 256 := by rw [← hk]; exact s[0].toNat_lt
  have e1 : wrap64 (s[0].toNat : Int) = (k : Int) := by rw [hk]; unfold wrap64; omega
  have e2 : decide ((k : Int) < 4) = false := by simp; omega
  clear hk h4
  go_enter Tryz.func96, Tryz.ntmps96
  go_wp2_with fail
  go_ret
  exact ⟨rfl, rfl⟩
end Go.Proofs.YtaonifdfhlbaiaaGreatDoor.En

/- Encode of entry. The package's table stands in block 0. -/
namespace Go.Proofs.YtaonifdfhlbaiaaGreatDoor.En
open Go.RowKit
open Go.Lib (hid)
open Go.Proofs.YtaonifdfhlbaiaaGreatDoor.Fd (Area Row Upd rowOf be be_length num getAt putAt putAt_length on_below on_upd)
open Go.Proofs.YtaonifdfhlbaiaaGreatDoor.Pg (zs zs_length)

theorem Lst.below {w w' : World} (h : Lst w) (hb : Below w.heap.size w w') : Lst w' := by
  have h0 : 0 < w.heap.size := block_lt_of_cell h.c0
  exact ⟨(hb.cell (p := ⟨0, 0, none⟩) h0).trans h.c0, (hb.cell (p := ⟨0, 1, none⟩) h0).trans h.c1, (hb.cell (p := ⟨0, 2, none⟩) h0).trans h.c2, (hb.cell (p := ⟨0, 3, none⟩) h0).trans h.c3⟩
/-- an entry's cells -/
abbrev entC (kd tx ix pk pn : Int) (b : ByteArray) (ct sm : Int) : Array Value := #[.int .i64 kd, .int .i64 tx, .int .i64 ix, .int .i64 pk, .int .i64 pn, .string b, .int .i64 ct, .int .u32 sm]
theorem new_area (n : Nat) (x : Int) (hx : x = n) (hn : n ≤ 4096) (w : World) :
    Calls Tryz.prog 79 #[.int .i64 x] w fun e w' => e = .returned (.tuple #[.pointer (some ⟨w.heap.size + 1, 0, none⟩), .int .i64 0]) ∧ Area 153 w' (w.heap.size + 1) w.heap.size (zs n) ∧ Below w.heap.size w w' := by
  subst hx
  refine (Fd.new_ok n w hn).mono ?_
  rintro e w' ⟨rfl, rfl⟩
  exact ⟨rfl, Fd.madeArea_area 153 n w hn, Fd.madeArea_below 153 n w⟩
/-- what Encode has laid so far -/
structure EM (w : World) (P : Nat) (cs : Array Value) (B n : Nat) (l : List UInt8) (wr : World) : Prop where
  ent : wr.heap[P]? = some (.cells cs 72 (0, 0))
  below : Below w.heap.size w wr
  area : Area 153 wr (B + 1) B l
  lo : w.heap.size ≤ P
  lt : P < B
  len : l.length = n
theorem EM.upd {w wr w' : World} {P : Nat} {cs : Array Value} {B n : Nat} {l l' : List UInt8} (h : EM w P cs B n l wr) (hu : Upd B l' wr w') (hl : l'.length = n) : EM w P cs B n l' w' :=
  ⟨(hu.block P (Array.getElem?_eq_some_iff.1 h.ent).1 (Nat.ne_of_lt h.lt)).trans h.ent, (on_upd (hid h.below) hu (Nat.le_trans h.lo (Nat.le_of_lt h.lt))).out, h.area.upd hu (by rw [hl, h.len]), h.lo, h.lt, hl⟩
theorem EM.put {w wr : World} {P : Nat} {cs : Array Value} {B n : Nat} {l : List UInt8} (h : EM w P cs B n l wr) (o wd x : Nat) (o' x' w' : Int) (ho : o' = o) (hx : x' = x) (hw : w' = wd) (hwd : wd = 1 ∨ wd = 2 ∨ wd = 4) (hle : o + wd ≤ n) (hlt : x < 256 ^ wd) :
    Calls Tryz.prog 80 #[.pointer (some ⟨B + 1, 0, none⟩), .int .i64 o', .int .i64 w', .int .u32 x'] wr fun e w2 => e = .returned (.int .i64 0) ∧ EM w P cs B n (putAt l o (be wd x)) w2 := by
  subst ho hx hw
  have hlen := h.len
  have hl : (putAt l o (be wd x)).length = n := by rw [putAt_length _ _ _ (by rw [be_length]; omega), hlen]
  rcases hwd with rfl | rfl | rfl
  · exact (Fd.put_1 (B + 1) B l o x wr h.area (by omega) hlt).mono fun e w2 ⟨h1, h2⟩ => ⟨h1, h.upd h2 hl⟩
  · exact (Fd.put_2 (B + 1) B l o x wr h.area (by omega) hlt).mono fun e w2 ⟨h1, h2⟩ => ⟨h1, h.upd h2 hl⟩
  · exact (Fd.put_4 (B + 1) B l o x wr h.area (by omega) hlt).mono fun e w2 ⟨h1, h2⟩ => ⟨h1, h.upd h2 hl⟩
theorem EM.text {w wr : World} {P : Nat} {cs : Array Value} {B n : Nat} {l : List UInt8} (h : EM w P cs B n l wr) (o : Nat) (o' : Int) (ho : o' = o) (s : ByteArray) (hle : o + s.size ≤ n) :
    Calls Tryz.prog 81 #[.pointer (some ⟨B + 1, 0, none⟩), .int .i64 o', .string s] wr fun e w2 => e = .returned (.int .i64 0) ∧ EM w P cs B n (putAt l o s.data.toList) w2 := by
  subst ho
  have hlen := h.len
  have hl : (putAt l o s.data.toList).length = n := by rw [putAt_length _ _ _ (by rw [Fd.size_list]; omega), hlen]
  exact (Fd.putText_ok (B + 1) B l o s wr h.area (by omega)).mono fun e w2 ⟨h1, h2⟩ => ⟨h1, h.upd h2 hl⟩
theorem EM.bytes {w wr : World} {P : Nat} {cs : Array Value} {B n : Nat} {l m : List UInt8} (h : EM w P cs B n l wr) (hm : l = m) :
    Calls Tryz.prog 82 #[.pointer (some ⟨B + 1, 0, none⟩)] wr fun e w2 => e = .returned (.string ⟨m.toArray⟩) ∧ EM w P cs B n m w2 := by
  subst hm
  refine (Fd.bytes_ok (B + 1) B l wr h.area).mono ?_
  rintro e w2 ⟨rfl, rfl⟩
  exact ⟨rfl, h⟩
theorem em_new {w w1 w2 : World} {n : Nat} {cs : Array Value} (hb : Below w.heap.size w w1) (he : w1.heap[w.heap.size]? = some (.cells cs 72 (0, 0))) (ha : Area 153 w2 (w1.drew.heap.size + 1) w1.drew.heap.size (zs n)) (h2 : Below w1.drew.heap.size w1.drew w2) : EM w w.heap.size cs w1.heap.size n (zs n) w2 :=
  ⟨(h2.block _ (Array.getElem?_eq_some_iff.1 he).1).trans he, hb.trans (((Below.refl w1.heap.size w1).drew.trans h2).mono hb.size), ha, Nat.le_refl _, (Array.getElem?_eq_some_iff.1 he).1, zs_length _⟩
section
variable {w wr : World} {P B n : Nat} {kd tx ix pk pn ct sm : Int} {b : ByteArray} {l : List UInt8}
theorem EM.at0 (h : EM w P (entC kd tx ix pk pn b ct sm) B n l wr) : wr.cell? ⟨P, 0, none⟩ = some (.int .i64 kd) := by rw [cell_of_row _ _ _ _ _ _ h.ent]; rfl
theorem EM.at1 (h : EM w P (entC kd tx ix pk pn b ct sm) B n l wr) : wr.cell? ⟨P, 1, none⟩ = some (.int .i64 tx) := by rw [cell_of_row _ _ _ _ _ _ h.ent]; rfl
theorem EM.at2 (h : EM w P (entC kd tx ix pk pn b ct sm) B n l wr) : wr.cell? ⟨P, 2, none⟩ = some (.int .i64 ix) := by rw [cell_of_row _ _ _ _ _ _ h.ent]; rfl
theorem EM.at3 (h : EM w P (entC kd tx ix pk pn b ct sm) B n l wr) : wr.cell? ⟨P, 3, none⟩ = some (.int .i64 pk) := by rw [cell_of_row _ _ _ _ _ _ h.ent]; rfl
theorem EM.at4 (h : EM w P (entC kd tx ix pk pn b ct sm) B n l wr) : wr.cell? ⟨P, 4, none⟩ = some (.int .i64 pn) := by rw [cell_of_row _ _ _ _ _ _ h.ent]; rfl
theorem EM.at5 (h : EM w P (entC kd tx ix pk pn b ct sm) B n l wr) : wr.cell? ⟨P, 5, none⟩ = some (.string b) := by rw [cell_of_row _ _ _ _ _ _ h.ent]; rfl
theorem EM.at6 (h : EM w P (entC kd tx ix pk pn b ct sm) B n l wr) : wr.cell? ⟨P, 6, none⟩ = some (.int .i64 ct) := by rw [cell_of_row _ _ _ _ _ _ h.ent]; rfl
theorem EM.at7 (h : EM w P (entC kd tx ix pk pn b ct sm) B n l wr) : wr.cell? ⟨P, 7, none⟩ = some (.int .u32 sm) := by rw [cell_of_row _ _ _ _ _ _ h.ent]; rfl
theorem em_cells (hL : Lst w) (h : EM w P (entC kd tx ix pk pn b ct sm) B n l wr) : wr.cell? ⟨P, 0, none⟩ = some (.int .i64 kd) ∧ wr.cell? ⟨P, 5, none⟩ = some (.string b) ∧ wr.cell? ⟨0, 1, none⟩ = some (.int .i64 10) := ⟨h.at0, h.at5, (hL.below h.below).c1⟩
theorem em_cells2 (hL : Lst w) (h : EM w P (entC kd tx ix pk pn b ct sm) B n l wr) : wr.cell? ⟨P, 0, none⟩ = some (.int .i64 kd) ∧ wr.cell? ⟨P, 5, none⟩ = some (.string b) ∧ wr.cell? ⟨0, 2, none⟩ = some (.int .i64 13) := ⟨h.at0, h.at5, (hL.below h.below).c2⟩
theorem em_cells3 (hL : Lst w) (h : EM w P (entC kd tx ix pk pn b ct sm) B n l wr) : wr.cell? ⟨P, 0, none⟩ = some (.int .i64 kd) ∧ wr.cell? ⟨P, 5, none⟩ = some (.string b) ∧ wr.cell? ⟨0, 3, none⟩ = some (.int .i64 7) := ⟨h.at0, h.at5, (hL.below h.below).c3⟩
end
set_option maxRecDepth 100000 in
set_option maxHeartbeats 1000000 in
theorem encode_no (kd tx ix pk pn ct sm : Int) (b : ByteArray) (w : World) (hx : tx ≤ 9223372036854775807) (h : ¬ mayE kd tx ix pk pn b ct sm) :
    Calls Tryz.prog 56 #[.agg (entC kd tx ix pk pn b ct sm)] w fun e w' => e = .returned (.tuple #[.string ⟨#[]⟩, .int .i64 1]) ∧ Below w.heap.size w w' := by
  have HC := hid fun (V : World) => check_no kd tx ix pk pn ct sm b V hx h
  clear h hx
  go_enter Tryz.func56, Tryz.ntmps56
  go_wp2_with fail
  refine (HC.out _).mono ?_
  rintro e w1 ⟨rfl, hb⟩
  have HB := hid (((Below.refl w.heap.size w).alloc (Nat.le_refl _) _).trans (hb.mono (by simp)))
  clear hb
  go_wp2_with fail
  go_ret2
  exact ⟨rfl, HB.out⟩
set_option maxRecDepth 100000 in
set_option maxHeartbeats 2000000 in
theorem encode_stage (tx ix pk pn : Nat) (b : ByteArray) (w : World) (hL : Lst w) (h : mayE 1 tx ix pk pn b 0 0) :
    Calls Tryz.prog 56 #[.agg (entC 1 tx ix pk pn b 0 0)] w fun e w' => e = .returned (.tuple #[.string ⟨(encE 1 tx ix pk pn b.data.toList 0 0).toArray⟩, .int .i64 0]) ∧ Below w.heap.size w w' := by
  have HC := hid fun (V : World) => check_yes 1 tx ix pk pn 0 0 b V h
  obtain ⟨h1, h2, h3, h4, hr⟩ := h
  have hst : mayS pk pn b := by rcases hr with hr | hr | hr; exact hr.2.1; exact absurd hr.1 (by decide); exact absurd hr.1 (by decide)
  obtain ⟨-, -, hk5, -, hn9, hb2⟩ := hst
  have hbl := Fd.size_list b
  have HEQ := hid (puts_stage tx ix pk pn b.data.toList 0 0)
  rw [hbl] at HEQ
  have HL := hid hL
  have HN := hid fun (V : World) => new_area (10 + b.size) (IntKind.i64.wrap (10 + (b.size : Int))) (by rw [Go.IntWalk.i64_in _ (by omega)]; omega) (by omega) V
  clear hL hr
  go_enter Tryz.func56, Tryz.ntmps56
  go_wp2_with fail
  refine (HC.out _).mono ?_
  rintro e w1 ⟨rfl, hb⟩
  have HB := hid (((Below.refl w.heap.size w).alloc (Nat.le_refl _) _).trans (hb.mono (by simp)))
  have HE := hid (show w1.heap[w.heap.size]? = some (.cells (entC 1 tx ix pk pn b 0 0) 72 (0, 0)) from (hb.block _ (by simp)).trans (heap_alloc_new _ _))
  have HL1 := hid (HL.out.below HB.out)
  have c0 : w1.cell? ⟨w.heap.size, 0, none⟩ = some (.int .i64 1) := by rw [cell_of_row _ _ _ _ _ _ HE.out]; rfl
  have c5 : w1.cell? ⟨w.heap.size, 5, none⟩ = some (.string b) := by rw [cell_of_row _ _ _ _ _ _ HE.out]; rfl
  have g1 := HL1.out.c1
  clear hb
  go_wp2_with fail
  go_region_held3 (fun w' => w'.cell? ⟨w.heap.size, 0, none⟩ = some (.int .i64 1) ∧ w'.cell? ⟨w.heap.size, 5, none⟩ = some (.string b) ∧ w'.cell? ⟨0, 1, none⟩ = some (.int .i64 10)) (first | exact ⟨c0, c5, g1⟩ | exact q1 | go_keep)
    (first
      | (go_at_call 79; refine (HN.out _).mono ?_; rintro e w2 ⟨rfl, ha, hb⟩; have HM := hid (em_new HB.out HE.out ha hb); have q1 := em_cells HL.out HM.out; clear ha hb)
      | fail)
  clear q1 c0 c5 g1 HN HL1 HE HB
  generalize w1.heap.size = B at HM ⊢
  have c0 := HM.out.at0
  go_wp2_with fail
  refine (HM.out.put 0 1 1 _ _ _ rfl (rfl) rfl (by decide) (by omega) (by omega)).mono ?_
  rintro e w3 ⟨rfl, hm⟩
  replace HM := hid hm
  clear hm c0
  have c1 := HM.out.at1
  go_wp2_with fail
  refine (HM.out.put 1 4 tx _ _ _ rfl (rfl) rfl (by decide) (by omega) (by omega)).mono ?_
  rintro e w4 ⟨rfl, hm⟩
  replace HM := hid hm
  clear hm c1
  have c2 := HM.out.at2
  go_wp2_with fail
  refine (HM.out.put 5 2 ix _ _ _ rfl (rfl) rfl (by decide) (by omega) (by omega)).mono ?_
  rintro e w5 ⟨rfl, hm⟩
  replace HM := hid hm
  clear hm c2
  rw [puts_head] at HM
  have c0 := HM.out.at0
  have c3 := HM.out.at3
  go_wp2_with fail
  clear c0
  refine (HM.out.put 7 1 pk _ _ _ rfl (rfl) rfl (by decide) (by omega) (by omega)).mono ?_
  rintro e w6 ⟨rfl, hm⟩
  replace HM := hid hm
  clear hm c3
  have c4 := HM.out.at4
  go_wp2_with fail
  refine (HM.out.put 8 2 pn _ _ _ rfl (rfl) rfl (by decide) (by omega) (by omega)).mono ?_
  rintro e w7 ⟨rfl, hm⟩
  replace HM := hid hm
  clear hm c4
  have c5 := HM.out.at5
  go_wp2_with fail
  refine (HM.out.text 10 _ rfl b (by omega)).mono ?_
  rintro e w8 ⟨rfl, hm⟩
  replace HM := hid hm
  clear hm c5
  go_wp2_with fail
  refine (HM.out.bytes HEQ.out).mono ?_
  rintro e w9 ⟨rfl, hm⟩
  replace HM := hid hm
  clear hm
  go_wp2_with fail
  go_ret2
  exact ⟨rfl, HM.out.below⟩
set_option maxRecDepth 100000 in
set_option maxHeartbeats 2000000 in
theorem encode_commit (tx ix sm : Nat) (hsm : sm < 4294967296) (w : World) (hL : Lst w) (h : mayE 2 tx ix 0 0 ⟨#[]⟩ ix sm) :
    Calls Tryz.prog 56 #[.agg (entC 2 tx ix 0 0 ⟨#[]⟩ ix sm)] w fun e w' => e = .returned (.tuple #[.string ⟨(encE 2 tx ix 0 0 [] ix sm).toArray⟩, .int .i64 0]) ∧ Below w.heap.size w w' := by
  have HC := hid fun (V : World) => check_yes 2 tx ix 0 0 ix sm ⟨#[]⟩ V h
  obtain ⟨h1, h2, h3, h4, hr⟩ := h
  have HEQ := hid (puts_commit tx ix 0 0 [] ix sm)
  have HL := hid hL
  have HN := hid fun (V : World) => new_area (13) (13) (rfl) (by omega) V
  clear hL hr
  go_enter Tryz.func56, Tryz.ntmps56
  go_wp2_with fail
  refine (HC.out _).mono ?_
  rintro e w1 ⟨rfl, hb⟩
  have HB := hid (((Below.refl w.heap.size w).alloc (Nat.le_refl _) _).trans (hb.mono (by simp)))
  have HE := hid (show w1.heap[w.heap.size]? = some (.cells (entC 2 tx ix 0 0 ⟨#[]⟩ ix sm) 72 (0, 0)) from (hb.block _ (by simp)).trans (heap_alloc_new _ _))
  have HL1 := hid (HL.out.below HB.out)
  have c0 : w1.cell? ⟨w.heap.size, 0, none⟩ = some (.int .i64 2) := by rw [cell_of_row _ _ _ _ _ _ HE.out]; rfl
  have c5 : w1.cell? ⟨w.heap.size, 5, none⟩ = some (.string (⟨#[]⟩ : ByteArray)) := by rw [cell_of_row _ _ _ _ _ _ HE.out]; rfl
  have g1 := HL1.out.c2
  clear hb
  go_wp2_with fail
  go_region_held3 (fun w' => w'.cell? ⟨w.heap.size, 0, none⟩ = some (.int .i64 2) ∧ w'.cell? ⟨w.heap.size, 5, none⟩ = some (.string (⟨#[]⟩ : ByteArray)) ∧ w'.cell? ⟨0, 2, none⟩ = some (.int .i64 13)) (first | exact ⟨c0, c5, g1⟩ | exact q1 | go_keep)
    (first
      | (go_at_call 79; refine (HN.out _).mono ?_; rintro e w2 ⟨rfl, ha, hb⟩; have HM := hid (em_new HB.out HE.out ha hb); have q1 := em_cells2 HL.out HM.out; clear ha hb)
      | fail)
  clear q1 c0 c5 g1 HN HL1 HE HB
  generalize w1.heap.size = B at HM ⊢
  have c0 := HM.out.at0
  go_wp2_with fail
  refine (HM.out.put 0 1 2 _ _ _ rfl (rfl) rfl (by decide) (by omega) (by omega)).mono ?_
  rintro e w3 ⟨rfl, hm⟩
  replace HM := hid hm
  clear hm c0
  have c1 := HM.out.at1
  go_wp2_with fail
  refine (HM.out.put 1 4 tx _ _ _ rfl (rfl) rfl (by decide) (by omega) (by omega)).mono ?_
  rintro e w4 ⟨rfl, hm⟩
  replace HM := hid hm
  clear hm c1
  have c2 := HM.out.at2
  go_wp2_with fail
  refine (HM.out.put 5 2 ix _ _ _ rfl (rfl) rfl (by decide) (by omega) (by omega)).mono ?_
  rintro e w5 ⟨rfl, hm⟩
  replace HM := hid hm
  clear hm c2
  rw [puts_head] at HM
  have c0 := HM.out.at0
  have c6 := HM.out.at6
  go_wp2_with fail
  clear c0
  refine (HM.out.put 7 2 ix _ _ _ rfl (rfl) rfl (by decide) (by omega) (by omega)).mono ?_
  rintro e w6 ⟨rfl, hm⟩
  replace HM := hid hm
  clear hm c6
  have c7 := HM.out.at7
  go_wp2_with fail
  refine (HM.out.put 9 4 sm _ _ _ rfl (rfl) rfl (by decide) (by omega) (by omega)).mono ?_
  rintro e w7 ⟨rfl, hm⟩
  replace HM := hid hm
  clear hm c7
  go_wp2_with fail
  refine (HM.out.bytes HEQ.out).mono ?_
  rintro e w9 ⟨rfl, hm⟩
  replace HM := hid hm
  clear hm
  go_wp2_with fail
  go_ret2
  exact ⟨rfl, HM.out.below⟩
set_option maxRecDepth 100000 in
set_option maxHeartbeats 2000000 in
theorem encode_abort (tx ix : Nat) (w : World) (hL : Lst w) (h : mayE 3 tx ix 0 0 ⟨#[]⟩ 0 0) :
    Calls Tryz.prog 56 #[.agg (entC 3 tx ix 0 0 ⟨#[]⟩ 0 0)] w fun e w' => e = .returned (.tuple #[.string ⟨(encE 3 tx ix 0 0 [] 0 0).toArray⟩, .int .i64 0]) ∧ Below w.heap.size w w' := by
  have HC := hid fun (V : World) => check_yes 3 tx ix 0 0 0 0 ⟨#[]⟩ V h
  obtain ⟨h1, h2, h3, h4, hr⟩ := h
  have HEQ := hid (puts_abort tx ix 0 0 [] 0 0)
  have HL := hid hL
  have HN := hid fun (V : World) => new_area (7) (7) (rfl) (by omega) V
  clear hL hr
  go_enter Tryz.func56, Tryz.ntmps56
  go_wp2_with fail
  refine (HC.out _).mono ?_
  rintro e w1 ⟨rfl, hb⟩
  have HB := hid (((Below.refl w.heap.size w).alloc (Nat.le_refl _) _).trans (hb.mono (by simp)))
  have HE := hid (show w1.heap[w.heap.size]? = some (.cells (entC 3 tx ix 0 0 ⟨#[]⟩ 0 0) 72 (0, 0)) from (hb.block _ (by simp)).trans (heap_alloc_new _ _))
  have HL1 := hid (HL.out.below HB.out)
  have c0 : w1.cell? ⟨w.heap.size, 0, none⟩ = some (.int .i64 3) := by rw [cell_of_row _ _ _ _ _ _ HE.out]; rfl
  have c5 : w1.cell? ⟨w.heap.size, 5, none⟩ = some (.string (⟨#[]⟩ : ByteArray)) := by rw [cell_of_row _ _ _ _ _ _ HE.out]; rfl
  have g1 := HL1.out.c3
  clear hb
  go_wp2_with fail
  go_region_held3 (fun w' => w'.cell? ⟨w.heap.size, 0, none⟩ = some (.int .i64 3) ∧ w'.cell? ⟨w.heap.size, 5, none⟩ = some (.string (⟨#[]⟩ : ByteArray)) ∧ w'.cell? ⟨0, 3, none⟩ = some (.int .i64 7)) (first | exact ⟨c0, c5, g1⟩ | exact q1 | go_keep)
    (first
      | (go_at_call 79; refine (HN.out _).mono ?_; rintro e w2 ⟨rfl, ha, hb⟩; have HM := hid (em_new HB.out HE.out ha hb); have q1 := em_cells3 HL.out HM.out; clear ha hb)
      | fail)
  clear q1 c0 c5 g1 HN HL1 HE HB
  generalize w1.heap.size = B at HM ⊢
  have c0 := HM.out.at0
  go_wp2_with fail
  refine (HM.out.put 0 1 3 _ _ _ rfl (rfl) rfl (by decide) (by omega) (by omega)).mono ?_
  rintro e w3 ⟨rfl, hm⟩
  replace HM := hid hm
  clear hm c0
  have c1 := HM.out.at1
  go_wp2_with fail
  refine (HM.out.put 1 4 tx _ _ _ rfl (rfl) rfl (by decide) (by omega) (by omega)).mono ?_
  rintro e w4 ⟨rfl, hm⟩
  replace HM := hid hm
  clear hm c1
  have c2 := HM.out.at2
  go_wp2_with fail
  refine (HM.out.put 5 2 ix _ _ _ rfl (rfl) rfl (by decide) (by omega) (by omega)).mono ?_
  rintro e w5 ⟨rfl, hm⟩
  replace HM := hid hm
  clear hm c2
  rw [puts_head] at HM
  have c0 := HM.out.at0
  go_wp2_with fail
  clear c0
  refine (HM.out.bytes HEQ.out).mono ?_
  rintro e w9 ⟨rfl, hm⟩
  replace HM := hid hm
  clear hm
  go_wp2_with fail
  go_ret2
  exact ⟨rfl, HM.out.below⟩
end Go.Proofs.YtaonifdfhlbaiaaGreatDoor.En

/- Encode of entry, whatever entry it is asked for. -/
namespace Go.Proofs.YtaonifdfhlbaiaaGreatDoor.En
open Go.RowKit
open Go.Lib (hid)
open Go.Proofs.YtaonifdfhlbaiaaGreatDoor.Fd (be be_length num getAt putAt)

theorem noP_iff (pk pn : Int) (b : ByteArray) : noP pk pn b = true ↔ pk = 0 ∧ pn = 0 ∧ b = ⟨#[]⟩ := by
  unfold noP pageB
  simp only [Bool.and_eq_true, beq_iff_eq]
  constructor
  · rintro ⟨h1, h2, h3⟩
    refine ⟨h1, h2, ?_⟩
    rw [Go.ByteArray.toList_eq, Go.ByteArray.toList_eq] at h3
    apply ByteArray.ext
    rw [← Array.toList_inj]; exact h3
  · rintro ⟨h1, h2, rfl⟩
    exact ⟨h1, h2, rfl⟩
open Classical in
/-- what Encode answers -/
noncomputable def encR (kd tx ix pk pn : Int) (b : ByteArray) (ct sm : Int) : ByteArray × Int :=
  if mayE kd tx ix pk pn b ct sm then (⟨(encE kd.toNat tx.toNat ix.toNat pk.toNat pn.toNat b.data.toList ct.toNat sm.toNat).toArray⟩, 0) else (⟨#[]⟩, 1)
theorem encR_yes {kd tx ix pk pn : Int} {b : ByteArray} {ct sm : Int} (h : mayE kd tx ix pk pn b ct sm) : encR kd tx ix pk pn b ct sm = (⟨(encE kd.toNat tx.toNat ix.toNat pk.toNat pn.toNat b.data.toList ct.toNat sm.toNat).toArray⟩, 0) := if_pos h
theorem encR_no {kd tx ix pk pn : Int} {b : ByteArray} {ct sm : Int} (h : ¬ mayE kd tx ix pk pn b ct sm) : encR kd tx ix pk pn b ct sm = (⟨#[]⟩, 1) := if_neg h
/-- an entry that may be is of one of three kinds -/
theorem may_kinds {kd tx ix pk pn : Int} {b : ByteArray} {ct sm : Int} (hsm : 0 ≤ sm) (h : mayE kd tx ix pk pn b ct sm) :
    (∃ T I K N : Nat, kd = 1 ∧ tx = T ∧ ix = I ∧ pk = K ∧ pn = N ∧ ct = 0 ∧ sm = 0) ∨ (∃ T I S : Nat, kd = 2 ∧ tx = T ∧ ix = I ∧ pk = 0 ∧ pn = 0 ∧ b = ⟨#[]⟩ ∧ ct = I ∧ sm = S) ∨ (∃ T I : Nat, kd = 3 ∧ tx = T ∧ ix = I ∧ pk = 0 ∧ pn = 0 ∧ b = ⟨#[]⟩ ∧ ct = 0 ∧ sm = 0) := by
  obtain ⟨h1, h2, h3, h4, hr⟩ := h
  rcases hr with ⟨rfl, hs, rfl, rfl⟩ | ⟨rfl, hc, he, hn⟩ | ⟨rfl, hn, rfl, rfl⟩
  · obtain ⟨_, g1, g2, g3, g4, _⟩ := hs
    exact .inl ⟨tx.toNat, ix.toNat, pk.toNat, pn.toNat, rfl, by omega, by omega, by omega, by omega, rfl, rfl⟩
  · obtain ⟨rfl, rfl, rfl⟩ := (noP_iff _ _ _).1 hn
    exact .inr (.inl ⟨tx.toNat, ix.toNat, sm.toNat, rfl, by omega, by omega, rfl, rfl, rfl, by omega, by omega⟩)
  · obtain ⟨rfl, rfl, rfl⟩ := (noP_iff _ _ _).1 hn
    exact .inr (.inr ⟨tx.toNat, ix.toNat, rfl, by omega, by omega, rfl, rfl, rfl, rfl, rfl⟩)
theorem encode_any (kd tx ix pk pn : Int) (b : ByteArray) (ct sm : Int) (w : World) (hL : Lst w) (hx : tx ≤ 9223372036854775807) (hs : 0 ≤ sm) (hs2 : sm < 4294967296) :
    Calls Tryz.prog 56 #[.agg (entC kd tx ix pk pn b ct sm)] w fun e w' => e = .returned (.tuple #[.string (encR kd tx ix pk pn b ct sm).1, .int .i64 (encR kd tx ix pk pn b ct sm).2]) ∧ Below w.heap.size w w' := by
  by_cases h : mayE kd tx ix pk pn b ct sm
  · rw [encR_yes h]
    rcases may_kinds hs h with ⟨T, I, K, N, rfl, rfl, rfl, rfl, rfl, rfl, rfl⟩ | ⟨T, I, S, rfl, rfl, rfl, rfl, rfl, rfl, rfl, rfl⟩ | ⟨T, I, rfl, rfl, rfl, rfl, rfl, rfl, rfl, rfl⟩
    · exact encode_stage T I K N b w hL h
    · exact encode_commit T I S (by omega) w hL h
    · exact encode_abort T I w hL h
  · rw [encR_no h]
    exact encode_no kd tx ix pk pn ct sm b w hx h
/-- what was encoded is not empty, and of at most 244 bytes -/
theorem encR_size {kd tx ix pk pn : Int} {b : ByteArray} {ct sm : Int} (hs : 0 ≤ sm) (h : mayE kd tx ix pk pn b ct sm) : 7 ≤ (encR kd tx ix pk pn b ct sm).1.size ∧ (encR kd tx ix pk pn b ct sm).1.size ≤ 244 := by
  rw [encR_yes h]
  have hb : b.data.toList.length = b.size := by simp
  show 7 ≤ (encE _ _ _ _ _ _ _ _).toArray.size ∧ (encE _ _ _ _ _ _ _ _).toArray.size ≤ 244
  rw [List.size_toArray]
  have h' := h
  obtain ⟨_, _, _, _, hr⟩ := h
  rcases may_kinds hs h' with ⟨T, I, K, N, rfl, rfl, rfl, rfl, rfl, rfl, rfl⟩ | ⟨T, I, S, rfl, rfl, rfl, rfl, rfl, rfl, rfl, rfl⟩ | ⟨T, I, rfl, rfl, rfl, rfl, rfl, rfl, rfl, rfl⟩
  · change 7 ≤ (encE 1 T I K N b.data.toList 0 0).length ∧ (encE 1 T I K N b.data.toList 0 0).length ≤ 244
    rw [encE_length _ _ _ _ _ _ _ _ (.inl rfl) (fun h => absurd rfl h)]
    have : b.size ≤ 230 := by rcases hr with hr | hr | hr; exact hr.2.1.2.2.2.2.2; exact absurd hr.1 (by decide); exact absurd hr.1 (by decide)
    show 7 ≤ 10 + _ ∧ 10 + _ ≤ 244
    omega
  · change 7 ≤ (encE 2 T I 0 0 [] I S).length ∧ (encE 2 T I 0 0 [] I S).length ≤ 244
    rw [encE_length _ _ _ _ _ _ _ _ (.inr (.inl rfl)) (fun _ => rfl)]
    exact ⟨by decide, by decide⟩
  · change 7 ≤ (encE 3 T I 0 0 [] 0 0).length ∧ (encE 3 T I 0 0 [] 0 0).length ≤ 244
    rw [encE_length _ _ _ _ _ _ _ _ (.inr (.inr rfl)) (fun _ => rfl)]
    exact ⟨by decide, by decide⟩
end Go.Proofs.YtaonifdfhlbaiaaGreatDoor.En

/- The document's number in bytes and back, beside entry (out of ScNum and ScDp). -/
namespace Go.Proofs.YtaonifdfhlbaiaaGreatDoor.En
open Go.RowKit
open Go.Lib (hid)
open Go.Proofs.YtaonifdfhlbaiaaGreatDoor.Fd (Area Row Upd rowOf be be_length be_at beB num getAt back_run)

theorem row_back (l : List UInt8) (w : World) (n : Nat) (hn : l.length = n) :
    (convert 103 9 (.slice (some ⟨w.heap.size, 0, none⟩) n n)).run Tryz.prog (w.alloc (.cells (rowOf l) 5)) = .ok (.string ⟨l.toArray⟩) (w.alloc (.cells (rowOf l) 5)) := by
  have hr : Row (w.alloc (.cells (rowOf l) 5)) w.heap.size l := by
    unfold Row; rw [heap_alloc_new]
  have := back_run hr 0 n n (by omega)
  have e : getAt l 0 n = l := by rw [← hn]; exact Fd.getAt_all l
  rw [e] at this
  exact this
theorem be_more (m n : Nat) : be (m + 1) n = UInt8.ofNat (n / 256 ^ m) :: be m n := by
  apply List.ext_getElem?
  intro i
  cases i with
  | zero => rw [be_at _ _ _ (by omega)]; unfold beB; simp
  | succ i =>
    rw [List.getElem?_cons_succ]
    by_cases h : i < m
    · rw [be_at _ _ _ (by omega), be_at _ _ _ h]; unfold beB
      congr 3; congr 1; omega
    · rw [List.getElem?_eq_none (by rw [be_length]; omega), List.getElem?_eq_none (by rw [be_length]; omega)]
theorem one_cell (d : Nat) : (#[.int .u8 ((d : Int) % 256)] : Array Value) = rowOf [UInt8.ofNat d] := by
  unfold rowOf
  simp
theorem div_more (n k : Nat) : n / 256 ^ k / 256 = n / 256 ^ (k + 1) := by rw [Nat.pow_succ, Nat.div_div_eq_div_mul]
set_option maxHeartbeats 400000 in
theorem wide_any (n m : Nat) (w : World) (hn : n ≤ 4611686018427387904) (hm : m ≤ 8) :
    Calls Tryz.prog 86 #[.int .i64 (n : Int), .int .i64 (m : Int)] w fun e w' => e = .returned (.string ⟨(be m n).toArray⟩) ∧ Below w.heap.size w w' := by
  go_enter Tryz.func86, Tryz.ntmps86
  go_wp2_with fail
  go_loopw [0, 5, 6] (fun x s i wr => ∃ k d : Nat, k ≤ m ∧ d ≤ n ∧ d = n / 256 ^ k ∧ i = .int .i64 k ∧ x = .int .i64 (d : Int) ∧ s = .string ⟨(be k n).toArray⟩ ∧ Below w.heap.size w wr) (fun _ _ i _ => m - (intOf i).toNat)
  case atStart => exact ⟨0, n, by omega, by omega, by simp, rfl, rfl, rfl, Below.refl _ _⟩
  case round =>
    obtain ⟨k, d, hk, hd, hdv, rfl, rfl, rfl, hB⟩ := hrel
    have HB := hid hB; clear hB
    have HD := hid hdv; clear hdv
    by_cases hlt : k < m
    · have hb := row_back [UInt8.ofNat d] wr 1 rfl
      rw [← one_cell] at hb
      have hlen : (be k n).length ≤ 8 := by rw [be_length]; omega
      go_wp2_with fail
      go_roundw
      case rel =>
        refine ⟨k + 1, d / 256, by omega, by omega, by rw [HD.out, div_more], by go_num, by simp, ?_, HB.out.alloc HB.out.size _⟩
        rw [be_more, ← HD.out]
        rfl
      case measure => simp [intOf]; omega
    · obtain rfl : k = m := by omega
      go_wp2_with fail
      go_ret
      exact ⟨rfl, HB.out⟩
theorem ex_list (s : ByteArray) (a b : Nat) : (s.extract a b).data.toList = (s.data.toList.drop a).take (b - a) := by
  rw [ByteArray.data_extract]; simp
theorem size_list (s : ByteArray) : s.data.toList.length = s.size := by rw [Array.length_toList]; rfl
theorem take_snocS (s : ByteArray) (k : Nat) (h : k < s.size) : s.data.toList.take (k + 1) = s.data.toList.take k ++ [s[k]] := by
  rw [List.take_succ_eq_append_getElem (by simpa using h)]; rfl
set_option maxHeartbeats 400000 in
theorem narrow_any (s : ByteArray) (w : World) (hs : s.size ≤ 4) :
    Calls Tryz.prog 98 #[.string s] w fun e w' => e = .returned (.int .i64 (Fd.num s.data.toList : Int)) ∧ w = w' := by
  go_enter Tryz.func98, Tryz.ntmps98
  go_wp2_with fail
  go_loop [3, 4] (fun x i => ∃ k m : Nat, k ≤ s.size ∧ m < 4294967296 ∧ m = Fd.num (s.data.toList.take k) ∧ i = .int .i64 k ∧ x = .int .i64 (m : Int)) (fun _ i => s.size - (intOf i).toNat)
  case atStart => exact ⟨0, 0, by omega, by omega, by simp [Fd.num], rfl, rfl⟩
  case round =>
    obtain ⟨k, m, hk, hm, hmv, rfl, rfl⟩ := hrel
    have HM := hid hmv; clear hmv
    by_cases hlt : k < s.size
    · have hb := (s[k]).toNat_lt
      go_wp2_with fail
      go_round
      case rel =>
        have hsn : s.data.toList.take (k + 1) = s.data.toList.take k ++ [s[k]] := take_snocS s k hlt
        have hv : Fd.num (s.data.toList.take (k + 1)) = 256 * m + (s[k]).toNat := by rw [hsn, Fd.num_snoc, HM.out]
        have hl := Fd.num_lt (s.data.toList.take (k + 1))
        have hlen : (s.data.toList.take (k + 1)).length ≤ 4 := by simp; omega
        have h4 : Fd.num (s.data.toList.take (k + 1)) < 4294967296 := Nat.lt_of_lt_of_le hl (Nat.pow_le_pow_right (by decide) hlen)
        exact ⟨k + 1, 256 * m + (s[k]).toNat, by omega, by omega, hv.symm, by go_num, by go_num⟩
      case measure => simp [intOf]; omega
    · obtain rfl : k = s.size := by omega
      have HN := hid (show m = Fd.num s.data.toList by rw [HM.out, List.take_of_length_le (by rw [size_list]; omega)])
      go_wp2_with fail
      go_ret
      exact ⟨by rw [← HN.out]; rfl, rfl⟩
end Go.Proofs.YtaonifdfhlbaiaaGreatDoor.En
