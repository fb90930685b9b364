/- Merged out of EnAny, EnWide, EnRef, EnRefC, EnGet. -/
import Derived.Test.YtgihpdhkjneimaaGreatDoorP09
import Derived.Test.YtgihpdhkjneimaaGreatDoorP02
/- Encode of entry, whatever entry it is asked for. -/
namespace Go.Proofs.YtgihpdhkjneimaaGreatDoor.En
open Go.RowKit
open Go.Lib (hid)
open Go.Proofs.YtgihpdhkjneimaaGreatDoor.Fd (be be_length num getAt putAt)

theorem noP_iff (pk pn : Int) (b : ByteArray) : noP pk pn b = true ↔ pk = 0 ∧ pn = 0 ∧ b = ⟨#[]⟩ := by
  unfold noP pageB
  simp only [Bool.and_eq_true, beq_iff_eq]
  constructor
  · rintro ⟨h1, h2, h3⟩
    refine ⟨h1, h2, ?_⟩
    rw [Go.ByteArray.toList_eq, Go.ByteArray.toList_eq] at h3
    apply ByteArray.ext
    rw [← Array.toList_inj]; exact h3
  · rintro ⟨h1, h2, rfl⟩
    exact ⟨h1, h2, rfl⟩
open Classical in
/-- what Encode answers -/
noncomputable def encR (kd tx ix pk pn : Int) (b : ByteArray) (ct sm : Int) : ByteArray × Int :=
  if mayE kd tx ix pk pn b ct sm then (⟨(encE kd.toNat tx.toNat ix.toNat pk.toNat pn.toNat b.data.toList ct.toNat sm.toNat).toArray⟩, 0) else (⟨#[]⟩, 1)
theorem encR_yes {kd tx ix pk pn : Int} {b : ByteArray} {ct sm : Int} (h : mayE kd tx ix pk pn b ct sm) : encR kd tx ix pk pn b ct sm = (⟨(encE kd.toNat tx.toNat ix.toNat pk.toNat pn.toNat b.data.toList ct.toNat sm.toNat).toArray⟩, 0) := if_pos h
theorem encR_no {kd tx ix pk pn : Int} {b : ByteArray} {ct sm : Int} (h : ¬ mayE kd tx ix pk pn b ct sm) : encR kd tx ix pk pn b ct sm = (⟨#[]⟩, 1) := if_neg h
/-- an entry that may be is of one of three kinds -/
theorem may_kinds {kd tx ix pk pn : Int} {b : ByteArray} {ct sm : Int} (hsm : 0 ≤ sm) (h : mayE kd tx ix pk pn b ct sm) :
    (∃ T I K N : Nat, kd = 1 ∧ tx = T ∧ ix = I ∧ pk = K ∧ pn = N ∧ ct = 0 ∧ sm = 0) ∨ (∃ T I S : Nat, kd = 2 ∧ tx = T ∧ ix = I ∧ pk = 0 ∧ pn = 0 ∧ b = ⟨#[]⟩ ∧ ct = I ∧ sm = S) ∨ (∃ T I : Nat, kd = 3 ∧ tx = T ∧ ix = I ∧ pk = 0 ∧ pn = 0 ∧ b = ⟨#[]⟩ ∧ ct = 0 ∧ sm = 0) := by
  obtain ⟨h1, h2, h3, h4, hr⟩ := h
  rcases hr with ⟨rfl, hs, rfl, rfl⟩ | ⟨rfl, hc, he, hn⟩ | ⟨rfl, hn, rfl, rfl⟩
  · obtain ⟨_, g1, g2, g3, g4, _⟩ := hs
    exact .inl ⟨tx.toNat, ix.toNat, pk.toNat, pn.toNat, rfl, by omega, by omega, by omega, by omega, rfl, rfl⟩
  · obtain ⟨rfl, rfl, rfl⟩ := (noP_iff _ _ _).1 hn
    exact .inr (.inl ⟨tx.toNat, ix.toNat, sm.toNat, rfl, by omega, by omega, rfl, rfl, rfl, by omega, by omega⟩)
  · obtain ⟨rfl, rfl, rfl⟩ := (noP_iff _ _ _).1 hn
    exact .inr (.inr ⟨tx.toNat, ix.toNat, rfl, by omega, by omega, rfl, rfl, rfl, rfl, rfl⟩)
theorem encode_any (kd tx ix pk pn : Int) (b : ByteArray) (ct sm : Int) (w : World) (hL : Lst w) (hx : tx ≤ 9223372036854775807) (hs : 0 ≤ sm) (hs2 : sm < 4294967296) :
    Calls Tryz.prog 128 #[.agg (entC kd tx ix pk pn b ct sm)] w fun e w' => e = .returned (.tuple #[.string (encR kd tx ix pk pn b ct sm).1, .int .i64 (encR kd tx ix pk pn b ct sm).2]) ∧ Below w.heap.size w w' := by
  by_cases h : mayE kd tx ix pk pn b ct sm
  · rw [encR_yes h]
    rcases may_kinds hs h with ⟨T, I, K, N, rfl, rfl, rfl, rfl, rfl, rfl, rfl⟩ | ⟨T, I, S, rfl, rfl, rfl, rfl, rfl, rfl, rfl, rfl⟩ | ⟨T, I, rfl, rfl, rfl, rfl, rfl, rfl, rfl, rfl⟩
    · exact encode_stage T I K N b w hL h
    · exact encode_commit T I S (by omega) w hL h
    · exact encode_abort T I w hL h
  · rw [encR_no h]
    exact encode_no kd tx ix pk pn ct sm b w hx h
/-- what was encoded is not empty, and of at most 244 bytes -/
theorem encR_size {kd tx ix pk pn : Int} {b : ByteArray} {ct sm : Int} (hs : 0 ≤ sm) (h : mayE kd tx ix pk pn b ct sm) : 7 ≤ (encR kd tx ix pk pn b ct sm).1.size ∧ (encR kd tx ix pk pn b ct sm).1.size ≤ 244 := by
  rw [encR_yes h]
  have hb : b.data.toList.length = b.size := by simp
  show 7 ≤ (encE _ _ _ _ _ _ _ _).toArray.size ∧ (encE _ _ _ _ _ _ _ _).toArray.size ≤ 244
  rw [List.size_toArray]
  have h' := h
  obtain ⟨_, _, _, _, hr⟩ := h
  rcases may_kinds hs h' with ⟨T, I, K, N, rfl, rfl, rfl, rfl, rfl, rfl, rfl⟩ | ⟨T, I, S, rfl, rfl, rfl, rfl, rfl, rfl, rfl, rfl⟩ | ⟨T, I, rfl, rfl, rfl, rfl, rfl, rfl, rfl, rfl⟩
  · change 7 ≤ (encE 1 T I K N b.data.toList 0 0).length ∧ (encE 1 T I K N b.data.toList 0 0).length ≤ 244
    rw [encE_length _ _ _ _ _ _ _ _ (.inl rfl) (fun h => absurd rfl h)]
    have : b.size ≤ 230 := by rcases hr with hr | hr | hr; exact hr.2.1.2.2.2.2.2; exact absurd hr.1 (by decide); exact absurd hr.1 (by decide)
    show 7 ≤ 10 + _ ∧ 10 + _ ≤ 244
    omega
  · change 7 ≤ (encE 2 T I 0 0 [] I S).length ∧ (encE 2 T I 0 0 [] I S).length ≤ 244
    rw [encE_length _ _ _ _ _ _ _ _ (.inr (.inl rfl)) (fun _ => rfl)]
    exact ⟨by decide, by decide⟩
  · change 7 ≤ (encE 3 T I 0 0 [] 0 0).length ∧ (encE 3 T I 0 0 [] 0 0).length ≤ 244
    rw [encE_length _ _ _ _ _ _ _ _ (.inr (.inr rfl)) (fun _ => rfl)]
    exact ⟨by decide, by decide⟩
end Go.Proofs.YtgihpdhkjneimaaGreatDoor.En

/- The document's number in bytes and back, beside entry (out of ScNum and ScDp). -/
namespace Go.Proofs.YtgihpdhkjneimaaGreatDoor.En
open Go.RowKit
open Go.Lib (hid)
open Go.Proofs.YtgihpdhkjneimaaGreatDoor.Fd (Area Row Upd rowOf be be_length be_at beB num getAt back_run)

theorem row_back (l : List UInt8) (w : World) (n : Nat) (hn : l.length = n) :
    (convert 121 9 (.slice (some ⟨w.heap.size, 0, none⟩) n n)).run Tryz.prog (w.alloc (.cells (rowOf l) 5)) = .ok (.string ⟨l.toArray⟩) (w.alloc (.cells (rowOf l) 5)) := by
  have hr : Row (w.alloc (.cells (rowOf l) 5)) w.heap.size l := by
    unfold Row; rw [heap_alloc_new]
  have := back_run hr 0 n n (by omega)
  have e : getAt l 0 n = l := by rw [← hn]; exact Fd.getAt_all l
  rw [e] at this
  exact this
theorem be_more (m n : Nat) : be (m + 1) n = UInt8.ofNat (n / 256 ^ m) :: be m n := by
  apply List.ext_getElem?
  intro i
  cases i with
  | zero => rw [be_at _ _ _ (by omega)]; unfold beB; simp
  | succ i =>
    rw [List.getElem?_cons_succ]
    by_cases h : i < m
    · rw [be_at _ _ _ (by omega), be_at _ _ _ h]; unfold beB
      congr 3; congr 1; omega
    · rw [List.getElem?_eq_none (by rw [be_length]; omega), List.getElem?_eq_none (by rw [be_length]; omega)]
theorem one_cell (d : Nat) : (#[.int .u8 ((d : Int) % 256)] : Array Value) = rowOf [UInt8.ofNat d] := by
  unfold rowOf
  simp
theorem div_more (n k : Nat) : n / 256 ^ k / 256 = n / 256 ^ (k + 1) := by rw [Nat.pow_succ, Nat.div_div_eq_div_mul]
set_option maxHeartbeats 400000 in
theorem wide_any (n m : Nat) (w : World) (hn : n ≤ 4611686018427387904) (hm : m ≤ 8) :
    Calls Tryz.prog 84 #[.int .i64 (n : Int), .int .i64 (m : Int)] w fun e w' => e = .returned (.string ⟨(be m n).toArray⟩) ∧ Below w.heap.size w w' := by
  go_enter Tryz.func84, Tryz.ntmps84
  go_wp2_with fail
  go_loopw [0, 5, 6] (fun x s i wr => ∃ k d : Nat, k ≤ m ∧ d ≤ n ∧ d = n / 256 ^ k ∧ i = .int .i64 k ∧ x = .int .i64 (d : Int) ∧ s = .string ⟨(be k n).toArray⟩ ∧ Below w.heap.size w wr) (fun _ _ i _ => m - (intOf i).toNat)
  case atStart => exact ⟨0, n, by omega, by omega, by simp, rfl, rfl, rfl, Below.refl _ _⟩
  case round =>
    obtain ⟨k, d, hk, hd, hdv, rfl, rfl, rfl, hB⟩ := hrel
    have HB := hid hB; clear hB
    have HD := hid hdv; clear hdv
    by_cases hlt : k < m
    · have hb := row_back [UInt8.ofNat d] wr 1 rfl
      rw [← one_cell] at hb
      have hlen : (be k n).length ≤ 8 := by rw [be_length]; omega
      go_wp2_with fail
      go_roundw
      case rel =>
        refine ⟨k + 1, d / 256, by omega, by omega, by rw [HD.out, div_more], by go_num, by simp, ?_, HB.out.alloc HB.out.size _⟩
        rw [be_more, ← HD.out]
        rfl
      case measure => simp [intOf]; omega
    · obtain rfl : k = m := by omega
      go_wp2_with fail
      go_ret
      exact ⟨rfl, HB.out⟩
theorem ex_list (s : ByteArray) (a b : Nat) : (s.extract a b).data.toList = (s.data.toList.drop a).take (b - a) := by
  rw [ByteArray.data_extract]; simp
theorem size_list (s : ByteArray) : s.data.toList.length = s.size := by rw [Array.length_toList]; rfl
theorem take_snocS (s : ByteArray) (k : Nat) (h : k < s.size) : s.data.toList.take (k + 1) = s.data.toList.take k ++ [s[k]] := by
  rw [List.take_succ_eq_append_getElem (by simpa using h)]; rfl
set_option maxHeartbeats 400000 in
theorem narrow_any (s : ByteArray) (w : World) (hs : s.size ≤ 4) :
    Calls Tryz.prog 104 #[.string s] w fun e w' => e = .returned (.int .i64 (Fd.num s.data.toList : Int)) ∧ w = w' := by
  go_enter Tryz.func104, Tryz.ntmps104
  go_wp2_with fail
  go_loop [3, 4] (fun x i => ∃ k m : Nat, k ≤ s.size ∧ m < 4294967296 ∧ m = Fd.num (s.data.toList.take k) ∧ i = .int .i64 k ∧ x = .int .i64 (m : Int)) (fun _ i => s.size - (intOf i).toNat)
  case atStart => exact ⟨0, 0, by omega, by omega, by simp [Fd.num], rfl, rfl⟩
  case round =>
    obtain ⟨k, m, hk, hm, hmv, rfl, rfl⟩ := hrel
    have HM := hid hmv; clear hmv
    by_cases hlt : k < s.size
    · have hb := (s[k]).toNat_lt
      go_wp2_with fail
      go_round
      case rel =>
        have hsn : s.data.toList.take (k + 1) = s.data.toList.take k ++ [s[k]] := take_snocS s k hlt
        have hv : Fd.num (s.data.toList.take (k + 1)) = 256 * m + (s[k]).toNat := by rw [hsn, Fd.num_snoc, HM.out]
        have hl := Fd.num_lt (s.data.toList.take (k + 1))
        have hlen : (s.data.toList.take (k + 1)).length ≤ 4 := by simp; omega
        have h4 : Fd.num (s.data.toList.take (k + 1)) < 4294967296 := Nat.lt_of_lt_of_le hl (Nat.pow_le_pow_right (by decide) hlen)
        exact ⟨k + 1, 256 * m + (s[k]).toNat, by omega, by omega, hv.symm, by go_num, by go_num⟩
      case measure => simp [intOf]; omega
    · obtain rfl : k = s.size := by omega
      have HN := hid (show m = Fd.num s.data.toList by rw [HM.out, List.take_of_length_le (by rw [size_list]; omega)])
      go_wp2_with fail
      go_ret
      exact ⟨by rw [← HN.out]; rfl, rfl⟩
end Go.Proofs.YtgihpdhkjneimaaGreatDoor.En

/- Check of the document's answer for entry: case by case. -/
namespace Go.Proofs.YtgihpdhkjneimaaGreatDoor.En
open Go.RowKit
open Go.Lib (hid)
set_option maxHeartbeats 1000000 in
theorem rc_lo1 (tx ix pk pn ct sm : Int) (b : ByteArray) (w : World) (e : tx < 1) :
    Calls Tryz.prog 85 #[.agg #[.int .i64 1, .int .i64 tx, .int .i64 ix, .int .i64 pk, .int .i64 pn, .string b, .int .i64 ct, .int .u32 sm]] w fun e w' => e = .returned (.int .i64 1) ∧ Below w.heap.size w w' := by
  have e1 : decide (1 ≤ tx) = false := by simp; omega
  clear e
  go_enter Tryz.func85, Tryz.ntmps85
  go_wp2_with fail
  go_ret
  exact ⟨rfl, ((Below.refl _ _).alloc (Nat.le_refl _) _).alloc (by simp) _⟩
set_option maxHeartbeats 1000000 in
theorem rc_lo2 (tx ix pk pn ct sm : Int) (b : ByteArray) (w : World) (e : tx < 1) :
    Calls Tryz.prog 85 #[.agg #[.int .i64 2, .int .i64 tx, .int .i64 ix, .int .i64 pk, .int .i64 pn, .string b, .int .i64 ct, .int .u32 sm]] w fun e w' => e = .returned (.int .i64 1) ∧ Below w.heap.size w w' := by
  have e1 : decide (1 ≤ tx) = false := by simp; omega
  clear e
  go_enter Tryz.func85, Tryz.ntmps85
  go_wp2_with fail
  go_ret
  exact ⟨rfl, ((Below.refl _ _).alloc (Nat.le_refl _) _).alloc (by simp) _⟩
set_option maxHeartbeats 1000000 in
theorem rc_lo3 (tx ix pk pn ct sm : Int) (b : ByteArray) (w : World) (e : tx < 1) :
    Calls Tryz.prog 85 #[.agg #[.int .i64 3, .int .i64 tx, .int .i64 ix, .int .i64 pk, .int .i64 pn, .string b, .int .i64 ct, .int .u32 sm]] w fun e w' => e = .returned (.int .i64 1) ∧ Below w.heap.size w w' := by
  have e1 : decide (1 ≤ tx) = false := by simp; omega
  clear e
  go_enter Tryz.func85, Tryz.ntmps85
  go_wp2_with fail
  go_ret
  exact ⟨rfl, ((Below.refl _ _).alloc (Nat.le_refl _) _).alloc (by simp) _⟩
set_option maxHeartbeats 1000000 in
theorem rc_lo0 (kd tx ix pk pn ct sm : Int) (b : ByteArray) (w : World) (h1 : kd ≠ 1) (h2 : kd ≠ 2) (h3 : kd ≠ 3) (e : tx < 1) :
    Calls Tryz.prog 85 #[.agg #[.int .i64 kd, .int .i64 tx, .int .i64 ix, .int .i64 pk, .int .i64 pn, .string b, .int .i64 ct, .int .u32 sm]] w fun e w' => e = .returned (.int .i64 1) ∧ Below w.heap.size w w' := by
  have k1 : (kd == 1) = false := by simpa using h1
  have k2 : (kd == 2) = false := by simpa using h2
  have k3 : (kd == 3) = false := by simpa using h3
  clear h1 h2 h3
  have e1 : decide (1 ≤ tx) = false := by simp; omega
  clear e
  go_enter Tryz.func85, Tryz.ntmps85
  go_wp2_with fail
  go_ret
  exact ⟨rfl, ((Below.refl _ _).alloc (Nat.le_refl _) _).alloc (by simp) _⟩
set_option maxHeartbeats 1000000 in
theorem rc_hi1 (tx ix pk pn ct sm : Int) (b : ByteArray) (w : World) (e : 4294967295 < tx) :
    Calls Tryz.prog 85 #[.agg #[.int .i64 1, .int .i64 tx, .int .i64 ix, .int .i64 pk, .int .i64 pn, .string b, .int .i64 ct, .int .u32 sm]] w fun e w' => e = .returned (.int .i64 1) ∧ Below w.heap.size w w' := by
  have e1 : decide (1 ≤ tx) = true := by simp; omega
  have e2 : decide (tx ≤ 4294967295) = false := by simp; omega
  clear e
  go_enter Tryz.func85, Tryz.ntmps85
  go_wp2_with fail
  go_ret
  exact ⟨rfl, ((Below.refl _ _).alloc (Nat.le_refl _) _).alloc (by simp) _⟩
set_option maxHeartbeats 1000000 in
theorem rc_hi2 (tx ix pk pn ct sm : Int) (b : ByteArray) (w : World) (e : 4294967295 < tx) :
    Calls Tryz.prog 85 #[.agg #[.int .i64 2, .int .i64 tx, .int .i64 ix, .int .i64 pk, .int .i64 pn, .string b, .int .i64 ct, .int .u32 sm]] w fun e w' => e = .returned (.int .i64 1) ∧ Below w.heap.size w w' := by
  have e1 : decide (1 ≤ tx) = true := by simp; omega
  have e2 : decide (tx ≤ 4294967295) = false := by simp; omega
  clear e
  go_enter Tryz.func85, Tryz.ntmps85
  go_wp2_with fail
  go_ret
  exact ⟨rfl, ((Below.refl _ _).alloc (Nat.le_refl _) _).alloc (by simp) _⟩
set_option maxHeartbeats 1000000 in
theorem rc_hi3 (tx ix pk pn ct sm : Int) (b : ByteArray) (w : World) (e : 4294967295 < tx) :
    Calls Tryz.prog 85 #[.agg #[.int .i64 3, .int .i64 tx, .int .i64 ix, .int .i64 pk, .int .i64 pn, .string b, .int .i64 ct, .int .u32 sm]] w fun e w' => e = .returned (.int .i64 1) ∧ Below w.heap.size w w' := by
  have e1 : decide (1 ≤ tx) = true := by simp; omega
  have e2 : decide (tx ≤ 4294967295) = false := by simp; omega
  clear e
  go_enter Tryz.func85, Tryz.ntmps85
  go_wp2_with fail
  go_ret
  exact ⟨rfl, ((Below.refl _ _).alloc (Nat.le_refl _) _).alloc (by simp) _⟩
set_option maxHeartbeats 1000000 in
theorem rc_hi0 (kd tx ix pk pn ct sm : Int) (b : ByteArray) (w : World) (h1 : kd ≠ 1) (h2 : kd ≠ 2) (h3 : kd ≠ 3) (e : 4294967295 < tx) :
    Calls Tryz.prog 85 #[.agg #[.int .i64 kd, .int .i64 tx, .int .i64 ix, .int .i64 pk, .int .i64 pn, .string b, .int .i64 ct, .int .u32 sm]] w fun e w' => e = .returned (.int .i64 1) ∧ Below w.heap.size w w' := by
  have k1 : (kd == 1) = false := by simpa using h1
  have k2 : (kd == 2) = false := by simpa using h2
  have k3 : (kd == 3) = false := by simpa using h3
  clear h1 h2 h3
  have e1 : decide (1 ≤ tx) = true := by simp; omega
  have e2 : decide (tx ≤ 4294967295) = false := by simp; omega
  clear e
  go_enter Tryz.func85, Tryz.ntmps85
  go_wp2_with fail
  go_ret
  exact ⟨rfl, ((Below.refl _ _).alloc (Nat.le_refl _) _).alloc (by simp) _⟩
set_option maxHeartbeats 1000000 in
theorem rc_il1 (tx ix pk pn ct sm : Int) (b : ByteArray) (w : World) (e : 1 ≤ tx) (e' : tx ≤ 4294967295) (i : ix < 0) :
    Calls Tryz.prog 85 #[.agg #[.int .i64 1, .int .i64 tx, .int .i64 ix, .int .i64 pk, .int .i64 pn, .string b, .int .i64 ct, .int .u32 sm]] w fun e w' => e = .returned (.int .i64 1) ∧ Below w.heap.size w w' := by
  have e1 : decide (1 ≤ tx) = true := by simpa using e
  have e2 : decide (tx ≤ 4294967295) = true := by simpa using e'
  have e3 : decide (0 ≤ ix) = false := by simp; omega
  clear e e' i
  go_enter Tryz.func85, Tryz.ntmps85
  go_wp2_with fail
  go_ret
  exact ⟨rfl, ((Below.refl _ _).alloc (Nat.le_refl _) _).alloc (by simp) _⟩
set_option maxHeartbeats 1000000 in
theorem rc_il2 (tx ix pk pn ct sm : Int) (b : ByteArray) (w : World) (e : 1 ≤ tx) (e' : tx ≤ 4294967295) (i : ix < 0) :
    Calls Tryz.prog 85 #[.agg #[.int .i64 2, .int .i64 tx, .int .i64 ix, .int .i64 pk, .int .i64 pn, .string b, .int .i64 ct, .int .u32 sm]] w fun e w' => e = .returned (.int .i64 1) ∧ Below w.heap.size w w' := by
  have e1 : decide (1 ≤ tx) = true := by simpa using e
  have e2 : decide (tx ≤ 4294967295) = true := by simpa using e'
  have e3 : decide (0 ≤ ix) = false := by simp; omega
  clear e e' i
  go_enter Tryz.func85, Tryz.ntmps85
  go_wp2_with fail
  go_ret
  exact ⟨rfl, ((Below.refl _ _).alloc (Nat.le_refl _) _).alloc (by simp) _⟩
set_option maxHeartbeats 1000000 in
theorem rc_il3 (tx ix pk pn ct sm : Int) (b : ByteArray) (w : World) (e : 1 ≤ tx) (e' : tx ≤ 4294967295) (i : ix < 0) :
    Calls Tryz.prog 85 #[.agg #[.int .i64 3, .int .i64 tx, .int .i64 ix, .int .i64 pk, .int .i64 pn, .string b, .int .i64 ct, .int .u32 sm]] w fun e w' => e = .returned (.int .i64 1) ∧ Below w.heap.size w w' := by
  have e1 : decide (1 ≤ tx) = true := by simpa using e
  have e2 : decide (tx ≤ 4294967295) = true := by simpa using e'
  have e3 : decide (0 ≤ ix) = false := by simp; omega
  clear e e' i
  go_enter Tryz.func85, Tryz.ntmps85
  go_wp2_with fail
  go_ret
  exact ⟨rfl, ((Below.refl _ _).alloc (Nat.le_refl _) _).alloc (by simp) _⟩
set_option maxHeartbeats 1000000 in
theorem rc_il0 (kd tx ix pk pn ct sm : Int) (b : ByteArray) (w : World) (h1 : kd ≠ 1) (h2 : kd ≠ 2) (h3 : kd ≠ 3) (e : 1 ≤ tx) (e' : tx ≤ 4294967295) (i : ix < 0) :
    Calls Tryz.prog 85 #[.agg #[.int .i64 kd, .int .i64 tx, .int .i64 ix, .int .i64 pk, .int .i64 pn, .string b, .int .i64 ct, .int .u32 sm]] w fun e w' => e = .returned (.int .i64 1) ∧ Below w.heap.size w w' := by
  have k1 : (kd == 1) = false := by simpa using h1
  have k2 : (kd == 2) = false := by simpa using h2
  have k3 : (kd == 3) = false := by simpa using h3
  clear h1 h2 h3
  have e1 : decide (1 ≤ tx) = true := by simpa using e
  have e2 : decide (tx ≤ 4294967295) = true := by simpa using e'
  have e3 : decide (0 ≤ ix) = false := by simp; omega
  clear e e' i
  go_enter Tryz.func85, Tryz.ntmps85
  go_wp2_with fail
  go_ret
  exact ⟨rfl, ((Below.refl _ _).alloc (Nat.le_refl _) _).alloc (by simp) _⟩
set_option maxHeartbeats 1000000 in
theorem rc_ih1 (tx ix pk pn ct sm : Int) (b : ByteArray) (w : World) (e : 1 ≤ tx) (e' : tx ≤ 4294967295) (i : 999 < ix) :
    Calls Tryz.prog 85 #[.agg #[.int .i64 1, .int .i64 tx, .int .i64 ix, .int .i64 pk, .int .i64 pn, .string b, .int .i64 ct, .int .u32 sm]] w fun e w' => e = .returned (.int .i64 1) ∧ Below w.heap.size w w' := by
  have e1 : decide (1 ≤ tx) = true := by simpa using e
  have e2 : decide (tx ≤ 4294967295) = true := by simpa using e'
  have e3 : decide (0 ≤ ix) = true := by simp; omega
  have e4 : decide (ix ≤ 999) = false := by simp; omega
  clear e e' i
  go_enter Tryz.func85, Tryz.ntmps85
  go_wp2_with fail
  go_ret
  exact ⟨rfl, ((Below.refl _ _).alloc (Nat.le_refl _) _).alloc (by simp) _⟩
set_option maxHeartbeats 1000000 in
theorem rc_ih2 (tx ix pk pn ct sm : Int) (b : ByteArray) (w : World) (e : 1 ≤ tx) (e' : tx ≤ 4294967295) (i : 999 < ix) :
    Calls Tryz.prog 85 #[.agg #[.int .i64 2, .int .i64 tx, .int .i64 ix, .int .i64 pk, .int .i64 pn, .string b, .int .i64 ct, .int .u32 sm]] w fun e w' => e = .returned (.int .i64 1) ∧ Below w.heap.size w w' := by
  have e1 : decide (1 ≤ tx) = true := by simpa using e
  have e2 : decide (tx ≤ 4294967295) = true := by simpa using e'
  have e3 : decide (0 ≤ ix) = true := by simp; omega
  have e4 : decide (ix ≤ 999) = false := by simp; omega
  clear e e' i
  go_enter Tryz.func85, Tryz.ntmps85
  go_wp2_with fail
  go_ret
  exact ⟨rfl, ((Below.refl _ _).alloc (Nat.le_refl _) _).alloc (by simp) _⟩
set_option maxHeartbeats 1000000 in
theorem rc_ih3 (tx ix pk pn ct sm : Int) (b : ByteArray) (w : World) (e : 1 ≤ tx) (e' : tx ≤ 4294967295) (i : 999 < ix) :
    Calls Tryz.prog 85 #[.agg #[.int .i64 3, .int .i64 tx, .int .i64 ix, .int .i64 pk, .int .i64 pn, .string b, .int .i64 ct, .int .u32 sm]] w fun e w' => e = .returned (.int .i64 1) ∧ Below w.heap.size w w' := by
  have e1 : decide (1 ≤ tx) = true := by simpa using e
  have e2 : decide (tx ≤ 4294967295) = true := by simpa using e'
  have e3 : decide (0 ≤ ix) = true := by simp; omega
  have e4 : decide (ix ≤ 999) = false := by simp; omega
  clear e e' i
  go_enter Tryz.func85, Tryz.ntmps85
  go_wp2_with fail
  go_ret
  exact ⟨rfl, ((Below.refl _ _).alloc (Nat.le_refl _) _).alloc (by simp) _⟩
set_option maxHeartbeats 1000000 in
theorem rc_ih0 (kd tx ix pk pn ct sm : Int) (b : ByteArray) (w : World) (h1 : kd ≠ 1) (h2 : kd ≠ 2) (h3 : kd ≠ 3) (e : 1 ≤ tx) (e' : tx ≤ 4294967295) (i : 999 < ix) :
    Calls Tryz.prog 85 #[.agg #[.int .i64 kd, .int .i64 tx, .int .i64 ix, .int .i64 pk, .int .i64 pn, .string b, .int .i64 ct, .int .u32 sm]] w fun e w' => e = .returned (.int .i64 1) ∧ Below w.heap.size w w' := by
  have k1 : (kd == 1) = false := by simpa using h1
  have k2 : (kd == 2) = false := by simpa using h2
  have k3 : (kd == 3) = false := by simpa using h3
  clear h1 h2 h3
  have e1 : decide (1 ≤ tx) = true := by simpa using e
  have e2 : decide (tx ≤ 4294967295) = true := by simpa using e'
  have e3 : decide (0 ≤ ix) = true := by simp; omega
  have e4 : decide (ix ≤ 999) = false := by simp; omega
  clear e e' i
  go_enter Tryz.func85, Tryz.ntmps85
  go_wp2_with fail
  go_ret
  exact ⟨rfl, ((Below.refl _ _).alloc (Nat.le_refl _) _).alloc (by simp) _⟩
set_option maxHeartbeats 1000000 in
theorem rc_0 (kd tx ix pk pn ct sm : Int) (b : ByteArray) (w : World) (h1 : kd ≠ 1) (h2 : kd ≠ 2) (h3 : kd ≠ 3) (a1 : 1 ≤ tx) (a2 : tx ≤ 4294967295) (a3 : 0 ≤ ix) (a4 : ix ≤ 999)  :
    Calls Tryz.prog 85 #[.agg #[.int .i64 kd, .int .i64 tx, .int .i64 ix, .int .i64 pk, .int .i64 pn, .string b, .int .i64 ct, .int .u32 sm]] w fun e w' => e = .returned (.int .i64 1) ∧ Below w.heap.size w w' := by
  have k1 : (kd == 1) = false := by simpa using h1
  have k2 : (kd == 2) = false := by simpa using h2
  have k3 : (kd == 3) = false := by simpa using h3
  clear h1 h2 h3
  have b1 : decide (1 ≤ tx) = true := by simpa using a1
  have b2 : decide (tx ≤ 4294967295) = true := by simpa using a2
  have b3 : decide (0 ≤ ix) = true := by simpa using a3
  have b4 : decide (ix ≤ 999) = true := by simpa using a4
  go_enter Tryz.func85, Tryz.ntmps85
  go_wp2_with fail
  go_ret
  exact ⟨rfl, ((Below.refl _ _).alloc (Nat.le_refl _) _).alloc (by simp) _⟩
set_option maxHeartbeats 1000000 in
theorem rc1_p (tx ix pk pn ct sm : Int) (b : ByteArray) (w : World) (a1 : 1 ≤ tx) (a2 : tx ≤ 4294967295) (a3 : 0 ≤ ix) (a4 : ix ≤ 999) (c0 : ¬ 0 ≤ pk) :
    Calls Tryz.prog 85 #[.agg #[.int .i64 1, .int .i64 tx, .int .i64 ix, .int .i64 pk, .int .i64 pn, .string b, .int .i64 ct, .int .u32 sm]] w fun e w' => e = .returned (.int .i64 1) ∧ Below w.heap.size w w' := by
  have b1 : decide (1 ≤ tx) = true := by simpa using a1
  have b2 : decide (tx ≤ 4294967295) = true := by simpa using a2
  have b3 : decide (0 ≤ ix) = true := by simpa using a3
  have b4 : decide (ix ≤ 999) = true := by simpa using a4
  have d0 : decide (0 ≤ pk) = false := by simpa using c0
  clear c0
  go_enter Tryz.func85, Tryz.ntmps85
  go_wp2_with fail
  go_ret
  exact ⟨rfl, ((Below.refl _ _).alloc (Nat.le_refl _) _).alloc (by simp) _⟩
set_option maxHeartbeats 1000000 in
theorem rc1_q (tx ix pk pn ct sm : Int) (b : ByteArray) (w : World) (a1 : 1 ≤ tx) (a2 : tx ≤ 4294967295) (a3 : 0 ≤ ix) (a4 : ix ≤ 999) (c0 : 0 ≤ pk) (c1 : ¬ pk ≤ 4) :
    Calls Tryz.prog 85 #[.agg #[.int .i64 1, .int .i64 tx, .int .i64 ix, .int .i64 pk, .int .i64 pn, .string b, .int .i64 ct, .int .u32 sm]] w fun e w' => e = .returned (.int .i64 1) ∧ Below w.heap.size w w' := by
  have b1 : decide (1 ≤ tx) = true := by simpa using a1
  have b2 : decide (tx ≤ 4294967295) = true := by simpa using a2
  have b3 : decide (0 ≤ ix) = true := by simpa using a3
  have b4 : decide (ix ≤ 999) = true := by simpa using a4
  have d0 : decide (0 ≤ pk) = true := by simpa using c0
  have d1 : decide (pk ≤ 4) = false := by simpa using c1
  clear c1
  go_enter Tryz.func85, Tryz.ntmps85
  go_wp2_with fail
  go_ret
  exact ⟨rfl, ((Below.refl _ _).alloc (Nat.le_refl _) _).alloc (by simp) _⟩
set_option maxHeartbeats 1000000 in
theorem rc1_r (tx ix pk pn ct sm : Int) (b : ByteArray) (w : World) (a1 : 1 ≤ tx) (a2 : tx ≤ 4294967295) (a3 : 0 ≤ ix) (a4 : ix ≤ 999) (c0 : 0 ≤ pk) (c1 : pk ≤ 4) (c2 : ¬ 0 ≤ pn) :
    Calls Tryz.prog 85 #[.agg #[.int .i64 1, .int .i64 tx, .int .i64 ix, .int .i64 pk, .int .i64 pn, .string b, .int .i64 ct, .int .u32 sm]] w fun e w' => e = .returned (.int .i64 1) ∧ Below w.heap.size w w' := by
  have b1 : decide (1 ≤ tx) = true := by simpa using a1
  have b2 : decide (tx ≤ 4294967295) = true := by simpa using a2
  have b3 : decide (0 ≤ ix) = true := by simpa using a3
  have b4 : decide (ix ≤ 999) = true := by simpa using a4
  have d0 : decide (0 ≤ pk) = true := by simpa using c0
  have d1 : decide (pk ≤ 4) = true := by simpa using c1
  have d2 : decide (0 ≤ pn) = false := by simpa using c2
  clear c2
  go_enter Tryz.func85, Tryz.ntmps85
  go_wp2_with fail
  go_ret
  exact ⟨rfl, ((Below.refl _ _).alloc (Nat.le_refl _) _).alloc (by simp) _⟩
set_option maxHeartbeats 1000000 in
theorem rc1_s (tx ix pk pn ct sm : Int) (b : ByteArray) (w : World) (a1 : 1 ≤ tx) (a2 : tx ≤ 4294967295) (a3 : 0 ≤ ix) (a4 : ix ≤ 999) (c0 : 0 ≤ pk) (c1 : pk ≤ 4) (c2 : 0 ≤ pn) (c3 : ¬ pn ≤ 999) :
    Calls Tryz.prog 85 #[.agg #[.int .i64 1, .int .i64 tx, .int .i64 ix, .int .i64 pk, .int .i64 pn, .string b, .int .i64 ct, .int .u32 sm]] w fun e w' => e = .returned (.int .i64 1) ∧ Below w.heap.size w w' := by
  have b1 : decide (1 ≤ tx) = true := by simpa using a1
  have b2 : decide (tx ≤ 4294967295) = true := by simpa using a2
  have b3 : decide (0 ≤ ix) = true := by simpa using a3
  have b4 : decide (ix ≤ 999) = true := by simpa using a4
  have d0 : decide (0 ≤ pk) = true := by simpa using c0
  have d1 : decide (pk ≤ 4) = true := by simpa using c1
  have d2 : decide (0 ≤ pn) = true := by simpa using c2
  have d3 : decide (pn ≤ 999) = false := by simpa using c3
  clear c3
  go_enter Tryz.func85, Tryz.ntmps85
  go_wp2_with fail
  go_ret
  exact ⟨rfl, ((Below.refl _ _).alloc (Nat.le_refl _) _).alloc (by simp) _⟩
set_option maxHeartbeats 1000000 in
theorem rc1_t (tx ix pk pn ct sm : Int) (b : ByteArray) (w : World) (a1 : 1 ≤ tx) (a2 : tx ≤ 4294967295) (a3 : 0 ≤ ix) (a4 : ix ≤ 999) (c0 : 0 ≤ pk) (c1 : pk ≤ 4) (c2 : 0 ≤ pn) (c3 : pn ≤ 999) (c4 : 230 < b.size) :
    Calls Tryz.prog 85 #[.agg #[.int .i64 1, .int .i64 tx, .int .i64 ix, .int .i64 pk, .int .i64 pn, .string b, .int .i64 ct, .int .u32 sm]] w fun e w' => e = .returned (.int .i64 1) ∧ Below w.heap.size w w' := by
  have b1 : decide (1 ≤ tx) = true := by simpa using a1
  have b2 : decide (tx ≤ 4294967295) = true := by simpa using a2
  have b3 : decide (0 ≤ ix) = true := by simpa using a3
  have b4 : decide (ix ≤ 999) = true := by simpa using a4
  have d0 : decide (0 ≤ pk) = true := by simpa using c0
  have d1 : decide (pk ≤ 4) = true := by simpa using c1
  have d2 : decide (0 ≤ pn) = true := by simpa using c2
  have d3 : decide (pn ≤ 999) = true := by simpa using c3
  have d4 : decide ((b.size : Int) ≤ 230) = false := by simp; omega
  clear c4
  go_enter Tryz.func85, Tryz.ntmps85
  go_wp2_with fail
  go_ret
  exact ⟨rfl, ((Below.refl _ _).alloc (Nat.le_refl _) _).alloc (by simp) _⟩
set_option maxHeartbeats 1000000 in
theorem rc1_u (tx ix pk pn ct sm : Int) (b : ByteArray) (w : World) (a1 : 1 ≤ tx) (a2 : tx ≤ 4294967295) (a3 : 0 ≤ ix) (a4 : ix ≤ 999) (c0 : 0 ≤ pk) (c1 : pk ≤ 4) (c2 : 0 ≤ pn) (c3 : pn ≤ 999) (c4 : b.size ≤ 230) (c5 : pk = 0) (c6 : b.toList.isEmpty = false) :
    Calls Tryz.prog 85 #[.agg #[.int .i64 1, .int .i64 tx, .int .i64 ix, .int .i64 pk, .int .i64 pn, .string b, .int .i64 ct, .int .u32 sm]] w fun e w' => e = .returned (.int .i64 1) ∧ Below w.heap.size w w' := by
  have b1 : decide (1 ≤ tx) = true := by simpa using a1
  have b2 : decide (tx ≤ 4294967295) = true := by simpa using a2
  have b3 : decide (0 ≤ ix) = true := by simpa using a3
  have b4 : decide (ix ≤ 999) = true := by simpa using a4
  have d0 : decide (0 ≤ pk) = true := by simpa using c0
  have d1 : decide (pk ≤ 4) = true := by simpa using c1
  have d2 : decide (0 ≤ pn) = true := by simpa using c2
  have d3 : decide (pn ≤ 999) = true := by simpa using c3
  have d4 : decide ((b.size : Int) ≤ 230) = true := by simp; omega
  subst c5
  go_enter Tryz.func85, Tryz.ntmps85
  go_wp2_with fail
  go_ret
  exact ⟨rfl, ((Below.refl _ _).alloc (Nat.le_refl _) _).alloc (by simp) _⟩
set_option maxHeartbeats 1000000 in
theorem rc1_cta (tx ix pk pn ct sm : Int) (b : ByteArray) (w : World) (a1 : 1 ≤ tx) (a2 : tx ≤ 4294967295) (a3 : 0 ≤ ix) (a4 : ix ≤ 999) (c0 : 0 ≤ pk) (c1 : pk ≤ 4) (c2 : 0 ≤ pn) (c3 : pn ≤ 999) (c4 : b.size ≤ 230) (c5 : 0 < pk) (z : ct ≠ 0) :
    Calls Tryz.prog 85 #[.agg #[.int .i64 1, .int .i64 tx, .int .i64 ix, .int .i64 pk, .int .i64 pn, .string b, .int .i64 ct, .int .u32 sm]] w fun e w' => e = .returned (.int .i64 1) ∧ Below w.heap.size w w' := by
  have b1 : decide (1 ≤ tx) = true := by simpa using a1
  have b2 : decide (tx ≤ 4294967295) = true := by simpa using a2
  have b3 : decide (0 ≤ ix) = true := by simpa using a3
  have b4 : decide (ix ≤ 999) = true := by simpa using a4
  have d0 : decide (0 ≤ pk) = true := by simpa using c0
  have d1 : decide (pk ≤ 4) = true := by simpa using c1
  have d2 : decide (0 ≤ pn) = true := by simpa using c2
  have d3 : decide (pn ≤ 999) = true := by simpa using c3
  have d4 : decide ((b.size : Int) ≤ 230) = true := by simp; omega
  have d5 : decide (0 < pk) = true := by simpa using c5
  have e0 : (ct == 0) = false := by simpa using z
  clear z
  go_enter Tryz.func85, Tryz.ntmps85
  go_wp2_with fail
  go_ret
  exact ⟨rfl, ((Below.refl _ _).alloc (Nat.le_refl _) _).alloc (by simp) _⟩
set_option maxHeartbeats 1000000 in
theorem rc1_sma (tx ix pk pn ct sm : Int) (b : ByteArray) (w : World) (a1 : 1 ≤ tx) (a2 : tx ≤ 4294967295) (a3 : 0 ≤ ix) (a4 : ix ≤ 999) (c0 : 0 ≤ pk) (c1 : pk ≤ 4) (c2 : 0 ≤ pn) (c3 : pn ≤ 999) (c4 : b.size ≤ 230) (c5 : 0 < pk) (z : ct = 0) (y : sm ≠ 0) :
    Calls Tryz.prog 85 #[.agg #[.int .i64 1, .int .i64 tx, .int .i64 ix, .int .i64 pk, .int .i64 pn, .string b, .int .i64 ct, .int .u32 sm]] w fun e w' => e = .returned (.int .i64 1) ∧ Below w.heap.size w w' := by
  have b1 : decide (1 ≤ tx) = true := by simpa using a1
  have b2 : decide (tx ≤ 4294967295) = true := by simpa using a2
  have b3 : decide (0 ≤ ix) = true := by simpa using a3
  have b4 : decide (ix ≤ 999) = true := by simpa using a4
  have d0 : decide (0 ≤ pk) = true := by simpa using c0
  have d1 : decide (pk ≤ 4) = true := by simpa using c1
  have d2 : decide (0 ≤ pn) = true := by simpa using c2
  have d3 : decide (pn ≤ 999) = true := by simpa using c3
  have d4 : decide ((b.size : Int) ≤ 230) = true := by simp; omega
  have d5 : decide (0 < pk) = true := by simpa using c5
  subst z
  have e0 : (sm == 0) = false := by simpa using y
  clear y
  go_enter Tryz.func85, Tryz.ntmps85
  go_wp2_with fail
  go_ret
  exact ⟨rfl, ((Below.refl _ _).alloc (Nat.le_refl _) _).alloc (by simp) _⟩
set_option maxHeartbeats 1000000 in
theorem rc1_yesa (tx ix pk pn ct sm : Int) (b : ByteArray) (w : World) (a1 : 1 ≤ tx) (a2 : tx ≤ 4294967295) (a3 : 0 ≤ ix) (a4 : ix ≤ 999) (c0 : 0 ≤ pk) (c1 : pk ≤ 4) (c2 : 0 ≤ pn) (c3 : pn ≤ 999) (c4 : b.size ≤ 230) (c5 : 0 < pk) (z : ct = 0) (y : sm = 0) :
    Calls Tryz.prog 85 #[.agg #[.int .i64 1, .int .i64 tx, .int .i64 ix, .int .i64 pk, .int .i64 pn, .string b, .int .i64 ct, .int .u32 sm]] w fun e w' => e = .returned (.int .i64 0) ∧ Below w.heap.size w w' := by
  have b1 : decide (1 ≤ tx) = true := by simpa using a1
  have b2 : decide (tx ≤ 4294967295) = true := by simpa using a2
  have b3 : decide (0 ≤ ix) = true := by simpa using a3
  have b4 : decide (ix ≤ 999) = true := by simpa using a4
  have d0 : decide (0 ≤ pk) = true := by simpa using c0
  have d1 : decide (pk ≤ 4) = true := by simpa using c1
  have d2 : decide (0 ≤ pn) = true := by simpa using c2
  have d3 : decide (pn ≤ 999) = true := by simpa using c3
  have d4 : decide ((b.size : Int) ≤ 230) = true := by simp; omega
  have d5 : decide (0 < pk) = true := by simpa using c5
  subst z y
  go_enter Tryz.func85, Tryz.ntmps85
  go_wp2_with fail
  go_ret
  exact ⟨rfl, ((Below.refl _ _).alloc (Nat.le_refl _) _).alloc (by simp) _⟩
set_option maxHeartbeats 1000000 in
theorem rc1_ctb (tx ix pk pn ct sm : Int) (b : ByteArray) (w : World) (a1 : 1 ≤ tx) (a2 : tx ≤ 4294967295) (a3 : 0 ≤ ix) (a4 : ix ≤ 999) (c0 : 0 ≤ pk) (c1 : pk ≤ 4) (c2 : 0 ≤ pn) (c3 : pn ≤ 999) (c4 : b.size ≤ 230) (c5 : pk = 0) (c6 : b.toList.isEmpty = true) (z : ct ≠ 0) :
    Calls Tryz.prog 85 #[.agg #[.int .i64 1, .int .i64 tx, .int .i64 ix, .int .i64 pk, .int .i64 pn, .string b, .int .i64 ct, .int .u32 sm]] w fun e w' => e = .returned (.int .i64 1) ∧ Below w.heap.size w w' := by
  have b1 : decide (1 ≤ tx) = true := by simpa using a1
  have b2 : decide (tx ≤ 4294967295) = true := by simpa using a2
  have b3 : decide (0 ≤ ix) = true := by simpa using a3
  have b4 : decide (ix ≤ 999) = true := by simpa using a4
  have d0 : decide (0 ≤ pk) = true := by simpa using c0
  have d1 : decide (pk ≤ 4) = true := by simpa using c1
  have d2 : decide (0 ≤ pn) = true := by simpa using c2
  have d3 : decide (pn ≤ 999) = true := by simpa using c3
  have d4 : decide ((b.size : Int) ≤ 230) = true := by simp; omega
  subst c5
  have e0 : (ct == 0) = false := by simpa using z
  clear z
  go_enter Tryz.func85, Tryz.ntmps85
  go_wp2_with fail
  go_ret
  exact ⟨rfl, ((Below.refl _ _).alloc (Nat.le_refl _) _).alloc (by simp) _⟩
set_option maxHeartbeats 1000000 in
theorem rc1_smb (tx ix pk pn ct sm : Int) (b : ByteArray) (w : World) (a1 : 1 ≤ tx) (a2 : tx ≤ 4294967295) (a3 : 0 ≤ ix) (a4 : ix ≤ 999) (c0 : 0 ≤ pk) (c1 : pk ≤ 4) (c2 : 0 ≤ pn) (c3 : pn ≤ 999) (c4 : b.size ≤ 230) (c5 : pk = 0) (c6 : b.toList.isEmpty = true) (z : ct = 0) (y : sm ≠ 0) :
    Calls Tryz.prog 85 #[.agg #[.int .i64 1, .int .i64 tx, .int .i64 ix, .int .i64 pk, .int .i64 pn, .string b, .int .i64 ct, .int .u32 sm]] w fun e w' => e = .returned (.int .i64 1) ∧ Below w.heap.size w w' := by
  have b1 : decide (1 ≤ tx) = true := by simpa using a1
  have b2 : decide (tx ≤ 4294967295) = true := by simpa using a2
  have b3 : decide (0 ≤ ix) = true := by simpa using a3
  have b4 : decide (ix ≤ 999) = true := by simpa using a4
  have d0 : decide (0 ≤ pk) = true := by simpa using c0
  have d1 : decide (pk ≤ 4) = true := by simpa using c1
  have d2 : decide (0 ≤ pn) = true := by simpa using c2
  have d3 : decide (pn ≤ 999) = true := by simpa using c3
  have d4 : decide ((b.size : Int) ≤ 230) = true := by simp; omega
  subst c5
  subst z
  have e0 : (sm == 0) = false := by simpa using y
  clear y
  go_enter Tryz.func85, Tryz.ntmps85
  go_wp2_with fail
  go_ret
  exact ⟨rfl, ((Below.refl _ _).alloc (Nat.le_refl _) _).alloc (by simp) _⟩
set_option maxHeartbeats 1000000 in
theorem rc1_yesb (tx ix pk pn ct sm : Int) (b : ByteArray) (w : World) (a1 : 1 ≤ tx) (a2 : tx ≤ 4294967295) (a3 : 0 ≤ ix) (a4 : ix ≤ 999) (c0 : 0 ≤ pk) (c1 : pk ≤ 4) (c2 : 0 ≤ pn) (c3 : pn ≤ 999) (c4 : b.size ≤ 230) (c5 : pk = 0) (c6 : b.toList.isEmpty = true) (z : ct = 0) (y : sm = 0) :
    Calls Tryz.prog 85 #[.agg #[.int .i64 1, .int .i64 tx, .int .i64 ix, .int .i64 pk, .int .i64 pn, .string b, .int .i64 ct, .int .u32 sm]] w fun e w' => e = .returned (.int .i64 0) ∧ Below w.heap.size w w' := by
  have b1 : decide (1 ≤ tx) = true := by simpa using a1
  have b2 : decide (tx ≤ 4294967295) = true := by simpa using a2
  have b3 : decide (0 ≤ ix) = true := by simpa using a3
  have b4 : decide (ix ≤ 999) = true := by simpa using a4
  have d0 : decide (0 ≤ pk) = true := by simpa using c0
  have d1 : decide (pk ≤ 4) = true := by simpa using c1
  have d2 : decide (0 ≤ pn) = true := by simpa using c2
  have d3 : decide (pn ≤ 999) = true := by simpa using c3
  have d4 : decide ((b.size : Int) ≤ 230) = true := by simp; omega
  subst c5
  subst z y
  go_enter Tryz.func85, Tryz.ntmps85
  go_wp2_with fail
  go_ret
  exact ⟨rfl, ((Below.refl _ _).alloc (Nat.le_refl _) _).alloc (by simp) _⟩
set_option maxHeartbeats 1000000 in
theorem rc2_lo (tx ix pk pn ct sm : Int) (b : ByteArray) (w : World) (a1 : 1 ≤ tx) (a2 : tx ≤ 4294967295) (a3 : 0 ≤ ix) (a4 : ix ≤ 999) (z : ¬ 1 ≤ ct) :
    Calls Tryz.prog 85 #[.agg #[.int .i64 2, .int .i64 tx, .int .i64 ix, .int .i64 pk, .int .i64 pn, .string b, .int .i64 ct, .int .u32 sm]] w fun e w' => e = .returned (.int .i64 1) ∧ Below w.heap.size w w' := by
  have b1 : decide (1 ≤ tx) = true := by simpa using a1
  have b2 : decide (tx ≤ 4294967295) = true := by simpa using a2
  have b3 : decide (0 ≤ ix) = true := by simpa using a3
  have b4 : decide (ix ≤ 999) = true := by simpa using a4
  have d0 : decide (1 ≤ ct) = false := by simpa using z
  clear z
  go_enter Tryz.func85, Tryz.ntmps85
  go_wp2_with fail
  go_ret
  exact ⟨rfl, ((Below.refl _ _).alloc (Nat.le_refl _) _).alloc (by simp) _⟩
set_option maxHeartbeats 1000000 in
theorem rc2_hi (tx ix pk pn ct sm : Int) (b : ByteArray) (w : World) (a1 : 1 ≤ tx) (a2 : tx ≤ 4294967295) (a3 : 0 ≤ ix) (a4 : ix ≤ 999) (z : 1 ≤ ct) (y : ¬ ct ≤ 999) :
    Calls Tryz.prog 85 #[.agg #[.int .i64 2, .int .i64 tx, .int .i64 ix, .int .i64 pk, .int .i64 pn, .string b, .int .i64 ct, .int .u32 sm]] w fun e w' => e = .returned (.int .i64 1) ∧ Below w.heap.size w w' := by
  have b1 : decide (1 ≤ tx) = true := by simpa using a1
  have b2 : decide (tx ≤ 4294967295) = true := by simpa using a2
  have b3 : decide (0 ≤ ix) = true := by simpa using a3
  have b4 : decide (ix ≤ 999) = true := by simpa using a4
  have d0 : decide (1 ≤ ct) = true := by simpa using z
  have d1 : decide (ct ≤ 999) = false := by simpa using y
  clear y
  go_enter Tryz.func85, Tryz.ntmps85
  go_wp2_with fail
  go_ret
  exact ⟨rfl, ((Below.refl _ _).alloc (Nat.le_refl _) _).alloc (by simp) _⟩
set_option maxHeartbeats 1000000 in
theorem rc2_ix (tx ix pk pn ct sm : Int) (b : ByteArray) (w : World) (a1 : 1 ≤ tx) (a2 : tx ≤ 4294967295) (a3 : 0 ≤ ix) (a4 : ix ≤ 999) (z : 1 ≤ ct) (y : ct ≤ 999) (x : ix ≠ ct) :
    Calls Tryz.prog 85 #[.agg #[.int .i64 2, .int .i64 tx, .int .i64 ix, .int .i64 pk, .int .i64 pn, .string b, .int .i64 ct, .int .u32 sm]] w fun e w' => e = .returned (.int .i64 1) ∧ Below w.heap.size w w' := by
  have b1 : decide (1 ≤ tx) = true := by simpa using a1
  have b2 : decide (tx ≤ 4294967295) = true := by simpa using a2
  have b3 : decide (0 ≤ ix) = true := by simpa using a3
  have b4 : decide (ix ≤ 999) = true := by simpa using a4
  have d0 : decide (1 ≤ ct) = true := by simpa using z
  have d1 : decide (ct ≤ 999) = true := by simpa using y
  have d2 : (ix == ct) = false := by simpa using x
  clear x
  go_enter Tryz.func85, Tryz.ntmps85
  go_wp2_with fail
  go_ret
  exact ⟨rfl, ((Below.refl _ _).alloc (Nat.le_refl _) _).alloc (by simp) _⟩
set_option maxHeartbeats 1000000 in
theorem rc2_np (tx ix pk pn ct sm : Int) (b : ByteArray) (w : World) (a1 : 1 ≤ tx) (a2 : tx ≤ 4294967295) (a3 : 0 ≤ ix) (a4 : ix ≤ 999) (z : 1 ≤ ct) (y : ct ≤ 999) (x : ix = ct) (h : noP pk pn b = false) :
    Calls Tryz.prog 85 #[.agg #[.int .i64 2, .int .i64 tx, .int .i64 ix, .int .i64 pk, .int .i64 pn, .string b, .int .i64 ct, .int .u32 sm]] w fun e w' => e = .returned (.int .i64 1) ∧ Below w.heap.size w w' := by
  have b1 : decide (1 ≤ tx) = true := by simpa using a1
  have b2 : decide (tx ≤ 4294967295) = true := by simpa using a2
  have b3 : decide (0 ≤ ix) = true := by simpa using a3
  have b4 : decide (ix ≤ 999) = true := by simpa using a4
  have d0 : decide (1 ≤ ct) = true := by simpa using z
  have d1 : decide (ct ≤ 999) = true := by simpa using y
  subst x
  have heq := eq23
  have hp : pageB pk pn 0 0 b ⟨#[]⟩ = false := h
  clear h
  go_enter Tryz.func85, Tryz.ntmps85
  go_wp2_with fail
  go_ret
  exact ⟨rfl, ((Below.refl _ _).alloc (Nat.le_refl _) _).alloc (by simp) _⟩
set_option maxHeartbeats 1000000 in
theorem rc2_yes (tx ix pk pn ct sm : Int) (b : ByteArray) (w : World) (a1 : 1 ≤ tx) (a2 : tx ≤ 4294967295) (a3 : 0 ≤ ix) (a4 : ix ≤ 999) (z : 1 ≤ ct) (y : ct ≤ 999) (x : ix = ct) (h : noP pk pn b = true) :
    Calls Tryz.prog 85 #[.agg #[.int .i64 2, .int .i64 tx, .int .i64 ix, .int .i64 pk, .int .i64 pn, .string b, .int .i64 ct, .int .u32 sm]] w fun e w' => e = .returned (.int .i64 0) ∧ Below w.heap.size w w' := by
  have b1 : decide (1 ≤ tx) = true := by simpa using a1
  have b2 : decide (tx ≤ 4294967295) = true := by simpa using a2
  have b3 : decide (0 ≤ ix) = true := by simpa using a3
  have b4 : decide (ix ≤ 999) = true := by simpa using a4
  have d0 : decide (1 ≤ ct) = true := by simpa using z
  have d1 : decide (ct ≤ 999) = true := by simpa using y
  subst x
  have heq := eq23
  have hp : pageB pk pn 0 0 b ⟨#[]⟩ = true := h
  clear h
  go_enter Tryz.func85, Tryz.ntmps85
  go_wp2_with fail
  go_ret
  exact ⟨rfl, ((Below.refl _ _).alloc (Nat.le_refl _) _).alloc (by simp) _⟩
set_option maxHeartbeats 1000000 in
theorem rc3_np (tx ix pk pn ct sm : Int) (b : ByteArray) (w : World) (a1 : 1 ≤ tx) (a2 : tx ≤ 4294967295) (a3 : 0 ≤ ix) (a4 : ix ≤ 999) (h : noP pk pn b = false) :
    Calls Tryz.prog 85 #[.agg #[.int .i64 3, .int .i64 tx, .int .i64 ix, .int .i64 pk, .int .i64 pn, .string b, .int .i64 ct, .int .u32 sm]] w fun e w' => e = .returned (.int .i64 1) ∧ Below w.heap.size w w' := by
  have b1 : decide (1 ≤ tx) = true := by simpa using a1
  have b2 : decide (tx ≤ 4294967295) = true := by simpa using a2
  have b3 : decide (0 ≤ ix) = true := by simpa using a3
  have b4 : decide (ix ≤ 999) = true := by simpa using a4
  have heq := eq23
  have hp : pageB pk pn 0 0 b ⟨#[]⟩ = false := h
  clear h
  go_enter Tryz.func85, Tryz.ntmps85
  go_wp2_with fail
  go_ret
  exact ⟨rfl, ((Below.refl _ _).alloc (Nat.le_refl _) _).alloc (by simp) _⟩
set_option maxHeartbeats 1000000 in
theorem rc3_ct (tx ix pk pn ct sm : Int) (b : ByteArray) (w : World) (a1 : 1 ≤ tx) (a2 : tx ≤ 4294967295) (a3 : 0 ≤ ix) (a4 : ix ≤ 999) (h : noP pk pn b = true) (z : ct ≠ 0) :
    Calls Tryz.prog 85 #[.agg #[.int .i64 3, .int .i64 tx, .int .i64 ix, .int .i64 pk, .int .i64 pn, .string b, .int .i64 ct, .int .u32 sm]] w fun e w' => e = .returned (.int .i64 1) ∧ Below w.heap.size w w' := by
  have b1 : decide (1 ≤ tx) = true := by simpa using a1
  have b2 : decide (tx ≤ 4294967295) = true := by simpa using a2
  have b3 : decide (0 ≤ ix) = true := by simpa using a3
  have b4 : decide (ix ≤ 999) = true := by simpa using a4
  have heq := eq23
  have hp : pageB pk pn 0 0 b ⟨#[]⟩ = true := h
  clear h
  have e0 : (ct == 0) = false := by simpa using z
  clear z
  go_enter Tryz.func85, Tryz.ntmps85
  go_wp2_with fail
  go_ret
  exact ⟨rfl, ((Below.refl _ _).alloc (Nat.le_refl _) _).alloc (by simp) _⟩
set_option maxHeartbeats 1000000 in
theorem rc3_sm (tx ix pk pn ct sm : Int) (b : ByteArray) (w : World) (a1 : 1 ≤ tx) (a2 : tx ≤ 4294967295) (a3 : 0 ≤ ix) (a4 : ix ≤ 999) (h : noP pk pn b = true) (z : ct = 0) (y : sm ≠ 0) :
    Calls Tryz.prog 85 #[.agg #[.int .i64 3, .int .i64 tx, .int .i64 ix, .int .i64 pk, .int .i64 pn, .string b, .int .i64 ct, .int .u32 sm]] w fun e w' => e = .returned (.int .i64 1) ∧ Below w.heap.size w w' := by
  have b1 : decide (1 ≤ tx) = true := by simpa using a1
  have b2 : decide (tx ≤ 4294967295) = true := by simpa using a2
  have b3 : decide (0 ≤ ix) = true := by simpa using a3
  have b4 : decide (ix ≤ 999) = true := by simpa using a4
  have heq := eq23
  have hp : pageB pk pn 0 0 b ⟨#[]⟩ = true := h
  clear h
  subst z
  have e0 : (sm == 0) = false := by simpa using y
  clear y
  go_enter Tryz.func85, Tryz.ntmps85
  go_wp2_with fail
  go_ret
  exact ⟨rfl, ((Below.refl _ _).alloc (Nat.le_refl _) _).alloc (by simp) _⟩
set_option maxHeartbeats 1000000 in
theorem rc3_yes (tx ix pk pn ct sm : Int) (b : ByteArray) (w : World) (a1 : 1 ≤ tx) (a2 : tx ≤ 4294967295) (a3 : 0 ≤ ix) (a4 : ix ≤ 999) (h : noP pk pn b = true) (z : ct = 0) (y : sm = 0) :
    Calls Tryz.prog 85 #[.agg #[.int .i64 3, .int .i64 tx, .int .i64 ix, .int .i64 pk, .int .i64 pn, .string b, .int .i64 ct, .int .u32 sm]] w fun e w' => e = .returned (.int .i64 0) ∧ Below w.heap.size w w' := by
  have b1 : decide (1 ≤ tx) = true := by simpa using a1
  have b2 : decide (tx ≤ 4294967295) = true := by simpa using a2
  have b3 : decide (0 ≤ ix) = true := by simpa using a3
  have b4 : decide (ix ≤ 999) = true := by simpa using a4
  have heq := eq23
  have hp : pageB pk pn 0 0 b ⟨#[]⟩ = true := h
  clear h
  subst z y
  go_enter Tryz.func85, Tryz.ntmps85
  go_wp2_with fail
  go_ret
  exact ⟨rfl, ((Below.refl _ _).alloc (Nat.le_refl _) _).alloc (by simp) _⟩
end Go.Proofs.YtgihpdhkjneimaaGreatDoor.En

/- Check of the document's answer for entry, as one. -/
namespace Go.Proofs.YtgihpdhkjneimaaGreatDoor.En
open Go.RowKit
open Go.Lib (hid)
theorem refcheck_yes (kd tx ix pk pn ct sm : Int) (b : ByteArray) (w : World) (h : mayE kd tx ix pk pn b ct sm) :
    Calls Tryz.prog 85 #[.agg #[.int .i64 kd, .int .i64 tx, .int .i64 ix, .int .i64 pk, .int .i64 pn, .string b, .int .i64 ct, .int .u32 sm]] w fun e w' => e = .returned (.int .i64 0) ∧ Below w.heap.size w w' := by
  obtain ⟨a1, a2, a3, a4, hr⟩ := h
  rcases hr with ⟨rfl, ⟨m1, m2, m3, m4, m5, m6⟩, hc, hs⟩ | ⟨rfl, hc, hi, hp⟩ | ⟨rfl, hp, hc, hs⟩
  · by_cases h0 : pk = 0
    · exact rc1_yesb tx ix pk pn ct sm b w a1 a2 a3 a4 m2 (by omega) m4 m5 m6 h0 (m1 h0) hc hs
    · exact rc1_yesa tx ix pk pn ct sm b w a1 a2 a3 a4 m2 (by omega) m4 m5 m6 (by omega) hc hs
  · exact rc2_yes tx ix pk pn ct sm b w a1 a2 a3 a4 hc (by omega) hi.symm hp
  · exact rc3_yes tx ix pk pn ct sm b w a1 a2 a3 a4 hp hc hs
theorem rc_lo (kd tx ix pk pn ct sm : Int) (b : ByteArray) (w : World) (e : tx < 1) :
    Calls Tryz.prog 85 #[.agg #[.int .i64 kd, .int .i64 tx, .int .i64 ix, .int .i64 pk, .int .i64 pn, .string b, .int .i64 ct, .int .u32 sm]] w fun e w' => e = .returned (.int .i64 1) ∧ Below w.heap.size w w' := by
  by_cases h1 : kd = 1
  · subst h1; exact rc_lo1 tx ix pk pn ct sm b w e
  · by_cases h2 : kd = 2
    · subst h2; exact rc_lo2 tx ix pk pn ct sm b w e
    · by_cases h3 : kd = 3
      · subst h3; exact rc_lo3 tx ix pk pn ct sm b w e
      · exact rc_lo0 kd tx ix pk pn ct sm b w h1 h2 h3 e
theorem rc_hi (kd tx ix pk pn ct sm : Int) (b : ByteArray) (w : World) (e : 4294967295 < tx) :
    Calls Tryz.prog 85 #[.agg #[.int .i64 kd, .int .i64 tx, .int .i64 ix, .int .i64 pk, .int .i64 pn, .string b, .int .i64 ct, .int .u32 sm]] w fun e w' => e = .returned (.int .i64 1) ∧ Below w.heap.size w w' := by
  by_cases h1 : kd = 1
  · subst h1; exact rc_hi1 tx ix pk pn ct sm b w e
  · by_cases h2 : kd = 2
    · subst h2; exact rc_hi2 tx ix pk pn ct sm b w e
    · by_cases h3 : kd = 3
      · subst h3; exact rc_hi3 tx ix pk pn ct sm b w e
      · exact rc_hi0 kd tx ix pk pn ct sm b w h1 h2 h3 e
theorem rc_il (kd tx ix pk pn ct sm : Int) (b : ByteArray) (w : World) (e : 1 ≤ tx) (e' : tx ≤ 4294967295) (i : ix < 0) :
    Calls Tryz.prog 85 #[.agg #[.int .i64 kd, .int .i64 tx, .int .i64 ix, .int .i64 pk, .int .i64 pn, .string b, .int .i64 ct, .int .u32 sm]] w fun e w' => e = .returned (.int .i64 1) ∧ Below w.heap.size w w' := by
  by_cases h1 : kd = 1
  · subst h1; exact rc_il1 tx ix pk pn ct sm b w e e' i
  · by_cases h2 : kd = 2
    · subst h2; exact rc_il2 tx ix pk pn ct sm b w e e' i
    · by_cases h3 : kd = 3
      · subst h3; exact rc_il3 tx ix pk pn ct sm b w e e' i
      · exact rc_il0 kd tx ix pk pn ct sm b w h1 h2 h3 e e' i
theorem rc_ih (kd tx ix pk pn ct sm : Int) (b : ByteArray) (w : World) (e : 1 ≤ tx) (e' : tx ≤ 4294967295) (i : 999 < ix) :
    Calls Tryz.prog 85 #[.agg #[.int .i64 kd, .int .i64 tx, .int .i64 ix, .int .i64 pk, .int .i64 pn, .string b, .int .i64 ct, .int .u32 sm]] w fun e w' => e = .returned (.int .i64 1) ∧ Below w.heap.size w w' := by
  by_cases h1 : kd = 1
  · subst h1; exact rc_ih1 tx ix pk pn ct sm b w e e' i
  · by_cases h2 : kd = 2
    · subst h2; exact rc_ih2 tx ix pk pn ct sm b w e e' i
    · by_cases h3 : kd = 3
      · subst h3; exact rc_ih3 tx ix pk pn ct sm b w e e' i
      · exact rc_ih0 kd tx ix pk pn ct sm b w h1 h2 h3 e e' i
theorem rc_one (tx ix pk pn ct sm : Int) (b : ByteArray) (w : World) (a1 : 1 ≤ tx) (a2 : tx ≤ 4294967295) (a3 : 0 ≤ ix) (a4 : ix ≤ 999) (h : ¬ (mayS pk pn b ∧ ct = 0 ∧ sm = 0)) :
    Calls Tryz.prog 85 #[.agg #[.int .i64 1, .int .i64 tx, .int .i64 ix, .int .i64 pk, .int .i64 pn, .string b, .int .i64 ct, .int .u32 sm]] w fun e w' => e = .returned (.int .i64 1) ∧ Below w.heap.size w w' := by
  by_cases c0 : 0 ≤ pk
  · by_cases c1 : pk ≤ 4
    · by_cases c2 : 0 ≤ pn
      · by_cases c3 : pn ≤ 999
        · by_cases c4 : b.size ≤ 230
          · by_cases c5 : pk = 0
            · cases c6 : b.toList.isEmpty with
              | false => exact rc1_u tx ix pk pn ct sm b w a1 a2 a3 a4 c0 c1 c2 c3 c4 c5 c6
              | true =>
                by_cases z : ct = 0
                · by_cases y : sm = 0
                  · exact absurd ⟨⟨fun _ => c6, c0, by omega, c2, c3, c4⟩, z, y⟩ h
                  · exact rc1_smb tx ix pk pn ct sm b w a1 a2 a3 a4 c0 c1 c2 c3 c4 c5 c6 z y
                · exact rc1_ctb tx ix pk pn ct sm b w a1 a2 a3 a4 c0 c1 c2 c3 c4 c5 c6 z
            · by_cases z : ct = 0
              · by_cases y : sm = 0
                · exact absurd ⟨⟨fun h0 => absurd h0 c5, c0, by omega, c2, c3, c4⟩, z, y⟩ h
                · exact rc1_sma tx ix pk pn ct sm b w a1 a2 a3 a4 c0 c1 c2 c3 c4 (by omega) z y
              · exact rc1_cta tx ix pk pn ct sm b w a1 a2 a3 a4 c0 c1 c2 c3 c4 (by omega) z
          · exact rc1_t tx ix pk pn ct sm b w a1 a2 a3 a4 c0 c1 c2 c3 (by omega)
        · exact rc1_s tx ix pk pn ct sm b w a1 a2 a3 a4 c0 c1 c2 c3
      · exact rc1_r tx ix pk pn ct sm b w a1 a2 a3 a4 c0 c1 c2
    · exact rc1_q tx ix pk pn ct sm b w a1 a2 a3 a4 c0 c1
  · exact rc1_p tx ix pk pn ct sm b w a1 a2 a3 a4 c0
theorem rc_two (tx ix pk pn ct sm : Int) (b : ByteArray) (w : World) (a1 : 1 ≤ tx) (a2 : tx ≤ 4294967295) (a3 : 0 ≤ ix) (a4 : ix ≤ 999) (h : ¬ (1 ≤ ct ∧ ct = ix ∧ noP pk pn b = true)) :
    Calls Tryz.prog 85 #[.agg #[.int .i64 2, .int .i64 tx, .int .i64 ix, .int .i64 pk, .int .i64 pn, .string b, .int .i64 ct, .int .u32 sm]] w fun e w' => e = .returned (.int .i64 1) ∧ Below w.heap.size w w' := by
  by_cases z : 1 ≤ ct
  · by_cases y : ct ≤ 999
    · by_cases x : ix = ct
      · cases hp : noP pk pn b with
        | true => exact absurd ⟨z, x.symm, hp⟩ h
        | false => exact rc2_np tx ix pk pn ct sm b w a1 a2 a3 a4 z y x hp
      · exact rc2_ix tx ix pk pn ct sm b w a1 a2 a3 a4 z y x
    · exact rc2_hi tx ix pk pn ct sm b w a1 a2 a3 a4 z y
  · exact rc2_lo tx ix pk pn ct sm b w a1 a2 a3 a4 z
theorem rc_three (tx ix pk pn ct sm : Int) (b : ByteArray) (w : World) (a1 : 1 ≤ tx) (a2 : tx ≤ 4294967295) (a3 : 0 ≤ ix) (a4 : ix ≤ 999) (h : ¬ (noP pk pn b = true ∧ ct = 0 ∧ sm = 0)) :
    Calls Tryz.prog 85 #[.agg #[.int .i64 3, .int .i64 tx, .int .i64 ix, .int .i64 pk, .int .i64 pn, .string b, .int .i64 ct, .int .u32 sm]] w fun e w' => e = .returned (.int .i64 1) ∧ Below w.heap.size w w' := by
  cases hp : noP pk pn b with
  | true =>
    by_cases z : ct = 0
    · by_cases y : sm = 0
      · exact absurd ⟨hp, z, y⟩ h
      · exact rc3_sm tx ix pk pn ct sm b w a1 a2 a3 a4 hp z y
    · exact rc3_ct tx ix pk pn ct sm b w a1 a2 a3 a4 hp z
  | false => exact rc3_np tx ix pk pn ct sm b w a1 a2 a3 a4 hp
theorem refcheck_no (kd tx ix pk pn ct sm : Int) (b : ByteArray) (w : World) (h : ¬ mayE kd tx ix pk pn b ct sm) :
    Calls Tryz.prog 85 #[.agg #[.int .i64 kd, .int .i64 tx, .int .i64 ix, .int .i64 pk, .int .i64 pn, .string b, .int .i64 ct, .int .u32 sm]] w fun e w' => e = .returned (.int .i64 1) ∧ Below w.heap.size w w' := by
  by_cases a1 : 1 ≤ tx
  · by_cases a2 : tx ≤ 4294967295
    · by_cases a3 : 0 ≤ ix
      · by_cases a4 : ix ≤ 999
        · have hr : ¬ restP kd ix pk pn b ct sm := fun hr => h ⟨a1, a2, a3, a4, hr⟩
          by_cases h1 : kd = 1
          · subst h1; exact rc_one tx ix pk pn ct sm b w a1 a2 a3 a4 (fun ⟨h2, h3, h4⟩ => hr (Or.inl ⟨rfl, h2, h3, h4⟩))
          · by_cases h2 : kd = 2
            · subst h2; exact rc_two tx ix pk pn ct sm b w a1 a2 a3 a4 (fun ⟨h3, h4, h5⟩ => hr (Or.inr (Or.inl ⟨rfl, h3, h4, h5⟩)))
            · by_cases h3 : kd = 3
              · subst h3; exact rc_three tx ix pk pn ct sm b w a1 a2 a3 a4 (fun ⟨h4, h5, h6⟩ => hr (Or.inr (Or.inr ⟨rfl, h4, h5, h6⟩)))
              · exact rc_0 kd tx ix pk pn ct sm b w h1 h2 h3 a1 a2 a3 a4
        · exact rc_ih kd tx ix pk pn ct sm b w a1 a2 (by omega)
      · exact rc_il kd tx ix pk pn ct sm b w a1 a2 (by omega)
    · exact rc_hi kd tx ix pk pn ct sm b w (by omega)
  · exact rc_lo kd tx ix pk pn ct sm b w (by omega)
end Go.Proofs.YtgihpdhkjneimaaGreatDoor.En

/- A number of an area, or none; the closure that read asks. -/
namespace Go.Proofs.YtgihpdhkjneimaaGreatDoor.En
open Go.RowKit
open Go.Lib (hid)
open Go.Proofs.YtgihpdhkjneimaaGreatDoor.Fd (Area Row be be_length num getAt putAt num_lt getAt_length isRange)

/-- a number, where the area has it -/
def getOr (l : List UInt8) (o wd : Nat) : Nat := if o + wd ≤ l.length then num (getAt l o wd) else 0
theorem getOr_lt (l : List UInt8) (o wd : Nat) (h : wd ≤ 4) : getOr l o wd < 4294967296 := by
  unfold getOr
  split
  · rename_i hl
    have h1 := num_lt (getAt l o wd)
    rw [getAt_length l o wd hl] at h1
    exact Nat.lt_of_lt_of_le h1 (Nat.pow_le_pow_right (by decide) h)
  · decide
theorem get_any (A B : Nat) (l : List UInt8) (o wd : Nat) (w : World) (ha : Area 178 w A B l) (hw : wd = 1 ∨ wd = 2 ∨ wd = 4) (ho : o ≤ 1000000) :
    Calls Tryz.prog 147 #[.pointer (some ⟨A, 0, none⟩), .int .i64 (o : Int), .int .i64 (wd : Int)] w fun e w' => (∃ x : Int, e = .returned (.tuple #[.int .u32 (getOr l o wd : Int), .int .i64 x])) ∧ w = w' := by
  unfold getOr
  by_cases h : o + wd ≤ l.length
  · rw [if_pos h]
    exact (Fd.get_ok A B l o wd w ha hw h).mono fun e w' ⟨h1, h2⟩ => ⟨⟨0, h1⟩, h2⟩
  · rw [if_neg h]
    exact (Fd.get_bad _ o wd w (Fd.number_no A B l o wd w ha (by unfold isRange; omega) (by omega) (by omega))).mono fun e w' ⟨h1, h2⟩ => ⟨⟨1, h1⟩, h2⟩
set_option maxRecDepth 100000 in
set_option maxHeartbeats 1000000 in
theorem read1_ok (A B G : Nat) (l : List UInt8) (o wd : Nat) (w : World) (ha : Area 178 w A B l) (hG : w.cell? ⟨G, 0, none⟩ = some (.pointer (some ⟨A, 0, none⟩))) (hw : wd = 1 ∨ wd = 2 ∨ wd = 4) (ho : o ≤ 1000000) (o' wd' : Int) (e1 : o' = o) (e2 : wd' = wd) :
    Calls Tryz.prog 149 #[.int .i64 o', .int .i64 wd', .pointer (some ⟨G, 0, none⟩)] w fun e w' => e = .returned (.int .i64 (getOr l o wd : Int)) ∧ w = w' := by
  subst e1 e2
  have HG := hid (get_any A B l o wd w ha hw ho)
  have hlt := getOr_lt l o wd (by omega)
  generalize getOr l o wd = x at *
  clear ha hw
  go_enter Tryz.func149, Tryz.ntmps149
  go_wp2_with fail
  refine HG.out.mono ?_
  rintro e w1 ⟨⟨y, rfl⟩, rfl⟩
  go_wp2_with fail
  go_ret
  exact ⟨rfl, rfl⟩
end Go.Proofs.YtgihpdhkjneimaaGreatDoor.En
