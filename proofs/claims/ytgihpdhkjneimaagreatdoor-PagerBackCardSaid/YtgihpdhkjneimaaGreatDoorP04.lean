/- Merged out of PgLow, PgSeal. -/
import Derived.Test.YtgihpdhkjneimaaGreatDoorP03
import Derived.Test.YtgihpdhkjneimaaGreatDoorP01
/- Low, Wide and Narrow of the document's answer. -/
namespace Go.Proofs.YtgihpdhkjneimaaGreatDoor.Pg
open Go.RowKit
open Go.Lib (hid)
open Go.Proofs.YtgihpdhkjneimaaGreatDoor.Fd (Area Row Upd rowOf be be_length be_at beB num getAt putAt make_run back_run on_below rowOf_zeros madeBytes size5 info5)
open Go.Proofs.YtgihpdhkjneimaaGreatDoor.Sm (U B32 sumB U_lo U_hi)

theorem row_back (l : List UInt8) (w : World) (n : Nat) (hn : l.length = n) :
    (convert 121 9 (.slice (some ⟨w.heap.size, 0, none⟩) n n)).run Tryz.prog (w.alloc (.cells (rowOf l) 5)) = .ok (.string ⟨l.toArray⟩) (w.alloc (.cells (rowOf l) 5)) := by
  have hr : Row (w.alloc (.cells (rowOf l) 5)) w.heap.size l := by
    unfold Row; rw [heap_alloc_new]
  have := back_run hr 0 n n (by omega)
  have e : getAt l 0 n = l := by rw [← hn]; exact Fd.getAt_all l
  rw [e] at this
  exact this

theorem low_cells (a : B32) : (#[.int .u8 (U a % 256), .int .u8 (U a / 256 % 256), .int .u8 (U a / 65536 % 256), .int .u8 (U a / 16777216)] : Array Value) = rowOf (lowL a.toNat) := by
  have hlt := a.isLt
  rw [lowL_list]
  refine row_four _ _ _ _ _ _ _ _ ?_ ?_ ?_ ?_ <;> rw [beB_mod] <;> unfold U
  · simp
  · simp
  · simp
  · have : ((256 ^ (4 - 1 - 0) : Nat) : Int) = 16777216 := rfl
    rw [this]; omega

set_option maxHeartbeats 400000 in
theorem low_any (a : B32) (w : World) :
    Calls Tryz.prog 107 #[.int .u32 (U a)] w fun e w' => e = .returned (.string ⟨(lowL a.toNat).toArray⟩) ∧ Below w.heap.size w w' := by
  have h0 := U_lo a
  have h1 := U_hi a
  have hb := row_back (lowL a.toNat) w 4 (lowL_length _)
  rw [← low_cells] at hb
  generalize (lowL a.toNat).toArray = t at hb ⊢
  go_enter Tryz.func107, Tryz.ntmps107
  go_wp2_with fail
  go_ret
  exact ⟨rfl, (Below.refl _ _).alloc (Nat.le_refl _) _⟩

theorem be_more (m n : Nat) : be (m + 1) n = UInt8.ofNat (n / 256 ^ m) :: be m n := by
  apply List.ext_getElem?
  intro i
  cases i with
  | zero => rw [be_at _ _ _ (by omega)]; unfold beB; simp
  | succ i =>
    rw [List.getElem?_cons_succ]
    by_cases h : i < m
    · rw [be_at _ _ _ (by omega), be_at _ _ _ h]; unfold beB
      congr 3; congr 1; omega
    · rw [List.getElem?_eq_none (by rw [be_length]; omega), List.getElem?_eq_none (by rw [be_length]; omega)]

theorem one_cell (d : Nat) : (#[.int .u8 ((d : Int) % 256)] : Array Value) = rowOf [UInt8.ofNat d] := by
  unfold rowOf
  simp

theorem div_more (n k : Nat) : n / 256 ^ k / 256 = n / 256 ^ (k + 1) := by rw [Nat.pow_succ, Nat.div_div_eq_div_mul]

set_option maxHeartbeats 400000 in
theorem wide_any (n m : Nat) (w : World) (hn : n ≤ 4611686018427387904) (hm : m ≤ 8) :
    Calls Tryz.prog 84 #[.int .i64 (n : Int), .int .i64 (m : Int)] w fun e w' => e = .returned (.string ⟨(be m n).toArray⟩) ∧ Below w.heap.size w w' := by
  go_enter Tryz.func84, Tryz.ntmps84
  go_wp2_with fail
  go_loopw [0, 5, 6] (fun x s i wr => ∃ k d : Nat, k ≤ m ∧ d ≤ n ∧ d = n / 256 ^ k ∧ i = .int .i64 k ∧ x = .int .i64 (d : Int) ∧ s = .string ⟨(be k n).toArray⟩ ∧ Below w.heap.size w wr) (fun _ _ i _ => m - (intOf i).toNat)
  case atStart => exact ⟨0, n, by omega, by omega, by simp, rfl, rfl, rfl, Below.refl _ _⟩
  case round =>
    obtain ⟨k, d, hk, hd, hdv, rfl, rfl, rfl, hB⟩ := hrel
    have HB := hid hB; clear hB
    have HD := hid hdv; clear hdv
    by_cases hlt : k < m
    · have hb := row_back [UInt8.ofNat d] wr 1 rfl
      rw [← one_cell] at hb
      have hlen : (be k n).length ≤ 8 := by rw [be_length]; omega
      go_wp2_with fail
      go_roundw
      case rel =>
        refine ⟨k + 1, d / 256, by omega, by omega, by rw [HD.out, div_more], by go_num, by simp, ?_, HB.out.alloc HB.out.size _⟩
        rw [be_more, ← HD.out]
        rfl
      case measure => simp [intOf]; omega
    · obtain rfl : k = m := by omega
      go_wp2_with fail
      go_ret
      exact ⟨rfl, HB.out⟩

set_option maxHeartbeats 400000 in
theorem narrow_any (s : ByteArray) (w : World) (hs : s.size ≤ 4) :
    Calls Tryz.prog 104 #[.string s] w fun e w' => e = .returned (.int .i64 (num s.data.toList : Int)) ∧ w = w' := by
  go_enter Tryz.func104, Tryz.ntmps104
  go_wp2_with fail
  go_loop [3, 4] (fun x i => ∃ k m : Nat, k ≤ s.size ∧ m < 4294967296 ∧ m = num (s.data.toList.take k) ∧ i = .int .i64 k ∧ x = .int .i64 (m : Int)) (fun _ i => s.size - (intOf i).toNat)
  case atStart => exact ⟨0, 0, by omega, by omega, by simp [num], rfl, rfl⟩
  case round =>
    obtain ⟨k, m, hk, hm, hmv, rfl, rfl⟩ := hrel
    have HM := hid hmv; clear hmv
    by_cases hlt : k < s.size
    · have hb := (s[k]).toNat_lt
      go_wp2_with fail
      go_round
      case rel =>
        have hsn : s.data.toList.take (k + 1) = s.data.toList.take k ++ [s[k]] := Sm.take_snoc s k hlt
        have hv : num (s.data.toList.take (k + 1)) = 256 * m + (s[k]).toNat := by rw [hsn, Fd.num_snoc, HM.out]
        have hl := Fd.num_lt (s.data.toList.take (k + 1))
        have hlen : (s.data.toList.take (k + 1)).length ≤ 4 := by simp; omega
        have h4 : num (s.data.toList.take (k + 1)) < 4294967296 := Nat.lt_of_lt_of_le hl (Nat.pow_le_pow_right (by decide) hlen)
        exact ⟨k + 1, 256 * m + (s[k]).toNat, by omega, by omega, hv.symm, by go_num, by go_num⟩
      case measure => simp [intOf]; omega
    · obtain rfl : k = s.size := by omega
      go_wp2_with fail
      go_ret
      refine ⟨?_, rfl⟩
      have := HM.out
      rw [List.take_of_length_le (by simp)] at this
      rw [this]; rfl
end Go.Proofs.YtgihpdhkjneimaaGreatDoor.Pg

/- Seal of page: what it returns, whatever page it is called with. -/
namespace Go.Proofs.YtgihpdhkjneimaaGreatDoor.Pg
open Go.RowKit
open Go.Lib (hid)
open Go.Proofs.YtgihpdhkjneimaaGreatDoor.Fd (Area Row Upd rowOf be be_length be_at beB num getAt putAt on_below on_upd)
open Go.Proofs.YtgihpdhkjneimaaGreatDoor.Sm (U B32 sumB U_lo U_hi)

theorem new_256 (w : World) :
    Calls Tryz.prog 117 #[.int .i64 256] w fun e w' => e = .returned (.tuple #[.pointer (some ⟨w.heap.size + 1, 0, none⟩), .int .i64 0]) ∧ Area 178 w' (w.heap.size + 1) w.heap.size (zs 256) ∧ Below w.heap.size w w' := by
  refine (Fd.new_ok 256 w (by decide)).mono ?_
  rintro e w' ⟨rfl, rfl⟩
  exact ⟨rfl, Fd.madeArea_area 178 256 w (by decide), Fd.madeArea_below 178 256 w⟩

/-- block P holds a page -/
structure Box (w : World) (P : Nat) (k n : Int) (b : ByteArray) : Prop where
  c0 : w.cell? ⟨P, 0, none⟩ = some (.int .i64 k)
  c1 : w.cell? ⟨P, 1, none⟩ = some (.int .i64 n)
  c2 : w.cell? ⟨P, 2, none⟩ = some (.string b)
  lt : P < w.heap.size
theorem Box.made (w : World) (k n : Int) (b : ByteArray) : Box (w.alloc (.cells #[.int .i64 k, .int .i64 n, .string b] 69)) w.heap.size k n b := by
  refine ⟨?_, ?_, ?_, by simp⟩ <;> rw [cell_of_row _ _ _ _ _ _ (heap_alloc_new _ _)] <;> rfl
theorem Box.below {w w' : World} {P : Nat} {k n : Int} {b : ByteArray} (h : Box w P k n b) (hb : Below w.heap.size w w') : Box w' P k n b :=
  ⟨by rw [hb.cell (p := ⟨P, 0, none⟩) h.lt]; exact h.c0, by rw [hb.cell (p := ⟨P, 1, none⟩) h.lt]; exact h.c1, by rw [hb.cell (p := ⟨P, 2, none⟩) h.lt]; exact h.c2, Nat.lt_of_lt_of_le h.lt hb.size⟩

set_option maxHeartbeats 400000 in
theorem seal_no (k n : Int) (b : ByteArray) (w : World) (h : ¬ mayP k n b.size) :
    Calls Tryz.prog 77 #[.agg #[.int .i64 k, .int .i64 n, .string b]] w fun e w' => e = .returned (.tuple #[.string ⟨#[]⟩, .int .i64 1]) ∧ Below w.heap.size w w' := by
  have H := hid h; clear h
  go_enter Tryz.func77, Tryz.ntmps77
  go_wp2_with (go_at_call 116; refine (may_no k n b _ H.out).mono ?_; rintro e w' ⟨rfl, hb⟩; have HB := hid hb; clear hb)
  go_ret2
  exact ⟨rfl, ((Below.refl _ _).alloc (Nat.le_refl _) _).trans (HB.out.mono (by simp))⟩

theorem Box.upd {w w' : World} {P B : Nat} {l : List UInt8} {k n : Int} {b : ByteArray} (h : Box w P k n b) (hu : Upd B l w w') (hne : P ≠ B) : Box w' P k n b := by
  have hb := hu.block P h.lt hne
  have hc : ∀ o, w'.cell? ⟨P, o, none⟩ = w.cell? ⟨P, o, none⟩ := fun o => by unfold World.cell?; rw [hb]
  exact ⟨by rw [hc]; exact h.c0, by rw [hc]; exact h.c1, by rw [hc]; exact h.c2, Nat.lt_of_lt_of_le h.lt hu.size⟩

theorem put_a (A B : Nat) (l : List UInt8) (n : Nat) (w : World) (ha : Area 178 w A B l) (h : l.length = 256) (hn : n < 256) :
    Calls Tryz.prog 118 #[.pointer (some ⟨A, 0, none⟩), .int .i64 0, .int .i64 1, .int .u32 (n : Int)] w fun e w' => e = .returned (.int .i64 0) ∧ Upd B (putAt l 0 (be 1 n)) w w' :=
  Fd.put_1 A B l 0 n w ha (by omega) (by omega)
theorem put_b (A B : Nat) (l : List UInt8) (n : Nat) (w : World) (ha : Area 178 w A B l) (h : l.length = 256) (hn : n < 65536) :
    Calls Tryz.prog 118 #[.pointer (some ⟨A, 0, none⟩), .int .i64 2, .int .i64 2, .int .u32 (n : Int)] w fun e w' => e = .returned (.int .i64 0) ∧ Upd B (putAt l 2 (be 2 n)) w w' :=
  Fd.put_2 A B l 2 n w ha (by omega) (by omega)
theorem put_c (A B : Nat) (l : List UInt8) (n : Nat) (w : World) (ha : Area 178 w A B l) (h : l.length = 256) (hn : n < 4294967296) :
    Calls Tryz.prog 118 #[.pointer (some ⟨A, 0, none⟩), .int .i64 4, .int .i64 4, .int .u32 (n : Int)] w fun e w' => e = .returned (.int .i64 0) ∧ Upd B (putAt l 4 (be 4 n)) w w' :=
  Fd.put_4 A B l 4 n w ha (by omega) (by omega)
theorem put_d (A B : Nat) (l : List UInt8) (n : Nat) (w : World) (ha : Area 178 w A B l) (h : l.length = 256) (hn : n < 4294967296) :
    Calls Tryz.prog 118 #[.pointer (some ⟨A, 0, none⟩), .int .i64 252, .int .i64 4, .int .u32 (n : Int)] w fun e w' => e = .returned (.int .i64 0) ∧ Upd B (putAt l 252 (be 4 n)) w w' :=
  Fd.put_4 A B l 252 n w ha (by omega) (by omega)
theorem putText_e (A B : Nat) (l : List UInt8) (s : ByteArray) (w : World) (ha : Area 178 w A B l) (h : l.length = 256) (hs : s.size ≤ 244) :
    Calls Tryz.prog 119 #[.pointer (some ⟨A, 0, none⟩), .int .i64 8, .string s] w fun e w' => e = .returned (.int .i64 0) ∧ Upd B (putAt l 8 s.data.toList) w w' :=
  Fd.putText_ok A B l 8 s w ha (by omega)

/-- what Seal has laid so far: its area holds l -/
structure Mid (w : World) (k n : Int) (b : ByteArray) (B : Nat) (l : List UInt8) (wr : World) : Prop where
  box : Box wr w.heap.size k n b
  below : Below w.heap.size w wr
  area : Area 178 wr (B + 1) B l
  lo : w.heap.size < B
  len : l.length = 256
theorem Mid.upd {w wr w' : World} {k n : Int} {b : ByteArray} {B : Nat} {l l' : List UInt8} (h : Mid w k n b B l wr) (hu : Upd B l' wr w') (hl : l'.length = 256) : Mid w k n b B l' w' :=
  ⟨h.box.upd hu (Nat.ne_of_lt h.lo), (on_upd (hid h.below) hu (Nat.le_of_lt h.lo)).out, h.area.upd hu (by rw [hl, h.len]), h.lo, hl⟩
theorem put_len256 (l : List UInt8) (o w n : Nat) (h : l.length = 256) (ho : o + w ≤ 256) : (putAt l o (be w n)).length = 256 := by rw [put_len _ _ _ _ (by omega), h]

theorem extract_head (l : List UInt8) (k : Nat) : ((⟨l.toArray⟩ : ByteArray).extract 0 k).data.toList = l.take k := by
  rw [ByteArray.data_extract]; simp
theorem sum_of (t : ByteArray) (m : List UInt8) (w : World) (ht : t.data.toList = m) (hx : m.length ≤ 256) :
    Calls Tryz.prog 121 #[.string t] w fun e w' => e = .returned (.int .u32 (U (sumB m))) ∧ w = w' := by
  subst ht
  exact Sm.sum_any t w (by unfold maxLen; have : t.data.toList.length = t.size := by simp
                           omega)
theorem lowest_sum (m : List UInt8) (w : World) :
    Calls Tryz.prog 120 #[.int .u32 (U (sumB m))] w fun e w' => e = .returned (.int .u32 (rev32 (sumN m) : Int)) ∧ w = w' := lowest_any (sumB m) w

set_option maxHeartbeats 800000 in
theorem seal_yes (k n : Nat) (b : ByteArray) (w : World) (h : mayP k n b.size) :
    Calls Tryz.prog 77 #[.agg #[.int .i64 k, .int .i64 n, .string b]] w fun e w' => e = .returned (.tuple #[.string ⟨(sealL k n b.data.toList).toArray⟩, .int .i64 0]) ∧ Below w.heap.size w w' := by
  have H := hid h
  unfold mayP at h
  obtain ⟨h1, h2, h3, h4, h5⟩ := h
  go_enter Tryz.func77, Tryz.ntmps77
  go_wp2_with (first
    | (go_at_call 116; refine (may_yes k n b _ H.out).mono ?_; rintro e w1 ⟨rfl, hb⟩; have HP := hid ((Box.made w k n b).below hb); have HB := hid (((Below.refl w.heap.size w).alloc (Nat.le_refl _) (.cells #[.int .i64 k, .int .i64 n, .string b] 69)).trans (hb.mono (by simp))); clear hb)
    | (go_at_call 117; refine (new_256 _).mono ?_; rintro e w2 ⟨rfl, ha, hb⟩; have HM := hid (Mid.mk (HP.out.below hb) (on_below HB hb).out ha HP.out.lt (zs_length 256)); clear ha hb HP HB; have c0 := HM.out.box.c0))
  generalize w1.heap.size = B at HM ⊢
  refine (put_a (B + 1) B _ k _ HM.out.area HM.out.len (by omega)).mono ?_
  rintro e w3 ⟨rfl, hu⟩
  clear c0
  replace HM := hid (HM.out.upd hu (put_len256 _ 0 1 k HM.out.len (by omega)))
  clear hu
  have c2 := HM.out.box.c2
  go_wp2_with fail
  refine (put_b (B + 1) B _ b.size _ HM.out.area HM.out.len (by omega)).mono ?_
  rintro e w4 ⟨rfl, hu⟩
  clear c2
  replace HM := hid (HM.out.upd hu (put_len256 _ 2 2 b.size HM.out.len (by omega)))
  clear hu
  have c1 := HM.out.box.c1
  go_wp2_with fail
  refine (put_c (B + 1) B _ n _ HM.out.area HM.out.len (by omega)).mono ?_
  rintro e w5 ⟨rfl, hu⟩
  clear c1
  replace HM := hid (HM.out.upd hu (put_len256 _ 4 4 n HM.out.len (by omega)))
  clear hu
  have c2 := HM.out.box.c2
  go_wp2_with fail
  refine (putText_e (B + 1) B _ b _ HM.out.area HM.out.len (by omega)).mono ?_
  rintro e w6 ⟨rfl, hu⟩
  clear c2
  have hbl : b.data.toList.length = b.size := by simp
  have hlen : b.data.toList.length ≤ 244 := by omega
  rw [← hbl] at HM hu
  replace HM := hid (HM.out.upd hu (putsL_length k n b.data.toList hlen))
  clear hu
  have HL := hid (putsL_length k n b.data.toList hlen)
  have HT := hid (putsL_take k n b.data.toList hlen)
  have HS := hid (putsL_sum k n b.data.toList hlen)
  have HZ := hid (sealL_length k n b.data.toList hlen)
  clear hbl hlen
  change Hid (Mid w k n b B (putsL k n b.data.toList) w6) at HM
  generalize putsL k n b.data.toList = l at HM HL HT HS
  have hl : l.toArray.size = 256 := by rw [List.size_toArray]; exact HL.out
  go_wp2_with (go_at_call 122; refine (Fd.bytes_ok (B + 1) B l _ HM.out.area).mono ?_; rintro e w7 ⟨rfl, rfl⟩)
  refine (sum_of _ (headL k n b.data.toList) _ (by rw [extract_head]; exact HT.out) (by have := HL.out; rw [← HT.out, List.length_take]; omega)).mono ?_
  rintro e w7 ⟨rfl, rfl⟩
  go_wp2_with fail
  refine (lowest_sum _ _).mono ?_
  rintro e w7 ⟨rfl, rfl⟩
  go_wp2_with fail
  refine (put_d (B + 1) B _ _ _ HM.out.area HM.out.len (rev32_lt _)).mono ?_
  rintro e w7 ⟨rfl, hu⟩
  rw [HS.out] at hu
  replace HM := hid (HM.out.upd hu HZ.out)
  clear hu hl
  go_wp2_with (go_at_call 122; refine (Fd.bytes_ok (B + 1) B _ _ HM.out.area).mono ?_; rintro e w8 ⟨rfl, rfl⟩)
  go_ret2
  exact ⟨rfl, HM.out.below⟩
end Go.Proofs.YtgihpdhkjneimaaGreatDoor.Pg
