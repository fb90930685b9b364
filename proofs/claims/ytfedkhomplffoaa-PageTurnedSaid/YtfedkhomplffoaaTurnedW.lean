/- The walk of PageTurned. -/
import Derived.Test.YtfedkhomplffoaaBackW
import Derived.Test.YtfedkhomplffoaaPgArg
import Derived.Test.YtfedkhomplffoaaPgTurnM
import Derived.Test.YtfedkhomplffoaaSmBytes
import Derived.RegionTactic
import Derived.ChangeAlike
import Derived.WalkSmall
import Derived.StillTailTactics
import Derived.Deep.RegionHeld3
namespace Go.Proofs.Ytfedkhomplffoaa
open Go.RowKit
open Go.Lib (hid)
open Go.Proofs.Ytfedkhomplffoaa.Fd (on_below wf_i64 wf_u32)
open Go.Proofs.Ytfedkhomplffoaa.Pg
open Go.Proofs.Ytfedkhomplffoaa.Sm (Bytes bytes_conv bytes_made bytes_back B32 U alo full stps low sumB low_none stps_zero)

/-- what a call of PageTurned has behind k rounds -/
structure Seen (r : List UInt8) (b : B32) (f : Nat) (w : World) (B k : Nat) (wr : World) : Prop where
  below : Below w.heap.size w wr
  lo : w.heap.size ≤ B
  row : ∃ l, Bytes wr B l ∧ l.length = 256 ∧ alo full l = alo full r ^^^ stps (8 * 256 - f) (low b k)

theorem seen_test (b : B32) (k : Nat) : ((U b / 2 ^ k).tmod 2 == 1) = b.getLsbD k := by
  have e : U b / 2 ^ k = ((b.toNat / 2 ^ k : Nat) : Int) := by unfold U; simp
  rw [e, BitVec.getLsbD, Nat.testBit_eq_decide_div_mod_eq, Bool.eq_iff_iff]
  generalize b.toNat / 2 ^ k = m
  rw [beq_iff_eq, decide_eq_true_iff, Int.tmod_eq_emod_of_nonneg (by omega)]
  omega
theorem seen_val (a : UInt8) (r : Nat) (h : r < 8) : bits .xor .u8 (a.toNat : Int) ((2 : Int) ^ r % 256) = ((a ^^^ ((1 : UInt8) <<< (UInt8.ofNat r))).toNat : Int) := by
  have e : ((2 : Int) ^ r % 256) = (((1 : UInt8) <<< (UInt8.ofNat r)).toNat : Int) := by
    rw [Sm.one_shl r h]
    have : (2 : Nat) ^ r ≤ 2 ^ 7 := Nat.pow_le_pow_right (by decide) (by omega)
    have e2 : ((2 : Int) ^ r) = ((2 ^ r : Nat) : Int) := by simp
    have hq : (2 : Nat) ^ r < 256 := Nat.lt_of_le_of_lt this (by decide)
    rw [e2]; exact Int.emod_eq_of_lt (Int.natCast_nonneg _) (Int.ofNat_lt.2 hq)
  rw [e, u8_xor_nat _ _ a.toNat_lt (UInt8.toNat_lt _), UInt8.toNat_xor]

set_option maxHeartbeats 1600000 in
theorem Turned_go (k n : Int) (b : ByteArray) (z : Int) (y : B32) (w : World) (r : List UInt8) (hE : errZ k n b.data.toList = 0) (hr : sealZ k n b.data.toList = r) (hlen : r.length = 256) (hal : alo full r = Sm.thr 4 full)
    (h3 : 0 ≤ z) (h3' : z ≤ 9223372036854775807) (h4 : (U y == 0) = false) (hb0 : y ≠ 0#32) :
    Calls Try.prog 6 #[.agg #[.int .i64 k, .int .i64 n, .string b], .int .i64 z, .int .u32 (U y)] w fun e w' => e = .returned (.bool true) ∧ Below w.heap.size w w' := by
  have HB0 := hid hb0; have HE := hid hE; have HR := hid hr; have HL := hid hlen; have HAL := hid hal; clear hb0 hE hr hlen hal
  have hB : Below w.heap.size w (w.alloc (.cells #[.int .i64 k, .int .i64 n, .string b] 23)) := (Below.refl _ _).alloc (Nat.le_refl _) _
  have HB := hid hB; clear hB
  have hsz : (⟨r.toArray⟩ : ByteArray).size = 256 := by show r.toArray.size = 256; rw [List.size_toArray]; exact HL.out
  have hconv := bytes_conv ⟨r.toArray⟩
  rw [hsz] at hconv
  go_enter Try.func6, Try.ntmps6
  go_wp2_with (first
    | (go_at_call 10; (with_reducible refine (seal_zat (k := k) (n := n) (b := b) _ HR.out HE.out).mono ?_); rintro e w1 ⟨rfl, hb⟩; replace HB := on_below HB hb; clear hb))
  clear hconv hsz
  have hT : Seen r y ((z % 2017).toNat) w w1.heap.size 0 (w1.alloc (.cells (bytesRow ⟨r.toArray⟩ (grownCap w1 256 0 5)) 5 ((bytesRow ⟨r.toArray⟩ (grownCap w1 256 0 5)).size, (bytesRow ⟨r.toArray⟩ (grownCap w1 256 0 5)).size + 1))).drew := by
    refine ⟨(HB.out.alloc HB.out.size _).drew, HB.out.size, r, ?_, HL.out, by rw [low_none, stps_zero]; simp⟩
    have hsz : (⟨r.toArray⟩ : ByteArray).size = 256 := by show r.toArray.size = 256; rw [List.size_toArray]; exact HL.out
    have := bytes_made w1.drew ⟨r.toArray⟩ (grownCap w1 256 0 5) ((bytesRow ⟨r.toArray⟩ (grownCap w1 256 0 5)).size, (bytesRow ⟨r.toArray⟩ (grownCap w1 256 0 5)).size + 1) (by
      have h : (⟨r.toArray⟩ : ByteArray).size = r.length := by show r.toArray.size = _; simp
      simp [bytesRow]; omega)
    exact this
  have HT := hid hT; clear hT
  generalize (w1.alloc (.cells (bytesRow ⟨r.toArray⟩ (grownCap w1 256 0 5)) 5 ((bytesRow ⟨r.toArray⟩ (grownCap w1 256 0 5)).size, (bytesRow ⟨r.toArray⟩ (grownCap w1 256 0 5)).size + 1))).drew = w2 at HT ⊢
  generalize w1.heap.size = B at HT ⊢
  generalize grownCap w1 256 0 5 = cap
  have hf0 : 0 ≤ z % 2017 := Int.emod_nonneg _ (by omega)
  have hf1 : z % 2017 < 2017 := Int.emod_lt_of_pos _ (by omega)
  generalize z % 2017 = f0 at *
  obtain ⟨f, rfl⟩ := Int.eq_ofNat_of_zero_le hf0
  clear hf0
  rw [Int.toNat_natCast] at HT
  have hff : f + 32 ≤ 8 * 256 := by omega
  clear hf1
  go_loopw [11] (fun i wr => ∃ k : Nat, k ≤ 32 ∧ i = .int .i64 k ∧ Seen r y f w B k wr) (fun i _ => 32 - (intOf i).toNat)
  case atStart => exact ⟨0, by omega, rfl, HT.out⟩
  case round =>
    clear HT
    obtain ⟨j, hk, rfl, hb, lo, l, hB, hl, ha⟩ := hrel
    have HA := hid ha; clear ha
    replace HB := hid hb; clear hb
    have HY := hid hB; clear hB
    have HLL := hid hl; clear hl
    by_cases hlt : j < 32
    · have hq : (f + j) / 8 < l.length := by have := HLL.out; omega
      have hq2 : (f + j) / 8 < 256 := by omega
      have hc := HY.out.cell ((f + j) / 8) hq
      have hf := HY.out.free ((f + j) / 8) hq
      have hr : (f + j) % 8 < 8 := Nat.mod_lt _ (by decide)
      obtain ⟨v, hvd, hv⟩ : ∃ v : UInt8, l[(f + j) / 8] ^^^ ((1 : UInt8) <<< (UInt8.ofNat ((f + j) % 8))) = v ∧ bits .xor .u8 ((l[(f + j) / 8]).toNat : Int) ((2 : Int) ^ ((f + j) % 8) % 256) = (v.toNat : Int) :=
        ⟨_, rfl, seen_val (l[(f + j) / 8]) ((f + j) % 8) hr⟩
      have HVD := hid hvd; clear hvd
      have ht := seen_test y j
      cases hbit : y.getLsbD j
      · rw [hbit] at ht
        have HBIT := hid hbit; clear hbit
        go_wp2_with fail
        go_roundw
        case rel => exact ⟨j + 1, by omega, by go_num, HB.out, lo, l, HY.out, HLL.out, by have := HA.out; rw [← HLL.out] at this ⊢; exact Sm.seen_skip l _ y f j hlt this HBIT.out⟩
        case measure => simp [intOf]; omega
      · rw [hbit] at ht
        have HBIT := hid hbit; clear hbit
        go_wp2_with fail
        go_roundw
        case rel =>
          refine ⟨j + 1, by omega, by go_num, HB.out.setCell lo _, lo, _, HY.out.set _ hq _, by rw [List.length_set]; exact HLL.out, ?_⟩
          have := HA.out
          rw [← HLL.out] at this hff ⊢
          rw [← HVD.out]; exact Sm.seen_step l _ y f j hlt hff hq this HBIT.out
        case measure => simp [intOf]; omega
    · obtain rfl : j = 32 := by omega
      have hback := bytes_back HY.out 256 cap HLL.out
      have hto := turned_open l y (8 * 256 - f) HLL.out HB0.out (by rw [HA.out, HAL.out])
      rcases hto with hbl | hop
      · have HOP : Hid (openL l = (0, 0, [], 0)) := hid (by rw [hbl]; exact blank_open)
        have HBL := hid hbl; clear hbl
        go_wp2_with (first
          | (go_at_call 16; (with_reducible refine (open_l (s := ⟨l.toArray⟩) (b := []) (x := 0) (y := 0) (z := 0) _ rfl HOP.out rfl rfl rfl).mono ?_); rintro e w3 ⟨rfl, hb⟩; have HY3 := hid (HY.out.below hb); replace HB := on_below HB hb; clear hb))
        clear hback
        replace HY3 := hid (HY3.out.below ((Below.refl w3.heap.size w3).alloc (Nat.le_refl _) (.cells #[.int .i64 0, .int .i64 0, .string ⟨#[]⟩] 23)))
        replace HB := hid (HB.out.alloc HB.out.size (.cells #[.int .i64 0, .int .i64 0, .string ⟨#[]⟩] 23))
        generalize w3.heap.size = Q
        generalize w3.alloc (.cells #[.int .i64 0, .int .i64 0, .string ⟨#[]⟩] 23) = w4 at HY3 HB ⊢
        have hcS : ∀ w', Bytes w' B l → (convert 36 9 (.slice (some ⟨B, 0, none⟩) 256 cap)).run Try.prog w' = .ok (.string ⟨l.toArray⟩) w' := fun w' h => bytes_back h 256 cap HLL.out
        have hlb : (l == blankL) = true := by have := HBL.out; simpa using this
        have y0 : Bytes w4.drew B l := ⟨HY3.out.cell, HY3.out.free, HY3.out.lt⟩
        go_region_held3 (fun w' => Bytes w' B l) (first | exact y0 | exact y1 | exact y2)
          (first
            | (go_at_call 14; refine (blank_any _).mono ?_; rintro e w5 ⟨rfl, hb⟩; have y1 := y0.below hb; replace HB := on_below (hid HB.out.drew) hb; clear hb)
            | (go_at_call 9; refine (live_any _).mono ?_; rintro e w6 ⟨rfl, hb⟩; have y2 := y1.below hb; replace HB := on_below HB hb; clear hb))
        go_wp2_with fail
        go_ret
        exact ⟨rfl, HB.out⟩
      · have HOP := hid hop; clear hop
        go_wp2_with (first
          | (go_at_call 16; (with_reducible refine (open_l (s := ⟨l.toArray⟩) (b := []) (x := 0) (y := 0) (z := 7) _ rfl HOP.out rfl rfl rfl).mono ?_); rintro e w3 ⟨rfl, hb⟩; replace HB := on_below HB hb; clear hb))
        replace HB := hid (HB.out.alloc HB.out.size (.cells #[.int .i64 0, .int .i64 0, .string ⟨#[]⟩] 23))
        generalize w3.heap.size = Q
        generalize w3.alloc (.cells #[.int .i64 0, .int .i64 0, .string ⟨#[]⟩] 23) = w4 at HB ⊢
        clear hback
        go_still_tail 9, (by kernel_rfl)
        change wpList _ _ _ _ _ w4.drew
        replace HB : Hid (Below w.heap.size w w4.drew) := hid HB.out.drew
        generalize w4.drew = w5 at HB ⊢
        go_wp2_with fail
        refine (live_any _).mono ?_; rintro e w6 ⟨rfl, hb⟩; replace HB := on_below HB hb; clear hb
        go_wp2_with fail
        go_ret
        exact ⟨rfl, HB.out⟩

set_option maxHeartbeats 800000 in
theorem Turned_live (k n : Int) (b : ByteArray) (z : Int) (y : B32) (w : World) (h : errZ k n b.data.toList = 1 ∨ (errZ k n b.data.toList = 0 ∧ (z < 0 ∨ (0 ≤ z ∧ y = 0#32)))) :
    Calls Try.prog 6 #[.agg #[.int .i64 k, .int .i64 n, .string b], .int .i64 z, .int .u32 (U y)] w fun e w' => e = .returned (.bool true) ∧ Below w.heap.size w w' := by
  have hB : Below w.heap.size w (w.alloc (.cells #[.int .i64 k, .int .i64 n, .string b] 23)) := (Below.refl _ _).alloc (Nat.le_refl _) _
  have HB := hid hB; clear hB
  obtain ⟨r, hr⟩ : ∃ r, sealZ k n b.data.toList = r := ⟨_, rfl⟩
  have HR := hid hr; clear hr
  rcases h with hE | ⟨hE, h2 | ⟨h2, rfl⟩⟩
  · have HE := hid hE; clear hE
    go_enter Try.func6, Try.ntmps6
    go_wp2_with (first
      | (go_at_call 9; refine (live_any _).mono ?_; rintro e w' ⟨rfl, hb⟩; replace HB := on_below HB hb; clear hb)
      | (go_at_call 10; (with_reducible refine (seal_zat (k := k) (n := n) (b := b) _ HR.out HE.out).mono ?_); rintro e w1 ⟨rfl, hb⟩; replace HB := on_below HB hb; clear hb))
    go_ret; exact ⟨rfl, HB.out⟩
  · have HE := hid hE; clear hE
    go_enter Try.func6, Try.ntmps6
    go_wp2_with (first
      | (go_at_call 9; refine (live_any _).mono ?_; rintro e w' ⟨rfl, hb⟩; replace HB := on_below HB hb; clear hb)
      | (go_at_call 10; (with_reducible refine (seal_zat (k := k) (n := n) (b := b) _ HR.out HE.out).mono ?_); rintro e w1 ⟨rfl, hb⟩; replace HB := on_below HB hb; clear hb))
    go_ret; exact ⟨rfl, HB.out⟩
  · have HE := hid hE; clear hE
    have h5 : (U 0#32 == 0) = true := rfl
    have h6 : decide (z < 0) = false := by simp; omega
    go_enter Try.func6, Try.ntmps6
    go_wp2_with (first
      | (go_at_call 9; refine (live_any _).mono ?_; rintro e w' ⟨rfl, hb⟩; replace HB := on_below HB hb; clear hb)
      | (go_at_call 10; (with_reducible refine (seal_zat (k := k) (n := n) (b := b) _ HR.out HE.out).mono ?_); rintro e w1 ⟨rfl, hb⟩; replace HB := on_below HB hb; clear hb))
    go_ret; exact ⟨rfl, HB.out⟩

theorem Turned_any (k n : Int) (b : ByteArray) (z x : Int) (w1 : (Lit.int .i64 z).wf = true) (w2 : (Lit.int .u32 x).wf = true) (w : World) :
    Calls Try.prog 6 #[.agg #[.int .i64 k, .int .i64 n, .string b], .int .i64 z, .int .u32 x] w fun e w' => e = .returned (.bool true) ∧ Below w.heap.size w w' := by
  obtain ⟨y, rfl⟩ : ∃ y : B32, x = U y := ⟨_, Sm.U_of x (wf_u32 w2).1 (wf_u32 w2).2⟩
  rcases seals_any k n b with hE | ⟨hE, r, hr, hlen, _, _, _⟩
  · exact Turned_live k n b z y w (.inl hE)
  · by_cases hz : z < 0
    · exact Turned_live k n b z y w (.inr ⟨hE, .inl hz⟩)
    · by_cases hy : y = 0#32
      · exact Turned_live k n b z y w (.inr ⟨hE, .inr ⟨by omega, hy⟩⟩)
      · refine Turned_go k n b z y w r hE hr hlen ?_ (by omega) (wf_i64 w1).2 ?_ hy
        · rw [← hr]
          unfold sealZ errZ at *
          by_cases h : mayP k n b.data.toList.length
          · rw [if_pos h]; exact seal_right _ _ _ h.2.2.2.2
          · rw [if_neg h] at hE; cases hE
        · rw [Sm.U_zero, Sm.U_beq, beq_eq_false_iff_ne]; exact hy

theorem PageTurned_walk (v : Value) (z x : Int) (w0 : IsPage v) (w1 : (Lit.int .i64 z).wf = true) (w2 : (Lit.int .u32 x).wf = true) (w : World) :
    Calls Try.prog 6 #[v, .int .i64 z, .int .u32 x] w fun e w' => e = .returned (.bool true) ∧ Below w.heap.size w w' := by
  obtain ⟨k, n, b, rfl, _, _, _⟩ := w0
  exact Turned_any k n b z x w1 w2 w
theorem PageTurned_open0 {H : Type} {enc : TypeId × Value → H} {W : World} {base : Nat} {v : Value} {d : DataW H} {p : List MemPlace}
    (hv : Value.okWide Try.prog W .any base 23 v) (h : DataW.Trod enc Try.prog W 0 (fun _ => true) true 23 v d p) : IsPage v := page_open hv h
end Go.Proofs.Ytfedkhomplffoaa
