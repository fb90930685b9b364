/- The walk of FreeScripts. -/
import Derived.Test.YtefnofipcjjfpaaBackW
import Derived.Deep.RegionHeld3
import Derived.Deep.DeepCutAuto
namespace Go.Proofs.Ytefnofipcjjfpaa
open Go.RowKit
open Go.Lib (hid)
open Go.ChangeShapes Go.WideShapes Go.Joins
open Go.Proofs.Ytefnofipcjjfpaa.Fr

theorem mark_both (B : List Bool) (x : Int) : ∃ (v : Int) (B' : List Bool), B'.length = B.length ∧
    (∀ w d, Mp w d B → Calls Try.prog 14 #[.pointer (some ⟨d.M, 0, none⟩), .int .i64 x] w fun e w' => e = .returned (.int .i64 v) ∧ Mp w' d B' ∧ Only d.W w w') ∧
    (∀ w r, Rf w r B → Calls Try.prog 15 #[.pointer (some ⟨r.M, 0, none⟩), .int .i64 x] w fun e w' => e = .returned (.int .i64 v) ∧ Rf w' r B' ∧ Only r.W w w') := by
  by_cases hn : x < 0 ∨ B.length ≤ x
  · exact ⟨1, B, rfl, fun w d h => (mark_out d B x w h hn).mono fun e w' ⟨he, m, hw⟩ => ⟨he, by subst hw; exact h.drewN m, by subst hw; exact (Only.refl _ _).drewN m⟩,
      fun w r h => (refMark_out r B x w h hn).mono fun e w' ⟨he, hw⟩ => ⟨he, by subst hw; exact h, by subst hw; exact Only.refl _ _⟩⟩
  · obtain ⟨k, rfl⟩ : ∃ k : Nat, x = (k : Int) := ⟨x.toNat, by omega⟩
    have hk : k < B.length := by omega
    cases hb : bitAt B k with
    | true => exact ⟨1, B, rfl, fun w d h => (mark_taken d B k w h hk hb).mono fun e w' ⟨he, m, hw⟩ => ⟨he, by subst hw; exact h.drewN m, by subst hw; exact (Only.refl _ _).drewN m⟩,
        fun w r h => (refMark_taken r B k w h hk hb).mono fun e w' ⟨he, hw⟩ => ⟨he, by subst hw; exact h, by subst hw; exact Only.refl _ _⟩⟩
    | false => exact ⟨0, turnB B k, turn_len B k, fun w d h => mark_ok d B k w h hk hb, fun w r h => refMark_ok r B k w h hk hb⟩
theorem give_both (B : List Bool) (x : Int) : ∃ (v : Int) (B' : List Bool), B'.length = B.length ∧
    (∀ w d, Mp w d B → Calls Try.prog 16 #[.pointer (some ⟨d.M, 0, none⟩), .int .i64 x] w fun e w' => e = .returned (.int .i64 v) ∧ Mp w' d B' ∧ Only d.W w w') ∧
    (∀ w r, Rf w r B → Calls Try.prog 17 #[.pointer (some ⟨r.M, 0, none⟩), .int .i64 x] w fun e w' => e = .returned (.int .i64 v) ∧ Rf w' r B' ∧ Only r.W w w') := by
  by_cases hn : x < 0 ∨ B.length ≤ x
  · exact ⟨1, B, rfl, fun w d h => (give_out d B x w h hn).mono fun e w' ⟨he, m, hw⟩ => ⟨he, by subst hw; exact h.drewN m, by subst hw; exact (Only.refl _ _).drewN m⟩,
      fun w r h => (refGive_out r B x w h hn).mono fun e w' ⟨he, hw⟩ => ⟨he, by subst hw; exact h, by subst hw; exact Only.refl _ _⟩⟩
  · obtain ⟨k, rfl⟩ : ∃ k : Nat, x = (k : Int) := ⟨x.toNat, by omega⟩
    have hk : k < B.length := by omega
    cases hb : bitAt B k with
    | false => exact ⟨1, B, rfl, fun w d h => (give_free d B k w h hk hb).mono fun e w' ⟨he, m, hw⟩ => ⟨he, by subst hw; exact h.drewN m, by subst hw; exact (Only.refl _ _).drewN m⟩,
        fun w r h => (refGive_free r B k w h hk hb).mono fun e w' ⟨he, hw⟩ => ⟨he, by subst hw; exact h, by subst hw; exact Only.refl _ _⟩⟩
    | true => exact ⟨0, turnB B k, turn_len B k, fun w d h => give_ok d B k w h hk hb, fun w r h => refGive_ok r B k w h hk hb⟩
theorem take_both (B : List Bool) : ∃ (u v : Int) (B' : List Bool), B'.length = B.length ∧
    (∀ w d, Mp w d B → Calls Try.prog 12 #[.pointer (some ⟨d.M, 0, none⟩)] w fun e w' => e = .returned (.tuple #[.int .i64 u, .int .i64 v]) ∧ Mp w' d B' ∧ Only d.W w w') ∧
    (∀ w r, Rf w r B → Calls Try.prog 13 #[.pointer (some ⟨r.M, 0, none⟩)] w fun e w' => e = .returned (.tuple #[.int .i64 u, .int .i64 v]) ∧ Rf w' r B' ∧ Only r.W w w') := by
  by_cases ht : takeN B < B.length
  · exact ⟨_, _, _, turn_len B _, fun w d h => take_ok d B w h ht, fun w r h => refTake_ok r B w h ht⟩
  · have he : takeN B = B.length := by have := takeN_le B; omega
    exact ⟨0, 2, B, rfl, fun w d h => (take_full d B w h he).mono fun e w' ⟨he, m, hw⟩ => ⟨he, by subst hw; exact h.drewN m, by subst hw; exact (Only.refl _ _).drewN m⟩,
      fun w r h => (refTake_full r B w h he).mono fun e w' ⟨he, hw⟩ => ⟨he, by subst hw; exact h, by subst hw; exact Only.refl _ _⟩⟩
theorem is_both (B : List Bool) (x : Int) : ∃ b : Bool,
    (∀ w d, Mp w d B → Calls Try.prog 21 #[.pointer (some ⟨d.M, 0, none⟩), .int .i64 x] w fun e w' => e = .returned (.bool b) ∧ ∃ m, w' = w.drewN m) ∧
    (∀ w r, Rf w r B → Calls Try.prog 22 #[.pointer (some ⟨r.M, 0, none⟩), .int .i64 x] w fun e w' => e = .returned (.bool b) ∧ w = w') := by
  by_cases hn : x < 0 ∨ B.length ≤ x
  · exact ⟨false, fun w d h => is_out d B x w h hn, fun w r h => refIs_out r B x w h hn⟩
  · obtain ⟨k, rfl⟩ : ∃ k : Nat, x = (k : Int) := ⟨x.toNat, by omega⟩
    have hk : k < B.length := by omega
    exact ⟨_, fun w d h => is_val d B k _ w h hk rfl, fun w r h => refIs_in r B k _ w h hk rfl⟩

/-- the variable o of a round -/
structure Box (w : World) (C : Nat) (x y : Int) : Prop where
  row : w.heap[C]? = some (.cells #[.int .i64 x, .int .i64 y] 31 (0, 0))
theorem Box.c0 {w : World} {C : Nat} {x y : Int} (h : Box w C x y) : w.cell? ⟨C, 0, none⟩ = some (.int .i64 x) := by rw [cell_of_row _ _ _ _ _ _ h.row]; rfl
theorem Box.c1 {w : World} {C : Nat} {x y : Int} (h : Box w C x y) : w.cell? ⟨C, 1, none⟩ = some (.int .i64 y) := by rw [cell_of_row _ _ _ _ _ _ h.row]; rfl
theorem Box.lt {w : World} {C : Nat} {x y : Int} (h : Box w C x y) : C < w.heap.size := (Array.getElem?_eq_some_iff.1 h.row).1
theorem Box.below {w w' : World} {C : Nat} {x y : Int} (h : Box w C x y) (hb : Below w.heap.size w w') : Box w' C x y := ⟨by rw [hb.block _ h.lt]; exact h.row⟩
theorem Box.only {w w' : World} {C b : Nat} {x y : Int} (h : Box w C x y) (ho : Only b w w') (hn : C ≠ b) : Box w' C x y := ⟨by rw [ho.block _ h.lt hn]; exact h.row⟩
/-- what a call of FreeScripts has behind some calls -/
structure St (w wr : World) (d : Ptrs) (r : RPtrs) (B : List Bool) : Prop where
  m : Mp wr d B
  k : Rf wr r B
  below : Below w.heap.size w wr
theorem St.alloc {w wr : World} {d : Ptrs} {r : RPtrs} {B : List Bool} (h : St w wr d r B) (o : Obj) : St w (wr.alloc o) d r B :=
  ⟨h.m.below ((Below.refl _ _).alloc (Nat.le_refl _) o), h.k.below ((Below.refl _ _).alloc (Nat.le_refl _) o), h.below.alloc h.below.size o⟩
theorem St.next {w wr w' : World} {d : Ptrs} {r : RPtrs} {B : List Bool} (h : St w wr d r B) (hb : Below wr.heap.size wr w') : St w w' d r B :=
  ⟨h.m.below hb, h.k.below hb, h.below.trans (hb.mono h.below.size)⟩
theorem St.drewN {w wr : World} {d : Ptrs} {r : RPtrs} {B : List Bool} (h : St w wr d r B) (n : Nat) : St w (wr.drewN n) d r B :=
  ⟨h.m.drewN n, h.k.drewN n, ⟨h.below.os, h.below.tape, h.below.output, h.below.size, h.below.block⟩⟩
theorem St.drew {w wr : World} {d : Ptrs} {r : RPtrs} {B : List Bool} (h : St w wr d r B) : St w wr.drew d r B :=
  ⟨h.m.drew, h.k.drew, ⟨h.below.os, h.below.tape, h.below.output, h.below.size, h.below.block⟩⟩
theorem Box.drew {w : World} {C : Nat} {x y : Int} (h : Box w C x y) : Box w.drew C x y := ⟨h.row⟩
theorem Box.drewN {w : World} {C : Nat} {x y : Int} (h : Box w C x y) (n : Nat) : Box (w.drewN n) C x y := ⟨h.row⟩
/-- the two maps' blocks are apart -/
structure Apart (w : World) (d : Ptrs) (r : RPtrs) : Prop where
  a1 : d.M ≠ r.W
  a2 : d.W ≠ r.M
  a3 : d.W ≠ r.W
  d1 : w.heap.size ≤ d.M
  d2 : w.heap.size ≤ d.W
  r1 : w.heap.size ≤ r.W
theorem St.both {w w4 w5 w6 : World} {d : Ptrs} {r : RPtrs} {B B' : List Bool} (h : St w w4 d r B) (ha : Apart w d r) (h1 : Mp w5 d B') (o1 : Only d.W w4 w5) (h2 : Rf w6 r B') (o2 : Only r.W w5 w6) : St w w6 d r B' :=
  ⟨h1.other o2 ha.a1 ha.a3, h2, (h.below.trans (o1.to_below h.below.size ha.d2)).trans (o2.to_below (Nat.le_trans h.below.size o1.size) ha.r1)⟩

set_option maxRecDepth 100000 in
set_option maxHeartbeats 4000000 in
theorem Scripts_go (n f : Nat) (a : Option Addr) (len cap : Nat) (w : World) (h1 : 1 ≤ n) (h2 : n ≤ 1000) (hf : f ≤ n) (hs : IsScript w a len) :
    Calls Try.prog 3 #[.int .i64 (n : Int), .int .i64 (f : Int), .slice a len cap] w fun e w' => e = .returned (.bool true) ∧ Below w.heap.size w w' := by
  have HB : Hid (Below w.heap.size w w) := hid (Below.refl _ _)
  have hlen := hs.1
  unfold maxLen at hlen
  have HS := hid hs; clear hs
  go_enter Try.func3, Try.ntmps3
  go_wp2_with (first
    | (go_at_call 8; refine (new_ok n f _ h1 h2 hf).mono ?_; rintro e w1 ⟨d, rfl, hm, hb, hd1, hd2⟩; have HM := hid hm; have HD := hid (And.intro hd1 hd2); replace HB := on_below HB hb; clear hm hb hd1 hd2)
    | (go_at_call 9; refine (refNew_ok n f _ h1 h2 hf).mono ?_; rintro e w2 ⟨r, rfl, hr, hb, hr1, hr2⟩; have HR := hid hr; have HX : Hid (Apart w d r) := hid (by have a1 := HM.out.ltM; have a2 := HM.out.ltW; have a3 := HB.out.size; have a4 := HD.out; refine ⟨?_, ?_, ?_, ?_, ?_, ?_⟩ <;> omega); replace HM := hid (HM.out.below hb); replace HB := on_below HB hb; clear hr hb hr1 hr2))
  obtain ⟨c, hc⟩ : ∃ c, min len 100 = c := ⟨_, rfl⟩
  have HC := hid hc
  have hcl : c ≤ len := by omega
  have hc1 : c ≤ 100 := by omega
  clear hc
  have HST := hid (St.mk HM.out HR.out HB.out)
  have HBL := hid (frontB_length n f)
  clear HM HR HB HD
  generalize frontB n f = B0 at HST HBL
  go_loopw [11] (fun i wr => ∃ (k : Nat) (B : List Bool), k ≤ c ∧ i = .int .i64 k ∧ B.length = n ∧ St w wr d r B) (fun i _ => c - (intOf i).toNat)
  case atStart => exact ⟨0, B0, by omega, rfl, HBL.out, HST.out⟩
  case round =>
    clear HST HBL
    obtain ⟨k, B, hk, rfl, hB, hst⟩ := hrel
    have HST := hid hst; have HL := hid hB; clear hst hB
    by_cases hlt : k < c
    · rcases HS.out.2 with h0 | ⟨b, off, rfl, hbw, hop⟩
      · omega
      obtain ⟨x, y, c0, c1, wx, wy⟩ := hop k (by omega)
      have e0 : wr.cell? ⟨b, off + k * 2, none⟩ = some (.int .i64 x) := by rw [HST.out.below.cell (p := ⟨b, _, none⟩) hbw]; exact c0
      have e1 : wr.cell? ⟨b, off + k * 2 + 1, none⟩ = some (.int .i64 y) := by rw [HST.out.below.cell (p := ⟨b, _, none⟩) hbw]; exact c1
      clear c0 c1 wx wy hop
      go_upto_region 7 with (fail)
      have hV : Box (wr.alloc (.cells #[.int .i64 x, .int .i64 y] 31)) wr.heap.size x y := ⟨heap_alloc_new _ _⟩
      have hS4 := HST.out.alloc (.cells #[.int .i64 x, .int .i64 y] 31)
      have hCd : wr.heap.size ≠ d.W ∧ wr.heap.size ≠ r.W := ⟨by have := HST.out.m.ltW; omega, by have := HST.out.k.ltW; omega⟩
      have HCD := hid hCd; clear hCd HST e0 e1
      generalize wr.alloc (.cells #[.int .i64 x, .int .i64 y] 31) = w4 at hV hS4 ⊢
      generalize wr.heap.size = C at hV HCD ⊢
      have HST := hid hS4; have HBX := hid hV; clear hS4 hV
      have hx0 := HBX.out.c0
      obtain ⟨t0, ht0⟩ : ∃ t0 : ByteArray, (⟨(encB B).toArray⟩ : ByteArray) = t0 := ⟨_, rfl⟩
      have HE0 : Hid (∀ w' o, Mp w' o B → Calls Try.prog 18 #[.pointer (some ⟨o.M, 0, none⟩)] w' fun e w2 => e = .returned (.string t0) ∧ Below w'.heap.size w' w2) := hid fun w' o h' => ht0 ▸ encode_ok o B w' h'
      have HEE : Hid (∀ w' o, Rf w' o B → Calls Try.prog 10 #[.pointer (some ⟨o.M, 0, none⟩)] w' fun e w2 => e = .returned (.string t0) ∧ Below w'.heap.size w' w2) := hid fun w' o h' => ht0 ▸ refEncode_ok o B w' h'
      clear ht0
      refine (HEE.out _ r HST.out.k).mono ?_; rintro e w5 ⟨rfl, hb⟩; replace HST := hid (HST.out.next hb); replace HBX := hid (HBX.out.below hb); clear hb hx0
      go_wp2_with fail
      refine (copy_ok d B _ HST.out.m).mono ?_; rintro e w6 ⟨o, rfl, ho, hb, ho1, ho2⟩; have HO := hid ho
      have HON : Hid (o.M ≠ d.W ∧ o.W ≠ d.W ∧ o.M ≠ r.W ∧ o.W ≠ r.W) := hid (by have a1 := HST.out.m.ltW; have a2 := HST.out.k.ltW; refine ⟨?_, ?_, ?_, ?_⟩ <;> omega)
      replace HST := hid (HST.out.next hb); replace HBX := hid (HBX.out.below hb); clear hb ho ho1 ho2
      have v0 := HBX.out.c0
      have v1 := HBX.out.c1
      by_cases hx : x = 0
      · subst hx
        obtain ⟨u, v, B', hl', p1, p2⟩ := take_both B
        obtain ⟨bb, q1, q2⟩ := is_both B' y
        have P1 := hid p1; have P2 := hid p2; have HI1 := hid q1; have HI2 := hid q2; have HL' := hid hl'; clear p1 p2 q1 q2 hl'
        obtain ⟨t1, ht1⟩ : ∃ t1 : ByteArray, (⟨(encB B').toArray⟩ : ByteArray) = t1 := ⟨_, rfl⟩
        have HE1 : Hid (∀ w' o, Mp w' o B' → Calls Try.prog 18 #[.pointer (some ⟨o.M, 0, none⟩)] w' fun e w2 => e = .returned (.string t1) ∧ Below w'.heap.size w' w2) := hid fun w' o h' => ht1 ▸ encode_ok o B' w' h'
        have HE2 : Hid (∀ w' o, Rf w' o B' → Calls Try.prog 10 #[.pointer (some ⟨o.M, 0, none⟩)] w' fun e w2 => e = .returned (.string t1) ∧ Below w'.heap.size w' w2) := hid fun w' o h' => ht1 ▸ refEncode_ok o B' w' h'
        clear ht1 HEE
        go_wp2_with (first
          | (go_at_call 12; refine (P1.out _ _ HST.out.m).mono ?_; rintro e wA ⟨rfl, hA, oA⟩; have HA := hid hA; have OA := hid oA; clear hA oA)
          | (go_at_call 13; refine (P2.out _ _ (HST.out.k.other OA.out (Ne.symm HX.out.a2) (Ne.symm HX.out.a3))).mono ?_; rintro e wB ⟨rfl, hB, oB⟩; have HST2 := hid (HST.out.both HX.out HA.out OA.out hB oB); have HO2 := hid ((HO.out.other OA.out HON.out.1 HON.out.2.1).other oB HON.out.2.2.1 HON.out.2.2.2); have HBX2 := hid ((HBX.out.only OA.out HCD.out.1).only oB HCD.out.2); clear hB oB))
        clear HST HO HBX HA OA P1 P2 v0 v1
        have HST := HST2; have HO := HO2; have HBX := HBX2
        clear HST2 HO2 HBX2
        have z0 := HBX.out.c1
        replace HST := hid HST.out.drew; replace HO := hid HO.out.drew; replace HBX := hid HBX.out.drew
        have z00 := HBX.out.c1
        go_wp2_with fail
        go_region_held3 (fun w' => w'.cell? ⟨C, 1, none⟩ = some (.int .i64 y)) (first | exact z0 | exact z00 | exact z1 | exact z2 | exact z3 | exact z4 | go_keep)
          (first
            | (go_at_call 18; (first
                | (with_reducible refine (HE1.out _ _ HST.out.m).mono ?_); rintro e w7 ⟨rfl, hb⟩; replace HST := hid (HST.out.next hb); replace HO := hid (HO.out.below hb); replace HBX := hid (HBX.out.below hb); clear hb; have z1 := HBX.out.c1
                | (with_reducible refine (HE0.out _ _ HO.out).mono ?_); rintro e w9 ⟨rfl, hb⟩; replace HST := hid (HST.out.next hb); replace HBX := hid (HBX.out.below hb); clear hb; have z4 := HBX.out.c1))
            | (go_at_call 10; refine (HE2.out _ _ HST.out.k).mono ?_; rintro e w8 ⟨rfl, hb⟩; replace HST := hid (HST.out.next hb); replace HO := hid (HO.out.below hb); replace HBX := hid (HBX.out.below hb); clear hb; have z2 := HBX.out.c1)
            | (go_at_call 19; refine (left_ok d B' _ HST.out.m).mono ?_; rintro e w' ⟨rfl, rfl⟩)
            | (go_at_call 20; refine (refLeft_ok r B' _ HST.out.k).mono ?_; rintro e w' ⟨rfl, rfl⟩)
            | (go_at_call 21; refine (HI1.out _ _ HST.out.m).mono ?_; rintro e w' ⟨rfl, mm, rfl⟩; replace HST := hid (HST.out.drewN mm); replace HO := hid (HO.out.drewN mm); replace HBX := hid (HBX.out.drewN mm); have z3 := HBX.out.c1)
            | (go_at_call 22; refine (HI2.out _ _ HST.out.k).mono ?_; rintro e w' ⟨rfl, rfl⟩))
        clear z0 z00 z1 z2 z3 z4
        go_wp2_with fail
        go_roundw
        case rel => exact ⟨k + 1, B', by omega, by go_num, HL'.out.trans HL.out, HST.out⟩
        case measure => simp [intOf]; omega
      · have hx0 : (x == 0) = false := by simpa using hx
        by_cases hx1 : x = 1
        · subst hx1
          clear hx hx0
          obtain ⟨v, B', hl', p1, p2⟩ := mark_both B y
          obtain ⟨bb, q1, q2⟩ := is_both B' y
          have P1 := hid p1; have P2 := hid p2; have HI1 := hid q1; have HI2 := hid q2; have HL' := hid hl'; clear p1 p2 q1 q2 hl'
          obtain ⟨t1, ht1⟩ : ∃ t1 : ByteArray, (⟨(encB B').toArray⟩ : ByteArray) = t1 := ⟨_, rfl⟩
          have HE1 : Hid (∀ w' o, Mp w' o B' → Calls Try.prog 18 #[.pointer (some ⟨o.M, 0, none⟩)] w' fun e w2 => e = .returned (.string t1) ∧ Below w'.heap.size w' w2) := hid fun w' o h' => ht1 ▸ encode_ok o B' w' h'
          have HE2 : Hid (∀ w' o, Rf w' o B' → Calls Try.prog 10 #[.pointer (some ⟨o.M, 0, none⟩)] w' fun e w2 => e = .returned (.string t1) ∧ Below w'.heap.size w' w2) := hid fun w' o h' => ht1 ▸ refEncode_ok o B' w' h'
          clear ht1 HEE
          go_wp2_with fail
          clear v0
          replace HST := hid HST.out.drew; replace HO := hid HO.out.drew; replace HBX := hid HBX.out.drew
          have v10 := HBX.out.c1
          go_region_held3 (fun w' => w'.cell? ⟨C, 1, none⟩ = some (.int .i64 y)) (first | exact v1 | exact v10 | exact y1 | exact y2 | go_keep)
            (first
              | (go_at_call 14; refine (P1.out _ _ HST.out.m).mono ?_; rintro e wA ⟨rfl, hA, oA⟩; have HA := hid hA; have OA := hid oA; clear hA oA; replace HBX := hid (HBX.out.only OA.out HCD.out.1); have y1 := HBX.out.c1)
              | (go_at_call 15; refine (P2.out _ _ (HST.out.k.other OA.out (Ne.symm HX.out.a2) (Ne.symm HX.out.a3))).mono ?_; rintro e wB ⟨rfl, hB, oB⟩; have HST2 := hid (HST.out.both HX.out HA.out OA.out hB oB); have HO2 := hid ((HO.out.other OA.out HON.out.1 HON.out.2.1).other oB HON.out.2.2.1 HON.out.2.2.2); replace HBX := hid (HBX.out.only oB HCD.out.2); clear hB oB; have y2 := HBX.out.c1))
          clear HST HO HA OA P1 P2 v1 v10 y1 y2
          have HST := HST2; have HO := HO2
          clear HST2 HO2
          have z0 := HBX.out.c1
          replace HST := hid HST.out.drew; replace HO := hid HO.out.drew; replace HBX := hid HBX.out.drew
          have z00 := HBX.out.c1
          go_wp2_with fail
          go_region_held3 (fun w' => w'.cell? ⟨C, 1, none⟩ = some (.int .i64 y)) (first | exact z0 | exact z00 | exact z1 | exact z2 | exact z3 | exact z4 | go_keep)
            (first
              | (go_at_call 18; (first
                  | (with_reducible refine (HE1.out _ _ HST.out.m).mono ?_); rintro e w7 ⟨rfl, hb⟩; replace HST := hid (HST.out.next hb); replace HO := hid (HO.out.below hb); replace HBX := hid (HBX.out.below hb); clear hb; have z1 := HBX.out.c1
                  | (with_reducible refine (HE0.out _ _ HO.out).mono ?_); rintro e w9 ⟨rfl, hb⟩; replace HST := hid (HST.out.next hb); replace HBX := hid (HBX.out.below hb); clear hb; have z4 := HBX.out.c1))
              | (go_at_call 10; refine (HE2.out _ _ HST.out.k).mono ?_; rintro e w8 ⟨rfl, hb⟩; replace HST := hid (HST.out.next hb); replace HO := hid (HO.out.below hb); replace HBX := hid (HBX.out.below hb); clear hb; have z2 := HBX.out.c1)
              | (go_at_call 19; refine (left_ok d B' _ HST.out.m).mono ?_; rintro e w' ⟨rfl, rfl⟩)
              | (go_at_call 20; refine (refLeft_ok r B' _ HST.out.k).mono ?_; rintro e w' ⟨rfl, rfl⟩)
              | (go_at_call 21; refine (HI1.out _ _ HST.out.m).mono ?_; rintro e w' ⟨rfl, mm, rfl⟩; replace HST := hid (HST.out.drewN mm); replace HO := hid (HO.out.drewN mm); replace HBX := hid (HBX.out.drewN mm); have z3 := HBX.out.c1)
              | (go_at_call 22; refine (HI2.out _ _ HST.out.k).mono ?_; rintro e w' ⟨rfl, rfl⟩))
          clear z0 z00 z1 z2 z3 z4
          go_wp2_with fail
          go_roundw
          case rel => exact ⟨k + 1, B', by omega, by go_num, HL'.out.trans HL.out, HST.out⟩
          case measure => simp [intOf]; omega
        · have hx2 : (x == 1) = false := by simpa using hx1
          clear hx hx1
          obtain ⟨v, B', hl', p1, p2⟩ := give_both B y
          obtain ⟨bb, q1, q2⟩ := is_both B' y
          have P1 := hid p1; have P2 := hid p2; have HI1 := hid q1; have HI2 := hid q2; have HL' := hid hl'; clear p1 p2 q1 q2 hl'
          obtain ⟨t1, ht1⟩ : ∃ t1 : ByteArray, (⟨(encB B').toArray⟩ : ByteArray) = t1 := ⟨_, rfl⟩
          have HE1 : Hid (∀ w' o, Mp w' o B' → Calls Try.prog 18 #[.pointer (some ⟨o.M, 0, none⟩)] w' fun e w2 => e = .returned (.string t1) ∧ Below w'.heap.size w' w2) := hid fun w' o h' => ht1 ▸ encode_ok o B' w' h'
          have HE2 : Hid (∀ w' o, Rf w' o B' → Calls Try.prog 10 #[.pointer (some ⟨o.M, 0, none⟩)] w' fun e w2 => e = .returned (.string t1) ∧ Below w'.heap.size w' w2) := hid fun w' o h' => ht1 ▸ refEncode_ok o B' w' h'
          clear ht1 HEE
          go_wp2_with fail
          clear v0
          replace HST := hid HST.out.drew; replace HO := hid HO.out.drew; replace HBX := hid HBX.out.drew
          have v10 := HBX.out.c1
          go_region_held3 (fun w' => w'.cell? ⟨C, 1, none⟩ = some (.int .i64 y)) (first | exact v1 | exact v10 | exact y1 | exact y2 | go_keep)
            (first
              | (go_at_call 16; refine (P1.out _ _ HST.out.m).mono ?_; rintro e wA ⟨rfl, hA, oA⟩; have HA := hid hA; have OA := hid oA; clear hA oA; replace HBX := hid (HBX.out.only OA.out HCD.out.1); have y1 := HBX.out.c1)
              | (go_at_call 17; refine (P2.out _ _ (HST.out.k.other OA.out (Ne.symm HX.out.a2) (Ne.symm HX.out.a3))).mono ?_; rintro e wB ⟨rfl, hB, oB⟩; have HST2 := hid (HST.out.both HX.out HA.out OA.out hB oB); have HO2 := hid ((HO.out.other OA.out HON.out.1 HON.out.2.1).other oB HON.out.2.2.1 HON.out.2.2.2); replace HBX := hid (HBX.out.only oB HCD.out.2); clear hB oB; have y2 := HBX.out.c1))
          clear HST HO HA OA P1 P2 v1 v10 y1 y2
          have HST := HST2; have HO := HO2
          clear HST2 HO2
          have z0 := HBX.out.c1
          replace HST := hid HST.out.drew; replace HO := hid HO.out.drew; replace HBX := hid HBX.out.drew
          have z00 := HBX.out.c1
          go_wp2_with fail
          go_region_held3 (fun w' => w'.cell? ⟨C, 1, none⟩ = some (.int .i64 y)) (first | exact z0 | exact z00 | exact z1 | exact z2 | exact z3 | exact z4 | go_keep)
            (first
              | (go_at_call 18; (first
                  | (with_reducible refine (HE1.out _ _ HST.out.m).mono ?_); rintro e w7 ⟨rfl, hb⟩; replace HST := hid (HST.out.next hb); replace HO := hid (HO.out.below hb); replace HBX := hid (HBX.out.below hb); clear hb; have z1 := HBX.out.c1
                  | (with_reducible refine (HE0.out _ _ HO.out).mono ?_); rintro e w9 ⟨rfl, hb⟩; replace HST := hid (HST.out.next hb); replace HBX := hid (HBX.out.below hb); clear hb; have z4 := HBX.out.c1))
              | (go_at_call 10; refine (HE2.out _ _ HST.out.k).mono ?_; rintro e w8 ⟨rfl, hb⟩; replace HST := hid (HST.out.next hb); replace HO := hid (HO.out.below hb); replace HBX := hid (HBX.out.below hb); clear hb; have z2 := HBX.out.c1)
              | (go_at_call 19; refine (left_ok d B' _ HST.out.m).mono ?_; rintro e w' ⟨rfl, rfl⟩)
              | (go_at_call 20; refine (refLeft_ok r B' _ HST.out.k).mono ?_; rintro e w' ⟨rfl, rfl⟩)
              | (go_at_call 21; refine (HI1.out _ _ HST.out.m).mono ?_; rintro e w' ⟨rfl, mm, rfl⟩; replace HST := hid (HST.out.drewN mm); replace HO := hid (HO.out.drewN mm); replace HBX := hid (HBX.out.drewN mm); have z3 := HBX.out.c1)
              | (go_at_call 22; refine (HI2.out _ _ HST.out.k).mono ?_; rintro e w' ⟨rfl, rfl⟩))
          clear z0 z00 z1 z2 z3 z4
          go_wp2_with fail
          go_roundw
          case rel => exact ⟨k + 1, B', by omega, by go_num, HL'.out.trans HL.out, HST.out⟩
          case measure => simp [intOf]; omega
    · obtain rfl : k = c := by omega
      have HEXIT : Hid (k = len ∨ (k < len ∧ k = 100)) := hid (by have := HC.out; omega)
      have HB := hid HST.out.below
      clear HC hlt hk hcl
      rcases HEXIT.out with hkl | hkl
      · have e1 : decide (k < len) = false := by simp; omega
        clear hkl HEXIT
        go_wp2_with (go_at_call 23; refine (live_any _).mono ?_; rintro e w7 ⟨rfl, hb⟩; replace HB := on_below HB hb; clear hb)
        go_ret
        exact ⟨rfl, HB.out⟩
      · have e0 := hkl.1
        have e1 : decide ((k : Int) < 100) = false := by simp; omega
        clear hkl HEXIT
        go_wp2_with (go_at_call 23; refine (live_any _).mono ?_; rintro e w7 ⟨rfl, hb⟩; replace HB := on_below HB hb; clear hb)
        go_ret
        exact ⟨rfl, HB.out⟩
set_option maxRecDepth 100000 in
set_option maxHeartbeats 2000000 in
theorem FreeScripts_walk (a b : Int) (v : Value) (w : World) (_ha : (Lit.int .i64 a).wf = true) (_hb : (Lit.int .i64 b).wf = true) (hv : ∃ p len cap, v = .slice p len cap ∧ IsScript w p len) :
    Calls Try.prog 3 #[.int .i64 a, .int .i64 b, v] w fun e w' => e = .returned (.bool true) ∧ Below w.heap.size w w' := by
  obtain ⟨p, len, cap, rfl, hs⟩ := hv
  by_cases h1 : a < 1 ∨ 1000 < a ∨ b < 0 ∨ a < b
  · have H1 := hid h1
    have HB : Hid (Below w.heap.size w w) := hid (Below.refl _ _)
    have hlen := hs.1
    unfold maxLen at hlen
    clear h1
    go_enter Try.func3, Try.ntmps3
    go_wp2_with (first
      | (go_at_call 8; refine (new_bad a b _ H1.out).mono ?_; rintro e w' ⟨rfl, rfl⟩)
      | (go_at_call 9; refine (refNew_bad a b _ H1.out).mono ?_; rintro e w' ⟨rfl, rfl⟩))
    go_loopw [11] (fun i wr => i = .int .i64 0 ∧ wr = w) (fun _ _ => 0)
    case atStart => exact ⟨rfl, rfl⟩
    case round =>
      obtain ⟨rfl, rfl⟩ := hrel
      go_wp2_with (go_at_call 23; refine (live_any _).mono ?_; rintro e w7 ⟨rfl, hb⟩; replace HB := on_below HB hb; clear hb)
      all_goals (go_ret; exact ⟨rfl, HB.out⟩)
  · obtain ⟨n, rfl⟩ : ∃ n : Nat, a = (n : Int) := ⟨a.toNat, by omega⟩
    obtain ⟨f, rfl⟩ : ∃ f : Nat, b = (f : Int) := ⟨b.toNat, by omega⟩
    exact Scripts_go n f p len cap w (by omega) (by omega) (by omega) hs
theorem FreeScripts_open2 {H : Type} {enc : TypeId × Value → H} {W : World} {base : Nat} {v : Value} {d : DataW H} {p : List MemPlace}
    (hv : Value.okWide Try.prog W .any base 22 v) (h : DataW.Trod enc Try.prog W 0 (fun _ => true) true 22 v d p) :
    ∃ a len cap, v = .slice a len cap ∧ IsScript W a len := open_script hv h
end Go.Proofs.Ytefnofipcjjfpaa
