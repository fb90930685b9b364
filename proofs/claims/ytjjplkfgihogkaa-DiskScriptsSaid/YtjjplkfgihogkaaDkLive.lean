/- The law's own examples. -/
import Derived.Test.YtjjplkfgihogkaaDkLv
import Derived.Test.YtjjplkfgihogkaaDkFill
import Derived.Deep.RegionHeld3
namespace Go.Proofs.Ytjjplkfgihogkaa.Dk
open Go.RowKit
open Go.Lib (hid)

/-- a disk of three pages -/
def L3 (a b c : ByteArray) (ws : List (Nat × ByteArray)) (r wr fl : Int) : St := ⟨[a, b, c], ws, -1, r, wr, fl⟩
def fill7 : ByteArray := filledB 7
def fill8 : ByteArray := filledB 8
def fill9 : ByteArray := filledB 9
def fillE : ByteArray := filledB 238
theorem tornE : tornB fill9 0 = fillE := by
  unfold tornB fillE filledB Pg.tornL
  rw [List.take_zero, List.nil_append, Nat.sub_zero]
theorem fill_some (c : UInt8) : (filledB c).toList.isEmpty = false := by
  rw [ByteArray.toList_eq]; unfold filledB; simp
theorem ex_new : newS (blanks 3) = L3 blankB blankB blankB [] 0 0 0 := rfl
theorem ex_w1 (a b c t : ByteArray) (ws : List (Nat × ByteArray)) (r wr fl : Int) (n : Nat) : writeS (L3 a b c ws r wr fl) n t = L3 a b c (ws ++ [(n, t)]) r (wr + 1) fl := by
  unfold writeS burnS countW pushS L3 burnI; simp
theorem ex_fl (a b c t : ByteArray) (r wr fl : Int) : flushS (L3 a b c [(1, t)] r wr fl) = L3 a t c [] r wr (fl + 1) := by
  unfold flushS noWaits burnS countF partS L3 burnI applyW; simp
theorem ex_rd (a b c : ByteArray) (ws : List (Nat × ByteArray)) (r wr fl : Int) : readS (L3 a b c ws r wr fl) = L3 a b c ws (r + 1) wr fl := rfl
theorem ex_come (a b c : ByteArray) (r wr fl : Int) : comeS (L3 a b c [(1, fill8), (2, fill9)] r wr fl) [0] 1 0 = some [fill8, fillE] := by
  have h1 : keepL (L3 a b c [(1, fill8), (2, fill9)] r wr fl) [0] (none0 (L3 a b c [(1, fill8), (2, fill9)] r wr fl)) = some [fill8, emptyB] := by
    simp [keepL, none0, L3, freeB, textAt, emptyB_nil]
  have h2 : freeB [fill8, emptyB] 1 = true := by simp [freeB, emptyB_nil]
  unfold comeS
  rw [h1]
  simp only [h2]
  have h3 : textAt (L3 a b c [(1, fill8), (2, fill9)] r wr fl) (1 : Int).toNat = fill9 := rfl
  have h4 : (0 : Int).toNat = 0 := rfl
  rw [h3, h4, tornE]
  simp
theorem ex_crash (a b c : ByteArray) (r wr fl : Int) : crashS (L3 a b c [(1, fill8), (2, fill9)] r wr fl) [fill8, fillE] = L3 a fill8 fillE [] r wr fl := by
  have e8 : fill8.toList.isEmpty = false := fill_some 8
  have eE : fillE.toList.isEmpty = false := fill_some 238
  unfold crashS noFuse noWaits comeK L3
  simp [crashP, e8, eE]

theorem filled8 (w : World) : Calls Try.prog 8 #[.int .u8 8] w fun e w' => e = .returned (.string fill8) ∧ Below w.heap.size w w' := filled_ok 8 w
theorem filledE (w : World) : Calls Try.prog 8 #[.int .u8 238] w fun e w' => e = .returned (.string fillE) ∧ Below w.heap.size w w' := filled_ok 238 w
/-- a text's cell in a block that is there -/
def CelT (w : World) (g i : Nat) (t : ByteArray) : Prop := g < w.heap.size ∧ w.cell? ⟨g, i, none⟩ = some (.string t)
theorem CelT.below {w w' : World} {g i : Nat} {t : ByteArray} (h : CelT w g i t) (hb : Below w.heap.size w w') : CelT w' g i t :=
  ⟨Nat.lt_of_lt_of_le h.1 hb.size, (hb.cell (p := ⟨g, i, none⟩) h.1).trans h.2⟩
set_option maxRecDepth 100000 in
set_option maxHeartbeats 4000000 in
theorem live_any (w : World) :
    Calls Try.prog 6 #[] w fun e w' => e = .returned (.bool true) ∧ Below w.heap.size w w' := by
  have s7 : fill7.size = 256 := filledB_size 7
  have s8 : fill8.size = 256 := filledB_size 8
  have s9 : fill9.size = 256 := filledB_size 9
  go_enter Try.func6, Try.ntmps6
  go_wp2_with fail
  refine (lv_new 3 w _ (Below.refl _ _) (by decide) (by decide)).mono ?_; rintro e w1 ⟨D, rfl, hl⟩; rw [ex_new] at hl; have HL := hid hl; clear hl
  go_wp2_with fail
  refine (new_bad 0 _ (by decide)).mono ?_; rintro e w' ⟨rfl, rfl⟩
  go_wp2_with fail
  refine (filled_ok 7 _).mono ?_; rintro e w2 ⟨rfl, hb⟩; replace HL := hid (HL.out.next hb); clear hb
  go_wp2_with fail
  refine (lv_write 1 fill7 HL.out (by decide) s7 (by decide) (by decide) (by decide)).mono ?_; rintro e w3 ⟨rfl, hl⟩; rw [ex_w1] at hl; replace HL := hid hl; clear hl
  go_wp2_with fail
  refine (lv_flush HL.out (by decide) (by decide)).mono ?_; rintro e w4 ⟨rfl, hl⟩; rw [List.nil_append, ex_fl] at hl; replace HL := hid hl; clear hl
  go_wp2_with fail
  refine (filled_ok 8 _).mono ?_; rintro e w5 ⟨rfl, hb⟩; replace HL := hid (HL.out.next hb); clear hb
  go_wp2_with fail
  refine (lv_write 1 fill8 HL.out (by decide) s8 (by decide) (by decide) (by decide)).mono ?_; rintro e w6 ⟨rfl, hl⟩; rw [ex_w1] at hl; replace HL := hid hl; clear hl
  go_wp2_with fail
  refine (filled_ok 9 _).mono ?_; rintro e w7 ⟨rfl, hb⟩; replace HL := hid (HL.out.next hb); clear hb
  go_wp2_with fail
  refine (lv_write 2 fill9 HL.out (by decide) s9 (by decide) (by decide) (by decide)).mono ?_; rintro e w8 ⟨rfl, hl⟩; rw [ex_w1] at hl; replace HL := hid hl; clear hl
  go_wp2_with fail
  refine (lv_read 1 fill8 HL.out (by decide) (by decide) rfl).mono ?_; rintro e w9 ⟨rfl, hl⟩; rw [ex_rd] at hl; replace HL := hid hl; clear hl
  go_wp2_with fail
  have hk : Kept (w9.alloc (.cells #[.int .i64 0] 3)) (some ⟨w9.heap.size, 0, none⟩) [0] := fun j hj => by
    obtain rfl : j = 0 := by simpa using hj
    exact ⟨w9.heap.size, 0, rfl, by simp, by rw [cell_of_row _ _ _ _ _ _ (heap_alloc_new _ _)]; rfl⟩
  refine (lv_crash _ 1 [0] 1 0 [fill8, fillE] (HL.out.alloc _) hk (by decide) (ex_come _ _ _ _ _ _)).mono ?_; rintro e w10 ⟨rfl, hl⟩; rw [List.nil_append] at hl; replace HL := hid hl; clear hl hk
  replace HL : Hid (Lv w w10 D (L3 blankB fill8 fillE [] 1 3 1)) := hid (by have := HL.out; exact (ex_crash blankB fill7 blankB 1 3 1) ▸ this)
  go_wp2_with fail
  refine (lv_read 2 fillE HL.out (by decide) (by decide) rfl).mono ?_; rintro e w11 ⟨rfl, hl⟩; rw [ex_rd] at hl; replace HL := hid hl; clear hl
  go_wp2_with fail
  refine (lv_counts HL.out).mono ?_; rintro e w' ⟨rfl, m, rfl⟩; replace HL := hid (HL.out.drewN m)
  go_wp2_with fail
  refine (lv_image HL.out).mono ?_; rintro e w12 ⟨g, cap, rfl, hg1, hg2, hg3, hb⟩; replace HL := hid (HL.out.next hb); have c1 : w12.cell? ⟨g, 1, none⟩ = some (.string fill8) := hg3 1 (by show 1 < 3; decide); have HG2 := hid hg2; clear hb hg1 hg2 hg3
  have hlen : (L3 blankB fill8 fillE [] (1 + 1) 3 1).pages.length = 3 := rfl
  rw [hlen]
  clear hlen
  go_wp2_with fail
  replace HL := hid HL.out.drew
  have HC : Hid (CelT w12.drew g 1 fill8) := hid ⟨HG2.out, c1⟩
  have z0 := HC.out.2
  go_region_held3 (fun w' => w'.cell? ⟨g, 1, none⟩ = some (.string fill8)) (first | exact c1 | exact z0 | exact z1 | exact z2 | exact z3 | go_keep)
    (first
      | (go_at_call 8; (first
          | (with_reducible refine (filled8 _).mono ?_); rintro e wx ⟨rfl, hb⟩; replace HL := hid (HL.out.next hb); replace HC := hid (HC.out.below hb); clear hb; have z1 := HC.out.2
          | (with_reducible refine (filledE _).mono ?_); rintro e wy ⟨rfl, hb⟩; replace HL := hid (HL.out.next hb); replace HC := hid (HC.out.below hb); clear hb; have z2 := HC.out.2))
      | (go_at_call 23; refine (lv_size HL.out).mono ?_; rintro e w' ⟨rfl, rfl⟩)
      | (go_at_call 21; refine (lv_waits HL.out).mono ?_; rintro e wz ⟨wp, wc, rfl, hb⟩; replace HL := hid (HL.out.next hb); replace HC := hid (HC.out.below hb); clear hb; have z3 := HC.out.2))
  go_wp2_with fail
  go_ret
  exact ⟨rfl, HL.out.below⟩
end Go.Proofs.Ytjjplkfgihogkaa.Dk
