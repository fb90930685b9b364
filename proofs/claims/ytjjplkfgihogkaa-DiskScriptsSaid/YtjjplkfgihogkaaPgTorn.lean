/- Torn of page: what it returns, whatever it is called with. -/
import Derived.Test.YtjjplkfgihogkaaPgSmall
namespace Go.Proofs.Ytjjplkfgihogkaa.Pg
open Go.RowKit
open Go.Lib (hid)
open Go.Proofs.Ytjjplkfgihogkaa.Fd (Area Row Upd rowOf be be_length be_at beB num getAt putAt on_below on_upd)
open Go.Proofs.Ytjjplkfgihogkaa.Sm (U B32 sumB U_lo U_hi)

set_option maxHeartbeats 400000 in
theorem torn_no (s : ByteArray) (a : Int) (w : World) (h : s.size ≠ 256 ∨ a < 0 ∨ 256 < a) :
    Calls Try.prog 44 #[.string s, .int .i64 a] w fun e w' => e = .returned (.tuple #[.string ⟨#[]⟩, .int .i64 1]) ∧ w = w' := by
  by_cases h1 : s.size = 256
  · by_cases h2 : a < 0
    · have e1 : ((s.size : Int) != 256) = false := by simp; omega
      clear h
      have H1 := hid h1; clear h1
      go_enter Try.func44, Try.ntmps44
      go_wp2_with fail
      go_ret2
      exact ⟨rfl, rfl⟩
    · have h3 : 256 < a := by omega
      have e1 : ((s.size : Int) != 256) = false := by simp; omega
      have e2 : decide (a < 0) = false := by simp; omega
      clear h h2
      have H1 := hid h1; clear h1
      go_enter Try.func44, Try.ntmps44
      go_wp2_with fail
      go_ret2
      exact ⟨rfl, rfl⟩
  · have e1 : ((s.size : Int) != 256) = true := by simp; omega
    clear h
    have H1 := hid h1; clear h1
    go_enter Try.func44, Try.ntmps44
    go_wp2_with fail
    go_ret2
    exact ⟨rfl, rfl⟩

/-- bytes ee -/
def ees (n : Nat) : List UInt8 := List.replicate n 0xee
theorem ees_length (n : Nat) : (ees n).length = n := by simp [ees]
theorem put_ees (l : List UInt8) (a : Nat) (hl : l.length = 256) (h : a ≤ 256) : putAt (ees 256) 0 (l.take a) = tornL l a := by
  unfold Fd.putAt tornL ees
  rw [List.length_take, Nat.min_eq_left (by omega), List.take_zero, List.nil_append, List.drop_replicate, Nat.zero_add]
theorem of_ees (w : World) :
    Calls Try.prog 53 #[.string ⟨(ees 256).toArray⟩] w fun e w' => e = .returned (.tuple #[.pointer (some ⟨w.heap.size + 1, 0, none⟩), .int .i64 0]) ∧ Area 100 w' (w.heap.size + 1) w.heap.size (ees 256) ∧ Below w.heap.size w w' := by
  have := Fd.of_ok ⟨(ees 256).toArray⟩ w (by show (ees 256).toArray.size ≤ 4096; rw [List.size_toArray, ees_length]; decide)
  exact this
theorem repeat_ees (w : World) :
    Calls Try.prog 40 #[.string ⟨#[238]⟩, .int .i64 256] w fun e w' => e = .returned (.string ⟨(ees 256).toArray⟩) ∧ Below w.heap.size w w' := by
  refine (Try.strings_Repeat_main ⟨#[238]⟩ 256 _ (by decide) (by decide) (by decide) (by decide)).mono ?_
  rintro e w' ⟨rfl, hb⟩
  exact ⟨by rw [repeat_one]; rfl, hb⟩
theorem putText_0 (A B : Nat) (l : List UInt8) (s : ByteArray) (w : World) (ha : Area 100 w A B l) (h : s.size ≤ l.length) :
    Calls Try.prog 54 #[.pointer (some ⟨A, 0, none⟩), .int .i64 0, .string s] w fun e w' => e = .returned (.int .i64 0) ∧ Upd B (putAt l 0 s.data.toList) w w' :=
  Fd.putText_ok A B l 0 s w ha (by omega)
theorem extract_of (s : ByteArray) (k : Nat) : (s.extract 0 k).data.toList = s.data.toList.take k := by
  rw [ByteArray.data_extract]; simp
theorem extract_len (s : ByteArray) (k : Nat) (h : k ≤ s.size) : (s.extract 0 k).size = k := by
  rw [ByteArray.size_extract]; omega

set_option maxHeartbeats 400000 in
theorem torn_yes (s : ByteArray) (a : Nat) (w : World) (hs : s.size = 256) (h : a ≤ 256) :
    Calls Try.prog 44 #[.string s, .int .i64 a] w fun e w' => e = .returned (.tuple #[.string ⟨(tornL s.data.toList a).toArray⟩, .int .i64 0]) ∧ Below w.heap.size w w' := by
  have e1 : ((s.size : Int) != 256) = false := by simp; omega
  have e2 : decide ((a : Int) < 0) = false := by simp
  have h3 : (a : Int) ≤ 256 := by omega
  have e3 : decide ((256 : Int) < (a : Int)) = false := by simp; omega
  have h4 : (a : Int) ≤ (s.size : Int) := by omega
  have HX := hid (extract_len s a (by omega))
  have HT := hid (put_ees s.data.toList a (by simp [hs]) h)
  have HS := hid hs; clear hs
  go_enter Try.func44, Try.ntmps44
  go_wp2_with (first
    | (go_at_call 40; refine (repeat_ees _).mono ?_; rintro e w1 ⟨rfl, hb⟩; have hlo := hb.size; have HB := hid hb; clear hb)
    | (go_at_call 53; refine (of_ees _).mono ?_; rintro e w2 ⟨rfl, ha, hb⟩; have HA := hid ha; clear ha; replace HB := on_below HB hb; clear hb))
  generalize w1.heap.size = B at HA hlo ⊢
  refine (putText_0 (B + 1) B _ _ _ HA.out (by rw [ees_length, HX.out]; omega)).mono ?_
  rintro e w3 ⟨rfl, hu⟩
  rw [extract_of, HT.out] at hu
  have HL := hid (torn_length s.data.toList a (by have := HS.out; simp [this]) h)
  replace HA := hid (HA.out.upd hu (by rw [HL.out, ees_length]))
  replace HB := on_upd HB hu hlo
  clear hu e1 e2 e3 h4 hlo
  go_wp2_with (go_at_call 55; refine (Fd.bytes_ok (B + 1) B _ _ HA.out).mono ?_; rintro e w8 ⟨rfl, rfl⟩)
  go_ret2
  exact ⟨rfl, HB.out⟩
end Go.Proofs.Ytjjplkfgihogkaa.Pg
