/- Seal, Torn and Open of the document's answer: what each returns, whatever it is called with. -/
import Derived.Test.YtfedkhomplffoaaPgRef
import Derived.Test.YtfedkhomplffoaaTornW
import Derived.Test.YtfedkhomplffoaaBackW
namespace Go.Proofs.Ytfedkhomplffoaa.Pg
open Go.RowKit
open Go.Lib (hid)
open Go.Proofs.Ytfedkhomplffoaa.Fd (Area Row Upd rowOf be be_length be_at beB num getAt putAt on_below on_upd)
open Go.Proofs.Ytfedkhomplffoaa.Sm (U B32 sumB U_lo U_hi)

set_option maxHeartbeats 400000 in
theorem refSeal_no (k n : Int) (b : ByteArray) (w : World) (h : ¬ mayP k n b.size) :
    Calls Try.prog 11 #[.agg #[.int .i64 k, .int .i64 n, .string b]] w fun e w' => e = .returned (.tuple #[.string ⟨#[]⟩, .int .i64 1]) ∧ Below w.heap.size w w' := by
  have H := hid h; clear h
  go_enter Try.func11, Try.ntmps11
  go_wp2_with (go_at_call 25; refine (refMay_no k n b _ H.out).mono ?_; rintro e w' ⟨rfl, hb⟩; have HB := hid hb; clear hb)
  go_ret2
  exact ⟨rfl, ((Below.refl _ _).alloc (Nat.le_refl _) _).trans (HB.out.mono (by simp))⟩

theorem refSeal_z (k n : Int) (b : ByteArray) (w : World) :
    Calls Try.prog 11 #[.agg #[.int .i64 k, .int .i64 n, .string b]] w fun e w' => e = .returned (.tuple #[.string ⟨(sealZ k n b.data.toList).toArray⟩, .int .i64 (errZ k n b.data.toList)]) ∧ Below w.heap.size w w' := by
  have hsz : b.data.toList.length = b.size := by simp
  by_cases h : mayP k n b.size
  · have hk : ((k.toNat : Nat) : Int) = k := by have := h.1; omega
    have hn : ((n.toNat : Nat) : Int) = n := by have := h.2.2.1; omega
    have := refSeal_yes k.toNat n.toNat b w (by rw [hk, hn]; exact h)
    rw [hk, hn] at this
    unfold sealZ errZ; rw [hsz, if_pos h, if_pos h]; exact this
  · have := refSeal_no k n b w h
    unfold sealZ errZ; rw [hsz, if_neg h, if_neg h]; exact this
theorem refSeal_zat {k n E : Int} {b : ByteArray} {r : List UInt8} (w : World) (hr : sealZ k n b.data.toList = r) (hE : errZ k n b.data.toList = E) :
    Calls Try.prog 11 #[.agg #[.int .i64 k, .int .i64 n, .string b]] w fun e w' => e = .returned (.tuple #[.string ⟨r.toArray⟩, .int .i64 E]) ∧ Below w.heap.size w w' := by
  subst hr hE; exact refSeal_z k n b w

set_option maxHeartbeats 400000 in
theorem refTorn_out {s : ByteArray} {a : Int} (w : World) (h : s.size ≠ 256 ∨ a < 0 ∨ 256 < a) :
    Calls Try.prog 13 #[.string s, .int .i64 a] w fun e w' => e = .returned (.tuple #[.string ⟨#[]⟩, .int .i64 1]) ∧ w = w' := by
  by_cases h1 : s.size = 256
  · by_cases h2 : a < 0
    · have e1 : ((s.size : Int) != 256) = false := by simp; omega
      clear h
      have H1 := hid h1; clear h1
      go_enter Try.func13, Try.ntmps13
      go_wp2_with fail
      go_ret2
      exact ⟨rfl, rfl⟩
    · have h3 : 256 < a := by omega
      have e1 : ((s.size : Int) != 256) = false := by simp; omega
      have e2 : decide (a < 0) = false := by simp; omega
      clear h h2
      have H1 := hid h1; clear h1
      go_enter Try.func13, Try.ntmps13
      go_wp2_with fail
      go_ret2
      exact ⟨rfl, rfl⟩
  · have e1 : ((s.size : Int) != 256) = true := by simp; omega
    clear h
    have H1 := hid h1; clear h1
    go_enter Try.func13, Try.ntmps13
    go_wp2_with fail
    go_ret2
    exact ⟨rfl, rfl⟩

/-- how long a text is -/
def strLen : Value → Nat
  | .string t => t.size
  | _ => 0
/-- torn so far -/
def tornS (l : List UInt8) (a k : Nat) : Array UInt8 := (l.take a ++ ees k).toArray
theorem tornS_size (l : List UInt8) (a k : Nat) (hl : l.length = 256) (ha : a ≤ 256) : (tornS l a k).size = a + k := by
  simp [tornS, ees_length]; omega
theorem tornS_zero (s : ByteArray) (a : Nat) : s.extract 0 a = ⟨tornS s.data.toList a 0⟩ := by
  apply ByteArray.ext
  rw [ByteArray.data_extract, ← Array.toList_inj]
  simp [tornS, ees]
theorem tornS_more (l : List UInt8) (a k : Nat) : (⟨tornS l a k⟩ ++ ⟨#[238]⟩ : ByteArray) = ⟨tornS l a (k + 1)⟩ := by
  apply ByteArray.ext
  simp [tornS, ees, ByteArray.data_append, List.replicate_succ']
theorem tornS_all (l : List UInt8) (a : Nat) : tornS l a (256 - a) = (tornL l a).toArray := rfl

set_option maxRecDepth 100000 in
set_option maxHeartbeats 400000 in
theorem refTorn_yes (s : ByteArray) (a : Nat) (w : World) (hs : s.size = 256) (h : a ≤ 256) :
    Calls Try.prog 13 #[.string s, .int .i64 a] w fun e w' => e = .returned (.tuple #[.string ⟨(tornL s.data.toList a).toArray⟩, .int .i64 0]) ∧ w = w' := by
  have e1 : ((s.size : Int) != 256) = false := by simp; omega
  have e2 : decide ((a : Int) < 0) = false := by simp
  have h3 : (a : Int) ≤ 256 := by omega
  have e3 : decide ((256 : Int) < (a : Int)) = false := by simp; omega
  have h4 : (a : Int) ≤ (s.size : Int) := by omega
  have HS := hid hs
  have hsl : s.data.toList.length = 256 := by simp [hs]
  have HSL := hid hsl; clear hs hsl
  go_enter Try.func13, Try.ntmps13
  go_wp2_with fail
  go_loop [6] (fun x => ∃ k : Nat, a + k ≤ 256 ∧ x = .string ⟨tornS s.data.toList a k⟩) (fun x => 256 - strLen x)
  case atStart => exact ⟨0, by omega, by rw [tornS_zero]⟩
  case round =>
    obtain ⟨k, hk, rfl⟩ := hrel
    have hsz := tornS_size s.data.toList a k HSL.out h
    have hmore := tornS_more s.data.toList a k
    by_cases hlt : a + k < 256
    · have hsz1 := tornS_size s.data.toList a (k + 1) HSL.out h
      go_wp2_with fail
      go_round
      case rel => exact ⟨k + 1, by omega, rfl⟩
      case measure => show 256 - (tornS s.data.toList a (k + 1)).size < 256 - (tornS s.data.toList a k).size; omega
    · have hk2 : k = 256 - a := by omega
      have HK2 := hid hk2; clear hk2
      clear hmore
      go_wp2_with fail
      go_ret2
      exact ⟨by rw [HK2.out, tornS_all]; rfl, rfl⟩
end Go.Proofs.Ytfedkhomplffoaa.Pg
