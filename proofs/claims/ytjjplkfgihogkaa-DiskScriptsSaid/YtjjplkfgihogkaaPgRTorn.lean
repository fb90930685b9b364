/- Torn of the document's answer. -/
import Derived.Test.YtjjplkfgihogkaaPgTorn
namespace Go.Proofs.Ytjjplkfgihogkaa.Pg
open Go.RowKit
open Go.Lib (hid)

set_option maxHeartbeats 400000 in
theorem refTorn_out {s : ByteArray} {a : Int} (w : World) (h : s.size ≠ 256 ∨ a < 0 ∨ 256 < a) :
    Calls Try.prog 37 #[.string s, .int .i64 a] w fun e w' => e = .returned (.tuple #[.string ⟨#[]⟩, .int .i64 1]) ∧ w = w' := by
  by_cases h1 : s.size = 256
  · by_cases h2 : a < 0
    · have e1 : ((s.size : Int) != 256) = false := by simp; omega
      clear h
      have H1 := hid h1; clear h1
      go_enter Try.func37, Try.ntmps37
      go_wp2_with fail
      go_ret2
      exact ⟨rfl, rfl⟩
    · have h3 : 256 < a := by omega
      have e1 : ((s.size : Int) != 256) = false := by simp; omega
      have e2 : decide (a < 0) = false := by simp; omega
      clear h h2
      have H1 := hid h1; clear h1
      go_enter Try.func37, Try.ntmps37
      go_wp2_with fail
      go_ret2
      exact ⟨rfl, rfl⟩
  · have e1 : ((s.size : Int) != 256) = true := by simp; omega
    clear h
    have H1 := hid h1; clear h1
    go_enter Try.func37, Try.ntmps37
    go_wp2_with fail
    go_ret2
    exact ⟨rfl, rfl⟩

/-- how long a text is -/
def strLen : Value → Nat
  | .string t => t.size
  | _ => 0
/-- torn so far -/
def tornS (l : List UInt8) (a k : Nat) : Array UInt8 := (l.take a ++ ees k).toArray
theorem tornS_size (l : List UInt8) (a k : Nat) (hl : l.length = 256) (ha : a ≤ 256) : (tornS l a k).size = a + k := by
  simp [tornS, ees_length]; omega
theorem tornS_zero (s : ByteArray) (a : Nat) : s.extract 0 a = ⟨tornS s.data.toList a 0⟩ := by
  apply ByteArray.ext
  rw [ByteArray.data_extract, ← Array.toList_inj]
  simp [tornS, ees]
theorem tornS_more (l : List UInt8) (a k : Nat) : (⟨tornS l a k⟩ ++ ⟨#[238]⟩ : ByteArray) = ⟨tornS l a (k + 1)⟩ := by
  apply ByteArray.ext
  simp [tornS, ees, ByteArray.data_append, List.replicate_succ']
theorem tornS_all (l : List UInt8) (a : Nat) : tornS l a (256 - a) = (tornL l a).toArray := rfl

set_option maxRecDepth 100000 in
set_option maxHeartbeats 400000 in
theorem refTorn_yes (s : ByteArray) (a : Nat) (w : World) (hs : s.size = 256) (h : a ≤ 256) :
    Calls Try.prog 37 #[.string s, .int .i64 a] w fun e w' => e = .returned (.tuple #[.string ⟨(tornL s.data.toList a).toArray⟩, .int .i64 0]) ∧ w = w' := by
  have e1 : ((s.size : Int) != 256) = false := by simp; omega
  have e2 : decide ((a : Int) < 0) = false := by simp
  have h3 : (a : Int) ≤ 256 := by omega
  have e3 : decide ((256 : Int) < (a : Int)) = false := by simp; omega
  have h4 : (a : Int) ≤ (s.size : Int) := by omega
  have HS := hid hs
  have hsl : s.data.toList.length = 256 := by simp [hs]
  have HSL := hid hsl; clear hs hsl
  go_enter Try.func37, Try.ntmps37
  go_wp2_with fail
  go_loop [6] (fun x => ∃ k : Nat, a + k ≤ 256 ∧ x = .string ⟨tornS s.data.toList a k⟩) (fun x => 256 - strLen x)
  case atStart => exact ⟨0, by omega, by rw [tornS_zero]⟩
  case round =>
    obtain ⟨k, hk, rfl⟩ := hrel
    have hsz := tornS_size s.data.toList a k HSL.out h
    have hmore := tornS_more s.data.toList a k
    by_cases hlt : a + k < 256
    · have hsz1 := tornS_size s.data.toList a (k + 1) HSL.out h
      go_wp2_with fail
      go_round
      case rel => exact ⟨k + 1, by omega, rfl⟩
      case measure => show 256 - (tornS s.data.toList a (k + 1)).size < 256 - (tornS s.data.toList a k).size; omega
    · have hk2 : k = 256 - a := by omega
      have HK2 := hid hk2; clear hk2
      clear hmore
      go_wp2_with fail
      go_ret2
      exact ⟨by rw [HK2.out, tornS_all]; rfl, rfl⟩
end Go.Proofs.Ytjjplkfgihogkaa.Pg
