/- The walk of PageSeals. -/
import Derived.Test.YtfedkhomplffoaaPgRef4
namespace Go.Proofs.Ytfedkhomplffoaa
open Go.RowKit
open Go.Lib (hid)
open Go.Proofs.Ytfedkhomplffoaa.Fd (on_below wf_i64)
open Go.Proofs.Ytfedkhomplffoaa.Pg

/-- what Torn gives -/
def tornZ (s : ByteArray) (a : Int) : List UInt8 := if s.size ≠ 256 ∨ a < 0 ∨ 256 < a then [] else tornL s.data.toList a.toNat
def tornE (s : ByteArray) (a : Int) : Int := if s.size ≠ 256 ∨ a < 0 ∨ 256 < a then 1 else 0
theorem torn_at {s : ByteArray} {a E : Int} {r : List UInt8} (w : World) (hr : tornZ s a = r) (hE : tornE s a = E) :
    Calls Try.prog 12 #[.string s, .int .i64 a] w fun e w' => e = .returned (.tuple #[.string ⟨r.toArray⟩, .int .i64 E]) ∧ Below w.heap.size w w' := by
  subst hr hE
  unfold tornZ tornE
  by_cases h : s.size ≠ 256 ∨ a < 0 ∨ 256 < a
  · rw [if_pos h, if_pos h]; exact torn_out w h
  · rw [if_neg h, if_neg h]; exact torn_in w (by omega) (by omega) (by omega) rfl
theorem refTorn_at {s : ByteArray} {a E : Int} {r : List UInt8} (w : World) (hr : tornZ s a = r) (hE : tornE s a = E) :
    Calls Try.prog 13 #[.string s, .int .i64 a] w fun e w' => e = .returned (.tuple #[.string ⟨r.toArray⟩, .int .i64 E]) ∧ w = w' := by
  subst hr hE
  unfold tornZ tornE
  by_cases h : s.size ≠ 256 ∨ a < 0 ∨ 256 < a
  · rw [if_pos h, if_pos h]; exact refTorn_out w h
  · rw [if_neg h, if_neg h]
    have := refTorn_yes s a.toNat w (by omega) (by omega)
    rw [show ((a.toNat : Nat) : Int) = a by omega] at this
    exact this

set_option maxHeartbeats 1600000 in
theorem PageSeals_any (k n : Int) (b : ByteArray) (s : ByteArray) (a : Int) (w0 : b.size ≤ maxLen) (w1 : s.size ≤ maxLen) (w : World) :
    Calls Try.prog 3 #[.agg #[.int .i64 k, .int .i64 n, .string b], .string s, .int .i64 a] w fun e w' => e = .returned (.bool true) ∧ Below w.heap.size w w' := by
  unfold maxLen at w0 w1
  have hB : Below w.heap.size w (w.alloc (.cells #[.int .i64 k, .int .i64 n, .string b] 23)) := (Below.refl _ _).alloc (Nat.le_refl _) _
  have hP := Box.made w k n b
  have HB := hid hB; have HP := hid hP; clear hB hP
  by_cases h3 : 300 < b.size ∨ 300 < s.size
  · by_cases h4 : 300 < b.size
    · have e4 : decide ((300 : Int) < (b.size : Int)) = true := by simp; omega
      clear h3
      go_enter Try.func3, Try.ntmps3
      go_wp2_with (go_at_call 9; refine (live_any _).mono ?_; rintro e w' ⟨rfl, hb⟩; replace HB := on_below HB hb; clear hb)
      go_ret; exact ⟨rfl, HB.out⟩
    · have h5 : 300 < s.size := by omega
      have e4 : decide ((300 : Int) < (b.size : Int)) = false := by simp; omega
      have e5 : decide ((300 : Int) < (s.size : Int)) = true := by simp; omega
      clear h3
      go_enter Try.func3, Try.ntmps3
      go_wp2_with (go_at_call 9; refine (live_any _).mono ?_; rintro e w' ⟨rfl, hb⟩; replace HB := on_below HB hb; clear hb)
      go_ret; exact ⟨rfl, HB.out⟩
  · have e4 : decide ((300 : Int) < (b.size : Int)) = false := by simp; omega
    have e5 : decide ((300 : Int) < (s.size : Int)) = false := by simp; omega
    clear h3
    obtain ⟨r, hr⟩ : ∃ r, sealZ k n b.data.toList = r := ⟨_, rfl⟩
    obtain ⟨E, hE⟩ : ∃ r, errZ k n b.data.toList = r := ⟨_, rfl⟩
    obtain ⟨q, hq⟩ : ∃ r, tornZ s a = r := ⟨_, rfl⟩
    obtain ⟨F, hF⟩ : ∃ r, tornE s a = r := ⟨_, rfl⟩
    have HR := hid hr; have HE := hid hE; have HQ := hid hq; have HF := hid hF; clear hr hE hq hF
    go_enter Try.func3, Try.ntmps3
    go_wp2_with (first
      | (go_at_call 10; refine (seal_zat (k := k) (n := n) (b := b) _ HR.out HE.out).mono ?_; rintro e w' ⟨rfl, hb⟩; replace HB := on_below HB hb; replace HP := hid (HP.out.below hb); clear hb; have p0 := HP.out.c0; have p1 := HP.out.c1; have p2 := HP.out.c2)
      | (go_at_call 11; refine (refSeal_zat (k := k) (n := n) (b := b) _ HR.out HE.out).mono ?_; rintro e w' ⟨rfl, hb⟩; replace HB := on_below HB hb; clear hb)
      | (go_at_call 12; refine (torn_at _ HQ.out HF.out).mono ?_; rintro e w' ⟨rfl, hb⟩; replace HB := on_below HB hb; clear hb)
      | (go_at_call 13; refine (refTorn_at _ HQ.out HF.out).mono ?_; rintro e w' ⟨rfl, rfl⟩)
      | (go_at_call 14; refine (blank_any _).mono ?_; rintro e w' ⟨rfl, hb⟩; replace HB := on_below HB hb; clear hb)
      | (go_at_call 15; refine (refBlank_any _).mono ?_; rintro e w' ⟨rfl, hb⟩; replace HB := on_below HB hb; clear hb)
      | (go_at_call 9; refine (live_any _).mono ?_; rintro e w' ⟨rfl, hb⟩; replace HB := on_below HB hb; clear hb))
    go_ret; exact ⟨rfl, HB.out⟩
theorem PageSeals_walk (v : Value) (s : ByteArray) (a : Int) (w0 : IsPage v) (w1 : s.size ≤ maxLen) (_w2 : (Lit.int .i64 a).wf = true) (w : World) :
    Calls Try.prog 3 #[v, .string s, .int .i64 a] w fun e w' => e = .returned (.bool true) ∧ Below w.heap.size w w' := by
  obtain ⟨k, n, b, rfl, _, _, hb⟩ := w0
  exact PageSeals_any k n b s a hb w1 w
theorem PageSeals_open0 {H : Type} {enc : TypeId × Value → H} {W : World} {base : Nat} {v : Value} {d : DataW H} {p : List MemPlace}
    (hv : Value.okWide Try.prog W .any base 23 v) (h : DataW.Trod enc Try.prog W 0 (fun _ => true) true 23 v d p) : IsPage v := page_open hv h
end Go.Proofs.Ytfedkhomplffoaa
