/- The walk of PageTorn. -/
import Derived.Test.YtfedkhomplffoaaPgLive
namespace Go.Proofs.Ytfedkhomplffoaa
open Go.RowKit
open Go.Lib (hid)
open Go.Proofs.Ytfedkhomplffoaa.Fd (on_below wf_i64)
open Go.Proofs.Ytfedkhomplffoaa.Pg

theorem back_string (s : ByteArray) : (⟨s.data.toList.toArray⟩ : ByteArray) = s := by simp
theorem torn_whole (s : ByteArray) (w : World) (hs : s.size = 256) :
    Calls Try.prog 12 #[.string s, .int .i64 (s.size : Int)] w fun e w' => e = .returned (.tuple #[.string s, .int .i64 0]) ∧ Below w.heap.size w w' := by
  have := torn_yes s s.size w hs (by omega)
  rw [hs, torn_all _ (by simp [hs]), back_string] at this
  rw [hs]; exact this
/-- torn in its bounds -/
theorem torn_in {s : ByteArray} {l : List UInt8} {a : Int} (w : World) (hs : s.size = 256) (h0 : 0 ≤ a) (h1 : a ≤ 256) (hl : tornL s.data.toList a.toNat = l) :
    Calls Try.prog 12 #[.string s, .int .i64 a] w fun e w' => e = .returned (.tuple #[.string ⟨l.toArray⟩, .int .i64 0]) ∧ Below w.heap.size w w' := by
  subst hl
  have := torn_yes s a.toNat w hs (by omega)
  rw [show ((a.toNat : Nat) : Int) = a by omega] at this
  exact this
theorem torn_in_l {l m : List UInt8} {a : Int} (w : World) (hs : l.toArray.size = 256) (h0 : 0 ≤ a) (h1 : a ≤ 256) (hl : tornL l a.toNat = m) :
    Calls Try.prog 12 #[.string ⟨l.toArray⟩, .int .i64 a] w fun e w' => e = .returned (.tuple #[.string ⟨m.toArray⟩, .int .i64 0]) ∧ Below w.heap.size w w' :=
  torn_in (s := ⟨l.toArray⟩) w hs h0 h1 hl
theorem torn_out {s : ByteArray} {a : Int} (w : World) (h : s.size ≠ 256 ∨ a < 0 ∨ 256 < a) :
    Calls Try.prog 12 #[.string s, .int .i64 a] w fun e w' => e = .returned (.tuple #[.string ⟨#[]⟩, .int .i64 1]) ∧ Below w.heap.size w w' :=
  (torn_no s a w h).mono fun _ _ ⟨he, hw⟩ => ⟨he, by subst hw; exact Below.refl _ _⟩

set_option maxHeartbeats 800000 in
theorem PageTorn_walk (s : ByteArray) (a t : Int) (w0 : s.size ≤ maxLen) (w1 : (Lit.int .i64 a).wf = true) (w2 : (Lit.int .i64 t).wf = true) (w : World) :
    Calls Try.prog 7 #[.string s, .int .i64 a, .int .i64 t] w fun e w' => e = .returned (.bool true) ∧ Below w.heap.size w w' := by
  have ha := wf_i64 w1
  have ht := wf_i64 w2
  clear w1 w2
  unfold maxLen at w0
  have HB : Hid (Below w.heap.size w w) := hid (Below.refl _ _)
  by_cases h3 : 300 < s.size
  · go_enter Try.func7, Try.ntmps7
    go_wp2_with (go_at_call 9; refine (live_any _).mono ?_; rintro e w' ⟨rfl, hb⟩; replace HB := on_below HB hb; clear hb)
    go_ret; exact ⟨rfl, HB.out⟩
  · by_cases h1 : s.size = 256
    · by_cases h2 : 0 ≤ a ∧ a ≤ 256
      · have hal := h2.1
        have hah := h2.2
        have HS := hid h1
        obtain ⟨l, hl⟩ : ∃ l, tornL s.data.toList a.toNat = l := ⟨_, rfl⟩
        have hll : l.toArray.size = 256 := by rw [← hl, List.size_toArray]; exact torn_length _ _ (by simp [h1]) (by omega)
        have HLL := hid hll
        have HLT := hid hl; clear hl
        by_cases h4 : 0 ≤ t ∧ t ≤ 256
        · have htl := h4.1
          have hth := h4.2
          by_cases h5 : t < a
          · have e1 : ((s.size : Int) != 256) = false := by simp; omega
            clear h1 h2 h4
            go_enter Try.func7, Try.ntmps7
            go_wp2_with (first
              | (go_at_call 9; refine (live_any _).mono ?_; rintro e w' ⟨rfl, hb⟩; replace HB := on_below HB hb; clear hb)
              | (go_at_call 12; (first
                  | (with_reducible refine (torn_whole s _ HS.out).mono ?_)
                  | (with_reducible refine (torn_in (s := s) (a := a) _ HS.out hal hah HLT.out).mono ?_)
                  | (with_reducible refine (torn_in_l (l := l) (a := t) _ HLL.out htl hth rfl).mono ?_)); rintro e w' ⟨rfl, hb⟩; replace HB := on_below HB hb; clear hb))
            go_ret; exact ⟨rfl, HB.out⟩
          · have e1 : ((s.size : Int) != 256) = false := by simp; omega
            have hlt : tornL l t.toNat = l := by
              rw [← HLT.out]; exact torn_twice _ _ _ (by simp [h1]) (by omega) (by omega) (by omega)
            have HTT := hid hlt
            clear h1 h2 h4 hlt
            go_enter Try.func7, Try.ntmps7
            go_wp2_with (first
              | (go_at_call 9; refine (live_any _).mono ?_; rintro e w' ⟨rfl, hb⟩; replace HB := on_below HB hb; clear hb)
              | (go_at_call 12; (first
                  | (with_reducible refine (torn_whole s _ HS.out).mono ?_)
                  | (with_reducible refine (torn_in (s := s) (a := a) _ HS.out hal hah HLT.out).mono ?_)
                  | (with_reducible refine (torn_in_l (l := l) (a := t) _ HLL.out htl hth HTT.out).mono ?_)); rintro e w' ⟨rfl, hb⟩; replace HB := on_below HB hb; clear hb))
            go_ret; exact ⟨rfl, HB.out⟩
        · have e1 : ((s.size : Int) != 256) = false := by simp; omega
          have HT4 : Hid ((⟨l.toArray⟩ : ByteArray).size ≠ 256 ∨ t < 0 ∨ 256 < t) := hid (by omega)
          clear h1 h2 h4
          go_enter Try.func7, Try.ntmps7
          go_wp2_with (first
            | (go_at_call 9; refine (live_any _).mono ?_; rintro e w' ⟨rfl, hb⟩; replace HB := on_below HB hb; clear hb)
            | (go_at_call 12; (first
                | (with_reducible refine (torn_whole s _ HS.out).mono ?_)
                | (with_reducible refine (torn_in (s := s) (a := a) _ HS.out hal hah HLT.out).mono ?_)
                | (with_reducible refine (torn_out _ HT4.out).mono ?_)); rintro e w' ⟨rfl, hb⟩; replace HB := on_below HB hb; clear hb))
          go_ret; exact ⟨rfl, HB.out⟩
      · have e1 : ((s.size : Int) != 256) = false := by simp; omega
        have HT4 : Hid (s.size ≠ 256 ∨ a < 0 ∨ 256 < a) := hid (by omega)
        have HS := hid h1
        by_cases h6 : a < 0
        · clear h1 h2
          go_enter Try.func7, Try.ntmps7
          go_wp2_with (first
            | (go_at_call 9; refine (live_any _).mono ?_; rintro e w' ⟨rfl, hb⟩; replace HB := on_below HB hb; clear hb)
            | (go_at_call 12; (first
                | (with_reducible refine (torn_whole s _ HS.out).mono ?_)
                | (with_reducible refine (torn_out _ HT4.out).mono ?_)); rintro e w' ⟨rfl, hb⟩; replace HB := on_below HB hb; clear hb))
          go_ret; exact ⟨rfl, HB.out⟩
        · have h7 : 256 < a := by omega
          have e6 : decide (a < 0) = false := by simp; omega
          clear h1 h2 h6
          go_enter Try.func7, Try.ntmps7
          go_wp2_with (first
            | (go_at_call 9; refine (live_any _).mono ?_; rintro e w' ⟨rfl, hb⟩; replace HB := on_below HB hb; clear hb)
            | (go_at_call 12; (first
                | (with_reducible refine (torn_whole s _ HS.out).mono ?_)
                | (with_reducible refine (torn_out _ HT4.out).mono ?_)); rintro e w' ⟨rfl, hb⟩; replace HB := on_below HB hb; clear hb))
          go_ret; exact ⟨rfl, HB.out⟩
    · have e1 : ((s.size : Int) != 256) = true := by simp; omega
      have HT4 : ∀ x : Int, Hid (s.size ≠ 256 ∨ x < 0 ∨ 256 < x) := fun x => hid (.inl h1)
      clear h1
      go_enter Try.func7, Try.ntmps7
      go_wp2_with (first
        | (go_at_call 9; refine (live_any _).mono ?_; rintro e w' ⟨rfl, hb⟩; replace HB := on_below HB hb; clear hb)
        | (go_at_call 12; (with_reducible refine (torn_out _ (HT4 _).out).mono ?_); rintro e w' ⟨rfl, hb⟩; replace HB := on_below HB hb; clear hb))
      go_ret; exact ⟨rfl, HB.out⟩
end Go.Proofs.Ytfedkhomplffoaa
