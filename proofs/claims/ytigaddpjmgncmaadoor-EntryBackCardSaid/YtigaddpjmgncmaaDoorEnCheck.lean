/- Check of entry: what it answers, whatever it is asked. -/
import Derived.Test.YtigaddpjmgncmaaDoorEnRest
namespace Go.Proofs.YtigaddpjmgncmaaDoor.En
open Go.RowKit
open Go.Lib (hid)
theorem rest_any (kd tx ix pk pn ct sm : Int) (b : ByteArray) (w : World) (r : Bool) (h : r = true ↔ restP kd ix pk pn b ct sm) :
    Calls Tryd.prog 24 #[.agg #[.int .i64 kd, .int .i64 tx, .int .i64 ix, .int .i64 pk, .int .i64 pn, .string b, .int .i64 ct, .int .u32 sm]] w fun e w' => e = .returned (.bool r) ∧ Below w.heap.size w w' := by
  have rF : ¬ restP kd ix pk pn b ct sm → r = false := fun hn => by
    cases r with
    | true => exact absurd (h.1 rfl) hn
    | false => rfl
  have rT : restP kd ix pk pn b ct sm → r = true := h.2
  clear h
  unfold restP at rF rT
  by_cases h1 : kd = 1
  · subst h1
    by_cases hm : mayS pk pn b
    · by_cases hc : ct = 0
      · by_cases hs : sm = 0
        · rw [rT (Or.inl ⟨rfl, hm, hc, hs⟩)]; subst hc hs; exact rest1_yes tx ix pk pn b w hm
        · rw [rF (by rintro (⟨_, _, _, h⟩ | ⟨h, _⟩ | ⟨h, _⟩) <;> omega)]; exact rest1_sm tx ix pk pn ct sm b w hm hs
      · rw [rF (by rintro (⟨_, _, h, _⟩ | ⟨h, _⟩ | ⟨h, _⟩) <;> omega)]; exact rest1_ct tx ix pk pn ct sm b w hm hc
    · rw [rF (by rintro (⟨_, h, _⟩ | ⟨h, _⟩ | ⟨h, _⟩) <;> first | exact hm h | omega)]; exact rest1_st tx ix pk pn ct sm b w hm
  · by_cases h2 : kd = 2
    · subst h2
      by_cases hc : 1 ≤ ct
      · by_cases hi : ct = ix
        · cases hp : noP pk pn b with
          | true => rw [rT (Or.inr (Or.inl ⟨rfl, hc, hi, hp⟩))]; exact rest2_pg tx ix pk pn ct sm b w hc hi true hp
          | false => rw [rF (by rintro (⟨h, _⟩ | ⟨_, _, _, h⟩ | ⟨h, _⟩) <;> first | omega | (rw [hp] at h; cases h))]; exact rest2_pg tx ix pk pn ct sm b w hc hi false hp
        · rw [rF (by rintro (⟨h, _⟩ | ⟨_, _, h, _⟩ | ⟨h, _⟩) <;> omega)]; exact rest2_ix tx ix pk pn ct sm b w hc hi
      · rw [rF (by rintro (⟨h, _⟩ | ⟨_, h, _⟩ | ⟨h, _⟩) <;> omega)]; exact rest2_lo tx ix pk pn ct sm b w hc
    · by_cases h3 : kd = 3
      · subst h3
        cases hp : noP pk pn b with
        | true =>
          by_cases hc : ct = 0
          · by_cases hs : sm = 0
            · rw [rT (Or.inr (Or.inr ⟨rfl, hp, hc, hs⟩))]; exact rest3_yes tx ix pk pn ct sm b w hp hc hs
            · rw [rF (by rintro (⟨h, _⟩ | ⟨h, _⟩ | ⟨_, _, _, h⟩) <;> omega)]; exact rest3_sm tx ix pk pn ct sm b w hp hc hs
          · rw [rF (by rintro (⟨h, _⟩ | ⟨h, _⟩ | ⟨_, _, h, _⟩) <;> omega)]; exact rest3_ct tx ix pk pn ct sm b w hp hc
        | false => rw [rF (by rintro (⟨h, _⟩ | ⟨h, _⟩ | ⟨_, h, _⟩) <;> first | omega | (rw [hp] at h; cases h))]; exact rest3_np tx ix pk pn ct sm b w hp
      · rw [rF (by rintro (⟨h, _⟩ | ⟨h, _⟩ | ⟨h, _⟩) <;> omega)]; exact rest_kd kd tx ix pk pn ct sm b w h1 h2 h3
/-- may such an entry be? -/
def mayE (kd tx ix pk pn : Int) (b : ByteArray) (ct sm : Int) : Prop := 1 ≤ tx ∧ tx ≤ 4294967295 ∧ 0 ≤ ix ∧ ix ≤ 999 ∧ restP kd ix pk pn b ct sm
set_option maxHeartbeats 1000000 in
theorem check_rest (kd tx ix pk pn ct sm : Int) (b : ByteArray) (w : World) (h1 : 1 ≤ tx) (h2 : tx ≤ 4294967295) (h3 : 0 ≤ ix) (h4 : ix ≤ 999) (hr : restP kd ix pk pn b ct sm) :
    Calls Tryd.prog 12 #[.agg #[.int .i64 kd, .int .i64 tx, .int .i64 ix, .int .i64 pk, .int .i64 pn, .string b, .int .i64 ct, .int .u32 sm]] w fun e w' => e = .returned (.int .i64 0) ∧ Below w.heap.size w w' := by
  have H := hid (show true = true ↔ restP kd ix pk pn b ct sm from ⟨fun _ => hr, fun _ => rfl⟩); clear hr
  obtain ⟨t, rfl⟩ : ∃ t : Nat, tx = (t : Int) := ⟨tx.toNat, by omega⟩
  have e1 : decide ((t : Int) < 1) = false := by simp; omega
  have e2 : IntKind.u64.wrap (t : Int) = (t : Int) := by unfold IntKind.wrap; simp [IntKind.signed, IntKind.bits]; omega
  have e3 : decide (ix < 0) = false := by simp; omega
  have e4 : decide (999 < ix) = false := by simp; omega
  go_enter Tryd.func12, Tryd.ntmps12
  go_wp2_with (go_at_call 24; refine (rest_any kd t ix pk pn ct sm b _ true H.out).mono ?_; rintro e w' ⟨rfl, hb⟩; have HB := hid hb; clear hb)
  go_ret
  exact ⟨rfl, ((Below.refl _ _).alloc (Nat.le_refl _) _).trans (HB.out.mono (by simp))⟩
set_option maxHeartbeats 1000000 in
theorem check_lo (kd tx ix pk pn ct sm : Int) (b : ByteArray) (w : World) (h1 : tx < 1) :
    Calls Tryd.prog 12 #[.agg #[.int .i64 kd, .int .i64 tx, .int .i64 ix, .int .i64 pk, .int .i64 pn, .string b, .int .i64 ct, .int .u32 sm]] w fun e w' => e = .returned (.int .i64 1) ∧ Below w.heap.size w w' := by
  go_enter Tryd.func12, Tryd.ntmps12
  go_wp2_with fail
  go_ret
  exact ⟨rfl, (Below.refl _ _).alloc (Nat.le_refl _) _⟩
set_option maxHeartbeats 1000000 in
theorem check_hi (kd tx ix pk pn ct sm : Int) (b : ByteArray) (w : World) (h1 : 4294967295 < tx) (h2 : tx ≤ 9223372036854775807) :
    Calls Tryd.prog 12 #[.agg #[.int .i64 kd, .int .i64 tx, .int .i64 ix, .int .i64 pk, .int .i64 pn, .string b, .int .i64 ct, .int .u32 sm]] w fun e w' => e = .returned (.int .i64 1) ∧ Below w.heap.size w w' := by
  obtain ⟨t, rfl⟩ : ∃ t : Nat, tx = (t : Int) := ⟨tx.toNat, by omega⟩
  have e1 : decide ((t : Int) < 1) = false := by simp; omega
  have e2 : IntKind.u64.wrap (t : Int) = (t : Int) := by unfold IntKind.wrap; simp [IntKind.signed, IntKind.bits]; omega
  have e3 : decide ((4294967295 : Int) < (t : Int)) = true := by simp; omega
  have e4 : decide (4294967295 < t) = true := by simp; omega
  go_enter Tryd.func12, Tryd.ntmps12
  go_wp2_with fail
  go_ret
  exact ⟨rfl, (Below.refl _ _).alloc (Nat.le_refl _) _⟩
set_option maxHeartbeats 1000000 in
theorem check_il (kd tx ix pk pn ct sm : Int) (b : ByteArray) (w : World) (h1 : 1 ≤ tx) (h2 : tx ≤ 4294967295) (h3 : ix < 0) :
    Calls Tryd.prog 12 #[.agg #[.int .i64 kd, .int .i64 tx, .int .i64 ix, .int .i64 pk, .int .i64 pn, .string b, .int .i64 ct, .int .u32 sm]] w fun e w' => e = .returned (.int .i64 1) ∧ Below w.heap.size w w' := by
  obtain ⟨t, rfl⟩ : ∃ t : Nat, tx = (t : Int) := ⟨tx.toNat, by omega⟩
  have e1 : decide ((t : Int) < 1) = false := by simp; omega
  have e2 : IntKind.u64.wrap (t : Int) = (t : Int) := by unfold IntKind.wrap; simp [IntKind.signed, IntKind.bits]; omega
  have e3 : decide (ix < 0) = true := by simpa using h3
  go_enter Tryd.func12, Tryd.ntmps12
  go_wp2_with fail
  go_ret
  exact ⟨rfl, (Below.refl _ _).alloc (Nat.le_refl _) _⟩
set_option maxHeartbeats 1000000 in
theorem check_ih (kd tx ix pk pn ct sm : Int) (b : ByteArray) (w : World) (h1 : 1 ≤ tx) (h2 : tx ≤ 4294967295) (h3 : 999 < ix) :
    Calls Tryd.prog 12 #[.agg #[.int .i64 kd, .int .i64 tx, .int .i64 ix, .int .i64 pk, .int .i64 pn, .string b, .int .i64 ct, .int .u32 sm]] w fun e w' => e = .returned (.int .i64 1) ∧ Below w.heap.size w w' := by
  obtain ⟨t, rfl⟩ : ∃ t : Nat, tx = (t : Int) := ⟨tx.toNat, by omega⟩
  have e1 : decide ((t : Int) < 1) = false := by simp; omega
  have e2 : IntKind.u64.wrap (t : Int) = (t : Int) := by unfold IntKind.wrap; simp [IntKind.signed, IntKind.bits]; omega
  have e3 : decide (ix < 0) = false := by simp; omega
  have e4 : decide (999 < ix) = true := by simpa using h3
  go_enter Tryd.func12, Tryd.ntmps12
  go_wp2_with fail
  go_ret
  exact ⟨rfl, (Below.refl _ _).alloc (Nat.le_refl _) _⟩
set_option maxHeartbeats 1000000 in
theorem check_nr (kd tx ix pk pn ct sm : Int) (b : ByteArray) (w : World) (h1 : 1 ≤ tx) (h2 : tx ≤ 4294967295) (h3 : 0 ≤ ix) (h4 : ix ≤ 999) (hr : ¬ restP kd ix pk pn b ct sm) :
    Calls Tryd.prog 12 #[.agg #[.int .i64 kd, .int .i64 tx, .int .i64 ix, .int .i64 pk, .int .i64 pn, .string b, .int .i64 ct, .int .u32 sm]] w fun e w' => e = .returned (.int .i64 1) ∧ Below w.heap.size w w' := by
  have H := hid (show false = true ↔ restP kd ix pk pn b ct sm from ⟨(fun h => nomatch h), (fun h => absurd h hr)⟩); clear hr
  obtain ⟨t, rfl⟩ : ∃ t : Nat, tx = (t : Int) := ⟨tx.toNat, by omega⟩
  have e1 : decide ((t : Int) < 1) = false := by simp; omega
  have e2 : IntKind.u64.wrap (t : Int) = (t : Int) := by unfold IntKind.wrap; simp [IntKind.signed, IntKind.bits]; omega
  have e3 : decide (ix < 0) = false := by simp; omega
  have e4 : decide (999 < ix) = false := by simp; omega
  go_enter Tryd.func12, Tryd.ntmps12
  go_wp2_with (go_at_call 24; refine (rest_any kd t ix pk pn ct sm b _ false H.out).mono ?_; rintro e w' ⟨rfl, hb⟩; have HB := hid hb; clear hb)
  go_ret
  exact ⟨rfl, ((Below.refl _ _).alloc (Nat.le_refl _) _).trans (HB.out.mono (by simp))⟩
theorem check_yes (kd tx ix pk pn ct sm : Int) (b : ByteArray) (w : World) (h : mayE kd tx ix pk pn b ct sm) :
    Calls Tryd.prog 12 #[.agg #[.int .i64 kd, .int .i64 tx, .int .i64 ix, .int .i64 pk, .int .i64 pn, .string b, .int .i64 ct, .int .u32 sm]] w fun e w' => e = .returned (.int .i64 0) ∧ Below w.heap.size w w' :=
  check_rest kd tx ix pk pn ct sm b w h.1 h.2.1 h.2.2.1 h.2.2.2.1 h.2.2.2.2
theorem check_no (kd tx ix pk pn ct sm : Int) (b : ByteArray) (w : World) (hx : tx ≤ 9223372036854775807) (h : ¬ mayE kd tx ix pk pn b ct sm) :
    Calls Tryd.prog 12 #[.agg #[.int .i64 kd, .int .i64 tx, .int .i64 ix, .int .i64 pk, .int .i64 pn, .string b, .int .i64 ct, .int .u32 sm]] w fun e w' => e = .returned (.int .i64 1) ∧ Below w.heap.size w w' := by
  by_cases h1 : 1 ≤ tx
  · by_cases h2 : tx ≤ 4294967295
    · by_cases h3 : 0 ≤ ix
      · by_cases h4 : ix ≤ 999
        · exact check_nr kd tx ix pk pn ct sm b w h1 h2 h3 h4 (fun hr => h ⟨h1, h2, h3, h4, hr⟩)
        · exact check_ih kd tx ix pk pn ct sm b w h1 h2 (by omega)
      · exact check_il kd tx ix pk pn ct sm b w h1 h2 (by omega)
    · exact check_hi kd tx ix pk pn ct sm b w (by omega) hx
  · exact check_lo kd tx ix pk pn ct sm b w (by omega)
end Go.Proofs.YtigaddpjmgncmaaDoor.En
