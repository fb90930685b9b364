/- Check of the document's answer for entry, as one. -/
import Derived.Test.YtigaddpjmgncmaaDoorEnRef
namespace Go.Proofs.YtigaddpjmgncmaaDoor.En
open Go.RowKit
open Go.Lib (hid)
theorem refcheck_yes (kd tx ix pk pn ct sm : Int) (b : ByteArray) (w : World) (h : mayE kd tx ix pk pn b ct sm) :
    Calls Tryd.prog 13 #[.agg #[.int .i64 kd, .int .i64 tx, .int .i64 ix, .int .i64 pk, .int .i64 pn, .string b, .int .i64 ct, .int .u32 sm]] w fun e w' => e = .returned (.int .i64 0) ∧ Below w.heap.size w w' := by
  obtain ⟨a1, a2, a3, a4, hr⟩ := h
  rcases hr with ⟨rfl, ⟨m1, m2, m3, m4, m5, m6⟩, hc, hs⟩ | ⟨rfl, hc, hi, hp⟩ | ⟨rfl, hp, hc, hs⟩
  · by_cases h0 : pk = 0
    · exact rc1_yesb tx ix pk pn ct sm b w a1 a2 a3 a4 m2 (by omega) m4 m5 m6 h0 (m1 h0) hc hs
    · exact rc1_yesa tx ix pk pn ct sm b w a1 a2 a3 a4 m2 (by omega) m4 m5 m6 (by omega) hc hs
  · exact rc2_yes tx ix pk pn ct sm b w a1 a2 a3 a4 hc (by omega) hi.symm hp
  · exact rc3_yes tx ix pk pn ct sm b w a1 a2 a3 a4 hp hc hs
theorem rc_lo (kd tx ix pk pn ct sm : Int) (b : ByteArray) (w : World) (e : tx < 1) :
    Calls Tryd.prog 13 #[.agg #[.int .i64 kd, .int .i64 tx, .int .i64 ix, .int .i64 pk, .int .i64 pn, .string b, .int .i64 ct, .int .u32 sm]] w fun e w' => e = .returned (.int .i64 1) ∧ Below w.heap.size w w' := by
  by_cases h1 : kd = 1
  · subst h1; exact rc_lo1 tx ix pk pn ct sm b w e
  · by_cases h2 : kd = 2
    · subst h2; exact rc_lo2 tx ix pk pn ct sm b w e
    · by_cases h3 : kd = 3
      · subst h3; exact rc_lo3 tx ix pk pn ct sm b w e
      · exact rc_lo0 kd tx ix pk pn ct sm b w h1 h2 h3 e
theorem rc_hi (kd tx ix pk pn ct sm : Int) (b : ByteArray) (w : World) (e : 4294967295 < tx) :
    Calls Tryd.prog 13 #[.agg #[.int .i64 kd, .int .i64 tx, .int .i64 ix, .int .i64 pk, .int .i64 pn, .string b, .int .i64 ct, .int .u32 sm]] w fun e w' => e = .returned (.int .i64 1) ∧ Below w.heap.size w w' := by
  by_cases h1 : kd = 1
  · subst h1; exact rc_hi1 tx ix pk pn ct sm b w e
  · by_cases h2 : kd = 2
    · subst h2; exact rc_hi2 tx ix pk pn ct sm b w e
    · by_cases h3 : kd = 3
      · subst h3; exact rc_hi3 tx ix pk pn ct sm b w e
      · exact rc_hi0 kd tx ix pk pn ct sm b w h1 h2 h3 e
theorem rc_il (kd tx ix pk pn ct sm : Int) (b : ByteArray) (w : World) (e : 1 ≤ tx) (e' : tx ≤ 4294967295) (i : ix < 0) :
    Calls Tryd.prog 13 #[.agg #[.int .i64 kd, .int .i64 tx, .int .i64 ix, .int .i64 pk, .int .i64 pn, .string b, .int .i64 ct, .int .u32 sm]] w fun e w' => e = .returned (.int .i64 1) ∧ Below w.heap.size w w' := by
  by_cases h1 : kd = 1
  · subst h1; exact rc_il1 tx ix pk pn ct sm b w e e' i
  · by_cases h2 : kd = 2
    · subst h2; exact rc_il2 tx ix pk pn ct sm b w e e' i
    · by_cases h3 : kd = 3
      · subst h3; exact rc_il3 tx ix pk pn ct sm b w e e' i
      · exact rc_il0 kd tx ix pk pn ct sm b w h1 h2 h3 e e' i
theorem rc_ih (kd tx ix pk pn ct sm : Int) (b : ByteArray) (w : World) (e : 1 ≤ tx) (e' : tx ≤ 4294967295) (i : 999 < ix) :
    Calls Tryd.prog 13 #[.agg #[.int .i64 kd, .int .i64 tx, .int .i64 ix, .int .i64 pk, .int .i64 pn, .string b, .int .i64 ct, .int .u32 sm]] w fun e w' => e = .returned (.int .i64 1) ∧ Below w.heap.size w w' := by
  by_cases h1 : kd = 1
  · subst h1; exact rc_ih1 tx ix pk pn ct sm b w e e' i
  · by_cases h2 : kd = 2
    · subst h2; exact rc_ih2 tx ix pk pn ct sm b w e e' i
    · by_cases h3 : kd = 3
      · subst h3; exact rc_ih3 tx ix pk pn ct sm b w e e' i
      · exact rc_ih0 kd tx ix pk pn ct sm b w h1 h2 h3 e e' i
theorem rc_one (tx ix pk pn ct sm : Int) (b : ByteArray) (w : World) (a1 : 1 ≤ tx) (a2 : tx ≤ 4294967295) (a3 : 0 ≤ ix) (a4 : ix ≤ 999) (h : ¬ (mayS pk pn b ∧ ct = 0 ∧ sm = 0)) :
    Calls Tryd.prog 13 #[.agg #[.int .i64 1, .int .i64 tx, .int .i64 ix, .int .i64 pk, .int .i64 pn, .string b, .int .i64 ct, .int .u32 sm]] w fun e w' => e = .returned (.int .i64 1) ∧ Below w.heap.size w w' := by
  by_cases c0 : 0 ≤ pk
  · by_cases c1 : pk ≤ 4
    · by_cases c2 : 0 ≤ pn
      · by_cases c3 : pn ≤ 999
        · by_cases c4 : b.size ≤ 230
          · by_cases c5 : pk = 0
            · cases c6 : b.toList.isEmpty with
              | false => exact rc1_u tx ix pk pn ct sm b w a1 a2 a3 a4 c0 c1 c2 c3 c4 c5 c6
              | true =>
                by_cases z : ct = 0
                · by_cases y : sm = 0
                  · exact absurd ⟨⟨fun _ => c6, c0, by omega, c2, c3, c4⟩, z, y⟩ h
                  · exact rc1_smb tx ix pk pn ct sm b w a1 a2 a3 a4 c0 c1 c2 c3 c4 c5 c6 z y
                · exact rc1_ctb tx ix pk pn ct sm b w a1 a2 a3 a4 c0 c1 c2 c3 c4 c5 c6 z
            · by_cases z : ct = 0
              · by_cases y : sm = 0
                · exact absurd ⟨⟨fun h0 => absurd h0 c5, c0, by omega, c2, c3, c4⟩, z, y⟩ h
                · exact rc1_sma tx ix pk pn ct sm b w a1 a2 a3 a4 c0 c1 c2 c3 c4 (by omega) z y
              · exact rc1_cta tx ix pk pn ct sm b w a1 a2 a3 a4 c0 c1 c2 c3 c4 (by omega) z
          · exact rc1_t tx ix pk pn ct sm b w a1 a2 a3 a4 c0 c1 c2 c3 (by omega)
        · exact rc1_s tx ix pk pn ct sm b w a1 a2 a3 a4 c0 c1 c2 c3
      · exact rc1_r tx ix pk pn ct sm b w a1 a2 a3 a4 c0 c1 c2
    · exact rc1_q tx ix pk pn ct sm b w a1 a2 a3 a4 c0 c1
  · exact rc1_p tx ix pk pn ct sm b w a1 a2 a3 a4 c0
theorem rc_two (tx ix pk pn ct sm : Int) (b : ByteArray) (w : World) (a1 : 1 ≤ tx) (a2 : tx ≤ 4294967295) (a3 : 0 ≤ ix) (a4 : ix ≤ 999) (h : ¬ (1 ≤ ct ∧ ct = ix ∧ noP pk pn b = true)) :
    Calls Tryd.prog 13 #[.agg #[.int .i64 2, .int .i64 tx, .int .i64 ix, .int .i64 pk, .int .i64 pn, .string b, .int .i64 ct, .int .u32 sm]] w fun e w' => e = .returned (.int .i64 1) ∧ Below w.heap.size w w' := by
  by_cases z : 1 ≤ ct
  · by_cases y : ct ≤ 999
    · by_cases x : ix = ct
      · cases hp : noP pk pn b with
        | true => exact absurd ⟨z, x.symm, hp⟩ h
        | false => exact rc2_np tx ix pk pn ct sm b w a1 a2 a3 a4 z y x hp
      · exact rc2_ix tx ix pk pn ct sm b w a1 a2 a3 a4 z y x
    · exact rc2_hi tx ix pk pn ct sm b w a1 a2 a3 a4 z y
  · exact rc2_lo tx ix pk pn ct sm b w a1 a2 a3 a4 z
theorem rc_three (tx ix pk pn ct sm : Int) (b : ByteArray) (w : World) (a1 : 1 ≤ tx) (a2 : tx ≤ 4294967295) (a3 : 0 ≤ ix) (a4 : ix ≤ 999) (h : ¬ (noP pk pn b = true ∧ ct = 0 ∧ sm = 0)) :
    Calls Tryd.prog 13 #[.agg #[.int .i64 3, .int .i64 tx, .int .i64 ix, .int .i64 pk, .int .i64 pn, .string b, .int .i64 ct, .int .u32 sm]] w fun e w' => e = .returned (.int .i64 1) ∧ Below w.heap.size w w' := by
  cases hp : noP pk pn b with
  | true =>
    by_cases z : ct = 0
    · by_cases y : sm = 0
      · exact absurd ⟨hp, z, y⟩ h
      · exact rc3_sm tx ix pk pn ct sm b w a1 a2 a3 a4 hp z y
    · exact rc3_ct tx ix pk pn ct sm b w a1 a2 a3 a4 hp z
  | false => exact rc3_np tx ix pk pn ct sm b w a1 a2 a3 a4 hp
theorem refcheck_no (kd tx ix pk pn ct sm : Int) (b : ByteArray) (w : World) (h : ¬ mayE kd tx ix pk pn b ct sm) :
    Calls Tryd.prog 13 #[.agg #[.int .i64 kd, .int .i64 tx, .int .i64 ix, .int .i64 pk, .int .i64 pn, .string b, .int .i64 ct, .int .u32 sm]] w fun e w' => e = .returned (.int .i64 1) ∧ Below w.heap.size w w' := by
  by_cases a1 : 1 ≤ tx
  · by_cases a2 : tx ≤ 4294967295
    · by_cases a3 : 0 ≤ ix
      · by_cases a4 : ix ≤ 999
        · have hr : ¬ restP kd ix pk pn b ct sm := fun hr => h ⟨a1, a2, a3, a4, hr⟩
          by_cases h1 : kd = 1
          · subst h1; exact rc_one tx ix pk pn ct sm b w a1 a2 a3 a4 (fun ⟨h2, h3, h4⟩ => hr (Or.inl ⟨rfl, h2, h3, h4⟩))
          · by_cases h2 : kd = 2
            · subst h2; exact rc_two tx ix pk pn ct sm b w a1 a2 a3 a4 (fun ⟨h3, h4, h5⟩ => hr (Or.inr (Or.inl ⟨rfl, h3, h4, h5⟩)))
            · by_cases h3 : kd = 3
              · subst h3; exact rc_three tx ix pk pn ct sm b w a1 a2 a3 a4 (fun ⟨h4, h5, h6⟩ => hr (Or.inr (Or.inr ⟨rfl, h4, h5, h6⟩)))
              · exact rc_0 kd tx ix pk pn ct sm b w h1 h2 h3 a1 a2 a3 a4
        · exact rc_ih kd tx ix pk pn ct sm b w a1 a2 (by omega)
      · exact rc_il kd tx ix pk pn ct sm b w a1 a2 (by omega)
    · exact rc_hi kd tx ix pk pn ct sm b w (by omega)
  · exact rc_lo kd tx ix pk pn ct sm b w (by omega)
end Go.Proofs.YtigaddpjmgncmaaDoor.En
