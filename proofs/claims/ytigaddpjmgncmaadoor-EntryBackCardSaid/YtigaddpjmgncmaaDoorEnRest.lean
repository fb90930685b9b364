/- What entry asks of an entry: rest and Check. -/
import Derived.Test.YtigaddpjmgncmaaDoorEnSmall
namespace Go.Proofs.YtigaddpjmgncmaaDoor.En
open Go.RowKit
open Go.Lib (hid)
/-- are two pages the same? -/
def pageB (a b a' b' : Int) (c c' : ByteArray) : Bool := a == a' && (b == b' && c.toList == c'.toList)
theorem eq23 (a b a' b' : Int) (c c' : ByteArray) (w : World) :
    (binOp .eql 23 (.agg #[.int .i64 a, .int .i64 b, .string c]) (.agg #[.int .i64 a', .int .i64 b', .string c'])).run Tryd.prog w = .ok (.bool (pageB a b a' b' c c')) w := by
  have ht : Tryd.prog.underlying 23 = some (.struct (Tryd.prog.fieldsOf 23)) := by kernel_rfl
  have hp : Tryd.prog.stoodInHeld 23 = false := by kernel_rfl
  rw [run_eql_struct, show (10000 : Nat) = 9999 + 1 from rfl, run_equalIn_struct _ _ _ _ _ ht hp]
  simp only [Program.fieldsOf, Tryd.underlying23]
  unfold pageB
  by_cases h1 : a = a'
  · by_cases h2 : b = b'
    · by_cases h3 : c.toList = c'.toList <;> simp [Op.eqFields, go_sem, h1, h2, h3]
    · simp [Op.eqFields, go_sem, h1, h2]
  · simp [Op.eqFields, go_sem, h1]
/-- no page -/
def noP (pk pn : Int) (b : ByteArray) : Bool := pageB pk pn 0 0 b ⟨#[]⟩
/-- what is not alike in all kinds -/
def restP (kd ix pk pn : Int) (b : ByteArray) (ct sm : Int) : Prop :=
  (kd = 1 ∧ mayS pk pn b ∧ ct = 0 ∧ sm = 0) ∨ (kd = 2 ∧ 1 ≤ ct ∧ ct = ix ∧ noP pk pn b = true) ∨ (kd = 3 ∧ noP pk pn b = true ∧ ct = 0 ∧ sm = 0)
theorem ent_cells {kd tx ix pk pn ct sm : Int} {b : ByteArray} {w w' : World} (hb : Below (w.alloc (.cells #[.int .i64 kd, .int .i64 tx, .int .i64 ix, .int .i64 pk, .int .i64 pn, .string b, .int .i64 ct, .int .u32 sm] 32)).heap.size (w.alloc (.cells #[.int .i64 kd, .int .i64 tx, .int .i64 ix, .int .i64 pk, .int .i64 pn, .string b, .int .i64 ct, .int .u32 sm] 32)) w') :
    w'.cell? ⟨w.heap.size, 6, none⟩ = some (.int .i64 ct) ∧ w'.cell? ⟨w.heap.size, 7, none⟩ = some (.int .u32 sm) := by
  constructor
  · rw [hb.cell (p := ⟨w.heap.size, 6, none⟩) (by simp), cell_of_row _ _ _ _ _ _ (heap_alloc_new _ _)]; rfl
  · rw [hb.cell (p := ⟨w.heap.size, 7, none⟩) (by simp), cell_of_row _ _ _ _ _ _ (heap_alloc_new _ _)]; rfl
set_option maxHeartbeats 1000000 in
theorem rest1_st (tx ix pk pn ct sm : Int) (b : ByteArray) (w : World) (h : ¬ mayS pk pn b) :
    Calls Tryd.prog 24 #[.agg #[.int .i64 1, .int .i64 tx, .int .i64 ix, .int .i64 pk, .int .i64 pn, .string b, .int .i64 ct, .int .u32 sm]] w fun e w' => e = .returned (.bool false) ∧ Below w.heap.size w w' := by
  have H := hid (show false = true ↔ mayS pk pn b from ⟨(fun h' => nomatch h'), (fun h' => absurd h' h)⟩); clear h
  go_enter Tryd.func24, Tryd.ntmps24
  go_wp2_with (go_at_call 34; refine (staged_any pk pn b _ false H.out).mono ?_; rintro e w' ⟨rfl, hb⟩; have c6 := (ent_cells hb).1; have c7 := (ent_cells hb).2; have HB := hid hb; clear hb)
  go_ret
  exact ⟨rfl, ((Below.refl _ _).alloc (Nat.le_refl _) _).trans (HB.out.mono (by simp))⟩
set_option maxHeartbeats 1000000 in
theorem rest1_ct (tx ix pk pn ct sm : Int) (b : ByteArray) (w : World) (h : mayS pk pn b) (hc : ct ≠ 0) :
    Calls Tryd.prog 24 #[.agg #[.int .i64 1, .int .i64 tx, .int .i64 ix, .int .i64 pk, .int .i64 pn, .string b, .int .i64 ct, .int .u32 sm]] w fun e w' => e = .returned (.bool false) ∧ Below w.heap.size w w' := by
  have H := hid (show true = true ↔ mayS pk pn b from ⟨fun _ => h, fun _ => rfl⟩); clear h
  have e0 : (ct == 0) = false := by simpa using hc
  clear hc
  go_enter Tryd.func24, Tryd.ntmps24
  go_wp2_with (go_at_call 34; refine (staged_any pk pn b _ true H.out).mono ?_; rintro e w' ⟨rfl, hb⟩; have c6 := (ent_cells hb).1; have c7 := (ent_cells hb).2; have HB := hid hb; clear hb)
  go_ret
  exact ⟨rfl, ((Below.refl _ _).alloc (Nat.le_refl _) _).trans (HB.out.mono (by simp))⟩
set_option maxHeartbeats 1000000 in
theorem rest1_sm (tx ix pk pn ct sm : Int) (b : ByteArray) (w : World) (h : mayS pk pn b) (hc : sm ≠ 0) :
    Calls Tryd.prog 24 #[.agg #[.int .i64 1, .int .i64 tx, .int .i64 ix, .int .i64 pk, .int .i64 pn, .string b, .int .i64 ct, .int .u32 sm]] w fun e w' => e = .returned (.bool false) ∧ Below w.heap.size w w' := by
  have H := hid (show true = true ↔ mayS pk pn b from ⟨fun _ => h, fun _ => rfl⟩); clear h
  have e0 : (sm == 0) = false := by simpa using hc
  clear hc
  by_cases hz : ct = 0
  · subst hz
    go_enter Tryd.func24, Tryd.ntmps24
    go_wp2_with (go_at_call 34; refine (staged_any pk pn b _ true H.out).mono ?_; rintro e w' ⟨rfl, hb⟩; have c6 := (ent_cells hb).1; have c7 := (ent_cells hb).2; have HB := hid hb; clear hb)
    go_ret
    exact ⟨rfl, ((Below.refl _ _).alloc (Nat.le_refl _) _).trans (HB.out.mono (by simp))⟩
  · have e1 : (ct == 0) = false := by simpa using hz
    clear hz
    go_enter Tryd.func24, Tryd.ntmps24
    go_wp2_with (go_at_call 34; refine (staged_any pk pn b _ true H.out).mono ?_; rintro e w' ⟨rfl, hb⟩; have c6 := (ent_cells hb).1; have c7 := (ent_cells hb).2; have HB := hid hb; clear hb)
    go_ret
    exact ⟨rfl, ((Below.refl _ _).alloc (Nat.le_refl _) _).trans (HB.out.mono (by simp))⟩
set_option maxHeartbeats 1000000 in
theorem rest1_yes (tx ix pk pn : Int) (b : ByteArray) (w : World) (h : mayS pk pn b) :
    Calls Tryd.prog 24 #[.agg #[.int .i64 1, .int .i64 tx, .int .i64 ix, .int .i64 pk, .int .i64 pn, .string b, .int .i64 0, .int .u32 0]] w fun e w' => e = .returned (.bool true) ∧ Below w.heap.size w w' := by
  have H := hid (show true = true ↔ mayS pk pn b from ⟨fun _ => h, fun _ => rfl⟩); clear h
  go_enter Tryd.func24, Tryd.ntmps24
  go_wp2_with (go_at_call 34; refine (staged_any pk pn b _ true H.out).mono ?_; rintro e w' ⟨rfl, hb⟩; have c6 := (ent_cells hb).1; have c7 := (ent_cells hb).2; have HB := hid hb; clear hb)
  go_ret
  exact ⟨rfl, ((Below.refl _ _).alloc (Nat.le_refl _) _).trans (HB.out.mono (by simp))⟩
set_option maxHeartbeats 1000000 in
theorem rest3_np (tx ix pk pn ct sm : Int) (b : ByteArray) (w : World) (h : noP pk pn b = false) :
    Calls Tryd.prog 24 #[.agg #[.int .i64 3, .int .i64 tx, .int .i64 ix, .int .i64 pk, .int .i64 pn, .string b, .int .i64 ct, .int .u32 sm]] w fun e w' => e = .returned (.bool false) ∧ Below w.heap.size w w' := by
  have heq := eq23
  have hp : pageB pk pn 0 0 b ⟨#[]⟩ = false := h
  clear h
  go_enter Tryd.func24, Tryd.ntmps24
  go_wp2_with fail
  go_ret
  exact ⟨rfl, (Below.refl _ _).alloc (Nat.le_refl _) _⟩
set_option maxHeartbeats 1000000 in
theorem rest3_ct (tx ix pk pn ct sm : Int) (b : ByteArray) (w : World) (h : noP pk pn b = true) (hc : ct ≠ 0) :
    Calls Tryd.prog 24 #[.agg #[.int .i64 3, .int .i64 tx, .int .i64 ix, .int .i64 pk, .int .i64 pn, .string b, .int .i64 ct, .int .u32 sm]] w fun e w' => e = .returned (.bool false) ∧ Below w.heap.size w w' := by
  have heq := eq23
  have hp : pageB pk pn 0 0 b ⟨#[]⟩ = true := h
  clear h
  have e0 : (ct == 0) = false := by simpa using hc
  clear hc
  go_enter Tryd.func24, Tryd.ntmps24
  go_wp2_with fail
  go_ret
  exact ⟨rfl, (Below.refl _ _).alloc (Nat.le_refl _) _⟩
set_option maxHeartbeats 1000000 in
theorem rest3_sm (tx ix pk pn ct sm : Int) (b : ByteArray) (w : World) (h : noP pk pn b = true) (hc : ct = 0) (hs : sm ≠ 0) :
    Calls Tryd.prog 24 #[.agg #[.int .i64 3, .int .i64 tx, .int .i64 ix, .int .i64 pk, .int .i64 pn, .string b, .int .i64 ct, .int .u32 sm]] w fun e w' => e = .returned (.bool false) ∧ Below w.heap.size w w' := by
  have heq := eq23
  have hp : pageB pk pn 0 0 b ⟨#[]⟩ = true := h
  clear h
  subst hc
  have e1 : (sm == 0) = false := by simpa using hs
  clear hs
  go_enter Tryd.func24, Tryd.ntmps24
  go_wp2_with fail
  go_ret
  exact ⟨rfl, (Below.refl _ _).alloc (Nat.le_refl _) _⟩
set_option maxHeartbeats 1000000 in
theorem rest3_yes (tx ix pk pn ct sm : Int) (b : ByteArray) (w : World) (h : noP pk pn b = true) (hc : ct = 0) (hs : sm = 0) :
    Calls Tryd.prog 24 #[.agg #[.int .i64 3, .int .i64 tx, .int .i64 ix, .int .i64 pk, .int .i64 pn, .string b, .int .i64 ct, .int .u32 sm]] w fun e w' => e = .returned (.bool true) ∧ Below w.heap.size w w' := by
  have heq := eq23
  have hp : pageB pk pn 0 0 b ⟨#[]⟩ = true := h
  clear h
  subst hc hs
  go_enter Tryd.func24, Tryd.ntmps24
  go_wp2_with fail
  go_ret
  exact ⟨rfl, (Below.refl _ _).alloc (Nat.le_refl _) _⟩
set_option maxHeartbeats 1000000 in
theorem rest2_lo (tx ix pk pn ct sm : Int) (b : ByteArray) (w : World) (hc : ¬ 1 ≤ ct) :
    Calls Tryd.prog 24 #[.agg #[.int .i64 2, .int .i64 tx, .int .i64 ix, .int .i64 pk, .int .i64 pn, .string b, .int .i64 ct, .int .u32 sm]] w fun e w' => e = .returned (.bool false) ∧ Below w.heap.size w w' := by
  have e0 : decide (1 ≤ ct) = false := by simpa using hc
  clear hc
  go_enter Tryd.func24, Tryd.ntmps24
  go_wp2_with fail
  go_ret
  exact ⟨rfl, (Below.refl _ _).alloc (Nat.le_refl _) _⟩
set_option maxHeartbeats 1000000 in
theorem rest2_ix (tx ix pk pn ct sm : Int) (b : ByteArray) (w : World) (hc : 1 ≤ ct) (hi : ct ≠ ix) :
    Calls Tryd.prog 24 #[.agg #[.int .i64 2, .int .i64 tx, .int .i64 ix, .int .i64 pk, .int .i64 pn, .string b, .int .i64 ct, .int .u32 sm]] w fun e w' => e = .returned (.bool false) ∧ Below w.heap.size w w' := by
  have e0 : decide (1 ≤ ct) = true := by simpa using hc
  clear hc
  have e1 : (ct == ix) = false := by simpa using hi
  clear hi
  go_enter Tryd.func24, Tryd.ntmps24
  go_wp2_with fail
  go_ret
  exact ⟨rfl, (Below.refl _ _).alloc (Nat.le_refl _) _⟩
set_option maxHeartbeats 1000000 in
theorem rest2_pg (tx ix pk pn ct sm : Int) (b : ByteArray) (w : World) (hc : 1 ≤ ct) (hi : ct = ix) (r : Bool) (h : noP pk pn b = r) :
    Calls Tryd.prog 24 #[.agg #[.int .i64 2, .int .i64 tx, .int .i64 ix, .int .i64 pk, .int .i64 pn, .string b, .int .i64 ct, .int .u32 sm]] w fun e w' => e = .returned (.bool r) ∧ Below w.heap.size w w' := by
  have heq := eq23
  have hp : pageB pk pn 0 0 b ⟨#[]⟩ = r := h
  clear h
  subst hi
  have e0 : decide (1 ≤ ct) = true := by simpa using hc
  clear hc
  go_enter Tryd.func24, Tryd.ntmps24
  go_wp2_with fail
  go_ret
  exact ⟨rfl, (Below.refl _ _).alloc (Nat.le_refl _) _⟩
set_option maxHeartbeats 1000000 in
theorem rest_kd (kd tx ix pk pn ct sm : Int) (b : ByteArray) (w : World) (h1 : kd ≠ 1) (h2 : kd ≠ 2) (h3 : kd ≠ 3) :
    Calls Tryd.prog 24 #[.agg #[.int .i64 kd, .int .i64 tx, .int .i64 ix, .int .i64 pk, .int .i64 pn, .string b, .int .i64 ct, .int .u32 sm]] w fun e w' => e = .returned (.bool false) ∧ Below w.heap.size w w' := by
  have e1 : (kd == 1) = false := by simpa using h1
  have e2 : (kd == 2) = false := by simpa using h2
  have e3 : (kd == 3) = false := by simpa using h3
  clear h1 h2 h3
  go_enter Tryd.func24, Tryd.ntmps24
  go_wp2_with fail
  go_ret
  exact ⟨rfl, (Below.refl _ _).alloc (Nat.le_refl _) _⟩
end Go.Proofs.YtigaddpjmgncmaaDoor.En
