/- The walk of Sum32Apart. -/
import Derived.Test.YtmgagghlkopfcaaLaws
import Derived.Deep.QuietTactic
import Derived.BigQuiet
import Derived.WalkSmall
import Derived.Lib.SmallJoins
import Derived.ProofKit
import Derived.Laws.IdiomStrings
namespace Go.Proofs.Ytmgagghlkopfcaa
open Go.RowKit
open Go.Lib
theorem info5 : (Try.prog.info? 5).map (fun i => (i.zero, i.size, i.bytes)) = some (some (.int .u8 0), 1, 1) := by kernel_rfl
theorem madeBytes (n : Nat) : madeCells (Value.int .u8 0).cells (n * 1) = Array.replicate n (.int .u8 0) := by
  apply Array.ext
  · simp [madeCells]
  · intro i h1 h2
    simp [madeCells, Value.cells, Nat.mod_one]
theorem make_run (n : Nat) (h : n ≤ 1000000) (w : World) :
    (Instr.makeSlice 30 (.int .i64 (n : Int)) (.int .i64 (n : Int))).run Try.prog w = .ok (.slice (some ⟨w.heap.size, 0, none⟩) n n) (w.alloc (.cells (Array.replicate n (.int .u8 0)) 5)) := by
  obtain ⟨i, hi, hz, hs, hb⟩ := info_parts info5
  have := run_makeSlice (P := Try.prog) (w := w) 30 5 i (.int .u8 0) Try.underlying30 hi hz .i64 .i64 n n (by omega) (by omega) (by rw [hs]; omega) (by rw [hb]; omega) (by omega)
  rw [this]
  simp only [Int.toNat_natCast, hs, madeBytes]
theorem back_run (n : Nat) (w : World) :
    (convert 30 9 (.slice (some ⟨w.heap.size, 0, none⟩) n n)).run Try.prog (w.alloc (.cells (Array.replicate n (.int .u8 0)) 5)) = .ok (.string ⟨(List.replicate n (0 : UInt8)).toArray⟩) (w.alloc (.cells (Array.replicate n (.int .u8 0)) 5)) := by
  have := run_convert_bytes_back (P := Try.prog) (w.alloc (.cells (Array.replicate n (.int .u8 0)) 5)) 30 9 5 ⟨w.heap.size, 0, none⟩ n (List.replicate n (0 : UInt8)) Try.underlying30 Try.underlying5 Try.underlying9 (fun j hj => by
    have hj' : j < n := by simpa using hj
    have hadd : (⟨w.heap.size, 0, none⟩ : Addr).add j = ⟨w.heap.size, j, none⟩ := by unfold Addr.add; split <;> simp_all
    rw [hadd, World.cell?_alloc_at _ _ _ _ rfl]
    simp [hj'])
  simpa using this

theorem turned_zeros (a : B32) (k : Nat) (n : Int) (w : World) (hk : k ≤ 1000000) (h0 : n ≤ 9223372036854775807) :
    Calls Try.prog 16 #[.int .u32 (U a), .string ⟨Array.replicate k 0⟩, .int .i64 n] w fun e w' => e = .returned (.int .u32 (U a)) ∧ Below w.heap.size w w' := by
  have := turned_any a ⟨Array.replicate k 0⟩ n w (by show (Array.replicate k (0 : UInt8)).size ≤ maxLen; unfold maxLen; simp; omega) h0
  simpa [turned_none] using this

set_option maxHeartbeats 400000 in
theorem Apart_go (a b : B32) (t : ByteArray) (n : Int) (w2 : t.size ≤ maxLen) (w : World) (h : ¬ (2000 < t.size ∨ n < 0 ∨ 1000000000 < n)) :
    Calls Try.prog 8 #[.agg #[.int .u32 (U a), .int .u32 (U b), .string t, .int .i64 n]] w fun e w' => e = .returned (.bool true) ∧ Below w.heap.size w w' := by
  have ht := w2
  unfold maxLen at ht
  go_enter Try.func8, Try.ntmps8
  go_wp2_with fail
  go_quiet (fail)
  have HB : Hid (Below w.heap.size w ((w.alloc (.cells #[.int .u32 (U a), .int .u32 (U b), .string t, .int .i64 n] 36)).drewN nq)) := hid (below_drewN ((Below.refl _ _).alloc (Nat.le_refl _) _) nq)
  generalize ((w.alloc (.cells #[.int .u32 (U a), .int .u32 (U b), .string t, .int .i64 n] 36)).drewN nq) = wq at HB ⊢
  have hm := make_run t.size (by omega)
  have hk := back_run t.size
  by_cases hab : a = b
  · subst hab
    go_wp2_with fail
    refine (turned_any _ _ _ _ w2 (by omega)).mono ?_; rintro e w' ⟨rfl, hb⟩; replace HB := on_below HB hb; clear hb
    go_wp2_with fail
    refine (turned_any _ _ _ _ w2 (by omega)).mono ?_; rintro e w'' ⟨rfl, hb⟩; replace HB := on_below HB hb; clear hb
    have HC : Hid (Below w.heap.size w (w''.alloc (.cells (Array.replicate t.size (.int .u8 0)) 5))) := hid (HB.out.alloc HB.out.size _)
    go_wp2_with fail
    refine (turned_zeros _ _ _ _ (by omega) (by omega)).mono ?_; rintro e w3 ⟨rfl, hb⟩; replace HC := on_below HC hb; clear hb
    go_wp2_with fail
    refine (live_any _).mono ?_; rintro e w4 ⟨rfl, hb⟩; replace HC := on_below HC hb; clear hb
    go_wp2_with fail
    go_ret
    exact ⟨rfl, HC.out⟩
  · have f1 : (U (turnedB a t.data.toList n.toNat) == U (turnedB b t.data.toList n.toNat)) = false := by
      rw [U_beq, beq_eq_false_iff_ne]; intro h; exact hab ((turned_eq _ _ _ _).1 h)
    have f2 : (U a == U b) = false := by
      rw [U_beq, beq_eq_false_iff_ne]; exact hab
    have f3 : (bits .xor .u32 (U (turnedB a t.data.toList n.toNat)) (U a) == bits .xor .u32 (U (turnedB b t.data.toList n.toNat)) (U b)) = true := by
      rw [U_xor, U_xor, turned_diff a b]; exact beq_self_eq_true _
    go_wp2_with fail
    refine (turned_any _ _ _ _ w2 (by omega)).mono ?_; rintro e w' ⟨rfl, hb⟩; replace HB := on_below HB hb; clear hb
    go_wp2_with fail
    refine (turned_any _ _ _ _ w2 (by omega)).mono ?_; rintro e w'' ⟨rfl, hb⟩; replace HB := on_below HB hb; clear hb
    have HC : Hid (Below w.heap.size w (w''.alloc (.cells (Array.replicate t.size (.int .u8 0)) 5))) := hid (HB.out.alloc HB.out.size _)
    go_wp2_with fail
    refine (turned_zeros _ _ _ _ (by omega) (by omega)).mono ?_; rintro e w3 ⟨rfl, hb⟩; replace HC := on_below HC hb; clear hb
    go_wp2_with fail
    refine (live_any _).mono ?_; rintro e w4 ⟨rfl, hb⟩; replace HC := on_below HC hb; clear hb
    go_wp2_with fail
    go_ret
    exact ⟨rfl, HC.out⟩

set_option maxHeartbeats 400000 in
theorem Apart_live (a b : B32) (t : ByteArray) (n : Int) (w2 : t.size ≤ maxLen) (w : World) (h : 2000 < t.size ∨ n < 0 ∨ 1000000000 < n) :
    Calls Try.prog 8 #[.agg #[.int .u32 (U a), .int .u32 (U b), .string t, .int .i64 n]] w fun e w' => e = .returned (.bool true) ∧ Below w.heap.size w w' := by
  have ht := w2
  unfold maxLen at ht
  go_enter Try.func8, Try.ntmps8
  go_wp2_with fail
  go_quiet (fail)
  have HB : Hid (Below w.heap.size w ((w.alloc (.cells #[.int .u32 (U a), .int .u32 (U b), .string t, .int .i64 n] 36)).drewN nq)) := hid (below_drewN ((Below.refl _ _).alloc (Nat.le_refl _) _) nq)
  generalize ((w.alloc (.cells #[.int .u32 (U a), .int .u32 (U b), .string t, .int .i64 n] 36)).drewN nq) = wq at HB ⊢
  go_wp2_with (go_at_call 9; refine (live_any _).mono ?_; rintro e w' ⟨rfl, hb⟩; replace HB := on_below HB hb; clear hb)
  all_goals (go_ret; first | exact ⟨rfl, HB.out⟩ | (exfalso; omega))

theorem Sum32Apart_walk (v : Value) (h : ∃ (x y n : Int) (t : ByteArray), v = .agg #[.int .u32 x, .int .u32 y, .string t, .int .i64 n] ∧ (Lit.int .u32 x).wf = true ∧ (Lit.int .u32 y).wf = true ∧ t.size ≤ maxLen) (w : World) :
    Calls Try.prog 8 #[v] w fun e w' => e = .returned (.bool true) ∧ Below w.heap.size w w' := by
  obtain ⟨x, y, n, t, rfl, wx, wy, wt⟩ := h
  obtain ⟨a, rfl⟩ := wf_word wx
  obtain ⟨b, rfl⟩ := wf_word wy
  by_cases h : 2000 < t.size ∨ n < 0 ∨ 1000000000 < n
  · exact Apart_live a b t n wt w h
  · exact Apart_go a b t n wt w h

theorem Sum32Apart_open0 {H : Type} {enc : TypeId × Value → H} {W : World} {base : Nat} {v : Value} {d : DataW H} {p : List MemPlace}
    (hv : Value.okWide Try.prog W .any base 36 v) (h : DataW.Trod enc Try.prog W 0 (fun _ => true) true 36 v d p) :
    ∃ (x y n : Int) (t : ByteArray), v = .agg #[.int .u32 x, .int .u32 y, .string t, .int .i64 n] ∧ (Lit.int .u32 x).wf = true ∧ (Lit.int .u32 y).wf = true ∧ t.size ≤ maxLen := by
  obtain ⟨v0, v1, v2, v3, y0, y1, y2, y3, n, rfl, _, _, h0, h1, h2, h3⟩ := Joins.open_agg4 Try.underlying36 (by kernel_rfl) (by kernel_rfl) hv h
  obtain ⟨x, e0, _, wx⟩ := DataW.trod_int Try.underlying22 h0
  obtain ⟨y, e1, _, wy⟩ := DataW.trod_int Try.underlying22 h1
  obtain ⟨t, e2, _, wt⟩ := DataW.trod_string Try.underlying9 h2
  obtain ⟨z, e3, _, wz⟩ := DataW.trod_int Try.underlying3 h3
  simp at e0 e1 e2 e3
  subst e0 e1 e2 e3
  exact ⟨x, y, z, t, rfl, wx, wy, wt⟩
end Go.Proofs.Ytmgagghlkopfcaa
