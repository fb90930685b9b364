/- Decode of bucket. -/
import Derived.Test.YtolnbamdddiifaaBkDec
namespace Go.Proofs.Ytolnbamdddiifaa.Bk
open Go.RowKit
open Go.Lib (hid)
open Go.Proofs.Ytolnbamdddiifaa.Ky
open Go.Proofs.Ytolnbamdddiifaa

theorem rmake32 (n : Nat) (h : n ≤ 1000000) (w : World) :
    (Instr.makeSlice 27 (.int .u32 (n : Int)) (.int .u32 (n : Int))).run Try.prog w = .ok (.slice (some ⟨w.heap.size, 0, none⟩) n n) (w.alloc (.cells (madeCells (Value.agg #[.slice none 0 0, .string ⟨#[]⟩]).cells (n * 2)) 56)) := by
  obtain ⟨i, hi, hz, hs, hb⟩ := info_parts rinfo
  have := run_makeSlice (P := Try.prog) (w := w) 27 56 i _ Try.underlying27 hi hz .u32 .u32 n n (by omega) (by omega) (by rw [hs]; omega) (by rw [hb]; omega) (by omega)
  rw [hs] at this
  exact this
theorem Fill.keep {w w' : World} {g n k R : Nat} {L : List Rec} (h : Fill w g n k L) (hk : Keep (K2 R R) w w') (hR : R < g) : Fill w' g n k L := by
  obtain ⟨cur, h1, h2, h3⟩ := h.row
  have hg := h.lt
  exact ⟨cur, (hk.block g hg (by unfold K2; omega)).trans h1, h2, h3.keep ⟨hk.size, fun b hb hD => hk.block b hb (fun e => hD (by unfold K2 at e; show b ≤ g; omega))⟩⟩
/-- what is read of a text, and the error -/
def readR (s : List UInt8) (d : Nat) : List Rec × RS := recsS s d (nm s (0, false) 1).1 (nm s (0, false) 1).2
def decOk (dim cap : Int) : Bool := decide (1 ≤ dim ∧ dim ≤ 6) && takesB cap
def decR (s : ByteArray) (dim cap : Int) : List Rec × Int :=
  if decOk dim cap then (if (readR s.data.toList dim.toNat).2.2 then ([], 9) else if encS (readR s.data.toList dim.toNat).1 dim cap = s then ((readR s.data.toList dim.toNat).1, 0) else ([], 6)) else ([], 1)
def DecPost (w : World) (r : List Rec × Int) (e : Ending) (w' : World) : Prop := ∃ p c, e = .returned (.tuple #[.slice p r.1.length c, .int .i64 r.2]) ∧ r.1.length ≤ c ∧ c ≤ 9223372036854775807 ∧ Rs (Lt w.heap.size) w' p r.1 ∧ Below w.heap.size w w'
theorem dec_none {w w' : World} {n : Int} (hb : Below w.heap.size w w') : DecPost w ([], n) (.returned (.tuple #[.slice none 0 0, .int .i64 n])) w' := ⟨none, 0, rfl, Nat.le_refl _, by omega, Rs.nil _, hb⟩
end Go.Proofs.Ytolnbamdddiifaa.Bk
