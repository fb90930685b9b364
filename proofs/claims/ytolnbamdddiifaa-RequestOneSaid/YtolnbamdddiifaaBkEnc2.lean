/- Encode of bucket, whole. -/
import Derived.Test.YtolnbamdddiifaaBkEnc
namespace Go.Proofs.Ytolnbamdddiifaa.Bk
open Go.RowKit
open Go.Lib (hid)
open Go.Proofs.Ytolnbamdddiifaa.Ky
open Go.Proofs.Ytolnbamdddiifaa

def encOk (L : List Rec) (dim cap : Int) : Bool := decide (upL L) && (mayAll L dim && (takesB cap && fitsB L cap))
def encS (L : List Rec) (dim cap : Int) : ByteArray := if encOk L dim cap then ⟨(encL L).toArray⟩ else ⟨#[]⟩
def EncPost (w : World) (s : ByteArray) (b : Bool) (e : Ending) (w' : World) : Prop := e = .returned (.tuple #[.string s, .int .i64 (err b)]) ∧ Below w.heap.size w w'
theorem encNo {L : List Rec} {dim cap : Int} (h : encOk L dim cap = false) : encS L dim cap = ⟨#[]⟩ := by unfold encS; rw [h]; rfl
theorem encYes {L : List Rec} {dim cap : Int} (h : encOk L dim cap = true) : encS L dim cap = ⟨(encL L).toArray⟩ := by unfold encS; rw [h]; rfl
theorem encR_take (L : List Rec) (k : Nat) (h : k < L.length) : (L.take (k + 1)).flatMap encR = (L.take k).flatMap encR ++ encR L[k] := by
  rw [List.take_succ_eq_append_getElem h, List.flatMap_append]; simp
theorem encR_sum (L : List Rec) (k : Nat) : 1 + ((L.take k).flatMap encR).length = sizeR (L.take k) := by
  have h := encL_length (L.take k)
  unfold encL at h
  rw [List.length_append, Fd.be_length] at h
  exact h
theorem fits_230 {L : List Rec} {cap : Int} (h : fitsB L cap = true) (ht : takesB cap = true) : sizeR L ≤ 230 ∧ L.length ≤ 16 := by
  simp only [fitsB, takesB, Bool.and_eq_true, decide_eq_true_eq] at h ht
  omega
end Go.Proofs.Ytolnbamdddiifaa.Bk
