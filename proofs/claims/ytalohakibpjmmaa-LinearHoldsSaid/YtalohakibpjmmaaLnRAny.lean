/- Box of the reference's excell, whatever is asked. -/
import Derived.Test.YtalohakibpjmmaaExRBox
import Derived.Test.YtalohakibpjmmaaLnAny
namespace Go.Proofs.Ytalohakibpjmmaa.Ln
open Go.RowKit
open Go.Lib (hid)
open Go.Proofs.Ytalohakibpjmmaa.Ky
open Go.Proofs.Ytalohakibpjmmaa.Bk
open Go.Proofs.Ytalohakibpjmmaa.Ex
theorem refBox_any (dim d a : Int) (w : World) : Calls Try.prog 32 #[.int .i64 dim, .int .i64 d, .int .i64 a] w (AnyBox w (bxL dim d a) (err (okB dim d a))) := by
  cases h : okB dim d a with
  | false =>
    rw [show bxL dim d a = ([], []) by unfold bxL; rw [h]; rfl]
    exact (refBox_no dim d a w h).mono fun e w' ⟨h1, h2⟩ => ⟨none, 0, none, 0, h1, Pt.nil _ _, Pt.nil _ _, h2⟩
  | true =>
    obtain ⟨n, D, A, rfl, h1, h2, rfl, h3, rfl, h4⟩ := okB_iff.1 h
    have f := cell_fit ⟨h1, h2⟩ D A (show D ≤ 32 by omega)
    have := refBox_yes ⟨h1, h2⟩ h3 h4 w
    rw [show bxL (n : Int) (D : Int) (A : Int) = cell n D A by unfold bxL; rw [h, Int.toNat_natCast, Int.toNat_natCast, Int.toNat_natCast]; rfl]
    unfold AnyBox
    rw [f.1, f.2]
    exact this
end Go.Proofs.Ytalohakibpjmmaa.Ln
