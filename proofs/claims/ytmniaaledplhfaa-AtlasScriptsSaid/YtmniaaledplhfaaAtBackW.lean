/- AtlasBack walked. -/
import Derived.Test.YtmniaaledplhfaaAtOpen
namespace Go.Proofs.Ytmniaaledplhfaa
open Go.RowKit
open Go.Lib (hid)
open Go.ChangeShapes Go.WideShapes Go.Joins
open Go.Proofs.Ytmniaaledplhfaa.Ky Go.Proofs.Ytmniaaledplhfaa.Bk Go.Proofs.Ytmniaaledplhfaa.At

theorem dataAt_put (L : List Rec) (k : List Nat) (t : ByteArray) : dataAt (putR L (k, t)) k = t := by
  obtain ⟨h1, _, h3⟩ := put_place (L := L) (k, t)
  unfold dataAt
  rw [show lessN (putR L (k, t)) k = lessN L k from h1, h3]
theorem has_cut {L : List Rec} (hu : upL L) (k : List Nat) : hasN (cutR L k) k = false := by
  cases hh : hasN L k with
  | false => unfold cutR; rw [hh]; simpa using hh
  | true =>
    obtain ⟨hi, he⟩ := hasN_iff.1 hh
    obtain ⟨i, hii⟩ : ∃ i, lessN L k = i := ⟨_, rfl⟩
    have hs := (lessN_spec L k).1
    rw [hii] at hs
    simp only [hii] at he hi
    have hc : cutR L k = L.take i ++ L.drop (i + 1) := by unfold cutR; simp [hh, hii]
    have htl : (L.take i).length = i := by rw [List.length_take]; omega
    have hat : ∀ h : i < (cutR L k).length, ∃ h' : i + 1 < L.length, (cutR L k)[i] = L[i + 1] := fun h => by
      have hl : (cutR L k).length = L.length - 1 := by rw [hc, List.length_append, htl, List.length_drop]; omega
      refine ⟨by omega, ?_⟩
      have e : (cutR L k)[i]? = L[i + 1]? := by rw [hc, List.getElem?_append_right (by omega), htl, Nat.sub_self, List.getElem?_drop]
      rw [List.getElem?_eq_getElem h, List.getElem?_eq_getElem (by omega)] at e
      simpa using e
    have hlt2 : ∀ h' : i + 1 < L.length, cmp k L[i + 1].1 < 0 := fun h' => by
      have := List.pairwise_iff_getElem.1 hu i (i + 1) hi h' (by omega)
      rwa [he] at this
    have hless : lessN (cutR L k) k = i := lessN_at i (by rw [hc, List.length_append, htl]; omega) (fun j hj hji => by
      have e : (cutR L k)[j] = L[j]'(by omega) := by
        have e : (cutR L k)[j]? = L[j]? := by rw [hc, List.getElem?_append_left (by omega), List.getElem?_take_of_lt hji]
        rw [List.getElem?_eq_getElem hj, List.getElem?_eq_getElem (by omega)] at e
        simpa using e
      rw [e]; exact hs j (by omega) hji) (fun h => by
      obtain ⟨h', e⟩ := hat h
      rw [e]
      have h1 := hlt2 h'
      have h2 := cmp_flip k L[i + 1].1
      omega)
    cases hx : hasN (cutR L k) k with
    | false => rfl
    | true =>
      obtain ⟨g1, g2⟩ := hasN_iff.1 hx
      simp only [hless] at g1 g2
      obtain ⟨h', e⟩ := hat g1
      have h1 := hlt2 h'
      rw [← e, g2] at h1
      have h2 := cmp_flip k k
      omega
/-- a record is put, if it may be -/
def stepP (d : Int) (M : List Rec) (r : Rec) : List Rec := if recB r.1 r.2 d = true then putR M r else M
theorem stepP_len (d : Int) (M : List Rec) (r : Rec) : (stepP d M r).length ≤ M.length + 1 := by
  unfold stepP
  split
  · rw [putR_length]; split <;> omega
  · omega
end Go.Proofs.Ytmniaaledplhfaa
