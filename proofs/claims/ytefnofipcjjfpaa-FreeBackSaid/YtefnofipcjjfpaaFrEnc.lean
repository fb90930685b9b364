/- Encode and Copy of free. -/
import Derived.Test.YtefnofipcjjfpaaFrLeft
import Derived.Test.YtefnofipcjjfpaaFdBase
namespace Go.Proofs.Ytefnofipcjjfpaa.Fr
open Go.RowKit
open Go.Lib (hid)

/-- how many bytes, and the bytes -/
def nb (B : List Bool) : Nat := (B.length + 7) / 8
def encB (B : List Bool) : List UInt8 := (List.range (nb B)).map fun i => UInt8.ofNat (byteN B i)
theorem encB_length (B : List Bool) : (encB B).length = nb B := by simp [encB]
theorem encB_at (B : List Bool) (i : Nat) (h : i < nb B) : (encB B)[i]'(by rw [encB_length]; exact h) = UInt8.ofNat (byteN B i) := by simp [encB]
/-- of which the first k are laid -/
def encP (B : List Bool) (k : Nat) : List UInt8 := (encB B).take k ++ List.replicate (nb B - k) 0
theorem encP_length (B : List Bool) (k : Nat) (h : k ≤ nb B) : (encP B k).length = nb B := by
  unfold encP; rw [List.length_append, List.length_take, encB_length, List.length_replicate]; omega
theorem encP_more (B : List Bool) (k : Nat) (h : k < nb B) : (encP B k).set k (UInt8.ofNat (byteN B k)) = encP B (k + 1) := by
  unfold encP
  have hl : (encB B).length = nb B := encB_length B
  have e : nb B - k = (nb B - (k + 1)) + 1 := by omega
  have hk : ((encB B).take k).length = k := by rw [List.length_take]; omega
  rw [List.set_append_right _ _ (by omega), hk, Nat.sub_self, e, List.replicate_succ, List.set_cons_zero, List.take_succ_eq_append_getElem (by omega), encB_at _ _ h, List.append_assoc]; rfl
theorem encP_zero (B : List Bool) : encP B 0 = List.replicate (nb B) 0 := by simp [encP]
theorem encP_full (B : List Bool) : encP B (nb B) = encB B := by
  unfold encP; rw [List.take_of_length_le (by rw [encB_length]; exact Nat.le_refl _)]; simp
theorem byte_run (B : List Bool) (k s x : Nat) (hx : word B (8 * k / 64) = x) (hs : 56 - 8 * k % 64 = s) : IntKind.u8.wrap ((x : Int) / 2 ^ s) = (((UInt8.ofNat (byteN B k)).toNat : Nat) : Int) := by
  have h := byte_of_word B k
  have hlt := byteN_lt B k
  rw [hx, hs] at h
  have e : (x : Int) / 2 ^ s = ((x / 2 ^ s : Nat) : Int) := by simp
  rw [e, IntKind.wrap_u8]
  have e2 : (UInt8.ofNat (byteN B k)).toNat = byteN B k := by simp; omega
  rw [e2]; omega

set_option maxRecDepth 100000 in
set_option maxHeartbeats 1000000 in
theorem encode_ok (d : Ptrs) (B : List Bool) (w : World) (h : Mp w d B) :
    Calls Try.prog 18 #[.pointer (some ⟨d.M, 0, none⟩)] w fun e w' => e = .returned (.string ⟨(encB B).toArray⟩) ∧ Below w.heap.size w w' := by
  have c := h.cells
  have h2 := h.n2
  have hnb : nb B ≤ 125 := by unfold nb; omega
  have e0 : ((B.length : Int) + 7) / 8 = (nb B : Int) := by unfold nb; omega
  have hm := Fd.make_run (nb B) (by omega) w
  have H := hid h; clear h
  have HR : Hid (Fd.Row (w.alloc (.cells (Array.replicate (nb B) (.int .u8 0)) 5)) w.heap.size (encP B 0)) := hid (by
    unfold Fd.Row; rw [heap_alloc_new, encP_zero, Fd.rowOf_zeros])
  have HNB : Hid (nb B = (B.length + 7) / 8) := hid rfl
  go_enter Try.func18, Try.ntmps18
  go_wp2_with fail
  go_loopw [16] (fun i wr => ∃ k : Nat, k ≤ nb B ∧ i = .int .i64 k ∧ Fd.Row wr w.heap.size (encP B k) ∧ Below w.heap.size w wr) (fun i _ => nb B - (intOf i).toNat)
  case atStart => exact ⟨0, by omega, rfl, HR.out, (Below.refl _ _).alloc (Nat.le_refl _) _⟩
  case round =>
    obtain ⟨k, hk, rfl, hr, hb⟩ := hrel
    have HK := hid hr; have HB := hid hb; clear hr hb
    by_cases hlt : k < nb B
    · have HM := H.out.below HB.out
      have cm := HM.cells
      obtain ⟨q, hq⟩ : ∃ q, 8 * k / 64 = q := ⟨_, rfl⟩
      obtain ⟨r, hr⟩ : ∃ r, 8 * k % 64 = r := ⟨_, rfl⟩
      obtain ⟨s, hs⟩ : ∃ s, 56 - r = s := ⟨_, rfl⟩
      obtain ⟨x, hx⟩ : ∃ x, word B q = x := ⟨_, rfl⟩
      have hqw : q < nw B := by have := HNB.out; unfold nw; omega
      have hnw : nw B ≤ 16 := by unfold nw; omega
      have cw := HM.word q hqw
      rw [hx] at cw
      have e1 : 8 * (k : Int) / 64 = (q : Int) := by omega
      have e2 : 8 * (k : Int) % 64 = (r : Int) := by omega
      have e3 : (56 : Int) - (r : Int) = (s : Int) := by omega
      have e4 : (s : Int) ≤ 64 := by omega
      have e5 := byte_run B k s x (by rw [hq]; exact hx) (by rw [hr]; exact hs)
      have HMO := hid (encP_more B k hlt)
      generalize UInt8.ofNat (byteN B k) = u at e5 HMO
      have hc := HK.out.cell k (by rw [encP_length _ _ hk]; exact hlt)
      have hf := HK.out.free k
      generalize (((encP B k)[k]'(by rw [encP_length _ _ hk]; exact hlt)).toNat : Int) = u0 at hc
      clear hq hr hs hx HM
      go_wp2_with fail
      go_roundw
      case rel =>
        refine ⟨k + 1, by omega, by go_num, ?_, HB.out.setCell (Nat.le_refl _) _⟩
        rw [← HMO.out]
        exact ((Fd.Upd.refl HK.out).setCell k u).row
      case measure => simp [intOf]; omega
    · obtain rfl : k = nb B := by omega
      have hbk := Fd.back_run HK.out 0 (nb B) (nb B) (by rw [encP_length _ _ (Nat.le_refl _)]; omega)
      have e : Fd.getAt (encP B (nb B)) 0 (nb B) = encB B := by
        have := Fd.getAt_all (encP B (nb B)); rw [encP_length _ _ (Nat.le_refl _)] at this; rw [this, encP_full]
      rw [e] at hbk
      clear e
      go_wp2_with fail
      go_ret
      exact ⟨rfl, HB.out⟩
set_option maxHeartbeats 400000 in
theorem encode_nil (w : World) :
    Calls Try.prog 18 #[.pointer none] w fun e w' => e = .returned (.string ⟨#[]⟩) ∧ w = w' := by
  go_enter Try.func18, Try.ntmps18
  go_wp2_with fail
  go_ret
  exact ⟨rfl, rfl⟩
end Go.Proofs.Ytefnofipcjjfpaa.Fr
