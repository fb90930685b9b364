/- Encode of a scale. -/
import Derived.Test.YtmhjoeegghnlhaaScEnc
import Derived.Test.YtmhjoeegghnlhaaScShelf
namespace Go.Proofs.Ytmhjoeegghnlhaa.Sc
open Go.RowKit
open Go.Lib (hid)
open Go.Proofs.Ytmhjoeegghnlhaa.Ky Go.Proofs.Ytmhjoeegghnlhaa.Bk
open Go.Proofs.Ytmhjoeegghnlhaa

def encS (bs : List (List Nat)) : List UInt8 := bs.flatMap encP
theorem encP_len (l : List Nat) : (encP l).length = 1 + 4 * l.length := by
  unfold encP; rw [List.length_append, flat_len, Fd.be_length]
theorem encS_len (bs : List (List Nat)) (h : ∀ l ∈ bs, l.length ≤ 255) : (encS bs).length ≤ 1021 * bs.length := by
  unfold encS
  induction bs with
  | nil => simp
  | cons x m ih =>
    have h1 := ih fun l hl => h l (List.mem_cons_of_mem _ hl)
    have h2 := h x (List.mem_cons_self ..)
    rw [List.flatMap_cons, List.length_append, encP_len, List.length_cons]; omega
theorem encS_next (bs : List (List Nat)) (i : Nat) (l : List Nat) (h : bs[i]? = some l) : encS (bs.take (i + 1)) = encS (bs.take i) ++ encP l := by
  obtain ⟨hi, rfl⟩ := List.getElem?_eq_some_iff.1 h
  unfold encS
  rw [List.take_succ_eq_append_getElem hi, List.flatMap_append]; simp
theorem bld_next {T e : TypeId} {B b : Nat} {bs : List Value} {w w' : World} (h : Lib.IsBuilder T e B b bs w) (hb : Below w.heap.size w w') : Lib.IsBuilder T e B b bs w' := by
  have k : ∀ p, Lib.BuilderAt T e B b p bs w → Lib.BuilderAt T e B b p bs w' := by
    rintro p ⟨h1, v, h2, h3, h4⟩
    refine ⟨h1, v, (hb.block _ (Array.getElem?_eq_some_iff.1 h2).1).trans h2, row_keep h3 fun g hg => hb.block _ ?_, h4⟩
    rcases h3.2 with ⟨rfl, _⟩ | ⟨g', cap, cur, rfl, _, hg', _⟩
    · simp [Value.ownBlock] at hg
    · simp [Value.ownBlock] at hg; subst hg; exact (Array.getElem?_eq_some_iff.1 hg').1
  exact h.imp (k _) (k _)
theorem bld_new (w : World) (T e : TypeId) : Lib.IsBuilder T e w.heap.size w.heap.size [] (w.alloc (.cells #[.pointer none, .slice none 0 0] T)) := by
  refine .inl ⟨Nat.le_refl _, .slice none 0 0, heap_alloc_new _ _, ?_, by simp [Value.ownBlock]⟩
  exact ⟨rfl, .inl ⟨rfl, rfl⟩⟩
set_option maxRecDepth 100000 in
set_option maxHeartbeats 2000000 in
theorem encode_ok (N b R : Nat) (vs : List Value) (bs : List (List Nat)) (w : World) (h : Sc N w b R vs bs) :
    Calls Try.prog 27 #[.pointer (some ⟨b, 0, none⟩)] w fun e w' => e = .returned (.string ⟨(encS bs).toArray⟩) ∧ Below w.heap.size w w' := by
  obtain ⟨n, hn⟩ : ∃ n, bs.length = n := ⟨_, rfl⟩
  obtain ⟨W, hW⟩ : ∃ W, w.alloc (.cells #[.pointer none, .slice none 0 0] 89) = W := ⟨_, rfl⟩
  have HBW := hid (show Below w.heap.size w W by rw [← hW]; exact below_alloc _ _)
  have HBD := hid (show Lib.IsBuilder 89 5 w.heap.size w.heap.size [] W by rw [← hW]; exact bld_new _ _ _)
  have HCO := hid (coords_ok W (h.next HBW.out).cell.1)
  have hd := h.dim
  rw [hn] at hd HCO
  have H := hid h; have HN := hid hn; have HD := hid hd
  clear h hn hd
  go_enter Try.func27, Try.ntmps27
  go_wp2_with fail
  refine HCO.out.mono ?_
  rintro e w1 ⟨rfl, rfl⟩
  clear hW
  go_wp2_with fail
  go_loopw [7] (fun s wr => ∃ i : Nat, s = .int .i64 i ∧ i ≤ n ∧ Lib.IsBuilder 89 5 w.heap.size w.heap.size (Lib.byteCells (encS (bs.take i))) wr ∧ Below w.heap.size w wr) (fun s _ => n - (intOf s).toNat)
  case atStart => exact ⟨0, rfl, Nat.zero_le _, HBD.out, HBW.out⟩
  case round =>
    obtain ⟨i, rfl, hi, hbd, hb⟩ := hrel
    have HB := hid hb; have HBI := hid hbd
    clear hbd
    by_cases hlt : i < n
    · obtain ⟨l, hl⟩ : ∃ l, bs[i]? = some l := ⟨_, List.getElem?_eq_getElem (by have := HN.out; omega)⟩
      have hS := H.out.next hb
      obtain ⟨v, p, c, hv, hvp, hcl, hfr, hpt, hown, hlc⟩ := hS.at hl
      have hcb := hS.cell.1
      rw [HN.out] at hcb
      have hl255 := (hS.fit l (List.mem_of_getElem? hl)).2
      have HWR := hid (written_ok l p c l.length wr hpt rfl hl255)
      have HNX := hid (encS_next bs i l hl)
      have HLN := hid (show (Lib.byteCells (encS (bs.take i))).length + (⟨(encP l).toArray⟩ : ByteArray).size ≤ 140737488355328 by
        have h1 := encS_len (bs.take i) fun m hm => (H.out.fit m (List.mem_of_mem_take hm)).2
        have h2 := encP_len l
        have h3 := HD.out
        have h4 := HN.out
        rw [Lib.byteCells_length]
        show _ + (encP l).toArray.size ≤ _
        rw [List.size_toArray]
        rw [List.length_take] at h1
        omega)
      have HI := hid hlt
      have e1 : decide ((i : Int) < (n : Int)) = true := by simpa using hlt
      have e1' : decide (i < n) = true := by simpa using hlt
      have hd6 := HD.out
      have s1 : IntKind.i64.wrap ((i : Int) + 1) = ((i + 1 : Nat) : Int) := Go.IntWalk.i64_in _ (by omega)
      clear hb hl hS hv hvp hfr hpt hown hlc hi hl255
      go_wp2_with fail
      refine HWR.out.mono ?_
      rintro e w2 ⟨rfl, hb2⟩
      have HB2 := hid (HB.out.trans (hb2.mono HB.out.size))
      have HBW2 := hid (Try.bld_write w.heap.size w.heap.size _ ⟨(encP l).toArray⟩ w2 (bld_next HBI.out hb2) HLN.out HB2.out.size)
      clear hb2
      go_wp2_with fail
      refine HBW2.out.mono ?_
      rintro e w3 ⟨rfl, hbd, hb3⟩
      have HB3 := hid (HB2.out.trans hb3)
      have HBD3 := hid (show Lib.IsBuilder 89 5 w.heap.size w.heap.size (Lib.byteCells (encS (bs.take (i + 1)))) w3 by
        rw [HNX.out, Lib.byteCells_append]; exact .inr hbd)
      clear hbd hb3
      go_wp2_with fail
      go_roundw
      case rel => exact ⟨i + 1, rfl, HI.out, HBD3.out, HB3.out⟩
      case measure => simp [intOf]; have := HI.out; omega
    · obtain rfl : i = n := by omega
      have e1 : decide ((i : Int) < (i : Int)) = false := by simp
      have e1' : decide (i < i) = false := by simp
      have HE := hid (show encS (bs.take i) = encS bs by rw [← HN.out, List.take_length])
      have HTX := hid (Try.bld_text w.heap.size w.heap.size (encS (bs.take i)) wr HBI.out HB.out.size)
      rw [HE.out] at HTX
      clear hlt hi hb
      go_wp2_with fail
      refine HTX.out.mono ?_
      rintro e w3 ⟨rfl, hb3⟩
      have HB3 := hid (HB.out.trans hb3)
      clear hb3
      go_wp2_with fail
      go_ret
      exact ⟨rfl, HB3.out⟩
set_option maxRecDepth 100000 in
set_option maxHeartbeats 2000000 in
theorem encode_nil (w : World) : Calls Try.prog 27 #[.pointer none] w fun e w' => e = .returned (.string ByteArray.empty) ∧ Below w.heap.size w w' := by
  obtain ⟨W, hW⟩ : ∃ W, w.alloc (.cells #[.pointer none, .slice none 0 0] 89) = W := ⟨_, rfl⟩
  have HBW := hid (show Below w.heap.size w W by rw [← hW]; exact below_alloc _ _)
  have HBD := hid (show Lib.IsBuilder 89 5 w.heap.size w.heap.size [] W by rw [← hW]; exact bld_new _ _ _)
  have HCO := hid (coords_nil W)
  go_enter Try.func27, Try.ntmps27
  go_wp2_with fail
  refine HCO.out.mono ?_
  rintro e w1 ⟨rfl, rfl⟩
  clear hW
  go_wp2_with fail
  go_loopw [7] (fun s wr => s = .int .i64 0 ∧ Lib.IsBuilder 89 5 w.heap.size w.heap.size (Lib.byteCells []) wr ∧ Below w.heap.size w wr) (fun _ _ => 0)
  case atStart => exact ⟨rfl, HBD.out, HBW.out⟩
  case round =>
    obtain ⟨rfl, hbd, hb⟩ := hrel
    have HB := hid hb
    have HTX := hid (Try.bld_text w.heap.size w.heap.size [] wr hbd HB.out.size)
    clear hbd hb
    go_wp2_with fail
    refine HTX.out.mono ?_
    rintro e w3 ⟨rfl, hb3⟩
    have HB3 := hid (HB.out.trans hb3)
    clear hb3
    go_wp2_with fail
    go_ret
    exact ⟨rfl, HB3.out⟩
end Go.Proofs.Ytmhjoeegghnlhaa.Sc
