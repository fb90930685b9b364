/- Sum of entry over a list of pages. -/
import Derived.Test.YtigaddpjmgncmaaDoorEnBoth
import Derived.Test.YtigaddpjmgncmaaDoorScShelf
import Derived.Test.YtigaddpjmgncmaaDoorSmSteps
import Derived.Test.YtigaddpjmgncmaaDoorSmRef
namespace Go.Proofs.YtigaddpjmgncmaaDoor.En
open Go.RowKit
open Go.Lib (hid)
open Go.Proofs.YtigaddpjmgncmaaDoor.Fd (be be_length num getAt)
open Go.Proofs.YtigaddpjmgncmaaDoor.Sm (U sumB sum_any refSum_any)

/-- a page: its kind, its number, its body -/
abbrev PageT := Int × Int × ByteArray
/-- pages in memory -/
def Pgs (w : World) (p : Option Addr) (L : List PageT) : Prop :=
  ∀ i (h : i < L.length), ∃ b off, p = some ⟨b, off, none⟩ ∧ b < w.heap.size ∧ w.cell? ⟨b, off + i * 3, none⟩ = some (.int .i64 L[i].1) ∧ w.cell? ⟨b, off + i * 3 + 1, none⟩ = some (.int .i64 L[i].2.1) ∧ w.cell? ⟨b, off + i * 3 + 2, none⟩ = some (.string L[i].2.2)
theorem Pgs.below {w w' : World} {p : Option Addr} {L : List PageT} (h : Pgs w p L) (hb : Below w.heap.size w w') : Pgs w' p L := by
  intro i hi
  obtain ⟨b, off, e, hl, h1, h2, h3⟩ := h i hi
  exact ⟨b, off, e, Nat.lt_of_lt_of_le hl hb.size, (hb.cell (p := ⟨b, _, none⟩) hl).trans h1, (hb.cell (p := ⟨b, _, none⟩) hl).trans h2, (hb.cell (p := ⟨b, _, none⟩) hl).trans h3⟩
/-- the text of the page that stands at i -/
noncomputable def encT (i : Nat) (p : PageT) : ByteArray := (encR 1 1 i p.1 p.2.1 p.2.2 0 0).1
/-- the texts of the first k pages -/
noncomputable def textS (L : List PageT) (k : Nat) : List UInt8 := (L.zipIdx.take k).flatMap fun x => (encT x.2 x.1).data.toList
theorem textS_next (L : List PageT) (k : Nat) (h : k < L.length) : textS L (k + 1) = textS L k ++ (encT k L[k]).data.toList := by
  unfold textS
  rw [List.take_succ_eq_append_getElem (by simpa using h)]
  simp
theorem encT_size (i : Nat) (p : PageT) : (encT i p).size ≤ 244 := by
  unfold encT
  by_cases h : mayE 1 1 i p.1 p.2.1 p.2.2 0 0
  · exact (encR_size (by decide) h).2
  · rw [encR_no h]; decide
theorem textS_length (L : List PageT) (k : Nat) : (textS L k).length ≤ 244 * k := by
  induction k with
  | zero => simp [textS]
  | succ k ih =>
    by_cases h : k < L.length
    · have h2 := encT_size k L[k]
      have h3 := Fd.size_list (encT k L[k])
      rw [textS_next L k h, List.length_append]; omega
    · have : textS L (k + 1) = textS L k := by
        unfold textS
        rw [List.take_of_length_le (by simp; omega), List.take_of_length_le (by simp; omega)]
      rw [this]; omega
theorem row_keep {w w' : World} {base e size n : Nat} {v : Value} {xs : List Value} (h : w.ownsRow base e size v n xs) (hk : ∀ g, v.ownBlock = some g → w'.heap[g]? = w.heap[g]?) : w'.ownsRow base e size v n xs := by
  refine ⟨h.1, ?_⟩
  rcases h.2 with hn | ⟨g, cap, cur, hv, hb0, hg, rest⟩
  · exact .inl hn
  · exact .inr ⟨g, cap, cur, hv, hb0, by rw [hk g (by rw [hv]; rfl)]; exact hg, rest⟩
theorem bld_next {T e : TypeId} {B b : Nat} {bs : List Value} {w w' : World} (h : Lib.IsBuilder T e B b bs w) (hb : Below w.heap.size w w') : Lib.IsBuilder T e B b bs w' := by
  have k : ∀ p, Lib.BuilderAt T e B b p bs w → Lib.BuilderAt T e B b p bs w' := by
    rintro p ⟨h1, v, h2, h3, h4⟩
    refine ⟨h1, v, (hb.block _ (Array.getElem?_eq_some_iff.1 h2).1).trans h2, row_keep h3 fun g hg => hb.block _ ?_, h4⟩
    rcases h3.2 with ⟨rfl, _⟩ | ⟨g', cap, cur, rfl, _, hg', _⟩
    · simp [Value.ownBlock] at hg
    · simp [Value.ownBlock] at hg; subst hg; exact (Array.getElem?_eq_some_iff.1 hg').1
  exact h.imp (k _) (k _)
theorem bld_new (w : World) (T e : TypeId) : Lib.IsBuilder T e w.heap.size w.heap.size [] (w.alloc (.cells #[.pointer none, .slice none 0 0] T)) := by
  refine .inl ⟨Nat.le_refl _, .slice none 0 0, heap_alloc_new _ _, ?_, by simp [Value.ownBlock]⟩
  exact ⟨rfl, .inl ⟨rfl, rfl⟩⟩
set_option maxRecDepth 100000 in
set_option maxHeartbeats 4000000 in
theorem sum_ok (L : List PageT) (p : Option Addr) (c : Nat) (w : World) (hL : Lst w) (hp : Pgs w p L) (hl : L.length ≤ 1000) :
    Calls Tryd.prog 14 #[.slice p L.length c] w fun e w' => e = .returned (.int .u32 (U (sumB (textS L L.length)))) ∧ Below w.heap.size w w' := by
  obtain ⟨n, hn⟩ : ∃ n, L.length = n := ⟨_, rfl⟩
  obtain ⟨W, hW⟩ : ∃ W, w.alloc (.cells #[.pointer none, .slice none 0 0] 64) = W := ⟨_, rfl⟩
  have HBW := hid (show Below w.heap.size w W by rw [← hW]; exact (Below.refl w.heap.size w).alloc (Nat.le_refl _) _)
  have HBD := hid (show Lib.IsBuilder 64 5 w.heap.size w.heap.size [] W by rw [← hW]; exact bld_new _ _ _)
  have H := hid hp; have HN := hid hn; have HL := hid hL
  rw [hn] at hl ⊢
  clear hp hn hL
  go_enter Tryd.func14, Tryd.ntmps14
  go_wp2_with fail
  clear hW
  go_loopw [10] (fun s wr => ∃ i : Nat, s = .int .i64 i ∧ i ≤ n ∧ Lib.IsBuilder 64 5 w.heap.size w.heap.size (Lib.byteCells (textS L i)) wr ∧ Below w.heap.size w wr) (fun s _ => n - (intOf s).toNat)
  case atStart => exact ⟨0, rfl, Nat.zero_le _, HBD.out, HBW.out⟩
  case round =>
    obtain ⟨i, rfl, hi, hbd, hb⟩ := hrel
    have HB := hid hb; have HBI := hid hbd
    clear hbd
    by_cases hlt : i < n
    · have hiL : i < L.length := by rw [HN.out]; exact hlt
      obtain ⟨b, off, rfl, hbl, d0, d1, d2⟩ := H.out.below hb i hiL
      have HNX := hid (textS_next L i hiL)
      have hT := encT_size i L[i]
      have hTL := textS_length L i
      have HLN := hid (show (Lib.byteCells (textS L i)).length + (encT i L[i]).size ≤ 140737488355328 by rw [Lib.byteCells_length]; omega)
      have HE := hid fun (V : World) (hV : Lst V) => (encode_any 1 1 i L[i].1 L[i].2.1 L[i].2.2 0 0 V hV (by decide) (by decide) (by decide))
      obtain ⟨r2, hr2⟩ : ∃ r, (encR 1 1 i L[i].1 L[i].2.1 L[i].2.2 0 0).2 = r := ⟨_, rfl⟩
      rw [show (encR 1 1 i L[i].1 L[i].2.1 L[i].2.2 0 0).1 = encT i L[i] from rfl, hr2] at HE
      generalize encT i L[i] = T at *
      generalize L[i].1 = k0 at *
      generalize L[i].2.1 = n0 at *
      generalize L[i].2.2 = b0 at *
      have HI := hid hlt
      have HB1 := hid (HB.out.trans ((Below.refl wr.heap.size wr).alloc (Nat.le_refl _) (.cells #[.int .i64 k0, .int .i64 n0, .string b0] 23)|>.mono HB.out.size))
      have HL1 := hid (HL.out.next HL.out.pos HB1.out)
      clear hT hTL hr2 hb
      go_wp2_with fail
      refine (HE.out _ HL1.out).mono ?_
      rintro e w2 ⟨rfl, hb2⟩
      have HB2 := hid (HB1.out.trans (hb2.mono HB1.out.size))
      have HBW2 := hid (Tryd.bld_write w.heap.size w.heap.size _ T w2 (bld_next HBI.out (((Below.refl wr.heap.size wr).alloc (Nat.le_refl _) (.cells #[.int .i64 k0, .int .i64 n0, .string b0] 23)).trans (hb2.mono (by simp)))) HLN.out HB2.out.size)
      clear hb2
      go_wp2_with fail
      refine HBW2.out.mono ?_
      rintro e w3 ⟨rfl, hbd, hb3⟩
      have HB3 := hid (HB2.out.trans hb3)
      have HBD3 := hid (show Lib.IsBuilder 64 5 w.heap.size w.heap.size (Lib.byteCells (textS L (i + 1))) w3 by
        rw [HNX.out, Lib.byteCells_append]; exact .inr hbd)
      clear hbd hb3
      go_wp2_with fail
      go_roundw
      case rel => exact ⟨i + 1, by go_num, HI.out, HBD3.out, HB3.out⟩
      case measure => simp [intOf]; have := HI.out; omega
    · obtain rfl : i = n := by omega
      have HTX := hid (Tryd.bld_text w.heap.size w.heap.size (textS L i) wr HBI.out HB.out.size)
      have hTL := textS_length L i
      have HS := hid fun (V : World) => (show Calls Tryd.prog 26 #[.string ⟨(textS L i).toArray⟩] V fun e w' => e = .returned (.int .u32 (U (sumB (textS L i)))) ∧ V = w' by
        have h2 := sum_any ⟨(textS L i).toArray⟩ V (by show (textS L i).toArray.size ≤ _; rw [List.size_toArray]; exact Nat.le_trans (Nat.le_trans hTL (by omega : 244 * i ≤ 244000)) (by decide))
        simpa using h2)
      obtain ⟨X, hX⟩ : ∃ X, textS L i = X := ⟨_, rfl⟩
      rw [hX] at HTX HS HBI
      have HX := hid hX
      clear hX
      clear hlt hi hb hTL
      go_wp2_with fail
      refine HTX.out.mono ?_
      rintro e w3 ⟨rfl, hb3⟩
      have HB3 := hid (HB.out.trans hb3)
      clear hb3
      go_wp2_with fail
      refine (HS.out _).mono ?_
      rintro e w4 ⟨rfl, rfl⟩
      go_wp2_with fail
      go_ret
      exact ⟨by rw [HX.out]; rfl, HB3.out⟩
set_option maxRecDepth 100000 in
set_option maxHeartbeats 4000000 in
theorem refsum_ok (L : List PageT) (p : Option Addr) (c : Nat) (w : World) (hp : Pgs w p L) (hl : L.length ≤ 1000) :
    Calls Tryd.prog 15 #[.slice p L.length c] w fun e w' => e = .returned (.int .u32 (U (sumB (textS L L.length)))) ∧ Below w.heap.size w w' := by
  obtain ⟨n, hn⟩ : ∃ n, L.length = n := ⟨_, rfl⟩
  have H := hid hp; have HN := hid hn
  rw [hn] at hl ⊢
  clear hp hn
  go_enter Tryd.func15, Tryd.ntmps15
  go_wp2_with fail
  go_loopw [3, 4] (fun s j wr => ∃ i : Nat, j = .int .i64 i ∧ i ≤ n ∧ s = .string ⟨(textS L i).toArray⟩ ∧ Below w.heap.size w wr) (fun _ j _ => n - (intOf j).toNat)
  case atStart => exact ⟨0, rfl, Nat.zero_le _, by simp [textS], Below.refl _ _⟩
  case round =>
    obtain ⟨i, rfl, hi, rfl, hb⟩ := hrel
    have HB := hid hb
    have hTL := textS_length L i
    obtain ⟨s1, hs1⟩ : ∃ s, (⟨(textS L i).toArray⟩ : ByteArray) = s := ⟨_, rfl⟩
    have hz1 : s1.size ≤ 244000 := by rw [← hs1]; show (textS L i).toArray.size ≤ _; rw [List.size_toArray]; omega
    have HS1 := hid hs1
    rw [hs1]
    clear hs1 hTL
    by_cases hlt : i < n
    · have hiL : i < L.length := by rw [HN.out]; exact hlt
      obtain ⟨b, off, rfl, hbl, d0, d1, d2⟩ := H.out.below hb i hiL
      have HNX := hid (show s1 ++ encT i L[i] = ⟨(textS L (i + 1)).toArray⟩ by rw [textS_next L i hiL, ← HS1.out, join_bytes])
      have hT := encT_size i L[i]
      have HE := hid fun (V : World) => (refenc_any 1 1 i L[i].1 L[i].2.1 L[i].2.2 0 0 V (by decide) (by decide))
      obtain ⟨r2, hr2⟩ : ∃ r, (encR 1 1 i L[i].1 L[i].2.1 L[i].2.2 0 0).2 = r := ⟨_, rfl⟩
      rw [show (encR 1 1 i L[i].1 L[i].2.1 L[i].2.2 0 0).1 = encT i L[i] from rfl, hr2] at HE
      generalize encT i L[i] = T at *
      generalize L[i].1 = k0 at *
      generalize L[i].2.1 = n0 at *
      generalize L[i].2.2 = b0 at *
      have j1 : ¬ (9223372036854775807 < s1.size + T.size) := by omega
      have j2 : s1.size + T.size ≤ 9223372036854775807 := by omega
      have HI := hid hlt
      clear hr2 hb
      go_wp2_with fail
      refine (HE.out _).mono ?_
      rintro e w2 ⟨rfl, hb2⟩
      have HB2 := hid (HB.out.trans (hb2.mono HB.out.size))
      clear hb2
      go_wp2_with fail
      go_roundw
      case rel => exact ⟨i + 1, by go_num, HI.out, by rw [HNX.out], HB2.out⟩
      case measure => simp [intOf]; have := HI.out; omega
    · obtain rfl : i = n := by omega
      have HS := hid fun (V : World) => (show Calls Tryd.prog 28 #[.string s1] V fun e w' => e = .returned (.int .u32 (U (sumB (textS L i)))) ∧ V = w' by
        have h2 := refSum_any s1 V (Nat.le_trans hz1 (by decide))
        rw [← HS1.out] at h2 ⊢
        simpa using h2)
      clear hlt hi hb
      go_wp2_with fail
      refine (HS.out _).mono ?_
      rintro e w4 ⟨rfl, rfl⟩
      go_wp2_with fail
      go_ret
      exact ⟨rfl, HB.out⟩
end Go.Proofs.YtigaddpjmgncmaaDoor.En
