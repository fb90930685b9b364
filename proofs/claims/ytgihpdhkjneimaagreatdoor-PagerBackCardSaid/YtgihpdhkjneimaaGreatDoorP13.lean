/- Merged out of EnSum, EnLive, EnEq, EnPl, EnDcA, PgOpen. -/
import Derived.Test.YtgihpdhkjneimaaGreatDoorP12
import Derived.Test.YtgihpdhkjneimaaGreatDoorP01
import Derived.Test.YtgihpdhkjneimaaGreatDoorP04
import Derived.Lib.Hide
import Derived.Deep.QuietTactic
import Derived.BigQuiet
/- Sum of entry over a list of pages. -/
namespace Go.Proofs.YtgihpdhkjneimaaGreatDoor.En
open Go.RowKit
open Go.Lib (hid)
open Go.Proofs.YtgihpdhkjneimaaGreatDoor.Fd (be be_length num getAt)
open Go.Proofs.YtgihpdhkjneimaaGreatDoor.Sm (U sumB sum_any refSum_any)

/-- a page: its kind, its number, its body -/
abbrev PageT := Int × Int × ByteArray
/-- pages in memory -/
def Pgs (w : World) (p : Option Addr) (L : List PageT) : Prop :=
  ∀ i (h : i < L.length), ∃ b off, p = some ⟨b, off, none⟩ ∧ b < w.heap.size ∧ w.cell? ⟨b, off + i * 3, none⟩ = some (.int .i64 L[i].1) ∧ w.cell? ⟨b, off + i * 3 + 1, none⟩ = some (.int .i64 L[i].2.1) ∧ w.cell? ⟨b, off + i * 3 + 2, none⟩ = some (.string L[i].2.2)
theorem Pgs.below {w w' : World} {p : Option Addr} {L : List PageT} (h : Pgs w p L) (hb : Below w.heap.size w w') : Pgs w' p L := by
  intro i hi
  obtain ⟨b, off, e, hl, h1, h2, h3⟩ := h i hi
  exact ⟨b, off, e, Nat.lt_of_lt_of_le hl hb.size, (hb.cell (p := ⟨b, _, none⟩) hl).trans h1, (hb.cell (p := ⟨b, _, none⟩) hl).trans h2, (hb.cell (p := ⟨b, _, none⟩) hl).trans h3⟩
/-- the text of the page that stands at i -/
noncomputable def encT (i : Nat) (p : PageT) : ByteArray := (encR 1 1 i p.1 p.2.1 p.2.2 0 0).1
/-- the texts of the first k pages -/
noncomputable def textS (L : List PageT) (k : Nat) : List UInt8 := (L.zipIdx.take k).flatMap fun x => (encT x.2 x.1).data.toList
theorem textS_next (L : List PageT) (k : Nat) (h : k < L.length) : textS L (k + 1) = textS L k ++ (encT k L[k]).data.toList := by
  unfold textS
  rw [List.take_succ_eq_append_getElem (by simpa using h)]
  simp
theorem encT_size (i : Nat) (p : PageT) : (encT i p).size ≤ 244 := by
  unfold encT
  by_cases h : mayE 1 1 i p.1 p.2.1 p.2.2 0 0
  · exact (encR_size (by decide) h).2
  · rw [encR_no h]; decide
theorem textS_length (L : List PageT) (k : Nat) : (textS L k).length ≤ 244 * k := by
  induction k with
  | zero => simp [textS]
  | succ k ih =>
    by_cases h : k < L.length
    · have h2 := encT_size k L[k]
      have h3 := Fd.size_list (encT k L[k])
      rw [textS_next L k h, List.length_append]; omega
    · have : textS L (k + 1) = textS L k := by
        unfold textS
        rw [List.take_of_length_le (by simp; omega), List.take_of_length_le (by simp; omega)]
      rw [this]; omega
theorem row_keep {w w' : World} {base e size n : Nat} {v : Value} {xs : List Value} (h : w.ownsRow base e size v n xs) (hk : ∀ g, v.ownBlock = some g → w'.heap[g]? = w.heap[g]?) : w'.ownsRow base e size v n xs := by
  refine ⟨h.1, ?_⟩
  rcases h.2 with hn | ⟨g, cap, cur, hv, hb0, hg, rest⟩
  · exact .inl hn
  · exact .inr ⟨g, cap, cur, hv, hb0, by rw [hk g (by rw [hv]; rfl)]; exact hg, rest⟩
theorem bld_next {T e : TypeId} {B b : Nat} {bs : List Value} {w w' : World} (h : Lib.IsBuilder T e B b bs w) (hb : Below w.heap.size w w') : Lib.IsBuilder T e B b bs w' := by
  have k : ∀ p, Lib.BuilderAt T e B b p bs w → Lib.BuilderAt T e B b p bs w' := by
    rintro p ⟨h1, v, h2, h3, h4⟩
    refine ⟨h1, v, (hb.block _ (Array.getElem?_eq_some_iff.1 h2).1).trans h2, row_keep h3 fun g hg => hb.block _ ?_, h4⟩
    rcases h3.2 with ⟨rfl, _⟩ | ⟨g', cap, cur, rfl, _, hg', _⟩
    · simp [Value.ownBlock] at hg
    · simp [Value.ownBlock] at hg; subst hg; exact (Array.getElem?_eq_some_iff.1 hg').1
  exact h.imp (k _) (k _)
theorem bld_new (w : World) (T e : TypeId) : Lib.IsBuilder T e w.heap.size w.heap.size [] (w.alloc (.cells #[.pointer none, .slice none 0 0] T)) := by
  refine .inl ⟨Nat.le_refl _, .slice none 0 0, heap_alloc_new _ _, ?_, by simp [Value.ownBlock]⟩
  exact ⟨rfl, .inl ⟨rfl, rfl⟩⟩
set_option maxRecDepth 100000 in
set_option maxHeartbeats 4000000 in
theorem sum_ok (L : List PageT) (p : Option Addr) (c : Nat) (w : World) (hL : Lst w) (hp : Pgs w p L) (hl : L.length ≤ 1000) :
    Calls Tryz.prog 129 #[.slice p L.length c] w fun e w' => e = .returned (.int .u32 (U (sumB (textS L L.length)))) ∧ Below w.heap.size w w' := by
  obtain ⟨n, hn⟩ : ∃ n, L.length = n := ⟨_, rfl⟩
  obtain ⟨W, hW⟩ : ∃ W, w.alloc (.cells #[.pointer none, .slice none 0 0] 159) = W := ⟨_, rfl⟩
  have HBW := hid (show Below w.heap.size w W by rw [← hW]; exact (Below.refl w.heap.size w).alloc (Nat.le_refl _) _)
  have HBD := hid (show Lib.IsBuilder 159 5 w.heap.size w.heap.size [] W by rw [← hW]; exact bld_new _ _ _)
  have H := hid hp; have HN := hid hn; have HL := hid hL
  rw [hn] at hl ⊢
  clear hp hn hL
  go_enter Tryz.func129, Tryz.ntmps129
  go_wp2_with fail
  clear hW
  go_loopw [10] (fun s wr => ∃ i : Nat, s = .int .i64 i ∧ i ≤ n ∧ Lib.IsBuilder 159 5 w.heap.size w.heap.size (Lib.byteCells (textS L i)) wr ∧ Below w.heap.size w wr) (fun s _ => n - (intOf s).toNat)
  case atStart => exact ⟨0, rfl, Nat.zero_le _, HBD.out, HBW.out⟩
  case round =>
    obtain ⟨i, rfl, hi, hbd, hb⟩ := hrel
    have HB := hid hb; have HBI := hid hbd
    clear hbd
    by_cases hlt : i < n
    · have hiL : i < L.length := by rw [HN.out]; exact hlt
      obtain ⟨b, off, rfl, hbl, d0, d1, d2⟩ := H.out.below hb i hiL
      have HNX := hid (textS_next L i hiL)
      have hT := encT_size i L[i]
      have hTL := textS_length L i
      have HLN := hid (show (Lib.byteCells (textS L i)).length + (encT i L[i]).size ≤ 140737488355328 by rw [Lib.byteCells_length]; omega)
      have HE := hid fun (V : World) (hV : Lst V) => (encode_any 1 1 i L[i].1 L[i].2.1 L[i].2.2 0 0 V hV (by decide) (by decide) (by decide))
      obtain ⟨r2, hr2⟩ : ∃ r, (encR 1 1 i L[i].1 L[i].2.1 L[i].2.2 0 0).2 = r := ⟨_, rfl⟩
      rw [show (encR 1 1 i L[i].1 L[i].2.1 L[i].2.2 0 0).1 = encT i L[i] from rfl, hr2] at HE
      generalize encT i L[i] = T at *
      generalize L[i].1 = k0 at *
      generalize L[i].2.1 = n0 at *
      generalize L[i].2.2 = b0 at *
      have HI := hid hlt
      have HB1 := hid (HB.out.trans ((Below.refl wr.heap.size wr).alloc (Nat.le_refl _) (.cells #[.int .i64 k0, .int .i64 n0, .string b0] 69)|>.mono HB.out.size))
      have HL1 := hid (HL.out.next HL.out.pos HB1.out)
      clear hT hTL hr2 hb
      go_wp2_with fail
      refine (HE.out _ HL1.out).mono ?_
      rintro e w2 ⟨rfl, hb2⟩
      have HB2 := hid (HB1.out.trans (hb2.mono HB1.out.size))
      have HBW2 := hid (Tryz.bld_write w.heap.size w.heap.size _ T w2 (bld_next HBI.out (((Below.refl wr.heap.size wr).alloc (Nat.le_refl _) (.cells #[.int .i64 k0, .int .i64 n0, .string b0] 69)).trans (hb2.mono (by simp)))) HLN.out HB2.out.size)
      clear hb2
      go_wp2_with fail
      refine HBW2.out.mono ?_
      rintro e w3 ⟨rfl, hbd, hb3⟩
      have HB3 := hid (HB2.out.trans hb3)
      have HBD3 := hid (show Lib.IsBuilder 159 5 w.heap.size w.heap.size (Lib.byteCells (textS L (i + 1))) w3 by
        rw [HNX.out, Lib.byteCells_append]; exact .inr hbd)
      clear hbd hb3
      go_wp2_with fail
      go_roundw
      case rel => exact ⟨i + 1, by go_num, HI.out, HBD3.out, HB3.out⟩
      case measure => simp [intOf]; have := HI.out; omega
    · obtain rfl : i = n := by omega
      have HTX := hid (Tryz.bld_text w.heap.size w.heap.size (textS L i) wr HBI.out HB.out.size)
      have hTL := textS_length L i
      have HS := hid fun (V : World) => (show Calls Tryz.prog 121 #[.string ⟨(textS L i).toArray⟩] V fun e w' => e = .returned (.int .u32 (U (sumB (textS L i)))) ∧ V = w' by
        have h2 := sum_any ⟨(textS L i).toArray⟩ V (by show (textS L i).toArray.size ≤ _; rw [List.size_toArray]; exact Nat.le_trans (Nat.le_trans hTL (by omega : 244 * i ≤ 244000)) (by decide))
        simpa using h2)
      obtain ⟨X, hX⟩ : ∃ X, textS L i = X := ⟨_, rfl⟩
      rw [hX] at HTX HS HBI
      have HX := hid hX
      clear hX
      clear hlt hi hb hTL
      go_wp2_with fail
      refine HTX.out.mono ?_
      rintro e w3 ⟨rfl, hb3⟩
      have HB3 := hid (HB.out.trans hb3)
      clear hb3
      go_wp2_with fail
      refine (HS.out _).mono ?_
      rintro e w4 ⟨rfl, rfl⟩
      go_wp2_with fail
      go_ret
      exact ⟨by rw [HX.out]; rfl, HB3.out⟩
set_option maxRecDepth 100000 in
set_option maxHeartbeats 4000000 in
theorem refsum_ok (L : List PageT) (p : Option Addr) (c : Nat) (w : World) (hp : Pgs w p L) (hl : L.length ≤ 1000) :
    Calls Tryz.prog 97 #[.slice p L.length c] w fun e w' => e = .returned (.int .u32 (U (sumB (textS L L.length)))) ∧ Below w.heap.size w w' := by
  obtain ⟨n, hn⟩ : ∃ n, L.length = n := ⟨_, rfl⟩
  have H := hid hp; have HN := hid hn
  rw [hn] at hl ⊢
  clear hp hn
  go_enter Tryz.func97, Tryz.ntmps97
  go_wp2_with fail
  go_loopw [3, 4] (fun s j wr => ∃ i : Nat, j = .int .i64 i ∧ i ≤ n ∧ s = .string ⟨(textS L i).toArray⟩ ∧ Below w.heap.size w wr) (fun _ j _ => n - (intOf j).toNat)
  case atStart => exact ⟨0, rfl, Nat.zero_le _, by simp [textS], Below.refl _ _⟩
  case round =>
    obtain ⟨i, rfl, hi, rfl, hb⟩ := hrel
    have HB := hid hb
    have hTL := textS_length L i
    obtain ⟨s1, hs1⟩ : ∃ s, (⟨(textS L i).toArray⟩ : ByteArray) = s := ⟨_, rfl⟩
    have hz1 : s1.size ≤ 244000 := by rw [← hs1]; show (textS L i).toArray.size ≤ _; rw [List.size_toArray]; omega
    have HS1 := hid hs1
    rw [hs1]
    clear hs1 hTL
    by_cases hlt : i < n
    · have hiL : i < L.length := by rw [HN.out]; exact hlt
      obtain ⟨b, off, rfl, hbl, d0, d1, d2⟩ := H.out.below hb i hiL
      have HNX := hid (show s1 ++ encT i L[i] = ⟨(textS L (i + 1)).toArray⟩ by rw [textS_next L i hiL, ← HS1.out, join_bytes])
      have hT := encT_size i L[i]
      have HE := hid fun (V : World) => (refenc_any 1 1 i L[i].1 L[i].2.1 L[i].2.2 0 0 V (by decide) (by decide))
      obtain ⟨r2, hr2⟩ : ∃ r, (encR 1 1 i L[i].1 L[i].2.1 L[i].2.2 0 0).2 = r := ⟨_, rfl⟩
      rw [show (encR 1 1 i L[i].1 L[i].2.1 L[i].2.2 0 0).1 = encT i L[i] from rfl, hr2] at HE
      generalize encT i L[i] = T at *
      generalize L[i].1 = k0 at *
      generalize L[i].2.1 = n0 at *
      generalize L[i].2.2 = b0 at *
      have j1 : ¬ (9223372036854775807 < s1.size + T.size) := by omega
      have j2 : s1.size + T.size ≤ 9223372036854775807 := by omega
      have HI := hid hlt
      clear hr2 hb
      go_wp2_with fail
      refine (HE.out _).mono ?_
      rintro e w2 ⟨rfl, hb2⟩
      have HB2 := hid (HB.out.trans (hb2.mono HB.out.size))
      clear hb2
      go_wp2_with fail
      go_roundw
      case rel => exact ⟨i + 1, by go_num, HI.out, by rw [HNX.out], HB2.out⟩
      case measure => simp [intOf]; have := HI.out; omega
    · obtain rfl : i = n := by omega
      have HS := hid fun (V : World) => (show Calls Tryz.prog 108 #[.string s1] V fun e w' => e = .returned (.int .u32 (U (sumB (textS L i)))) ∧ V = w' by
        have h2 := refSum_any s1 V (Nat.le_trans hz1 (by decide))
        rw [← HS1.out] at h2 ⊢
        simpa using h2)
      clear hlt hi hb
      go_wp2_with fail
      refine (HS.out _).mono ?_
      rintro e w4 ⟨rfl, rfl⟩
      go_wp2_with fail
      go_ret
      exact ⟨rfl, HB.out⟩
end Go.Proofs.YtgihpdhkjneimaaGreatDoor.En

/- live of entry: what its calls answer. -/
namespace Go.Proofs.YtgihpdhkjneimaaGreatDoor.En
open Go.RowKit
open Go.Lib (hid)
open Go.Proofs.YtgihpdhkjneimaaGreatDoor.Fd (be be_length num getAt)
open Go.Proofs.YtgihpdhkjneimaaGreatDoor.Sm (U sumB)

abbrev lvB : ByteArray := ⟨#[97, 98]⟩
abbrev lvS : ByteArray := ⟨#[1, 0, 0, 0, 1, 0, 0, 2, 1, 2, 97, 98]⟩
abbrev lvC : ByteArray := ⟨#[2, 0, 0, 0, 5, 0, 1, 0, 1, 0, 0, 1, 2]⟩
theorem lv_may1 : mayE 1 1 0 2 258 lvB 0 0 := by
  refine ⟨by decide, by decide, by decide, by decide, .inl ⟨rfl, ⟨by decide, by decide, by decide, by decide, by decide, by decide⟩, rfl, rfl⟩⟩
theorem lv_may2 : mayE 2 5 1 0 0 ⟨#[]⟩ 1 258 := by
  refine ⟨by decide, by decide, by decide, by decide, .inr (.inl ⟨rfl, by decide, rfl, (noP_iff _ _ _).2 ⟨rfl, rfl, rfl⟩⟩)⟩
theorem lv_enc1 : encR 1 1 0 2 258 lvB 0 0 = (lvS, 0) := by
  rw [encR_yes lv_may1]; rfl
theorem lv_enc2 : encR 2 5 1 0 0 ⟨#[]⟩ 1 258 = (lvC, 0) := by
  rw [encR_yes lv_may2]; rfl
theorem lv_cut1 (V : World) (hV : Lst V) : Calls Tryz.prog 134 #[.string lvS] V fun e w' => e = .returned (.bool false) ∧ w' = V := cut_k lvS 1 10 V (by decide) rfl (by decide) hV.c1
theorem lv_cut2 (V : World) (hV : Lst V) : Calls Tryz.prog 134 #[.string (lvC.extract 0 8)] V fun e w' => e = .returned (.bool true) ∧ w' = V := cut_k (lvC.extract 0 8) 2 13 V (by decide) rfl (by decide) hV.c2
theorem lv_cut3 (V : World) (_ : Lst V) : Calls Tryz.prog 134 #[.string ⟨#[4]⟩] V fun e w' => e = .returned (.bool false) ∧ w' = V := cut_far ⟨#[4]⟩ V (by decide) (by decide)
theorem lv_dec1 (V : World) (hV : Lst V) : Calls Tryz.prog 101 #[.string lvS] V fun e w' => e = .returned (.tuple #[.agg (entC 1 1 0 2 258 lvB 0 0), .int .i64 0]) ∧ Below V.heap.size V w' :=
  decode_ok lvS 1 1 0 2 258 lvB 0 0 V (by decide) ⟨rfl, rfl, rfl, .inl ⟨rfl, by decide, rfl, rfl, rfl, rfl, rfl⟩⟩ lv_cut1 hV (by rw [lv_enc1])
theorem lv_dec2 (V : World) (hV : Lst V) : Calls Tryz.prog 101 #[.string (lvC.extract 0 8)] V fun e w' => e = .returned (.tuple #[.agg (entC 0 0 0 0 0 ⟨#[]⟩ 0 0), .int .i64 9]) ∧ Below V.heap.size V w' :=
  decode_cut (lvC.extract 0 8) V lv_cut2 hV
theorem lv_dec3 (V : World) (hV : Lst V) : Calls Tryz.prog 101 #[.string ⟨#[4]⟩] V fun e w' => e = .returned (.tuple #[.agg (entC 0 0 0 0 0 ⟨#[]⟩ 0 0), .int .i64 6]) ∧ Below V.heap.size V w' :=
  (both_far ⟨#[4]⟩ (by decide) (by decide) lv_cut3 (by decide) (by decide) (by decide)).1 V hV
theorem lv_sum0 (V : World) (hV : Lst V) : Calls Tryz.prog 129 #[.slice none 0 0] V fun e w' => e = .returned (.int .u32 0) ∧ Below V.heap.size V w' := by
  have h := sum_ok [] none 0 V hV (fun i hi => absurd hi (by simp)) (by simp)
  rw [show U (sumB (textS [] ([] : List PageT).length)) = 0 from rfl] at h
  exact h
theorem lv_pgs (V : World) (g : Nat) (hg : g < V.heap.size) (h0 : V.cell? ⟨g, 0, none⟩ = some (.int .i64 2)) (h1 : V.cell? ⟨g, 1, none⟩ = some (.int .i64 258)) (h2 : V.cell? ⟨g, 2, none⟩ = some (.string lvB)) : Pgs V (some ⟨g, 0, none⟩) [((2 : Int), (258 : Int), lvB)] := by
  intro i hi
  obtain rfl : i = 0 := by simp at hi; omega
  exact ⟨g, 0, rfl, hg, h0, h1, h2⟩
/-- are two entries the same? -/
def entB (kd tx ix pk pn : Int) (b : ByteArray) (ct sm kd' tx' ix' pk' pn' : Int) (b' : ByteArray) (ct' sm' : Int) : Bool :=
  kd == kd' && (tx == tx' && (ix == ix' && (pageB pk pn pk' pn' b b' && (ct == ct' && sm == sm'))))
end Go.Proofs.YtgihpdhkjneimaaGreatDoor.En

/- Equality of two entries, as the program asks it. -/
namespace Go.Proofs.YtgihpdhkjneimaaGreatDoor.En
open Go.RowKit
open Go.Lib (hid)

theorem eqp (n : Nat) (a b a' b' : Int) (c c' : ByteArray) (w : World) :
    (Op.equalIn (n + 2) 69 (.agg #[.int .i64 a, .int .i64 b, .string c]) (.agg #[.int .i64 a', .int .i64 b', .string c'])).run Tryz.prog w = .ok (pageB a b a' b' c c') w := by
  have ht : Tryz.prog.underlying 69 = some (.struct (Tryz.prog.fieldsOf 69)) := by kernel_rfl
  have hp : Tryz.prog.stoodInHeld 69 = false := by kernel_rfl
  rw [show n + 2 = (n + 1) + 1 from rfl, run_equalIn_struct _ _ _ _ _ ht hp]
  simp only [Program.fieldsOf, Tryz.underlying69]
  unfold pageB
  by_cases h1 : a = a'
  · by_cases h2 : b = b'
    · by_cases h3 : c.toList = c'.toList <;> simp [Op.eqFields, go_sem, h1, h2, h3]
    · simp [Op.eqFields, go_sem, h1, h2]
  · simp [Op.eqFields, go_sem, h1]
theorem eqe (kd tx ix pk pn : Int) (b : ByteArray) (ct sm kd' tx' ix' pk' pn' : Int) (b' : ByteArray) (ct' sm' : Int) (w : World) :
    (Op.equalIn 10000 134 (.agg (entC kd tx ix pk pn b ct sm)) (.agg (entC kd' tx' ix' pk' pn' b' ct' sm'))).run Tryz.prog w = .ok (entB kd tx ix pk pn b ct sm kd' tx' ix' pk' pn' b' ct' sm') w := by
  have ht : Tryz.prog.underlying 134 = some (.struct (Tryz.prog.fieldsOf 134)) := by kernel_rfl
  have hp : Tryz.prog.stoodInHeld 134 = false := by kernel_rfl
  have HQ := fun (w : World) => eqp 9997 pk pn pk' pn' b b' w
  rw [show (10000 : Nat) = 9999 + 1 from rfl, run_equalIn_struct _ _ _ _ _ ht hp]
  simp only [Program.fieldsOf, Tryz.underlying134]
  unfold entB
  generalize pageB pk pn pk' pn' b b' = q at *
  by_cases h1 : kd = kd'
  · by_cases h2 : tx = tx'
    · by_cases h3 : ix = ix'
      · cases q with
        | false => simp [Op.eqFields, go_sem, h1, h2, h3, HQ]
        | true =>
          by_cases h5 : ct = ct'
          · by_cases h6 : sm = sm' <;> simp [Op.eqFields, go_sem, h1, h2, h3, HQ, h5, h6]
          · simp [Op.eqFields, go_sem, h1, h2, h3, HQ, h5]
      · simp [Op.eqFields, go_sem, h1, h2, h3]
    · simp [Op.eqFields, go_sem, h1, h2]
  · simp [Op.eqFields, go_sem, h1]
theorem eqr (kd tx ix pk pn : Int) (b : ByteArray) (ct sm kd' tx' ix' pk' pn' : Int) (b' : ByteArray) (ct' sm' : Int) (w : World) :
    (Op.equalIn 10000 84 (.agg (entC kd tx ix pk pn b ct sm)) (.agg (entC kd' tx' ix' pk' pn' b' ct' sm'))).run Tryz.prog w = .ok (entB kd tx ix pk pn b ct sm kd' tx' ix' pk' pn' b' ct' sm') w := by
  have ht : Tryz.prog.underlying 84 = some (.struct (Tryz.prog.fieldsOf 84)) := by kernel_rfl
  have hp : Tryz.prog.stoodInHeld 84 = false := by kernel_rfl
  have HQ := fun (w : World) => eqp 9997 pk pn pk' pn' b b' w
  rw [show (10000 : Nat) = 9999 + 1 from rfl, run_equalIn_struct _ _ _ _ _ ht hp]
  simp only [Program.fieldsOf, Tryz.underlying84]
  unfold entB
  generalize pageB pk pn pk' pn' b b' = q at *
  by_cases h1 : kd = kd'
  · by_cases h2 : tx = tx'
    · by_cases h3 : ix = ix'
      · cases q with
        | false => simp [Op.eqFields, go_sem, h1, h2, h3, HQ]
        | true =>
          by_cases h5 : ct = ct'
          · by_cases h6 : sm = sm' <;> simp [Op.eqFields, go_sem, h1, h2, h3, HQ, h5, h6]
          · simp [Op.eqFields, go_sem, h1, h2, h3, HQ, h5]
      · simp [Op.eqFields, go_sem, h1, h2, h3]
    · simp [Op.eqFields, go_sem, h1, h2]
  · simp [Op.eqFields, go_sem, h1]
theorem eql32 (kd tx ix pk pn : Int) (b : ByteArray) (ct sm kd' tx' ix' pk' pn' : Int) (b' : ByteArray) (ct' sm' : Int) (w : World) :
    (binOp .eql 134 (.agg (entC kd tx ix pk pn b ct sm)) (.agg (entC kd' tx' ix' pk' pn' b' ct' sm'))).run Tryz.prog w = .ok (.bool (entB kd tx ix pk pn b ct sm kd' tx' ix' pk' pn' b' ct' sm')) w := by
  rw [run_eql_struct, eqe]; rfl
theorem neq32 (kd tx ix pk pn : Int) (b : ByteArray) (ct sm kd' tx' ix' pk' pn' : Int) (b' : ByteArray) (ct' sm' : Int) (w : World) :
    (binOp .neq 134 (.agg (entC kd tx ix pk pn b ct sm)) (.agg (entC kd' tx' ix' pk' pn' b' ct' sm'))).run Tryz.prog w = .ok (.bool (!entB kd tx ix pk pn b ct sm kd' tx' ix' pk' pn' b' ct' sm')) w := by
  rw [run_neq_struct, eqe]; rfl
theorem eql26 (kd tx ix pk pn : Int) (b : ByteArray) (ct sm kd' tx' ix' pk' pn' : Int) (b' : ByteArray) (ct' sm' : Int) (w : World) :
    (binOp .eql 84 (.agg (entC kd tx ix pk pn b ct sm)) (.agg (entC kd' tx' ix' pk' pn' b' ct' sm'))).run Tryz.prog w = .ok (.bool (entB kd tx ix pk pn b ct sm kd' tx' ix' pk' pn' b' ct' sm')) w := by
  rw [run_eql_struct, eqr]; rfl
theorem neq26 (kd tx ix pk pn : Int) (b : ByteArray) (ct sm kd' tx' ix' pk' pn' : Int) (b' : ByteArray) (ct' sm' : Int) (w : World) :
    (binOp .neq 84 (.agg (entC kd tx ix pk pn b ct sm)) (.agg (entC kd' tx' ix' pk' pn' b' ct' sm'))).run Tryz.prog w = .ok (.bool (!entB kd tx ix pk pn b ct sm kd' tx' ix' pk' pn' b' ct' sm')) w := by
  rw [run_neq_struct, eqr]; rfl
theorem entB_self (kd tx ix pk pn : Int) (b : ByteArray) (ct sm : Int) : entB kd tx ix pk pn b ct sm kd tx ix pk pn b ct sm = true := by
  simp [entB, pageB]
end Go.Proofs.YtgihpdhkjneimaaGreatDoor.En

/- What is written reads as what was written; so unlike entries have unlike bytes. Plain. -/
namespace Go.Proofs.YtgihpdhkjneimaaGreatDoor.En
open Go.RowKit
open Go.Lib (hid)
open Go.Proofs.YtgihpdhkjneimaaGreatDoor.Fd (be be_length num num_be getAt)

theorem getOr_be (l A B : List UInt8) (o wd x : Nat) (e : l = A ++ (be wd x ++ B)) (ho : A.length = o) (hx : x < 256 ^ wd) : getOr l o wd = x := by
  subst ho; subst e
  unfold getOr
  rw [if_pos (by simp [be_length])]
  unfold getAt
  rw [List.drop_left, List.take_left' (be_length wd x)]
  exact num_be wd x hx
theorem enc_list (x : List UInt8) : (⟨x.toArray⟩ : ByteArray).data.toList = x := by simp
/-- what is written reads as the entry -/
theorem rd_enc {kd tx ix pk pn : Int} {b : ByteArray} {ct sm : Int} (hs : 0 ≤ sm) (hs2 : sm < 4294967296) (h : mayE kd tx ix pk pn b ct sm) : Rd (encR kd tx ix pk pn b ct sm).1 kd tx ix pk pn b ct sm := by
  rw [encR_yes h]
  obtain ⟨h1, h2, h3, h4, h5⟩ := h
  have h5' := h5
  rcases may_kinds hs ⟨h1, h2, h3, h4, h5⟩ with ⟨T, I, K, N, rfl, rfl, rfl, rfl, rfl, rfl, rfl⟩ | ⟨T, I, S, rfl, rfl, rfl, rfl, rfl, rfl, rfl, rfl⟩ | ⟨T, I, rfl, rfl, rfl, rfl, rfl, rfl, rfl, rfl⟩
  · have hm : mayS K N b := by
      rcases h5 with ⟨-, h, -⟩ | ⟨h, -⟩ | ⟨h, -⟩
      · exact h
      · exact absurd h (by decide)
      · exact absurd h (by decide)
    obtain ⟨-, m1, m2, m3, m4, m5⟩ := hm
    have e : encE (1 : Int).toNat (T : Int).toNat (I : Int).toNat (K : Int).toNat (N : Int).toNat b.data.toList (0 : Int).toNat (0 : Int).toNat = be 1 1 ++ (be 4 T ++ (be 2 I ++ (be 1 K ++ (be 2 N ++ b.data.toList)))) := by
      simp [encE, headE]
    rw [e]
    refine ⟨?_, ?_, ?_, .inl ⟨rfl, ?_, ?_, ?_, ?_, rfl, rfl⟩⟩
    · rw [enc_list, getOr_be _ (be 1 1) _ 1 4 T rfl (be_length _ _) (by omega)]
    · rw [enc_list, getOr_be _ (be 1 1 ++ be 4 T) _ 5 2 I (by first | (simp only [List.append_assoc]; rfl) | simp only [List.append_assoc]) (by simp [be_length]) (by omega)]
    · rw [enc_list]; exact (congrArg (Nat.cast : Nat → Int) (getOr_be _ [] _ 0 1 1 rfl rfl (by decide))).symm
    · show 10 ≤ (be 1 1 ++ (be 4 T ++ (be 2 I ++ (be 1 K ++ (be 2 N ++ b.data.toList))))).toArray.size
      simp [be_length]; omega
    · rw [enc_list, getOr_be _ (be 1 1 ++ (be 4 T ++ be 2 I)) _ 7 1 K (by first | (simp only [List.append_assoc]; rfl) | simp only [List.append_assoc]) (by simp [be_length]) (by omega)]
    · rw [enc_list, getOr_be _ (be 1 1 ++ (be 4 T ++ (be 2 I ++ be 1 K))) _ 8 2 N (by first | (simp only [List.append_assoc]; rfl) | simp only [List.append_assoc]) (by simp [be_length]) (by omega)]
    · rw [enc_list]
      apply ByteArray.ext
      rw [show (⟨(be 1 1 ++ (be 4 T ++ (be 2 I ++ (be 1 K ++ (be 2 N ++ b.data.toList))))).toArray⟩ : ByteArray).size - 10 = b.data.toList.length by
        show (be 1 1 ++ (be 4 T ++ (be 2 I ++ (be 1 K ++ (be 2 N ++ b.data.toList))))).toArray.size - 10 = _
        simp [be_length]; omega]
      rw [show be 1 1 ++ (be 4 T ++ (be 2 I ++ (be 1 K ++ (be 2 N ++ b.data.toList)))) = (be 1 1 ++ (be 4 T ++ (be 2 I ++ (be 1 K ++ be 2 N)))) ++ b.data.toList by simp only [List.append_assoc]]
      unfold getAt
      rw [show (10 : Nat) = (be 1 1 ++ (be 4 T ++ (be 2 I ++ (be 1 K ++ be 2 N)))).length by simp [be_length], List.drop_left, List.take_length]
  · have hc : 1 ≤ (I : Int) := by
      rcases h5 with ⟨h, -⟩ | ⟨-, h, -⟩ | ⟨h, -⟩
      · exact absurd h (by decide)
      · exact h
      · exact absurd h (by decide)
    have e : encE (2 : Int).toNat (T : Int).toNat (I : Int).toNat (0 : Int).toNat (0 : Int).toNat (⟨#[]⟩ : ByteArray).data.toList (I : Int).toNat (S : Int).toNat = be 1 2 ++ (be 4 T ++ (be 2 I ++ (be 2 I ++ (be 4 S ++ [])))) := by
      simp [encE, headE]
    rw [e]
    refine ⟨?_, ?_, ?_, .inr (.inl ⟨rfl, rfl, rfl, rfl, ?_, ?_⟩)⟩
    · rw [enc_list, getOr_be _ (be 1 2) _ 1 4 T rfl (be_length _ _) (by omega)]
    · rw [enc_list, getOr_be _ (be 1 2 ++ be 4 T) _ 5 2 I (by first | (simp only [List.append_assoc]; rfl) | simp only [List.append_assoc]) (by simp [be_length]) (by omega)]
    · rw [enc_list]; exact (congrArg (Nat.cast : Nat → Int) (getOr_be _ [] _ 0 1 2 rfl rfl (by decide))).symm
    · rw [enc_list, getOr_be _ (be 1 2 ++ (be 4 T ++ be 2 I)) _ 7 2 I (by first | (simp only [List.append_assoc]; rfl) | simp only [List.append_assoc]) (by simp [be_length]) (by omega)]
    · rw [enc_list, getOr_be _ (be 1 2 ++ (be 4 T ++ (be 2 I ++ be 2 I))) [] 9 4 S (by first | (simp only [List.append_assoc]; rfl) | simp only [List.append_assoc]) (by simp [be_length]) (by omega)]
  · have e : encE (3 : Int).toNat (T : Int).toNat (I : Int).toNat (0 : Int).toNat (0 : Int).toNat (⟨#[]⟩ : ByteArray).data.toList (0 : Int).toNat (0 : Int).toNat = be 1 3 ++ (be 4 T ++ (be 2 I ++ [])) := by
      simp [encE, headE]
    rw [e]
    refine ⟨?_, ?_, ?_, .inr (.inr ⟨by decide, by decide, rfl, rfl, rfl, rfl, rfl⟩)⟩
    · rw [enc_list, getOr_be _ (be 1 3) _ 1 4 T rfl (be_length _ _) (by omega)]
    · rw [enc_list, getOr_be _ (be 1 3 ++ be 4 T) [] 5 2 I (by first | (simp only [List.append_assoc]; rfl) | simp only [List.append_assoc]) (by simp [be_length]) (by omega)]
    · rw [enc_list]; exact (congrArg (Nat.cast : Nat → Int) (getOr_be _ [] _ 0 1 3 rfl rfl (by decide))).symm
/-- one text reads as one entry -/
theorem Rd.same {s : ByteArray} {kd tx ix pk pn : Int} {b : ByteArray} {ct sm : Int} {kd' tx' ix' pk' pn' : Int} {b' : ByteArray} {ct' sm' : Int} (h : Rd s kd tx ix pk pn b ct sm) (h' : Rd s kd' tx' ix' pk' pn' b' ct' sm') :
    kd = kd' ∧ tx = tx' ∧ ix = ix' ∧ pk = pk' ∧ pn = pn' ∧ b = b' ∧ ct = ct' ∧ sm = sm' := by
  obtain ⟨t1, i1, k1, r1⟩ := h
  obtain ⟨t2, i2, k2, r2⟩ := h'
  have ek : kd = kd' := by rw [k1, k2]
  refine ⟨ek, by rw [t1, t2], by rw [i1, i2], ?_⟩
  rcases r1 with ⟨a1, -, a2, a3, a4, a5, a6⟩ | ⟨a1, a2, a3, a4, a5, a6⟩ | ⟨a0, a1, a2, a3, a4, a5, a6⟩ <;> rcases r2 with ⟨c1, -, c2, c3, c4, c5, c6⟩ | ⟨c1, c2, c3, c4, c5, c6⟩ | ⟨c0, c1, c2, c3, c4, c5, c6⟩
  all_goals first
    | (exfalso; omega)
    | exact ⟨by rw [a2, c2], by rw [a3, c3], by rw [a4, c4], by rw [a5, c5], by rw [a6, c6]⟩
theorem entB_eq {kd tx ix pk pn : Int} {b : ByteArray} {ct sm kd' tx' ix' pk' pn' : Int} {b' : ByteArray} {ct' sm' : Int} (h : entB kd tx ix pk pn b ct sm kd' tx' ix' pk' pn' b' ct' sm' = true) :
    kd = kd' ∧ tx = tx' ∧ ix = ix' ∧ pk = pk' ∧ pn = pn' ∧ b = b' ∧ ct = ct' ∧ sm = sm' := by
  unfold entB pageB at h
  simp only [Bool.and_eq_true, beq_iff_eq] at h
  obtain ⟨h1, h2, h3, ⟨h4, h5, h6⟩, h7, h8⟩ := h
  refine ⟨h1, h2, h3, h4, h5, ?_, h7, h8⟩
  rw [Go.ByteArray.toList_eq, Go.ByteArray.toList_eq] at h6
  apply ByteArray.ext
  apply Array.toList_inj.1
  exact h6
/-- entries have the same bytes just if they are the same -/
theorem apart {kd tx ix pk pn : Int} {b : ByteArray} {ct sm kd' tx' ix' pk' pn' : Int} {b' : ByteArray} {ct' sm' : Int} (hs : 0 ≤ sm) (hs2 : sm < 4294967296) (hs' : 0 ≤ sm') (hs2' : sm' < 4294967296)
    (h : mayE kd tx ix pk pn b ct sm) (h' : mayE kd' tx' ix' pk' pn' b' ct' sm') :
    ((encR kd tx ix pk pn b ct sm).1.toList == (encR kd' tx' ix' pk' pn' b' ct' sm').1.toList) = entB kd tx ix pk pn b ct sm kd' tx' ix' pk' pn' b' ct' sm' := by
  by_cases hq : (encR kd tx ix pk pn b ct sm).1 = (encR kd' tx' ix' pk' pn' b' ct' sm').1
  · have hr := rd_enc hs hs2 h
    rw [hq] at hr
    obtain ⟨rfl, rfl, rfl, rfl, rfl, rfl, rfl, rfl⟩ := hr.same (rd_enc hs' hs2' h')
    rw [entB_self]; simp
  · rw [ba_other hq]
    cases hB : entB kd tx ix pk pn b ct sm kd' tx' ix' pk' pn' b' ct' sm' with
    | false => rfl
    | true =>
      obtain ⟨rfl, rfl, rfl, rfl, rfl, rfl, rfl, rfl⟩ := entB_eq hB
      exact absurd rfl hq
end Go.Proofs.YtgihpdhkjneimaaGreatDoor.En

/- What Decode of the code answers, whatever the text. -/
namespace Go.Proofs.YtgihpdhkjneimaaGreatDoor.En
open Go.RowKit
open Go.Lib (hid)

theorem cut_pos (s : ByteArray) (h0 : 0 < s.size) (V : World) (hV : Lst V) : Calls Tryz.prog 134 #[.string s] V fun e w' => e = .returned (.bool (decide (s.size < leastN s[0].toNat))) ∧ w' = V := by
  by_cases g0 : s[0].toNat = 0
  · rw [g0]; exact cut_k s 0 0 V h0 g0 (by decide) hV.c0
  · by_cases g1 : s[0].toNat = 1
    · rw [g1]; exact cut_k s 1 10 V h0 g1 (by decide) hV.c1
    · by_cases g2 : s[0].toNat = 2
      · rw [g2]; exact cut_k s 2 13 V h0 g2 (by decide) hV.c2
      · by_cases g3 : s[0].toNat = 3
        · rw [g3]; exact cut_k s 3 7 V h0 g3 (by decide) hV.c3
        · rw [show leastN s[0].toNat = 0 by simp [leastN, g1, g2, g3]]
          exact cut_far s V h0 (by omega)
/-- whatever the text: an error and no entry, or the entry whose text it is -/
theorem dec_any (s : ByteArray) (hs : s.size ≤ 4096) :
    (∃ c : Int, c ≠ 0 ∧ ∀ V : World, Lst V → Calls Tryz.prog 101 #[.string s] V fun e w' => e = .returned (.tuple #[.agg (entC 0 0 0 0 0 ⟨#[]⟩ 0 0), .int .i64 c]) ∧ Below V.heap.size V w') ∨
    ∃ kd tx ix pk pn b ct sm, 0 ≤ sm ∧ sm < 4294967296 ∧ tx ≤ 9223372036854775807 ∧ mayE kd tx ix pk pn b ct sm ∧ (encR kd tx ix pk pn b ct sm).1 = s ∧ ∀ V : World, Lst V → Calls Tryz.prog 101 #[.string s] V fun e w' => e = .returned (.tuple #[.agg (entC kd tx ix pk pn b ct sm), .int .i64 0]) ∧ Below V.heap.size V w' := by
  by_cases h0 : 0 < s.size
  · by_cases hn : s.size < leastN s[0].toNat
    · exact .inl ⟨9, by decide, fun V hV => decode_cut s V (fun X hX => by have h := cut_pos s h0 X hX; rw [decide_eq_true hn] at h; exact h) hV⟩
    · have hC : ∀ X : World, Lst X → Calls Tryz.prog 134 #[.string s] X fun e w' => e = .returned (.bool false) ∧ w' = X := fun X hX => by
        have h := cut_pos s h0 X hX; rw [decide_eq_false hn] at h; exact h
      obtain ⟨kd, tx, ix, pk, pn, b, ct, sm, hr⟩ := rd_ex s (fun h => by
        rw [first_at s h0] at h
        rw [h] at hn
        have : leastN 1 = 10 := rfl
        omega)
      by_cases hq : (encR kd tx ix pk pn b ct sm).1 = s
      · refine .inr ⟨kd, tx, ix, pk, pn, b, ct, sm, hr.fit.2.1, hr.fit.2.2, hr.fit.1, ?_, hq, fun V hV => decode_ok s kd tx ix pk pn b ct sm V hs hr hC hV hq⟩
        rcases Classical.em (mayE kd tx ix pk pn b ct sm) with h | h
        · exact h
        · rw [encR_no h] at hq
          rw [← hq] at h0
          exact absurd h0 (by decide)
      · exact .inl ⟨6, by decide, fun V hV => decode_bad s kd tx ix pk pn b ct sm V hs hr hC hV hq⟩
  · exact .inl ⟨9, by decide, fun V hV => decode_cut s V (fun X _ => by rw [no_size h0]; exact cut_nil X) hV⟩
theorem enc_size {kd tx ix pk pn : Int} {b : ByteArray} {ct sm : Int} (hs : 0 ≤ sm) (h : mayE kd tx ix pk pn b ct sm) : leastN kd.toNat ≤ (encR kd tx ix pk pn b ct sm).1.size := by
  rw [encR_yes h]
  show _ ≤ (encE _ _ _ _ _ _ _ _).toArray.size
  rw [List.size_toArray]
  rcases may_kinds hs h with ⟨T, I, K, N, rfl, rfl, rfl, rfl, rfl, rfl, rfl⟩ | ⟨T, I, S, rfl, rfl, rfl, rfl, rfl, rfl, rfl, rfl⟩ | ⟨T, I, rfl, rfl, rfl, rfl, rfl, rfl, rfl, rfl⟩
  · rw [encE_length (Int.toNat 1) _ _ _ _ _ _ _ (.inl rfl) (fun h => absurd rfl h)]; exact Nat.le_add_right _ _
  · rw [encE_length (Int.toNat 2) _ _ _ _ _ _ _ (.inr (.inl rfl)) (fun _ => rfl)]; exact Nat.le_add_right _ _
  · rw [encE_length (Int.toNat 3) _ _ _ _ _ _ _ (.inr (.inr rfl)) (fun _ => rfl)]; exact Nat.le_add_right _ _
/-- what is written is decoded -/
theorem dec_enc {kd tx ix pk pn : Int} {b : ByteArray} {ct sm : Int} (hs : 0 ≤ sm) (hs2 : sm < 4294967296) (h : mayE kd tx ix pk pn b ct sm) (V : World) (hV : Lst V) :
    Calls Tryz.prog 101 #[.string (encR kd tx ix pk pn b ct sm).1] V fun e w' => e = .returned (.tuple #[.agg (entC kd tx ix pk pn b ct sm), .int .i64 0]) ∧ Below V.heap.size V w' := by
  have hr := rd_enc hs hs2 h
  have hz := encR_size hs h
  have hl := enc_size hs h
  have h0 : 0 < (encR kd tx ix pk pn b ct sm).1.size := by omega
  have hk : kd.toNat = (encR kd tx ix pk pn b ct sm).1[0].toNat := by
    rw [← first_at _ h0]
    have := hr.2.2.1
    omega
  refine decode_ok _ kd tx ix pk pn b ct sm V (by omega) hr (fun X hX => ?_) hV rfl
  have h2 := cut_pos _ h0 X hX
  rw [← hk, decide_eq_false (by omega)] at h2
  exact h2
end Go.Proofs.YtgihpdhkjneimaaGreatDoor.En

/- Open of page: what it returns, whatever it is called with. -/
namespace Go.Proofs.YtgihpdhkjneimaaGreatDoor.Pg
open Go.RowKit
open Go.Lib (hid)
open Go.Proofs.YtgihpdhkjneimaaGreatDoor.Fd (Area Row Upd rowOf be be_length be_at beB num getAt putAt on_below on_upd)
open Go.Proofs.YtgihpdhkjneimaaGreatDoor.Sm (U B32 sumB U_lo U_hi)

theorem bcell {W w1 : World} (hb : Below W.heap.size W w1) : (∀ b o, b < W.heap.size → w1.cell? ⟨b, o, none⟩ = W.cell? ⟨b, o, none⟩) ∧ (∀ b o, b < W.heap.size → w1.frozen? ⟨b, o, none⟩ = W.frozen? ⟨b, o, none⟩) :=
  ⟨fun b o h => hb.cell (p := ⟨b, o, none⟩) h, fun b o h => hb.frozen (p := ⟨b, o, none⟩) h⟩
theorem quiet_eq {f : FuncId} {args : Array Value} {w : World} {n : Nat} {v : Value} (h : Calls Tryz.prog f args (w.drewN n) fun e w' => e = .returned v ∧ w.drewN n = w') :
    Calls Tryz.prog f args (w.drewN n) fun e w'' => e = .returned v ∧ ∃ m, w'' = w.drewN m := h.mono fun _ _ ⟨he, hm⟩ => ⟨he, n, hm.symm⟩

/-- a page as a value, and an error -/
def pageV (k n : Nat) (b : List UInt8) (e : Nat) : Value := .tuple #[.agg #[.int .i64 k, .int .i64 n, .string ⟨b.toArray⟩], .int .i64 e]

set_option maxHeartbeats 400000 in
theorem open_cut (s : ByteArray) (w : World) (h : s.size ≠ 256) :
    Calls Tryz.prog 133 #[.string s] w fun e w' => e = .returned (.tuple #[.agg #[.int .i64 0, .int .i64 0, .string ⟨#[]⟩], .int .i64 9]) ∧ Below w.heap.size w w' := by
  have e1 : ((s.size : Int) != 256) = true := by simp; omega
  have H := hid h; clear h
  go_enter Tryz.func133, Tryz.ntmps133
  go_wp2_with fail
  refine bodyPost_ret (v := .tuple #[.agg #[.int .i64 0, .int .i64 0, .string ⟨#[]⟩], .int .i64 9]) (by simp [results, Tryz.results133, go_sem]) rfl ⟨rfl, ?_⟩
  exact (Below.refl _ _).alloc (Nat.le_refl _) _

theorem str_yes (a : ByteArray) (l : List UInt8) (h : a.data.toList = l) : (a.toList == l) = true := by
  rw [ByteArray.toList_eq]; simpa using h
theorem str_not (a : ByteArray) (l : List UInt8) (h : a.data.toList ≠ l) : (a.toList == l) = false := by
  rw [ByteArray.toList_eq]; simpa using h

/-- where the result's block stands, and what it holds -/
theorem res_made (w : World) (x : Array Value) : (w.alloc (.cells x 69)).heap[w.heap.size]? = some (.cells x 69 (0, 0)) := heap_alloc_new _ _

set_option maxHeartbeats 400000 in
theorem open_blank (s : ByteArray) (w : World) (h : s.size = 256) (hb : s.data.toList = blankL) :
    Calls Tryz.prog 133 #[.string s] w fun e w' => e = .returned (.tuple #[.agg #[.int .i64 0, .int .i64 0, .string ⟨#[]⟩], .int .i64 0]) ∧ Below w.heap.size w w' := by
  have e1 : ((s.size : Int) != 256) = false := by simp; omega
  have e2 := str_yes s blankL hb
  have H := hid (And.intro h hb); clear h hb
  go_enter Tryz.func133, Tryz.ntmps133
  go_wp2_with (go_at_call 33; refine (blank_any _).mono ?_; rintro e w1 ⟨rfl, hb⟩; obtain ⟨hc, hf⟩ := bcell hb; have hz := hb.size; simp at hz; have HB := hid hb; clear hb)
  refine bodyPost_ret (v := .tuple #[.agg #[.int .i64 0, .int .i64 0, .string ⟨#[]⟩], .int .i64 0]) (by simp [results, Tryz.results133, go_sem, hc]) rfl ⟨rfl, ?_⟩
  exact (((((Below.refl w.heap.size w).alloc (Nat.le_refl _) _).trans (HB.out.mono (by simp))).setCell (Nat.le_refl _) _).setCell (Nat.le_refl _) _).setCell (Nat.le_refl _) _

theorem below_drewN {w wr : World} {N : Nat} (h : Below N w wr) (n : Nat) : Below N w (wr.drewN n) := ⟨h.os, h.tape, h.output, h.size, h.block⟩
/-- what Open has laid: its result's block, its area, the variable that leads to that -/
structure Got (w : World) (C A B : Nat) (l : List UInt8) (wr : World) : Prop where
  below : Below w.heap.size w wr
  area : Area 178 wr A B l
  var : wr.cell? ⟨C, 0, none⟩ = some (.pointer (some ⟨A, 0, none⟩))
  ltc : C < wr.heap.size
  row : wr.heap[w.heap.size]? = some (.cells #[.int .i64 0, .int .i64 0, .string ⟨#[]⟩] 69 (0, 0))
theorem Got.lt {w wr : World} {C A B : Nat} {l : List UInt8} (h : Got w C A B l wr) : w.heap.size < wr.heap.size := (Array.getElem?_eq_some_iff.1 h.row).1
theorem Got.on {w wr w' : World} {C A B : Nat} {l : List UInt8} (h : Got w C A B l wr) (hb : Below wr.heap.size wr w') : Got w C A B l w' :=
  ⟨(on_below (hid h.below) hb).out, h.area.below hb, by rw [hb.cell (p := ⟨C, 0, none⟩) h.ltc]; exact h.var, Nat.lt_of_lt_of_le h.ltc hb.size, by rw [hb.block _ h.lt]; exact h.row⟩
theorem Got.drewN {w wr : World} {C A B : Nat} {l : List UInt8} (h : Got w C A B l wr) (n : Nat) : Got w C A B l (wr.drewN n) :=
  ⟨below_drewN h.below n, ⟨h.area.ptr, h.area.row, h.area.ne, h.area.len⟩, h.var, h.ltc, h.row⟩
theorem Got.cells {w wr : World} {C A B : Nat} {l : List UInt8} (h : Got w C A B l wr) :
    wr.cell? ⟨w.heap.size, 0, none⟩ = some (.int .i64 0) ∧ wr.cell? ⟨w.heap.size, 1, none⟩ = some (.int .i64 0) ∧ wr.cell? ⟨w.heap.size, 2, none⟩ = some (.string ⟨#[]⟩) := by
  refine ⟨?_, ?_, ?_⟩ <;> rw [cell_of_row _ _ _ _ _ _ h.row] <;> rfl
theorem Got.free {w wr : World} {C A B : Nat} {l : List UInt8} (h : Got w C A B l wr) (i : Nat) : wr.frozen? ⟨w.heap.size, i, none⟩ = false := frozen_of_row _ _ _ _ _ h.row
theorem Got.made {w w1 w2 : World} {l : List UInt8} (h1 : Below (w.alloc (.cells #[.int .i64 0, .int .i64 0, .string ⟨#[]⟩] 69)).heap.size (w.alloc (.cells #[.int .i64 0, .int .i64 0, .string ⟨#[]⟩] 69)) w1)
    (h2 : Below w1.heap.size w1 w2) (ha : Area 178 w2 (w1.heap.size + 1) w1.heap.size l) :
    Got w w2.heap.size (w1.heap.size + 1) w1.heap.size l (w2.alloc (.cells #[.pointer (some ⟨w1.heap.size + 1, 0, none⟩)] 165)) := by
  have hb0 : Below w.heap.size w (w.alloc (.cells #[.int .i64 0, .int .i64 0, .string ⟨#[]⟩] 69)) := (Below.refl _ _).alloc (Nat.le_refl _) _
  have hb1 := (on_below (on_below (hid hb0) h1) h2).out
  have h3 : Below w2.heap.size w2 (w2.alloc (.cells #[.pointer (some ⟨w1.heap.size + 1, 0, none⟩)] 165)) := (Below.refl _ _).alloc (Nat.le_refl _) _
  have s1 := h1.size
  simp at s1
  have s2 := h2.size
  refine ⟨(on_below (hid hb1) h3).out, ha.below h3, by rw [cell_of_row _ _ _ _ _ _ (heap_alloc_new _ _)]; rfl, by simp, ?_⟩
  rw [h3.block _ (by omega), h2.block _ (by omega), h1.block _ (by simp)]
  exact heap_alloc_new _ _

set_option maxHeartbeats 400000 in
theorem got_any (C A B : Nat) (l : List UInt8) (o wd : Nat) (w : World) (hc : w.cell? ⟨C, 0, none⟩ = some (.pointer (some ⟨A, 0, none⟩))) (ha : Area 178 w A B l) (hw : wd = 1 ∨ wd = 2 ∨ wd = 4) (h : o + wd ≤ l.length) :
    Calls Tryz.prog 146 #[.int .i64 (o : Int), .int .i64 (wd : Int), .pointer (some ⟨C, 0, none⟩)] w fun e w' => e = .returned (.int .u32 (num (getAt l o wd) : Int)) ∧ w = w' := by
  have HW := hid hw; clear hw
  go_enter Tryz.func146, Tryz.ntmps146
  go_wp2_with (go_at_call 147; refine (Fd.get_ok A B l o wd _ ha HW.out h).mono ?_; rintro e w' ⟨rfl, rfl⟩)
  go_ret
  exact ⟨rfl, rfl⟩

/-- a number that stands at a place, by a name -/
theorem got_252 {w wr : World} {C A B : Nat} {l : List UInt8} {x : Nat} (h : Got w C A B l wr) (hl : l.length = 256) (hx : num (getAt l 252 4) = x) :
    Calls Tryz.prog 146 #[.int .i64 252, .int .i64 4, .pointer (some ⟨C, 0, none⟩)] wr fun e w' => e = .returned (.int .u32 (x : Int)) ∧ wr = w' := by
  subst hx; exact got_any C A B l 252 4 wr h.var h.area (by omega) (by omega)
theorem got_2 {w wr : World} {C A B : Nat} {l : List UInt8} {x : Nat} (h : Got w C A B l wr) (hl : l.length = 256) (hx : num (getAt l 2 2) = x) :
    Calls Tryz.prog 146 #[.int .i64 2, .int .i64 2, .pointer (some ⟨C, 0, none⟩)] wr fun e w' => e = .returned (.int .u32 (x : Int)) ∧ wr = w' := by
  subst hx; exact got_any C A B l 2 2 wr h.var h.area (by omega) (by omega)
theorem got_0 {w wr : World} {C A B : Nat} {l : List UInt8} {x : Nat} (h : Got w C A B l wr) (hl : l.length = 256) (hx : num (getAt l 0 1) = x) :
    Calls Tryz.prog 146 #[.int .i64 0, .int .i64 1, .pointer (some ⟨C, 0, none⟩)] wr fun e w' => e = .returned (.int .u32 (x : Int)) ∧ wr = w' := by
  subst hx; exact got_any C A B l 0 1 wr h.var h.area (by omega) (by omega)
theorem got_4 {w wr : World} {C A B : Nat} {l : List UInt8} {x : Nat} (h : Got w C A B l wr) (hl : l.length = 256) (hx : num (getAt l 4 4) = x) :
    Calls Tryz.prog 146 #[.int .i64 4, .int .i64 4, .pointer (some ⟨C, 0, none⟩)] wr fun e w' => e = .returned (.int .u32 (x : Int)) ∧ wr = w' := by
  subst hx; exact got_any C A B l 4 4 wr h.var h.area (by omega) (by omega)
theorem lowest_nat {x y : Nat} (w : World) (hx : x < 4294967296) (hy : rev32 x = y) :
    Calls Tryz.prog 120 #[.int .u32 (x : Int)] w fun e w' => e = .returned (.int .u32 (y : Int)) ∧ w = w' := by
  have h1 := lowest_any (BitVec.ofNat 32 x) w
  have h2 : (BitVec.ofNat 32 x).toNat = x := by rw [BitVec.toNat_ofNat]; omega
  have h3 : U (BitVec.ofNat 32 x) = (x : Int) := by unfold U; rw [h2]
  rw [h3, h2, hy] at h1
  exact h1
theorem sum_nat {s : ByteArray} {z : Nat} (w : World) (hz : sumN (s.data.toList.take 252) = z) :
    Calls Tryz.prog 121 #[.string (s.extract 0 252)] w fun e w' => e = .returned (.int .u32 (z : Int)) ∧ w = w' := by
  subst hz
  have := sum_of (s.extract 0 252) (s.data.toList.take 252) w (by rw [ByteArray.data_extract]; simp) (by rw [List.length_take]; omega)
  exact this
theorem get_drop (l : List UInt8) (h : l.length = 256) : getAt l 252 4 = l.drop 252 := by
  unfold Fd.getAt; rw [List.take_of_length_le (by rw [List.length_drop]; omega)]

set_option maxHeartbeats 400000 in
theorem open_sum (s : ByteArray) (w : World) (h : s.size = 256) (hb : s.data.toList ≠ blankL) (hs : lowL (sumN (s.data.toList.take 252)) ≠ s.data.toList.drop 252) :
    Calls Tryz.prog 133 #[.string s] w fun e w' => e = .returned (.tuple #[.agg #[.int .i64 0, .int .i64 0, .string ⟨#[]⟩], .int .i64 7]) ∧ Below w.heap.size w w' := by
  have e1 : ((s.size : Int) != 256) = false := by simp; omega
  have e2 := str_not s blankL hb
  have h252 : (252 : Int) ≤ (s.size : Int) := by omega
  have hl : s.data.toList.length = 256 := by simp [h]
  obtain ⟨x, hx⟩ : ∃ x, num (getAt s.data.toList 252 4) = x := ⟨_, rfl⟩
  obtain ⟨y, hy⟩ : ∃ y, rev32 x = y := ⟨_, rfl⟩
  obtain ⟨z, hz⟩ : ∃ z, sumN (s.data.toList.take 252) = z := ⟨_, rfl⟩
  have hxl : x < 4294967296 := by
    rw [← hx]; have := Fd.num_lt (getAt s.data.toList 252 4); rwa [Fd.getAt_length _ _ _ (by omega)] at this
  have hne : y ≠ z := by
    intro e
    apply hs
    rw [← get_drop _ hl, hz]
    refine (rev32_back _ (Fd.getAt_length _ _ _ (by omega)) z (by rw [← hz]; exact sumN_lt _)).1 ?_
    rw [hx, hy, e]
  have e3 : ((y : Int) != (z : Int)) = true := by simp; omega
  have e4 : (y != z) = true := by simp; omega
  have HX := hid hx; have HY := hid hy; have HZ := hid hz; have HL := hid hl; have HXL := hid hxl
  have H := hid (And.intro h (And.intro hb hs)); clear h hb hs hx hy hz hl hxl hne
  go_enter Tryz.func133, Tryz.ntmps133
  go_wp2_with (first
    | (go_at_call 33; refine (blank_any _).mono ?_; rintro e w1 ⟨rfl, hb⟩; have HB := hid hb; clear hb)
    | (go_at_call 131; refine (Fd.of_ok s _ (by have := H.out.1; omega)).mono ?_; rintro e w2 ⟨rfl, ha, hb⟩; have HG := hid (Got.made HB.out hb ha); clear ha hb))
  generalize (w2.alloc (.cells #[.pointer (some ⟨w1.heap.size + 1, 0, none⟩)] 165)) = w3 at HG ⊢
  generalize w2.heap.size = C at HG ⊢
  generalize w1.heap.size = B at HG ⊢
  go_quiet ((first
    | (go_at_call 146; exact quiet_eq (got_252 (HG.out.drewN _) HL.out HX.out))
    | (go_at_call 120; exact quiet_eq (lowest_nat _ HXL.out HY.out))
    | (go_at_call 121; exact quiet_eq (sum_nat _ HZ.out))))
  have HG2 := hid (HG.out.drewN nq)
  have c := HG2.out.cells
  have f := HG2.out.free
  go_wp2_with fail
  refine bodyPost_ret (v := .tuple #[.agg #[.int .i64 0, .int .i64 0, .string ⟨#[]⟩], .int .i64 7]) (by simp [results, Tryz.results133, go_sem, c]) rfl ⟨rfl, ?_⟩
  exact ((HG2.out.below.setCell (Nat.le_refl _) _).setCell (Nat.le_refl _) _).setCell (Nat.le_refl _) _

/-- the body that is read: none, if it would end behind the page -/
def bodyL (l : List UInt8) (m : Nat) : List UInt8 := if 8 + m ≤ 256 then getAt l 8 m else []
def bodyE (m : Nat) : Int := if 8 + m ≤ 256 then 0 else 1
theorem body_len (l : List UInt8) (m : Nat) (hl : l.length = 256) : (bodyL l m).length ≤ 256 := by
  unfold bodyL; split
  · rw [Fd.getAt_length _ _ _ (by omega)]; omega
  · simp
/-- what Seal makes, or nothing -/
def sealX (k n : Nat) (b : List UInt8) : List UInt8 := if mayP k n b.length then sealL k n b else []
def sealE (k n : Nat) (b : List UInt8) : Int := if mayP k n b.length then 0 else 1
theorem seal_any (k n : Nat) (b : List UInt8) (w : World) :
    Calls Tryz.prog 77 #[.agg #[.int .i64 k, .int .i64 n, .string ⟨b.toArray⟩]] w fun e w' => e = .returned (.tuple #[.string ⟨(sealX k n b).toArray⟩, .int .i64 (sealE k n b)]) ∧ Below w.heap.size w w' := by
  have hsz : (⟨b.toArray⟩ : ByteArray).size = b.length := by show b.toArray.size = _; simp
  by_cases h : mayP k n b.length
  · have := seal_yes k n ⟨b.toArray⟩ w (by rw [hsz]; exact h)
    unfold sealX sealE; rw [if_pos h, if_pos h]; exact this
  · have := seal_no k n ⟨b.toArray⟩ w (by rw [hsz]; exact h)
    unfold sealX sealE; rw [if_neg h, if_neg h]; exact this
theorem seal_at {k n : Nat} {b r : List UInt8} {F : Int} (w : World) (hr : sealX k n b = r) (hF : sealE k n b = F) :
    Calls Tryz.prog 77 #[.agg #[.int .i64 k, .int .i64 n, .string ⟨b.toArray⟩]] w fun e w' => e = .returned (.tuple #[.string ⟨r.toArray⟩, .int .i64 F]) ∧ Below w.heap.size w w' := by
  subst hr hF; exact seal_any k n b w
/-- what Open has laid ahead of its last test -/
structure Last (w : World) (C A B D : Nat) (l : List UInt8) (k n : Nat) (b : List UInt8) (wr : World) : Prop where
  got : Got w C A B l wr
  box : Box wr D k n ⟨b.toArray⟩
theorem Last.made {w w4 w6 : World} {C A B : Nat} {l : List UInt8} {k n : Nat} {b : List UInt8} (h : Got w C A B l w4)
    (hb : Below (w4.alloc (.cells #[.int .i64 k, .int .i64 n, .string ⟨b.toArray⟩] 69)).heap.size (w4.alloc (.cells #[.int .i64 k, .int .i64 n, .string ⟨b.toArray⟩] 69)) w6) : Last w C A B w4.heap.size l k n b w6 :=
  ⟨(h.on ((Below.refl _ _).alloc (Nat.le_refl _) _)).on hb, (Box.made w4 k n _).below hb⟩
theorem text_any {w wr : World} {C A B : Nat} {l : List UInt8} {b : List UInt8} {m : Nat} {E : Int} (h : Got w C A B l wr) (hl : l.length = 256) (hm : m < 65536) (hb : bodyL l m = b) (hE : bodyE m = E) :
    Calls Tryz.prog 148 #[.pointer (some ⟨A, 0, none⟩), .int .i64 8, .int .i64 (m : Int)] wr fun e w' => e = .returned (.tuple #[.string ⟨b.toArray⟩, .int .i64 E]) ∧ wr = w' := by
  subst hb hE
  unfold bodyL bodyE
  by_cases h8 : 8 + m ≤ 256
  · rw [if_pos h8, if_pos h8]
    exact Fd.getText_ok A B l 8 m wr h.area (by omega)
  · rw [if_neg h8, if_neg h8]
    refine Fd.getText_bad _ 8 m wr (Fd.cut_no A B l 8 m wr h.area (by unfold Fd.isRange; omega) (by omega) (by omega))

theorem openL_form (l : List UInt8) (hl : l.length = 256) (hb : l ≠ blankL) (hs : lowL (sumN (l.take 252)) = l.drop 252) :
    openL l = if sealX (num (getAt l 0 1)) (num (getAt l 4 4)) (bodyL l (num (getAt l 2 2))) = l then (num (getAt l 0 1), num (getAt l 4 4), bodyL l (num (getAt l 2 2)), 0) else (0, 0, [], 6) := by
  unfold openL
  rw [if_neg (by omega), if_neg hb, if_neg (by simpa using hs)]
  have hm : num (getAt l 2 2) = num (getAt l 2 2) := rfl
  generalize num (getAt l 0 1) = k
  generalize num (getAt l 4 4) = n
  by_cases h8 : 8 + num (getAt l 2 2) ≤ 256
  · have e : bodyL l (num (getAt l 2 2)) = getAt l 8 (num (getAt l 2 2)) := by unfold bodyL; rw [if_pos h8]
    have el : (getAt l 8 (num (getAt l 2 2))).length = num (getAt l 2 2) := Fd.getAt_length _ _ _ (by omega)
    rw [e]
    unfold sealX
    rw [el]
    by_cases hp : mayP k n (num (getAt l 2 2))
    · rw [if_pos hp]; simp only [hp, true_and]
    · rw [if_neg hp, if_neg (fun h => hp h.1), if_neg (fun h => by rw [← h] at hl; cases hl)]
  · rw [if_neg (fun h => by have := h.1.2.2.2.2; omega), if_neg]
    intro h
    have e : bodyL l (num (getAt l 2 2)) = [] := by unfold bodyL; rw [if_neg h8]
    rw [e] at h
    unfold sealX at h
    by_cases hp : mayP k n ([] : List UInt8).length
    · rw [if_pos hp] at h
      have := seal_size k n [] (by simp)
      rw [h] at this
      simp at this
      omega
    · rw [if_neg hp] at h; rw [← h] at hl; cases hl

set_option maxRecDepth 100000 in
set_option maxHeartbeats 800000 in
theorem open_rest (s : ByteArray) (w : World) (h : s.size = 256) (hb : s.data.toList ≠ blankL) (hs : lowL (sumN (s.data.toList.take 252)) = s.data.toList.drop 252)
    (k n m : Nat) (b r : List UInt8) (E F : Int) (hk : num (getAt s.data.toList 0 1) = k) (hn : num (getAt s.data.toList 4 4) = n) (hm : num (getAt s.data.toList 2 2) = m) (hbd : bodyL s.data.toList m = b) (hE : bodyE m = E) (hr : sealX k n b = r) (hF : sealE k n b = F) :
    Calls Tryz.prog 133 #[.string s] w fun e w' => e = .returned (if r = s.data.toList then .tuple #[.agg #[.int .i64 k, .int .i64 n, .string ⟨b.toArray⟩], .int .i64 0] else .tuple #[.agg #[.int .i64 0, .int .i64 0, .string ⟨#[]⟩], .int .i64 6]) ∧ Below w.heap.size w w' := by
  have e1 : ((s.size : Int) != 256) = false := by simp; omega
  have e2 := str_not s blankL hb
  have h252 : (252 : Int) ≤ (s.size : Int) := by omega
  have hl : s.data.toList.length = 256 := by simp [h]
  obtain ⟨x, hx⟩ : ∃ x, num (getAt s.data.toList 252 4) = x := ⟨_, rfl⟩
  obtain ⟨z, hz⟩ : ∃ z, sumN (s.data.toList.take 252) = z := ⟨_, rfl⟩
  have hxl : x < 4294967296 := by
    rw [← hx]; have := Fd.num_lt (getAt s.data.toList 252 4); rwa [Fd.getAt_length _ _ _ (by omega)] at this
  have hyz : rev32 x = z := by
    rw [← hx]
    refine (rev32_back _ (Fd.getAt_length _ _ _ (by omega)) z (by rw [← hz]; exact sumN_lt _)).2 ?_
    rw [← hz, hs, get_drop _ hl]
  have hk1 : k < 256 := by rw [← hk]; have := Fd.num_lt (getAt s.data.toList 0 1); rwa [Fd.getAt_length _ _ _ (by omega)] at this
  have hn1 : n < 4294967296 := by rw [← hn]; have := Fd.num_lt (getAt s.data.toList 4 4); rwa [Fd.getAt_length _ _ _ (by omega)] at this
  have hm1 : m < 65536 := by rw [← hm]; have := Fd.num_lt (getAt s.data.toList 2 2); rwa [Fd.getAt_length _ _ _ (by omega)] at this
  have e3 : ((z : Int) != (z : Int)) = false := by simp
  have HX := hid hx; have HY := hid hyz; have HZ := hid hz; have HL := hid hl; have HXL := hid hxl; have HK := hid hk; have HN := hid hn; have HM := hid hm; have HBD := hid hbd; have HE := hid hE; have HR := hid hr; have HF := hid hF
  have H := hid (And.intro h (And.intro hb hs)); clear h hb hs hx hyz hz hl hxl hk hn hm hbd hE hr hF
  by_cases hq : r = s.data.toList
  · have e5 : (r == s.toList) = true := by rw [ByteArray.toList_eq]; simpa using hq
    rw [if_pos hq]
    have HQ := hid hq; clear hq
    go_enter Tryz.func133, Tryz.ntmps133
    go_wp2_with (first
      | (go_at_call 33; refine (blank_any _).mono ?_; rintro e w1 ⟨rfl, hb⟩; have HB := hid hb; clear hb)
      | (go_at_call 131; refine (Fd.of_ok s _ (by have := H.out.1; omega)).mono ?_; rintro e w2 ⟨rfl, ha, hb⟩; have HG := hid (Got.made HB.out hb ha); clear ha hb))
    generalize (w2.alloc (.cells #[.pointer (some ⟨w1.heap.size + 1, 0, none⟩)] 165)) = w3 at HG ⊢
    generalize w2.heap.size = C at HG ⊢
    generalize w1.heap.size = B at HG ⊢
    go_quiet ((first
      | (go_at_call 146; exact quiet_eq (got_252 (HG.out.drewN _) HL.out HX.out))
      | (go_at_call 120; exact quiet_eq (lowest_nat _ HXL.out HY.out))
      | (go_at_call 121; exact quiet_eq (sum_nat _ HZ.out))))
    replace HG := hid (HG.out.drewN nq)
    generalize w3.drewN nq = w4 at HG ⊢
    have cv := HG.out.var
    go_wp2_with fail
    go_quiet ((first
      | (go_at_call 146; exact quiet_eq (got_2 (HG.out.drewN _) HL.out HM.out))
      | (go_at_call 148; exact quiet_eq (text_any (HG.out.drewN _) HL.out hm1 HBD.out HE.out))))
    replace HG := hid (HG.out.drewN nq)
    clear cv
    generalize w4.drewN nq = w5 at HG ⊢
    go_wp2_with (first
      | (go_at_call 146; (first | (with_reducible refine (got_0 HG.out HL.out HK.out).mono ?_) | (with_reducible refine (got_4 HG.out HL.out HN.out).mono ?_)); rintro e w' ⟨rfl, rfl⟩)
      | (go_at_call 77; refine (seal_at _ HR.out HF.out).mono ?_; rintro e w6 ⟨rfl, hb⟩; have HT := hid (Last.made HG.out hb); clear hb; have c := HT.out.got.cells; have f := HT.out.got.free; have d0 := HT.out.box.c0; have d1 := HT.out.box.c1; have d2 := HT.out.box.c2))
    refine bodyPost_ret (v := .tuple #[.agg #[.int .i64 k, .int .i64 n, .string ⟨b.toArray⟩], .int .i64 0]) (by simp [results, Tryz.results133, go_sem, c]) rfl ⟨rfl, ?_⟩
    exact ((HT.out.got.below.setCell (Nat.le_refl _) _).setCell (Nat.le_refl _) _).setCell (Nat.le_refl _) _
  · have e5 : (r == s.toList) = false := by rw [ByteArray.toList_eq]; simpa using hq
    rw [if_neg hq]
    have HQ := hid hq; clear hq
    go_enter Tryz.func133, Tryz.ntmps133
    go_wp2_with (first
      | (go_at_call 33; refine (blank_any _).mono ?_; rintro e w1 ⟨rfl, hb⟩; have HB := hid hb; clear hb)
      | (go_at_call 131; refine (Fd.of_ok s _ (by have := H.out.1; omega)).mono ?_; rintro e w2 ⟨rfl, ha, hb⟩; have HG := hid (Got.made HB.out hb ha); clear ha hb))
    generalize (w2.alloc (.cells #[.pointer (some ⟨w1.heap.size + 1, 0, none⟩)] 165)) = w3 at HG ⊢
    generalize w2.heap.size = C at HG ⊢
    generalize w1.heap.size = B at HG ⊢
    go_quiet ((first
      | (go_at_call 146; exact quiet_eq (got_252 (HG.out.drewN _) HL.out HX.out))
      | (go_at_call 120; exact quiet_eq (lowest_nat _ HXL.out HY.out))
      | (go_at_call 121; exact quiet_eq (sum_nat _ HZ.out))))
    replace HG := hid (HG.out.drewN nq)
    generalize w3.drewN nq = w4 at HG ⊢
    have cv := HG.out.var
    go_wp2_with fail
    go_quiet ((first
      | (go_at_call 146; exact quiet_eq (got_2 (HG.out.drewN _) HL.out HM.out))
      | (go_at_call 148; exact quiet_eq (text_any (HG.out.drewN _) HL.out hm1 HBD.out HE.out))))
    replace HG := hid (HG.out.drewN nq)
    clear cv
    generalize w4.drewN nq = w5 at HG ⊢
    go_wp2_with (first
      | (go_at_call 146; (first | (with_reducible refine (got_0 HG.out HL.out HK.out).mono ?_) | (with_reducible refine (got_4 HG.out HL.out HN.out).mono ?_)); rintro e w' ⟨rfl, rfl⟩)
      | (go_at_call 77; refine (seal_at _ HR.out HF.out).mono ?_; rintro e w6 ⟨rfl, hb⟩; have HT := hid (Last.made HG.out hb); clear hb; have c := HT.out.got.cells; have f := HT.out.got.free; have d0 := HT.out.box.c0; have d1 := HT.out.box.c1; have d2 := HT.out.box.c2))
    refine bodyPost_ret (v := .tuple #[.agg #[.int .i64 0, .int .i64 0, .string ⟨#[]⟩], .int .i64 6]) (by simp [results, Tryz.results133, go_sem, c]) rfl ⟨rfl, ?_⟩
    exact ((HT.out.got.below.setCell (Nat.le_refl _) _).setCell (Nat.le_refl _) _).setCell (Nat.le_refl _) _
end Go.Proofs.YtgihpdhkjneimaaGreatDoor.Pg
