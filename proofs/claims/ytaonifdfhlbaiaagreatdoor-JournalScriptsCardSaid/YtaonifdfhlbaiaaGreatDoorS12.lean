/- Merged out of EnSum, EnLive, EnEq, EnPl, EnDcA, PgLow, PgSeal. -/
import Derived.Test.YtaonifdfhlbaiaaGreatDoorS11
import Derived.Test.YtaonifdfhlbaiaaGreatDoorS01
import Derived.Test.YtaonifdfhlbaiaaGreatDoorS03
/- Sum of entry over a list of pages. -/
namespace Go.Proofs.YtaonifdfhlbaiaaGreatDoor.En
open Go.RowKit
open Go.Lib (hid)
open Go.Proofs.YtaonifdfhlbaiaaGreatDoor.Fd (be be_length num getAt)
open Go.Proofs.YtaonifdfhlbaiaaGreatDoor.Sm (U sumB sum_any refSum_any)

/-- a page: its kind, its number, its body -/
abbrev PageT := Int × Int × ByteArray
/-- pages in memory -/
def Pgs (w : World) (p : Option Addr) (L : List PageT) : Prop :=
  ∀ i (h : i < L.length), ∃ b off, p = some ⟨b, off, none⟩ ∧ b < w.heap.size ∧ w.cell? ⟨b, off + i * 3, none⟩ = some (.int .i64 L[i].1) ∧ w.cell? ⟨b, off + i * 3 + 1, none⟩ = some (.int .i64 L[i].2.1) ∧ w.cell? ⟨b, off + i * 3 + 2, none⟩ = some (.string L[i].2.2)
theorem Pgs.below {w w' : World} {p : Option Addr} {L : List PageT} (h : Pgs w p L) (hb : Below w.heap.size w w') : Pgs w' p L := by
  intro i hi
  obtain ⟨b, off, e, hl, h1, h2, h3⟩ := h i hi
  exact ⟨b, off, e, Nat.lt_of_lt_of_le hl hb.size, (hb.cell (p := ⟨b, _, none⟩) hl).trans h1, (hb.cell (p := ⟨b, _, none⟩) hl).trans h2, (hb.cell (p := ⟨b, _, none⟩) hl).trans h3⟩
/-- the text of the page that stands at i -/
noncomputable def encT (i : Nat) (p : PageT) : ByteArray := (encR 1 1 i p.1 p.2.1 p.2.2 0 0).1
/-- the texts of the first k pages -/
noncomputable def textS (L : List PageT) (k : Nat) : List UInt8 := (L.zipIdx.take k).flatMap fun x => (encT x.2 x.1).data.toList
theorem textS_next (L : List PageT) (k : Nat) (h : k < L.length) : textS L (k + 1) = textS L k ++ (encT k L[k]).data.toList := by
  unfold textS
  rw [List.take_succ_eq_append_getElem (by simpa using h)]
  simp
theorem encT_size (i : Nat) (p : PageT) : (encT i p).size ≤ 244 := by
  unfold encT
  by_cases h : mayE 1 1 i p.1 p.2.1 p.2.2 0 0
  · exact (encR_size (by decide) h).2
  · rw [encR_no h]; decide
theorem textS_length (L : List PageT) (k : Nat) : (textS L k).length ≤ 244 * k := by
  induction k with
  | zero => simp [textS]
  | succ k ih =>
    by_cases h : k < L.length
    · have h2 := encT_size k L[k]
      have h3 := Fd.size_list (encT k L[k])
      rw [textS_next L k h, List.length_append]; omega
    · have : textS L (k + 1) = textS L k := by
        unfold textS
        rw [List.take_of_length_le (by simp; omega), List.take_of_length_le (by simp; omega)]
      rw [this]; omega
theorem row_keep {w w' : World} {base e size n : Nat} {v : Value} {xs : List Value} (h : w.ownsRow base e size v n xs) (hk : ∀ g, v.ownBlock = some g → w'.heap[g]? = w.heap[g]?) : w'.ownsRow base e size v n xs := by
  refine ⟨h.1, ?_⟩
  rcases h.2 with hn | ⟨g, cap, cur, hv, hb0, hg, rest⟩
  · exact .inl hn
  · exact .inr ⟨g, cap, cur, hv, hb0, by rw [hk g (by rw [hv]; rfl)]; exact hg, rest⟩
theorem bld_next {T e : TypeId} {B b : Nat} {bs : List Value} {w w' : World} (h : Lib.IsBuilder T e B b bs w) (hb : Below w.heap.size w w') : Lib.IsBuilder T e B b bs w' := by
  have k : ∀ p, Lib.BuilderAt T e B b p bs w → Lib.BuilderAt T e B b p bs w' := by
    rintro p ⟨h1, v, h2, h3, h4⟩
    refine ⟨h1, v, (hb.block _ (Array.getElem?_eq_some_iff.1 h2).1).trans h2, row_keep h3 fun g hg => hb.block _ ?_, h4⟩
    rcases h3.2 with ⟨rfl, _⟩ | ⟨g', cap, cur, rfl, _, hg', _⟩
    · simp [Value.ownBlock] at hg
    · simp [Value.ownBlock] at hg; subst hg; exact (Array.getElem?_eq_some_iff.1 hg').1
  exact h.imp (k _) (k _)
theorem bld_new (w : World) (T e : TypeId) : Lib.IsBuilder T e w.heap.size w.heap.size [] (w.alloc (.cells #[.pointer none, .slice none 0 0] T)) := by
  refine .inl ⟨Nat.le_refl _, .slice none 0 0, heap_alloc_new _ _, ?_, by simp [Value.ownBlock]⟩
  exact ⟨rfl, .inl ⟨rfl, rfl⟩⟩
set_option maxRecDepth 100000 in
set_option maxHeartbeats 4000000 in
theorem sum_ok (L : List PageT) (p : Option Addr) (c : Nat) (w : World) (hL : Lst w) (hp : Pgs w p L) (hl : L.length ≤ 1000) :
    Calls Tryz.prog 58 #[.slice p L.length c] w fun e w' => e = .returned (.int .u32 (U (sumB (textS L L.length)))) ∧ Below w.heap.size w w' := by
  obtain ⟨n, hn⟩ : ∃ n, L.length = n := ⟨_, rfl⟩
  obtain ⟨W, hW⟩ : ∃ W, w.alloc (.cells #[.pointer none, .slice none 0 0] 123) = W := ⟨_, rfl⟩
  have HBW := hid (show Below w.heap.size w W by rw [← hW]; exact (Below.refl w.heap.size w).alloc (Nat.le_refl _) _)
  have HBD := hid (show Lib.IsBuilder 123 5 w.heap.size w.heap.size [] W by rw [← hW]; exact bld_new _ _ _)
  have H := hid hp; have HN := hid hn; have HL := hid hL
  rw [hn] at hl ⊢
  clear hp hn hL
  go_enter Tryz.func58, Tryz.ntmps58
  go_wp2_with fail
  clear hW
  go_loopw [10] (fun s wr => ∃ i : Nat, s = .int .i64 i ∧ i ≤ n ∧ Lib.IsBuilder 123 5 w.heap.size w.heap.size (Lib.byteCells (textS L i)) wr ∧ Below w.heap.size w wr) (fun s _ => n - (intOf s).toNat)
  case atStart => exact ⟨0, rfl, Nat.zero_le _, HBD.out, HBW.out⟩
  case round =>
    obtain ⟨i, rfl, hi, hbd, hb⟩ := hrel
    have HB := hid hb; have HBI := hid hbd
    clear hbd
    by_cases hlt : i < n
    · have hiL : i < L.length := by rw [HN.out]; exact hlt
      obtain ⟨b, off, rfl, hbl, d0, d1, d2⟩ := H.out.below hb i hiL
      have HNX := hid (textS_next L i hiL)
      have hT := encT_size i L[i]
      have hTL := textS_length L i
      have HLN := hid (show (Lib.byteCells (textS L i)).length + (encT i L[i]).size ≤ 140737488355328 by rw [Lib.byteCells_length]; omega)
      have HE := hid fun (V : World) (hV : Lst V) => (encode_any 1 1 i L[i].1 L[i].2.1 L[i].2.2 0 0 V hV (by decide) (by decide) (by decide))
      obtain ⟨r2, hr2⟩ : ∃ r, (encR 1 1 i L[i].1 L[i].2.1 L[i].2.2 0 0).2 = r := ⟨_, rfl⟩
      rw [show (encR 1 1 i L[i].1 L[i].2.1 L[i].2.2 0 0).1 = encT i L[i] from rfl, hr2] at HE
      generalize encT i L[i] = T at *
      generalize L[i].1 = k0 at *
      generalize L[i].2.1 = n0 at *
      generalize L[i].2.2 = b0 at *
      have HI := hid hlt
      have HB1 := hid (HB.out.trans ((Below.refl wr.heap.size wr).alloc (Nat.le_refl _) (.cells #[.int .i64 k0, .int .i64 n0, .string b0] 62)|>.mono HB.out.size))
      have HL1 := hid (HL.out.next HL.out.pos HB1.out)
      clear hT hTL hr2 hb
      go_wp2_with fail
      refine (HE.out _ HL1.out).mono ?_
      rintro e w2 ⟨rfl, hb2⟩
      have HB2 := hid (HB1.out.trans (hb2.mono HB1.out.size))
      have HBW2 := hid (Tryz.bld_write w.heap.size w.heap.size _ T w2 (bld_next HBI.out (((Below.refl wr.heap.size wr).alloc (Nat.le_refl _) (.cells #[.int .i64 k0, .int .i64 n0, .string b0] 62)).trans (hb2.mono (by simp)))) HLN.out HB2.out.size)
      clear hb2
      go_wp2_with fail
      refine HBW2.out.mono ?_
      rintro e w3 ⟨rfl, hbd, hb3⟩
      have HB3 := hid (HB2.out.trans hb3)
      have HBD3 := hid (show Lib.IsBuilder 123 5 w.heap.size w.heap.size (Lib.byteCells (textS L (i + 1))) w3 by
        rw [HNX.out, Lib.byteCells_append]; exact .inr hbd)
      clear hbd hb3
      go_wp2_with fail
      go_roundw
      case rel => exact ⟨i + 1, by go_num, HI.out, HBD3.out, HB3.out⟩
      case measure => simp [intOf]; have := HI.out; omega
    · obtain rfl : i = n := by omega
      have HTX := hid (Tryz.bld_text w.heap.size w.heap.size (textS L i) wr HBI.out HB.out.size)
      have hTL := textS_length L i
      have HS := hid fun (V : World) => (show Calls Tryz.prog 85 #[.string ⟨(textS L i).toArray⟩] V fun e w' => e = .returned (.int .u32 (U (sumB (textS L i)))) ∧ V = w' by
        have h2 := sum_any ⟨(textS L i).toArray⟩ V (by show (textS L i).toArray.size ≤ _; rw [List.size_toArray]; exact Nat.le_trans (Nat.le_trans hTL (by omega : 244 * i ≤ 244000)) (by decide))
        simpa using h2)
      obtain ⟨X, hX⟩ : ∃ X, textS L i = X := ⟨_, rfl⟩
      rw [hX] at HTX HS HBI
      have HX := hid hX
      clear hX
      clear hlt hi hb hTL
      go_wp2_with fail
      refine HTX.out.mono ?_
      rintro e w3 ⟨rfl, hb3⟩
      have HB3 := hid (HB.out.trans hb3)
      clear hb3
      go_wp2_with fail
      refine (HS.out _).mono ?_
      rintro e w4 ⟨rfl, rfl⟩
      go_wp2_with fail
      go_ret
      exact ⟨by rw [HX.out]; rfl, HB3.out⟩
set_option maxRecDepth 100000 in
set_option maxHeartbeats 4000000 in
theorem refsum_ok (L : List PageT) (p : Option Addr) (c : Nat) (w : World) (hp : Pgs w p L) (hl : L.length ≤ 1000) :
    Calls Tryz.prog 40 #[.slice p L.length c] w fun e w' => e = .returned (.int .u32 (U (sumB (textS L L.length)))) ∧ Below w.heap.size w w' := by
  obtain ⟨n, hn⟩ : ∃ n, L.length = n := ⟨_, rfl⟩
  have H := hid hp; have HN := hid hn
  rw [hn] at hl ⊢
  clear hp hn
  go_enter Tryz.func40, Tryz.ntmps40
  go_wp2_with fail
  go_loopw [3, 4] (fun s j wr => ∃ i : Nat, j = .int .i64 i ∧ i ≤ n ∧ s = .string ⟨(textS L i).toArray⟩ ∧ Below w.heap.size w wr) (fun _ j _ => n - (intOf j).toNat)
  case atStart => exact ⟨0, rfl, Nat.zero_le _, by simp [textS], Below.refl _ _⟩
  case round =>
    obtain ⟨i, rfl, hi, rfl, hb⟩ := hrel
    have HB := hid hb
    have hTL := textS_length L i
    obtain ⟨s1, hs1⟩ : ∃ s, (⟨(textS L i).toArray⟩ : ByteArray) = s := ⟨_, rfl⟩
    have hz1 : s1.size ≤ 244000 := by rw [← hs1]; show (textS L i).toArray.size ≤ _; rw [List.size_toArray]; omega
    have HS1 := hid hs1
    rw [hs1]
    clear hs1 hTL
    by_cases hlt : i < n
    · have hiL : i < L.length := by rw [HN.out]; exact hlt
      obtain ⟨b, off, rfl, hbl, d0, d1, d2⟩ := H.out.below hb i hiL
      have HNX := hid (show s1 ++ encT i L[i] = ⟨(textS L (i + 1)).toArray⟩ by rw [textS_next L i hiL, ← HS1.out, join_bytes])
      have hT := encT_size i L[i]
      have HE := hid fun (V : World) => (refenc_any 1 1 i L[i].1 L[i].2.1 L[i].2.2 0 0 V (by decide) (by decide))
      obtain ⟨r2, hr2⟩ : ∃ r, (encR 1 1 i L[i].1 L[i].2.1 L[i].2.2 0 0).2 = r := ⟨_, rfl⟩
      rw [show (encR 1 1 i L[i].1 L[i].2.1 L[i].2.2 0 0).1 = encT i L[i] from rfl, hr2] at HE
      generalize encT i L[i] = T at *
      generalize L[i].1 = k0 at *
      generalize L[i].2.1 = n0 at *
      generalize L[i].2.2 = b0 at *
      have j1 : ¬ (9223372036854775807 < s1.size + T.size) := by omega
      have j2 : s1.size + T.size ≤ 9223372036854775807 := by omega
      have HI := hid hlt
      clear hr2 hb
      go_wp2_with fail
      refine (HE.out _).mono ?_
      rintro e w2 ⟨rfl, hb2⟩
      have HB2 := hid (HB.out.trans (hb2.mono HB.out.size))
      clear hb2
      go_wp2_with fail
      go_roundw
      case rel => exact ⟨i + 1, by go_num, HI.out, by rw [HNX.out], HB2.out⟩
      case measure => simp [intOf]; have := HI.out; omega
    · obtain rfl : i = n := by omega
      have HS := hid fun (V : World) => (show Calls Tryz.prog 61 #[.string s1] V fun e w' => e = .returned (.int .u32 (U (sumB (textS L i)))) ∧ V = w' by
        have h2 := refSum_any s1 V (Nat.le_trans hz1 (by decide))
        rw [← HS1.out] at h2 ⊢
        simpa using h2)
      clear hlt hi hb
      go_wp2_with fail
      refine (HS.out _).mono ?_
      rintro e w4 ⟨rfl, rfl⟩
      go_wp2_with fail
      go_ret
      exact ⟨rfl, HB.out⟩
end Go.Proofs.YtaonifdfhlbaiaaGreatDoor.En

/- live of entry: what its calls answer. -/
namespace Go.Proofs.YtaonifdfhlbaiaaGreatDoor.En
open Go.RowKit
open Go.Lib (hid)
open Go.Proofs.YtaonifdfhlbaiaaGreatDoor.Fd (be be_length num getAt)
open Go.Proofs.YtaonifdfhlbaiaaGreatDoor.Sm (U sumB)

abbrev lvB : ByteArray := ⟨#[97, 98]⟩
abbrev lvS : ByteArray := ⟨#[1, 0, 0, 0, 1, 0, 0, 2, 1, 2, 97, 98]⟩
abbrev lvC : ByteArray := ⟨#[2, 0, 0, 0, 5, 0, 1, 0, 1, 0, 0, 1, 2]⟩
theorem lv_may1 : mayE 1 1 0 2 258 lvB 0 0 := by
  refine ⟨by decide, by decide, by decide, by decide, .inl ⟨rfl, ⟨by decide, by decide, by decide, by decide, by decide, by decide⟩, rfl, rfl⟩⟩
theorem lv_may2 : mayE 2 5 1 0 0 ⟨#[]⟩ 1 258 := by
  refine ⟨by decide, by decide, by decide, by decide, .inr (.inl ⟨rfl, by decide, rfl, (noP_iff _ _ _).2 ⟨rfl, rfl, rfl⟩⟩)⟩
theorem lv_enc1 : encR 1 1 0 2 258 lvB 0 0 = (lvS, 0) := by
  rw [encR_yes lv_may1]; rfl
theorem lv_enc2 : encR 2 5 1 0 0 ⟨#[]⟩ 1 258 = (lvC, 0) := by
  rw [encR_yes lv_may2]; rfl
theorem lv_cut1 (V : World) (hV : Lst V) : Calls Tryz.prog 96 #[.string lvS] V fun e w' => e = .returned (.bool false) ∧ w' = V := cut_k lvS 1 10 V (by decide) rfl (by decide) hV.c1
theorem lv_cut2 (V : World) (hV : Lst V) : Calls Tryz.prog 96 #[.string (lvC.extract 0 8)] V fun e w' => e = .returned (.bool true) ∧ w' = V := cut_k (lvC.extract 0 8) 2 13 V (by decide) rfl (by decide) hV.c2
theorem lv_cut3 (V : World) (_ : Lst V) : Calls Tryz.prog 96 #[.string ⟨#[4]⟩] V fun e w' => e = .returned (.bool false) ∧ w' = V := cut_far ⟨#[4]⟩ V (by decide) (by decide)
theorem lv_dec1 (V : World) (hV : Lst V) : Calls Tryz.prog 67 #[.string lvS] V fun e w' => e = .returned (.tuple #[.agg (entC 1 1 0 2 258 lvB 0 0), .int .i64 0]) ∧ Below V.heap.size V w' :=
  decode_ok lvS 1 1 0 2 258 lvB 0 0 V (by decide) ⟨rfl, rfl, rfl, .inl ⟨rfl, by decide, rfl, rfl, rfl, rfl, rfl⟩⟩ lv_cut1 hV (by rw [lv_enc1])
theorem lv_dec2 (V : World) (hV : Lst V) : Calls Tryz.prog 67 #[.string (lvC.extract 0 8)] V fun e w' => e = .returned (.tuple #[.agg (entC 0 0 0 0 0 ⟨#[]⟩ 0 0), .int .i64 9]) ∧ Below V.heap.size V w' :=
  decode_cut (lvC.extract 0 8) V lv_cut2 hV
theorem lv_dec3 (V : World) (hV : Lst V) : Calls Tryz.prog 67 #[.string ⟨#[4]⟩] V fun e w' => e = .returned (.tuple #[.agg (entC 0 0 0 0 0 ⟨#[]⟩ 0 0), .int .i64 6]) ∧ Below V.heap.size V w' :=
  (both_far ⟨#[4]⟩ (by decide) (by decide) lv_cut3 (by decide) (by decide) (by decide)).1 V hV
theorem lv_sum0 (V : World) (hV : Lst V) : Calls Tryz.prog 58 #[.slice none 0 0] V fun e w' => e = .returned (.int .u32 0) ∧ Below V.heap.size V w' := by
  have h := sum_ok [] none 0 V hV (fun i hi => absurd hi (by simp)) (by simp)
  rw [show U (sumB (textS [] ([] : List PageT).length)) = 0 from rfl] at h
  exact h
theorem lv_pgs (V : World) (g : Nat) (hg : g < V.heap.size) (h0 : V.cell? ⟨g, 0, none⟩ = some (.int .i64 2)) (h1 : V.cell? ⟨g, 1, none⟩ = some (.int .i64 258)) (h2 : V.cell? ⟨g, 2, none⟩ = some (.string lvB)) : Pgs V (some ⟨g, 0, none⟩) [((2 : Int), (258 : Int), lvB)] := by
  intro i hi
  obtain rfl : i = 0 := by simp at hi; omega
  exact ⟨g, 0, rfl, hg, h0, h1, h2⟩
/-- are two entries the same? -/
def entB (kd tx ix pk pn : Int) (b : ByteArray) (ct sm kd' tx' ix' pk' pn' : Int) (b' : ByteArray) (ct' sm' : Int) : Bool :=
  kd == kd' && (tx == tx' && (ix == ix' && (pageB pk pn pk' pn' b b' && (ct == ct' && sm == sm'))))
end Go.Proofs.YtaonifdfhlbaiaaGreatDoor.En

/- Equality of two entries, as the program asks it. -/
namespace Go.Proofs.YtaonifdfhlbaiaaGreatDoor.En
open Go.RowKit
open Go.Lib (hid)

theorem eqp (n : Nat) (a b a' b' : Int) (c c' : ByteArray) (w : World) :
    (Op.equalIn (n + 2) 62 (.agg #[.int .i64 a, .int .i64 b, .string c]) (.agg #[.int .i64 a', .int .i64 b', .string c'])).run Tryz.prog w = .ok (pageB a b a' b' c c') w := by
  have ht : Tryz.prog.underlying 62 = some (.struct (Tryz.prog.fieldsOf 62)) := by kernel_rfl
  have hp : Tryz.prog.stoodInHeld 62 = false := by kernel_rfl
  rw [show n + 2 = (n + 1) + 1 from rfl, run_equalIn_struct _ _ _ _ _ ht hp]
  simp only [Program.fieldsOf, Tryz.underlying62]
  unfold pageB
  by_cases h1 : a = a'
  · by_cases h2 : b = b'
    · by_cases h3 : c.toList = c'.toList <;> simp [Op.eqFields, go_sem, h1, h2, h3]
    · simp [Op.eqFields, go_sem, h1, h2]
  · simp [Op.eqFields, go_sem, h1]
theorem eqe (kd tx ix pk pn : Int) (b : ByteArray) (ct sm kd' tx' ix' pk' pn' : Int) (b' : ByteArray) (ct' sm' : Int) (w : World) :
    (Op.equalIn 10000 72 (.agg (entC kd tx ix pk pn b ct sm)) (.agg (entC kd' tx' ix' pk' pn' b' ct' sm'))).run Tryz.prog w = .ok (entB kd tx ix pk pn b ct sm kd' tx' ix' pk' pn' b' ct' sm') w := by
  have ht : Tryz.prog.underlying 72 = some (.struct (Tryz.prog.fieldsOf 72)) := by kernel_rfl
  have hp : Tryz.prog.stoodInHeld 72 = false := by kernel_rfl
  have HQ := fun (w : World) => eqp 9997 pk pn pk' pn' b b' w
  rw [show (10000 : Nat) = 9999 + 1 from rfl, run_equalIn_struct _ _ _ _ _ ht hp]
  simp only [Program.fieldsOf, Tryz.underlying72]
  unfold entB
  generalize pageB pk pn pk' pn' b b' = q at *
  by_cases h1 : kd = kd'
  · by_cases h2 : tx = tx'
    · by_cases h3 : ix = ix'
      · cases q with
        | false => simp [Op.eqFields, go_sem, h1, h2, h3, HQ]
        | true =>
          by_cases h5 : ct = ct'
          · by_cases h6 : sm = sm' <;> simp [Op.eqFields, go_sem, h1, h2, h3, HQ, h5, h6]
          · simp [Op.eqFields, go_sem, h1, h2, h3, HQ, h5]
      · simp [Op.eqFields, go_sem, h1, h2, h3]
    · simp [Op.eqFields, go_sem, h1, h2]
  · simp [Op.eqFields, go_sem, h1]
theorem eqr (kd tx ix pk pn : Int) (b : ByteArray) (ct sm kd' tx' ix' pk' pn' : Int) (b' : ByteArray) (ct' sm' : Int) (w : World) :
    (Op.equalIn 10000 75 (.agg (entC kd tx ix pk pn b ct sm)) (.agg (entC kd' tx' ix' pk' pn' b' ct' sm'))).run Tryz.prog w = .ok (entB kd tx ix pk pn b ct sm kd' tx' ix' pk' pn' b' ct' sm') w := by
  have ht : Tryz.prog.underlying 75 = some (.struct (Tryz.prog.fieldsOf 75)) := by kernel_rfl
  have hp : Tryz.prog.stoodInHeld 75 = false := by kernel_rfl
  have HQ := fun (w : World) => eqp 9997 pk pn pk' pn' b b' w
  rw [show (10000 : Nat) = 9999 + 1 from rfl, run_equalIn_struct _ _ _ _ _ ht hp]
  simp only [Program.fieldsOf, Tryz.underlying75]
  unfold entB
  generalize pageB pk pn pk' pn' b b' = q at *
  by_cases h1 : kd = kd'
  · by_cases h2 : tx = tx'
    · by_cases h3 : ix = ix'
      · cases q with
        | false => simp [Op.eqFields, go_sem, h1, h2, h3, HQ]
        | true =>
          by_cases h5 : ct = ct'
          · by_cases h6 : sm = sm' <;> simp [Op.eqFields, go_sem, h1, h2, h3, HQ, h5, h6]
          · simp [Op.eqFields, go_sem, h1, h2, h3, HQ, h5]
      · simp [Op.eqFields, go_sem, h1, h2, h3]
    · simp [Op.eqFields, go_sem, h1, h2]
  · simp [Op.eqFields, go_sem, h1]
theorem eql32 (kd tx ix pk pn : Int) (b : ByteArray) (ct sm kd' tx' ix' pk' pn' : Int) (b' : ByteArray) (ct' sm' : Int) (w : World) :
    (binOp .eql 72 (.agg (entC kd tx ix pk pn b ct sm)) (.agg (entC kd' tx' ix' pk' pn' b' ct' sm'))).run Tryz.prog w = .ok (.bool (entB kd tx ix pk pn b ct sm kd' tx' ix' pk' pn' b' ct' sm')) w := by
  rw [run_eql_struct, eqe]; rfl
theorem neq32 (kd tx ix pk pn : Int) (b : ByteArray) (ct sm kd' tx' ix' pk' pn' : Int) (b' : ByteArray) (ct' sm' : Int) (w : World) :
    (binOp .neq 72 (.agg (entC kd tx ix pk pn b ct sm)) (.agg (entC kd' tx' ix' pk' pn' b' ct' sm'))).run Tryz.prog w = .ok (.bool (!entB kd tx ix pk pn b ct sm kd' tx' ix' pk' pn' b' ct' sm')) w := by
  rw [run_neq_struct, eqe]; rfl
theorem eql26 (kd tx ix pk pn : Int) (b : ByteArray) (ct sm kd' tx' ix' pk' pn' : Int) (b' : ByteArray) (ct' sm' : Int) (w : World) :
    (binOp .eql 75 (.agg (entC kd tx ix pk pn b ct sm)) (.agg (entC kd' tx' ix' pk' pn' b' ct' sm'))).run Tryz.prog w = .ok (.bool (entB kd tx ix pk pn b ct sm kd' tx' ix' pk' pn' b' ct' sm')) w := by
  rw [run_eql_struct, eqr]; rfl
theorem neq26 (kd tx ix pk pn : Int) (b : ByteArray) (ct sm kd' tx' ix' pk' pn' : Int) (b' : ByteArray) (ct' sm' : Int) (w : World) :
    (binOp .neq 75 (.agg (entC kd tx ix pk pn b ct sm)) (.agg (entC kd' tx' ix' pk' pn' b' ct' sm'))).run Tryz.prog w = .ok (.bool (!entB kd tx ix pk pn b ct sm kd' tx' ix' pk' pn' b' ct' sm')) w := by
  rw [run_neq_struct, eqr]; rfl
theorem entB_self (kd tx ix pk pn : Int) (b : ByteArray) (ct sm : Int) : entB kd tx ix pk pn b ct sm kd tx ix pk pn b ct sm = true := by
  simp [entB, pageB]
end Go.Proofs.YtaonifdfhlbaiaaGreatDoor.En

/- What is written reads as what was written; so unlike entries have unlike bytes. Plain. -/
namespace Go.Proofs.YtaonifdfhlbaiaaGreatDoor.En
open Go.RowKit
open Go.Lib (hid)
open Go.Proofs.YtaonifdfhlbaiaaGreatDoor.Fd (be be_length num num_be getAt)

theorem getOr_be (l A B : List UInt8) (o wd x : Nat) (e : l = A ++ (be wd x ++ B)) (ho : A.length = o) (hx : x < 256 ^ wd) : getOr l o wd = x := by
  subst ho; subst e
  unfold getOr
  rw [if_pos (by simp [be_length])]
  unfold getAt
  rw [List.drop_left, List.take_left' (be_length wd x)]
  exact num_be wd x hx
theorem enc_list (x : List UInt8) : (⟨x.toArray⟩ : ByteArray).data.toList = x := by simp
/-- what is written reads as the entry -/
theorem rd_enc {kd tx ix pk pn : Int} {b : ByteArray} {ct sm : Int} (hs : 0 ≤ sm) (hs2 : sm < 4294967296) (h : mayE kd tx ix pk pn b ct sm) : Rd (encR kd tx ix pk pn b ct sm).1 kd tx ix pk pn b ct sm := by
  rw [encR_yes h]
  obtain ⟨h1, h2, h3, h4, h5⟩ := h
  have h5' := h5
  rcases may_kinds hs ⟨h1, h2, h3, h4, h5⟩ with ⟨T, I, K, N, rfl, rfl, rfl, rfl, rfl, rfl, rfl⟩ | ⟨T, I, S, rfl, rfl, rfl, rfl, rfl, rfl, rfl, rfl⟩ | ⟨T, I, rfl, rfl, rfl, rfl, rfl, rfl, rfl, rfl⟩
  · have hm : mayS K N b := by
      rcases h5 with ⟨-, h, -⟩ | ⟨h, -⟩ | ⟨h, -⟩
      · exact h
      · exact absurd h (by decide)
      · exact absurd h (by decide)
    obtain ⟨-, m1, m2, m3, m4, m5⟩ := hm
    have e : encE (1 : Int).toNat (T : Int).toNat (I : Int).toNat (K : Int).toNat (N : Int).toNat b.data.toList (0 : Int).toNat (0 : Int).toNat = be 1 1 ++ (be 4 T ++ (be 2 I ++ (be 1 K ++ (be 2 N ++ b.data.toList)))) := by
      simp [encE, headE]
    rw [e]
    refine ⟨?_, ?_, ?_, .inl ⟨rfl, ?_, ?_, ?_, ?_, rfl, rfl⟩⟩
    · rw [enc_list, getOr_be _ (be 1 1) _ 1 4 T rfl (be_length _ _) (by omega)]
    · rw [enc_list, getOr_be _ (be 1 1 ++ be 4 T) _ 5 2 I (by first | (simp only [List.append_assoc]; rfl) | simp only [List.append_assoc]) (by simp [be_length]) (by omega)]
    · rw [enc_list]; exact (congrArg (Nat.cast : Nat → Int) (getOr_be _ [] _ 0 1 1 rfl rfl (by decide))).symm
    · show 10 ≤ (be 1 1 ++ (be 4 T ++ (be 2 I ++ (be 1 K ++ (be 2 N ++ b.data.toList))))).toArray.size
      simp [be_length]; omega
    · rw [enc_list, getOr_be _ (be 1 1 ++ (be 4 T ++ be 2 I)) _ 7 1 K (by first | (simp only [List.append_assoc]; rfl) | simp only [List.append_assoc]) (by simp [be_length]) (by omega)]
    · rw [enc_list, getOr_be _ (be 1 1 ++ (be 4 T ++ (be 2 I ++ be 1 K))) _ 8 2 N (by first | (simp only [List.append_assoc]; rfl) | simp only [List.append_assoc]) (by simp [be_length]) (by omega)]
    · rw [enc_list]
      apply ByteArray.ext
      rw [show (⟨(be 1 1 ++ (be 4 T ++ (be 2 I ++ (be 1 K ++ (be 2 N ++ b.data.toList))))).toArray⟩ : ByteArray).size - 10 = b.data.toList.length by
        show (be 1 1 ++ (be 4 T ++ (be 2 I ++ (be 1 K ++ (be 2 N ++ b.data.toList))))).toArray.size - 10 = _
        simp [be_length]; omega]
      rw [show be 1 1 ++ (be 4 T ++ (be 2 I ++ (be 1 K ++ (be 2 N ++ b.data.toList)))) = (be 1 1 ++ (be 4 T ++ (be 2 I ++ (be 1 K ++ be 2 N)))) ++ b.data.toList by simp only [List.append_assoc]]
      unfold getAt
      rw [show (10 : Nat) = (be 1 1 ++ (be 4 T ++ (be 2 I ++ (be 1 K ++ be 2 N)))).length by simp [be_length], List.drop_left, List.take_length]
  · have hc : 1 ≤ (I : Int) := by
      rcases h5 with ⟨h, -⟩ | ⟨-, h, -⟩ | ⟨h, -⟩
      · exact absurd h (by decide)
      · exact h
      · exact absurd h (by decide)
    have e : encE (2 : Int).toNat (T : Int).toNat (I : Int).toNat (0 : Int).toNat (0 : Int).toNat (⟨#[]⟩ : ByteArray).data.toList (I : Int).toNat (S : Int).toNat = be 1 2 ++ (be 4 T ++ (be 2 I ++ (be 2 I ++ (be 4 S ++ [])))) := by
      simp [encE, headE]
    rw [e]
    refine ⟨?_, ?_, ?_, .inr (.inl ⟨rfl, rfl, rfl, rfl, ?_, ?_⟩)⟩
    · rw [enc_list, getOr_be _ (be 1 2) _ 1 4 T rfl (be_length _ _) (by omega)]
    · rw [enc_list, getOr_be _ (be 1 2 ++ be 4 T) _ 5 2 I (by first | (simp only [List.append_assoc]; rfl) | simp only [List.append_assoc]) (by simp [be_length]) (by omega)]
    · rw [enc_list]; exact (congrArg (Nat.cast : Nat → Int) (getOr_be _ [] _ 0 1 2 rfl rfl (by decide))).symm
    · rw [enc_list, getOr_be _ (be 1 2 ++ (be 4 T ++ be 2 I)) _ 7 2 I (by first | (simp only [List.append_assoc]; rfl) | simp only [List.append_assoc]) (by simp [be_length]) (by omega)]
    · rw [enc_list, getOr_be _ (be 1 2 ++ (be 4 T ++ (be 2 I ++ be 2 I))) [] 9 4 S (by first | (simp only [List.append_assoc]; rfl) | simp only [List.append_assoc]) (by simp [be_length]) (by omega)]
  · have e : encE (3 : Int).toNat (T : Int).toNat (I : Int).toNat (0 : Int).toNat (0 : Int).toNat (⟨#[]⟩ : ByteArray).data.toList (0 : Int).toNat (0 : Int).toNat = be 1 3 ++ (be 4 T ++ (be 2 I ++ [])) := by
      simp [encE, headE]
    rw [e]
    refine ⟨?_, ?_, ?_, .inr (.inr ⟨by decide, by decide, rfl, rfl, rfl, rfl, rfl⟩)⟩
    · rw [enc_list, getOr_be _ (be 1 3) _ 1 4 T rfl (be_length _ _) (by omega)]
    · rw [enc_list, getOr_be _ (be 1 3 ++ be 4 T) [] 5 2 I (by first | (simp only [List.append_assoc]; rfl) | simp only [List.append_assoc]) (by simp [be_length]) (by omega)]
    · rw [enc_list]; exact (congrArg (Nat.cast : Nat → Int) (getOr_be _ [] _ 0 1 3 rfl rfl (by decide))).symm
/-- one text reads as one entry -/
theorem Rd.same {s : ByteArray} {kd tx ix pk pn : Int} {b : ByteArray} {ct sm : Int} {kd' tx' ix' pk' pn' : Int} {b' : ByteArray} {ct' sm' : Int} (h : Rd s kd tx ix pk pn b ct sm) (h' : Rd s kd' tx' ix' pk' pn' b' ct' sm') :
    kd = kd' ∧ tx = tx' ∧ ix = ix' ∧ pk = pk' ∧ pn = pn' ∧ b = b' ∧ ct = ct' ∧ sm = sm' := by
  obtain ⟨t1, i1, k1, r1⟩ := h
  obtain ⟨t2, i2, k2, r2⟩ := h'
  have ek : kd = kd' := by rw [k1, k2]
  refine ⟨ek, by rw [t1, t2], by rw [i1, i2], ?_⟩
  rcases r1 with ⟨a1, -, a2, a3, a4, a5, a6⟩ | ⟨a1, a2, a3, a4, a5, a6⟩ | ⟨a0, a1, a2, a3, a4, a5, a6⟩ <;> rcases r2 with ⟨c1, -, c2, c3, c4, c5, c6⟩ | ⟨c1, c2, c3, c4, c5, c6⟩ | ⟨c0, c1, c2, c3, c4, c5, c6⟩
  all_goals first
    | (exfalso; omega)
    | exact ⟨by rw [a2, c2], by rw [a3, c3], by rw [a4, c4], by rw [a5, c5], by rw [a6, c6]⟩
theorem entB_eq {kd tx ix pk pn : Int} {b : ByteArray} {ct sm kd' tx' ix' pk' pn' : Int} {b' : ByteArray} {ct' sm' : Int} (h : entB kd tx ix pk pn b ct sm kd' tx' ix' pk' pn' b' ct' sm' = true) :
    kd = kd' ∧ tx = tx' ∧ ix = ix' ∧ pk = pk' ∧ pn = pn' ∧ b = b' ∧ ct = ct' ∧ sm = sm' := by
  unfold entB pageB at h
  simp only [Bool.and_eq_true, beq_iff_eq] at h
  obtain ⟨h1, h2, h3, ⟨h4, h5, h6⟩, h7, h8⟩ := h
  refine ⟨h1, h2, h3, h4, h5, ?_, h7, h8⟩
  rw [Go.ByteArray.toList_eq, Go.ByteArray.toList_eq] at h6
  apply ByteArray.ext
  apply Array.toList_inj.1
  exact h6
/-- entries have the same bytes just if they are the same -/
theorem apart {kd tx ix pk pn : Int} {b : ByteArray} {ct sm kd' tx' ix' pk' pn' : Int} {b' : ByteArray} {ct' sm' : Int} (hs : 0 ≤ sm) (hs2 : sm < 4294967296) (hs' : 0 ≤ sm') (hs2' : sm' < 4294967296)
    (h : mayE kd tx ix pk pn b ct sm) (h' : mayE kd' tx' ix' pk' pn' b' ct' sm') :
    ((encR kd tx ix pk pn b ct sm).1.toList == (encR kd' tx' ix' pk' pn' b' ct' sm').1.toList) = entB kd tx ix pk pn b ct sm kd' tx' ix' pk' pn' b' ct' sm' := by
  by_cases hq : (encR kd tx ix pk pn b ct sm).1 = (encR kd' tx' ix' pk' pn' b' ct' sm').1
  · have hr := rd_enc hs hs2 h
    rw [hq] at hr
    obtain ⟨rfl, rfl, rfl, rfl, rfl, rfl, rfl, rfl⟩ := hr.same (rd_enc hs' hs2' h')
    rw [entB_self]; simp
  · rw [ba_other hq]
    cases hB : entB kd tx ix pk pn b ct sm kd' tx' ix' pk' pn' b' ct' sm' with
    | false => rfl
    | true =>
      obtain ⟨rfl, rfl, rfl, rfl, rfl, rfl, rfl, rfl⟩ := entB_eq hB
      exact absurd rfl hq
end Go.Proofs.YtaonifdfhlbaiaaGreatDoor.En

/- What Decode of the code answers, whatever the text. -/
namespace Go.Proofs.YtaonifdfhlbaiaaGreatDoor.En
open Go.RowKit
open Go.Lib (hid)

theorem cut_pos (s : ByteArray) (h0 : 0 < s.size) (V : World) (hV : Lst V) : Calls Tryz.prog 96 #[.string s] V fun e w' => e = .returned (.bool (decide (s.size < leastN s[0].toNat))) ∧ w' = V := by
  by_cases g0 : s[0].toNat = 0
  · rw [g0]; exact cut_k s 0 0 V h0 g0 (by decide) hV.c0
  · by_cases g1 : s[0].toNat = 1
    · rw [g1]; exact cut_k s 1 10 V h0 g1 (by decide) hV.c1
    · by_cases g2 : s[0].toNat = 2
      · rw [g2]; exact cut_k s 2 13 V h0 g2 (by decide) hV.c2
      · by_cases g3 : s[0].toNat = 3
        · rw [g3]; exact cut_k s 3 7 V h0 g3 (by decide) hV.c3
        · rw [show leastN s[0].toNat = 0 by simp [leastN, g1, g2, g3]]
          exact cut_far s V h0 (by omega)
/-- whatever the text: an error and no entry, or the entry whose text it is -/
theorem dec_any (s : ByteArray) (hs : s.size ≤ 4096) :
    (∃ c : Int, c ≠ 0 ∧ ∀ V : World, Lst V → Calls Tryz.prog 67 #[.string s] V fun e w' => e = .returned (.tuple #[.agg (entC 0 0 0 0 0 ⟨#[]⟩ 0 0), .int .i64 c]) ∧ Below V.heap.size V w') ∨
    ∃ kd tx ix pk pn b ct sm, 0 ≤ sm ∧ sm < 4294967296 ∧ tx ≤ 9223372036854775807 ∧ mayE kd tx ix pk pn b ct sm ∧ (encR kd tx ix pk pn b ct sm).1 = s ∧ ∀ V : World, Lst V → Calls Tryz.prog 67 #[.string s] V fun e w' => e = .returned (.tuple #[.agg (entC kd tx ix pk pn b ct sm), .int .i64 0]) ∧ Below V.heap.size V w' := by
  by_cases h0 : 0 < s.size
  · by_cases hn : s.size < leastN s[0].toNat
    · exact .inl ⟨9, by decide, fun V hV => decode_cut s V (fun X hX => by have h := cut_pos s h0 X hX; rw [decide_eq_true hn] at h; exact h) hV⟩
    · have hC : ∀ X : World, Lst X → Calls Tryz.prog 96 #[.string s] X fun e w' => e = .returned (.bool false) ∧ w' = X := fun X hX => by
        have h := cut_pos s h0 X hX; rw [decide_eq_false hn] at h; exact h
      obtain ⟨kd, tx, ix, pk, pn, b, ct, sm, hr⟩ := rd_ex s (fun h => by
        rw [first_at s h0] at h
        rw [h] at hn
        have : leastN 1 = 10 := rfl
        omega)
      by_cases hq : (encR kd tx ix pk pn b ct sm).1 = s
      · refine .inr ⟨kd, tx, ix, pk, pn, b, ct, sm, hr.fit.2.1, hr.fit.2.2, hr.fit.1, ?_, hq, fun V hV => decode_ok s kd tx ix pk pn b ct sm V hs hr hC hV hq⟩
        rcases Classical.em (mayE kd tx ix pk pn b ct sm) with h | h
        · exact h
        · rw [encR_no h] at hq
          rw [← hq] at h0
          exact absurd h0 (by decide)
      · exact .inl ⟨6, by decide, fun V hV => decode_bad s kd tx ix pk pn b ct sm V hs hr hC hV hq⟩
  · exact .inl ⟨9, by decide, fun V hV => decode_cut s V (fun X _ => by rw [no_size h0]; exact cut_nil X) hV⟩
theorem enc_size {kd tx ix pk pn : Int} {b : ByteArray} {ct sm : Int} (hs : 0 ≤ sm) (h : mayE kd tx ix pk pn b ct sm) : leastN kd.toNat ≤ (encR kd tx ix pk pn b ct sm).1.size := by
  rw [encR_yes h]
  show _ ≤ (encE _ _ _ _ _ _ _ _).toArray.size
  rw [List.size_toArray]
  rcases may_kinds hs h with ⟨T, I, K, N, rfl, rfl, rfl, rfl, rfl, rfl, rfl⟩ | ⟨T, I, S, rfl, rfl, rfl, rfl, rfl, rfl, rfl, rfl⟩ | ⟨T, I, rfl, rfl, rfl, rfl, rfl, rfl, rfl, rfl⟩
  · rw [encE_length (Int.toNat 1) _ _ _ _ _ _ _ (.inl rfl) (fun h => absurd rfl h)]; exact Nat.le_add_right _ _
  · rw [encE_length (Int.toNat 2) _ _ _ _ _ _ _ (.inr (.inl rfl)) (fun _ => rfl)]; exact Nat.le_add_right _ _
  · rw [encE_length (Int.toNat 3) _ _ _ _ _ _ _ (.inr (.inr rfl)) (fun _ => rfl)]; exact Nat.le_add_right _ _
/-- what is written is decoded -/
theorem dec_enc {kd tx ix pk pn : Int} {b : ByteArray} {ct sm : Int} (hs : 0 ≤ sm) (hs2 : sm < 4294967296) (h : mayE kd tx ix pk pn b ct sm) (V : World) (hV : Lst V) :
    Calls Tryz.prog 67 #[.string (encR kd tx ix pk pn b ct sm).1] V fun e w' => e = .returned (.tuple #[.agg (entC kd tx ix pk pn b ct sm), .int .i64 0]) ∧ Below V.heap.size V w' := by
  have hr := rd_enc hs hs2 h
  have hz := encR_size hs h
  have hl := enc_size hs h
  have h0 : 0 < (encR kd tx ix pk pn b ct sm).1.size := by omega
  have hk : kd.toNat = (encR kd tx ix pk pn b ct sm).1[0].toNat := by
    rw [← first_at _ h0]
    have := hr.2.2.1
    omega
  refine decode_ok _ kd tx ix pk pn b ct sm V (by omega) hr (fun X hX => ?_) hV rfl
  have h2 := cut_pos _ h0 X hX
  rw [← hk, decide_eq_false (by omega)] at h2
  exact h2
end Go.Proofs.YtaonifdfhlbaiaaGreatDoor.En

/- Low, Wide and Narrow of the document's answer. -/
namespace Go.Proofs.YtaonifdfhlbaiaaGreatDoor.Pg
open Go.RowKit
open Go.Lib (hid)
open Go.Proofs.YtaonifdfhlbaiaaGreatDoor.Fd (Area Row Upd rowOf be be_length be_at beB num getAt putAt make_run back_run on_below rowOf_zeros madeBytes size5 info5)
open Go.Proofs.YtaonifdfhlbaiaaGreatDoor.Sm (U B32 sumB U_lo U_hi)

theorem row_back (l : List UInt8) (w : World) (n : Nat) (hn : l.length = n) :
    (convert 103 9 (.slice (some ⟨w.heap.size, 0, none⟩) n n)).run Tryz.prog (w.alloc (.cells (rowOf l) 5)) = .ok (.string ⟨l.toArray⟩) (w.alloc (.cells (rowOf l) 5)) := by
  have hr : Row (w.alloc (.cells (rowOf l) 5)) w.heap.size l := by
    unfold Row; rw [heap_alloc_new]
  have := back_run hr 0 n n (by omega)
  have e : getAt l 0 n = l := by rw [← hn]; exact Fd.getAt_all l
  rw [e] at this
  exact this

theorem low_cells (a : B32) : (#[.int .u8 (U a % 256), .int .u8 (U a / 256 % 256), .int .u8 (U a / 65536 % 256), .int .u8 (U a / 16777216)] : Array Value) = rowOf (lowL a.toNat) := by
  have hlt := a.isLt
  rw [lowL_list]
  refine row_four _ _ _ _ _ _ _ _ ?_ ?_ ?_ ?_ <;> rw [beB_mod] <;> unfold U
  · simp
  · simp
  · simp
  · have : ((256 ^ (4 - 1 - 0) : Nat) : Int) = 16777216 := rfl
    rw [this]; omega

set_option maxHeartbeats 400000 in
theorem low_any (a : B32) (w : World) :
    Calls Tryz.prog 88 #[.int .u32 (U a)] w fun e w' => e = .returned (.string ⟨(lowL a.toNat).toArray⟩) ∧ Below w.heap.size w w' := by
  have h0 := U_lo a
  have h1 := U_hi a
  have hb := row_back (lowL a.toNat) w 4 (lowL_length _)
  rw [← low_cells] at hb
  generalize (lowL a.toNat).toArray = t at hb ⊢
  go_enter Tryz.func88, Tryz.ntmps88
  go_wp2_with fail
  go_ret
  exact ⟨rfl, (Below.refl _ _).alloc (Nat.le_refl _) _⟩

theorem be_more (m n : Nat) : be (m + 1) n = UInt8.ofNat (n / 256 ^ m) :: be m n := by
  apply List.ext_getElem?
  intro i
  cases i with
  | zero => rw [be_at _ _ _ (by omega)]; unfold beB; simp
  | succ i =>
    rw [List.getElem?_cons_succ]
    by_cases h : i < m
    · rw [be_at _ _ _ (by omega), be_at _ _ _ h]; unfold beB
      congr 3; congr 1; omega
    · rw [List.getElem?_eq_none (by rw [be_length]; omega), List.getElem?_eq_none (by rw [be_length]; omega)]

theorem one_cell (d : Nat) : (#[.int .u8 ((d : Int) % 256)] : Array Value) = rowOf [UInt8.ofNat d] := by
  unfold rowOf
  simp

theorem div_more (n k : Nat) : n / 256 ^ k / 256 = n / 256 ^ (k + 1) := by rw [Nat.pow_succ, Nat.div_div_eq_div_mul]

set_option maxHeartbeats 400000 in
theorem wide_any (n m : Nat) (w : World) (hn : n ≤ 4611686018427387904) (hm : m ≤ 8) :
    Calls Tryz.prog 86 #[.int .i64 (n : Int), .int .i64 (m : Int)] w fun e w' => e = .returned (.string ⟨(be m n).toArray⟩) ∧ Below w.heap.size w w' := by
  go_enter Tryz.func86, Tryz.ntmps86
  go_wp2_with fail
  go_loopw [0, 5, 6] (fun x s i wr => ∃ k d : Nat, k ≤ m ∧ d ≤ n ∧ d = n / 256 ^ k ∧ i = .int .i64 k ∧ x = .int .i64 (d : Int) ∧ s = .string ⟨(be k n).toArray⟩ ∧ Below w.heap.size w wr) (fun _ _ i _ => m - (intOf i).toNat)
  case atStart => exact ⟨0, n, by omega, by omega, by simp, rfl, rfl, rfl, Below.refl _ _⟩
  case round =>
    obtain ⟨k, d, hk, hd, hdv, rfl, rfl, rfl, hB⟩ := hrel
    have HB := hid hB; clear hB
    have HD := hid hdv; clear hdv
    by_cases hlt : k < m
    · have hb := row_back [UInt8.ofNat d] wr 1 rfl
      rw [← one_cell] at hb
      have hlen : (be k n).length ≤ 8 := by rw [be_length]; omega
      go_wp2_with fail
      go_roundw
      case rel =>
        refine ⟨k + 1, d / 256, by omega, by omega, by rw [HD.out, div_more], by go_num, by simp, ?_, HB.out.alloc HB.out.size _⟩
        rw [be_more, ← HD.out]
        rfl
      case measure => simp [intOf]; omega
    · obtain rfl : k = m := by omega
      go_wp2_with fail
      go_ret
      exact ⟨rfl, HB.out⟩

set_option maxHeartbeats 400000 in
theorem narrow_any (s : ByteArray) (w : World) (hs : s.size ≤ 4) :
    Calls Tryz.prog 98 #[.string s] w fun e w' => e = .returned (.int .i64 (num s.data.toList : Int)) ∧ w = w' := by
  go_enter Tryz.func98, Tryz.ntmps98
  go_wp2_with fail
  go_loop [3, 4] (fun x i => ∃ k m : Nat, k ≤ s.size ∧ m < 4294967296 ∧ m = num (s.data.toList.take k) ∧ i = .int .i64 k ∧ x = .int .i64 (m : Int)) (fun _ i => s.size - (intOf i).toNat)
  case atStart => exact ⟨0, 0, by omega, by omega, by simp [num], rfl, rfl⟩
  case round =>
    obtain ⟨k, m, hk, hm, hmv, rfl, rfl⟩ := hrel
    have HM := hid hmv; clear hmv
    by_cases hlt : k < s.size
    · have hb := (s[k]).toNat_lt
      go_wp2_with fail
      go_round
      case rel =>
        have hsn : s.data.toList.take (k + 1) = s.data.toList.take k ++ [s[k]] := Sm.take_snoc s k hlt
        have hv : num (s.data.toList.take (k + 1)) = 256 * m + (s[k]).toNat := by rw [hsn, Fd.num_snoc, HM.out]
        have hl := Fd.num_lt (s.data.toList.take (k + 1))
        have hlen : (s.data.toList.take (k + 1)).length ≤ 4 := by simp; omega
        have h4 : num (s.data.toList.take (k + 1)) < 4294967296 := Nat.lt_of_lt_of_le hl (Nat.pow_le_pow_right (by decide) hlen)
        exact ⟨k + 1, 256 * m + (s[k]).toNat, by omega, by omega, hv.symm, by go_num, by go_num⟩
      case measure => simp [intOf]; omega
    · obtain rfl : k = s.size := by omega
      go_wp2_with fail
      go_ret
      refine ⟨?_, rfl⟩
      have := HM.out
      rw [List.take_of_length_le (by simp)] at this
      rw [this]; rfl
end Go.Proofs.YtaonifdfhlbaiaaGreatDoor.Pg

/- Seal of page: what it returns, whatever page it is called with. -/
namespace Go.Proofs.YtaonifdfhlbaiaaGreatDoor.Pg
open Go.RowKit
open Go.Lib (hid)
open Go.Proofs.YtaonifdfhlbaiaaGreatDoor.Fd (Area Row Upd rowOf be be_length be_at beB num getAt putAt on_below on_upd)
open Go.Proofs.YtaonifdfhlbaiaaGreatDoor.Sm (U B32 sumB U_lo U_hi)

theorem new_256 (w : World) :
    Calls Tryz.prog 79 #[.int .i64 256] w fun e w' => e = .returned (.tuple #[.pointer (some ⟨w.heap.size + 1, 0, none⟩), .int .i64 0]) ∧ Area 153 w' (w.heap.size + 1) w.heap.size (zs 256) ∧ Below w.heap.size w w' := by
  refine (Fd.new_ok 256 w (by decide)).mono ?_
  rintro e w' ⟨rfl, rfl⟩
  exact ⟨rfl, Fd.madeArea_area 153 256 w (by decide), Fd.madeArea_below 153 256 w⟩

/-- block P holds a page -/
structure Box (w : World) (P : Nat) (k n : Int) (b : ByteArray) : Prop where
  c0 : w.cell? ⟨P, 0, none⟩ = some (.int .i64 k)
  c1 : w.cell? ⟨P, 1, none⟩ = some (.int .i64 n)
  c2 : w.cell? ⟨P, 2, none⟩ = some (.string b)
  lt : P < w.heap.size
theorem Box.made (w : World) (k n : Int) (b : ByteArray) : Box (w.alloc (.cells #[.int .i64 k, .int .i64 n, .string b] 62)) w.heap.size k n b := by
  refine ⟨?_, ?_, ?_, by simp⟩ <;> rw [cell_of_row _ _ _ _ _ _ (heap_alloc_new _ _)] <;> rfl
theorem Box.below {w w' : World} {P : Nat} {k n : Int} {b : ByteArray} (h : Box w P k n b) (hb : Below w.heap.size w w') : Box w' P k n b :=
  ⟨by rw [hb.cell (p := ⟨P, 0, none⟩) h.lt]; exact h.c0, by rw [hb.cell (p := ⟨P, 1, none⟩) h.lt]; exact h.c1, by rw [hb.cell (p := ⟨P, 2, none⟩) h.lt]; exact h.c2, Nat.lt_of_lt_of_le h.lt hb.size⟩

set_option maxHeartbeats 400000 in
theorem seal_no (k n : Int) (b : ByteArray) (w : World) (h : ¬ mayP k n b.size) :
    Calls Tryz.prog 57 #[.agg #[.int .i64 k, .int .i64 n, .string b]] w fun e w' => e = .returned (.tuple #[.string ⟨#[]⟩, .int .i64 1]) ∧ Below w.heap.size w w' := by
  have H := hid h; clear h
  go_enter Tryz.func57, Tryz.ntmps57
  go_wp2_with (go_at_call 83; refine (may_no k n b _ H.out).mono ?_; rintro e w' ⟨rfl, hb⟩; have HB := hid hb; clear hb)
  go_ret2
  exact ⟨rfl, ((Below.refl _ _).alloc (Nat.le_refl _) _).trans (HB.out.mono (by simp))⟩

theorem Box.upd {w w' : World} {P B : Nat} {l : List UInt8} {k n : Int} {b : ByteArray} (h : Box w P k n b) (hu : Upd B l w w') (hne : P ≠ B) : Box w' P k n b := by
  have hb := hu.block P h.lt hne
  have hc : ∀ o, w'.cell? ⟨P, o, none⟩ = w.cell? ⟨P, o, none⟩ := fun o => by unfold World.cell?; rw [hb]
  exact ⟨by rw [hc]; exact h.c0, by rw [hc]; exact h.c1, by rw [hc]; exact h.c2, Nat.lt_of_lt_of_le h.lt hu.size⟩

theorem put_a (A B : Nat) (l : List UInt8) (n : Nat) (w : World) (ha : Area 153 w A B l) (h : l.length = 256) (hn : n < 256) :
    Calls Tryz.prog 80 #[.pointer (some ⟨A, 0, none⟩), .int .i64 0, .int .i64 1, .int .u32 (n : Int)] w fun e w' => e = .returned (.int .i64 0) ∧ Upd B (putAt l 0 (be 1 n)) w w' :=
  Fd.put_1 A B l 0 n w ha (by omega) (by omega)
theorem put_b (A B : Nat) (l : List UInt8) (n : Nat) (w : World) (ha : Area 153 w A B l) (h : l.length = 256) (hn : n < 65536) :
    Calls Tryz.prog 80 #[.pointer (some ⟨A, 0, none⟩), .int .i64 2, .int .i64 2, .int .u32 (n : Int)] w fun e w' => e = .returned (.int .i64 0) ∧ Upd B (putAt l 2 (be 2 n)) w w' :=
  Fd.put_2 A B l 2 n w ha (by omega) (by omega)
theorem put_c (A B : Nat) (l : List UInt8) (n : Nat) (w : World) (ha : Area 153 w A B l) (h : l.length = 256) (hn : n < 4294967296) :
    Calls Tryz.prog 80 #[.pointer (some ⟨A, 0, none⟩), .int .i64 4, .int .i64 4, .int .u32 (n : Int)] w fun e w' => e = .returned (.int .i64 0) ∧ Upd B (putAt l 4 (be 4 n)) w w' :=
  Fd.put_4 A B l 4 n w ha (by omega) (by omega)
theorem put_d (A B : Nat) (l : List UInt8) (n : Nat) (w : World) (ha : Area 153 w A B l) (h : l.length = 256) (hn : n < 4294967296) :
    Calls Tryz.prog 80 #[.pointer (some ⟨A, 0, none⟩), .int .i64 252, .int .i64 4, .int .u32 (n : Int)] w fun e w' => e = .returned (.int .i64 0) ∧ Upd B (putAt l 252 (be 4 n)) w w' :=
  Fd.put_4 A B l 252 n w ha (by omega) (by omega)
theorem putText_e (A B : Nat) (l : List UInt8) (s : ByteArray) (w : World) (ha : Area 153 w A B l) (h : l.length = 256) (hs : s.size ≤ 244) :
    Calls Tryz.prog 81 #[.pointer (some ⟨A, 0, none⟩), .int .i64 8, .string s] w fun e w' => e = .returned (.int .i64 0) ∧ Upd B (putAt l 8 s.data.toList) w w' :=
  Fd.putText_ok A B l 8 s w ha (by omega)

/-- what Seal has laid so far: its area holds l -/
structure Mid (w : World) (k n : Int) (b : ByteArray) (B : Nat) (l : List UInt8) (wr : World) : Prop where
  box : Box wr w.heap.size k n b
  below : Below w.heap.size w wr
  area : Area 153 wr (B + 1) B l
  lo : w.heap.size < B
  len : l.length = 256
theorem Mid.upd {w wr w' : World} {k n : Int} {b : ByteArray} {B : Nat} {l l' : List UInt8} (h : Mid w k n b B l wr) (hu : Upd B l' wr w') (hl : l'.length = 256) : Mid w k n b B l' w' :=
  ⟨h.box.upd hu (Nat.ne_of_lt h.lo), (on_upd (hid h.below) hu (Nat.le_of_lt h.lo)).out, h.area.upd hu (by rw [hl, h.len]), h.lo, hl⟩
theorem put_len256 (l : List UInt8) (o w n : Nat) (h : l.length = 256) (ho : o + w ≤ 256) : (putAt l o (be w n)).length = 256 := by rw [put_len _ _ _ _ (by omega), h]

theorem extract_head (l : List UInt8) (k : Nat) : ((⟨l.toArray⟩ : ByteArray).extract 0 k).data.toList = l.take k := by
  rw [ByteArray.data_extract]; simp
theorem sum_of (t : ByteArray) (m : List UInt8) (w : World) (ht : t.data.toList = m) (hx : m.length ≤ 256) :
    Calls Tryz.prog 85 #[.string t] w fun e w' => e = .returned (.int .u32 (U (sumB m))) ∧ w = w' := by
  subst ht
  exact Sm.sum_any t w (by unfold maxLen; have : t.data.toList.length = t.size := by simp
                           omega)
theorem lowest_sum (m : List UInt8) (w : World) :
    Calls Tryz.prog 84 #[.int .u32 (U (sumB m))] w fun e w' => e = .returned (.int .u32 (rev32 (sumN m) : Int)) ∧ w = w' := lowest_any (sumB m) w

set_option maxHeartbeats 800000 in
theorem seal_yes (k n : Nat) (b : ByteArray) (w : World) (h : mayP k n b.size) :
    Calls Tryz.prog 57 #[.agg #[.int .i64 k, .int .i64 n, .string b]] w fun e w' => e = .returned (.tuple #[.string ⟨(sealL k n b.data.toList).toArray⟩, .int .i64 0]) ∧ Below w.heap.size w w' := by
  have H := hid h
  unfold mayP at h
  obtain ⟨h1, h2, h3, h4, h5⟩ := h
  go_enter Tryz.func57, Tryz.ntmps57
  go_wp2_with (first
    | (go_at_call 83; refine (may_yes k n b _ H.out).mono ?_; rintro e w1 ⟨rfl, hb⟩; have HP := hid ((Box.made w k n b).below hb); have HB := hid (((Below.refl w.heap.size w).alloc (Nat.le_refl _) (.cells #[.int .i64 k, .int .i64 n, .string b] 62)).trans (hb.mono (by simp))); clear hb)
    | (go_at_call 79; refine (new_256 _).mono ?_; rintro e w2 ⟨rfl, ha, hb⟩; have HM := hid (Mid.mk (HP.out.below hb) (on_below HB hb).out ha HP.out.lt (zs_length 256)); clear ha hb HP HB; have c0 := HM.out.box.c0))
  generalize w1.heap.size = B at HM ⊢
  refine (put_a (B + 1) B _ k _ HM.out.area HM.out.len (by omega)).mono ?_
  rintro e w3 ⟨rfl, hu⟩
  clear c0
  replace HM := hid (HM.out.upd hu (put_len256 _ 0 1 k HM.out.len (by omega)))
  clear hu
  have c2 := HM.out.box.c2
  go_wp2_with fail
  refine (put_b (B + 1) B _ b.size _ HM.out.area HM.out.len (by omega)).mono ?_
  rintro e w4 ⟨rfl, hu⟩
  clear c2
  replace HM := hid (HM.out.upd hu (put_len256 _ 2 2 b.size HM.out.len (by omega)))
  clear hu
  have c1 := HM.out.box.c1
  go_wp2_with fail
  refine (put_c (B + 1) B _ n _ HM.out.area HM.out.len (by omega)).mono ?_
  rintro e w5 ⟨rfl, hu⟩
  clear c1
  replace HM := hid (HM.out.upd hu (put_len256 _ 4 4 n HM.out.len (by omega)))
  clear hu
  have c2 := HM.out.box.c2
  go_wp2_with fail
  refine (putText_e (B + 1) B _ b _ HM.out.area HM.out.len (by omega)).mono ?_
  rintro e w6 ⟨rfl, hu⟩
  clear c2
  have hbl : b.data.toList.length = b.size := by simp
  have hlen : b.data.toList.length ≤ 244 := by omega
  rw [← hbl] at HM hu
  replace HM := hid (HM.out.upd hu (putsL_length k n b.data.toList hlen))
  clear hu
  have HL := hid (putsL_length k n b.data.toList hlen)
  have HT := hid (putsL_take k n b.data.toList hlen)
  have HS := hid (putsL_sum k n b.data.toList hlen)
  have HZ := hid (sealL_length k n b.data.toList hlen)
  clear hbl hlen
  change Hid (Mid w k n b B (putsL k n b.data.toList) w6) at HM
  generalize putsL k n b.data.toList = l at HM HL HT HS
  have hl : l.toArray.size = 256 := by rw [List.size_toArray]; exact HL.out
  go_wp2_with (go_at_call 82; refine (Fd.bytes_ok (B + 1) B l _ HM.out.area).mono ?_; rintro e w7 ⟨rfl, rfl⟩)
  refine (sum_of _ (headL k n b.data.toList) _ (by rw [extract_head]; exact HT.out) (by have := HL.out; rw [← HT.out, List.length_take]; omega)).mono ?_
  rintro e w7 ⟨rfl, rfl⟩
  go_wp2_with fail
  refine (lowest_sum _ _).mono ?_
  rintro e w7 ⟨rfl, rfl⟩
  go_wp2_with fail
  refine (put_d (B + 1) B _ _ _ HM.out.area HM.out.len (rev32_lt _)).mono ?_
  rintro e w7 ⟨rfl, hu⟩
  rw [HS.out] at hu
  replace HM := hid (HM.out.upd hu HZ.out)
  clear hu hl
  go_wp2_with (go_at_call 82; refine (Fd.bytes_ok (B + 1) B _ _ HM.out.area).mono ?_; rintro e w8 ⟨rfl, rfl⟩)
  go_ret2
  exact ⟨rfl, HM.out.below⟩
end Go.Proofs.YtaonifdfhlbaiaaGreatDoor.Pg
