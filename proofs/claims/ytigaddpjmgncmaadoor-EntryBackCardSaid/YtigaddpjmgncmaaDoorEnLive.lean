/- live of entry: what its calls answer. -/
import Derived.Test.YtigaddpjmgncmaaDoorEnSum
namespace Go.Proofs.YtigaddpjmgncmaaDoor.En
open Go.RowKit
open Go.Lib (hid)
open Go.Proofs.YtigaddpjmgncmaaDoor.Fd (be be_length num getAt)
open Go.Proofs.YtigaddpjmgncmaaDoor.Sm (U sumB)

abbrev lvB : ByteArray := ⟨#[97, 98]⟩
abbrev lvS : ByteArray := ⟨#[1, 0, 0, 0, 1, 0, 0, 2, 1, 2, 97, 98]⟩
abbrev lvC : ByteArray := ⟨#[2, 0, 0, 0, 5, 0, 1, 0, 1, 0, 0, 1, 2]⟩
theorem lv_may1 : mayE 1 1 0 2 258 lvB 0 0 := by
  refine ⟨by decide, by decide, by decide, by decide, .inl ⟨rfl, ⟨by decide, by decide, by decide, by decide, by decide, by decide⟩, rfl, rfl⟩⟩
theorem lv_may2 : mayE 2 5 1 0 0 ⟨#[]⟩ 1 258 := by
  refine ⟨by decide, by decide, by decide, by decide, .inr (.inl ⟨rfl, by decide, rfl, (noP_iff _ _ _).2 ⟨rfl, rfl, rfl⟩⟩)⟩
theorem lv_enc1 : encR 1 1 0 2 258 lvB 0 0 = (lvS, 0) := by
  rw [encR_yes lv_may1]; rfl
theorem lv_enc2 : encR 2 5 1 0 0 ⟨#[]⟩ 1 258 = (lvC, 0) := by
  rw [encR_yes lv_may2]; rfl
theorem lv_cut1 (V : World) (hV : Lst V) : Calls Tryd.prog 29 #[.string lvS] V fun e w' => e = .returned (.bool false) ∧ w' = V := cut_k lvS 1 10 V (by decide) rfl (by decide) hV.c1
theorem lv_cut2 (V : World) (hV : Lst V) : Calls Tryd.prog 29 #[.string (lvC.extract 0 8)] V fun e w' => e = .returned (.bool true) ∧ w' = V := cut_k (lvC.extract 0 8) 2 13 V (by decide) rfl (by decide) hV.c2
theorem lv_cut3 (V : World) (_ : Lst V) : Calls Tryd.prog 29 #[.string ⟨#[4]⟩] V fun e w' => e = .returned (.bool false) ∧ w' = V := cut_far ⟨#[4]⟩ V (by decide) (by decide)
theorem lv_dec1 (V : World) (hV : Lst V) : Calls Tryd.prog 16 #[.string lvS] V fun e w' => e = .returned (.tuple #[.agg (entC 1 1 0 2 258 lvB 0 0), .int .i64 0]) ∧ Below V.heap.size V w' :=
  decode_ok lvS 1 1 0 2 258 lvB 0 0 V (by decide) ⟨rfl, rfl, rfl, .inl ⟨rfl, by decide, rfl, rfl, rfl, rfl, rfl⟩⟩ lv_cut1 hV (by rw [lv_enc1])
theorem lv_dec2 (V : World) (hV : Lst V) : Calls Tryd.prog 16 #[.string (lvC.extract 0 8)] V fun e w' => e = .returned (.tuple #[.agg (entC 0 0 0 0 0 ⟨#[]⟩ 0 0), .int .i64 9]) ∧ Below V.heap.size V w' :=
  decode_cut (lvC.extract 0 8) V lv_cut2 hV
theorem lv_dec3 (V : World) (hV : Lst V) : Calls Tryd.prog 16 #[.string ⟨#[4]⟩] V fun e w' => e = .returned (.tuple #[.agg (entC 0 0 0 0 0 ⟨#[]⟩ 0 0), .int .i64 6]) ∧ Below V.heap.size V w' :=
  (both_far ⟨#[4]⟩ (by decide) (by decide) lv_cut3 (by decide) (by decide) (by decide)).1 V hV
theorem lv_sum0 (V : World) (hV : Lst V) : Calls Tryd.prog 14 #[.slice none 0 0] V fun e w' => e = .returned (.int .u32 0) ∧ Below V.heap.size V w' := by
  have h := sum_ok [] none 0 V hV (fun i hi => absurd hi (by simp)) (by simp)
  rw [show U (sumB (textS [] ([] : List PageT).length)) = 0 from rfl] at h
  exact h
theorem lv_pgs (V : World) (g : Nat) (hg : g < V.heap.size) (h0 : V.cell? ⟨g, 0, none⟩ = some (.int .i64 2)) (h1 : V.cell? ⟨g, 1, none⟩ = some (.int .i64 258)) (h2 : V.cell? ⟨g, 2, none⟩ = some (.string lvB)) : Pgs V (some ⟨g, 0, none⟩) [((2 : Int), (258 : Int), lvB)] := by
  intro i hi
  obtain rfl : i = 0 := by simp at hi; omega
  exact ⟨g, 0, rfl, hg, h0, h1, h2⟩
/-- are two entries the same? -/
def entB (kd tx ix pk pn : Int) (b : ByteArray) (ct sm kd' tx' ix' pk' pn' : Int) (b' : ByteArray) (ct' sm' : Int) : Bool :=
  kd == kd' && (tx == tx' && (ix == ix' && (pageB pk pn pk' pn' b b' && (ct == ct' && sm == sm'))))
end Go.Proofs.YtigaddpjmgncmaaDoor.En
