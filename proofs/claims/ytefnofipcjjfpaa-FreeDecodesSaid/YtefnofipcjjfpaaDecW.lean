/- The walk of FreeDecodes. -/
import Derived.Test.YtefnofipcjjfpaaFrOpen
namespace Go.Proofs.Ytefnofipcjjfpaa
open Go.RowKit
open Go.Lib
open Go.Proofs.Ytefnofipcjjfpaa.Fr

set_option maxRecDepth 100000 in
set_option maxHeartbeats 2000000 in
theorem FreeDecodes_walk (z : Int) (s : ByteArray) (_hz : (Lit.int .i64 z).wf = true) (hs : s.size ≤ maxLen) (w : World) :
    Calls Try.prog 4 #[.int .i64 z, .string s] w fun e w' => e = .returned (.bool true) ∧ Below w.heap.size w w' := by
  have hs' := hs
  unfold maxLen at hs'
  have HB : Hid (Below w.heap.size w w) := hid (Below.refl _ _)
  clear hs
  by_cases h1 : 200 < s.size
  · go_enter Try.func4, Try.ntmps4
    go_wp2_with (go_at_call 23; refine (live_any _).mono ?_; rintro e w' ⟨rfl, hb⟩; replace HB := on_below HB hb; clear hb)
    go_ret; exact ⟨rfl, HB.out⟩
  · by_cases h2 : z < 1 ∨ 1000 < z
    · have H2 := hid h2; clear h2
      go_enter Try.func4, Try.ntmps4
      go_wp2_with (first
        | (go_at_call 24; refine (decode_bad z s _ H2.out).mono ?_; rintro e w' ⟨rfl, rfl⟩)
        | (go_at_call 25; refine (refDecode_bad z s _ H2.out).mono ?_; rintro e w' ⟨rfl, rfl⟩)
        | (go_at_call 23; refine (live_any _).mono ?_; rintro e w' ⟨rfl, hb⟩; replace HB := on_below HB hb; clear hb))
      go_ret; exact ⟨rfl, HB.out⟩
    · obtain ⟨n, rfl⟩ : ∃ n : Nat, z = (n : Int) := ⟨z.toNat, by omega⟩
      have HN : Hid (1 ≤ n ∧ n ≤ 1000 ∧ s.size ≤ 1000000) := hid (by omega)
      clear h2
      by_cases he : encB (decB n s) = s.data.toList
      · have HE := hid he
        have HS := hid (same_text he)
        clear he
        go_enter Try.func4, Try.ntmps4
        go_wp2_with (first
          | (go_at_call 24; refine (decode_yes n s _ HN.out.1 HN.out.2.1 HN.out.2.2 HE.out).mono ?_; rintro e w1 ⟨d, rfl, hm, hb, hd1, hd2⟩; have HM := hid hm; replace HB := on_below HB hb; clear hm hb hd1 hd2)
          | (go_at_call 25; refine (refDecode_yes n s _ HN.out.1 HN.out.2.1 HN.out.2.2 HE.out).mono ?_; rintro e w2 ⟨r, rfl, hr, hb, hd1, hd2⟩; have HR := hid hr; replace HM := hid (HM.out.below hb); replace HB := on_below HB hb; clear hr hb hd1 hd2)
          | (go_at_call 18; refine (HS.out ▸ encode_ok d (decB n s) _ HM.out).mono ?_; rintro e w3 ⟨rfl, hb⟩; replace HR := hid (HR.out.below hb); replace HM := hid (HM.out.below hb); replace HB := on_below HB hb; clear hb)
          | (go_at_call 19; refine (left_ok d (decB n s) _ HM.out).mono ?_; rintro e w' ⟨rfl, rfl⟩)
          | (go_at_call 20; refine (refLeft_ok r (decB n s) _ HR.out).mono ?_; rintro e w' ⟨rfl, rfl⟩)
          | (go_at_call 23; refine (live_any _).mono ?_; rintro e w' ⟨rfl, hb⟩; replace HB := on_below HB hb; clear hb))
        go_ret; exact ⟨rfl, HB.out⟩
      · have HE := hid he; clear he
        go_enter Try.func4, Try.ntmps4
        go_wp2_with (first
          | (go_at_call 24; refine (decode_no n s _ HN.out.1 HN.out.2.1 HN.out.2.2 HE.out).mono ?_; rintro e w1 ⟨rfl, hb⟩; replace HB := on_below HB hb; clear hb)
          | (go_at_call 25; refine (refDecode_no n s _ HN.out.1 HN.out.2.1 HN.out.2.2 HE.out).mono ?_; rintro e w2 ⟨rfl, hb⟩; replace HB := on_below HB hb; clear hb)
          | (go_at_call 23; refine (live_any _).mono ?_; rintro e w' ⟨rfl, hb⟩; replace HB := on_below HB hb; clear hb))
        go_ret; exact ⟨rfl, HB.out⟩
end Go.Proofs.Ytefnofipcjjfpaa
