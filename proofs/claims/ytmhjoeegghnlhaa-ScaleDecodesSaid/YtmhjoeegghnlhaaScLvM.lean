/- The law's own examples of scale, as plain functions tell them. -/
import Derived.Test.YtmhjoeegghnlhaaScEd
import Derived.Test.YtmhjoeegghnlhaaScRem
import Derived.Test.YtmhjoeegghnlhaaScSiz
namespace Go.Proofs.Ytmhjoeegghnlhaa.Sc
open Go.RowKit
open Go.Lib (hid)
open Go.Proofs.Ytmhjoeegghnlhaa.Ky Go.Proofs.Ytmhjoeegghnlhaa.Bk
open Go.Proofs.Ytmhjoeegghnlhaa

theorem m_ins1 : insB [[], []] 0 9 = [[9], []] ∧ insV [[], []] 0 9 = 0 ∧ insE [[], []] 0 9 = 0 := by decide
theorem m_ins2 : insB [[9], []] 0 5 = [[5, 9], []] ∧ insV [[9], []] 0 5 = 0 ∧ insE [[9], []] 0 5 = 0 := by decide
theorem m_ins3 : insB [[5, 9], []] 0 5 = [[5, 9], []] ∧ insV [[5, 9], []] 0 5 = 0 ∧ insE [[5, 9], []] 0 5 = 1 := by decide
theorem m_cell : cellL [[5, 9], []] [7, 7] = [1, 0] := by decide
theorem m_box : lowL [[5, 9], []] [1, 0] = [5, 0] ∧ highL [[5, 9], []] [1, 0] = [8, 4294967295] := by decide
theorem m_rise : ((List.range 2).all (riseS [[5, 9], []] [1, 0] [1, 0])) = true := by decide
theorem m_enc : encS [[5, 9], []] = [2, 0, 0, 0, 5, 0, 0, 0, 9, 0] := by decide
theorem m_dec : decN 2 ⟨#[2, 0, 0, 0, 5, 0, 0, 0, 9, 0]⟩ = some ([[5, 9], []], ⟨#[]⟩) := by
  have h := decN_enc [[5, 9], []] [] (by decide)
  rw [List.append_nil, m_enc] at h
  exact h
theorem m_may : [[5, 9], []].all mayL = true := by decide
theorem m_rem1 : remS [[5, 9], []] 0 0 = [[9], []] ∧ remB [[5, 9], []] 0 0 = true := by decide
theorem m_rem2 : remS [[9], []] 1 0 = [[9], []] ∧ remB [[9], []] 1 0 = false := by decide
theorem m_meet : cellL [[9], []] [0, 0] = [0, 0] ∧ cellL [[9], []] [4294967295, 4294967295] = [1, 0] := by decide
theorem m_size : sizeL [[9], []] = [2, 1] := by decide
theorem m_up : upS [[5, 9], []] ∧ upS [[9], []] ∧ upS [[], []] := by
  refine ⟨?_, ?_, ?_⟩ <;> · intro l hl; revert l; simp [up]
end Go.Proofs.Ytmhjoeegghnlhaa.Sc
