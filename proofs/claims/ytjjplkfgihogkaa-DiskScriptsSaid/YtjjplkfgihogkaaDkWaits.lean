/- Waits of disk. -/
import Derived.Test.YtjjplkfgihogkaaDkFlush
namespace Go.Proofs.Ytjjplkfgihogkaa.Dk
open Go.RowKit
open Go.Lib (hid)

theorem info3 : (Try.prog.info? 3).map (fun i => (i.zero, i.size, i.bytes)) = some (some (.int .i64 0), 1, 8) := by kernel_rfl
/-- the pages of the writes that wait, as cells -/
def wpages (l : List (Nat × ByteArray)) : List Value := l.map fun p => .int .i64 (p.1 : Int)
theorem wpages_more (l : List (Nat × ByteArray)) (k : Nat) (hk : k < l.length) : wpages (l.take (k + 1)) = wpages (l.take k) ++ [.int .i64 (l[k].1 : Int)] := by
  unfold wpages; rw [List.take_succ_eq_append_getElem hk, List.map_append]; rfl

set_option maxRecDepth 100000 in
set_option maxHeartbeats 1000000 in
theorem waits_some (d : Ptrs) (s : St) (w : World) (h : Dsk w d s) (hn : 0 < s.waits.length) :
    Calls Try.prog 21 #[.pointer (some ⟨d.D, 0, none⟩)] w fun e w' => ∃ v, e = .returned v ∧ w'.ownsRow w.heap.size 3 1 v s.waits.length (wpages s.waits) ∧ Below w.heap.size w w' := by
  rcases h.waits.2 with ⟨_, h0⟩ | ⟨g, cap, cur, hv, _, hg, hle, hcap, hsz, _⟩
  · omega
  · obtain ⟨i0, hi0, hz0, hz1, hz2⟩ := info_parts info3
    have c := h.cells
    rw [hv] at c
    have hfew := h.good.few
    have HV := hid hv
    have HH := hid h
    have HG := hid (Array.getElem?_eq_some_iff.1 hg).1
    clear hg hsz hle hcap h hv
    go_enter Try.func21, Try.ntmps21
    go_wp2_with fail
    clear c
    go_loopw [3, 13] (fun v i wr => ∃ k : Nat, k ≤ s.waits.length ∧ i = .int .i64 k ∧ wr.ownsRow w.heap.size 3 1 v k (wpages (s.waits.take k)) ∧ Below w.heap.size w wr) (fun _ i _ => s.waits.length - (intOf i).toNat)
    case atStart => exact ⟨0, by omega, rfl, World.ownsRow_nil _ _ _ _, Below.refl _ _⟩
    case round =>
      obtain ⟨k, hk, rfl, hO, hB⟩ := hrel
      have HO := hid hO; have HB := hid hB; clear hO hB
      by_cases hlt : k < s.waits.length
      · obtain ⟨x, hx⟩ : ∃ x, s.waits[k].1 = x := ⟨_, rfl⟩
        obtain ⟨t, ht⟩ : ∃ t, s.waits[k].2 = t := ⟨_, rfl⟩
        have cw : wr.cell? ⟨g, k * 2, none⟩ = some (.int .i64 (x : Int)) ∧ wr.cell? ⟨g, k * 2 + 1, none⟩ = some (.string t) := by
          have := (HH.out.below HB.out).wait HV.out k hlt
          rw [← hx, ← ht]; exact this
        have hmore := wpages_more s.waits k hlt
        rw [hx] at hmore
        have HM := hid hmore; clear hmore hx ht
        have HS := hid HB.out.size
        go_wp2_with (at_builtin; refine wpList_append_own _ rfl _ _ 31 rfl w.heap.size 3 i0 (.int .i64 0) 1 8 Try.underlying31 hi0 hz0 hz1 hz2 rfl (by decide) _ _ _ rfl ((HO.out.alloc _).alloc _) ⟨wr.heap.size + 1, 0, none⟩ 1 1 [.int .i64 (x : Int)] (by rfl) rfl ?c1 ?c2 ?c3 ?c4 ?c5 ?_)
        case c1 =>
          intro j u hj
          match j, hj with
          | 0, hj => simp at hj; subst hj; simp [Addr.add]
        case c2 => intro u hu; simp at hu; subst hu; rfl
        case c3 => unfold maxLen; omega
        case c4 => omega
        case c5 => have := HS.out; simp; omega
        intro v' w1 hown' hgrow _
        have hB1 : Below w.heap.size w w1 := ((HB.out.alloc HS.out _).alloc (by have := HS.out; simp; omega) _).grown hgrow (by have := HS.out; simp; omega) (fun j hj => (HO.out.lt j hj).1)
        have HB1 := hid hB1; have HO1 := hid hown'; clear hB1 hown' hgrow cw
        go_wp2_with fail
        go_roundw
        case rel => exact ⟨k + 1, by omega, by go_num, by rw [HM.out]; exact HO1.out, HB1.out⟩
        case measure => simp [intOf]; omega
      · obtain rfl : k = s.waits.length := by omega
        go_wp2_with fail
        go_ret
        have := HO.out
        rw [List.take_length] at this
        exact ⟨_, rfl, this, HB.out⟩
set_option maxHeartbeats 1000000 in
theorem waits_none (d : Ptrs) (s : St) (w : World) (h : Dsk w d s) (hn : s.waits = []) :
    Calls Try.prog 21 #[.pointer (some ⟨d.D, 0, none⟩)] w fun e w' => ∃ v, e = .returned v ∧ w'.ownsRow w.heap.size 3 1 v s.waits.length (wpages s.waits) ∧ Below w.heap.size w w' := by
  have c := h.cells
  have hown := h.waits
  rw [hn] at hown
  have hvv : d.wv = .slice none 0 0 ∨ ∃ g cap, d.wv = .slice (some ⟨g, 0, none⟩) 0 cap := by
    rcases hown.2 with ⟨hv, _⟩ | ⟨g, cap, cur, hv, _⟩
    · exact .inl hv
    · exact .inr ⟨g, cap, hv⟩
  clear hown h
  have e1 : s.waits.length = 0 := by rw [hn]; rfl
  have e2 : wpages s.waits = [] := by rw [hn]; rfl
  have E := hid (And.intro e1 e2); clear hn e1 e2
  rcases hvv with hv | ⟨g, cap, hv⟩
  all_goals
    rw [hv] at c
    clear hv
    go_enter Try.func21, Try.ntmps21
    go_wp2_with fail
    go_loopw [3, 13] (fun v i wr => v = .slice none 0 0 ∧ i = .int .i64 0 ∧ wr = w) (fun _ _ _ => 0)
    case atStart => exact ⟨rfl, rfl, rfl⟩
    case round =>
      obtain ⟨rfl, rfl, rfl⟩ := hrel
      go_wp2_with fail
      go_ret
      exact ⟨_, rfl, by rw [E.out.1, E.out.2]; exact World.ownsRow_nil _ _ _ _, Below.refl _ _⟩
theorem waits_ok (d : Ptrs) (s : St) (w : World) (h : Dsk w d s) :
    Calls Try.prog 21 #[.pointer (some ⟨d.D, 0, none⟩)] w fun e w' => ∃ v, e = .returned v ∧ w'.ownsRow w.heap.size 3 1 v s.waits.length (wpages s.waits) ∧ Below w.heap.size w w' := by
  by_cases hn : 0 < s.waits.length
  · exact waits_some d s w h hn
  · exact waits_none d s w h (List.length_eq_zero_iff.1 (by omega))
set_option maxHeartbeats 400000 in
theorem waits_nil (w : World) : Calls Try.prog 21 #[.pointer none] w fun e w' => e = .returned (.slice none 0 0) ∧ w = w' := by
  go_enter Try.func21, Try.ntmps21
  go_wp2_with fail
  go_ret
  exact ⟨rfl, rfl⟩
end Go.Proofs.Ytjjplkfgihogkaa.Dk
