/- The walk of PageOpens. -/
import Derived.Test.YtfedkhomplffoaaPgRef4
namespace Go.Proofs.Ytfedkhomplffoaa
open Go.RowKit
open Go.Lib (hid)
open Go.Proofs.Ytfedkhomplffoaa.Fd (on_below wf_i64)
open Go.Proofs.Ytfedkhomplffoaa.Pg

theorem on_alloc_drew {w wr : World} (h : Hid (Below w.heap.size w wr)) (o : Obj) : Hid (Below w.heap.size w (wr.alloc o)) := hid (h.out.alloc h.out.size o)
set_option maxHeartbeats 800000 in
theorem PageOpens_walk (s : ByteArray) (w0 : s.size ≤ maxLen) (w : World) :
    Calls Try.prog 4 #[.string s] w fun e w' => e = .returned (.bool true) ∧ Below w.heap.size w w' := by
  unfold maxLen at w0
  have HB : Hid (Below w.heap.size w w) := hid (Below.refl _ _)
  have heq := eq23
  by_cases h3 : 300 < s.size
  · go_enter Try.func4, Try.ntmps4
    go_wp2_with (go_at_call 9; refine (live_any _).mono ?_; rintro e w' ⟨rfl, hb⟩; replace HB := on_below HB hb; clear hb)
    go_ret; exact ⟨rfl, HB.out⟩
  · obtain ⟨⟨k, n, b, e⟩, ho⟩ : ∃ x, openL s.data.toList = x := ⟨_, rfl⟩
    have hp : pageB (k : Int) (n : Int) (k : Int) (n : Int) ⟨b.toArray⟩ ⟨b.toArray⟩ = true := page_yes rfl rfl rfl
    have HO := hid ho; clear ho
    go_enter Try.func4, Try.ntmps4
    go_wp2_with (first
      | (go_at_call 16; refine (open_at s _ HO.out).mono ?_; rintro e w1 ⟨rfl, hb⟩; replace HB := on_below HB hb; clear hb)
      | (go_at_call 17; refine (refOpen_at s _ HO.out).mono ?_; rintro e w2 ⟨rfl, hb⟩; have HP := hid ((Box.made w1 k n ⟨b.toArray⟩).below hb); replace HB := on_alloc HB hb; clear hb; have p0 := HP.out.c0; have p1 := HP.out.c1; have p2 := HP.out.c2; have p3 := HP.out.lt)
      | (go_at_call 9; refine (live_any _).mono ?_; rintro e w' ⟨rfl, hb⟩; replace HB := on_alloc HB hb; clear hb))
    go_ret; exact ⟨rfl, HB.out⟩
end Go.Proofs.Ytfedkhomplffoaa
