/- Small; the laws' own live. -/
import Derived.Test.YtolnbamdddiifaaRqBox
import Derived.Test.YtolnbamdddiifaaBkList
import Derived.Test.YtolnbamdddiifaaKyLive
namespace Go.Proofs.Ytolnbamdddiifaa.Rq
open Go.RowKit
open Go.Lib (hid)
open Go.Proofs.Ytolnbamdddiifaa.Ky
open Go.Proofs.Ytolnbamdddiifaa.Bk
/-- it stands there, whatever its size -/
structure Rq.Raw (r : Rq) (w : World) : Prop where
  k : Pt w r.kp r.kl
  l : Pt w r.lp r.lo
  h : Pt w r.hp r.hi
  a : Is w r.ap r.at_
  s : Rs (fun _ => False) w r.rp r.rs
  ns : r.rs.length ≤ 9223372036854775807
theorem Rq.Raw.below {r : Rq} {w w' : World} (h : r.Raw w) (hb : Below w.heap.size w w') : r.Raw w' := ⟨h.k.below hb, h.l.below hb, h.h.below hb, h.a.below hb, h.s.below hb, h.ns⟩
def Rq.small (r : Rq) : Bool := decide (r.kl.length ≤ 20) && (decide (r.data.size ≤ 100) && (decide (r.lo.length ≤ 20) && (decide (r.hi.length ≤ 20) && (decide (r.at_.length ≤ 20) && fewB r.rs))))
theorem Rq.Raw.at {r : Rq} {w : World} (h : r.Raw w) (hs : r.small = true) : r.At w := by
  unfold Rq.small at hs
  simp only [Bool.and_eq_true, decide_eq_true_eq] at hs
  exact ⟨h.k, h.l, h.h, h.a, h.s, fewR_big (fewB_iff.1 hs.2.2.2.2.2), by omega, by omega, by omega⟩
set_option maxRecDepth 100000 in
set_option maxHeartbeats 4000000 in
theorem small_ok (r : Rq) (w : World) (h : r.Raw w) : Calls Try.prog 6 #[.agg r.cells] w fun e w' => e = .returned (.bool r.small) ∧ Below w.heap.size w w' := by
  have HF := hid fun (V : World) (hV : Below w.heap.size w V) => few_ok r.rs r.rp r.rc V (h.s.below hV) h.ns
  obtain ⟨what, kp, kl, kc, data, lp, lo, lc, hp, hi, hc, ap, at_, ac, most, rp, rs, rc⟩ := r
  clear h
  dsimp only at HF
  dsimp only [Rq.cells]
  have HS : Hid (Rq.small ⟨what, kp, kl, kc, data, lp, lo, lc, hp, hi, hc, ap, at_, ac, most, rp, rs, rc⟩ = (decide (kl.length ≤ 20) && (decide (data.size ≤ 100) && (decide (lo.length ≤ 20) && (decide (hi.length ≤ 20) && (decide (at_.length ≤ 20) && fewB rs)))))) := hid rfl
  have HB0 := hid (below_alloc w (.cells #[.int .i64 what, .slice kp kl.length kc, .string data, .slice lp lo.length lc, .slice hp hi.length hc, .slice ap at_.length ac, .int .i64 most, .slice rp rs.length rc] 29))
  rw [HS.out]
  clear HS
  by_cases c0 : kl.length ≤ 20
  case neg =>
    have e0 : decide ((kl.length : Int) ≤ 20) = false := by simp; omega
    have f0 : decide (kl.length ≤ 20) = false := decide_eq_false c0
    rw [f0]
    clear c0
    go_enter Try.func6, Try.ntmps6
    go_wp2_with fail
    go_ret
    exact ⟨by simp, HB0.out⟩
  have e0 : decide ((kl.length : Int) ≤ 20) = true := by simp; omega
  have f0 : decide (kl.length ≤ 20) = true := decide_eq_true c0
  by_cases c1 : data.size ≤ 100
  case neg =>
    have e1 : decide ((data.size : Int) ≤ 100) = false := by simp; omega
    have f1 : decide (data.size ≤ 100) = false := decide_eq_false c1
    rw [f1]
    clear c0 c1
    go_enter Try.func6, Try.ntmps6
    go_wp2_with fail
    go_ret
    exact ⟨by simp, HB0.out⟩
  have e1 : decide ((data.size : Int) ≤ 100) = true := by simp; omega
  have f1 : decide (data.size ≤ 100) = true := decide_eq_true c1
  by_cases c2 : lo.length ≤ 20
  case neg =>
    have e2 : decide ((lo.length : Int) ≤ 20) = false := by simp; omega
    have f2 : decide (lo.length ≤ 20) = false := decide_eq_false c2
    rw [f2]
    clear c0 c1 c2
    go_enter Try.func6, Try.ntmps6
    go_wp2_with fail
    go_ret
    exact ⟨by simp, HB0.out⟩
  have e2 : decide ((lo.length : Int) ≤ 20) = true := by simp; omega
  have f2 : decide (lo.length ≤ 20) = true := decide_eq_true c2
  by_cases c3 : hi.length ≤ 20
  case neg =>
    have e3 : decide ((hi.length : Int) ≤ 20) = false := by simp; omega
    have f3 : decide (hi.length ≤ 20) = false := decide_eq_false c3
    rw [f3]
    clear c0 c1 c2 c3
    go_enter Try.func6, Try.ntmps6
    go_wp2_with fail
    go_ret
    exact ⟨by simp, HB0.out⟩
  have e3 : decide ((hi.length : Int) ≤ 20) = true := by simp; omega
  have f3 : decide (hi.length ≤ 20) = true := decide_eq_true c3
  by_cases c4 : at_.length ≤ 20
  case neg =>
    have e4 : decide ((at_.length : Int) ≤ 20) = false := by simp; omega
    have f4 : decide (at_.length ≤ 20) = false := decide_eq_false c4
    rw [f4]
    clear c0 c1 c2 c3 c4
    go_enter Try.func6, Try.ntmps6
    go_wp2_with fail
    go_ret
    exact ⟨by simp, HB0.out⟩
  have e4 : decide ((at_.length : Int) ≤ 20) = true := by simp; omega
  have f4 : decide (at_.length ≤ 20) = true := decide_eq_true c4
  rw [f0, f1, f2, f3, f4]
  clear c0 c1 c2 c3 c4
  generalize fewB rs = bb at *
  go_enter Try.func6, Try.ntmps6
  go_wp2_with fail
  refine (HF.out _ HB0.out).mono ?_
  rintro e w2 ⟨rfl, rfl⟩
  go_wp2_with fail
  go_ret
  exact ⟨by simp, HB0.out⟩
set_option maxRecDepth 100000 in
set_option maxHeartbeats 8000000 in
theorem live_any (w : World) : Calls Try.prog 7 #[] w fun e w' => e = .returned (.bool true) ∧ Below w.heap.size w w' := by
  have H0 := hid ((Cx.start w).point (l := [1]) (by simp) (cs := #[.int .u32 1]) rfl)
  go_enter Try.func7, Try.ntmps7
  go_wp2_with fail
  refine (check_any ⟨1, some ⟨w.heap.size, 0, none⟩, [1], 1, ⟨#[]⟩, none, [], 0, none, [], 0, none, [], 0, 0, none, [], 0⟩ 1 true false _ ⟨H0.out.pt (by simp), Pt.nil _ _, Pt.nil _ _, ⟨fun j hj => absurd hj (Nat.not_lt_zero j), fun j hj => absurd hj (Nat.not_lt_zero j)⟩, Rs.nil _, ⟨by simp, fun r hr => absurd hr (by simp)⟩, by simp, by simp, by simp⟩).mono ?_
  rintro e w1 ⟨rfl, hb⟩
  rw [show err (Rq.may ⟨1, some ⟨w.heap.size, 0, none⟩, [1], 1, ⟨#[]⟩, none, [], 0, none, [], 0, none, [], 0, 0, none, [], 0⟩ 1 true false) = 0 from rfl]
  have H1 := hid ((H0.out.step hb).point (l := [1]) (by simp) (cs := #[.int .u32 1]) rfl)
  clear hb H0
  go_wp2_with fail
  refine (check_any ⟨1, some ⟨w1.heap.size, 0, none⟩, [1], 1, ⟨#[]⟩, none, [], 0, none, [], 0, none, [], 0, 0, none, [], 0⟩ 2 true false _ ⟨H1.out.pt (by simp), Pt.nil _ _, Pt.nil _ _, ⟨fun j hj => absurd hj (Nat.not_lt_zero j), fun j hj => absurd hj (Nat.not_lt_zero j)⟩, Rs.nil _, ⟨by simp, fun r hr => absurd hr (by simp)⟩, by simp, by simp, by simp⟩).mono ?_
  rintro e w2 ⟨rfl, hb⟩
  rw [show err (Rq.may ⟨1, some ⟨w1.heap.size, 0, none⟩, [1], 1, ⟨#[]⟩, none, [], 0, none, [], 0, none, [], 0, 0, none, [], 0⟩ 2 true false) = 1 from rfl]
  have H2 := hid ((H1.out.step hb).point (l := [1]) (by simp) (cs := #[.int .u32 1]) rfl)
  clear hb H1
  go_wp2_with fail
  refine (check_any ⟨1, some ⟨w2.heap.size, 0, none⟩, [1], 1, ⟨#[]⟩, none, [], 0, none, [], 0, none, [], 0, 0, none, [], 0⟩ 1 false false _ ⟨H2.out.pt (by simp), Pt.nil _ _, Pt.nil _ _, ⟨fun j hj => absurd hj (Nat.not_lt_zero j), fun j hj => absurd hj (Nat.not_lt_zero j)⟩, Rs.nil _, ⟨by simp, fun r hr => absurd hr (by simp)⟩, by simp, by simp, by simp⟩).mono ?_
  rintro e w3 ⟨rfl, hb⟩
  rw [show err (Rq.may ⟨1, some ⟨w2.heap.size, 0, none⟩, [1], 1, ⟨#[]⟩, none, [], 0, none, [], 0, none, [], 0, 0, none, [], 0⟩ 1 false false) = 1 from rfl]
  have H3 := hid ((H2.out.step hb))
  clear hb H2
  go_wp2_with fail
  refine (check_any ⟨10, none, [], 0, ⟨#[]⟩, none, [], 0, none, [], 0, none, [], 0, 0, none, [], 0⟩ 1 true false _ ⟨Pt.nil _ _, Pt.nil _ _, Pt.nil _ _, ⟨fun j hj => absurd hj (Nat.not_lt_zero j), fun j hj => absurd hj (Nat.not_lt_zero j)⟩, Rs.nil _, ⟨by simp, fun r hr => absurd hr (by simp)⟩, by simp, by simp, by simp⟩).mono ?_
  rintro e w4 ⟨rfl, hb⟩
  rw [show err (Rq.may ⟨10, none, [], 0, ⟨#[]⟩, none, [], 0, none, [], 0, none, [], 0, 0, none, [], 0⟩ 1 true false) = 1 from rfl]
  have H4 := hid ((H3.out.step hb))
  clear hb H3
  go_wp2_with fail
  refine (check_any ⟨9, none, [], 0, ⟨#[]⟩, none, [], 0, none, [], 0, none, [], 0, 0, none, [], 0⟩ 1 true true _ ⟨Pt.nil _ _, Pt.nil _ _, Pt.nil _ _, ⟨fun j hj => absurd hj (Nat.not_lt_zero j), fun j hj => absurd hj (Nat.not_lt_zero j)⟩, Rs.nil _, ⟨by simp, fun r hr => absurd hr (by simp)⟩, by simp, by simp, by simp⟩).mono ?_
  rintro e w5 ⟨rfl, hb⟩
  rw [show err (Rq.may ⟨9, none, [], 0, ⟨#[]⟩, none, [], 0, none, [], 0, none, [], 0, 0, none, [], 0⟩ 1 true true) = 1 from rfl]
  have H5 := hid ((H4.out.step hb))
  clear hb H4
  go_wp2_with fail
  refine (check_any ⟨13, none, [], 0, ⟨#[]⟩, none, [], 0, none, [], 0, none, [], 0, 0, none, [], 0⟩ 1 true false _ ⟨Pt.nil _ _, Pt.nil _ _, Pt.nil _ _, ⟨fun j hj => absurd hj (Nat.not_lt_zero j), fun j hj => absurd hj (Nat.not_lt_zero j)⟩, Rs.nil _, ⟨by simp, fun r hr => absurd hr (by simp)⟩, by simp, by simp, by simp⟩).mono ?_
  rintro e w6 ⟨rfl, hb⟩
  rw [show err (Rq.may ⟨13, none, [], 0, ⟨#[]⟩, none, [], 0, none, [], 0, none, [], 0, 0, none, [], 0⟩ 1 true false) = 1 from rfl]
  have H6 := hid ((H5.out.step hb))
  clear hb H5
  have H7 := hid ((H6.out.alloc (.cells #[.int .i64 1] 3)).point (l := [7]) (by simp) (cs := #[.int .u32 7]) rfl)
  simp only [World.size_alloc] at H7
  have HI : Hid (Is ((w6.alloc (.cells #[.int .i64 1] 3)).alloc (.cells #[.int .u32 7] 47)) (some ⟨w6.heap.size, 0, none⟩) [1]) := hid (by
    have h := (is_new w6 [1] (by simp)).below (below_alloc _ (.cells #[.int .u32 7] 47))
    exact h)
  go_wp2_with fail
  refine (pbox_any ⟨5, some ⟨w6.heap.size + 1, 0, none⟩, [7], 1, ⟨#[]⟩, none, [], 0, none, [], 0, some ⟨w6.heap.size, 0, none⟩, [1], 1, 0, none, [], 0⟩ 2 _ ⟨H7.out.pt (by simp), Pt.nil _ _, Pt.nil _ _, HI.out, Rs.nil _, ⟨by simp, fun r hr => absurd hr (by simp)⟩, by simp, by simp, by simp⟩).mono ?_
  rintro e w7 ⟨A3, c3, A3', c3', rfl, p1, p2, hb⟩
  rw [show Rq.bLo ⟨5, some ⟨w6.heap.size + 1, 0, none⟩, [7], 1, ⟨#[]⟩, none, [], 0, none, [], 0, some ⟨w6.heap.size, 0, none⟩, [1], 1, 0, none, [], 0⟩ 2 = [0, 7] from rfl, show Rq.bHi ⟨5, some ⟨w6.heap.size + 1, 0, none⟩, [7], 1, ⟨#[]⟩, none, [], 0, none, [], 0, some ⟨w6.heap.size, 0, none⟩, [1], 1, 0, none, [], 0⟩ 2 = [4294967295, 7] from rfl, show err (Rq.bok ⟨5, some ⟨w6.heap.size + 1, 0, none⟩, [7], 1, ⟨#[]⟩, none, [], 0, none, [], 0, some ⟨w6.heap.size, 0, none⟩, [1], 1, 0, none, [], 0⟩ 2) = 0 from rfl]
  rw [show Rq.bLo ⟨5, some ⟨w6.heap.size + 1, 0, none⟩, [7], 1, ⟨#[]⟩, none, [], 0, none, [], 0, some ⟨w6.heap.size, 0, none⟩, [1], 1, 0, none, [], 0⟩ 2 = [0, 7] by rfl] at p1
  rw [show Rq.bHi ⟨5, some ⟨w6.heap.size + 1, 0, none⟩, [7], 1, ⟨#[]⟩, none, [], 0, none, [], 0, some ⟨w6.heap.size, 0, none⟩, [1], 1, 0, none, [], 0⟩ 2 = [4294967295, 7] by rfl] at p2
  have H8 := hid ((((H7.out.step hb).more p2).more p1).box #[.slice A3 2 c3, .slice A3' 2 c3'])
  clear hb p1 p2 H6 H7 HI
  have H9 := hid (H8.out.point (l := [7]) (by simp) (cs := #[.int .u32 7]) rfl)
  simp only [World.size_alloc] at H9
  go_wp2_with fail
  refine (pbox_any ⟨3, some ⟨w7.heap.size + 1, 0, none⟩, [7], 1, ⟨#[]⟩, none, [], 0, none, [], 0, none, [], 0, 0, none, [], 0⟩ 1 _ ⟨H9.out.pt (by simp), Pt.nil _ _, Pt.nil _ _, ⟨fun j hj => absurd hj (Nat.not_lt_zero j), fun j hj => absurd hj (Nat.not_lt_zero j)⟩, Rs.nil _, ⟨by simp, fun r hr => absurd hr (by simp)⟩, by simp, by simp, by simp⟩).mono ?_
  rintro e w8 ⟨A4, c4, A4', c4', rfl, -, -, hb⟩
  rw [show Rq.bLo ⟨3, some ⟨w7.heap.size + 1, 0, none⟩, [7], 1, ⟨#[]⟩, none, [], 0, none, [], 0, none, [], 0, 0, none, [], 0⟩ 1 = [] from rfl, show Rq.bHi ⟨3, some ⟨w7.heap.size + 1, 0, none⟩, [7], 1, ⟨#[]⟩, none, [], 0, none, [], 0, none, [], 0, 0, none, [], 0⟩ 1 = [] from rfl, show err (Rq.bok ⟨3, some ⟨w7.heap.size + 1, 0, none⟩, [7], 1, ⟨#[]⟩, none, [], 0, none, [], 0, none, [], 0, 0, none, [], 0⟩ 1) = 1 from rfl]
  have H10 := hid ((H9.out.step hb).box #[.slice A4 0 c4, .slice A4' 0 c4'])
  clear hb H8 H9
  have H11 := hid ((H10.out.point (l := [0, 7]) (by simp) (cs := #[.int .u32 0, .int .u32 7]) rfl).point (l := [4294967295, 7]) (by simp) (cs := #[.int .u32 4294967295, .int .u32 7]) rfl)
  simp only [World.size_alloc] at H11
  have x := H10.out.cells (g := w7.heap.size) (x := .slice A3 2 c3) (y := .slice A3' 2 c3') (by simp)
  go_wp2_with fail
  refine (sameBox_ok [0, 7] [4294967295, 7] [0, 7] [4294967295, 7] _ _ _ _ _ _ _ _ _ (H11.out.pt (p := A3) (by simp)) (H11.out.pt (p := A3') (by simp)) (H11.out.pt (p := some ⟨w8.heap.size + 1, 0, none⟩) (by simp)) (H11.out.pt (p := some ⟨w8.heap.size + 1 + 1, 0, none⟩) (by simp)) (by simp) (by simp)).mono ?_
  rintro e w9 ⟨rfl, hb⟩
  rw [show sameBoxB [0, 7] [4294967295, 7] [0, 7] [4294967295, 7] = true by decide]
  have H12 := hid (H11.out.step hb)
  clear hb H10 H11 x
  go_wp2_with fail
  go_ret
  exact ⟨rfl, H12.out.below⟩
end Go.Proofs.Ytolnbamdddiifaa.Rq
