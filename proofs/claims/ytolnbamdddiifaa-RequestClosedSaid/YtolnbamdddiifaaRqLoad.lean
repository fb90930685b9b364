/- What must be so of a Load: all records may be. -/
import Derived.Test.YtolnbamdddiifaaRqBase
namespace Go.Proofs.Ytolnbamdddiifaa.Rq
open Go.RowKit
open Go.Lib (hid)
open Go.Proofs.Ytolnbamdddiifaa.Ky
open Go.Proofs.Ytolnbamdddiifaa.Bk
set_option maxHeartbeats 400000 in
theorem wrongcl_ok (kn c : Nat) (q : Option Addr) (t : ByteArray) (d : Int) (B : Nat) (w : World) (hB : w.cell? ⟨B, 0, none⟩ = some (.int .i64 d)) (hl : B < w.heap.size) :
    Calls Try.prog 40 #[.agg #[.slice q kn c, .string t], .pointer (some ⟨B, 0, none⟩)] w (Bl w (!(checkB kn d && decide (t.size ≤ 40)))) := by
  have HB0 := hid (below_alloc w (.cells #[.slice q kn c, .string t] 56))
  have x0 := (HB0.out.cell (p := ⟨B, 0, none⟩) hl).trans hB
  have HC := hid fun V => atlasCheck_ok q kn c t d V
  clear hB hl
  generalize (checkB kn d && decide (t.size ≤ 40)) = b at *
  cases b
  all_goals
    first | rw [err_true true rfl] at HC | rw [err_false false rfl] at HC
    go_enter Try.func40, Try.ntmps40
    go_wp2_with (go_at_call 37; refine (HC.out _).mono ?_; rintro e w2 ⟨rfl, hb⟩; have HB := hid (HB0.out.trans (hb.mono HB0.out.size)); clear hb)
    go_ret
    exact ⟨rfl, HB.out⟩
def IdxPost (w : World) (b : Bool) (e : Ending) (w' : World) : Prop := ∃ r : Int, e = .returned (.int .i64 r) ∧ decide (0 ≤ r) = b ∧ Below w.heap.size w w'
set_option maxRecDepth 100000 in
set_option maxHeartbeats 2000000 in
theorem indexFunc_ok {D : Nat → Prop} (L : List Rec) (s : Option Addr) (c B : Nat) (d : Int) (w : World) (hs : Rs D w s L) (hl : bigR L)
    (hA : w.cell? ⟨B, 0, none⟩ = some (.int .i64 d)) (hB : B < w.heap.size) :
    Calls Try.prog 44 #[.slice s L.length c, .func (.func 40) #[] #[.pointer (some ⟨B, 0, none⟩)]] w (IdxPost w (!mayAll L d)) := by
  have HS := hid hs; have HL := hid hl; have hlen := hl.1
  have HCL := hid fun (V : World) (hb : Below w.heap.size w V) (kn : Nat) (t : ByteArray) (q : Option Addr) (cq : Nat) => wrongcl_ok kn cq q t d B V ((hb.cell (p := ⟨B, 0, none⟩) hB).trans hA) (Nat.lt_of_lt_of_le hB hb.size)
  clear hs hl hA hB
  go_enter Try.func44, Try.ntmps44
  go_wp2_with fail
  go_loopw [8] (fun i wr => ∃ k : Nat, k ≤ L.length ∧ i = .int .i64 k ∧ mayAll (L.take k) d = true ∧ Below w.heap.size w wr) (fun i _ => L.length - (intOf i).toNat)
  case atStart => exact ⟨0, by omega, rfl, rfl, Below.refl _ _⟩
  case round =>
    obtain ⟨k, hk, rfl, ha, hb⟩ := hrel
    have HA := hid ha; have HB := hid hb; clear ha hb
    by_cases hlt : k < L.length
    · obtain ⟨b, off, q, c1, rfl, _, d1, d2, hq⟩ := (HS.out.below HB.out).at k hlt
      have HC := hid (HCL.out wr HB.out L[k].1.length L[k].2 q c1)
      have HE : Hid ((checkB L[k].1.length d && decide (L[k].2.size ≤ 40)) = mayR L[k] d) := hid (by unfold mayR checkB mayB; rw [Bool.and_assoc]; congr 1; rw [Bool.eq_iff_iff]; simp)
      cases hin : mayR L[k] d with
      | false =>
        have HR : Hid (mayAll L d = false) := hid (mayAll_no hlt hin)
        rw [HE.out, hin] at HC
        clear hin HE hq
        generalize L[k].1.length = x at d1 HC
        generalize L[k].2 = t at d2 HC
        go_wp2_with (go_at_call 40; refine HC.out.mono ?_; rintro e w2 ⟨rfl, hb⟩; have HB2 := hid (HB.out.trans (hb.mono HB.out.size)); clear hb)
        go_ret
        exact ⟨_, rfl, by rw [HR.out]; simp, HB2.out⟩
      | true =>
        have HN2 : Hid (mayAll (L.take (k + 1)) d = true) := hid (mayAll_take hlt HA.out hin)
        rw [HE.out, hin] at HC
        clear hin HE hq
        generalize L[k].1.length = x at d1 HC
        generalize L[k].2 = t at d2 HC
        go_wp2_with (go_at_call 40; refine HC.out.mono ?_; rintro e w2 ⟨rfl, hb⟩; have HB2 := hid (HB.out.trans (hb.mono HB.out.size)); clear hb)
        go_roundw
        case rel => exact ⟨k + 1, by omega, by go_num, HN2.out, HB2.out⟩
        case measure => simp [intOf]; omega
    · obtain rfl : k = L.length := by omega
      have HR : Hid (mayAll L d = true) := hid (by have := HA.out; rw [List.take_length] at this; exact this)
      go_wp2_with fail
      go_ret
      exact ⟨-1, rfl, by rw [HR.out]; simp, HB.out⟩
set_option maxRecDepth 100000 in
set_option maxHeartbeats 1000000 in
theorem loaded_ok (r : Rq) (d : Int) (inside : Bool) (w : World) (h : r.At w) : Calls Try.prog 31 #[.agg r.cells, .int .i64 d, .bool inside] w (Bl w (decide (r.rs.length ≤ 1000) && mayAll r.rs d)) := by
  obtain ⟨what, kp, kl, kc, data, lp, lo, lc, hp, hi, hc, ap, at_, ac, most, rp, rs, rc⟩ := r
  dsimp only [Rq.cells] at h ⊢
  have hs := h.s; have hbig := h.big
  dsimp only at hs hbig
  clear h
  have h1 : decide ((rs.length : Int) ≤ 1000) = true := by have := hbig.1; simp; omega
  have h1' : decide (rs.length ≤ 1000) = true := decide_eq_true hbig.1
  rw [h1', Bool.true_and]
  obtain ⟨V0, hV0⟩ : ∃ V, w.alloc (.cells #[.int .i64 what, .slice kp kl.length kc, .string data, .slice lp lo.length lc, .slice hp hi.length hc, .slice ap at_.length ac, .int .i64 most, .slice rp rs.length rc] 37) = V := ⟨_, rfl⟩
  have hb0 : Below w.heap.size w V0 := by rw [← hV0]; exact below_alloc _ _
  have hx : V0.heap[w.heap.size]? = some (.cells #[.int .i64 what, .slice kp kl.length kc, .string data, .slice lp lo.length lc, .slice hp hi.length hc, .slice ap at_.length ac, .int .i64 most, .slice rp rs.length rc] 37 (0, 0)) := by rw [← hV0]; exact heap_alloc_new _ _
  obtain ⟨V, hV⟩ : ∃ V, V0.alloc (.cells #[.int .i64 d] 3) = V := ⟨_, rfl⟩
  have hb1 : Below V0.heap.size V0 V := by rw [← hV]; exact below_alloc _ _
  have hd : V.cell? ⟨V0.heap.size, 0, none⟩ = some (.int .i64 d) := by
    have h : V.heap[V0.heap.size]? = some (.cells #[.int .i64 d] 3 (0, 0)) := by rw [← hV]; exact heap_alloc_new _ _
    rw [cell_of_row _ _ _ _ _ _ h]; rfl
  have hdl : V0.heap.size < V.heap.size := by rw [← hV]; simp
  have x7 : V.cell? ⟨w.heap.size, 7, none⟩ = some (.slice rp rs.length rc) := by
    rw [cell_of_row _ _ _ _ _ _ ((hb1.block _ (Array.getElem?_eq_some_iff.1 hx).1).trans hx)]; rfl
  have HI := hid (indexFunc_ok rs rp rc V0.heap.size d V ((hs.below hb0).below hb1) hbig hd hdl)
  have HB := hid (hb0.trans (hb1.mono hb0.size))
  have HC : Hid (Calls Try.prog 41 #[.slice rp rs.length rc, .func (.func 40) #[] #[.pointer (some ⟨V0.heap.size, 0, none⟩)]] V fun e w' => e = .returned (.bool (!mayAll rs d)) ∧ Below V.heap.size V w') := hid (by
    clear hb0 hb1 hx hd hdl x7 hV hV0 h1 h1' hs hbig
    go_enter Try.func41, Try.ntmps41
    go_wp2_with fail
    refine HI.out.mono ?_
    rintro e w2 ⟨n, rfl, hn, hb⟩
    have HN := hid hn; have HB := hid hb; clear hn hb
    go_wp2_with fail
    go_ret
    exact ⟨by show Ending.returned (.bool (decide (0 ≤ n))) = _; rw [HN.out], HB.out⟩)
  clear HI hs hbig hb0 hb1 hx hd hdl
  generalize mayAll rs d = b at *
  go_enter Try.func31, Try.ntmps31
  go_wp2_with fail
  refine HC.out.mono ?_
  rintro e w2 ⟨rfl, hb2⟩
  have HB2 := hid (HB.out.trans (hb2.mono HB.out.size)); clear hb2 hV hV0 x7
  go_wp2_with fail
  go_ret
  exact ⟨by simp, HB2.out⟩
end Go.Proofs.Ytolnbamdddiifaa.Rq
