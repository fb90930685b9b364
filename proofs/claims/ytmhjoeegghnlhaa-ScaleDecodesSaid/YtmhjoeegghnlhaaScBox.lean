/- Box of a scale: whether all numbers may be (all, and its closure); the box of cells. -/
import Derived.Test.YtmhjoeegghnlhaaScSiz
import Derived.Test.YtmhjoeegghnlhaaKyPart
namespace Go.Proofs.Ytmhjoeegghnlhaa.Sc
open Go.RowKit
open Go.Lib (hid)
open Go.Proofs.Ytmhjoeegghnlhaa.Ky Go.Proofs.Ytmhjoeegghnlhaa.Bk

set_option maxRecDepth 100000 in
set_option maxHeartbeats 1000000 in
theorem allBox_ok (n : Nat) (p : Nat → Bool) (x y z : Value) (w : World) (hn : n ≤ 1000000)
    (hf : ∀ (m i : Nat), i < n → Calls Try.prog 47 #[.int .i64 (i : Int), x, y, z] (w.drewN m) fun e w' => e = .returned (.bool (p i)) ∧ ∃ q, w' = (w.drewN m).drewN q) :
    Calls Try.prog 48 #[.int .i64 (n : Int), .func (.func 47) #[] #[x, y, z]] w fun e w' => e = .returned (.bool ((List.range n).all p)) ∧ ∃ q, w' = w.drewN q := by
  have HF := hid hf; clear hf
  go_enter Try.func48, Try.ntmps48
  go_wp2_with fail
  go_loopw [7] (fun s7 wr => ∃ i q : Nat, s7 = .int .i64 i ∧ i ≤ n ∧ wr = w.drewN q ∧ Hid (∀ t, t < i → p t = true)) (fun s7 _ => n - (intOf s7).toNat)
  case atStart => exact ⟨0, 0, rfl, by omega, rfl, hid fun t h => absurd h (by omega)⟩
  case round =>
    obtain ⟨i, q, rfl, hi, hwr, I⟩ := hrel
    have HW := hid hwr; clear hwr
    by_cases hlt : i < n
    · have hc := HF.out q i hlt
      rw [← HW.out] at hc
      have HC := hid hc
      have e1 : decide ((i : Int) < (n : Int)) = true := by simpa using hlt
      have e1' : decide (i < n) = true := by simpa using hlt
      have s1 : IntKind.i64.wrap ((i : Int) + 1) = ((i + 1 : Nat) : Int) := Go.IntWalk.i64_in _ (by omega)
      have HI := hid hlt
      clear hc hi hlt
      cases hp : p i with
      | false =>
        rw [hp] at HC
        have HN := hid (show (List.range n).all p = false by rw [List.all_eq_false]; exact ⟨i, List.mem_range.2 HI.out, by rw [hp]; simp⟩)
        clear hp I
        go_wp2_with (go_at_call 47; refine HC.out.mono ?_; rintro e w' ⟨rfl, nq, hw'⟩; have HW2 := hid (show w' = w.drewN (q + nq) by rw [hw', HW.out, World.drewN_drewN]); clear hw')
        go_ret
        exact ⟨by rw [HN.out]; rfl, _, HW2.out⟩
      | true =>
        rw [hp] at HC
        have HN : Hid (∀ t, t < i + 1 → p t = true) := hid fun t ht => by
          rcases Nat.lt_or_ge t i with h | h
          · exact I.out t h
          · obtain rfl : t = i := by omega
            exact hp
        clear hp I
        go_wp2_with (go_at_call 47; refine HC.out.mono ?_; rintro e w' ⟨rfl, nq, hw'⟩; have HW2 := hid (show w' = w.drewN (q + nq) by rw [hw', HW.out, World.drewN_drewN]); clear hw')
        go_roundw
        case rel => exact ⟨i + 1, q + nq, rfl, HI.out, HW2.out, HN⟩
        case measure => simp [intOf]; have := HI.out; omega
    · obtain rfl : i = n := by omega
      have HN := hid (show (List.range i).all p = true by rw [List.all_eq_true]; exact fun t ht => I.out t (List.mem_range.1 ht))
      have e1 : decide ((i : Int) < (i : Int)) = false := by simp
      clear I hlt hi
      go_wp2_with fail
      go_ret
      exact ⟨by rw [HN.out]; rfl, q, HW.out⟩
/-- may the numbers of a coordinate be? -/
def riseS (bs : List (List Nat)) (lo hi : List Int) (i : Nat) : Bool := decide (0 ≤ lo.getD i 0) && (decide (lo.getD i 0 ≤ hi.getD i 0) && decide (hi.getD i 0 ≤ ((bs.getD i []).length : Int)))
set_option maxRecDepth 100000 in
set_option maxHeartbeats 2000000 in
theorem rise_ok (N b R : Nat) (vs : List Value) (bs : List (List Nat)) (lo hi : List Int) (p q : Option Addr) (c c' n gl gh gs i : Nat) (w : World) (h : Sc N w b R vs bs) (hlo : Is w p lo) (hhi : Is w q hi) (hl : lo.length = n) (hh : hi.length = n) (hn : bs.length = n) (hin : i < n)
    (h1 : w.cell? ⟨gl, 0, none⟩ = some (.slice p n c)) (h2 : w.cell? ⟨gh, 0, none⟩ = some (.slice q n c')) (h3 : w.cell? ⟨gs, 0, none⟩ = some (.pointer (some ⟨b, 0, none⟩))) :
    Calls Try.prog 47 #[.int .i64 (i : Int), .pointer (some ⟨gl, 0, none⟩), .pointer (some ⟨gh, 0, none⟩), .pointer (some ⟨gs, 0, none⟩)] w fun e w' => e = .returned (.bool (riseS bs lo hi i)) ∧ ∃ m, w' = w.drewN m := by
  obtain ⟨b1, o1, rfl, _, c1⟩ := hlo.cells i (by omega)
  obtain ⟨b2, o2, rfl, _, c2⟩ := hhi.cells i (by omega)
  obtain ⟨l, hlb⟩ : ∃ l, bs[i]? = some l := ⟨_, List.getElem?_eq_getElem (by omega)⟩
  obtain ⟨v, pv, cv, hv, hvp, hcl, hfr, hpt, hown, hlc⟩ := h.at hlb
  have hcb := h.cell.1
  rw [hn] at hcb
  have e0 : lo.getD i 0 = lo[i] := by rw [List.getD_eq_getElem?_getD, List.getElem?_eq_getElem (by omega)]; rfl
  have e0' : hi.getD i 0 = hi[i] := by rw [List.getD_eq_getElem?_getD, List.getElem?_eq_getElem (by omega)]; rfl
  have e0'' : bs.getD i [] = l := by rw [List.getD_eq_getElem?_getD, hlb]; rfl
  have HR := hid (show riseS bs lo hi i = (decide (0 ≤ lo[i]) && (decide (lo[i] ≤ hi[i]) && decide (hi[i] ≤ (l.length : Int)))) by unfold riseS; rw [e0, e0', e0''])
  rw [HR.out]
  have z1 : (0 : Int) ≤ (i : Int) := by omega
  have z2 : (i : Int) < (n : Int) := by omega
  generalize lo[i] = x at c1
  generalize hi[i] = y at c2
  clear h hlo hhi hl hh hn hin HR e0 e0' e0'' hlb hv hvp hfr hpt hown hlc
  by_cases t1 : 0 ≤ x
  · have d1 : decide (0 ≤ x) = true := by simpa using t1
    by_cases t2 : x ≤ y
    · have d2 : decide (x ≤ y) = true := by simpa using t2
      rw [d1, d2]
      clear t1 t2
      go_enter Try.func47, Try.ntmps47
      go_wp2_with fail
      go_quiet (fail)
      go_wp2_with fail
      go_ret
      exact ⟨rfl, _, rfl⟩
    · have d2 : decide (x ≤ y) = false := by simpa using t2
      rw [d1, d2]
      clear t1 t2
      go_enter Try.func47, Try.ntmps47
      go_wp2_with fail
      go_quiet (fail)
      go_wp2_with fail
      go_ret
      exact ⟨rfl, _, rfl⟩
  · have d1 : decide (0 ≤ x) = false := by simpa using t1
    rw [d1]
    clear t1
    go_enter Try.func47, Try.ntmps47
    go_wp2_with fail
    go_quiet (fail)
    go_wp2_with fail
    go_ret
    exact ⟨rfl, _, rfl⟩
end Go.Proofs.Ytmhjoeegghnlhaa.Sc
