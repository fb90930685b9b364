/- Both atlases' calls, one contract each, whatever is asked. -/
import Derived.Test.YtmniaaledplhfaaAtShort
namespace Go.Proofs.Ytmniaaledplhfaa.At
open Go.RowKit
open Go.Lib (hid)
open Go.Proofs.Ytmniaaledplhfaa.Ky Go.Proofs.Ytmniaaledplhfaa.Bk Go.Proofs.Ytmniaaledplhfaa.Pt

section
variable {w V V' : World} {b c : Nat} {v v' u u' : Value} {L L' K K' : List Rec} {d : Int}
/-- what the code's records are behind a Put, behind a Delete -/
def putA (L : List Rec) (k : List Nat) (t : ByteArray) (d : Int) : List Rec := if recB k t d = true then putR L (k, t) else L
def delA (L : List Rec) (k : List Nat) (d : Int) : List Rec := if checkB k.length d = true then cutR L k else L
def delE (L : List Rec) (k : List Nat) (d : Int) : Int := if checkB k.length d = true then (if hasN L k = true then 0 else 5) else 1
def getA (L : List Rec) (k : List Nat) (d : Int) : ByteArray := if checkB k.length d = true ∧ hasN L k = true then dataAt L k else ⟨#[]⟩
def winA (L : List Rec) (lo hi : List Nat) (d : Int) : List Rec := if boxB lo hi d = true then winR L lo hi else []
theorem pq_coords (h : Pq w V b v L c u K d) : Calls Try.prog 29 #[.pointer (some ⟨b, 0, none⟩)] V fun e w2 => e = .returned (.int .i64 d) ∧ V = w2 := h.a.coords V (Below.refl _ _)
theorem uput (h : Pq w V b v L c u K d) (k : List Nat) (t : ByteArray) (q : Option Addr) (c' : Nat) (hq : Pt V q k) (hl : L.length < 1000) :
    Calls Try.prog 12 #[.pointer (some ⟨b, 0, none⟩), .agg #[.slice q k.length c', .string t]] V fun e w' => e = .returned (.int .i64 (err (recB k t d))) ∧ ∃ v', Pq w w' b v' (putA L k t d) c u K d ∧ Onl (FT b v) V w' ∧ ∀ j, j < V.heap.size → FT b v' j → FT b v j := by
  cases hr : recB k t d with
  | false =>
    rw [err_false false rfl, show putA L k t d = L by unfold putA; rw [hr]; rfl]
    exact (aw_put_bad h.a k t q c' hr).mono fun e w' ⟨h1, h2⟩ => ⟨h1, v, h.next h2, (Onl.ofBelow (F := fun _ => False) h2).wide (fun _ hf => hf.elim), fun _ _ hf => hf⟩
  | true =>
    rw [err_true true rfl, show putA L k t d = putR L (k, t) by unfold putA; rw [hr]; rfl]
    exact pq_put h k t q c' hq hr hl
theorem urput (h : Pq w V b v L c u K d) (k : List Nat) (t : ByteArray) (q : Option Addr) (c' : Nat) (hq : Pt V q k) (hl : K.length < 1000) :
    Calls Try.prog 13 #[.pointer (some ⟨c, 0, none⟩), .agg #[.slice q k.length c', .string t]] V fun e w' => e = .returned (.int .i64 (err (recB k t d))) ∧ ∃ u' K', (∀ M, EqR K M → EqR K' (putA M k t d)) ∧ Pq w w' b v L c u' K' d ∧ Onl (FT c u) V w' ∧ ∀ j, j < V.heap.size → FT c u' j → FT c u j := by
  cases hr : recB k t d with
  | false =>
    rw [err_false false rfl]
    exact (rput_bad k t q c' V h.r hr).mono fun e w' ⟨h1, h2⟩ => ⟨h1, u, K, fun M hM => by unfold putA; rw [hr]; exact hM, h.next h2, (Onl.ofBelow (F := fun _ => False) h2).wide (fun _ hf => hf.elim), fun _ _ hf => hf⟩
  | true =>
    rw [err_true true rfl]
    exact (pq_rput h k t q c' hq hr hl).mono fun e w' ⟨h1, u', K', h2, h3, h4, h5⟩ => ⟨h1, u', K', fun M hM => by unfold putA; rw [hr]; exact hM.put h2, h3, h4, h5⟩
theorem udel (h : Pq w V b v L c u K d) (k : List Nat) (q : Option Addr) (c' : Nat) (hq : Pt V q k) :
    Calls Try.prog 14 #[.pointer (some ⟨b, 0, none⟩), .slice q k.length c'] V fun e w' => e = .returned (.int .i64 (delE L k d)) ∧ ∃ v', Pq w w' b v' (delA L k d) c u K d ∧ Onl (FT b v) V w' ∧ ∀ j, j < V.heap.size → FT b v' j → FT b v j := by
  cases hr : checkB k.length d with
  | false =>
    rw [show delE L k d = 1 by unfold delE; rw [hr]; rfl, show delA L k d = L by unfold delA; rw [hr]; rfl]
    exact (del_bad k q c' d _ V (pq_coords h) hr).mono fun e w' ⟨h1, h2⟩ => ⟨h1, v, by rw [← h2]; exact h, by rw [← h2]; exact ⟨rfl, rfl, rfl, Nat.le_refl _, fun _ _ _ => rfl⟩, fun _ _ hf => hf⟩
  | true =>
    cases hn : hasN L k with
    | false =>
      rw [show delE L k d = 5 by unfold delE; rw [hr, hn]; rfl, show delA L k d = L by unfold delA cutR; rw [hr, hn]; rfl]
      exact (del_none k q c' V h.a.atl hq hr hn).mono fun e w' ⟨h1, h2⟩ => ⟨h1, v, h.next h2, (Onl.ofBelow (F := fun _ => False) h2).wide (fun _ hf => hf.elim), fun _ _ hf => hf⟩
    | true =>
      rw [show delE L k d = 0 by unfold delE; rw [hr, hn]; rfl, show delA L k d = cutR L k by unfold delA; rw [hr]; rfl]
      exact pq_del h k q c' hq hr hn
theorem urdel (h : Pq w V b v L c u K d) (k : List Nat) (q : Option Addr) (c' : Nat) (hq : Pt V q k) {M : List Rec} (hM : EqR K M) :
    Calls Try.prog 15 #[.pointer (some ⟨c, 0, none⟩), .slice q k.length c'] V fun e w' => e = .returned (.int .i64 (delE M k d)) ∧ ∃ u' K', EqR K' (delA M k d) ∧ Pq w w' b v L c u' K' d ∧ Onl (FT c u) V w' ∧ ∀ j, j < V.heap.size → FT c u' j → FT c u j :=
  (pq_rdel h k q c' hq).mono fun e w' ⟨r, u', K', h1, h2, h3, h4, h5⟩ => by
    obtain ⟨g1, g2⟩ := hM.del h2
    exact ⟨by rw [h1, g2]; rfl, u', K', g1, h3, h4, h5⟩
theorem uget (h : Pq w V b v L c u K d) (k : List Nat) (q : Option Addr) (c' : Nat) (hq : Pt V q k) :
    Calls Try.prog 16 #[.pointer (some ⟨b, 0, none⟩), .slice q k.length c'] V fun e w' => e = .returned (.tuple #[.string (getA L k d), .int .i64 (delE L k d)]) ∧ Below V.heap.size V w' := by
  cases hr : checkB k.length d with
  | false =>
    rw [show delE L k d = 1 by unfold delE; rw [hr]; rfl, show getA L k d = ⟨#[]⟩ by unfold getA; rw [hr]; rfl]
    exact (get_bad k q c' d _ V (pq_coords h) hr).mono fun e w' ⟨h1, h2⟩ => ⟨h1, by rw [← h2]; exact Below.refl _ _⟩
  | true =>
    cases hn : hasN L k with
    | false =>
      rw [show delE L k d = 5 by unfold delE; rw [hr, hn]; rfl, show getA L k d = ⟨#[]⟩ by unfold getA; rw [hn]; simp]
      exact get_none k q c' V h.a.atl hq hr hn
    | true =>
      rw [show delE L k d = 0 by unfold delE; rw [hr, hn]; rfl, show getA L k d = dataAt L k by unfold getA; rw [hr, hn]; rfl]
      exact get_ok k q c' V h.a.atl hq hr hn
theorem urget (h : Pq w V b v L c u K d) (k : List Nat) (q : Option Addr) (c' : Nat) (hq : Pt V q k) {M : List Rec} (hM : EqR K M) :
    Calls Try.prog 17 #[.pointer (some ⟨c, 0, none⟩), .slice q k.length c'] V fun e w' => e = .returned (.tuple #[.string (getA M k d), .int .i64 (delE M k d)]) ∧ Below V.heap.size V w' :=
  (rget_ok k q c' V h.r hq).mono fun e w' ⟨s, x, h1, h2, n, h3⟩ => by
    refine ⟨?_, by rw [h3]; exact below_drewN (Below.refl _ _) n⟩
    rw [h1]
    rcases h2 with ⟨g1, rfl, rfl⟩ | ⟨g1, g2, rfl, rfl⟩ | ⟨g1, j, hj, g2, rfl⟩
    · rw [show delE M k d = 1 by unfold delE; rw [g1]; rfl, show getA M k d = ⟨#[]⟩ by unfold getA; rw [g1]; rfl]
    · have hn := hM.no g2
      rw [show delE M k d = 5 by unfold delE; rw [g1, hn]; rfl, show getA M k d = ⟨#[]⟩ by unfold getA; rw [hn]; simp]
    · have hn := hM.yes (k := k) hj (by rw [g2])
      rw [show delE M k d = 0 by unfold delE; rw [g1, hn]; rfl, show getA M k d = s by unfold getA; rw [g1, hn]; exact hM.at hj g2]
theorem uwin (h : Pq w V b v L c u K d) (lo hi : List Nat) (q r : Option Addr) (c' c'' : Nat) (hlo : Pt V q lo) (hhi : Pt V r hi) (hl : lo.length ≤ 9223372036854775807) :
    Calls Try.prog 18 #[.pointer (some ⟨b, 0, none⟩), .agg #[.slice q lo.length c', .slice r hi.length c'']] V fun e w' => ∃ p', e = .returned (.tuple #[.slice p' (winA L lo hi d).length (winA L lo hi d).length, .int .i64 (err (boxB lo hi d))]) ∧ Rs (Lt V.heap.size) w' p' (winA L lo hi d) ∧ Below V.heap.size V w' := by
  cases hr : boxB lo hi d with
  | false =>
    rw [err_false false rfl, show winA L lo hi d = [] by unfold winA; rw [hr]; rfl]
    exact (window_bad lo hi q r c' c'' d _ V h.a.coords hlo hhi hl hr).mono fun e w' ⟨p', h1, h2⟩ => ⟨p', h1, Rs.nil _, h2⟩
  | true =>
    rw [err_true true rfl, show winA L lo hi d = winR L lo hi by unfold winA; rw [hr]; rfl]
    exact window_ok lo hi q r c' c'' V h.a.atl hlo hhi hr
theorem ucount (h : Pq w V b v L c u K d) (lo hi : List Nat) (q r : Option Addr) (c' c'' : Nat) (hlo : Pt V q lo) (hhi : Pt V r hi) (hl : lo.length ≤ 9223372036854775807) :
    Calls Try.prog 20 #[.pointer (some ⟨b, 0, none⟩), .agg #[.slice q lo.length c', .slice r hi.length c'']] V fun e w' => e = .returned (.tuple #[.int .i64 ((winA L lo hi d).length : Int), .int .i64 (err (boxB lo hi d))]) ∧ Below V.heap.size V w' := by
  cases hr : boxB lo hi d with
  | false =>
    rw [err_false false rfl, show winA L lo hi d = [] by unfold winA; rw [hr]; rfl]
    exact count_bad lo hi q r c' c'' d _ V h.a.coords hlo hhi hl hr
  | true =>
    rw [err_true true rfl, show winA L lo hi d = winR L lo hi by unfold winA; rw [hr]; rfl]
    exact count_ok lo hi q r c' c'' V h.a.atl hlo hhi hr
theorem urwin (h : Pq w V b v L c u K d) (lo hi : List Nat) (q r : Option Addr) (c' c'' : Nat) (hlo : Pt V q lo) (hhi : Pt V r hi) (hl : lo.length ≤ 9223372036854775807) {M : List Rec} (hM : EqR K M) :
    Calls Try.prog 19 #[.pointer (some ⟨c, 0, none⟩), .agg #[.slice q lo.length c', .slice r hi.length c'']] V fun e w' => ∃ p' c2, e = .returned (.tuple #[.slice p' (winA M lo hi d).length c2, .int .i64 (err (boxB lo hi d))]) ∧ Rs (fun _ => False) w' p' (winA M lo hi d) ∧ Below V.heap.size V w' := by
  cases hr : boxB lo hi d with
  | false =>
    rw [err_false false rfl, show winA M lo hi d = [] by unfold winA; rw [hr]; rfl]
    exact (rwindow_bad lo hi q r c' c'' V h.r hlo hhi hl hr).mono fun e w' ⟨h1, h2⟩ => ⟨none, 0, h1, Rs.nil _, h2⟩
  | true =>
    rw [err_true true rfl, show winA M lo hi d = winR M lo hi by unfold winA; rw [hr]; rfl, ← hM.sort]
    exact rwindow_ok lo hi q r c' c'' V h.r hlo hhi hr
end
end Go.Proofs.Ytmniaaledplhfaa.At
