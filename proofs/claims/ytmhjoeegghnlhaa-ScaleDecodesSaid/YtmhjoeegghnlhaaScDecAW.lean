/- Merged out of ScRk, ScRf, ScRr, ScRs, ScRs2, ScRb, ScRm, ScNum, ScRe, ScCp, ScPs, ScDp, ScRd, ScDecW. -/
import Derived.Test.YtmhjoeegghnlhaaScPut
import Derived.Test.YtmhjoeegghnlhaaScPl
import Derived.Test.YtmhjoeegghnlhaaScPl2
import Derived.Test.YtmhjoeegghnlhaaIntApp
import Derived.Test.YtmhjoeegghnlhaaScBox3
import Derived.Test.YtmhjoeegghnlhaaKyRPart
import Derived.Test.YtmhjoeegghnlhaaScNil
import Derived.Test.YtmhjoeegghnlhaaFdField2
import Derived.Test.YtmhjoeegghnlhaaFdOf
import Derived.Test.YtmhjoeegghnlhaaScEnc
import Derived.Test.YtmhjoeegghnlhaaScEncode
import Derived.Test.YtmhjoeegghnlhaaScRead
import Derived.Test.YtmhjoeegghnlhaaScMeetsW
import Derived.Test.YtmhjoeegghnlhaaScNilW
import Derived.Test.YtmhjoeegghnlhaaScDec
/- The document's own scale in memory; New of it (out of the code's own by a program). -/
namespace Go.Proofs.Ytmhjoeegghnlhaa.Sc
open Go.RowKit
open Go.Lib (hid)
open Go.Proofs.Ytmhjoeegghnlhaa.Ky Go.Proofs.Ytmhjoeegghnlhaa.Bk

/-- a scale at b, whose rows stand in R: of each coordinate a row of the call's own -/
structure Rk (N : Nat) (w : World) (b R : Nat) (vs : List Value) (bs : List (List Nat)) : Prop where
  head : w.heap[b]? = some (.cells #[.slice (some ⟨R, 0, none⟩) bs.length bs.length] 73 (0, 0))
  row : w.heap[R]? = some (.cells vs.toArray 31 (0, 0))
  len : vs.length = bs.length
  own : ∀ (i : Nat) (v : Value) (l : List Nat), vs[i]? = some v → bs[i]? = some l → w.ownsRow N 30 1 v l.length (Bk.kl l)
  apart : ∀ (i j : Nat) (v u : Value) (k : Nat), vs[i]? = some v → vs[j]? = some u → v.ownBlock = some k → u.ownBlock = some k → i = j
  nb : ∀ v ∈ vs, v.ownBlock ≠ some b ∧ v.ownBlock ≠ some R
  lo : N ≤ b ∧ N ≤ R ∧ b ≠ R
  fit : ∀ l ∈ bs, (∀ x ∈ l, x < 4294967296) ∧ l.length ≤ 255
  dim : 1 ≤ bs.length ∧ bs.length ≤ 6
section
variable {N b R : Nat} {w w' : World} {vs : List Value} {bs : List (List Nat)}
theorem Rk.ltb (h : Rk N w b R vs bs) : b < w.heap.size := (Array.getElem?_eq_some_iff.1 h.head).1
theorem Rk.ltR (h : Rk N w b R vs bs) : R < w.heap.size := (Array.getElem?_eq_some_iff.1 h.row).1
theorem Rk.lt (h : Rk N w b R vs bs) : ∀ k, FS b R vs k → k < w.heap.size := by
  rintro k (rfl | rfl | ⟨v, hv, hk⟩)
  · exact h.ltb
  · exact h.ltR
  · obtain ⟨i, hi, rfl⟩ := List.getElem_of_mem hv
    have hib : i < bs.length := by rw [← h.len]; exact hi
    exact ((h.own i _ _ (List.getElem?_eq_getElem hi) (List.getElem?_eq_getElem hib)).lt k hk).2
theorem Rk.ge (h : Rk N w b R vs bs) : ∀ k, FS b R vs k → N ≤ k := by
  rintro k (rfl | rfl | ⟨v, hv, hk⟩)
  · exact h.lo.1
  · exact h.lo.2.1
  · obtain ⟨i, hi, rfl⟩ := List.getElem_of_mem hv
    have hib : i < bs.length := by rw [← h.len]; exact hi
    exact ((h.own i _ _ (List.getElem?_eq_getElem hi) (List.getElem?_eq_getElem hib)).lt k hk).1
/-- what keeps its blocks keeps it -/
theorem Rk.keep (h : Rk N w b R vs bs) (hk : ∀ k, FS b R vs k → w'.heap[k]? = w.heap[k]?) : Rk N w' b R vs bs :=
  ⟨(hk b (.inl rfl)).trans h.head, (hk R (.inr (.inl rfl))).trans h.row, h.len, fun i v l hv hl => row_keep (h.own i v l hv hl) (fun g hg => hk g (.inr (.inr ⟨v, List.mem_of_getElem? hv, hg⟩))), h.apart, h.nb, h.lo, h.fit, h.dim⟩
theorem Rk.next (h : Rk N w b R vs bs) (hb : Below w.heap.size w w') : Rk N w' b R vs bs := h.keep fun k hk => hb.block k (h.lt k hk)
theorem Rk.cell (h : Rk N w b R vs bs) : w.cell? ⟨b, 0, none⟩ = some (.slice (some ⟨R, 0, none⟩) bs.length bs.length) ∧ w.frozen? ⟨b, 0, none⟩ = false :=
  ⟨by rw [cell_of_row _ _ _ _ _ _ h.head]; rfl, frozen_of_row _ _ _ _ _ h.head⟩
/-- the row of a coordinate -/
theorem Rk.at (h : Rk N w b R vs bs) {i : Nat} {l : List Nat} (hi : bs[i]? = some l) : ∃ v p c, vs[i]? = some v ∧ v = .slice p l.length c ∧ w.cell? ⟨R, i, none⟩ = some (.slice p l.length c) ∧ w.frozen? ⟨R, i, none⟩ = false ∧ Pt w p l ∧ w.ownsRow N 30 1 v l.length (Bk.kl l) ∧ l.length ≤ c := by
  have hib : i < bs.length := (List.getElem?_eq_some_iff.1 hi).1
  have hiv : i < vs.length := by rw [h.len]; exact hib
  have hv := List.getElem?_eq_getElem hiv
  have ho := h.own i _ _ hv hi
  have hf := (h.fit l (List.mem_of_getElem? hi)).1
  have hc : w.cell? ⟨R, i, none⟩ = some vs[i] := by rw [cell_of_row _ _ _ _ _ _ h.row]; simp [hiv]
  obtain ⟨p, c, e, hp, hlc⟩ : ∃ p c, vs[i] = .slice p l.length c ∧ Pt w p l ∧ l.length ≤ c := by
    rcases ho.2 with ⟨e, h0⟩ | ⟨g, cap, cur, e, _, hg, hn, _, hs, ht⟩
    · have : l = [] := List.eq_nil_of_length_eq_zero h0
      subst this
      exact ⟨none, 0, e, Pt.nil _ _, Nat.le_refl _⟩
    · refine ⟨_, cap, e, ⟨fun j hj => ⟨g, 0, rfl, (Array.getElem?_eq_some_iff.1 hg).1, ?_⟩, fun j hj => hf _ (List.getElem_mem hj)⟩, hn⟩
      rw [cell_of_row _ _ _ _ _ _ hg, Nat.zero_add]
      have h1 : (Bk.kl l)[j]? = some (.int .u32 (l[j] : Int)) := by simp [Bk.kl, hj]
      rw [← ht, List.getElem?_take] at h1
      split at h1
      · simpa using h1
      · cases h1
  exact ⟨vs[i], p, c, hv, e, by rw [hc, e], frozen_of_row _ _ _ _ _ h.row, hp, ho, hlc⟩
end
/-- a new scale -/
theorem rk_new (n : Nat) (w : World) (N : Nat) (hN : N ≤ w.heap.size) (h : 1 ≤ n ∧ n ≤ 6) :
    Rk N ((w.alloc (.cells (List.replicate n (Value.slice none 0 0)).toArray 31)).alloc (.cells #[.slice (some ⟨w.heap.size, 0, none⟩) n n] 73)) (w.heap.size + 1) w.heap.size (List.replicate n (.slice none 0 0)) (List.replicate n []) := by
  refine ⟨?_, ?_, by simp, fun i v l hv hl => ?_, fun i j v u k hv hu hk _ => ?_, fun v hv => ?_, by omega, fun l hl => ?_, by simpa using h⟩
  · have := heap_alloc_new (w.alloc (.cells (List.replicate n (Value.slice none 0 0)).toArray 31)) (.cells #[.slice (some ⟨w.heap.size, 0, none⟩) n n] 73)
    rw [World.size_alloc] at this
    rw [this]; simp
  · rw [Below.heap_alloc _ _ _ (by simp)]; exact heap_alloc_new _ _
  · obtain rfl : v = .slice none 0 0 := (List.mem_replicate.1 (List.mem_of_getElem? hv)).2
    obtain rfl : l = [] := (List.mem_replicate.1 (List.mem_of_getElem? hl)).2
    exact World.ownsRow_nil _ _ _ _
  · obtain rfl : v = .slice none 0 0 := (List.mem_replicate.1 (List.mem_of_getElem? hv)).2
    cases hk
  · obtain rfl : v = .slice none 0 0 := (List.mem_replicate.1 hv).2
    exact ⟨by simp [Value.ownBlock], by simp [Value.ownBlock]⟩
  · obtain rfl : l = [] := (List.mem_replicate.1 hl).2
    simp
/-- one row is another one -/
theorem Rk.put {N b R A : Nat} {w W w7 : World} {vs : List Value} {bs : List (List Nat)} {v v' : Value} {l l' : List Nat} (h : Rk N w b R vs bs) (hW : Below w.heap.size w W) (hg : W.grownBy w7 v.ownBlock) (hv : vs[A]? = some v) (hl : bs[A]? = some l)
    (ho : w7.ownsRow N 30 1 v' l'.length (Bk.kl l')) (hnew : ∀ k, v'.ownBlock = some k → (v.ownBlock = some k ∨ w.heap.size ≤ k)) (hf : (∀ x ∈ l', x < 4294967296) ∧ l'.length ≤ 255) :
    Rk N (w7.setCell ⟨R, A, none⟩ v') b R (vs.set A v') (bs.set A l') ∧ Onl (FS b R vs) w (w7.setCell ⟨R, A, none⟩ v') ∧ ∀ j, j < w.heap.size → FS b R (vs.set A v') j → FS b R vs j := by
  have hA : A < vs.length := (List.getElem?_eq_some_iff.1 hv).1
  have hAb : A < bs.length := (List.getElem?_eq_some_iff.1 hl).1
  have hvm : v ∈ vs := List.mem_of_getElem? hv
  have hnb := h.nb v hvm
  have hbl := h.ltb
  have hRl := h.ltR
  have hWs := hW.size
  -- what the others' blocks hold
  have hk7 : ∀ k, k < w.heap.size → v.ownBlock ≠ some k → w7.heap[k]? = w.heap[k]? := fun k hk hne => by
    rw [hg.block k (Nat.lt_of_lt_of_le hk hWs) (fun e => hne e.symm), hW.block k hk]
  have hb7 := hk7 b hbl hnb.1
  have hR7 := (hk7 R hRl hnb.2).trans h.row
  have hne : b ≠ R := h.lo.2.2
  have hold : ∀ (i : Nat) (u : Value) (k : Nat), vs[i]? = some u → u.ownBlock = some k → k < w.heap.size := fun i u k hu hk => h.lt k (.inr (.inr ⟨u, List.mem_of_getElem? hu, hk⟩))
  have hsame : ∀ k, k ≠ R → (w7.setCell ⟨R, A, none⟩ v').heap[k]? = w7.heap[k]? := fun k hk => Below.heap_setCell w7 ⟨R, A, none⟩ v' k hk
  have hv'R : v'.ownBlock ≠ some R := fun e => by
    rcases hnew R e with e2 | e2
    · exact hnb.2 e2
    · omega
  have hv'b : v'.ownBlock ≠ some b := fun e => by
    rcases hnew b e with e2 | e2
    · exact hnb.1 e2
    · omega
  have hset : ∀ (i : Nat) (u : Value), (vs.set A v')[i]? = some u → (i = A ∧ u = v') ∨ (i ≠ A ∧ vs[i]? = some u) := fun i u hu => by
    by_cases e : A = i
    · subst e
      rw [List.getElem?_set_self hA] at hu
      injection hu with hu
      exact .inl ⟨rfl, hu.symm⟩
    · rw [List.getElem?_set_ne e] at hu
      exact .inr ⟨fun x => e x.symm, hu⟩
  have hsetb : ∀ (i : Nat) (m : List Nat), (bs.set A l')[i]? = some m → (i = A ∧ m = l') ∨ (i ≠ A ∧ bs[i]? = some m) := fun i m hm => by
    by_cases e : A = i
    · subst e
      rw [List.getElem?_set_self hAb] at hm
      injection hm with hm
      exact .inl ⟨rfl, hm.symm⟩
    · rw [List.getElem?_set_ne e] at hm
      exact .inr ⟨fun x => e x.symm, hm⟩
  refine ⟨⟨?_, ?_, by simp [h.len], ?_, ?_, ?_, h.lo, ?_, by simpa using h.dim⟩, ?_, ?_⟩
  · rw [hsame b hne, hb7, List.length_set]; exact h.head
  · have := heap_setCell_same w7 R A _ _ v' hR7
    rw [this]
    simp
  · intro i u m hu hm
    rcases hset i u hu with ⟨ei, eu⟩ | ⟨hi, hu⟩
    · rcases hsetb _ m hm with ⟨_, em⟩ | ⟨e, _⟩
      · rw [eu, em]
        exact row_keep ho (fun g hgb => hsame g (fun e => hv'R (by rw [hgb, e])))
      · exact absurd ei e
    · rcases hsetb i m hm with ⟨e, _⟩ | ⟨_, hm⟩
      · exact absurd e hi
      · refine row_keep (h.own i u m hu hm) (fun g hgb => ?_)
        have hgl := hold i u g hu hgb
        have hgR : g ≠ R := fun e => (h.nb u (List.mem_of_getElem? hu)).2 (by rw [hgb, e])
        rw [hsame g hgR, hk7 g hgl (fun e => hi (h.apart i A u v g hu hv hgb e))]
  · intro i j u1 u2 k hu1 hu2 hk1 hk2
    rcases hset i u1 hu1 with ⟨ei, eu⟩ | ⟨hi, hu1⟩
    · rcases hset j u2 hu2 with ⟨ej, _⟩ | ⟨hj, hu2⟩
      · omega
      · have hkl := hold j u2 k hu2 hk2
        rcases hnew k (by rw [← eu]; exact hk1) with e | e
        · have := h.apart A j v u2 k hv hu2 e hk2; omega
        · omega
    · rcases hset j u2 hu2 with ⟨ej, eu⟩ | ⟨hj, hu2⟩
      · have hkl := hold i u1 k hu1 hk1
        rcases hnew k (by rw [← eu]; exact hk2) with e | e
        · have := h.apart i A u1 v k hu1 hv hk1 e; omega
        · omega
      · exact h.apart i j u1 u2 k hu1 hu2 hk1 hk2
  · intro u hu
    obtain ⟨i, hi, rfl⟩ := List.getElem_of_mem hu
    rcases hset i _ (List.getElem?_eq_getElem hi) with ⟨_, e⟩ | ⟨_, e⟩
    · rw [e]; exact ⟨hv'b, hv'R⟩
    · exact h.nb _ (List.mem_of_getElem? e)
  · intro m hm
    obtain ⟨i, hi, rfl⟩ := List.getElem_of_mem hm
    rcases hsetb i _ (List.getElem?_eq_getElem hi) with ⟨_, e⟩ | ⟨_, e⟩
    · rw [e]; exact hf
    · exact h.fit _ (List.mem_of_getElem? e)
  · refine ⟨hg.os.trans hW.os, hg.tape.trans hW.tape, hg.output.trans hW.output, ?_, fun k hk hnF => ?_⟩
    · have := hg.size; simp [World.setCell]; omega
    · have hkR : k ≠ R := fun e => hnF (.inr (.inl e))
      rw [hsame k hkR, hk7 k hk (fun e => hnF (.inr (.inr ⟨v, hvm, e⟩)))]
  · rintro j hj (rfl | rfl | ⟨u, hu, hk⟩)
    · exact .inl rfl
    · exact .inr (.inl rfl)
    · obtain ⟨i, hi, rfl⟩ := List.getElem_of_mem hu
      rcases hset i _ (List.getElem?_eq_getElem hi) with ⟨_, e⟩ | ⟨_, e⟩
      · rw [e] at hk
        rcases hnew j hk with e2 | e2
        · exact .inr (.inr ⟨v, hvm, e2⟩)
        · omega
      · exact .inr (.inr ⟨_, List.mem_of_getElem? e, hk⟩)

set_option maxHeartbeats 1000000 in
theorem rnew_ok (n : Nat) (w : World) (h : 1 ≤ n ∧ n ≤ 6) :
    Calls Try.prog 10 #[.int .i64 (n : Int)] w fun e w' => e = .returned (.tuple #[.pointer (some ⟨w.heap.size + 1, 0, none⟩), .int .i64 0]) ∧ w' = (w.alloc (.cells (List.replicate n (Value.slice none 0 0)).toArray 31)).alloc (.cells #[.slice (some ⟨w.heap.size, 0, none⟩) n n] 73) := by
  have e1 : decide ((n : Int) < 1) = false := by simp; omega
  have e2 : decide ((6 : Int) < (n : Int)) = false := by simp; omega
  have e1' : decide (n < 1) = false := by simp; omega
  have e2' : decide (6 < n) = false := by simp; omega
  have hm := cmake n h.2
  clear h
  go_enter Try.func10, Try.ntmps10
  go_wp2_with fail
  go_ret2
  exact ⟨rfl, rfl⟩
set_option maxHeartbeats 1000000 in
theorem rnew_bad (d : Int) (w : World) (h : d < 1 ∨ 6 < d) : Calls Try.prog 10 #[.int .i64 d] w fun e w' => e = .returned (.tuple #[.pointer none, .int .i64 1]) ∧ w = w' := by
  by_cases h1 : d < 1
  · have e1 : decide (d < 1) = true := by simpa using h1
    clear h h1
    go_enter Try.func10, Try.ntmps10
    go_wp2_with fail
    go_ret2
    exact ⟨rfl, rfl⟩
  · have e1 : decide (d < 1) = false := by simpa using h1
    have e2 : decide (6 < d) = true := by simp; omega
    clear h h1
    go_enter Try.func10, Try.ntmps10
    go_wp2_with fail
    go_ret2
    exact ⟨rfl, rfl⟩

end Go.Proofs.Ytmhjoeegghnlhaa.Sc

/- The document's own scale: interval, Insert, Remove. -/
namespace Go.Proofs.Ytmhjoeegghnlhaa.Sc
open Go.RowKit
open Go.Lib (hid)
open Go.Proofs.Ytmhjoeegghnlhaa.Ky Go.Proofs.Ytmhjoeegghnlhaa.Bk

theorem itv_lo {l : List Nat} (h : up l) {x j : Nat} (hj : j < l.length) : j < itv l x ↔ l[j] ≤ x := by
  unfold itv
  rw [posU_lo h hj]; omega
set_option maxRecDepth 100000 in
set_option maxHeartbeats 1000000 in
theorem interval_ok (l : List Nat) (x c : Nat) (p : Option Addr) (w : World) (hp : Pt w p l) (hu : up l) (hl : l.length ≤ 1000000) :
    Calls Try.prog 42 #[.slice p l.length c, .int .u32 (x : Int)] w fun e w' => e = .returned (.int .i64 (itv l x : Nat)) ∧ w = w' := by
  have HP := hid hp; have HU := hid hu
  clear hp hu
  go_enter Try.func42, Try.ntmps42
  go_wp2_with fail
  go_loopw [5] (fun s wr => ∃ i : Nat, s = .int .i64 i ∧ i ≤ itv l x ∧ wr = w) (fun s _ => l.length - (intOf s).toNat)
  case atStart => exact ⟨0, rfl, by omega, rfl⟩
  case round =>
    obtain ⟨i, rfl, hi, rfl⟩ := hrel
    have hle := itv_le l x
    by_cases hlt : i < l.length
    · have e1 : decide ((i : Int) < (l.length : Int)) = true := by simpa using hlt
      have e1' : decide (i < l.length) = true := by simpa using hlt
      obtain ⟨b, off, rfl, _, hc⟩ := HP.out.cells i hlt
      have hq := itv_lo HU.out (x := x) hlt
      have z0 : (0 : Int) ≤ (i : Int) := by omega
      have z1 : (i : Int) < (l.length : Int) := by omega
      generalize l[i] = y at hc hq
      by_cases hy : y ≤ x
      · have e2 : decide ((y : Int) ≤ (x : Int)) = true := by simpa using hy
        have e2' : decide (y ≤ x) = true := by simpa using hy
        have hi2 : i + 1 ≤ itv l x := by have := hq.2 hy; omega
        have HI := hid hi2
        clear hq hi2
        go_wp2_with fail
        go_roundw
        case rel => exact ⟨i + 1, by go_num, HI.out, trivial⟩
        case measure => simp [intOf]; omega
      · have e2 : decide ((y : Int) ≤ (x : Int)) = false := by simpa using hy
        have e2' : decide (y ≤ x) = false := by simpa using hy
        have hi2 : i = itv l x := by
          have : ¬ i < itv l x := fun h => hy (hq.1 h)
          omega
        have HI := hid hi2
        clear hq hi2
        go_wp2_with fail
        go_ret
        exact ⟨by rw [← HI.out]; rfl, rfl⟩
    · have e1 : decide ((i : Int) < (l.length : Int)) = false := by simp; omega
      have e1' : decide (i < l.length) = false := by simpa using hlt
      have HI := hid (show i = itv l x by omega)
      go_wp2_with fail
      go_ret
      exact ⟨by rw [← HI.out]; rfl, rfl⟩
/-- where a number stands, told by the interval -/
theorem itv_yes {l : List Nat} {t : Nat} (h : up l) (hi : isU l t = true) : itv l t = posU l t + 1 ∧ ∃ hh : posU l t < l.length, l[posU l t] = t := by
  unfold isU at hi
  have hi := of_decide_eq_true hi
  obtain ⟨hh, he⟩ := List.getElem?_eq_some_iff.1 hi
  refine ⟨?_, hh, he⟩
  unfold itv
  refine posU_of (by omega) (fun j hj hjr => ?_) (fun j hj hjr => ?_)
  · rcases Nat.lt_or_ge j (posU l t) with h2 | h2
    · have := (posU_lo h hj).1 h2; omega
    · obtain rfl : j = posU l t := by omega
      omega
  · have := up_lt h hh hj (by omega)
    omega
theorem itv_no {l : List Nat} {t : Nat} (h : up l) (hi : isU l t = false) : itv l t = posU l t ∧ ∀ (hp : posU l t - 1 < l.length), 0 < posU l t → l[posU l t - 1] < t := by
  refine ⟨?_, fun hp h0 => (posU_lo h hp).1 (by omega)⟩
  unfold itv
  refine posU_of (posU_le _ _) (fun j hj hjr => by have := (posU_lo h hj).1 hjr; omega) (fun j hj hjr => ?_)
  have h1 : ¬ l[j] < t := fun h2 => by have := (posU_lo h hj).2 h2; omega
  have h2 : l[j] ≠ t := fun e => by
    have := isU_mem h (List.getElem_mem hj)
    rw [e, hi] at this; cases this
  omega
theorem own_less {w : World} {N N' e s n : Nat} {v : Value} {xs : List Value} (h : w.ownsRow N e s v n xs) (hN : N' ≤ N) : w.ownsRow N' e s v n xs := by
  refine ⟨h.1, ?_⟩
  rcases h.2 with h2 | ⟨g, cap, cur, e1, e2, rest⟩
  · exact .inl h2
  · exact .inr ⟨g, cap, cur, e1, Nat.le_trans hN e2, rest⟩
theorem rd_take {w : World} {p : Option Addr} {xs : List Value} (h : ReadAt w p xs) (n : Nat) : ReadAt w p (xs.take n) := fun j u hj => h j u (by
  rw [List.getElem?_take] at hj
  split at hj
  · exact hj
  · cases hj)
theorem rd_cut {w : World} {p P : Option Addr} {xs : List Value} {n : Nat} (h : ReadAt w p xs) (hP : P = p.map (fun a => a.add n) ∨ xs.length = n) : ReadAt w P (xs.drop n) := by
  rcases hP with rfl | hP
  · intro j u hj
    rw [List.getElem?_drop] at hj
    obtain ⟨b, off, e, hb, hc⟩ := h _ _ hj
    refine ⟨b, off + n, by rw [e]; simp [addr_add], hb, ?_⟩
    rw [← hc]; congr 2; omega
  · rw [List.drop_eq_nil_of_le (by omega)]; exact ReadAt.nil w P
theorem rd_one (w : World) (x : Int) : ReadAt (w.alloc (.cells #[.int .u32 x] 30)) (some ⟨w.heap.size, 0, none⟩) [.int .u32 x] := fun j u hj => by
  refine ⟨w.heap.size, 0, rfl, by simp, ?_⟩
  rw [cell_of_row _ _ _ _ _ _ (heap_alloc_new w (.cells #[.int .u32 x] 30)), Nat.zero_add]
  simpa using hj
set_option maxRecDepth 100000 in
theorem sliceU_to (p : Option Addr) (len c n : Nat) (h : n ≤ len) (hc : len ≤ c) (w : World) : (Instr.slice 31 (.slice p len c) none (some (.int .i64 (n : Int))) none).run Try.prog w = .ok (.slice p n c) w := by
  have hs : (sizeOf 30).run Try.prog w = .ok 1 w := by kernel_rfl
  rw [run_slice_h w _ p len c (by kernel_rfl) .i64 n (by omega) (by omega)]
  have e : Try.prog.elem 31 = 30 := by kernel_rfl
  rw [e, hs]
  simp only [Result.andThen, sliced, Int.toNat_natCast, Nat.sub_zero, Nat.zero_mul]
  congr 2
  split
  · rfl
  · cases p with
    | none => rfl
    | some a => simp only [Option.map_some]; congr 1
/-- what Insert of the document leaves -/
def InsK (N : Nat) (w : World) (b R : Nat) (vs : List Value) (bs' : List (List Nat)) (v : Value) (e : Ending) (w' : World) : Prop :=
  e = .returned v ∧ ∃ vs', Rk N w' b R vs' bs' ∧ Onl (FS b R vs) w w' ∧ ∀ j, j < w.heap.size → FS b R vs' j → FS b R vs j
theorem InsK.none {N b R : Nat} {w w' : World} {vs : List Value} {bs : List (List Nat)} {v : Value} (h : Rk N w b R vs bs) (hb : Below w.heap.size w w') : InsK N w b R vs bs v (.returned v) w' := ⟨rfl, vs, h.next hb, Onl.ofBelow hb, fun _ _ hf => hf⟩
set_option maxRecDepth 100000 in
set_option maxHeartbeats 8000000 in
theorem rinsert_ok (N b R : Nat) (vs : List Value) (bs : List (List Nat)) (a : Int) (t : Nat) (w : World) (h : Rk N w b R vs bs) (hN : N ≤ w.heap.size) (hu : upS bs) (ht : t < 4294967296) :
    Calls Try.prog 16 #[.pointer (some ⟨b, 0, none⟩), .int .i64 a, .int .u32 (t : Int)] w (InsK N w b R vs (insB bs a t) (.tuple #[.int .i64 (insV bs a t), .int .i64 (insE bs a t)])) := by
  have H := hid h
  have hc := h.cell.1
  cases hh : hasC bs.length a with
  | false =>
    rw [show insB bs a t = bs by unfold insB insE; rw [hh]; rfl, show insV bs a t = 0 by unfold insV insE; rw [hh]; rfl, show insE bs a t = 1 by unfold insE; rw [hh]; rfl]
    unfold hasC at hh
    clear h hu ht hN
    by_cases ha : a < 0
    · have e1 : decide (a < 0) = true := by simpa using ha
      clear hh ha
      go_enter Try.func16, Try.ntmps16
      go_wp2_with fail
      go_ret2
      exact .none H.out (Below.refl _ _)
    · have e1 : decide (a < 0) = false := by simpa using ha
      have e2 : decide ((bs.length : Int) ≤ a) = true := by
        simp only [Bool.and_eq_false_iff, decide_eq_false_iff_not] at hh
        simp; omega
      clear hh ha
      generalize bs.length = m at hc e2
      go_enter Try.func16, Try.ntmps16
      go_wp2_with fail
      go_ret2
      exact .none H.out (Below.refl _ _)
  | true =>
    obtain ⟨A, rfl, hA⟩ := hasC_iff.1 hh
    have e1 : decide ((A : Int) < 0) = false := by simp
    have e2 : decide ((bs.length : Int) ≤ (A : Int)) = false := by simp; omega
    have e2' : decide (bs.length ≤ A) = false := by simp; omega
    by_cases h0 : t = 0
    · subst h0
      have hE : insE bs (A : Int) 0 = 1 := by unfold insE; rw [if_pos (.inr (.inl rfl))]
      rw [show insB bs (A : Int) 0 = bs by unfold insB; rw [hE]; rfl, show insV bs (A : Int) 0 = 0 by unfold insV; rw [hE]; rfl, hE]
      clear h hh hu ht hN hA hE
      go_enter Try.func16, Try.ntmps16
      go_wp2_with fail
      go_ret2
      exact .none H.out (Below.refl _ _)
    · have d0 : ((t : Int) == 0) = false := by rw [beq_eq_false_iff_ne]; omega
      obtain ⟨l, hl⟩ : ∃ l, bs[A]? = some l := ⟨_, List.getElem?_eq_getElem hA⟩
      have hg : bs.getD (A : Int).toNat [] = l := by rw [Int.toNat_natCast, List.getD_eq_getElem?_getD, hl]; rfl
      obtain ⟨v, p, c, hv, hvp, hcl, hfr, hpt, hown, hlc⟩ := h.at hl
      have hul := hu l (List.mem_of_getElem? hl)
      have hff := (h.fit l (List.mem_of_getElem? hl)).1
      have HIT := hid (interval_ok l t c p w hpt hul.1 (by omega))
      have z0 : (0 : Int) ≤ (A : Int) := by omega
      have z1 : (A : Int) < (bs.length : Int) := by omega
      cases hi : isU l t with
      | true =>
        have hE : insE bs (A : Int) t = 1 := by unfold insE; rw [hg, if_pos (.inr (.inr hi))]
        rw [show insB bs (A : Int) t = bs by unfold insB; rw [hE]; rfl, show insV bs (A : Int) t = 0 by unfold insV; rw [hE]; rfl, hE]
        obtain ⟨q1, q2, q3⟩ := itv_yes hul.1 hi
        rw [q1] at HIT
        obtain ⟨pb, po, rfl, _, hcell⟩ := hpt.cells _ q2
        rw [q3] at hcell
        generalize posU l t = r at *
        have d1 : decide ((0 : Int) < ((r + 1 : Nat) : Int)) = true := decide_eq_true (by omega)
        have d1' : decide (0 < r + 1) = true := by simp
        have z5 : IntKind.i64.wrap (((r + 1 : Nat) : Int) - 1) = (r : Int) := by rw [IntKind.wrap_i64]; omega
        have z6 : (0 : Int) ≤ (r : Int) := by omega
        have z7 : (r : Int) < (l.length : Int) := by omega
        generalize hr1 : r + 1 = r1 at *
        clear h hh hu hul ht hN h0 hE hg hi hpt hown hv hvp hl q1 q2 q3 hr1 hff
        go_enter Try.func16, Try.ntmps16
        go_wp2_with fail
        refine HIT.out.mono ?_
        rintro e w' ⟨rfl, rfl⟩
        go_wp2_with fail
        go_ret2
        exact .none H.out (Below.refl _ _)
      | false =>
        obtain ⟨q1, q2⟩ := itv_no hul.1 hi
        have hle := posU_le l t
        obtain ⟨r, hr⟩ : ∃ r, posU l t = r := ⟨_, rfl⟩
        rw [hr] at q1 q2 hle
        rw [q1] at HIT
        by_cases h63 : l.length = 63
        · have hno : ¬ (hasC bs.length (A : Int) = false ∨ t = 0 ∨ isU (bs.getD (A : Int).toNat []) t = true) := by
            rw [hg, hi, hh]; simp [h0]
          have hE : insE bs (A : Int) t = 4 := by unfold insE; rw [if_neg hno, hg, if_pos h63]
          rw [show insB bs (A : Int) t = bs by unfold insB; rw [hE]; rfl, show insV bs (A : Int) t = 0 by unfold insV; rw [hE]; rfl, hE]
          have d6 : decide ((63 : Int) ≤ (l.length : Int)) = true := decide_eq_true (by omega)
          have d6' : decide (63 ≤ l.length) = true := decide_eq_true (by omega)
          clear hno hr h63
          by_cases hr0 : r = 0
          · have d1 : decide ((0 : Int) < (r : Int)) = false := decide_eq_false (by omega)
            have d1' : decide (0 < r) = false := decide_eq_false (by omega)
            clear hr0
            clear h hh hu hul ht hN h0 hE hg hi hpt hown hv hvp hl q2 hff hle
            go_enter Try.func16, Try.ntmps16
            go_wp2_with fail
            refine HIT.out.mono ?_
            rintro e w' ⟨rfl, rfl⟩
            go_wp2_with fail
            go_ret2
            exact .none H.out (Below.refl _ _)
          · have d1 : decide ((0 : Int) < (r : Int)) = true := decide_eq_true (by omega)
            have d1' : decide (0 < r) = true := decide_eq_true (by omega)
            have hq := q2 (by omega) (by omega)
            obtain ⟨pb, po, hpe, _, hcell⟩ := hpt.cells (r - 1) (by omega)
            subst hpe
            generalize l[r - 1]'_ = y at hcell hq
            have d2 : ((y : Int) == (t : Int)) = false := by rw [beq_eq_false_iff_ne]; omega
            obtain ⟨r1, hr1⟩ : ∃ r1, r - 1 = r1 := ⟨_, rfl⟩
            rw [hr1] at hcell
            have z5 : IntKind.i64.wrap ((r : Int) - 1) = (r1 : Int) := by rw [IntKind.wrap_i64]; omega
            have z6 : (0 : Int) ≤ (r1 : Int) := by omega
            have z7 : (r1 : Int) < (l.length : Int) := by omega
            clear hr1 hq
            clear h hh hu hul ht hN h0 hE hg hi hpt hown hv hvp hl q2 hff hle
            go_enter Try.func16, Try.ntmps16
            go_wp2_with fail
            refine HIT.out.mono ?_
            rintro e w' ⟨rfl, rfl⟩
            go_wp2_with fail
            go_ret2
            exact .none H.out (Below.refl _ _)
        · have hno : ¬ (hasC bs.length (A : Int) = false ∨ t = 0 ∨ isU (bs.getD (A : Int).toNat []) t = true) := by
            rw [hg, hi, hh]; simp [h0]
          have hE : insE bs (A : Int) t = 0 := by unfold insE; rw [if_neg hno, hg, if_neg h63]
          rw [show insB bs (A : Int) t = bs.set A (insN l r t) by unfold insB; rw [hE, hg, hr]; rfl, show insV bs (A : Int) t = (r : Nat) by unfold insV; rw [hE, hg, hr]; rfl, hE]
          have hl63 := hul.2.2
          have d6 : decide ((63 : Int) ≤ (l.length : Int)) = false := decide_eq_false (by omega)
          have d6' : decide (63 ≤ l.length) = false := decide_eq_false (by omega)
          have h254 : l.length ≤ 254 := by omega
          have HLE := hid hle
          have HNW := hid hN
          have HCL := hid hcl
          have s1 := fun (W : World) => sliceU_to p l.length c r hle hlc W
          obtain ⟨P, hP, s2⟩ := slice_backD p l.length c r hle hlc
          have HRC := hid (rd_cut (n := r) (P := P) (Bk.Pt.read hpt) (by rcases hP with h | h; exact .inl h; right; rw [Bk.kl_length]; exact h))
          have HA1 := hid (rec_own (w := w) 31 (base := w.heap.size) (.slice none 0 0) 0 [] (World.ownsRow_nil _ _ _ _) p r c ((Bk.kl l).take r) (rd_take (Bk.Pt.read hpt) r) (by rw [List.length_take, Bk.kl_length]; omega) (fun u hu => Bk.kl_one l u (List.mem_of_mem_take hu)) (by omega) (Nat.le_refl _))
          clear hno hr h63 hP hl63
          by_cases hr0 : r = 0
          · have d1 : decide ((0 : Int) < (r : Int)) = false := decide_eq_false (by omega)
            have d1' : decide (0 < r) = false := decide_eq_false (by omega)
            clear hr0
            clear h hh hu hul hN h0 hE hg hi hpt hown hvp q2
            go_enter Try.func16, Try.ntmps16
            go_wp2_with fail
            refine HIT.out.mono ?_
            rintro e w' ⟨rfl, rfl⟩
            go_wp2_with (at_builtin; refine wpList_app rfl _ _ _ rfl rfl rfl HA1.out ?_)
            intro v1 w1 hF
            obtain ⟨pp, mm, cc, hvv⟩ := row_slice hF.1
            subst hvv
            have HF1 := hid hF
            have HZ1 := hid (show Below w.heap.size w w1 from (Below.refl w.heap.size w).grown hF.2.1 (Nat.le_refl _) (fun j hj => by cases hj))
            have HZA := hid (show Below w.heap.size w (w1.alloc (.cells #[.int .u32 (t : Int)] 30)) from HZ1.out.trans ((below_alloc w1 _).mono HZ1.out.size))
            have HA2 := hid (rec_own (w := w1.alloc (.cells #[.int .u32 (t : Int)] 30)) 31 (base := w.heap.size) (.slice pp mm cc) r _ (row_keep hF.1 (fun g hg => (below_alloc w1 _).block g (hF.1.lt g hg).2)) (some ⟨w1.heap.size, 0, none⟩) 1 1 [.int .u32 (t : Int)] (rd_one w1 t) rfl (by simp [Value.oneCell']) (by omega) HZA.out.size)
            clear hF HA1 s1
            go_wp2_with (at_builtin; refine wpList_app rfl _ _ _ rfl rfl rfl HA2.out ?_)
            intro v2 w2 hF
            obtain ⟨pp2, mm2, cc2, hvv⟩ := row_slice hF.1
            subst hvv
            have HF2 := hid hF
            have HZ2 := hid (show Below w.heap.size w w2 from HZA.out.grown hF.2.1 HZA.out.size (fun j hj => (HF1.out.1.lt j hj).1))
            have HA3 := hid (rec_own (w := w2.drew) 31 (base := w.heap.size) (.slice pp2 mm2 cc2) (r + 1) _ (row_keep hF.1 (fun g hg => rfl)) P (l.length - r) (c - r) ((Bk.kl l).drop r) (HRC.out.below HZ2.out.drew) (by rw [List.length_drop, Bk.kl_length]) (fun u hu => Bk.kl_one l u (List.mem_of_mem_drop hu)) (by omega) HZ2.out.size)
            have l0 : w2.cell? ⟨b, 0, none⟩ = some (.slice (some ⟨R, 0, none⟩) bs.length bs.length) := (HZ2.out.cell (p := ⟨b, 0, none⟩) H.out.ltb).trans H.out.cell.1
            clear hF HA2 hc hcl
            go_wp2_with fail
            have hbR : b ≠ R := H.out.lo.2.2
            have hRb : R ≠ b := fun e => hbR e.symm
            go_region_held3 (fun w' => w'.cell? ⟨b, 0, none⟩ = some (.slice (some ⟨R, 0, none⟩) bs.length bs.length)) (first | exact l0 | exact l3 | go_keep)
              (first
                | (refine step_app (by rfl) _ _ _ (by rfl) (by rfl) (by rfl) HA3.out ?_; intro v3 w3 hF; obtain ⟨pp3, mm3, cc3, hvv⟩ := row_slice hF.1; subst hvv; have HF3 := hid hF; have HZ3 := hid (show Below w.heap.size w w3 from HZ2.out.drew.grown hF.2.1 HZ2.out.size (fun j hj => (HF2.out.1.lt j hj).1)); have l3 := (HZ3.out.cell (p := ⟨b, 0, none⟩) H.out.ltb).trans H.out.cell.1; have m1 := (HZ3.out.cell (p := ⟨R, A, none⟩) H.out.ltR).trans HCL.out; have f7 : w3.frozen? ⟨R, A, none⟩ = false := frozen_of_row _ _ _ _ _ ((HZ3.out.block R H.out.ltR).trans H.out.row); clear hF)
                | fail)
            have HO := hid (show w3.ownsRow N 30 1 (.slice pp3 mm3 cc3) (insN l r t).length (Bk.kl (insN l r t)) by
              have h3 := own_less HF3.out.1 HNW.out
              rw [insN_length _ _ _ HLE.out, ← insL_kl]
              have e : r + 1 + (l.length - r) = l.length + 1 := by have := HLE.out; omega
              rw [e] at h3
              exact h3)
            have HP := hid (H.out.put (W := w3) HZ3.out (grown_refl w3 _) hv hl HO.out (fun k hk => .inr (HF3.out.1.lt k hk).1) (insN_fit ht hff h254 HLE.out))
            clear HF1 HF2 HF3 HZ1 HZA HZ2 HZ3 HA3 HO l0 l3 m1 f7 hbR hRb
            go_wp2_with fail
            go_ret2
            exact ⟨rfl, _, HP.out.1, HP.out.2.1, HP.out.2.2⟩
          · have d1 : decide ((0 : Int) < (r : Int)) = true := decide_eq_true (by omega)
            have d1' : decide (0 < r) = true := decide_eq_true (by omega)
            have hq := q2 (by omega) (by omega)
            obtain ⟨pb, po, hpe, _, hcell⟩ := hpt.cells (r - 1) (by omega)
            subst hpe
            generalize l[r - 1]'_ = y at hcell hq
            have d2 : ((y : Int) == (t : Int)) = false := by rw [beq_eq_false_iff_ne]; omega
            obtain ⟨r1, hr1⟩ : ∃ r1, r - 1 = r1 := ⟨_, rfl⟩
            rw [hr1] at hcell
            have z5 : IntKind.i64.wrap ((r : Int) - 1) = (r1 : Int) := by rw [IntKind.wrap_i64]; omega
            have z6 : (0 : Int) ≤ (r1 : Int) := by omega
            have z7 : (r1 : Int) < (l.length : Int) := by omega
            clear hr1 hq
            clear h hh hu hul hN h0 hE hg hi hpt hown hvp q2
            go_enter Try.func16, Try.ntmps16
            go_wp2_with fail
            refine HIT.out.mono ?_
            rintro e w' ⟨rfl, rfl⟩
            go_wp2_with (at_builtin; refine wpList_app rfl _ _ _ rfl rfl rfl HA1.out ?_)
            intro v1 w1 hF
            obtain ⟨pp, mm, cc, hvv⟩ := row_slice hF.1
            subst hvv
            have HF1 := hid hF
            have HZ1 := hid (show Below w.heap.size w w1 from (Below.refl w.heap.size w).grown hF.2.1 (Nat.le_refl _) (fun j hj => by cases hj))
            have HZA := hid (show Below w.heap.size w (w1.alloc (.cells #[.int .u32 (t : Int)] 30)) from HZ1.out.trans ((below_alloc w1 _).mono HZ1.out.size))
            have HA2 := hid (rec_own (w := w1.alloc (.cells #[.int .u32 (t : Int)] 30)) 31 (base := w.heap.size) (.slice pp mm cc) r _ (row_keep hF.1 (fun g hg => (below_alloc w1 _).block g (hF.1.lt g hg).2)) (some ⟨w1.heap.size, 0, none⟩) 1 1 [.int .u32 (t : Int)] (rd_one w1 t) rfl (by simp [Value.oneCell']) (by omega) HZA.out.size)
            clear hF HA1 s1
            go_wp2_with (at_builtin; refine wpList_app rfl _ _ _ rfl rfl rfl HA2.out ?_)
            intro v2 w2 hF
            obtain ⟨pp2, mm2, cc2, hvv⟩ := row_slice hF.1
            subst hvv
            have HF2 := hid hF
            have HZ2 := hid (show Below w.heap.size w w2 from HZA.out.grown hF.2.1 HZA.out.size (fun j hj => (HF1.out.1.lt j hj).1))
            have HA3 := hid (rec_own (w := w2.drew) 31 (base := w.heap.size) (.slice pp2 mm2 cc2) (r + 1) _ (row_keep hF.1 (fun g hg => rfl)) P (l.length - r) (c - r) ((Bk.kl l).drop r) (HRC.out.below HZ2.out.drew) (by rw [List.length_drop, Bk.kl_length]) (fun u hu => Bk.kl_one l u (List.mem_of_mem_drop hu)) (by omega) HZ2.out.size)
            have l0 : w2.cell? ⟨b, 0, none⟩ = some (.slice (some ⟨R, 0, none⟩) bs.length bs.length) := (HZ2.out.cell (p := ⟨b, 0, none⟩) H.out.ltb).trans H.out.cell.1
            clear hF HA2 hc hcl
            go_wp2_with fail
            have hbR : b ≠ R := H.out.lo.2.2
            have hRb : R ≠ b := fun e => hbR e.symm
            go_region_held3 (fun w' => w'.cell? ⟨b, 0, none⟩ = some (.slice (some ⟨R, 0, none⟩) bs.length bs.length)) (first | exact l0 | exact l3 | go_keep)
              (first
                | (refine step_app (by rfl) _ _ _ (by rfl) (by rfl) (by rfl) HA3.out ?_; intro v3 w3 hF; obtain ⟨pp3, mm3, cc3, hvv⟩ := row_slice hF.1; subst hvv; have HF3 := hid hF; have HZ3 := hid (show Below w.heap.size w w3 from HZ2.out.drew.grown hF.2.1 HZ2.out.size (fun j hj => (HF2.out.1.lt j hj).1)); have l3 := (HZ3.out.cell (p := ⟨b, 0, none⟩) H.out.ltb).trans H.out.cell.1; have m1 := (HZ3.out.cell (p := ⟨R, A, none⟩) H.out.ltR).trans HCL.out; have f7 : w3.frozen? ⟨R, A, none⟩ = false := frozen_of_row _ _ _ _ _ ((HZ3.out.block R H.out.ltR).trans H.out.row); clear hF)
                | fail)
            have HO := hid (show w3.ownsRow N 30 1 (.slice pp3 mm3 cc3) (insN l r t).length (Bk.kl (insN l r t)) by
              have h3 := own_less HF3.out.1 HNW.out
              rw [insN_length _ _ _ HLE.out, ← insL_kl]
              have e : r + 1 + (l.length - r) = l.length + 1 := by have := HLE.out; omega
              rw [e] at h3
              exact h3)
            have HP := hid (H.out.put (W := w3) HZ3.out (grown_refl w3 _) hv hl HO.out (fun k hk => .inr (HF3.out.1.lt k hk).1) (insN_fit ht hff h254 HLE.out))
            clear HF1 HF2 HF3 HZ1 HZA HZ2 HZ3 HA3 HO l0 l3 m1 f7 hbR hRb
            go_wp2_with fail
            go_ret2
            exact ⟨rfl, _, HP.out.1, HP.out.2.1, HP.out.2.2⟩
end Go.Proofs.Ytmhjoeegghnlhaa.Sc

/- The document's own scale: Remove. -/
namespace Go.Proofs.Ytmhjoeegghnlhaa.Sc
open Go.RowKit
open Go.Lib (hid)
open Go.Proofs.Ytmhjoeegghnlhaa.Ky Go.Proofs.Ytmhjoeegghnlhaa.Bk

set_option maxRecDepth 100000 in
set_option maxHeartbeats 8000000 in
theorem rremove_ok (N b R : Nat) (vs : List Value) (bs : List (List Nat)) (a i : Int) (w : World) (h : Rk N w b R vs bs) (hN : N ≤ w.heap.size) :
    Calls Try.prog 18 #[.pointer (some ⟨b, 0, none⟩), .int .i64 a, .int .i64 i] w (InsK N w b R vs (remS bs a i) (.int .i64 (err (remB bs a i)))) := by
  have H := hid h
  have hc := h.cell.1
  cases hr : remB bs a i with
  | false =>
    rw [show remS bs a i = bs by unfold remS; rw [hr]; rfl, err_false false rfl]
    unfold remB at hr
    cases hh : hasC bs.length a with
    | false =>
      clear hr hN
      unfold hasC at hh
      by_cases ha : a < 0
      · have e1 : decide (a < 0) = true := by simpa using ha
        clear hh ha h
        go_enter Try.func18, Try.ntmps18
        go_wp2_with fail
        go_ret
        exact .none H.out (Below.refl _ _)
      · have e1 : decide (a < 0) = false := by simpa using ha
        have e2 : decide ((bs.length : Int) ≤ a) = true := by
          simp only [Bool.and_eq_false_iff, decide_eq_false_iff_not] at hh
          simp; omega
        clear hh ha h
        generalize bs.length = m at hc e2
        go_enter Try.func18, Try.ntmps18
        go_wp2_with fail
        go_ret
        exact .none H.out (Below.refl _ _)
    | true =>
      rw [hh] at hr
      obtain ⟨A, rfl, hA⟩ := hasC_iff.1 hh
      have e1 : decide ((A : Int) < 0) = false := by simp
      have e2 : decide ((bs.length : Int) ≤ (A : Int)) = false := by simp; omega
      have e2' : decide (bs.length ≤ A) = false := by simp; omega
      obtain ⟨l, hl⟩ : ∃ l, bs[A]? = some l := ⟨_, List.getElem?_eq_getElem hA⟩
      have hg : bs.getD (A : Int).toNat [] = l := by rw [Int.toNat_natCast, List.getD_eq_getElem?_getD, hl]; rfl
      obtain ⟨v, p, c, hv, hvp, hcl, hfr, hpt, hown, hlc⟩ := h.at hl
      have z0 : (0 : Int) ≤ (A : Int) := by omega
      have z1 : (A : Int) < (bs.length : Int) := by omega
      rw [hg] at hr
      simp only [Bool.true_and, Bool.and_eq_false_iff, decide_eq_false_iff_not] at hr
      by_cases hi : i < 0
      · have e3 : decide (i < 0) = true := by simpa using hi
        clear hr hi h hpt hown hv hvp hl hg hh hN
        go_enter Try.func18, Try.ntmps18
        go_wp2_with fail
        go_ret
        exact .none H.out (Below.refl _ _)
      · have e3 : decide (i < 0) = false := by simpa using hi
        have e4 : decide ((l.length : Int) ≤ i) = true := decide_eq_true (by omega)
        clear hr hi h hpt hown hv hvp hl hg hh hN
        generalize l.length = ll at hcl e4
        go_enter Try.func18, Try.ntmps18
        go_wp2_with fail
        go_ret
        exact .none H.out (Below.refl _ _)
  | true =>
    have hr2 := hr
    unfold remB at hr
    simp only [Bool.and_eq_true, decide_eq_true_eq] at hr
    obtain ⟨hh, hi0, hil⟩ := hr
    obtain ⟨A, rfl, hA⟩ := hasC_iff.1 hh
    obtain ⟨I, rfl⟩ : ∃ I : Nat, i = (I : Int) := ⟨i.toNat, by omega⟩
    have e1 : decide ((A : Int) < 0) = false := by simp
    have e2 : decide ((bs.length : Int) ≤ (A : Int)) = false := by simp; omega
    have e2' : decide (bs.length ≤ A) = false := by simp; omega
    obtain ⟨l, hl⟩ : ∃ l, bs[A]? = some l := ⟨_, List.getElem?_eq_getElem hA⟩
    have hg : bs.getD (A : Int).toNat [] = l := by rw [Int.toNat_natCast, List.getD_eq_getElem?_getD, hl]; rfl
    rw [hg] at hil
    rw [show remS bs (A : Int) (I : Int) = bs.set A (l.eraseIdx I) by unfold remS; rw [if_pos hr2, hg]; rfl, err_true true rfl]
    obtain ⟨v, p, c, hv, hvp, hcl, hfr, hpt, hown, hlc⟩ := h.at hl
    have z0 : (0 : Int) ≤ (A : Int) := by omega
    have z1 : (A : Int) < (bs.length : Int) := by omega
    have e3 : decide ((I : Int) < 0) = false := by simp
    have e4 : decide ((l.length : Int) ≤ (I : Int)) = false := decide_eq_false (by omega)
    have e4' : decide (l.length ≤ I) = false := decide_eq_false (by omega)
    have HLT := hid (show I < l.length by omega)
    have hfl := h.fit l (List.mem_of_getElem? hl)
    obtain ⟨J, hJ⟩ : ∃ J, I + 1 = J := ⟨_, rfl⟩
    have z5 : IntKind.i64.wrap ((I : Int) + 1) = (J : Int) := by rw [IntKind.wrap_i64]; omega
    have s1 := fun (W : World) => sliceU_to p l.length c I (by omega) hlc W
    obtain ⟨P, hP, s2⟩ := slice_backD p l.length c J (by omega) hlc
    have HRC := hid (rd_cut (n := J) (P := P) (Bk.Pt.read hpt) (by rcases hP with h | h; exact .inl h; right; rw [Bk.kl_length]; exact h))
    have HA1 := hid (rec_own (w := w) 31 (base := w.heap.size) (.slice none 0 0) 0 [] (World.ownsRow_nil _ _ _ _) p I c ((Bk.kl l).take I) (rd_take (Bk.Pt.read hpt) I) (by rw [List.length_take, Bk.kl_length]; omega) (fun u hu => Bk.kl_one l u (List.mem_of_mem_take hu)) (by omega) (Nat.le_refl _))
    have HCL := hid hcl
    have HNW := hid hN
    have HJ := hid hJ
    clear hr2 hh hi0 hil hA hg hP hpt hown hvp hJ hN h
    go_enter Try.func18, Try.ntmps18
    go_wp2_with (at_builtin; refine wpList_app rfl _ _ _ rfl rfl rfl HA1.out ?_)
    intro v1 w1 hF
    obtain ⟨pp, mm, cc, hvv⟩ := row_slice hF.1
    subst hvv
    have HF1 := hid hF
    have HZ1 := hid (show Below w.heap.size w w1 from (Below.refl w.heap.size w).grown hF.2.1 (Nat.le_refl _) (fun j hj => by cases hj))
    have HA3 := hid (rec_own (w := w1.drew) 31 (base := w.heap.size) (.slice pp mm cc) I _ (row_keep hF.1 (fun g hg => rfl)) P (l.length - J) (c - J) ((Bk.kl l).drop J) (HRC.out.below HZ1.out.drew) (by rw [List.length_drop, Bk.kl_length]) (fun u hu => Bk.kl_one l u (List.mem_of_mem_drop hu)) (by have := HLT.out; omega) HZ1.out.size)
    have l0 : w1.cell? ⟨b, 0, none⟩ = some (.slice (some ⟨R, 0, none⟩) bs.length bs.length) ∧ w1.cell? ⟨R, A, none⟩ = some (.slice p l.length c) := ⟨(HZ1.out.cell (p := ⟨b, 0, none⟩) H.out.ltb).trans H.out.cell.1, (HZ1.out.cell (p := ⟨R, A, none⟩) H.out.ltR).trans HCL.out⟩
    clear hF HA1 s1 hc hcl
    go_wp2_with fail
    obtain ⟨l0, l02⟩ := l0
    have hbR : b ≠ R := H.out.lo.2.2
    have hRb : R ≠ b := fun e => hbR e.symm
    refine wp_region_held_drew (S := fun w' => w'.cell? ⟨b, 0, none⟩ = some (.slice (some ⟨R, 0, none⟩) bs.length bs.length)) (by kernel_rfl) (by exact l0) (fun hHeld => ?_)
    refine wpAnyH_take (i := 0) (oi := { dst := some 46, op := Op.move (Operand.tmp 0), type := 27, pos := "ref.go:79", after := #[], guard := none }) (v := ?vp0) rfl (by kernel_rfl) (by kernel_rfl) (by kernel_rfl) (fun _ _ _ h => h) (Or.inl ⟨by rfl, ?hyp0⟩) (by assumption) ?restp0
    case hyp0 => (intro w hSw; (try dsimp only at hSw); go_simp; (try with_reducible rfl))
    simp only [Act.put, List.setIfInBounds_toArray, List.set_cons_zero, List.set_cons_succ]
    refine wpAnyH_take (i := 1) (oi := { dst := some 47, op := Op.nilCheck (Operand.tmp 46), type := 0, pos := "ref.go:79", after := #[{ on := 0, ground := Ground.data }], guard := none }) (v := ?vp1) rfl (by kernel_rfl) (by kernel_rfl) (by kernel_rfl) (fun _ _ _ h => h) (Or.inl ⟨by rfl, ?hyp1⟩) (by assumption) ?restp1
    case hyp1 => (intro w hSw; (try dsimp only at hSw); go_simp; (try with_reducible rfl))
    simp only [Act.put, List.setIfInBounds_toArray, List.set_cons_zero, List.set_cons_succ]
    refine wpAnyH_take (i := 2) (oi := { dst := some 48, op := Op.fieldAddr 73 (Operand.tmp 47) 0, type := 0, pos := "ref.go:79", after := #[{ on := 1, ground := Ground.data }], guard := none }) (v := ?vp2) rfl (by kernel_rfl) (by kernel_rfl) (by kernel_rfl) (fun _ _ _ h => h) (Or.inl ⟨by rfl, ?hyp2⟩) (by assumption) ?restp2
    case hyp2 => (intro w hSw; (try dsimp only at hSw); go_simp; (try with_reducible rfl))
    simp only [Act.put, List.setIfInBounds_toArray, List.set_cons_zero, List.set_cons_succ]
    refine wpAnyH_take (i := 3) (oi := { dst := some 49, op := Op.load 69 (Operand.tmp 48), type := 69, pos := "ref.go:79", after := #[{ on := 2, ground := Ground.data }], guard := none }) (v := ?vp3) rfl (by kernel_rfl) (by kernel_rfl) (by kernel_rfl) (fun _ _ _ h => h) (Or.inl ⟨by rfl, ?hyp3⟩) (by assumption) ?restp3
    case hyp3 => (intro w hSw; (try dsimp only at hSw); go_simp; (try with_reducible rfl))
    simp only [Act.put, List.setIfInBounds_toArray, List.set_cons_zero, List.set_cons_succ]
    refine wpAnyH_take (i := 4) (oi := { dst := some 50, op := Op.move (Operand.tmp 1), type := 3, pos := "ref.go:79", after := #[], guard := none }) (v := ?vp4) rfl (by kernel_rfl) (by kernel_rfl) (by kernel_rfl) (fun _ _ _ h => h) (Or.inl ⟨by rfl, ?hyp4⟩) (by assumption) ?restp4
    case hyp4 => (intro w hSw; (try dsimp only at hSw); go_simp; (try with_reducible rfl))
    simp only [Act.put, List.setIfInBounds_toArray, List.set_cons_zero, List.set_cons_succ]
    refine wpAnyH_take (i := 5) (oi := { dst := some 51, op := Op.move (Operand.tmp 7), type := 31, pos := "ref.go:79", after := #[], guard := none }) (v := ?vp5) rfl (by kernel_rfl) (by kernel_rfl) (by kernel_rfl) (fun _ _ _ h => h) (Or.inl ⟨by rfl, ?hyp5⟩) (by assumption) ?restp5
    case hyp5 => (intro w hSw; (try dsimp only at hSw); go_simp; (try with_reducible rfl))
    simp only [Act.put, List.setIfInBounds_toArray, List.set_cons_zero, List.set_cons_succ]
    refine wpAnyH_take (i := 6) (oi := { dst := some 52, op := Op.move (Operand.tmp 0), type := 27, pos := "ref.go:79", after := #[], guard := none }) (v := ?vp6) rfl (by kernel_rfl) (by kernel_rfl) (by kernel_rfl) (fun _ _ _ h => h) (Or.inl ⟨by rfl, ?hyp6⟩) (by assumption) ?restp6
    case hyp6 => (intro w hSw; (try dsimp only at hSw); go_simp; (try with_reducible rfl))
    simp only [Act.put, List.setIfInBounds_toArray, List.set_cons_zero, List.set_cons_succ]
    refine wpAnyH_take (i := 7) (oi := { dst := some 53, op := Op.nilCheck (Operand.tmp 52), type := 0, pos := "ref.go:79", after := #[{ on := 6, ground := Ground.data }], guard := none }) (v := ?vp7) rfl (by kernel_rfl) (by kernel_rfl) (by kernel_rfl) (fun _ _ _ h => h) (Or.inl ⟨by rfl, ?hyp7⟩) (by assumption) ?restp7
    case hyp7 => (intro w hSw; (try dsimp only at hSw); go_simp; (try with_reducible rfl))
    simp only [Act.put, List.setIfInBounds_toArray, List.set_cons_zero, List.set_cons_succ]
    refine wpAnyH_take (i := 8) (oi := { dst := some 54, op := Op.fieldAddr 73 (Operand.tmp 53) 0, type := 0, pos := "ref.go:79", after := #[{ on := 7, ground := Ground.data }], guard := none }) (v := ?vp8) rfl (by kernel_rfl) (by kernel_rfl) (by kernel_rfl) (fun _ _ _ h => h) (Or.inl ⟨by rfl, ?hyp8⟩) (by assumption) ?restp8
    case hyp8 => (intro w hSw; (try dsimp only at hSw); go_simp; (try with_reducible rfl))
    simp only [Act.put, List.setIfInBounds_toArray, List.set_cons_zero, List.set_cons_succ]
    refine wpAnyH_take (i := 9) (oi := { dst := some 55, op := Op.load 69 (Operand.tmp 54), type := 69, pos := "ref.go:79", after := #[{ on := 8, ground := Ground.data }], guard := none }) (v := ?vp9) rfl (by kernel_rfl) (by kernel_rfl) (by kernel_rfl) (fun _ _ _ h => h) (Or.inl ⟨by rfl, ?hyp9⟩) (by assumption) ?restp9
    case hyp9 => (intro w hSw; (try dsimp only at hSw); go_simp; (try with_reducible rfl))
    simp only [Act.put, List.setIfInBounds_toArray, List.set_cons_zero, List.set_cons_succ]
    refine wpAnyH_take (i := 10) (oi := { dst := some 56, op := Op.move (Operand.tmp 1), type := 3, pos := "ref.go:79", after := #[], guard := none }) (v := ?vp10) rfl (by kernel_rfl) (by kernel_rfl) (by kernel_rfl) (fun _ _ _ h => h) (Or.inl ⟨by rfl, ?hyp10⟩) (by assumption) ?restp10
    case hyp10 => (intro w hSw; (try dsimp only at hSw); go_simp; (try with_reducible rfl))
    simp only [Act.put, List.setIfInBounds_toArray, List.set_cons_zero, List.set_cons_succ]
    refine wpAnyH_take (i := 11) (oi := { dst := some 57, op := Op.indexAddr 69 (Operand.tmp 55) (Operand.tmp 56), type := 0, pos := "ref.go:79", after := #[{ on := 9, ground := Ground.data }, { on := 10, ground := Ground.data }], guard := none }) (v := ?vp11) rfl (by kernel_rfl) (by kernel_rfl) (by kernel_rfl) (fun _ _ _ h => h) (Or.inl ⟨by rfl, ?hyp11⟩) (by assumption) ?restp11
    case hyp11 => (intro w hSw; (try dsimp only at hSw); go_simp; (try with_reducible rfl))
    simp only [Act.put, List.setIfInBounds_toArray, List.set_cons_zero, List.set_cons_succ]
    refine wpAnyH_take (i := 13) (oi := { dst := some 59, op := Op.move (Operand.tmp 2), type := 3, pos := "ref.go:79", after := #[], guard := none }) (v := ?vp13) rfl (by kernel_rfl) (by kernel_rfl) (by kernel_rfl) (fun _ _ _ h => h) (Or.inl ⟨by rfl, ?hyp13⟩) (by assumption) ?restp13
    case hyp13 => (intro w hSw; (try dsimp only at hSw); go_simp; (try with_reducible rfl))
    simp only [Act.put, List.setIfInBounds_toArray, List.set_cons_zero, List.set_cons_succ]
    refine wpAnyH_take (i := 14) (oi := { dst := some 60, op := Op.binOp BinOp.add 3 (Operand.tmp 59) (Operand.const (Value.int IntKind.i64 1)) 3, type := 3, pos := "ref.go:79", after := #[{ on := 13, ground := Ground.data }], guard := none }) (v := ?vp14) rfl (by kernel_rfl) (by kernel_rfl) (by kernel_rfl) (fun _ _ _ h => h) (Or.inl ⟨by rfl, ?hyp14⟩) (by assumption) ?restp14
    case hyp14 => (intro w hSw; (try dsimp only at hSw); go_simp; (try with_reducible rfl))
    simp only [Act.put, List.setIfInBounds_toArray, List.set_cons_zero, List.set_cons_succ]
    refine wpAnyH_ready (rs := [12]) (by kernel_rfl) (by simp) (AllReadyH.cons (o := { dst := some 58, op := Op.load 31 (Operand.tmp 57), type := 31, pos := "ref.go:79", after := #[{ on := 11, ground := Ground.data }], guard := none }) rfl (fun K hK => ?_) AllReadyH.nil)
    go_simp
    refine hK.out _ _ l0 (fun hHeld => ?_)
    clear hK K
    refine wpAnyH_take (i := 15) (oi := { dst := some 61, op := Op.slice 31 (Operand.tmp 58) (some (Operand.tmp 60)) none none, type := 31, pos := "ref.go:79", after := #[{ on := 12, ground := Ground.data }, { on := 14, ground := Ground.data }], guard := none }) (v := ?vp15) rfl (by kernel_rfl) (by kernel_rfl) (by kernel_rfl) (fun _ _ _ h => h) (Or.inl ⟨by rfl, ?hyp15⟩) (by assumption) ?restp15
    case hyp15 => (intro w hSw; (try dsimp only at hSw); go_simp; (try with_reducible rfl))
    simp only [Act.put, List.setIfInBounds_toArray, List.set_cons_zero, List.set_cons_succ]
    refine wpAnyH_ready (rs := [16]) (by kernel_rfl) (by simp) (AllReadyH.cons (o := { dst := some 62, op := Op.call { callee := Callee.builtin Builtin.append, args := #[Operand.tmp 51, Operand.tmp 61], argTypes := #[31, 31] }, type := 31, pos := "ref.go:79", after := #[{ on := 5, ground := Ground.data }, { on := 15, ground := Ground.data }], guard := none }) rfl (fun K hK => ?_) AllReadyH.nil)
    refine step_app (by rfl) _ _ _ (by rfl) (by rfl) (by rfl) HA3.out ?_
    intro v3 w3 hF
    obtain ⟨pp3, mm3, cc3, hvv⟩ := row_slice hF.1
    subst hvv
    have HF3 := hid hF
    have HZ3 := hid (show Below w.heap.size w w3 from HZ1.out.drew.grown hF.2.1 HZ1.out.size (fun j hj => (HF1.out.1.lt j hj).1))
    have l3 := (HZ3.out.cell (p := ⟨b, 0, none⟩) H.out.ltb).trans H.out.cell.1
    have m1 := (HZ3.out.cell (p := ⟨R, A, none⟩) H.out.ltR).trans HCL.out
    have f7 : w3.frozen? ⟨R, A, none⟩ = false := frozen_of_row _ _ _ _ _ ((HZ3.out.block R H.out.ltR).trans H.out.row)
    clear hF
    refine hK.out _ _ l3 (fun hHeld => ?_)
    clear hK K
    refine wpAnyH_take (i := 17) (oi := { dst := some 63, op := Op.indexAddr 69 (Operand.tmp 49) (Operand.tmp 50), type := 0, pos := "ref.go:79", after := #[{ on := 3, ground := Ground.data }, { on := 4, ground := Ground.data }, { on := 0, ground := Ground.phase }, { on := 1, ground := Ground.phase }, { on := 2, ground := Ground.phase }, { on := 3, ground := Ground.phase }, { on := 4, ground := Ground.phase }, { on := 5, ground := Ground.phase }, { on := 6, ground := Ground.phase }, { on := 7, ground := Ground.phase }, { on := 8, ground := Ground.phase }, { on := 9, ground := Ground.phase }, { on := 10, ground := Ground.phase }, { on := 11, ground := Ground.phase }, { on := 12, ground := Ground.phase }, { on := 13, ground := Ground.phase }, { on := 14, ground := Ground.phase }, { on := 15, ground := Ground.phase }, { on := 16, ground := Ground.phase }], guard := none }) (v := ?vp17) rfl (by kernel_rfl) (by kernel_rfl) (by kernel_rfl) (fun _ _ _ h => h) (Or.inl ⟨by rfl, ?hyp17⟩) (by assumption) ?restp17
    case hyp17 => (intro w hSw; (try dsimp only at hSw); go_simp; (try with_reducible rfl))
    simp only [Act.put, List.setIfInBounds_toArray, List.set_cons_zero, List.set_cons_succ]
    refine wpAnyH_ready (rs := [18]) (by kernel_rfl) (by simp) (AllReadyH.cons (o := { dst := none, op := Op.store 31 (Operand.tmp 63) (Operand.tmp 62), type := 0, pos := "ref.go:79", after := #[{ on := 17, ground := Ground.data }, { on := 16, ground := Ground.data }, { on := 16, ground := Ground.chain }, { on := 0, ground := Ground.phase }, { on := 1, ground := Ground.phase }, { on := 2, ground := Ground.phase }, { on := 3, ground := Ground.phase }, { on := 4, ground := Ground.phase }, { on := 5, ground := Ground.phase }, { on := 6, ground := Ground.phase }, { on := 7, ground := Ground.phase }, { on := 8, ground := Ground.phase }, { on := 9, ground := Ground.phase }, { on := 10, ground := Ground.phase }, { on := 11, ground := Ground.phase }, { on := 12, ground := Ground.phase }, { on := 13, ground := Ground.phase }, { on := 14, ground := Ground.phase }, { on := 15, ground := Ground.phase }, { on := 16, ground := Ground.phase }], guard := none }) rfl (fun K hK => ?_) AllReadyH.nil)
    go_simp
    refine hK.out _ _ (by go_keep) (fun hHeld => ?_)
    clear hK K
    refine wpAnyH_done (by kernel_rfl) ?_ _
    have hel : (l.eraseIdx I).length = l.length - 1 := by rw [List.length_eraseIdx]; have := HLT.out; simp [this]
    have HO := hid (show w3.ownsRow N 30 1 (.slice pp3 mm3 cc3) (l.eraseIdx I).length (Bk.kl (l.eraseIdx I)) by
      have h3 := own_less HF3.out.1 HNW.out
      rw [hel, ← delL_kl]
      have e : I + (l.length - J) = l.length - 1 := by have := HLT.out; have := HJ.out; omega
      rw [e, ← HJ.out] at h3
      exact h3)
    have HP := hid (H.out.put (W := w3) HZ3.out (grown_refl w3 _) hv hl HO.out (fun k hk => .inr (HF3.out.1.lt k hk).1) ⟨fun x hx => hfl.1 x (List.mem_of_mem_eraseIdx hx), by rw [hel]; have := hfl.2; omega⟩)
    clear HF1 HF3 HZ1 HZ3 HA3 HO l0 l02 hel hbR hRb
    go_wp2_with fail
    go_ret
    exact ⟨rfl, _, HP.out.1, HP.out.2.1, HP.out.2.2⟩
end Go.Proofs.Ytmhjoeegghnlhaa.Sc

/- The document's own scale: Sizes, Find, Meet. -/
namespace Go.Proofs.Ytmhjoeegghnlhaa.Sc
open Go.RowKit
open Go.Lib (hid)
open Go.Proofs.Ytmhjoeegghnlhaa.Ky Go.Proofs.Ytmhjoeegghnlhaa.Bk

theorem own_read {w : World} {N e n : Nat} {v : Value} {xs : List Value} (h : w.ownsRow N e 1 v n xs) : ∃ p c, v = .slice p n c ∧ ReadAt w p xs := by
  rcases h.2 with ⟨rfl, h0⟩ | ⟨g, cap, cur, rfl, _, hg, hn, _, hs, ht⟩
  · subst h0
    have hx : xs = [] := List.eq_nil_of_length_eq_zero (by have := h.1; omega)
    subst hx
    exact ⟨_, _, rfl, ReadAt.nil _ _⟩
  · refine ⟨_, _, rfl, fun j u hj => ⟨g, 0, rfl, (Array.getElem?_eq_some_iff.1 hg).1, ?_⟩⟩
    rw [cell_of_row _ _ _ _ _ _ hg, Nat.zero_add]
    rw [← ht, List.getElem?_take] at hj
    split at hj
    · simpa using hj
    · cases hj
theorem rd_int (w : World) (x : Int) : ReadAt (w.alloc (.cells #[.int .i64 x] 3)) (some ⟨w.heap.size, 0, none⟩) [.int .i64 x] := fun j u hj => by
  refine ⟨w.heap.size, 0, rfl, by simp, ?_⟩
  rw [cell_of_row _ _ _ _ _ _ (heap_alloc_new w (.cells #[.int .i64 x] 3)), Nat.zero_add]
  simpa using hj
theorem ci_snoc (C : List Nat) (i : Nat) (h : i < C.length) : ci (C.take i) ++ [.int .i64 ((C[i] : Nat) : Int)] = ci (C.take (i + 1)) := by
  rw [List.take_succ_eq_append_getElem h]
  unfold ci
  rw [List.map_append]; rfl
/-- numbers of the call's own, in a row that grows -/
def CiR (w wr : World) (v : Value) (C : List Nat) (i : Nat) : Prop := wr.ownsRow w.heap.size 3 1 v i (ci (C.take i)) ∧ Below w.heap.size w wr
/-- one number more -/
theorem CiR.more {w wr : World} {v : Value} {C : List Nat} {i : Nat} (h : CiR w wr v C i) (hi : i < C.length) (hb : i ≤ 1000000) {V : World} (hV : Below wr.heap.size wr V) (x : Int) (hx : x = ((C[i] : Nat) : Int)) :
    ∃ v' w', (Builtin.append_ #[35, 35] 35 #[v, .slice (some ⟨V.heap.size, 0, none⟩) 1 1]).run Try.prog (V.alloc (.cells #[.int .i64 x] 3)) = .ok v' w' ∧ CiR w w' v' C (i + 1) := by
  subst hx
  have hV2 : Below wr.heap.size wr (V.alloc (.cells #[.int .i64 ((C[i] : Nat) : Int)] 3)) := hV.trans ((below_alloc V _).mono hV.size)
  obtain ⟨v', w', hr, ho, hg, _⟩ := int_own (w := V.alloc (.cells #[.int .i64 ((C[i] : Nat) : Int)] 3)) 35 (base := w.heap.size) v i (ci (C.take i)) (row_keep h.1 (fun g hg => hV2.block g (h.1.lt g hg).2)) (some ⟨V.heap.size, 0, none⟩) 1 1 [.int .i64 ((C[i] : Nat) : Int)] (rd_int V _) rfl (by simp [Value.oneCell']) (by omega) (Nat.le_trans h.2.size hV2.size)
  refine ⟨v', w', hr, ?_, ?_⟩
  · rw [ci_snoc C i hi] at ho; exact ho
  · exact (h.2.trans (hV2.mono h.2.size)).grown hg (Nat.le_trans h.2.size hV2.size) (fun k hk => (h.1.lt k hk).1)
theorem CiR.nil (w : World) (C : List Nat) : CiR w w (.slice none 0 0) C 0 := ⟨World.ownsRow_nil _ _ _ _, Below.refl _ _⟩
set_option maxRecDepth 100000 in
set_option maxHeartbeats 4000000 in
theorem rsizes_ok (N b R : Nat) (vs : List Value) (bs : List (List Nat)) (w : World) (h : Rk N w b R vs bs) :
    Calls Try.prog 29 #[.pointer (some ⟨b, 0, none⟩)] w fun e w' => ∃ p c, e = .returned (.slice p bs.length c) ∧ ReadAt w' p (ci (sizeL bs)) ∧ Below w.heap.size w w' := by
  have H := hid h
  have HL := hid (show (sizeL bs).length = bs.length by simp [sizeL])
  have HD := hid h.dim
  clear h
  go_enter Try.func29, Try.ntmps29
  go_wp2_with fail
  go_loopw [3, 4] (fun v s wr => ∃ i : Nat, s = .int .i64 i ∧ i ≤ bs.length ∧ CiR w wr v (sizeL bs) i) (fun _ s _ => bs.length - (intOf s).toNat)
  case atStart => exact ⟨0, rfl, by omega, CiR.nil _ _⟩
  case round =>
    obtain ⟨i, rfl, hi, hc⟩ := hrel
    obtain ⟨pp, mm, cc, hvv⟩ := row_slice hc.1
    subst hvv
    have HC := hid hc
    have hc0 := (H.out.next hc.2).cell.1
    by_cases hlt : i < bs.length
    · have e1 : decide ((i : Int) < (bs.length : Int)) = true := by simpa using hlt
      have e1' : decide (i < bs.length) = true := by simpa using hlt
      obtain ⟨l, hl⟩ : ∃ l, bs[i]? = some l := ⟨_, List.getElem?_eq_getElem hlt⟩
      obtain ⟨v, p, c, hv, hvp, hcl, hfr, hpt, hown, hlc⟩ := (H.out.next hc.2).at hl
      have hll := (H.out.fit l (List.mem_of_getElem? hl)).2
      have hs : (sizeL bs)[i]'(by rw [HL.out]; exact hlt) = l.length + 1 := by
        have e : (sizeL bs)[i]? = some (l.length + 1) := by simp [sizeL, hl]
        obtain ⟨_, e2⟩ := List.getElem?_eq_some_iff.1 e
        exact e2
      obtain ⟨s1, hs1⟩ : ∃ s1, l.length + 1 = s1 := ⟨_, rfl⟩
      have z5 : IntKind.i64.wrap ((l.length : Int) + 1) = (s1 : Int) := by rw [IntKind.wrap_i64]; omega
      have z0 : (0 : Int) ≤ (i : Int) := by omega
      have z1 : (i : Int) < (bs.length : Int) := by omega
      have HLT := hid hlt
      have HAP := hid (hc.more (by rw [HL.out]; exact hlt) (by have := HD.out; omega) (Below.refl _ _) (s1 : Int) (by rw [hs, hs1]))
      clear hc hi hlt hl hv hvp hfr hpt hown hlc hll hs hs1
      go_wp2_with (at_builtin; refine wpList_app rfl _ _ _ rfl rfl rfl HAP.out ?_)
      intro v' w' hF
      obtain ⟨p3, m3, c3, hvv⟩ := row_slice hF.1
      subst hvv
      have HF := hid hF
      clear hF HAP HC hc0 hcl
      go_wp2_with fail
      go_roundw
      case rel => exact ⟨i + 1, by rw [show wrap64 ((i : Int) + 1) = ((i + 1 : Nat) : Int) by unfold wrap64; have := HLT.out; have := HD.out; omega], HLT.out, HF.out⟩
      case measure =>
        have := HLT.out; have := HD.out
        rw [show wrap64 ((i : Int) + 1) = ((i + 1 : Nat) : Int) by unfold wrap64; omega]
        simp [intOf]; omega
    · have e1 : decide ((i : Int) < (bs.length : Int)) = false := by simp; omega
      have e1' : decide (i < bs.length) = false := by simpa using hlt
      obtain rfl : i = bs.length := by omega
      obtain ⟨p, c, e, hr⟩ := own_read hc.1
      cases e
      rw [List.take_of_length_le (by rw [HL.out]; omega)] at hr
      have HR := hid hr
      have HB := hid hc.2
      clear hc hr
      go_wp2_with fail
      go_ret
      exact ⟨_, _, rfl, HR.out, HB.out⟩

end Go.Proofs.Ytmhjoeegghnlhaa.Sc

/- The document's own scale: Sizes, Find, Meet. -/
namespace Go.Proofs.Ytmhjoeegghnlhaa.Sc
open Go.RowKit
open Go.Lib (hid)
open Go.Proofs.Ytmhjoeegghnlhaa.Ky Go.Proofs.Ytmhjoeegghnlhaa.Bk

set_option maxRecDepth 100000 in
set_option maxHeartbeats 8000000 in
theorem rfind_any (N b R : Nat) (vs : List Value) (bs : List (List Nat)) (k : List Nat) (q : Option Addr) (c' : Nat) (w : World) (h : Rk N w b R vs bs) (hu : upS bs) (hq : Pt w q k) :
    Calls Try.prog 20 #[.pointer (some ⟨b, 0, none⟩), .slice q k.length c'] w fun e w' => ∃ p m c, e = .returned (.tuple #[.slice p m c, .int .i64 (err (checkB k.length (bs.length : Int)))]) ∧ (if checkB k.length (bs.length : Int) = true then m = bs.length ∧ ReadAt w' p (ci (cellL bs k)) else m = 0) ∧ Below w.heap.size w w' := by
  have H := hid h
  have hc0 := h.cell.1
  have HCH := hid (refCheck_ok q k.length c' (bs.length : Int) w)
  cases hc : checkB k.length (bs.length : Int) with
  | false =>
    rw [hc, err_false false rfl] at HCH
    rw [err_false false rfl]
    clear h hu hq hc
    go_enter Try.func20, Try.ntmps20
    go_wp2_with fail
    refine HCH.out.mono ?_
    rintro e w' ⟨rfl, rfl⟩
    go_wp2_with fail
    go_ret2
    exact ⟨none, 0, ⟨0, rfl⟩, rfl, Below.refl _ _⟩
  | true =>
    rw [hc, err_true true rfl] at HCH
    rw [err_true true rfl]
    have hk : k.length = bs.length := by unfold checkB at hc; rw [Bool.and_eq_true, decide_eq_true_eq] at hc; omega
    have HK := hid hk
    have HQ := hid hq
    have HU := hid hu
    have HD := hid h.dim
    have HL := hid (cellL_len hk)
    clear h hu hq hc hk
    go_enter Try.func20, Try.ntmps20
    go_wp2_with fail
    refine HCH.out.mono ?_
    rintro e w' ⟨rfl, rfl⟩
    clear HCH hc0
    go_wp2_with fail
    go_loopw [6, 7] (fun v s wr => ∃ i : Nat, s = .int .i64 i ∧ i ≤ k.length ∧ CiR w wr v (cellL bs k) i) (fun _ s _ => k.length - (intOf s).toNat)
    case atStart => exact ⟨0, rfl, by omega, CiR.nil _ _⟩
    case round =>
      obtain ⟨i, rfl, hi, hc⟩ := hrel
      obtain ⟨pp, mm, cc, hvv⟩ := row_slice hc.1
      subst hvv
      have HC := hid hc
      by_cases hlt : i < k.length
      · have e1 : decide ((i : Int) < (k.length : Int)) = true := by simpa using hlt
        have e1' : decide (i < k.length) = true := by simpa using hlt
        have hib : i < bs.length := by have := HK.out; omega
        obtain ⟨l, hl⟩ : ∃ l, bs[i]? = some l := ⟨_, List.getElem?_eq_getElem hib⟩
        obtain ⟨v, p, c, hv, hvp, hcl, hfr, hpt, hown, hlc⟩ := (H.out.next hc.2).at hl
        obtain ⟨kb, ko, hqe, hkb, hkc⟩ := HQ.out.cells i hlt
        subst hqe
        have hcx : (cellL bs k)[i]'(by rw [HL.out]; exact hib) = itv l k[i] := by
          have e := cellL_at HK.out hib
          rw [List.getD_eq_getElem?_getD, List.getElem?_eq_getElem (by rw [HL.out]; exact hib), Option.getD_some] at e
          rw [e]
          have e1 : bs.getD i [] = l := by rw [List.getD_eq_getElem?_getD, hl]; rfl
          have e2 : k.getD i 0 = k[i] := by rw [List.getD_eq_getElem?_getD, List.getElem?_eq_getElem hlt]; rfl
          rw [e1, e2]
        have hul := HU.out l (List.mem_of_getElem? hl)
        have HCX := hid hcx
        generalize k[i] = x at hkc HCX hcx
        have HIT := hid (interval_ok l x c p wr.drew hpt.drew hul.1 (by omega))
        have HST := hid (show ∀ V : World, Below wr.heap.size wr V → V.cell? ⟨b, 0, none⟩ = some (.slice (some ⟨R, 0, none⟩) bs.length bs.length) ∧ V.cell? ⟨R, i, none⟩ = some (.slice p l.length c) ∧ V.cell? ⟨kb, ko + i, none⟩ = some (.int .u32 (x : Int)) from fun V hV =>
          ⟨(H.out.next (HC.out.2.trans (hV.mono HC.out.2.size))).cell.1, (hV.cell (p := ⟨R, i, none⟩) (H.out.next HC.out.2).ltR).trans hcl, ((HC.out.2.trans (hV.mono HC.out.2.size)).cell (p := ⟨kb, ko + i, none⟩) hkb).trans hkc⟩)
        have HSU := hid (show ∀ V : World, Below w.heap.size w V → V.cell? ⟨b, 0, none⟩ = some (.slice (some ⟨R, 0, none⟩) bs.length bs.length) ∧ V.cell? ⟨R, i, none⟩ = some (.slice p l.length c) ∧ V.cell? ⟨kb, ko + i, none⟩ = some (.int .u32 (x : Int)) from fun V hV => by
          refine ⟨(H.out.next hV).cell.1, ?_, (hV.cell (p := ⟨kb, ko + i, none⟩) hkb).trans hkc⟩
          have h1 := hV.cell (p := ⟨R, i, none⟩) H.out.ltR
          have h2 := HC.out.2.cell (p := ⟨R, i, none⟩) H.out.ltR
          rw [h1, ← h2]; exact hcl)
        have HAP := hid (hc.more (V := wr.drew) (by rw [HL.out]; exact hib) (by have := HD.out; omega) (Below.refl _ _).drew ((itv l x : Nat) : Int) (by rw [hcx]))
        have HA2 := hid (show Below wr.heap.size wr (wr.alloc (.cells #[.int .i64 ((itv l x : Nat) : Int)] 3)).drew from (below_alloc _ _).drew)
        have z0 : (0 : Int) ≤ (i : Int) := by omega
        have z1 : (i : Int) < (bs.length : Int) := by omega
        have z2 : (i : Int) < (k.length : Int) := by omega
        have HLT := hid hlt
        have HLB := hid hib
        clear hc hi hlt hl hv hvp hcl hfr hpt hown hlc hkb hkc hcx hul hib HCX
        generalize itv l x = y at HIT HAP HA2
        go_wp2_with fail
        refine wp_region_held_drew (S := fun w' => w'.cell? ⟨b, 0, none⟩ = some (.slice (some ⟨R, 0, none⟩) bs.length bs.length) ∧ w'.cell? ⟨R, i, none⟩ = some (.slice p l.length c) ∧ w'.cell? ⟨kb, ko + i, none⟩ = some (.int .u32 (x : Int))) (by kernel_rfl) (by exact (HST.out _ (Below.refl _ _).drew)) (fun hHeld => ?_)
        refine wpAnyH_take (i := 0) (oi := { dst := some 22, op := Op.move (Operand.tmp 6), type := 35, pos := "ref.go:90", after := #[], guard := none }) (v := ?vp0) rfl (by kernel_rfl) (by kernel_rfl) (by kernel_rfl) (fun _ _ _ h => h) (Or.inl ⟨by rfl, ?hyp0⟩) (by assumption) ?restp0
        case hyp0 => (intro w hSw; (try dsimp only at hSw); go_simp; (try with_reducible rfl))
        simp only [Act.put, List.setIfInBounds_toArray, List.set_cons_zero, List.set_cons_succ]
        refine wpAnyH_take (i := 1) (oi := { dst := some 23, op := Op.move (Operand.tmp 0), type := 27, pos := "ref.go:90", after := #[], guard := none }) (v := ?vp1) rfl (by kernel_rfl) (by kernel_rfl) (by kernel_rfl) (fun _ _ _ h => h) (Or.inl ⟨by rfl, ?hyp1⟩) (by assumption) ?restp1
        case hyp1 => (intro w hSw; (try dsimp only at hSw); go_simp; (try with_reducible rfl))
        simp only [Act.put, List.setIfInBounds_toArray, List.set_cons_zero, List.set_cons_succ]
        refine wpAnyH_take (i := 2) (oi := { dst := some 24, op := Op.nilCheck (Operand.tmp 23), type := 0, pos := "ref.go:90", after := #[{ on := 1, ground := Ground.data }], guard := none }) (v := ?vp2) rfl (by kernel_rfl) (by kernel_rfl) (by kernel_rfl) (fun _ _ _ h => h) (Or.inl ⟨by rfl, ?hyp2⟩) (by assumption) ?restp2
        case hyp2 => (intro w hSw; (try dsimp only at hSw); go_simp; (try with_reducible rfl))
        simp only [Act.put, List.setIfInBounds_toArray, List.set_cons_zero, List.set_cons_succ]
        refine wpAnyH_take (i := 3) (oi := { dst := some 25, op := Op.fieldAddr 73 (Operand.tmp 24) 0, type := 0, pos := "ref.go:90", after := #[{ on := 2, ground := Ground.data }], guard := none }) (v := ?vp3) rfl (by kernel_rfl) (by kernel_rfl) (by kernel_rfl) (fun _ _ _ h => h) (Or.inl ⟨by rfl, ?hyp3⟩) (by assumption) ?restp3
        case hyp3 => (intro w hSw; (try dsimp only at hSw); go_simp; (try with_reducible rfl))
        simp only [Act.put, List.setIfInBounds_toArray, List.set_cons_zero, List.set_cons_succ]
        refine wpAnyH_take (i := 4) (oi := { dst := some 26, op := Op.load 69 (Operand.tmp 25), type := 69, pos := "ref.go:90", after := #[{ on := 3, ground := Ground.data }], guard := none }) (v := ?vp4) rfl (by kernel_rfl) (by kernel_rfl) (by kernel_rfl) (fun _ _ _ h => h) (Or.inl ⟨by rfl, ?hyp4⟩) (by assumption) ?restp4
        case hyp4 => (intro w hSw; (try dsimp only at hSw); go_simp; (try with_reducible rfl))
        simp only [Act.put, List.setIfInBounds_toArray, List.set_cons_zero, List.set_cons_succ]
        refine wpAnyH_take (i := 5) (oi := { dst := some 27, op := Op.move (Operand.tmp 7), type := 3, pos := "ref.go:90", after := #[], guard := none }) (v := ?vp5) rfl (by kernel_rfl) (by kernel_rfl) (by kernel_rfl) (fun _ _ _ h => h) (Or.inl ⟨by rfl, ?hyp5⟩) (by assumption) ?restp5
        case hyp5 => (intro w hSw; (try dsimp only at hSw); go_simp; (try with_reducible rfl))
        simp only [Act.put, List.setIfInBounds_toArray, List.set_cons_zero, List.set_cons_succ]
        refine wpAnyH_take (i := 6) (oi := { dst := some 28, op := Op.indexAddr 69 (Operand.tmp 26) (Operand.tmp 27), type := 0, pos := "ref.go:90", after := #[{ on := 4, ground := Ground.data }, { on := 5, ground := Ground.data }], guard := none }) (v := ?vp6) rfl (by kernel_rfl) (by kernel_rfl) (by kernel_rfl) (fun _ _ _ h => h) (Or.inl ⟨by rfl, ?hyp6⟩) (by assumption) ?restp6
        case hyp6 => (intro w hSw; (try dsimp only at hSw); go_simp; (try with_reducible rfl))
        simp only [Act.put, List.setIfInBounds_toArray, List.set_cons_zero, List.set_cons_succ]
        refine wpAnyH_take (i := 7) (oi := { dst := some 29, op := Op.load 31 (Operand.tmp 28), type := 31, pos := "ref.go:90", after := #[{ on := 6, ground := Ground.data }], guard := none }) (v := ?vp7) rfl (by kernel_rfl) (by kernel_rfl) (by kernel_rfl) (fun _ _ _ h => h) (Or.inl ⟨by rfl, ?hyp7⟩) (by assumption) ?restp7
        case hyp7 => (intro w hSw; (try dsimp only at hSw); go_simp; (try with_reducible rfl))
        simp only [Act.put, List.setIfInBounds_toArray, List.set_cons_zero, List.set_cons_succ]
        refine wpAnyH_take (i := 8) (oi := { dst := some 30, op := Op.move (Operand.tmp 1), type := 32, pos := "ref.go:90", after := #[], guard := none }) (v := ?vp8) rfl (by kernel_rfl) (by kernel_rfl) (by kernel_rfl) (fun _ _ _ h => h) (Or.inl ⟨by rfl, ?hyp8⟩) (by assumption) ?restp8
        case hyp8 => (intro w hSw; (try dsimp only at hSw); go_simp; (try with_reducible rfl))
        simp only [Act.put, List.setIfInBounds_toArray, List.set_cons_zero, List.set_cons_succ]
        refine wpAnyH_take (i := 9) (oi := { dst := some 31, op := Op.move (Operand.tmp 7), type := 3, pos := "ref.go:90", after := #[], guard := none }) (v := ?vp9) rfl (by kernel_rfl) (by kernel_rfl) (by kernel_rfl) (fun _ _ _ h => h) (Or.inl ⟨by rfl, ?hyp9⟩) (by assumption) ?restp9
        case hyp9 => (intro w hSw; (try dsimp only at hSw); go_simp; (try with_reducible rfl))
        simp only [Act.put, List.setIfInBounds_toArray, List.set_cons_zero, List.set_cons_succ]
        refine wpAnyH_take (i := 10) (oi := { dst := some 32, op := Op.indexAddr 32 (Operand.tmp 30) (Operand.tmp 31), type := 0, pos := "ref.go:90", after := #[{ on := 8, ground := Ground.data }, { on := 9, ground := Ground.data }], guard := none }) (v := ?vp10) rfl (by kernel_rfl) (by kernel_rfl) (by kernel_rfl) (fun _ _ _ h => h) (Or.inl ⟨by rfl, ?hyp10⟩) (by assumption) ?restp10
        case hyp10 => (intro w hSw; (try dsimp only at hSw); go_simp; (try with_reducible rfl))
        simp only [Act.put, List.setIfInBounds_toArray, List.set_cons_zero, List.set_cons_succ]
        refine wpAnyH_take (i := 11) (oi := { dst := some 33, op := Op.load 30 (Operand.tmp 32), type := 30, pos := "ref.go:90", after := #[{ on := 10, ground := Ground.data }], guard := none }) (v := ?vp11) rfl (by kernel_rfl) (by kernel_rfl) (by kernel_rfl) (fun _ _ _ h => h) (Or.inl ⟨by rfl, ?hyp11⟩) (by assumption) ?restp11
        case hyp11 => (intro w hSw; (try dsimp only at hSw); go_simp; (try with_reducible rfl))
        simp only [Act.put, List.setIfInBounds_toArray, List.set_cons_zero, List.set_cons_succ]
        refine wpAnyH_ready (rs := [12]) (by kernel_rfl) (by simp) (AllReadyH.cons (o := { dst := some 34, op := Op.call { callee := Callee.value (Operand.func 42), args := #[Operand.tmp 29, Operand.tmp 33], argTypes := #[31, 30] }, type := 3, pos := "ref.go:90", after := #[{ on := 7, ground := Ground.data }, { on := 11, ground := Ground.data }], guard := none }) rfl (fun K hK => ?_) AllReadyH.nil)
        go_simp
        go_at_call 42
        refine HIT.out.mono ?_
        rintro e w4 ⟨rfl, hw4⟩
        subst hw4
        refine hK.out _ _ (HST.out _ (Below.refl _ _).drew) (fun hHeld => ?_)
        clear hK K
        refine wpAnyH_ready (rs := [13]) (by kernel_rfl) (by simp) (AllReadyH.cons (o := { dst := some 35, op := Op.buildSlice 35 1 #[(0, Operand.tmp 34)], type := 35, pos := "ref.go:90", after := #[{ on := 12, ground := Ground.data }], guard := none }) rfl (fun K hK => ?_) AllReadyH.nil)
        go_simp
        refine hK.out _ _ (HST.out _ HA2.out) (fun hHeld => ?_)
        clear hK K
        refine wpAnyH_ready (rs := [14]) (by kernel_rfl) (by simp) (AllReadyH.cons (o := { dst := some 36, op := Op.call { callee := Callee.builtin Builtin.append, args := #[Operand.tmp 22, Operand.tmp 35], argTypes := #[35, 35] }, type := 35, pos := "ref.go:90", after := #[{ on := 0, ground := Ground.data }, { on := 13, ground := Ground.data }, { on := 12, ground := Ground.chain }], guard := none }) rfl (fun K hK => ?_) AllReadyH.nil)
        refine step_app (by rfl) _ _ _ (by rfl) (by rfl) (by rfl) HAP.out ?_
        intro v' w5 hF
        obtain ⟨p3, m3, c3, hvv⟩ := row_slice hF.1
        subst hvv
        have HF := hid hF
        clear hF
        refine hK.out _ _ (HSU.out _ HF.out.2) (fun hHeld => ?_)
        clear hK K
        refine wpAnyH_take (i := 15) (oi := { dst := some 6, op := Op.assign (Operand.tmp 36), type := 35, pos := "ref.go:90", after := #[{ on := 14, ground := Ground.data }, { on := 14, ground := Ground.chain }, { on := 0, ground := Ground.phase }, { on := 1, ground := Ground.phase }, { on := 2, ground := Ground.phase }, { on := 3, ground := Ground.phase }, { on := 4, ground := Ground.phase }, { on := 5, ground := Ground.phase }, { on := 6, ground := Ground.phase }, { on := 7, ground := Ground.phase }, { on := 8, ground := Ground.phase }, { on := 9, ground := Ground.phase }, { on := 10, ground := Ground.phase }, { on := 11, ground := Ground.phase }, { on := 12, ground := Ground.phase }, { on := 13, ground := Ground.phase }, { on := 14, ground := Ground.phase }], guard := none }) (v := ?vp15) rfl (by kernel_rfl) (by kernel_rfl) (by kernel_rfl) (fun _ _ _ h => h) (Or.inl ⟨by rfl, ?hyp15⟩) (by assumption) ?restp15
        case hyp15 => (intro w hSw; (try dsimp only at hSw); go_simp; (try with_reducible rfl))
        simp only [Act.put, List.setIfInBounds_toArray, List.set_cons_zero, List.set_cons_succ]
        refine wpAnyH_done (by kernel_rfl) ?_ _
        clear HST HSU HAP HA2 HIT HC
        go_wp2_with fail
        go_roundw
        case rel => exact ⟨i + 1, by rw [show wrap64 ((i : Int) + 1) = ((i + 1 : Nat) : Int) by unfold wrap64; have := HLB.out; have := HD.out; omega], HLT.out, HF.out⟩
        case measure =>
          have := HLB.out; have := HD.out; have := HLT.out
          rw [show wrap64 ((i : Int) + 1) = ((i + 1 : Nat) : Int) by unfold wrap64; omega]
          simp [intOf]; omega
      · have e1 : decide ((i : Int) < (k.length : Int)) = false := by simp; omega
        have e1' : decide (i < k.length) = false := by simpa using hlt
        have ei : i = bs.length := by have := HK.out; omega
        obtain ⟨p, c, e, hr⟩ := own_read hc.1
        cases e
        rw [List.take_of_length_le (by rw [HL.out]; omega)] at hr
        have HR := hid hr
        have HB := hid hc.2
        have HE := hid ei
        clear hc hr ei
        go_wp2_with fail
        go_ret2
        exact ⟨_, _, ⟨_, rfl⟩, ⟨HE.out, HR.out⟩, HB.out⟩

end Go.Proofs.Ytmhjoeegghnlhaa.Sc

/- The document's own scale: Box. -/
namespace Go.Proofs.Ytmhjoeegghnlhaa.Sc
open Go.RowKit
open Go.Lib (hid)
open Go.Proofs.Ytmhjoeegghnlhaa.Ky Go.Proofs.Ytmhjoeegghnlhaa.Bk

/-- where Box stands: the result's variable is empty, the box is half written -/
structure BoK (w : World) (g6 g8 gl cl gh ch n : Nat) (fl fh : Nat → Nat) (i j : Nat) (wr : World) : Prop where
  lo : Rw wr gl cl n (preF fl n i 0)
  hi : Rw wr gh ch n (preF fh n j 4294967295)
  box : wr.heap[g8]? = some (.cells #[.slice (some ⟨gl, 0, none⟩) n cl, .slice (some ⟨gh, 0, none⟩) n ch] 34 (0, 0))
  out : wr.heap[g6]? = some (.cells #[.slice none 0 0, .slice none 0 0] 34 (0, 0))
  bel : Below w.heap.size w wr
  ne : gl ≠ gh ∧ g8 ≠ gl ∧ g8 ≠ gh ∧ g6 ≠ gl ∧ g6 ≠ gh
  ge : w.heap.size ≤ gl ∧ w.heap.size ≤ gh ∧ w.heap.size ≤ g6
section
variable {w wr V : World} {g6 g8 gl cl gh ch n i j : Nat} {fl fh : Nat → Nat}
theorem BoK.next (h : BoK w g6 g8 gl cl gh ch n fl fh i j wr) (hb : Below wr.heap.size wr V) : BoK w g6 g8 gl cl gh ch n fl fh i j V :=
  ⟨h.lo.below hb, h.hi.below hb, (hb.block _ (lt_of h.box)).trans h.box, (hb.block _ (lt_of h.out)).trans h.out, h.bel.trans (hb.mono h.bel.size), h.ne, h.ge⟩
theorem BoK.setL (h : BoK w g6 g8 gl cl gh ch n fl fh i j wr) (x : Nat) (hx : fl i = x) : BoK w g6 g8 gl cl gh ch n fl fh (i + 1) j (wr.setCell ⟨gl, i, none⟩ (.int .u32 (x : Int))) := by
  refine ⟨?_, h.hi.far (by show gh ≠ gl; exact h.ne.1.symm) _, ?_, ?_, h.bel.setCell (p := ⟨gl, i, none⟩) h.ge.1 _, h.ne, h.ge⟩
  · rw [← preF_next, hx]; exact h.lo.set i x
  · rw [Below.heap_setCell _ ⟨gl, i, none⟩ _ _ (by show g8 ≠ gl; exact h.ne.2.1)]; exact h.box
  · rw [Below.heap_setCell _ ⟨gl, i, none⟩ _ _ (by show g6 ≠ gl; exact h.ne.2.2.2.1)]; exact h.out
theorem BoK.setH (h : BoK w g6 g8 gl cl gh ch n fl fh i j wr) (x : Nat) (hx : fh j = x) : BoK w g6 g8 gl cl gh ch n fl fh i (j + 1) (wr.setCell ⟨gh, j, none⟩ (.int .u32 (x : Int))) := by
  refine ⟨h.lo.far (by show gl ≠ gh; exact h.ne.1) _, ?_, ?_, ?_, h.bel.setCell (p := ⟨gh, j, none⟩) h.ge.2.1 _, h.ne, h.ge⟩
  · rw [← preF_next, hx]; exact h.hi.set j x
  · rw [Below.heap_setCell _ ⟨gh, j, none⟩ _ _ (by show g8 ≠ gh; exact h.ne.2.2.1)]; exact h.box
  · rw [Below.heap_setCell _ ⟨gh, j, none⟩ _ _ (by show g6 ≠ gh; exact h.ne.2.2.2.2)]; exact h.out
theorem BoK.sameL (h : BoK w g6 g8 gl cl gh ch n fl fh i j wr) (hx : fl i = 0) : BoK w g6 g8 gl cl gh ch n fl fh (i + 1) j wr := ⟨by rw [← preF_same _ _ _ _ hx]; exact h.lo, h.hi, h.box, h.out, h.bel, h.ne, h.ge⟩
theorem BoK.sameH (h : BoK w g6 g8 gl cl gh ch n fl fh i j wr) (hx : fh j = 4294967295) : BoK w g6 g8 gl cl gh ch n fl fh i (j + 1) wr := ⟨h.lo, by rw [← preF_same _ _ _ _ hx]; exact h.hi, h.box, h.out, h.bel, h.ne, h.ge⟩
theorem BoK.cells (h : BoK w g6 g8 gl cl gh ch n fl fh i j wr) : wr.cell? ⟨g8, 0, none⟩ = some (.slice (some ⟨gl, 0, none⟩) n cl) ∧ wr.cell? ⟨g8, 1, none⟩ = some (.slice (some ⟨gh, 0, none⟩) n ch) :=
  ⟨by rw [cell_of_row _ _ _ _ _ _ h.box]; rfl, by rw [cell_of_row _ _ _ _ _ _ h.box]; rfl⟩
theorem BoK.atL (h : BoK w g6 g8 gl cl gh ch n fl fh i j wr) (t : Nat) (ht : t < n) : (∃ y : Int, wr.cell? ⟨gl, t, none⟩ = some (.int .u32 y)) ∧ wr.frozen? ⟨gl, t, none⟩ = false :=
  ⟨⟨_, h.lo.cell t (by rw [preF_len]; exact ht)⟩, h.lo.frozen t⟩
theorem BoK.atH (h : BoK w g6 g8 gl cl gh ch n fl fh i j wr) (t : Nat) (ht : t < n) : (∃ y : Int, wr.cell? ⟨gh, t, none⟩ = some (.int .u32 y)) ∧ wr.frozen? ⟨gh, t, none⟩ = false :=
  ⟨⟨_, h.hi.cell t (by rw [preF_len]; exact ht)⟩, h.hi.frozen t⟩
end
set_option maxRecDepth 100000 in
set_option maxHeartbeats 2000000 in
theorem rbox_few (N b R n1 n2 : Nat) (vs : List Value) (bs : List (List Nat)) (p q : Option Addr) (c c' : Nat) (w : World) (h : Rk N w b R vs bs) (hne : n1 ≠ bs.length ∨ n2 ≠ bs.length) :
    Calls Try.prog 23 #[.pointer (some ⟨b, 0, none⟩), .slice p n1 c, .slice q n2 c'] w (NewBox w [] [] (.int .i64 1)) := by
  have HZ := hid (heap_alloc_new w (.cells #[Value.slice none 0 0, .slice none 0 0] 34))
  have HB := hid (below_alloc w (.cells #[Value.slice none 0 0, .slice none 0 0] 34))
  have z := zero_cells HZ.out
  have hc0 := (h.next HB.out).cell.1
  obtain ⟨z1, z2, z3, z4⟩ := z
  clear h
  by_cases h1 : n1 = bs.length
  · have h2 : n2 ≠ bs.length := by omega
    have e1 : ((n1 : Int) != (bs.length : Int)) = false := by simp [h1]
    have e2 : ((n2 : Int) != (bs.length : Int)) = true := by simp; omega
    clear hne h1 h2
    go_enter Try.func23, Try.ntmps23
    go_wp2_with fail
    refine bodyPost_ret (v := .tuple #[.agg #[.slice none 0 0, .slice none 0 0], .int .i64 1]) (by simp [results, Try.results23, go_sem]) rfl ?_
    exact ⟨none, 0, none, 0, rfl, Pt.nil _ _, Pt.nil _ _, HB.out⟩
  · have e1 : ((n1 : Int) != (bs.length : Int)) = true := by simp; omega
    clear hne h1
    go_enter Try.func23, Try.ntmps23
    go_wp2_with fail
    refine bodyPost_ret (v := .tuple #[.agg #[.slice none 0 0, .slice none 0 0], .int .i64 1]) (by simp [results, Try.results23, go_sem]) rfl ?_
    exact ⟨none, 0, none, 0, rfl, Pt.nil _ _, Pt.nil _ _, HB.out⟩
def bxL (bs : List (List Nat)) (lo hi : List Int) : List Nat := if (List.range bs.length).all (riseS bs lo hi) = true then lowL bs lo else []
def bxH (bs : List (List Nat)) (lo hi : List Int) : List Nat := if (List.range bs.length).all (riseS bs lo hi) = true then highL bs hi else []
def bxB (bs : List (List Nat)) (lo hi : List Int) : Bool := (List.range bs.length).all (riseS bs lo hi)
theorem range_more (i : Nat) (p : Nat → Bool) (h : (List.range i).all p = true) (hi : p i = true) : (List.range (i + 1)).all p = true := by
  rw [List.range_succ, List.all_append, h]; simp [hi]
theorem range_not (n i : Nat) (p : Nat → Bool) (h : i < n) (hi : p i = false) : (List.range n).all p = false := by
  rw [List.all_eq_false]; exact ⟨i, List.mem_range.2 h, by rw [hi]; simp⟩
set_option maxRecDepth 100000 in
set_option maxHeartbeats 16000000 in
theorem rbox_any (N b R : Nat) (vs : List Value) (bs : List (List Nat)) (lo hi : List Int) (p q : Option Addr) (c c' : Nat) (w : World) (h : Rk N w b R vs bs) (hu : upS bs) (hlo : Is w p lo) (hhi : Is w q hi) (hl : lo.length = bs.length) (hh : hi.length = bs.length) :
    Calls Try.prog 23 #[.pointer (some ⟨b, 0, none⟩), .slice p bs.length c, .slice q bs.length c'] w (NewBox w (bxL bs lo hi) (bxH bs lo hi) (.int .i64 (err (bxB bs lo hi)))) := by
  obtain ⟨W, hW⟩ : ∃ W, w.alloc (.cells #[Value.slice none 0 0, .slice none 0 0] 34) = W := ⟨_, rfl⟩
  have HZ := hid (show W.heap[w.heap.size]? = some (.cells #[.slice none 0 0, .slice none 0 0] 34 (0, 0)) by rw [← hW]; exact heap_alloc_new _ _)
  have HBW := hid (show Below w.heap.size w W by rw [← hW]; exact below_alloc _ _)
  have H := hid h
  have HU := hid hu
  have HLO := hid hlo
  have HHI := hid hhi
  have HLL := hid (And.intro hl hh)
  have HD := hid h.dim
  have e1 : ((bs.length : Int) != (bs.length : Int)) = false := by simp
  have hc0 := (h.next HBW.out).cell.1
  clear h hu hlo hhi hl hh
  go_enter Try.func23, Try.ntmps23
  go_wp2_with fail
  refine (refWhole_two bs.length W HD.out).mono ?_
  rintro e w4 ⟨gl, gh, cl, ch, rfl, o1, o2, on, og1, og2, hb⟩
  obtain ⟨V, hV⟩ : ∃ V, w4.alloc (.cells #[.slice (some ⟨gl, 0, none⟩) bs.length cl, .slice (some ⟨gh, 0, none⟩) bs.length ch] 34) = V := ⟨_, rfl⟩
  obtain ⟨fl, hfl⟩ : ∃ fl : Nat → Nat, fl = fun j => lowN (bs.getD j []) (lo.getD j 0) := ⟨_, rfl⟩
  obtain ⟨fh, hfh⟩ : ∃ fh : Nat → Nat, fh = fun j => highN (bs.getD j []) (hi.getD j 0) := ⟨_, rfl⟩
  have HFL := hid hfl; have HFH := hid hfh
  have HX := hid (show BoK w w.heap.size w4.heap.size gl cl gh ch bs.length fl fh 0 0 V by
    have hz4 := (hb.block _ (lt_of HZ.out)).trans HZ.out
    have q1 := HBW.out.size; have q2 := hb.size; have q3 := lt_of HZ.out; have q4 := o1.lt; have q5 := o2.lt
    rw [← hV]
    refine ⟨by rw [preF_zero]; exact o1.alloc _, by rw [preF_zero]; exact o2.alloc _, heap_alloc_new _ _, ?_, HBW.out.trans ((hb.trans ((below_alloc _ _).mono q2)).mono q1), ⟨on, by omega, by omega, by omega, by omega⟩, ⟨by omega, by omega, Nat.le_refl _⟩⟩
    exact ((below_alloc w4 _).block _ (lt_of hz4)).trans hz4)
  clear hfl hfh o1 o2 on og1 og2 hb e1 hc0
  go_wp2_with fail
  clear hV hW
  generalize w4.heap.size = g8 at *
  have HG6 := hid (show w.heap.size = w.heap.size from rfl)
  go_loopw [9] (fun s wr => ∃ i : Nat, s = .int .i64 i ∧ i ≤ bs.length ∧ BoK w w.heap.size g8 gl cl gh ch bs.length fl fh i i wr ∧ (List.range i).all (riseS bs lo hi) = true) (fun s _ => bs.length - (intOf s).toNat)
  case atStart => exact ⟨0, rfl, by omega, HX.out, by simp⟩
  case round =>
    obtain ⟨i, rfl, hi2, hk, hall⟩ := hrel
    have HK := hid hk; have HAL := hid hall
    clear hk hall
    by_cases hlt : i < bs.length
    · have HI := hid hlt
      obtain ⟨l, hl5⟩ : ∃ l, bs[i]? = some l := ⟨_, List.getElem?_eq_getElem hlt⟩
      obtain ⟨v, pv, cv, hv, hvp, hcl, hfr, hpt, hown, hlc⟩ := H.out.at hl5
      obtain ⟨b1, f1, hpe, l1, d1w⟩ := HLO.out.cells i (by rw [HLL.out.1]; exact hlt)
      obtain ⟨b2, f2, hqe, l2, d2w⟩ := HHI.out.cells i (by rw [HLL.out.2]; exact hlt)
      subst hpe; subst hqe
      have g1 : bs.getD i [] = l := by rw [List.getD_eq_getElem?_getD, hl5]; rfl
      have g2 : lo.getD i 0 = lo[i]'(by rw [HLL.out.1]; exact hlt) := by rw [List.getD_eq_getElem?_getD, List.getElem?_eq_getElem (by rw [HLL.out.1]; exact hlt)]; rfl
      have g3 : hi.getD i 0 = hi[i]'(by rw [HLL.out.2]; exact hlt) := by rw [List.getD_eq_getElem?_getD, List.getElem?_eq_getElem (by rw [HLL.out.2]; exact hlt)]; rfl
      have hrs : riseS bs lo hi i = (decide (0 ≤ lo.getD i 0) && (decide (lo.getD i 0 ≤ hi.getD i 0) && decide (hi.getD i 0 ≤ ((bs.getD i []).length : Int)))) := rfl
      rw [g1, g2, g3] at hrs
      have hfl : fl i = lowN l (lo[i]'(by rw [HLL.out.1]; exact hlt)) := by rw [HFL.out]; show lowN (bs.getD i []) (lo.getD i 0) = _; rw [g1, g2]
      have hfh : fh i = highN l (hi[i]'(by rw [HLL.out.2]; exact hlt)) := by rw [HFH.out]; show highN (bs.getD i []) (hi.getD i 0) = _; rw [g1, g3]
      have hpos := (HU.out l (List.mem_of_getElem? hl5)).2.1
      have hfit := (H.out.fit l (List.mem_of_getElem? hl5)).1
      have hl63 := (HU.out l (List.mem_of_getElem? hl5)).2.2
      generalize lo[i]'_ = x at d1w hrs hfl
      generalize hi[i]'_ = y at d2w hrs hfh
      have HST := hid (show ∀ X : World, Below w.heap.size w X → X.cell? ⟨b1, f1 + i, none⟩ = some (.int .i64 x) ∧ X.cell? ⟨b2, f2 + i, none⟩ = some (.int .i64 y) ∧ X.cell? ⟨b, 0, none⟩ = some (.slice (some ⟨R, 0, none⟩) bs.length bs.length) ∧ X.cell? ⟨R, i, none⟩ = some (.slice pv l.length cv) from fun X hX =>
        ⟨(hX.cell (p := ⟨b1, f1 + i, none⟩) l1).trans d1w, (hX.cell (p := ⟨b2, f2 + i, none⟩) l2).trans d2w, (H.out.next hX).cell.1, (hX.cell (p := ⟨R, i, none⟩) H.out.ltR).trans hcl⟩)
      have HPB := hid fun (h0 : 0 < l.length) => pt_base hpt h0
      have HPF := hid (And.intro hpos (And.intro hfit hl63))
      have HFF := hid (And.intro hfl hfh)
      have HRS := hid hrs
      have e1 : decide ((i : Int) < (bs.length : Int)) = true := by simpa using hlt
      have e1' : decide (i < bs.length) = true := by simpa using hlt
      have z0 : (0 : Int) ≤ (i : Int) := by omega
      have z1 : (i : Int) < (bs.length : Int) := by omega
      obtain ⟨y1, y2, y3, y4⟩ := HST.out _ HK.out.bel
      clear hlt hl5 hv hvp hcl hfr hpt hown hlc d1w d2w g1 g2 g3 hrs hfl hfh hpos hfit hl63 l1 l2 hi2
      by_cases t0 : x < 0
      · have c0 : decide (x < 0) = true := by simpa using t0
        have HNO := hid (show bxB bs lo hi = false from range_not _ _ _ HI.out (by rw [HRS.out]; simp only [Bool.and_eq_false_iff, decide_eq_false_iff_not]; omega))
        rw [show bxL bs lo hi = [] by unfold bxL; rw [show (List.range bs.length).all (riseS bs lo hi) = false from HNO.out]; rfl, show bxH bs lo hi = [] by unfold bxH; rw [show (List.range bs.length).all (riseS bs lo hi) = false from HNO.out]; rfl, HNO.out, err_false false rfl]
        go_wp2_with fail
        go_quiet (fail)
        have HK2 := hid (HK.out.next (below_drewN (Below.refl _ _) nq))
        clear y1 y2 y3 y4
        generalize wr.drewN nq = V2 at HK2 ⊢
        have HS := hid (store_out (lo := []) (hi := []) (A := none) (A' := none) HK2.out.bel HK2.out.ge.2.2 HK2.out.out (Pt.nil _ _) (Pt.nil _ _) (.slice none 0 0) (.slice none 0 0) (by simp))
        obtain ⟨z5, z6, z7, z8⟩ := zero_cells HK2.out.out
        have y4 := HS.out.2.2.2.1
        have y5 := HS.out.2.2.2.2
        go_wp2_with fail
        refine bodyPost_ret (v := .tuple #[.agg #[.slice none 0 0, .slice none 0 0], .int .i64 1]) (by simp [results, Try.results23, go_sem, y4, y5]) rfl ?_
        exact ⟨none, 0, none, 0, rfl, Pt.nil _ _, Pt.nil _ _, HS.out.2.2.1⟩
      · have c0 : decide (x < 0) = false := by simpa using t0
        by_cases t1 : y < x
        · have c1 : decide (y < x) = true := by simpa using t1
          have HNO := hid (show bxB bs lo hi = false from range_not _ _ _ HI.out (by rw [HRS.out]; simp only [Bool.and_eq_false_iff, decide_eq_false_iff_not]; omega))
          rw [show bxL bs lo hi = [] by unfold bxL; rw [show (List.range bs.length).all (riseS bs lo hi) = false from HNO.out]; rfl, show bxH bs lo hi = [] by unfold bxH; rw [show (List.range bs.length).all (riseS bs lo hi) = false from HNO.out]; rfl, HNO.out, err_false false rfl]
          go_wp2_with fail
          go_quiet (fail)
          have HK2 := hid (HK.out.next (below_drewN (Below.refl _ _) nq))
          clear y1 y2 y3 y4
          generalize wr.drewN nq = V2 at HK2 ⊢
          have HS := hid (store_out (lo := []) (hi := []) (A := none) (A' := none) HK2.out.bel HK2.out.ge.2.2 HK2.out.out (Pt.nil _ _) (Pt.nil _ _) (.slice none 0 0) (.slice none 0 0) (by simp))
          obtain ⟨z5, z6, z7, z8⟩ := zero_cells HK2.out.out
          have y4 := HS.out.2.2.2.1
          have y5 := HS.out.2.2.2.2
          go_wp2_with fail
          refine bodyPost_ret (v := .tuple #[.agg #[.slice none 0 0, .slice none 0 0], .int .i64 1]) (by simp [results, Try.results23, go_sem, y4, y5]) rfl ?_
          exact ⟨none, 0, none, 0, rfl, Pt.nil _ _, Pt.nil _ _, HS.out.2.2.1⟩
        · have c1 : decide (y < x) = false := by simpa using t1
          by_cases t2 : (l.length : Int) < y
          · have c2 : decide ((l.length : Int) < y) = true := by simpa using t2
            have HNO := hid (show bxB bs lo hi = false from range_not _ _ _ HI.out (by rw [HRS.out]; simp only [Bool.and_eq_false_iff, decide_eq_false_iff_not]; omega))
            rw [show bxL bs lo hi = [] by unfold bxL; rw [show (List.range bs.length).all (riseS bs lo hi) = false from HNO.out]; rfl, show bxH bs lo hi = [] by unfold bxH; rw [show (List.range bs.length).all (riseS bs lo hi) = false from HNO.out]; rfl, HNO.out, err_false false rfl]
            go_wp2_with fail
            go_quiet (fail)
            have HK2 := hid (HK.out.next (below_drewN (Below.refl _ _) nq))
            clear y1 y2 y3 y4
            generalize wr.drewN nq = V2 at HK2 ⊢
            have HS := hid (store_out (lo := []) (hi := []) (A := none) (A' := none) HK2.out.bel HK2.out.ge.2.2 HK2.out.out (Pt.nil _ _) (Pt.nil _ _) (.slice none 0 0) (.slice none 0 0) (by simp))
            obtain ⟨z5, z6, z7, z8⟩ := zero_cells HK2.out.out
            have y4 := HS.out.2.2.2.1
            have y5 := HS.out.2.2.2.2
            go_wp2_with fail
            refine bodyPost_ret (v := .tuple #[.agg #[.slice none 0 0, .slice none 0 0], .int .i64 1]) (by simp [results, Try.results23, go_sem, y4, y5]) rfl ?_
            exact ⟨none, 0, none, 0, rfl, Pt.nil _ _, Pt.nil _ _, HS.out.2.2.1⟩
          · have c2 : decide ((l.length : Int) < y) = false := by simpa using t2
            have HAL2 := hid (range_more i _ HAL.out (by rw [HRS.out]; simp only [Bool.and_eq_true, decide_eq_true_eq]; omega))
            obtain ⟨X, rfl⟩ : ∃ X : Nat, x = (X : Int) := ⟨x.toNat, by omega⟩
            obtain ⟨Y, rfl⟩ : ∃ Y : Nat, y = (Y : Int) := ⟨y.toNat, by omega⟩
            have c1' : decide (Y < X) = false := decide_eq_false (by omega)
            have c2' : decide (l.length < Y) = false := decide_eq_false (by omega)
            have HXY := hid (show X ≤ Y ∧ Y ≤ l.length by omega)
            clear t0 t1 t2 HRS HAL
            go_wp2_with fail
            go_quiet (fail)
            have HK2 := hid (HK.out.next (below_drewN (Below.refl _ _) nq))
            clear y1 y2 y3 y4 c0 c1 c2 c1' c2'
            generalize wr.drewN nq = V2 at HK2 ⊢
            obtain ⟨y1, y2, y3, y4⟩ := HST.out _ HK2.out.bel
            obtain ⟨x0, x1⟩ := HK2.out.cells
            by_cases t3 : 0 < X
            · have c3 : decide ((0 : Int) < (X : Int)) = true := by simpa using t3
              have c3' : decide (0 < X) = true := by simpa using t3
              obtain ⟨X1, hX1⟩ : ∃ X1, X - 1 = X1 := ⟨_, rfl⟩
              have hXl : X1 < l.length := by have := HXY.out; omega
              have HFX := hid (show fl i = l[X1] by rw [HFF.out.1]; unfold lowN; rw [if_pos (by omega), Int.toNat_natCast, hX1, List.getD_eq_getElem?_getD, List.getElem?_eq_getElem hXl]; rfl)
              obtain ⟨g5, f5, hpe, hg5, hcs⟩ := HPB.out (by omega)
              have HPE := hid hpe
              have HD5 := hid fun (X' : World) (hX : Below w.heap.size w X') => (hX.cell (p := ⟨g5, f5 + X1, none⟩) hg5).trans (hcs X1 hXl)
              have HS4 := hid fun (X' : World) (hX : Below w.heap.size w X') => (show (X'.cell? ⟨b1, f1 + i, none⟩ = some (.int .i64 (X : Int)) ∧ X'.cell? ⟨b, 0, none⟩ = some (.slice (some ⟨R, 0, none⟩) bs.length bs.length) ∧ X'.cell? ⟨R, i, none⟩ = some (.slice (some ⟨g5, f5, none⟩) l.length cv)) from by
                obtain ⟨r1, _, r3, r4⟩ := HST.out X' hX
                rw [hpe] at r4
                exact ⟨r1, r3, r4⟩)
              generalize l[X1] = m at HFX HD5
              have s3 : IntKind.i64.wrap ((X : Int) - 1) = (X1 : Int) := by rw [IntKind.wrap_i64]; have := HXY.out; have := HPF.out.2.2; omega
              have z7 : (X1 : Int) < (l.length : Int) := by omega
              have z8 : (0 : Int) ≤ (X1 : Int) := by omega
              have HK2D := hid (HK2.out.next (Below.refl _ _).drew)
              obtain ⟨U, hU⟩ : ∃ U, V2.drew.setCell ⟨gl, i, none⟩ (.int .u32 (m : Int)) = U := ⟨_, rfl⟩
              have HK3 := hid (show BoK w w.heap.size g8 gl cl gh ch bs.length fl fh (i + 1) i U by rw [← hU]; exact HK2D.out.setL m HFX.out)
              have q0 := And.intro HK2D.out.cells.1 (And.intro (HS4.out _ HK2D.out.bel) (HD5.out _ HK2D.out.bel))
              have q1 := And.intro HK3.out.cells.1 (And.intro (HS4.out _ HK3.out.bel) (HD5.out _ HK3.out.bel))
              obtain ⟨⟨y5, u1⟩, u2⟩ := HK2D.out.atL i HI.out
              clear hX1 hXl hpe hg5 hcs t3 y2 y3 y4 x1
              go_wp2_with fail
              refine wp_region_held_drew (S := fun w' => w'.cell? ⟨g8, 0, none⟩ = some (.slice (some ⟨gl, 0, none⟩) bs.length cl) ∧ (w'.cell? ⟨b1, f1 + i, none⟩ = some (.int .i64 (X : Int)) ∧ w'.cell? ⟨b, 0, none⟩ = some (.slice (some ⟨R, 0, none⟩) bs.length bs.length) ∧ w'.cell? ⟨R, i, none⟩ = some (.slice (some ⟨g5, f5, none⟩) l.length cv)) ∧ w'.cell? ⟨g5, f5 + X1, none⟩ = some (.int .u32 (m : Int))) (by kernel_rfl) (by exact q0) (fun hHeld => ?_)
              refine wpAnyH_take (i := 0) (oi := { dst := some 78, op := Op.fieldAddr 34 (Operand.tmp 8) 0, type := 0, pos := "ref.go:106", after := #[], guard := none }) (v := ?vp0) rfl (by kernel_rfl) (by kernel_rfl) (by kernel_rfl) (fun _ _ _ h => h) (Or.inl ⟨by rfl, ?hyp0⟩) (by assumption) ?restp0
              case hyp0 => (intro w hSw; (try dsimp only at hSw); go_simp; (try with_reducible rfl))
              simp only [Act.put, List.setIfInBounds_toArray, List.set_cons_zero, List.set_cons_succ]
              refine wpAnyH_take (i := 1) (oi := { dst := some 79, op := Op.load 32 (Operand.tmp 78), type := 32, pos := "ref.go:106", after := #[{ on := 0, ground := Ground.data }], guard := none }) (v := ?vp1) rfl (by kernel_rfl) (by kernel_rfl) (by kernel_rfl) (fun _ _ _ h => h) (Or.inl ⟨by rfl, ?hyp1⟩) (by assumption) ?restp1
              case hyp1 => (intro w hSw; (try dsimp only at hSw); go_simp; (try with_reducible rfl))
              simp only [Act.put, List.setIfInBounds_toArray, List.set_cons_zero, List.set_cons_succ]
              refine wpAnyH_take (i := 2) (oi := { dst := some 80, op := Op.move (Operand.tmp 9), type := 3, pos := "ref.go:106", after := #[], guard := none }) (v := ?vp2) rfl (by kernel_rfl) (by kernel_rfl) (by kernel_rfl) (fun _ _ _ h => h) (Or.inl ⟨by rfl, ?hyp2⟩) (by assumption) ?restp2
              case hyp2 => (intro w hSw; (try dsimp only at hSw); go_simp; (try with_reducible rfl))
              simp only [Act.put, List.setIfInBounds_toArray, List.set_cons_zero, List.set_cons_succ]
              refine wpAnyH_take (i := 3) (oi := { dst := some 81, op := Op.move (Operand.tmp 0), type := 27, pos := "ref.go:106", after := #[], guard := none }) (v := ?vp3) rfl (by kernel_rfl) (by kernel_rfl) (by kernel_rfl) (fun _ _ _ h => h) (Or.inl ⟨by rfl, ?hyp3⟩) (by assumption) ?restp3
              case hyp3 => (intro w hSw; (try dsimp only at hSw); go_simp; (try with_reducible rfl))
              simp only [Act.put, List.setIfInBounds_toArray, List.set_cons_zero, List.set_cons_succ]
              refine wpAnyH_take (i := 4) (oi := { dst := some 82, op := Op.nilCheck (Operand.tmp 81), type := 0, pos := "ref.go:106", after := #[{ on := 3, ground := Ground.data }], guard := none }) (v := ?vp4) rfl (by kernel_rfl) (by kernel_rfl) (by kernel_rfl) (fun _ _ _ h => h) (Or.inl ⟨by rfl, ?hyp4⟩) (by assumption) ?restp4
              case hyp4 => (intro w hSw; (try dsimp only at hSw); go_simp; (try with_reducible rfl))
              simp only [Act.put, List.setIfInBounds_toArray, List.set_cons_zero, List.set_cons_succ]
              refine wpAnyH_take (i := 5) (oi := { dst := some 83, op := Op.fieldAddr 73 (Operand.tmp 82) 0, type := 0, pos := "ref.go:106", after := #[{ on := 4, ground := Ground.data }], guard := none }) (v := ?vp5) rfl (by kernel_rfl) (by kernel_rfl) (by kernel_rfl) (fun _ _ _ h => h) (Or.inl ⟨by rfl, ?hyp5⟩) (by assumption) ?restp5
              case hyp5 => (intro w hSw; (try dsimp only at hSw); go_simp; (try with_reducible rfl))
              simp only [Act.put, List.setIfInBounds_toArray, List.set_cons_zero, List.set_cons_succ]
              refine wpAnyH_take (i := 6) (oi := { dst := some 84, op := Op.load 69 (Operand.tmp 83), type := 69, pos := "ref.go:106", after := #[{ on := 5, ground := Ground.data }], guard := none }) (v := ?vp6) rfl (by kernel_rfl) (by kernel_rfl) (by kernel_rfl) (fun _ _ _ h => h) (Or.inl ⟨by rfl, ?hyp6⟩) (by assumption) ?restp6
              case hyp6 => (intro w hSw; (try dsimp only at hSw); go_simp; (try with_reducible rfl))
              simp only [Act.put, List.setIfInBounds_toArray, List.set_cons_zero, List.set_cons_succ]
              refine wpAnyH_take (i := 7) (oi := { dst := some 85, op := Op.move (Operand.tmp 9), type := 3, pos := "ref.go:106", after := #[], guard := none }) (v := ?vp7) rfl (by kernel_rfl) (by kernel_rfl) (by kernel_rfl) (fun _ _ _ h => h) (Or.inl ⟨by rfl, ?hyp7⟩) (by assumption) ?restp7
              case hyp7 => (intro w hSw; (try dsimp only at hSw); go_simp; (try with_reducible rfl))
              simp only [Act.put, List.setIfInBounds_toArray, List.set_cons_zero, List.set_cons_succ]
              refine wpAnyH_take (i := 8) (oi := { dst := some 86, op := Op.indexAddr 69 (Operand.tmp 84) (Operand.tmp 85), type := 0, pos := "ref.go:106", after := #[{ on := 6, ground := Ground.data }, { on := 7, ground := Ground.data }], guard := none }) (v := ?vp8) rfl (by kernel_rfl) (by kernel_rfl) (by kernel_rfl) (fun _ _ _ h => h) (Or.inl ⟨by rfl, ?hyp8⟩) (by assumption) ?restp8
              case hyp8 => (intro w hSw; (try dsimp only at hSw); go_simp; (try with_reducible rfl))
              simp only [Act.put, List.setIfInBounds_toArray, List.set_cons_zero, List.set_cons_succ]
              refine wpAnyH_take (i := 9) (oi := { dst := some 87, op := Op.load 31 (Operand.tmp 86), type := 31, pos := "ref.go:106", after := #[{ on := 8, ground := Ground.data }], guard := none }) (v := ?vp9) rfl (by kernel_rfl) (by kernel_rfl) (by kernel_rfl) (fun _ _ _ h => h) (Or.inl ⟨by rfl, ?hyp9⟩) (by assumption) ?restp9
              case hyp9 => (intro w hSw; (try dsimp only at hSw); go_simp; (try with_reducible rfl))
              simp only [Act.put, List.setIfInBounds_toArray, List.set_cons_zero, List.set_cons_succ]
              refine wpAnyH_take (i := 10) (oi := { dst := some 88, op := Op.move (Operand.tmp 1), type := 35, pos := "ref.go:106", after := #[], guard := none }) (v := ?vp10) rfl (by kernel_rfl) (by kernel_rfl) (by kernel_rfl) (fun _ _ _ h => h) (Or.inl ⟨by rfl, ?hyp10⟩) (by assumption) ?restp10
              case hyp10 => (intro w hSw; (try dsimp only at hSw); go_simp; (try with_reducible rfl))
              simp only [Act.put, List.setIfInBounds_toArray, List.set_cons_zero, List.set_cons_succ]
              refine wpAnyH_take (i := 11) (oi := { dst := some 89, op := Op.move (Operand.tmp 9), type := 3, pos := "ref.go:106", after := #[], guard := none }) (v := ?vp11) rfl (by kernel_rfl) (by kernel_rfl) (by kernel_rfl) (fun _ _ _ h => h) (Or.inl ⟨by rfl, ?hyp11⟩) (by assumption) ?restp11
              case hyp11 => (intro w hSw; (try dsimp only at hSw); go_simp; (try with_reducible rfl))
              simp only [Act.put, List.setIfInBounds_toArray, List.set_cons_zero, List.set_cons_succ]
              refine wpAnyH_take (i := 12) (oi := { dst := some 90, op := Op.indexAddr 35 (Operand.tmp 88) (Operand.tmp 89), type := 0, pos := "ref.go:106", after := #[{ on := 10, ground := Ground.data }, { on := 11, ground := Ground.data }], guard := none }) (v := ?vp12) rfl (by kernel_rfl) (by kernel_rfl) (by kernel_rfl) (fun _ _ _ h => h) (Or.inl ⟨by rfl, ?hyp12⟩) (by assumption) ?restp12
              case hyp12 => (intro w hSw; (try dsimp only at hSw); go_simp; (try with_reducible rfl))
              simp only [Act.put, List.setIfInBounds_toArray, List.set_cons_zero, List.set_cons_succ]
              refine wpAnyH_take (i := 13) (oi := { dst := some 91, op := Op.load 3 (Operand.tmp 90), type := 3, pos := "ref.go:106", after := #[{ on := 12, ground := Ground.data }], guard := none }) (v := ?vp13) rfl (by kernel_rfl) (by kernel_rfl) (by kernel_rfl) (fun _ _ _ h => h) (Or.inl ⟨by rfl, ?hyp13⟩) (by assumption) ?restp13
              case hyp13 => (intro w hSw; (try dsimp only at hSw); go_simp; (try with_reducible rfl))
              simp only [Act.put, List.setIfInBounds_toArray, List.set_cons_zero, List.set_cons_succ]
              refine wpAnyH_take (i := 14) (oi := { dst := some 92, op := Op.binOp BinOp.sub 3 (Operand.tmp 91) (Operand.const (Value.int IntKind.i64 1)) 3, type := 3, pos := "ref.go:106", after := #[{ on := 13, ground := Ground.data }], guard := none }) (v := ?vp14) rfl (by kernel_rfl) (by kernel_rfl) (by kernel_rfl) (fun _ _ _ h => h) (Or.inl ⟨by rfl, ?hyp14⟩) (by assumption) ?restp14
              case hyp14 => (intro w hSw; (try dsimp only at hSw); go_simp; (try with_reducible rfl))
              simp only [Act.put, List.setIfInBounds_toArray, List.set_cons_zero, List.set_cons_succ]
              refine wpAnyH_take (i := 15) (oi := { dst := some 93, op := Op.indexAddr 31 (Operand.tmp 87) (Operand.tmp 92), type := 0, pos := "ref.go:106", after := #[{ on := 9, ground := Ground.data }, { on := 14, ground := Ground.data }], guard := none }) (v := ?vp15) rfl (by kernel_rfl) (by kernel_rfl) (by kernel_rfl) (fun _ _ _ h => h) (Or.inl ⟨by rfl, ?hyp15⟩) (by assumption) ?restp15
              case hyp15 => (intro w hSw; (try dsimp only at hSw); go_simp; (try with_reducible rfl))
              simp only [Act.put, List.setIfInBounds_toArray, List.set_cons_zero, List.set_cons_succ]
              refine wpAnyH_take (i := 16) (oi := { dst := some 94, op := Op.load 30 (Operand.tmp 93), type := 30, pos := "ref.go:106", after := #[{ on := 15, ground := Ground.data }], guard := none }) (v := ?vp16) rfl (by kernel_rfl) (by kernel_rfl) (by kernel_rfl) (fun _ _ _ h => h) (Or.inl ⟨by rfl, ?hyp16⟩) (by assumption) ?restp16
              case hyp16 => (intro w hSw; (try dsimp only at hSw); go_simp; (try with_reducible rfl))
              simp only [Act.put, List.setIfInBounds_toArray, List.set_cons_zero, List.set_cons_succ]
              refine wpAnyH_take (i := 17) (oi := { dst := some 95, op := Op.indexAddr 32 (Operand.tmp 79) (Operand.tmp 80), type := 0, pos := "ref.go:106", after := #[{ on := 1, ground := Ground.data }, { on := 2, ground := Ground.data }, { on := 0, ground := Ground.phase }, { on := 1, ground := Ground.phase }, { on := 2, ground := Ground.phase }, { on := 3, ground := Ground.phase }, { on := 4, ground := Ground.phase }, { on := 5, ground := Ground.phase }, { on := 6, ground := Ground.phase }, { on := 7, ground := Ground.phase }, { on := 8, ground := Ground.phase }, { on := 9, ground := Ground.phase }, { on := 10, ground := Ground.phase }, { on := 11, ground := Ground.phase }, { on := 12, ground := Ground.phase }, { on := 13, ground := Ground.phase }, { on := 14, ground := Ground.phase }, { on := 15, ground := Ground.phase }, { on := 16, ground := Ground.phase }], guard := none }) (v := ?vp17) rfl (by kernel_rfl) (by kernel_rfl) (by kernel_rfl) (fun _ _ _ h => h) (Or.inl ⟨by rfl, ?hyp17⟩) (by assumption) ?restp17
              case hyp17 => (intro w hSw; (try dsimp only at hSw); go_simp; (try with_reducible rfl))
              simp only [Act.put, List.setIfInBounds_toArray, List.set_cons_zero, List.set_cons_succ]
              refine wpAnyH_ready (rs := [18]) (by kernel_rfl) (by simp) (AllReadyH.cons (o := { dst := none, op := Op.store 30 (Operand.tmp 95) (Operand.tmp 94), type := 0, pos := "ref.go:106", after := #[{ on := 17, ground := Ground.data }, { on := 16, ground := Ground.data }, { on := 0, ground := Ground.phase }, { on := 1, ground := Ground.phase }, { on := 2, ground := Ground.phase }, { on := 3, ground := Ground.phase }, { on := 4, ground := Ground.phase }, { on := 5, ground := Ground.phase }, { on := 6, ground := Ground.phase }, { on := 7, ground := Ground.phase }, { on := 8, ground := Ground.phase }, { on := 9, ground := Ground.phase }, { on := 10, ground := Ground.phase }, { on := 11, ground := Ground.phase }, { on := 12, ground := Ground.phase }, { on := 13, ground := Ground.phase }, { on := 14, ground := Ground.phase }, { on := 15, ground := Ground.phase }, { on := 16, ground := Ground.phase }], guard := none }) rfl (fun K hK => ?_) AllReadyH.nil)
              go_simp
              refine hK.out _ _ q1 (fun hHeld => ?_)
              clear hK K
              refine wpAnyH_done (by kernel_rfl) ?_ _
              clear hU u1 u2 q0 q1 s3 z7 z8 c3 c3' x0 y1 HPE
              obtain ⟨y1, y2, y3, y4⟩ := HST.out _ HK3.out.bel
              go_wp2_with fail
              by_cases t4 : Y < l.length
              · have c4 : decide ((Y : Int) < (l.length : Int)) = true := by simpa using t4
                have c4' : decide (Y < l.length) = true := by simpa using t4
                have hm5 := HPF.out.1 _ (List.getElem_mem t4)
                have hm6 := HPF.out.2.1 _ (List.getElem_mem t4)
                have HFX := hid (show fh i = l[Y] - 1 by rw [HFF.out.2]; unfold highN; rw [if_pos (by omega), Int.toNat_natCast, List.getD_eq_getElem?_getD, List.getElem?_eq_getElem t4]; rfl)
                obtain ⟨g5, f5, hpe, hg5, hcs⟩ := HPB.out (by omega)
                subst hpe
                have HD5 := hid fun (X' : World) (hX : Below w.heap.size w X') => (hX.cell (p := ⟨g5, f5 + Y, none⟩) hg5).trans (hcs Y t4)
                have HLY := hid t4
                generalize l[Y] = m2 at hm5 hm6 HFX HD5
                obtain ⟨M, hM⟩ : ∃ M, m2 - 1 = M := ⟨_, rfl⟩
                rw [hM] at HFX
                have s4 : IntKind.u32.wrap ((m2 : Int) - 1) = (M : Int) := by rw [Go.IntWalk.u32_in _ (by omega)]; omega
                clear hm5 hm6 hM hg5 hcs t4
                go_quiet (fail)
                have HK4 := hid (HK3.out.next (below_drewN (Below.refl _ _) nq))
                clear y1 y2 y3 y4
                generalize U.drewN nq = V4 at HK4 ⊢
                obtain ⟨z5, z6⟩ := HST.out _ HK4.out.bel
                have HK4D := hid (HK4.out.next (Below.refl _ _).drew)
                obtain ⟨U2, hU2⟩ : ∃ U2, V4.drew.setCell ⟨gh, i, none⟩ (.int .u32 (M : Int)) = U2 := ⟨_, rfl⟩
                have HK5 := hid (show BoK w w.heap.size g8 gl cl gh ch bs.length fl fh (i + 1) (i + 1) U2 by rw [← hU2]; exact HK4D.out.setH M HFX.out)
                have q0 := And.intro HK4D.out.cells.2 (And.intro (HST.out _ HK4D.out.bel).2 (HD5.out _ HK4D.out.bel))
                have q1 := And.intro HK5.out.cells.2 (And.intro (HST.out _ HK5.out.bel).2 (HD5.out _ HK5.out.bel))
                obtain ⟨⟨y5, u1⟩, u2⟩ := HK4D.out.atH i HI.out
                have z7 : (Y : Int) < (l.length : Int) := by have := HLY.out; omega
                have z8 : (0 : Int) ≤ (Y : Int) := by omega
                clear z5 z6
                go_wp2_with fail
                refine wp_region_held_drew (S := fun w' => w'.cell? ⟨g8, 1, none⟩ = some (.slice (some ⟨gh, 0, none⟩) bs.length ch) ∧ (w'.cell? ⟨b2, f2 + i, none⟩ = some (.int .i64 (Y : Int)) ∧ w'.cell? ⟨b, 0, none⟩ = some (.slice (some ⟨R, 0, none⟩) bs.length bs.length) ∧ w'.cell? ⟨R, i, none⟩ = some (.slice (some ⟨g5, f5, none⟩) l.length cv)) ∧ w'.cell? ⟨g5, f5 + Y, none⟩ = some (.int .u32 (m2 : Int))) (by kernel_rfl) (by exact q0) (fun hHeld => ?_)
                refine wpAnyH_take (i := 0) (oi := { dst := some 109, op := Op.fieldAddr 34 (Operand.tmp 8) 1, type := 0, pos := "ref.go:109", after := #[], guard := none }) (v := ?vs0) rfl (by kernel_rfl) (by kernel_rfl) (by kernel_rfl) (fun _ _ _ h => h) (Or.inl ⟨by rfl, ?hys0⟩) (by assumption) ?rests0
                case hys0 => (intro w hSw; (try dsimp only at hSw); go_simp; (try with_reducible rfl))
                simp only [Act.put, List.setIfInBounds_toArray, List.set_cons_zero, List.set_cons_succ]
                refine wpAnyH_take (i := 1) (oi := { dst := some 110, op := Op.load 32 (Operand.tmp 109), type := 32, pos := "ref.go:109", after := #[{ on := 0, ground := Ground.data }], guard := none }) (v := ?vs1) rfl (by kernel_rfl) (by kernel_rfl) (by kernel_rfl) (fun _ _ _ h => h) (Or.inl ⟨by rfl, ?hys1⟩) (by assumption) ?rests1
                case hys1 => (intro w hSw; (try dsimp only at hSw); go_simp; (try with_reducible rfl))
                simp only [Act.put, List.setIfInBounds_toArray, List.set_cons_zero, List.set_cons_succ]
                refine wpAnyH_take (i := 2) (oi := { dst := some 111, op := Op.move (Operand.tmp 9), type := 3, pos := "ref.go:109", after := #[], guard := none }) (v := ?vs2) rfl (by kernel_rfl) (by kernel_rfl) (by kernel_rfl) (fun _ _ _ h => h) (Or.inl ⟨by rfl, ?hys2⟩) (by assumption) ?rests2
                case hys2 => (intro w hSw; (try dsimp only at hSw); go_simp; (try with_reducible rfl))
                simp only [Act.put, List.setIfInBounds_toArray, List.set_cons_zero, List.set_cons_succ]
                refine wpAnyH_take (i := 3) (oi := { dst := some 112, op := Op.move (Operand.tmp 0), type := 27, pos := "ref.go:109", after := #[], guard := none }) (v := ?vs3) rfl (by kernel_rfl) (by kernel_rfl) (by kernel_rfl) (fun _ _ _ h => h) (Or.inl ⟨by rfl, ?hys3⟩) (by assumption) ?rests3
                case hys3 => (intro w hSw; (try dsimp only at hSw); go_simp; (try with_reducible rfl))
                simp only [Act.put, List.setIfInBounds_toArray, List.set_cons_zero, List.set_cons_succ]
                refine wpAnyH_take (i := 4) (oi := { dst := some 113, op := Op.nilCheck (Operand.tmp 112), type := 0, pos := "ref.go:109", after := #[{ on := 3, ground := Ground.data }], guard := none }) (v := ?vs4) rfl (by kernel_rfl) (by kernel_rfl) (by kernel_rfl) (fun _ _ _ h => h) (Or.inl ⟨by rfl, ?hys4⟩) (by assumption) ?rests4
                case hys4 => (intro w hSw; (try dsimp only at hSw); go_simp; (try with_reducible rfl))
                simp only [Act.put, List.setIfInBounds_toArray, List.set_cons_zero, List.set_cons_succ]
                refine wpAnyH_take (i := 5) (oi := { dst := some 114, op := Op.fieldAddr 73 (Operand.tmp 113) 0, type := 0, pos := "ref.go:109", after := #[{ on := 4, ground := Ground.data }], guard := none }) (v := ?vs5) rfl (by kernel_rfl) (by kernel_rfl) (by kernel_rfl) (fun _ _ _ h => h) (Or.inl ⟨by rfl, ?hys5⟩) (by assumption) ?rests5
                case hys5 => (intro w hSw; (try dsimp only at hSw); go_simp; (try with_reducible rfl))
                simp only [Act.put, List.setIfInBounds_toArray, List.set_cons_zero, List.set_cons_succ]
                refine wpAnyH_take (i := 6) (oi := { dst := some 115, op := Op.load 69 (Operand.tmp 114), type := 69, pos := "ref.go:109", after := #[{ on := 5, ground := Ground.data }], guard := none }) (v := ?vs6) rfl (by kernel_rfl) (by kernel_rfl) (by kernel_rfl) (fun _ _ _ h => h) (Or.inl ⟨by rfl, ?hys6⟩) (by assumption) ?rests6
                case hys6 => (intro w hSw; (try dsimp only at hSw); go_simp; (try with_reducible rfl))
                simp only [Act.put, List.setIfInBounds_toArray, List.set_cons_zero, List.set_cons_succ]
                refine wpAnyH_take (i := 7) (oi := { dst := some 116, op := Op.move (Operand.tmp 9), type := 3, pos := "ref.go:109", after := #[], guard := none }) (v := ?vs7) rfl (by kernel_rfl) (by kernel_rfl) (by kernel_rfl) (fun _ _ _ h => h) (Or.inl ⟨by rfl, ?hys7⟩) (by assumption) ?rests7
                case hys7 => (intro w hSw; (try dsimp only at hSw); go_simp; (try with_reducible rfl))
                simp only [Act.put, List.setIfInBounds_toArray, List.set_cons_zero, List.set_cons_succ]
                refine wpAnyH_take (i := 8) (oi := { dst := some 117, op := Op.indexAddr 69 (Operand.tmp 115) (Operand.tmp 116), type := 0, pos := "ref.go:109", after := #[{ on := 6, ground := Ground.data }, { on := 7, ground := Ground.data }], guard := none }) (v := ?vs8) rfl (by kernel_rfl) (by kernel_rfl) (by kernel_rfl) (fun _ _ _ h => h) (Or.inl ⟨by rfl, ?hys8⟩) (by assumption) ?rests8
                case hys8 => (intro w hSw; (try dsimp only at hSw); go_simp; (try with_reducible rfl))
                simp only [Act.put, List.setIfInBounds_toArray, List.set_cons_zero, List.set_cons_succ]
                refine wpAnyH_take (i := 9) (oi := { dst := some 118, op := Op.load 31 (Operand.tmp 117), type := 31, pos := "ref.go:109", after := #[{ on := 8, ground := Ground.data }], guard := none }) (v := ?vs9) rfl (by kernel_rfl) (by kernel_rfl) (by kernel_rfl) (fun _ _ _ h => h) (Or.inl ⟨by rfl, ?hys9⟩) (by assumption) ?rests9
                case hys9 => (intro w hSw; (try dsimp only at hSw); go_simp; (try with_reducible rfl))
                simp only [Act.put, List.setIfInBounds_toArray, List.set_cons_zero, List.set_cons_succ]
                refine wpAnyH_take (i := 10) (oi := { dst := some 119, op := Op.move (Operand.tmp 2), type := 35, pos := "ref.go:109", after := #[], guard := none }) (v := ?vs10) rfl (by kernel_rfl) (by kernel_rfl) (by kernel_rfl) (fun _ _ _ h => h) (Or.inl ⟨by rfl, ?hys10⟩) (by assumption) ?rests10
                case hys10 => (intro w hSw; (try dsimp only at hSw); go_simp; (try with_reducible rfl))
                simp only [Act.put, List.setIfInBounds_toArray, List.set_cons_zero, List.set_cons_succ]
                refine wpAnyH_take (i := 11) (oi := { dst := some 120, op := Op.move (Operand.tmp 9), type := 3, pos := "ref.go:109", after := #[], guard := none }) (v := ?vs11) rfl (by kernel_rfl) (by kernel_rfl) (by kernel_rfl) (fun _ _ _ h => h) (Or.inl ⟨by rfl, ?hys11⟩) (by assumption) ?rests11
                case hys11 => (intro w hSw; (try dsimp only at hSw); go_simp; (try with_reducible rfl))
                simp only [Act.put, List.setIfInBounds_toArray, List.set_cons_zero, List.set_cons_succ]
                refine wpAnyH_take (i := 12) (oi := { dst := some 121, op := Op.indexAddr 35 (Operand.tmp 119) (Operand.tmp 120), type := 0, pos := "ref.go:109", after := #[{ on := 10, ground := Ground.data }, { on := 11, ground := Ground.data }], guard := none }) (v := ?vs12) rfl (by kernel_rfl) (by kernel_rfl) (by kernel_rfl) (fun _ _ _ h => h) (Or.inl ⟨by rfl, ?hys12⟩) (by assumption) ?rests12
                case hys12 => (intro w hSw; (try dsimp only at hSw); go_simp; (try with_reducible rfl))
                simp only [Act.put, List.setIfInBounds_toArray, List.set_cons_zero, List.set_cons_succ]
                refine wpAnyH_take (i := 13) (oi := { dst := some 122, op := Op.load 3 (Operand.tmp 121), type := 3, pos := "ref.go:109", after := #[{ on := 12, ground := Ground.data }], guard := none }) (v := ?vs13) rfl (by kernel_rfl) (by kernel_rfl) (by kernel_rfl) (fun _ _ _ h => h) (Or.inl ⟨by rfl, ?hys13⟩) (by assumption) ?rests13
                case hys13 => (intro w hSw; (try dsimp only at hSw); go_simp; (try with_reducible rfl))
                simp only [Act.put, List.setIfInBounds_toArray, List.set_cons_zero, List.set_cons_succ]
                refine wpAnyH_take (i := 14) (oi := { dst := some 123, op := Op.indexAddr 31 (Operand.tmp 118) (Operand.tmp 122), type := 0, pos := "ref.go:109", after := #[{ on := 9, ground := Ground.data }, { on := 13, ground := Ground.data }], guard := none }) (v := ?vs14) rfl (by kernel_rfl) (by kernel_rfl) (by kernel_rfl) (fun _ _ _ h => h) (Or.inl ⟨by rfl, ?hys14⟩) (by assumption) ?rests14
                case hys14 => (intro w hSw; (try dsimp only at hSw); go_simp; (try with_reducible rfl))
                simp only [Act.put, List.setIfInBounds_toArray, List.set_cons_zero, List.set_cons_succ]
                refine wpAnyH_take (i := 15) (oi := { dst := some 124, op := Op.load 30 (Operand.tmp 123), type := 30, pos := "ref.go:109", after := #[{ on := 14, ground := Ground.data }], guard := none }) (v := ?vs15) rfl (by kernel_rfl) (by kernel_rfl) (by kernel_rfl) (fun _ _ _ h => h) (Or.inl ⟨by rfl, ?hys15⟩) (by assumption) ?rests15
                case hys15 => (intro w hSw; (try dsimp only at hSw); go_simp; (try with_reducible rfl))
                simp only [Act.put, List.setIfInBounds_toArray, List.set_cons_zero, List.set_cons_succ]
                refine wpAnyH_take (i := 16) (oi := { dst := some 125, op := Op.binOp BinOp.sub 30 (Operand.tmp 124) (Operand.const (Value.int IntKind.u32 1)) 30, type := 30, pos := "ref.go:109", after := #[{ on := 15, ground := Ground.data }], guard := none }) (v := ?vs16) rfl (by kernel_rfl) (by kernel_rfl) (by kernel_rfl) (fun _ _ _ h => h) (Or.inl ⟨by rfl, ?hys16⟩) (by assumption) ?rests16
                case hys16 => (intro w hSw; (try dsimp only at hSw); go_simp; (try with_reducible rfl))
                simp only [Act.put, List.setIfInBounds_toArray, List.set_cons_zero, List.set_cons_succ]
                refine wpAnyH_take (i := 17) (oi := { dst := some 126, op := Op.indexAddr 32 (Operand.tmp 110) (Operand.tmp 111), type := 0, pos := "ref.go:109", after := #[{ on := 1, ground := Ground.data }, { on := 2, ground := Ground.data }, { on := 0, ground := Ground.phase }, { on := 1, ground := Ground.phase }, { on := 2, ground := Ground.phase }, { on := 3, ground := Ground.phase }, { on := 4, ground := Ground.phase }, { on := 5, ground := Ground.phase }, { on := 6, ground := Ground.phase }, { on := 7, ground := Ground.phase }, { on := 8, ground := Ground.phase }, { on := 9, ground := Ground.phase }, { on := 10, ground := Ground.phase }, { on := 11, ground := Ground.phase }, { on := 12, ground := Ground.phase }, { on := 13, ground := Ground.phase }, { on := 14, ground := Ground.phase }, { on := 15, ground := Ground.phase }, { on := 16, ground := Ground.phase }], guard := none }) (v := ?vs17) rfl (by kernel_rfl) (by kernel_rfl) (by kernel_rfl) (fun _ _ _ h => h) (Or.inl ⟨by rfl, ?hys17⟩) (by assumption) ?rests17
                case hys17 => (intro w hSw; (try dsimp only at hSw); go_simp; (try with_reducible rfl))
                simp only [Act.put, List.setIfInBounds_toArray, List.set_cons_zero, List.set_cons_succ]
                refine wpAnyH_ready (rs := [18]) (by kernel_rfl) (by simp) (AllReadyH.cons (o := { dst := none, op := Op.store 30 (Operand.tmp 126) (Operand.tmp 125), type := 0, pos := "ref.go:109", after := #[{ on := 17, ground := Ground.data }, { on := 16, ground := Ground.data }, { on := 0, ground := Ground.phase }, { on := 1, ground := Ground.phase }, { on := 2, ground := Ground.phase }, { on := 3, ground := Ground.phase }, { on := 4, ground := Ground.phase }, { on := 5, ground := Ground.phase }, { on := 6, ground := Ground.phase }, { on := 7, ground := Ground.phase }, { on := 8, ground := Ground.phase }, { on := 9, ground := Ground.phase }, { on := 10, ground := Ground.phase }, { on := 11, ground := Ground.phase }, { on := 12, ground := Ground.phase }, { on := 13, ground := Ground.phase }, { on := 14, ground := Ground.phase }, { on := 15, ground := Ground.phase }, { on := 16, ground := Ground.phase }], guard := none }) rfl (fun K hK => ?_) AllReadyH.nil)
                go_simp
                refine hK.out _ _ q1 (fun hHeld => ?_)
                clear hK K
                refine wpAnyH_done (by kernel_rfl) ?_ _
                clear hU2 u1 u2 q0 q1 s4 c4 c4' z7 z8
                go_wp2_with fail
                go_roundw
                case rel => exact ⟨i + 1, by rw [show wrap64 ((i : Int) + 1) = ((i + 1 : Nat) : Int) by unfold wrap64; have := HI.out; have := HD.out; omega], HI.out, HK5.out, HAL2.out⟩
                case measure =>
                  have := HI.out; have := HD.out
                  rw [show wrap64 ((i : Int) + 1) = ((i + 1 : Nat) : Int) by unfold wrap64; omega]
                  simp [intOf]; omega
              · have c4 : decide ((Y : Int) < (l.length : Int)) = false := by simpa using t4
                have c4' : decide (Y < l.length) = false := by simpa using t4
                have HFX := hid (show fh i = 4294967295 by rw [HFF.out.2]; unfold highN; rw [if_neg (by omega)])
                clear t4
                go_quiet (fail)
                have HK4 := hid ((HK3.out.next (below_drewN (Below.refl _ _) nq)).sameH HFX.out)
                clear y1 y2 y3 y4
                generalize U.drewN nq = V4 at HK4 ⊢
                go_wp2_with fail
                go_roundw
                case rel => exact ⟨i + 1, by rw [show wrap64 ((i : Int) + 1) = ((i + 1 : Nat) : Int) by unfold wrap64; have := HI.out; have := HD.out; omega], HI.out, HK4.out, HAL2.out⟩
                case measure =>
                  have := HI.out; have := HD.out
                  rw [show wrap64 ((i : Int) + 1) = ((i + 1 : Nat) : Int) by unfold wrap64; omega]
                  simp [intOf]; omega
            · have c3 : decide ((0 : Int) < (X : Int)) = false := by simpa using t3
              have c3' : decide (0 < X) = false := by simpa using t3
              have HK3 := hid (HK2.out.sameL (show fl i = 0 by rw [HFF.out.1]; unfold lowN; rw [if_neg (by omega)]))
              go_wp2_with fail
              clear c3 c3' t3 y1 y2 y3 y4 x0 x1
              obtain ⟨y1, y2, y3, y4⟩ := HST.out _ HK3.out.bel
              go_wp2_with fail
              by_cases t4 : Y < l.length
              · have c4 : decide ((Y : Int) < (l.length : Int)) = true := by simpa using t4
                have c4' : decide (Y < l.length) = true := by simpa using t4
                have hm5 := HPF.out.1 _ (List.getElem_mem t4)
                have hm6 := HPF.out.2.1 _ (List.getElem_mem t4)
                have HFX := hid (show fh i = l[Y] - 1 by rw [HFF.out.2]; unfold highN; rw [if_pos (by omega), Int.toNat_natCast, List.getD_eq_getElem?_getD, List.getElem?_eq_getElem t4]; rfl)
                obtain ⟨g5, f5, hpe, hg5, hcs⟩ := HPB.out (by omega)
                subst hpe
                have HD5 := hid fun (X' : World) (hX : Below w.heap.size w X') => (hX.cell (p := ⟨g5, f5 + Y, none⟩) hg5).trans (hcs Y t4)
                have HLY := hid t4
                generalize l[Y] = m2 at hm5 hm6 HFX HD5
                obtain ⟨M, hM⟩ : ∃ M, m2 - 1 = M := ⟨_, rfl⟩
                rw [hM] at HFX
                have s4 : IntKind.u32.wrap ((m2 : Int) - 1) = (M : Int) := by rw [Go.IntWalk.u32_in _ (by omega)]; omega
                clear hm5 hm6 hM hg5 hcs t4
                go_quiet (fail)
                have HK4 := hid (HK3.out.next (below_drewN (Below.refl _ _) nq))
                clear y1 y2 y3 y4
                generalize V2.drewN nq = V4 at HK4 ⊢
                obtain ⟨z5, z6⟩ := HST.out _ HK4.out.bel
                have HK4D := hid (HK4.out.next (Below.refl _ _).drew)
                obtain ⟨U2, hU2⟩ : ∃ U2, V4.drew.setCell ⟨gh, i, none⟩ (.int .u32 (M : Int)) = U2 := ⟨_, rfl⟩
                have HK5 := hid (show BoK w w.heap.size g8 gl cl gh ch bs.length fl fh (i + 1) (i + 1) U2 by rw [← hU2]; exact HK4D.out.setH M HFX.out)
                have q0 := And.intro HK4D.out.cells.2 (And.intro (HST.out _ HK4D.out.bel).2 (HD5.out _ HK4D.out.bel))
                have q1 := And.intro HK5.out.cells.2 (And.intro (HST.out _ HK5.out.bel).2 (HD5.out _ HK5.out.bel))
                obtain ⟨⟨y5, u1⟩, u2⟩ := HK4D.out.atH i HI.out
                have z7 : (Y : Int) < (l.length : Int) := by have := HLY.out; omega
                have z8 : (0 : Int) ≤ (Y : Int) := by omega
                clear z5 z6
                go_wp2_with fail
                refine wp_region_held_drew (S := fun w' => w'.cell? ⟨g8, 1, none⟩ = some (.slice (some ⟨gh, 0, none⟩) bs.length ch) ∧ (w'.cell? ⟨b2, f2 + i, none⟩ = some (.int .i64 (Y : Int)) ∧ w'.cell? ⟨b, 0, none⟩ = some (.slice (some ⟨R, 0, none⟩) bs.length bs.length) ∧ w'.cell? ⟨R, i, none⟩ = some (.slice (some ⟨g5, f5, none⟩) l.length cv)) ∧ w'.cell? ⟨g5, f5 + Y, none⟩ = some (.int .u32 (m2 : Int))) (by kernel_rfl) (by exact q0) (fun hHeld => ?_)
                refine wpAnyH_take (i := 0) (oi := { dst := some 109, op := Op.fieldAddr 34 (Operand.tmp 8) 1, type := 0, pos := "ref.go:109", after := #[], guard := none }) (v := ?vu0) rfl (by kernel_rfl) (by kernel_rfl) (by kernel_rfl) (fun _ _ _ h => h) (Or.inl ⟨by rfl, ?hyu0⟩) (by assumption) ?restu0
                case hyu0 => (intro w hSw; (try dsimp only at hSw); go_simp; (try with_reducible rfl))
                simp only [Act.put, List.setIfInBounds_toArray, List.set_cons_zero, List.set_cons_succ]
                refine wpAnyH_take (i := 1) (oi := { dst := some 110, op := Op.load 32 (Operand.tmp 109), type := 32, pos := "ref.go:109", after := #[{ on := 0, ground := Ground.data }], guard := none }) (v := ?vu1) rfl (by kernel_rfl) (by kernel_rfl) (by kernel_rfl) (fun _ _ _ h => h) (Or.inl ⟨by rfl, ?hyu1⟩) (by assumption) ?restu1
                case hyu1 => (intro w hSw; (try dsimp only at hSw); go_simp; (try with_reducible rfl))
                simp only [Act.put, List.setIfInBounds_toArray, List.set_cons_zero, List.set_cons_succ]
                refine wpAnyH_take (i := 2) (oi := { dst := some 111, op := Op.move (Operand.tmp 9), type := 3, pos := "ref.go:109", after := #[], guard := none }) (v := ?vu2) rfl (by kernel_rfl) (by kernel_rfl) (by kernel_rfl) (fun _ _ _ h => h) (Or.inl ⟨by rfl, ?hyu2⟩) (by assumption) ?restu2
                case hyu2 => (intro w hSw; (try dsimp only at hSw); go_simp; (try with_reducible rfl))
                simp only [Act.put, List.setIfInBounds_toArray, List.set_cons_zero, List.set_cons_succ]
                refine wpAnyH_take (i := 3) (oi := { dst := some 112, op := Op.move (Operand.tmp 0), type := 27, pos := "ref.go:109", after := #[], guard := none }) (v := ?vu3) rfl (by kernel_rfl) (by kernel_rfl) (by kernel_rfl) (fun _ _ _ h => h) (Or.inl ⟨by rfl, ?hyu3⟩) (by assumption) ?restu3
                case hyu3 => (intro w hSw; (try dsimp only at hSw); go_simp; (try with_reducible rfl))
                simp only [Act.put, List.setIfInBounds_toArray, List.set_cons_zero, List.set_cons_succ]
                refine wpAnyH_take (i := 4) (oi := { dst := some 113, op := Op.nilCheck (Operand.tmp 112), type := 0, pos := "ref.go:109", after := #[{ on := 3, ground := Ground.data }], guard := none }) (v := ?vu4) rfl (by kernel_rfl) (by kernel_rfl) (by kernel_rfl) (fun _ _ _ h => h) (Or.inl ⟨by rfl, ?hyu4⟩) (by assumption) ?restu4
                case hyu4 => (intro w hSw; (try dsimp only at hSw); go_simp; (try with_reducible rfl))
                simp only [Act.put, List.setIfInBounds_toArray, List.set_cons_zero, List.set_cons_succ]
                refine wpAnyH_take (i := 5) (oi := { dst := some 114, op := Op.fieldAddr 73 (Operand.tmp 113) 0, type := 0, pos := "ref.go:109", after := #[{ on := 4, ground := Ground.data }], guard := none }) (v := ?vu5) rfl (by kernel_rfl) (by kernel_rfl) (by kernel_rfl) (fun _ _ _ h => h) (Or.inl ⟨by rfl, ?hyu5⟩) (by assumption) ?restu5
                case hyu5 => (intro w hSw; (try dsimp only at hSw); go_simp; (try with_reducible rfl))
                simp only [Act.put, List.setIfInBounds_toArray, List.set_cons_zero, List.set_cons_succ]
                refine wpAnyH_take (i := 6) (oi := { dst := some 115, op := Op.load 69 (Operand.tmp 114), type := 69, pos := "ref.go:109", after := #[{ on := 5, ground := Ground.data }], guard := none }) (v := ?vu6) rfl (by kernel_rfl) (by kernel_rfl) (by kernel_rfl) (fun _ _ _ h => h) (Or.inl ⟨by rfl, ?hyu6⟩) (by assumption) ?restu6
                case hyu6 => (intro w hSw; (try dsimp only at hSw); go_simp; (try with_reducible rfl))
                simp only [Act.put, List.setIfInBounds_toArray, List.set_cons_zero, List.set_cons_succ]
                refine wpAnyH_take (i := 7) (oi := { dst := some 116, op := Op.move (Operand.tmp 9), type := 3, pos := "ref.go:109", after := #[], guard := none }) (v := ?vu7) rfl (by kernel_rfl) (by kernel_rfl) (by kernel_rfl) (fun _ _ _ h => h) (Or.inl ⟨by rfl, ?hyu7⟩) (by assumption) ?restu7
                case hyu7 => (intro w hSw; (try dsimp only at hSw); go_simp; (try with_reducible rfl))
                simp only [Act.put, List.setIfInBounds_toArray, List.set_cons_zero, List.set_cons_succ]
                refine wpAnyH_take (i := 8) (oi := { dst := some 117, op := Op.indexAddr 69 (Operand.tmp 115) (Operand.tmp 116), type := 0, pos := "ref.go:109", after := #[{ on := 6, ground := Ground.data }, { on := 7, ground := Ground.data }], guard := none }) (v := ?vu8) rfl (by kernel_rfl) (by kernel_rfl) (by kernel_rfl) (fun _ _ _ h => h) (Or.inl ⟨by rfl, ?hyu8⟩) (by assumption) ?restu8
                case hyu8 => (intro w hSw; (try dsimp only at hSw); go_simp; (try with_reducible rfl))
                simp only [Act.put, List.setIfInBounds_toArray, List.set_cons_zero, List.set_cons_succ]
                refine wpAnyH_take (i := 9) (oi := { dst := some 118, op := Op.load 31 (Operand.tmp 117), type := 31, pos := "ref.go:109", after := #[{ on := 8, ground := Ground.data }], guard := none }) (v := ?vu9) rfl (by kernel_rfl) (by kernel_rfl) (by kernel_rfl) (fun _ _ _ h => h) (Or.inl ⟨by rfl, ?hyu9⟩) (by assumption) ?restu9
                case hyu9 => (intro w hSw; (try dsimp only at hSw); go_simp; (try with_reducible rfl))
                simp only [Act.put, List.setIfInBounds_toArray, List.set_cons_zero, List.set_cons_succ]
                refine wpAnyH_take (i := 10) (oi := { dst := some 119, op := Op.move (Operand.tmp 2), type := 35, pos := "ref.go:109", after := #[], guard := none }) (v := ?vu10) rfl (by kernel_rfl) (by kernel_rfl) (by kernel_rfl) (fun _ _ _ h => h) (Or.inl ⟨by rfl, ?hyu10⟩) (by assumption) ?restu10
                case hyu10 => (intro w hSw; (try dsimp only at hSw); go_simp; (try with_reducible rfl))
                simp only [Act.put, List.setIfInBounds_toArray, List.set_cons_zero, List.set_cons_succ]
                refine wpAnyH_take (i := 11) (oi := { dst := some 120, op := Op.move (Operand.tmp 9), type := 3, pos := "ref.go:109", after := #[], guard := none }) (v := ?vu11) rfl (by kernel_rfl) (by kernel_rfl) (by kernel_rfl) (fun _ _ _ h => h) (Or.inl ⟨by rfl, ?hyu11⟩) (by assumption) ?restu11
                case hyu11 => (intro w hSw; (try dsimp only at hSw); go_simp; (try with_reducible rfl))
                simp only [Act.put, List.setIfInBounds_toArray, List.set_cons_zero, List.set_cons_succ]
                refine wpAnyH_take (i := 12) (oi := { dst := some 121, op := Op.indexAddr 35 (Operand.tmp 119) (Operand.tmp 120), type := 0, pos := "ref.go:109", after := #[{ on := 10, ground := Ground.data }, { on := 11, ground := Ground.data }], guard := none }) (v := ?vu12) rfl (by kernel_rfl) (by kernel_rfl) (by kernel_rfl) (fun _ _ _ h => h) (Or.inl ⟨by rfl, ?hyu12⟩) (by assumption) ?restu12
                case hyu12 => (intro w hSw; (try dsimp only at hSw); go_simp; (try with_reducible rfl))
                simp only [Act.put, List.setIfInBounds_toArray, List.set_cons_zero, List.set_cons_succ]
                refine wpAnyH_take (i := 13) (oi := { dst := some 122, op := Op.load 3 (Operand.tmp 121), type := 3, pos := "ref.go:109", after := #[{ on := 12, ground := Ground.data }], guard := none }) (v := ?vu13) rfl (by kernel_rfl) (by kernel_rfl) (by kernel_rfl) (fun _ _ _ h => h) (Or.inl ⟨by rfl, ?hyu13⟩) (by assumption) ?restu13
                case hyu13 => (intro w hSw; (try dsimp only at hSw); go_simp; (try with_reducible rfl))
                simp only [Act.put, List.setIfInBounds_toArray, List.set_cons_zero, List.set_cons_succ]
                refine wpAnyH_take (i := 14) (oi := { dst := some 123, op := Op.indexAddr 31 (Operand.tmp 118) (Operand.tmp 122), type := 0, pos := "ref.go:109", after := #[{ on := 9, ground := Ground.data }, { on := 13, ground := Ground.data }], guard := none }) (v := ?vu14) rfl (by kernel_rfl) (by kernel_rfl) (by kernel_rfl) (fun _ _ _ h => h) (Or.inl ⟨by rfl, ?hyu14⟩) (by assumption) ?restu14
                case hyu14 => (intro w hSw; (try dsimp only at hSw); go_simp; (try with_reducible rfl))
                simp only [Act.put, List.setIfInBounds_toArray, List.set_cons_zero, List.set_cons_succ]
                refine wpAnyH_take (i := 15) (oi := { dst := some 124, op := Op.load 30 (Operand.tmp 123), type := 30, pos := "ref.go:109", after := #[{ on := 14, ground := Ground.data }], guard := none }) (v := ?vu15) rfl (by kernel_rfl) (by kernel_rfl) (by kernel_rfl) (fun _ _ _ h => h) (Or.inl ⟨by rfl, ?hyu15⟩) (by assumption) ?restu15
                case hyu15 => (intro w hSw; (try dsimp only at hSw); go_simp; (try with_reducible rfl))
                simp only [Act.put, List.setIfInBounds_toArray, List.set_cons_zero, List.set_cons_succ]
                refine wpAnyH_take (i := 16) (oi := { dst := some 125, op := Op.binOp BinOp.sub 30 (Operand.tmp 124) (Operand.const (Value.int IntKind.u32 1)) 30, type := 30, pos := "ref.go:109", after := #[{ on := 15, ground := Ground.data }], guard := none }) (v := ?vu16) rfl (by kernel_rfl) (by kernel_rfl) (by kernel_rfl) (fun _ _ _ h => h) (Or.inl ⟨by rfl, ?hyu16⟩) (by assumption) ?restu16
                case hyu16 => (intro w hSw; (try dsimp only at hSw); go_simp; (try with_reducible rfl))
                simp only [Act.put, List.setIfInBounds_toArray, List.set_cons_zero, List.set_cons_succ]
                refine wpAnyH_take (i := 17) (oi := { dst := some 126, op := Op.indexAddr 32 (Operand.tmp 110) (Operand.tmp 111), type := 0, pos := "ref.go:109", after := #[{ on := 1, ground := Ground.data }, { on := 2, ground := Ground.data }, { on := 0, ground := Ground.phase }, { on := 1, ground := Ground.phase }, { on := 2, ground := Ground.phase }, { on := 3, ground := Ground.phase }, { on := 4, ground := Ground.phase }, { on := 5, ground := Ground.phase }, { on := 6, ground := Ground.phase }, { on := 7, ground := Ground.phase }, { on := 8, ground := Ground.phase }, { on := 9, ground := Ground.phase }, { on := 10, ground := Ground.phase }, { on := 11, ground := Ground.phase }, { on := 12, ground := Ground.phase }, { on := 13, ground := Ground.phase }, { on := 14, ground := Ground.phase }, { on := 15, ground := Ground.phase }, { on := 16, ground := Ground.phase }], guard := none }) (v := ?vu17) rfl (by kernel_rfl) (by kernel_rfl) (by kernel_rfl) (fun _ _ _ h => h) (Or.inl ⟨by rfl, ?hyu17⟩) (by assumption) ?restu17
                case hyu17 => (intro w hSw; (try dsimp only at hSw); go_simp; (try with_reducible rfl))
                simp only [Act.put, List.setIfInBounds_toArray, List.set_cons_zero, List.set_cons_succ]
                refine wpAnyH_ready (rs := [18]) (by kernel_rfl) (by simp) (AllReadyH.cons (o := { dst := none, op := Op.store 30 (Operand.tmp 126) (Operand.tmp 125), type := 0, pos := "ref.go:109", after := #[{ on := 17, ground := Ground.data }, { on := 16, ground := Ground.data }, { on := 0, ground := Ground.phase }, { on := 1, ground := Ground.phase }, { on := 2, ground := Ground.phase }, { on := 3, ground := Ground.phase }, { on := 4, ground := Ground.phase }, { on := 5, ground := Ground.phase }, { on := 6, ground := Ground.phase }, { on := 7, ground := Ground.phase }, { on := 8, ground := Ground.phase }, { on := 9, ground := Ground.phase }, { on := 10, ground := Ground.phase }, { on := 11, ground := Ground.phase }, { on := 12, ground := Ground.phase }, { on := 13, ground := Ground.phase }, { on := 14, ground := Ground.phase }, { on := 15, ground := Ground.phase }, { on := 16, ground := Ground.phase }], guard := none }) rfl (fun K hK => ?_) AllReadyH.nil)
                go_simp
                refine hK.out _ _ q1 (fun hHeld => ?_)
                clear hK K
                refine wpAnyH_done (by kernel_rfl) ?_ _
                clear hU2 u1 u2 q0 q1 s4 c4 c4' z7 z8
                go_wp2_with fail
                go_roundw
                case rel => exact ⟨i + 1, by rw [show wrap64 ((i : Int) + 1) = ((i + 1 : Nat) : Int) by unfold wrap64; have := HI.out; have := HD.out; omega], HI.out, HK5.out, HAL2.out⟩
                case measure =>
                  have := HI.out; have := HD.out
                  rw [show wrap64 ((i : Int) + 1) = ((i + 1 : Nat) : Int) by unfold wrap64; omega]
                  simp [intOf]; omega
              · have c4 : decide ((Y : Int) < (l.length : Int)) = false := by simpa using t4
                have c4' : decide (Y < l.length) = false := by simpa using t4
                have HFX := hid (show fh i = 4294967295 by rw [HFF.out.2]; unfold highN; rw [if_neg (by omega)])
                clear t4
                go_quiet (fail)
                have HK4 := hid ((HK3.out.next (below_drewN (Below.refl _ _) nq)).sameH HFX.out)
                clear y1 y2 y3 y4
                generalize V2.drewN nq = V4 at HK4 ⊢
                go_wp2_with fail
                go_roundw
                case rel => exact ⟨i + 1, by rw [show wrap64 ((i : Int) + 1) = ((i + 1 : Nat) : Int) by unfold wrap64; have := HI.out; have := HD.out; omega], HI.out, HK4.out, HAL2.out⟩
                case measure =>
                  have := HI.out; have := HD.out
                  rw [show wrap64 ((i : Int) + 1) = ((i + 1 : Nat) : Int) by unfold wrap64; omega]
                  simp [intOf]; omega
    · have e1 : decide ((i : Int) < (bs.length : Int)) = false := by simp; omega
      have e1' : decide (i < bs.length) = false := by simpa using hlt
      obtain rfl : i = bs.length := by omega
      have HYE := hid (show bxB bs lo hi = true from HAL.out)
      have HFT := hid (show (∀ x ∈ lowL bs lo, x < 4294967296) ∧ (∀ x ∈ highL bs hi, x < 4294967296) from by
        refine ⟨fun x hx => ?_, fun x hx => ?_⟩
        · obtain ⟨j, hj, rfl⟩ := List.mem_map.1 hx
          have hj := List.mem_range.1 hj
          exact lowN_fit (H.out.fit _ (getD_mem hj)).1 _
        · obtain ⟨j, hj, rfl⟩ := List.mem_map.1 hx
          have hj := List.mem_range.1 hj
          exact highN_fit (H.out.fit _ (getD_mem hj)).1 _)
      have HR1 := hid (show Rw wr gl cl bs.length (lowL bs lo) by unfold lowL; rw [← HFL.out, ← preF_all fl bs.length 0]; exact HK.out.lo)
      have HR2 := hid (show Rw wr gh ch bs.length (highL bs hi) by unfold highL; rw [← HFH.out, ← preF_all fh bs.length 4294967295]; exact HK.out.hi)
      obtain ⟨x0, x1⟩ := HK.out.cells
      have HS := hid (store_out HK.out.bel HK.out.ge.2.2 HK.out.out (HR1.out.pt HFT.out.1) (HR2.out.pt HFT.out.2) (.slice (some ⟨gl, 0, none⟩) bs.length cl) (.slice (some ⟨gh, 0, none⟩) bs.length ch) (by simp))
      obtain ⟨z5, z6, z7, z8⟩ := zero_cells HK.out.out
      have y4 := HS.out.2.2.2.1
      have y5 := HS.out.2.2.2.2
      have HN := hid (And.intro (lowL_len bs lo) (highL_len bs hi))
      clear hlt hi2
      go_wp2_with fail
      refine bodyPost_ret (v := .tuple #[.agg #[.slice (some ⟨gl, 0, none⟩) bs.length cl, .slice (some ⟨gh, 0, none⟩) bs.length ch], .int .i64 0]) (by simp [results, Try.results23, go_sem, y4, y5]) rfl ?_
      rw [show bxL bs lo hi = lowL bs lo by unfold bxL; rw [if_pos (show (List.range bs.length).all (riseS bs lo hi) = true from HYE.out)], show bxH bs lo hi = highL bs hi by unfold bxH; rw [if_pos (show (List.range bs.length).all (riseS bs lo hi) = true from HYE.out)], HYE.out, err_true true rfl]
      exact ⟨some ⟨gl, 0, none⟩, cl, some ⟨gh, 0, none⟩, ch, by rw [HN.out.1, HN.out.2], HS.out.1, HS.out.2.1, HS.out.2.2.1⟩
end Go.Proofs.Ytmhjoeegghnlhaa.Sc

/- The document's own scale: Meet. -/
namespace Go.Proofs.Ytmhjoeegghnlhaa.Sc
open Go.RowKit
open Go.Lib (hid)
open Go.Proofs.Ytmhjoeegghnlhaa.Ky Go.Proofs.Ytmhjoeegghnlhaa.Bk

/-- two lists of numbers were returned -/
def TwoRd (w : World) (n : Nat) (L M : List Nat) (e : Ending) (w' : World) : Prop :=
  ∃ p c p' c2, e = .returned (.tuple #[.slice p n c, .slice p' n c2, .int .i64 0]) ∧ ReadAt w' p (ci L) ∧ ReadAt w' p' (ci M) ∧ Below w.heap.size w w'
set_option maxRecDepth 100000 in
set_option maxHeartbeats 4000000 in
theorem rmeet_yes (N b R : Nat) (vs : List Value) (bs : List (List Nat)) (lo hi : List Nat) (q r : Option Addr) (c' c'' : Nat) (w : World) (h : Rk N w b R vs bs) (hu : upS bs) (hlo : Pt w q lo) (hhi : Pt w r hi) (hl : lo.length ≤ 9223372036854775807) (hb : boxB lo hi (bs.length : Int) = true) :
    Calls Try.prog 26 #[.pointer (some ⟨b, 0, none⟩), .agg #[.slice q lo.length c', .slice r hi.length c'']] w (TwoRd w bs.length (cellL bs lo) (cellL bs hi)) := by
  have hbb := hb
  unfold boxB at hbb
  simp only [Bool.and_eq_true] at hbb
  have hk1 := hbb.1
  have hll := leAll_len hbb.2
  have hk2 : checkB hi.length (bs.length : Int) = true := by rw [← hll]; exact hk1
  obtain ⟨W, hW⟩ : ∃ W, w.alloc (.cells #[.slice q lo.length c', .slice r hi.length c''] 34) = W := ⟨_, rfl⟩
  have HBW := hid (show Below w.heap.size w W by rw [← hW]; exact below_alloc _ _)
  have HG := hid (show W.heap[w.heap.size]? = some (.cells #[.slice q lo.length c', .slice r hi.length c''] 34 (0, 0)) by rw [← hW]; exact heap_alloc_new _ _)
  have HST := hid (show ∀ V : World, Below W.heap.size W V → V.cell? ⟨w.heap.size, 0, none⟩ = some (.slice q lo.length c') ∧ V.cell? ⟨w.heap.size, 1, none⟩ = some (.slice r hi.length c'') ∧ V.cell? ⟨b, 0, none⟩ = some (.slice (some ⟨R, 0, none⟩) bs.length bs.length) from fun V hV => by
    have hg := (hV.block _ (Array.getElem?_eq_some_iff.1 HG.out).1).trans HG.out
    exact ⟨by rw [cell_of_row _ _ _ _ _ _ hg]; rfl, by rw [cell_of_row _ _ _ _ _ _ hg]; rfl, (h.next (HBW.out.trans (hV.mono HBW.out.size))).cell.1⟩)
  have HCB := hid fun (V : World) (hV : Below W.heap.size W V) => refCheckBox_ok lo hi q r c' c'' (bs.length : Int) V (hlo.below (HBW.out.trans (hV.mono HBW.out.size))) (hhi.below (HBW.out.trans (hV.mono HBW.out.size))) hl
  rw [hb, err_true true rfl] at HCB
  have HCE := hid fun (V : World) (hV : Below W.heap.size W V) => rfind_any N b R vs bs lo q c' V (h.next (HBW.out.trans (hV.mono HBW.out.size))) hu (hlo.below (HBW.out.trans (hV.mono HBW.out.size)))
  have HCF := hid fun (V : World) (hV : Below W.heap.size W V) => rfind_any N b R vs bs hi r c'' V (h.next (HBW.out.trans (hV.mono HBW.out.size))) hu (hhi.below (HBW.out.trans (hV.mono HBW.out.size)))
  simp only [hk1, err_true true rfl, if_true] at HCE
  simp only [hk2, err_true true rfl, if_true] at HCF
  obtain ⟨y1, y2, y3⟩ := HST.out W (Below.refl _ _)
  clear h hu hlo hhi hb hbb hll hk1 hk2 hl
  generalize cellL bs lo = C1 at HCE ⊢
  generalize cellL bs hi = C2 at HCF ⊢
  generalize lo.length = n1 at *
  generalize hi.length = n2 at *
  generalize bs.length = n at *
  go_enter Try.func26, Try.ntmps26
  go_wp2_with fail
  have y12 := And.intro y1 (And.intro y2 y3)
  go_region_held3 (fun w' => w'.cell? ⟨w.heap.size, 0, none⟩ = some (.slice q n1 c') ∧ w'.cell? ⟨w.heap.size, 1, none⟩ = some (.slice r n2 c'') ∧ w'.cell? ⟨b, 0, none⟩ = some (.slice (some ⟨R, 0, none⟩) n n)) (first | exact y12 | exact x4 | go_keep)
    (first
      | (go_at_call 35; refine (HCB.out _ (Below.refl _ _).drew).mono ?_; rintro e w4 ⟨rfl, hb4⟩; have HB4 := hid (show Below W.heap.size W w4 from (Below.refl _ W).drew.trans hb4); have x4 := HST.out _ HB4.out; clear hb4)
      | fail)
  clear y1 y2 y3 y12 x4 hW
  obtain ⟨y1, y2, y3⟩ := HST.out _ HB4.out
  go_wp2_with fail
  refine (HCE.out _ HB4.out).mono ?_
  rintro e w5 ⟨p5, m5, c5, rfl, ⟨hm5, hr5⟩, hb⟩
  have hm5 := hm5.symm
  subst hm5
  have HB5 := hid (HB4.out.trans (hb.mono HB4.out.size))
  have HR5 := hid hr5
  clear hr5 hb y1 y2 y3
  obtain ⟨y1, y2, y3⟩ := HST.out _ HB5.out
  go_wp2_with fail
  refine (HCF.out _ HB5.out).mono ?_
  rintro e w6 ⟨p6, m6, c6, rfl, ⟨hm6, hr6⟩, hb⟩
  have hm6 := hm6.symm
  subst hm6
  have HB6 := hid (HB5.out.trans (hb.mono HB5.out.size))
  have HR6 := hid (And.intro (HR5.out.below hb) hr6)
  clear hr6 hb y1 y2 y3
  have HBF := hid (HBW.out.trans (HB6.out.mono HBW.out.size))
  go_wp2_with fail
  refine bodyPost_ret (v := .tuple #[.slice p5 n c5, .slice p6 n c6, .int .i64 0]) (by simp [results, Try.results26, go_sem]) rfl ?_
  exact ⟨p5, c5, p6, c6, rfl, HR6.out.1, HR6.out.2, HBF.out⟩
set_option maxRecDepth 100000 in
set_option maxHeartbeats 4000000 in
theorem rmeet_no (N b R : Nat) (vs : List Value) (bs : List (List Nat)) (lo hi : List Nat) (q r : Option Addr) (c' c'' : Nat) (w : World) (h : Rk N w b R vs bs) (hlo : Pt w q lo) (hhi : Pt w r hi) (hl : lo.length ≤ 9223372036854775807) (hb : boxB lo hi (bs.length : Int) = false) :
    Calls Try.prog 26 #[.pointer (some ⟨b, 0, none⟩), .agg #[.slice q lo.length c', .slice r hi.length c'']] w fun e w' => e = .returned (.tuple #[.slice none 0 0, .slice none 0 0, .int .i64 1]) ∧ Below w.heap.size w w' := by
  obtain ⟨W, hW⟩ : ∃ W, w.alloc (.cells #[.slice q lo.length c', .slice r hi.length c''] 34) = W := ⟨_, rfl⟩
  have HBW := hid (show Below w.heap.size w W by rw [← hW]; exact below_alloc _ _)
  have HG := hid (show W.heap[w.heap.size]? = some (.cells #[.slice q lo.length c', .slice r hi.length c''] 34 (0, 0)) by rw [← hW]; exact heap_alloc_new _ _)
  have HST := hid (show ∀ V : World, Below W.heap.size W V → V.cell? ⟨w.heap.size, 0, none⟩ = some (.slice q lo.length c') ∧ V.cell? ⟨w.heap.size, 1, none⟩ = some (.slice r hi.length c'') ∧ V.cell? ⟨b, 0, none⟩ = some (.slice (some ⟨R, 0, none⟩) bs.length bs.length) from fun V hV => by
    have hg := (hV.block _ (Array.getElem?_eq_some_iff.1 HG.out).1).trans HG.out
    exact ⟨by rw [cell_of_row _ _ _ _ _ _ hg]; rfl, by rw [cell_of_row _ _ _ _ _ _ hg]; rfl, (h.next (HBW.out.trans (hV.mono HBW.out.size))).cell.1⟩)
  have HCB := hid fun (V : World) (hV : Below W.heap.size W V) => refCheckBox_ok lo hi q r c' c'' (bs.length : Int) V (hlo.below (HBW.out.trans (hV.mono HBW.out.size))) (hhi.below (HBW.out.trans (hV.mono HBW.out.size))) hl
  rw [hb, err_false false rfl] at HCB
  obtain ⟨y1, y2, y3⟩ := HST.out W (Below.refl _ _)
  clear h hlo hhi hb hl
  generalize lo.length = n1 at *
  generalize hi.length = n2 at *
  generalize bs.length = n at *
  go_enter Try.func26, Try.ntmps26
  go_wp2_with fail
  have y12 := And.intro y1 (And.intro y2 y3)
  go_region_held3 (fun w' => w'.cell? ⟨w.heap.size, 0, none⟩ = some (.slice q n1 c') ∧ w'.cell? ⟨w.heap.size, 1, none⟩ = some (.slice r n2 c'') ∧ w'.cell? ⟨b, 0, none⟩ = some (.slice (some ⟨R, 0, none⟩) n n)) (first | exact y12 | exact x4 | go_keep)
    (first
      | (go_at_call 35; refine (HCB.out _ (Below.refl _ _).drew).mono ?_; rintro e w4 ⟨rfl, hb4⟩; have HB4 := hid (show Below W.heap.size W w4 from (Below.refl _ W).drew.trans hb4); have x4 := HST.out _ HB4.out; clear hb4)
      | fail)
  have HBF := hid (HBW.out.trans (HB4.out.mono HBW.out.size))
  go_wp2_with fail
  refine bodyPost_ret (v := .tuple #[.slice none 0 0, .slice none 0 0, .int .i64 1]) (by simp [results, Try.results26, go_sem]) rfl ?_
  exact ⟨rfl, HBF.out⟩
end Go.Proofs.Ytmhjoeegghnlhaa.Sc

/- The reference's number in bytes (out of BkNum). -/
namespace Go.Proofs.Ytmhjoeegghnlhaa.Sc
open Go.RowKit
open Go.Lib (hid)
open Go.Proofs.Ytmhjoeegghnlhaa.Fd (Area Row Upd rowOf be be_length be_at beB num getAt back_run)

theorem row_back (l : List UInt8) (w : World) (n : Nat) (hn : l.length = n) :
    (convert 87 9 (.slice (some ⟨w.heap.size, 0, none⟩) n n)).run Try.prog (w.alloc (.cells (rowOf l) 5)) = .ok (.string ⟨l.toArray⟩) (w.alloc (.cells (rowOf l) 5)) := by
  have hr : Row (w.alloc (.cells (rowOf l) 5)) w.heap.size l := by
    unfold Row; rw [heap_alloc_new]
  have := back_run hr 0 n n (by omega)
  have e : getAt l 0 n = l := by rw [← hn]; exact Fd.getAt_all l
  rw [e] at this
  exact this
theorem be_more (m n : Nat) : be (m + 1) n = UInt8.ofNat (n / 256 ^ m) :: be m n := by
  apply List.ext_getElem?
  intro i
  cases i with
  | zero => rw [be_at _ _ _ (by omega)]; unfold beB; simp
  | succ i =>
    rw [List.getElem?_cons_succ]
    by_cases h : i < m
    · rw [be_at _ _ _ (by omega), be_at _ _ _ h]; unfold beB
      congr 3; congr 1; omega
    · rw [List.getElem?_eq_none (by rw [be_length]; omega), List.getElem?_eq_none (by rw [be_length]; omega)]
theorem one_cell (d : Nat) : (#[.int .u8 ((d : Int) % 256)] : Array Value) = rowOf [UInt8.ofNat d] := by
  unfold rowOf
  simp
theorem div_more (n k : Nat) : n / 256 ^ k / 256 = n / 256 ^ (k + 1) := by rw [Nat.pow_succ, Nat.div_div_eq_div_mul]
set_option maxHeartbeats 400000 in
theorem wide_any (n m : Nat) (w : World) (hn : n ≤ 4611686018427387904) (hm : m ≤ 8) :
    Calls Try.prog 38 #[.int .i64 (n : Int), .int .i64 (m : Int)] w fun e w' => e = .returned (.string ⟨(be m n).toArray⟩) ∧ Below w.heap.size w w' := by
  go_enter Try.func38, Try.ntmps38
  go_wp2_with fail
  go_loopw [0, 5, 6] (fun x s i wr => ∃ k d : Nat, k ≤ m ∧ d ≤ n ∧ d = n / 256 ^ k ∧ i = .int .i64 k ∧ x = .int .i64 (d : Int) ∧ s = .string ⟨(be k n).toArray⟩ ∧ Below w.heap.size w wr) (fun _ _ i _ => m - (intOf i).toNat)
  case atStart => exact ⟨0, n, by omega, by omega, by simp, rfl, rfl, rfl, Below.refl _ _⟩
  case round =>
    obtain ⟨k, d, hk, hd, hdv, rfl, rfl, rfl, hB⟩ := hrel
    have HB := hid hB; clear hB
    have HD := hid hdv; clear hdv
    by_cases hlt : k < m
    · have hb := row_back [UInt8.ofNat d] wr 1 rfl
      rw [← one_cell] at hb
      have hlen : (be k n).length ≤ 8 := by rw [be_length]; omega
      go_wp2_with fail
      go_roundw
      case rel =>
        refine ⟨k + 1, d / 256, by omega, by omega, by rw [HD.out, div_more], by go_num, by simp, ?_, HB.out.alloc HB.out.size _⟩
        rw [be_more, ← HD.out]
        rfl
      case measure => simp [intOf]; omega
    · obtain rfl : k = m := by omega
      go_wp2_with fail
      go_ret
      exact ⟨rfl, HB.out⟩
end Go.Proofs.Ytmhjoeegghnlhaa.Sc

/- The document's own scale: Encode. -/
namespace Go.Proofs.Ytmhjoeegghnlhaa.Sc
open Go.RowKit
open Go.Lib (hid)
open Go.Proofs.Ytmhjoeegghnlhaa.Ky Go.Proofs.Ytmhjoeegghnlhaa.Bk
open Go.Proofs.Ytmhjoeegghnlhaa

theorem cat_l (a b : List UInt8) : (⟨a.toArray⟩ : ByteArray) ++ ⟨b.toArray⟩ = ⟨(a ++ b).toArray⟩ := by
  apply ByteArray.ext
  rw [ByteArray.data_append]
  simp
theorem flat_take (l : List Nat) (j : Nat) (h : j < l.length) : (l.take (j + 1)).flatMap (Fd.be 4) = (l.take j).flatMap (Fd.be 4) ++ Fd.be 4 l[j] := by
  rw [List.take_succ_eq_append_getElem h, List.flatMap_append]; simp
set_option maxRecDepth 100000 in
set_option maxHeartbeats 8000000 in
theorem rencode_ok (N b R : Nat) (vs : List Value) (bs : List (List Nat)) (w : World) (h : Rk N w b R vs bs) :
    Calls Try.prog 13 #[.pointer (some ⟨b, 0, none⟩)] w fun e w' => e = .returned (.string ⟨(encS bs).toArray⟩) ∧ Below w.heap.size w w' := by
  have H := hid h
  have HD := hid h.dim
  have HSZ := hid fun (k : Nat) => encS_len (bs.take k) (fun l hl => (h.fit l (List.mem_of_mem_take hl)).2)
  clear h
  go_enter Try.func13, Try.ntmps13
  go_wp2_with fail
  go_loopw [3, 4] (fun s i wr => ∃ k : Nat, k ≤ bs.length ∧ i = .int .i64 k ∧ s = .string ⟨(encS (bs.take k)).toArray⟩ ∧ Below w.heap.size w wr) (fun _ i _ => bs.length - (intOf i).toNat)
  case atStart => exact ⟨0, by omega, rfl, by simp [encS], Below.refl _ _⟩
  case round =>
    obtain ⟨k, hk, rfl, rfl, hb⟩ := hrel
    have HB := hid hb
    have hc0 := (H.out.next hb).cell.1
    by_cases hlt : k < bs.length
    · have e1 : decide ((k : Int) < (bs.length : Int)) = true := by simpa using hlt
      have e1' : decide (k < bs.length) = true := by simpa using hlt
      obtain ⟨l, hl⟩ : ∃ l, bs[k]? = some l := ⟨_, List.getElem?_eq_getElem hlt⟩
      obtain ⟨v, p, c, hv, hvp, hcl, hfr, hpt, hown, hlc⟩ := (H.out.next hb).at hl
      have hll := (H.out.fit l (List.mem_of_getElem? hl)).2
      have hff := (H.out.fit l (List.mem_of_getElem? hl)).1
      have hsz := HSZ.out k
      have HNX := hid (encS_next bs k l hl)
      have hlen : (bs.take k).length = k := by rw [List.length_take]; omega
      rw [hlen] at hsz
      generalize encS (bs.take k) = P at hsz HNX ⊢
      have HW := hid (wide_any l.length 1 wr (by omega) (by omega))
      have z0 : (0 : Int) ≤ (k : Int) := by omega
      have z1 : (k : Int) < (bs.length : Int) := by omega
      have HLT := hid hlt
      have HP := hid hpt
      have HQ := hid (And.intro hll (And.intro hff hsz))
      have HST := hid (show ∀ X : World, Below wr.heap.size wr X → X.cell? ⟨b, 0, none⟩ = some (.slice (some ⟨R, 0, none⟩) bs.length bs.length) ∧ X.cell? ⟨R, k, none⟩ = some (.slice p l.length c) from fun X hX =>
        ⟨((H.out.next HB.out).next hX).cell.1, (hX.cell (p := ⟨R, k, none⟩) (H.out.next HB.out).ltR).trans hcl⟩)
      have hs1 : (⟨P.toArray⟩ : ByteArray).size = P.length := rfl
      have hs2 : (⟨(Fd.be 1 l.length).toArray⟩ : ByteArray).size = 1 := by show (Fd.be 1 l.length).toArray.size = 1; rw [List.size_toArray, Fd.be_length]
      have g1 : ¬ (9223372036854775807 < P.length + 1) := by have := HD.out; omega
      clear hlt hl hv hvp hfr hpt hown hlc hll hff hsz hlen hb hk
      go_wp2_with fail
      refine HW.out.mono ?_
      rintro e w2 ⟨rfl, hb⟩
      have HB2 := hid hb
      clear hb HW hc0 hcl
      go_wp2_with fail
      clear hs1 hs2 g1
      go_loopw [3, 5] (fun s i wz => ∃ j : Nat, j ≤ l.length ∧ i = .int .i64 j ∧ s = .string ⟨((P ++ Fd.be 1 l.length) ++ (l.take j).flatMap (Fd.be 4)).toArray⟩ ∧ Below wr.heap.size wr wz) (fun _ i _ => l.length - (intOf i).toNat)
      case atStart => exact ⟨0, by omega, rfl, by rw [cat_l, List.take_zero, List.flatMap_nil, List.append_nil], HB2.out⟩
      case round =>
        obtain ⟨j, hj, rfl, rfl, hb⟩ := hrel
        have HZ := hid hb
        obtain ⟨y1, y2⟩ := HST.out _ hb
        obtain ⟨G, hG⟩ : ∃ G, P ++ Fd.be 1 l.length ++ (l.take j).flatMap (Fd.be 4) = G := ⟨_, rfl⟩
        have hGl : G.length = P.length + 1 + 4 * j := by rw [← hG, List.length_append, List.length_append, Fd.be_length, flat_len, List.length_take]; omega
        have HGG := hid hG
        rw [hG]
        by_cases hlt2 : j < l.length
        · have f1 : decide ((j : Int) < (l.length : Int)) = true := by simpa using hlt2
          have f1' : decide (j < l.length) = true := by simpa using hlt2
          obtain ⟨b2, off2, hpe, _, dk⟩ := (HP.out.below hb).cells j hlt2
          subst hpe
          have hx := HQ.out.2.1 _ (List.getElem_mem hlt2)
          have HNK := hid (show P ++ Fd.be 1 l.length ++ (l.take (j + 1)).flatMap (Fd.be 4) = G ++ Fd.be 4 l[j] by rw [flat_take l j hlt2, ← List.append_assoc, hG])
          generalize l[j] = x at dk hx HNK
          have HW := hid fun (V : World) => wide_any x 4 V (by omega) (by omega)
          have z2 : (0 : Int) ≤ (j : Int) := by omega
          have z3 : (j : Int) < (l.length : Int) := by omega
          have hb4 : (Fd.be 4 x).length ≤ 4 := by rw [Fd.be_length]; omega
          have hGb : G.length ≤ 100000 := by have := HQ.out; have := HD.out; omega
          have HLT2 := hid hlt2
          obtain ⟨s1, hs1⟩ : ∃ s, (⟨G.toArray⟩ : ByteArray) = s := ⟨_, rfl⟩
          obtain ⟨s2, hs2⟩ : ∃ s, (⟨(Fd.be 4 x).toArray⟩ : ByteArray) = s := ⟨_, rfl⟩
          have q1 : s1.size = G.length := by rw [← hs1]; rfl
          have q2 : s2.size ≤ 4 := by rw [← hs2]; show (Fd.be 4 x).toArray.size ≤ 4; rw [List.size_toArray]; exact hb4
          have HSS := hid (show s1 ++ s2 = ⟨(G ++ Fd.be 4 x).toArray⟩ by rw [← hs1, ← hs2, cat_l])
          have i1 : (s1.size : Int) ≤ 8388608 := by omega
          have i2 : (s2.size : Int) ≤ 8388608 := by omega
          have r1 : ∀ V : World, (Op.stringOp .add s1 s2).run Try.prog V = .ok (.string (s1 ++ s2)) V := fun V => run_string_add_sum V s1 s2 (by omega)
          have j1 : ¬ (9223372036854775807 < s1.size + s2.size) := by omega
          have j3 : s1.size + s2.size ≤ 9223372036854775807 := by omega
          rw [hs1]
          rw [hs2] at HW
          clear hb hj hlt2 hG hGl hs1 hs2 q1 q2 hGb hb4
          go_wp2_with fail
          refine (HW.out _).mono ?_
          rintro e w5 ⟨rfl, hb⟩
          have HZ2 := hid (HZ.out.trans (hb.mono HZ.out.size))
          clear hb
          go_wp2_with fail
          go_roundw
          case rel =>
            exact ⟨j + 1, HLT2.out, by rw [show wrap64 ((j : Int) + 1) = ((j + 1 : Nat) : Int) by unfold wrap64; have := HLT2.out; have := HQ.out.1; omega], by rw [HNK.out, HSS.out], HZ2.out⟩
          case measure =>
            have := HLT2.out; have := HQ.out.1
            rw [show wrap64 ((j : Int) + 1) = ((j + 1 : Nat) : Int) by unfold wrap64; omega]
            simp [intOf]; omega
        · have f1 : decide ((j : Int) < (l.length : Int)) = false := by simp; omega
          have f1' : decide (j < l.length) = false := by simpa using hlt2
          obtain rfl : j = l.length := by omega
          have HE := hid (show G = encS (bs.take (k + 1)) by
            have h1 := HGG.out
            rw [List.take_length] at h1
            rw [HNX.out, ← h1]; unfold encP; rw [List.append_assoc])
          have HBZ := hid (HB.out.trans (HZ.out.mono HB.out.size))
          clear hb hj hlt2 hG hGl
          go_wp2_with fail
          go_roundw
          case rel => exact ⟨k + 1, HLT.out, by rw [show wrap64 ((k : Int) + 1) = ((k + 1 : Nat) : Int) by unfold wrap64; have := HLT.out; have := HD.out; omega], by rw [HE.out], HBZ.out⟩
          case measure =>
            have := HLT.out; have := HD.out
            rw [show wrap64 ((k : Int) + 1) = ((k + 1 : Nat) : Int) by unfold wrap64; omega]
            simp [intOf]; omega
    · have e1 : decide ((k : Int) < (bs.length : Int)) = false := by simp; omega
      have e1' : decide (k < bs.length) = false := by simpa using hlt
      obtain rfl : k = bs.length := by omega
      rw [List.take_length]
      clear hb hk hlt
      go_wp2_with fail
      go_ret
      exact ⟨rfl, HB.out⟩
end Go.Proofs.Ytmhjoeegghnlhaa.Sc

/- A scale's copy. -/
namespace Go.Proofs.Ytmhjoeegghnlhaa.Sc
open Go.RowKit Go.Lib
open Go.Lib (hid)
open Go.Proofs.Ytmhjoeegghnlhaa.Ky Go.Proofs.Ytmhjoeegghnlhaa.Bk

/-- rows of numbers of the call's own, by coordinates -/
structure Ro (N : Nat) (w : World) (R : Nat) (vs : List Value) (bs : List (List Nat)) : Prop where
  row : w.heap[R]? = some (.cells vs.toArray 31 (0, 0))
  len : vs.length = bs.length
  own : ∀ (i : Nat) (v : Value) (l : List Nat), vs[i]? = some v → bs[i]? = some l → w.ownsRow N 30 1 v l.length (Bk.kl l)
  apart : ∀ (i j : Nat) (v u : Value) (k : Nat), vs[i]? = some v → vs[j]? = some u → v.ownBlock = some k → u.ownBlock = some k → i = j
  nb : ∀ v ∈ vs, v.ownBlock ≠ some R
  lo : N ≤ R
  fit : ∀ l ∈ bs, (∀ x ∈ l, x < 4294967296) ∧ l.length ≤ 255
theorem Ro.lt {N R : Nat} {w : World} {vs : List Value} {bs : List (List Nat)} (h : Ro N w R vs bs) (v : Value) (hv : v ∈ vs) (k : Nat) (hk : v.ownBlock = some k) : k < w.heap.size := by
  obtain ⟨i, hi, rfl⟩ := List.getElem_of_mem hv
  have hib : i < bs.length := by rw [← h.len]; exact hi
  exact ((h.own i _ _ (List.getElem?_eq_getElem hi) (List.getElem?_eq_getElem hib)).lt k hk).2
theorem Ro.add {N R i G : Nat} {w w' : World} {vs : List Value} {bs : List (List Nat)} {v' : Value} {l : List Nat} (h : Ro N w R vs bs) (hi : i < bs.length) (hrow : w'.heap[R]? = some (.cells (vs.set i v').toArray 31 (0, 0)))
    (ho : w'.ownsRow N 30 1 v' l.length (Bk.kl l)) (hG : v'.ownBlock = some G) (hGs : w.heap.size ≤ G) (hk : ∀ k, k < w.heap.size → k ≠ R → w'.heap[k]? = w.heap[k]?) (hf : (∀ x ∈ l, x < 4294967296) ∧ l.length ≤ 255) : Ro N w' R (vs.set i v') (bs.set i l) := by
  have hRl : R < w.heap.size := (Array.getElem?_eq_some_iff.1 h.row).1
  have hset : ∀ (j : Nat) (u : Value), (vs.set i v')[j]? = some u → (j = i ∧ u = v') ∨ (j ≠ i ∧ vs[j]? = some u) := fun j u hu => by
    by_cases e : i = j
    · subst e
      rw [List.getElem?_set_self (by rw [h.len]; exact hi)] at hu
      injection hu with hu
      exact .inl ⟨rfl, hu.symm⟩
    · rw [List.getElem?_set_ne e] at hu
      exact .inr ⟨fun x => e x.symm, hu⟩
  have hsetb : ∀ (j : Nat) (m : List Nat), (bs.set i l)[j]? = some m → (j = i ∧ m = l) ∨ (j ≠ i ∧ bs[j]? = some m) := fun j m hm => by
    by_cases e : i = j
    · subst e
      rw [List.getElem?_set_self hi] at hm
      injection hm with hm
      exact .inl ⟨rfl, hm.symm⟩
    · rw [List.getElem?_set_ne e] at hm
      exact .inr ⟨fun x => e x.symm, hm⟩
  refine ⟨hrow, by simp [h.len], ?_, ?_, ?_, h.lo, ?_⟩
  · intro j u m hu hm
    rcases hset j u hu with ⟨ej, eu⟩ | ⟨hj, hu⟩
    · rcases hsetb _ m hm with ⟨_, em⟩ | ⟨e, _⟩
      · rw [eu, em]; exact ho
      · exact absurd ej e
    · rcases hsetb j m hm with ⟨e, _⟩ | ⟨_, hm⟩
      · exact absurd e hj
      · refine row_keep (h.own j u m hu hm) (fun g hg => hk g (h.lt u (List.mem_of_getElem? hu) g hg) (fun e => h.nb u (List.mem_of_getElem? hu) (by rw [hg, e])))
  · intro j1 j2 u1 u2 k h1 h2 k1 k2
    rcases hset j1 u1 h1 with ⟨e1, eu⟩ | ⟨hj1, h1⟩
    · rcases hset j2 u2 h2 with ⟨e2, _⟩ | ⟨hj2, h2⟩
      · omega
      · rw [eu, hG] at k1
        injection k1 with k1
        have := h.lt u2 (List.mem_of_getElem? h2) k k2
        omega
    · rcases hset j2 u2 h2 with ⟨e2, eu⟩ | ⟨hj2, h2⟩
      · rw [eu, hG] at k2
        injection k2 with k2
        have := h.lt u1 (List.mem_of_getElem? h1) k k1
        omega
      · exact h.apart j1 j2 u1 u2 k h1 h2 k1 k2
  · intro u hu
    obtain ⟨j, hj, rfl⟩ := List.getElem_of_mem hu
    rcases hset j _ (List.getElem?_eq_getElem hj) with ⟨_, e⟩ | ⟨_, e⟩
    · rw [e, hG]; intro e2; injection e2 with e2; omega
    · exact h.nb _ (List.mem_of_getElem? e)
  · intro m hm
    obtain ⟨j, hj, rfl⟩ := List.getElem_of_mem hm
    rcases hsetb j _ (List.getElem?_eq_getElem hj) with ⟨_, e⟩ | ⟨_, e⟩
    · rw [e]; exact hf
    · exact h.fit _ (List.mem_of_getElem? e)
/-- at the end a head stands before them -/
theorem Ro.sc {N R : Nat} {w : World} {vs : List Value} {bs : List (List Nat)} (h : Ro N w R vs bs) (hN : N ≤ w.heap.size) (hd : 1 ≤ bs.length ∧ bs.length ≤ 6) :
    Sc N (w.alloc (.cells #[.slice (some ⟨R, 0, none⟩) bs.length bs.length] 71)) w.heap.size R vs bs := by
  have hRl : R < w.heap.size := (Array.getElem?_eq_some_iff.1 h.row).1
  refine ⟨heap_alloc_new _ _, ((below_alloc w _).block _ hRl).trans h.row, h.len, fun i v l hv hl => row_keep (h.own i v l hv hl) (fun g hg => (below_alloc w _).block g (h.lt v (List.mem_of_getElem? hv) g hg)), h.apart, fun v hv => ⟨fun e => ?_, h.nb v hv⟩, ⟨hN, h.lo, by omega⟩, h.fit, hd⟩
  have := h.lt v hv _ e; omega
theorem ro_new (n : Nat) (w : World) : Ro w.heap.size (w.alloc (.cells (List.replicate n (Value.slice none 0 0)).toArray 31)) w.heap.size (List.replicate n (.slice none 0 0)) (List.replicate n []) := by
  refine ⟨heap_alloc_new _ _, by simp, fun i v l hv hl => ?_, fun i j v u k hv hu hk _ => ?_, fun v hv => ?_, Nat.le_refl _, fun l hl => ?_⟩
  · obtain rfl : v = .slice none 0 0 := (List.mem_replicate.1 (List.mem_of_getElem? hv)).2
    obtain rfl : l = [] := (List.mem_replicate.1 (List.mem_of_getElem? hl)).2
    exact World.ownsRow_nil _ _ _ _
  · obtain rfl : v = .slice none 0 0 := (List.mem_replicate.1 (List.mem_of_getElem? hv)).2
    cases hk
  · obtain rfl : v = .slice none 0 0 := (List.mem_replicate.1 hv).2
    simp [Value.ownBlock]
  · obtain rfl : l = [] := (List.mem_replicate.1 hl).2
    simp
/-- a copy into a row that is as long -/
theorem run_copy_any (w : World) (ty : TypeId) (G m c : Nat) (p : Option Addr) (l : List Nat) (hp : ReadAt w p (Bk.kl l)) (hm : l.length = m) (cur : Array Value) (hg : w.heap[G]? = some (.cells cur 30 (0, 0))) (hc : cur.size = m) :
    ∃ w3, (Builtin.copy_ #[31, 31] ty #[.slice (some ⟨G, 0, none⟩) m m, .slice p m c]).run Try.prog w = .ok (goInt m) w3 ∧ w3.heap[G]? = some (.cells (Bk.kl l).toArray 30 (0, 0)) ∧ (∀ k, k ≠ G → w3.heap[k]? = w.heap[k]?) ∧ w3.os = w.os ∧ w3.tape = w.tape ∧ w3.output = w.output ∧ w3.heap.size = w.heap.size := by
  cases p with
  | none =>
    have h0 : m = 0 := by
      rcases Nat.eq_zero_or_pos m with h | h
      · exact h
      · obtain ⟨b, off, e, _⟩ := hp.some_at (by rw [Bk.kl_length]; omega)
        cases e
    subst h0
    have hl : l = [] := List.eq_nil_of_length_eq_zero hm
    subst hl
    have hcur : cur = #[] := Array.eq_empty_of_size_eq_zero hc
    subst hcur
    refine ⟨w, ?_, hg, fun _ _ => rfl, rfl, rfl, rfl, rfl⟩
    cases hq : Try.prog.info? 30 with
    | none => have := rsize; rw [hq] at this; cases this
    | some i =>
      simp [Builtin.copy_, run_underlying Try.underlying31, Builtin.lenOf, Builtin.firstCells, sizeOf, typeInfo, hq, storeCells]
  | some a =>
    have hcs : ∀ j v, (Bk.kl l)[j]? = some v → w.cell? (a.add j) = some v := fun j v hj => by
      obtain ⟨b, off, e, _, hc2⟩ := hp j v hj
      injection e with e
      subst e
      rw [Bk.addr_add]; exact hc2
    have hr := run_copy_rec w ty G 0 m m a m c cur 30 m (Bk.kl l) (by simp) (by rw [Bk.kl_length]; exact hm) hg hcs (by rw [Bk.kl_length]; omega) (Bk.kl_one l)
    have e : (cur.toList.take 0 ++ Bk.kl l ++ cur.toList.drop (0 + (Bk.kl l).length)) = Bk.kl l := by
      rw [List.drop_eq_nil_of_le (by rw [Bk.kl_length]; simp; omega)]; simp
    rw [e] at hr
    exact ⟨_, hr, setRow_heap w G _ _ _ _ hg, fun k hk => setRow_other w G k _ (fun e => hk e), rfl, rfl, rfl, by simp⟩
theorem umake64 (n : Nat) (h : n ≤ 255) (w : World) :
    (Instr.makeSlice 31 (.int .i64 (n : Int)) (.int .i64 (n : Int))).run Try.prog w = .ok (.slice (some ⟨w.heap.size, 0, none⟩) n n) (w.alloc (.cells (Bk.kl (List.replicate n 0)).toArray 30)) := by
  obtain ⟨i, hi, hz, hs, hb⟩ := info_parts info_u32
  have := run_makeSlice (P := Try.prog) (w := w) 31 30 i (.int .u32 0) Try.underlying31 hi hz .i64 .i64 n n (by omega) (by omega) (by rw [hs]; omega) (by rw [hb]; omega) (by omega)
  rw [this]
  have e : madeCells (Value.int .u32 0).cells (n * 1) = (Bk.kl (List.replicate n 0)).toArray := by
    apply Array.ext
    · simp [madeCells, Bk.kl]
    · intro i h1 h2
      simp [madeCells, Value.cells, Nat.mod_one, Bk.kl]
  simp only [Int.toNat_natCast, hs, e]
/-- the rows that are copied so far -/
def cpB (bs : List (List Nat)) (i : Nat) : List (List Nat) := bs.take i ++ List.replicate (bs.length - i) []
theorem cpB_len (bs : List (List Nat)) (i : Nat) (h : i ≤ bs.length) : (cpB bs i).length = bs.length := by simp [cpB]; omega
theorem cpB_zero (bs : List (List Nat)) : cpB bs 0 = List.replicate bs.length [] := by simp [cpB]
theorem cpB_all (bs : List (List Nat)) : cpB bs bs.length = bs := by simp [cpB]
theorem cpB_next (bs : List (List Nat)) (i : Nat) (l : List Nat) (h : bs[i]? = some l) : (cpB bs i).set i l = cpB bs (i + 1) := by
  obtain ⟨hi, he⟩ := List.getElem?_eq_some_iff.1 h
  unfold cpB
  rw [List.take_succ_eq_append_getElem hi, he]
  have e1 : (bs.take i).length = i := by rw [List.length_take]; omega
  rw [List.set_append_right _ _ (by omega), e1, Nat.sub_self]
  have e2 : bs.length - i = (bs.length - (i + 1)) + 1 := by omega
  rw [e2, List.replicate_succ, List.set_cons_zero, List.append_assoc]; rfl
set_option maxRecDepth 100000 in
set_option maxHeartbeats 8000000 in
theorem copyS_ok (N b R : Nat) (vs : List Value) (bs : List (List Nat)) (w : World) (h : Sc N w b R vs bs) :
    Calls Try.prog 14 #[.pointer (some ⟨b, 0, none⟩)] w fun e w' => (∃ b' R' vs', e = .returned (.pointer (some ⟨b', 0, none⟩)) ∧ Sc w.heap.size w' b' R' vs' bs) ∧ Below w.heap.size w w' := by
  have H := hid h
  have HD := hid h.dim
  have hc0 := h.cell.1
  have hm := cmake bs.length h.dim.2 w
  have HR0 := hid (ro_new bs.length w)
  have HB0 := hid (below_alloc w (.cells (List.replicate bs.length (Value.slice none 0 0)).toArray 31))
  obtain ⟨W, hW⟩ : ∃ W, w.alloc (.cells (List.replicate bs.length (Value.slice none 0 0)).toArray 31) = W := ⟨_, rfl⟩
  rw [hW] at HR0 HB0 hm
  have hc1 := (h.next HB0.out).cell.1
  clear h
  go_enter Try.func14, Try.ntmps14
  go_wp2_with fail
  clear hc0 hc1 hW hm
  go_loopw [19] (fun s wr => ∃ i : Nat, s = .int .i64 i ∧ i ≤ bs.length ∧ (∃ us, Ro w.heap.size wr w.heap.size us (cpB bs i)) ∧ Below w.heap.size w wr) (fun s _ => bs.length - (RowKit.intOf s).toNat)
  case atStart => exact ⟨0, rfl, by omega, ⟨_, by rw [cpB_zero]; exact HR0.out⟩, HB0.out⟩
  case round =>
    obtain ⟨i, rfl, hi, ⟨us, hro⟩, hb⟩ := hrel
    have HRO := hid hro
    have HB := hid hb
    by_cases hlt : i < bs.length
    · have e1 : decide ((i : Int) < (bs.length : Int)) = true := by simpa using hlt
      have e1' : decide (i < bs.length) = true := by simpa using hlt
      obtain ⟨l, hl⟩ : ∃ l, bs[i]? = some l := ⟨_, List.getElem?_eq_getElem hlt⟩
      obtain ⟨v, p, c, hv, hvp, hcl, hfr, hpt, hown, hlc⟩ := (H.out.next hb).at hl
      have hf := H.out.fit l (List.mem_of_getElem? hl)
      have hm := fun W' => umake64 l.length hf.2 W'
      have z0 : (0 : Int) ≤ (i : Int) := by omega
      have z1 : (i : Int) < (bs.length : Int) := by omega
      have hul : i < us.length := by rw [hro.len, cpB_len _ _ hi]; exact hlt
      have hRl : w.heap.size < wr.heap.size := (Array.getElem?_eq_some_iff.1 hro.row).1
      obtain ⟨W1, hW1⟩ : ∃ W1, wr.alloc (.cells (Bk.kl (List.replicate l.length 0)).toArray 30) = W1 := ⟨_, rfl⟩
      have hb1 : Below wr.heap.size wr W1 := by rw [← hW1]; exact below_alloc _ _
      have hs1 : W1.heap.size = wr.heap.size + 1 := by rw [← hW1]; simp
      have hrow1 := (hb1.block _ hRl).trans hro.row
      have q1 : W1.cell? ⟨w.heap.size, i, none⟩ = some us[i] := by rw [cell_of_row _ _ _ _ _ _ hrow1]; simp [hul]
      have q2 : W1.frozen? ⟨w.heap.size, i, none⟩ = false := frozen_of_row _ _ _ _ _ hrow1
      obtain ⟨W2, hW2⟩ : ∃ W2, W1.setCell ⟨w.heap.size, i, none⟩ (.slice (some ⟨wr.heap.size, 0, none⟩) l.length l.length) = W2 := ⟨_, rfl⟩
      have hrow2 : W2.heap[w.heap.size]? = some (.cells (us.set i (.slice (some ⟨wr.heap.size, 0, none⟩) l.length l.length)).toArray 31 (0, 0)) := by
        have := heap_setCell_same W1 w.heap.size i _ _ (.slice (some ⟨wr.heap.size, 0, none⟩) l.length l.length) hrow1
        rw [← hW2, this]; simp
      have hoth2 : ∀ k, k ≠ w.heap.size → W2.heap[k]? = W1.heap[k]? := fun k hk => by rw [← hW2]; exact Below.heap_setCell W1 ⟨w.heap.size, i, none⟩ _ k hk
      have hs2 : W2.heap.size = W1.heap.size := by rw [← hW2]; simp [World.setCell]
      have hg2 : W2.heap[wr.heap.size]? = some (.cells (Bk.kl (List.replicate l.length 0)).toArray 30 (0, 0)) := by
        rw [hoth2 _ (by omega), ← hW1]; exact heap_alloc_new _ _
      have q3 : W2.cell? ⟨w.heap.size, i, none⟩ = some (.slice (some ⟨wr.heap.size, 0, none⟩) l.length l.length) := by rw [cell_of_row _ _ _ _ _ _ hrow2]; simp [hul]
      have hB2 : Below w.heap.size w W2 := by
        have h1 : Below w.heap.size w W1 := hb.trans (hb1.mono hb.size)
        rw [← hW2]; exact h1.setCell (p := ⟨w.heap.size, i, none⟩) (Nat.le_refl _) _
      have hpt0 : Pt W2 p l := by
        obtain ⟨v0, p0, c0, hv0, hvp0, hcl0, _, hpt0, _, _⟩ := H.out.at hl
        have e : some v0 = some v := by rw [← hv0, hv]
        injection e with e
        rw [e, hvp] at hvp0
        injection hvp0 with e1 e2 e3
        rw [e1]; exact hpt0.below hB2
      obtain ⟨w3, hr3, hG3, ho3, f1, f2, f3, hs3⟩ := run_copy_any W2 3 wr.heap.size l.length c p l (Bk.Pt.read hpt0) rfl _ hg2 (by simp [Bk.kl])
      have HN := hid (show Ro w.heap.size w3 w.heap.size (us.set i (.slice (some ⟨wr.heap.size, 0, none⟩) l.length l.length)) (cpB bs (i + 1)) by
        rw [← cpB_next bs i l hl]
        refine hro.add (G := wr.heap.size) (by rw [cpB_len _ _ hi]; exact hlt) ((ho3 _ (by omega)).trans hrow2) ?_ rfl (Nat.le_refl _) (fun k hk hkR => ?_) hf
        · exact ⟨by rw [Bk.kl_length, Nat.mul_one], .inr ⟨wr.heap.size, l.length, _, rfl, hb.size, hG3, Nat.le_refl _, by have := hf.2; unfold maxLen; omega, by simp [Bk.kl], by rw [List.take_of_length_le (by simp [Bk.kl])]⟩⟩
        · rw [ho3 k (by omega), hoth2 k hkR, hb1.block k hk])
      have HBN := hid (show Below w.heap.size w w3 from ⟨f1.trans hB2.os, f2.trans hB2.tape, f3.trans hB2.output, by rw [hs3]; exact hB2.size, fun k hk => by rw [ho3 k (by have := hb.size; omega)]; exact hB2.block k hk⟩)
      have HLT := hid hlt
      have z2 : (l.length : Int) ≤ 255 := by omega
      clear hpt0 hG3 ho3 f1 f2 f3 hs3 hB2 hg2 hs2 hoth2 hrow2 hrow1 hs1 hb1 hf hlc hown hpt hfr hvp hv hl hlt hro hb hi HRO HB hRl
      generalize us[i] = u0 at q1
      go_wp2_with (at_builtin; refine wpList_copy_runI _ rfl _ _ 31 31 rfl _ _ rfl rfl hr3 ?_)
      clear q1 q2 q3 hW1 hW2 hr3 hm hcl
      go_wp2_with fail
      go_roundw
      case rel => exact ⟨i + 1, by rw [show wrap64 ((i : Int) + 1) = ((i + 1 : Nat) : Int) by unfold wrap64; have := HLT.out; have := HD.out; omega], HLT.out, ⟨_, HN.out⟩, HBN.out⟩
      case measure =>
        have := HLT.out; have := HD.out
        rw [show wrap64 ((i : Int) + 1) = ((i + 1 : Nat) : Int) by unfold wrap64; omega]
        simp [RowKit.intOf]; omega
    · have e1 : decide ((i : Int) < (bs.length : Int)) = false := by simp; omega
      have e1' : decide (i < bs.length) = false := by simpa using hlt
      obtain rfl : i = bs.length := by omega
      rw [cpB_all] at hro
      have HS := hid (hro.sc hb.size HD.out)
      have HBF := hid (hb.trans ((below_alloc wr (.cells #[.slice (some ⟨w.heap.size, 0, none⟩) bs.length bs.length] 71)).mono hb.size))
      clear hro hb hlt hi HRO
      go_wp2_with fail
      go_ret
      exact ⟨⟨_, _, _, rfl, HS.out⟩, HBF.out⟩
end Go.Proofs.Ytmhjoeegghnlhaa.Sc

/- Both scales beside one another, through a round of a script. -/
namespace Go.Proofs.Ytmhjoeegghnlhaa.Sc
open Go.RowKit
open Go.Lib (hid)
open Go.Proofs.Ytmhjoeegghnlhaa.Ky Go.Proofs.Ytmhjoeegghnlhaa.Bk
open Go.Proofs.Ytmhjoeegghnlhaa

/-- both scales, apart; blocks from T on below Z are of neither, and read as in Y -/
structure Rnd (w0 : World) (b R b' R' T Z : Nat) (Y X : World) (bs cs : List (List Nat)) : Prop where
  pair : ∃ vs us, Sc w0.heap.size X b R vs bs ∧ Rk w0.heap.size X b' R' us cs ∧ (∀ k, FS b R vs k → ¬ FS b' R' us k) ∧ (∀ k, FS b R vs k → k < T ∨ Z ≤ k) ∧ (∀ k, FS b' R' us k → k < T ∨ Z ≤ k)
  keep : ∀ k, T ≤ k → k < Z → X.heap[k]? = Y.heap[k]?
  bel : Below w0.heap.size w0 X
  size : Z ≤ X.heap.size
  us : upS bs
  uk : upS cs
section
variable {w0 Y X X' : World} {b R b' R' T Z : Nat} {bs cs : List (List Nat)}
theorem Rnd.next (h : Rnd w0 b R b' R' T Z Y X bs cs) (hb : Below X.heap.size X X') : Rnd w0 b R b' R' T Z Y X' bs cs := by
  obtain ⟨⟨vs, us, h1, h2, h3, h4, h5⟩, hk, hbl, hs, hu, hv⟩ := h
  exact ⟨⟨vs, us, h1.next hb, h2.next hb, h3, h4, h5⟩, fun k h6 h7 => (hb.block k (Nat.lt_of_lt_of_le h7 hs)).trans (hk k h6 h7), hbl.trans (hb.mono hbl.size), Nat.le_trans hs hb.size, hu, hv⟩
/-- the code's own scale is turned -/
theorem Rnd.turnS {bs' : List (List Nat)} {vs us : List Value} (h1 : Sc w0.heap.size X b R vs bs) (h2 : Rk w0.heap.size X b' R' us cs) (h3 : ∀ k, FS b R vs k → ¬ FS b' R' us k) (h4 : ∀ k, FS b R vs k → k < T ∨ Z ≤ k) (h5 : ∀ k, FS b' R' us k → k < T ∨ Z ≤ k)
    (h : Rnd w0 b R b' R' T Z Y X bs cs) (hu' : upS bs') (vs' : List Value) (hS : Sc w0.heap.size X' b R vs' bs') (ho : Onl (FS b R vs) X X') (hf : ∀ j, j < X.heap.size → FS b R vs' j → FS b R vs j) : Rnd w0 b R b' R' T Z Y X' bs' cs := by
  refine ⟨⟨vs', us, hS, h2.keep (fun k hk => ho.block k (h2.lt k hk) (fun hx => h3 k hx hk)), fun k hk hk2 => ?_, fun k hk => ?_, h5⟩, fun k h6 h7 => ?_, h.bel.trans (ho.below h.bel.size h1.ge), Nat.le_trans h.size ho.size, hu', h.uk⟩
  · exact h3 k (hf k (h2.lt k hk2) hk) hk2
  · rcases Nat.lt_or_ge k X.heap.size with h8 | h8
    · exact h4 k (hf k h8 hk)
    · right; have := h.size; omega
  · rw [ho.block k (Nat.lt_of_lt_of_le h7 h.size) (fun hx => by have := h4 k hx; omega)]; exact h.keep k h6 h7
theorem Rnd.turnR {cs' : List (List Nat)} {vs us : List Value} (h1 : Sc w0.heap.size X b R vs bs) (h2 : Rk w0.heap.size X b' R' us cs) (h3 : ∀ k, FS b R vs k → ¬ FS b' R' us k) (h4 : ∀ k, FS b R vs k → k < T ∨ Z ≤ k) (h5 : ∀ k, FS b' R' us k → k < T ∨ Z ≤ k)
    (h : Rnd w0 b R b' R' T Z Y X bs cs) (hu' : upS cs') (us' : List Value) (hS : Rk w0.heap.size X' b' R' us' cs') (ho : Onl (FS b' R' us) X X') (hf : ∀ j, j < X.heap.size → FS b' R' us' j → FS b' R' us j) : Rnd w0 b R b' R' T Z Y X' bs cs' := by
  refine ⟨⟨vs, us', h1.keep (fun k hk => ho.block k (h1.lt k hk) (fun hx => h3 k hk hx)), hS, fun k hk hk2 => ?_, h4, fun k hk => ?_⟩, fun k h6 h7 => ?_, h.bel.trans (ho.below h.bel.size h2.ge), Nat.le_trans h.size ho.size, h.us, hu'⟩
  · exact h3 k hk (hf k (h1.lt k hk) hk2)
  · rcases Nat.lt_or_ge k X.heap.size with h8 | h8
    · exact h5 k (hf k h8 hk)
    · right; have := h.size; omega
  · rw [ho.block k (Nat.lt_of_lt_of_le h7 h.size) (fun hx => by have := h5 k hx; omega)]; exact h.keep k h6 h7
theorem upS_rem {bs : List (List Nat)} {a i : Int} (h : upS bs) : upS (remS bs a i) := by
  unfold remS
  split
  · rename_i hr
    unfold remB at hr
    simp only [Bool.and_eq_true] at hr
    obtain ⟨A, rfl, hA⟩ := hasC_iff.1 hr.1
    rw [Int.toNat_natCast]
    intro m hm
    rcases List.mem_or_eq_of_mem_set hm with hm | rfl
    · exact h m hm
    · obtain ⟨u1, u2, u3⟩ := h _ (getD_mem hA)
      refine ⟨List.Pairwise.sublist (List.eraseIdx_sublist _ _) u1, fun x hx => u2 x (List.mem_of_mem_eraseIdx hx), Nat.le_trans ?_ u3⟩
      exact (List.eraseIdx_sublist _ _).length_le
  · exact h
/-- each call, whatever is asked -/
theorem Rnd.ins (h : Rnd w0 b R b' R' T Z Y X bs cs) (a : Int) (t : Nat) (ht : t < 4294967296) :
    Calls Try.prog 15 #[.pointer (some ⟨b, 0, none⟩), .int .i64 a, .int .u32 (t : Int)] X fun e w' => e = .returned (.tuple #[.int .i64 (insV bs a t), .int .i64 (insE bs a t)]) ∧ Rnd w0 b R b' R' T Z Y w' (insB bs a t) cs := by
  obtain ⟨vs, us, h1, h2, h3, h4, h5⟩ := h.pair
  refine (insert_ok _ b R vs bs a t X h1 h.bel.size h.us ht).mono fun e w' hh => ?_
  obtain ⟨he, vs', hS, ho, hf⟩ := hh
  exact ⟨he, Rnd.turnS h1 h2 h3 h4 h5 h (upS_ins h.us) vs' hS ho hf⟩
theorem Rnd.rins (h : Rnd w0 b R b' R' T Z Y X bs cs) (a : Int) (t : Nat) (ht : t < 4294967296) :
    Calls Try.prog 16 #[.pointer (some ⟨b', 0, none⟩), .int .i64 a, .int .u32 (t : Int)] X fun e w' => e = .returned (.tuple #[.int .i64 (insV cs a t), .int .i64 (insE cs a t)]) ∧ Rnd w0 b R b' R' T Z Y w' bs (insB cs a t) := by
  obtain ⟨vs, us, h1, h2, h3, h4, h5⟩ := h.pair
  refine (rinsert_ok _ b' R' us cs a t X h2 h.bel.size h.uk ht).mono fun e w' hh => ?_
  obtain ⟨he, us', hS, ho, hf⟩ := hh
  exact ⟨he, Rnd.turnR h1 h2 h3 h4 h5 h (upS_ins h.uk) us' hS ho hf⟩
theorem Rnd.rem (h : Rnd w0 b R b' R' T Z Y X bs cs) (a i : Int) :
    Calls Try.prog 17 #[.pointer (some ⟨b, 0, none⟩), .int .i64 a, .int .i64 i] X fun e w' => e = .returned (.int .i64 (err (remB bs a i))) ∧ Rnd w0 b R b' R' T Z Y w' (remS bs a i) cs := by
  obtain ⟨vs, us, h1, h2, h3, h4, h5⟩ := h.pair
  refine (remove_ok _ b R vs bs a i X h1).mono fun e w' hh => ?_
  obtain ⟨he, vs', hS, ho, hf⟩ := hh
  exact ⟨he, Rnd.turnS h1 h2 h3 h4 h5 h (upS_rem h.us) vs' hS ho hf⟩
theorem Rnd.rrem (h : Rnd w0 b R b' R' T Z Y X bs cs) (a i : Int) :
    Calls Try.prog 18 #[.pointer (some ⟨b', 0, none⟩), .int .i64 a, .int .i64 i] X fun e w' => e = .returned (.int .i64 (err (remB cs a i))) ∧ Rnd w0 b R b' R' T Z Y w' bs (remS cs a i) := by
  obtain ⟨vs, us, h1, h2, h3, h4, h5⟩ := h.pair
  refine (rremove_ok _ b' R' us cs a i X h2 h.bel.size).mono fun e w' hh => ?_
  obtain ⟨he, us', hS, ho, hf⟩ := hh
  exact ⟨he, Rnd.turnR h1 h2 h3 h4 h5 h (upS_rem h.uk) us' hS ho hf⟩
theorem Rnd.enc (h : Rnd w0 b R b' R' T Z Y X bs cs) : Calls Try.prog 27 #[.pointer (some ⟨b, 0, none⟩)] X fun e w' => e = .returned (.string ⟨(encS bs).toArray⟩) ∧ Below X.heap.size X w' := by
  obtain ⟨vs, us, h1, _⟩ := h.pair
  exact encode_ok _ b R vs bs X h1
theorem Rnd.renc (h : Rnd w0 b R b' R' T Z Y X bs cs) : Calls Try.prog 13 #[.pointer (some ⟨b', 0, none⟩)] X fun e w' => e = .returned (.string ⟨(encS cs).toArray⟩) ∧ Below X.heap.size X w' := by
  obtain ⟨vs, us, _, h2, _⟩ := h.pair
  exact rencode_ok _ b' R' us cs X h2
theorem row_rd {V : World} {g : Nat} {C : List Nat} (h : V.heap[g]? = some (.cells (ci C).toArray 3 (0, 0))) : ReadAt V (some ⟨g, 0, none⟩) (ci C) := fun j u hj => by
  refine ⟨g, 0, rfl, lt_of h, ?_⟩
  rw [cell_of_row _ _ _ _ _ _ h, Nat.zero_add]
  simpa using hj
theorem Rnd.siz (h : Rnd w0 b R b' R' T Z Y X bs cs) : Calls Try.prog 28 #[.pointer (some ⟨b, 0, none⟩)] X fun e w' => ∃ p c, e = .returned (.slice p (sizeL bs).length c) ∧ ReadAt w' p (ci (sizeL bs)) ∧ Below X.heap.size X w' := by
  obtain ⟨vs, us, h1, _⟩ := h.pair
  refine (sizes_ok _ b R vs bs X h1).mono fun e w' hh => ?_
  obtain ⟨g, he, hg, _, hb⟩ := hh
  exact ⟨some ⟨g, 0, none⟩, bs.length, by rw [he]; simp [sizeL], row_rd hg, hb⟩
theorem Rnd.rsiz (h : Rnd w0 b R b' R' T Z Y X bs cs) : Calls Try.prog 29 #[.pointer (some ⟨b', 0, none⟩)] X fun e w' => ∃ p c, e = .returned (.slice p (sizeL cs).length c) ∧ ReadAt w' p (ci (sizeL cs)) ∧ Below X.heap.size X w' := by
  obtain ⟨vs, us, _, h2, _⟩ := h.pair
  refine (rsizes_ok _ b' R' us cs X h2).mono fun e w' hh => ?_
  obtain ⟨p, c, he, hg, hb⟩ := hh
  exact ⟨p, c, by rw [he]; simp [sizeL], hg, hb⟩
/-- what Find answers -/
def finL (bs : List (List Nat)) (k : List Nat) : List Nat := if checkB k.length (bs.length : Int) = true then cellL bs k else []
theorem Rnd.fin (h : Rnd w0 b R b' R' T Z Y X bs cs) (k : List Nat) (q : Option Addr) (c : Nat) (hq : Pt X q k) : Calls Try.prog 19 #[.pointer (some ⟨b, 0, none⟩), .slice q k.length c] X fun e w' => ∃ p c', e = .returned (.tuple #[.slice p (finL bs k).length c', .int .i64 (err (checkB k.length (bs.length : Int)))]) ∧ ReadAt w' p (ci (finL bs k)) ∧ Below X.heap.size X w' := by
  obtain ⟨vs, us, h1, _⟩ := h.pair
  refine (find_any _ b R vs bs k q c X h1 h.us hq).mono fun e w' hh => ?_
  obtain ⟨p, m, he, hm, hb⟩ := hh
  unfold finL
  cases hc : checkB k.length (bs.length : Int) with
  | true =>
    rw [hc] at hm he
    simp only [if_true] at hm ⊢
    obtain ⟨rfl, g, rfl, hg, _⟩ := hm
    have hk : k.length = bs.length := by unfold checkB at hc; rw [Bool.and_eq_true, decide_eq_true_eq] at hc; omega
    exact ⟨_, _, by rw [he, cellL_len hk], row_rd hg, hb⟩
  | false =>
    rw [hc] at hm he
    simp only [Bool.false_eq_true, if_false] at hm ⊢
    obtain ⟨rfl, rfl⟩ := hm
    exact ⟨_, _, he, ReadAt.nil _ _, hb⟩
theorem Rnd.rfin (h : Rnd w0 b R b' R' T Z Y X bs cs) (k : List Nat) (q : Option Addr) (c : Nat) (hq : Pt X q k) : Calls Try.prog 20 #[.pointer (some ⟨b', 0, none⟩), .slice q k.length c] X fun e w' => ∃ p c', e = .returned (.tuple #[.slice p (finL cs k).length c', .int .i64 (err (checkB k.length (cs.length : Int)))]) ∧ ReadAt w' p (ci (finL cs k)) ∧ Below X.heap.size X w' := by
  obtain ⟨vs, us, _, h2, _⟩ := h.pair
  refine (rfind_any _ b' R' us cs k q c X h2 h.uk hq).mono fun e w' hh => ?_
  obtain ⟨p, m, c', he, hm, hb⟩ := hh
  unfold finL
  cases hc : checkB k.length (cs.length : Int) with
  | true =>
    rw [hc] at hm he
    simp only [if_true] at hm ⊢
    obtain ⟨rfl, hg⟩ := hm
    have hk : k.length = cs.length := by unfold checkB at hc; rw [Bool.and_eq_true, decide_eq_true_eq] at hc; omega
    exact ⟨_, _, by rw [he, cellL_len hk], hg, hb⟩
  | false =>
    rw [hc] at hm he
    simp only [Bool.false_eq_true, if_false] at hm ⊢
    subst hm
    exact ⟨_, _, he, ReadAt.nil _ _, hb⟩
/-- what Box answers -/
def ubB (bs : List (List Nat)) (lo hi : List Int) : Bool := decide (lo.length = bs.length) && (decide (hi.length = bs.length) && bxB bs lo hi)
def ubL (bs : List (List Nat)) (lo hi : List Int) : List Nat := if ubB bs lo hi = true then lowL bs lo else []
def ubH (bs : List (List Nat)) (lo hi : List Int) : List Nat := if ubB bs lo hi = true then highL bs hi else []
theorem ub_no {bs : List (List Nat)} {lo hi : List Int} (h : ubB bs lo hi = false) : ubL bs lo hi = [] ∧ ubH bs lo hi = [] := by unfold ubL ubH; rw [h]; exact ⟨rfl, rfl⟩
theorem ub_yes {bs : List (List Nat)} {lo hi : List Int} (h : ubB bs lo hi = true) : ubL bs lo hi = lowL bs lo ∧ ubH bs lo hi = highL bs hi := by unfold ubL ubH; rw [h]; exact ⟨rfl, rfl⟩
theorem Rnd.box (h : Rnd w0 b R b' R' T Z Y X bs cs) (lo hi : List Int) (p q : Option Addr) (c c' : Nat) (hlo : Is X p lo) (hhi : Is X q hi) :
    Calls Try.prog 22 #[.pointer (some ⟨b, 0, none⟩), .slice p lo.length c, .slice q hi.length c'] X (NewBox X (ubL bs lo hi) (ubH bs lo hi) (.int .i64 (err (ubB bs lo hi)))) := by
  obtain ⟨vs, us, h1, _⟩ := h.pair
  by_cases hl : lo.length = bs.length
  · by_cases hh : hi.length = bs.length
    · cases hr : bxB bs lo hi with
      | true =>
        have hu : ubB bs lo hi = true := by unfold ubB; rw [hr]; simp [hl, hh]
        rw [hu, (ub_yes hu).1, (ub_yes hu).2, err_true true rfl, hl, hh]
        exact (box_yes _ b R vs bs lo hi p q c c' bs.length X h1 h.us hlo hhi hl hh rfl hr).mono fun e w' hh => hh.box
      | false =>
        have hu : ubB bs lo hi = false := by unfold ubB; rw [hr]; simp
        rw [hu, (ub_no hu).1, (ub_no hu).2, err_false false rfl, hl, hh]
        exact box_fall _ b R vs bs lo hi p q c c' bs.length X h1 hlo hhi hl hh rfl hr
    · have hu : ubB bs lo hi = false := by unfold ubB; simp [hh]
      rw [hu, (ub_no hu).1, (ub_no hu).2, err_false false rfl]
      exact box_few _ bs.length lo.length hi.length p q c c' X (fun V hV => coords_ok V (h1.next hV).cell.1) (by omega)
  · have hu : ubB bs lo hi = false := by unfold ubB; simp [hl]
    rw [hu, (ub_no hu).1, (ub_no hu).2, err_false false rfl]
    exact box_few _ bs.length lo.length hi.length p q c c' X (fun V hV => coords_ok V (h1.next hV).cell.1) (by omega)
theorem Rnd.rbox (h : Rnd w0 b R b' R' T Z Y X bs cs) (lo hi : List Int) (p q : Option Addr) (c c' : Nat) (hlo : Is X p lo) (hhi : Is X q hi) :
    Calls Try.prog 23 #[.pointer (some ⟨b', 0, none⟩), .slice p lo.length c, .slice q hi.length c'] X (NewBox X (ubL cs lo hi) (ubH cs lo hi) (.int .i64 (err (ubB cs lo hi)))) := by
  obtain ⟨vs, us, _, h2, _⟩ := h.pair
  by_cases hl : lo.length = cs.length
  · by_cases hh : hi.length = cs.length
    · have hr := rbox_any _ b' R' us cs lo hi p q c c' X h2 h.uk hlo hhi hl hh
      rw [hl, hh]
      cases hb : bxB cs lo hi with
      | true =>
        have hu : ubB cs lo hi = true := by unfold ubB; rw [hb]; simp [hl, hh]
        rw [hb, show bxL cs lo hi = lowL cs lo by unfold bxL; rw [if_pos (show (List.range cs.length).all (riseS cs lo hi) = true from hb)], show bxH cs lo hi = highL cs hi by unfold bxH; rw [if_pos (show (List.range cs.length).all (riseS cs lo hi) = true from hb)]] at hr
        rw [hu, (ub_yes hu).1, (ub_yes hu).2]
        exact hr
      | false =>
        have hu : ubB cs lo hi = false := by unfold ubB; rw [hb]; simp
        rw [hb, show bxL cs lo hi = [] by unfold bxL; rw [show (List.range cs.length).all (riseS cs lo hi) = false from hb]; rfl, show bxH cs lo hi = [] by unfold bxH; rw [show (List.range cs.length).all (riseS cs lo hi) = false from hb]; rfl] at hr
        rw [hu, (ub_no hu).1, (ub_no hu).2]
        exact hr
    · have hu : ubB cs lo hi = false := by unfold ubB; simp [hh]
      rw [hu, (ub_no hu).1, (ub_no hu).2, err_false false rfl]
      exact rbox_few _ b' R' lo.length hi.length us cs p q c c' X h2 (.inr hh)
  · have hu : ubB cs lo hi = false := by unfold ubB; simp [hl]
    rw [hu, (ub_no hu).1, (ub_no hu).2, err_false false rfl]
    exact rbox_few _ b' R' lo.length hi.length us cs p q c c' X h2 (.inl hl)
/-- what Meet answers -/
def umL (bs : List (List Nat)) (lo hi k : List Nat) : List Nat := if boxB lo hi (bs.length : Int) = true then cellL bs k else []
def UmR (w : World) (L M : List Nat) (x : Int) (e : Ending) (w' : World) : Prop :=
  ∃ p c p' c2, e = .returned (.tuple #[.slice p L.length c, .slice p' M.length c2, .int .i64 x]) ∧ ReadAt w' p (ci L) ∧ ReadAt w' p' (ci M) ∧ Below w.heap.size w w'
theorem boxB_lens {lo hi : List Nat} {n : Nat} (h : boxB lo hi (n : Int) = true) : lo.length = n ∧ hi.length = n := by
  unfold boxB checkB at h
  simp only [Bool.and_eq_true, decide_eq_true_eq] at h
  have := leAll_len h.2
  omega
theorem Rnd.met (h : Rnd w0 b R b' R' T Z Y X bs cs) (lo hi : List Nat) (q r : Option Addr) (c' c'' : Nat) (hlo : Pt X q lo) (hhi : Pt X r hi) (hl : lo.length ≤ 9223372036854775807) :
    Calls Try.prog 25 #[.pointer (some ⟨b, 0, none⟩), .agg #[.slice q lo.length c', .slice r hi.length c'']] X (UmR X (umL bs lo hi lo) (umL bs lo hi hi) (err (boxB lo hi (bs.length : Int)))) := by
  obtain ⟨vs, us, h1, _⟩ := h.pair
  unfold umL
  cases hb : boxB lo hi (bs.length : Int) with
  | true =>
    simp only [if_true, err_true true rfl]
    refine (meet_yes _ b R vs bs lo hi q r c' c'' X h1 h.us hlo hhi hb).mono fun e w' hh => ?_
    obtain ⟨g, g', he, h5, h6, hbl⟩ := hh
    exact ⟨_, _, _, _, he, row_rd h5, row_rd h6, hbl⟩
  | false =>
    simp only [Bool.false_eq_true, if_false, err_false false rfl]
    refine (meet_no _ bs.length lo hi q r c' c'' X (fun V hV => coords_ok V (h1.next hV).cell.1) hlo hhi hl hb).mono fun e w' hh => ?_
    exact ⟨_, _, _, _, hh.1, ReadAt.nil _ _, ReadAt.nil _ _, hh.2⟩
theorem Rnd.rmet (h : Rnd w0 b R b' R' T Z Y X bs cs) (lo hi : List Nat) (q r : Option Addr) (c' c'' : Nat) (hlo : Pt X q lo) (hhi : Pt X r hi) (hl : lo.length ≤ 9223372036854775807) :
    Calls Try.prog 26 #[.pointer (some ⟨b', 0, none⟩), .agg #[.slice q lo.length c', .slice r hi.length c'']] X (UmR X (umL cs lo hi lo) (umL cs lo hi hi) (err (boxB lo hi (cs.length : Int)))) := by
  obtain ⟨vs, us, _, h2, _⟩ := h.pair
  unfold umL
  cases hb : boxB lo hi (cs.length : Int) with
  | true =>
    simp only [if_true, err_true true rfl]
    refine (rmeet_yes _ b' R' us cs lo hi q r c' c'' X h2 h.uk hlo hhi hl hb).mono fun e w' hh => ?_
    obtain ⟨p, c, p', c2, he, h5, h6, hbl⟩ := hh
    have := boxB_lens hb
    exact ⟨p, c, p', c2, by rw [he, cellL_len this.1, cellL_len this.2], h5, h6, hbl⟩
  | false =>
    simp only [Bool.false_eq_true, if_false, err_false false rfl]
    refine (rmeet_no _ b' R' us cs lo hi q r c' c'' X h2 hlo hhi hl hb).mono fun e w' hh => ?_
    exact ⟨_, _, _, _, hh.1, ReadAt.nil _ _, ReadAt.nil _ _, hh.2⟩
theorem rd_cells {w : World} {p : Option Addr} {C : List Nat} (h : ReadAt w p (ci C)) : Ex.CellsAt w p (Ex.iv (zs C)) := fun j hj => by
  have hj' : j < C.length := by rw [Ex.iv_length, zs_len] at hj; exact hj
  obtain ⟨b, off, e, _, hc⟩ := h j (.int .i64 ((C[j] : Nat) : Int)) (by simp [ci, hj'])
  exact ⟨b, off, e, by rw [hc]; simp [Ex.iv, zs]⟩
theorem same_ints (C : List Nat) (p q : Option Addr) (c c' : Nat) (w : World) (hp : ReadAt w p (ci C)) (hq : ReadAt w q (ci C)) (hl : C.length ≤ 1000000) :
    Calls Try.prog 21 #[.slice p C.length c, .slice q C.length c'] w fun e w' => e = .returned (.bool true) ∧ Below w.heap.size w w' := by
  have h := Ex.ints_ok (zs C) (zs C) p q c c' w (rd_cells hp) (rd_cells hq) (by rw [zs_len]; exact hl)
  rw [zs_len] at h
  refine h.mono fun e w' hh => ?_
  obtain ⟨h1, m, rfl⟩ := hh
  exact ⟨by rw [h1]; simp, below_drewN (Below.refl _ _) m⟩
theorem Rnd.start (h : Rnd w0 b R b' R' T Z Y X bs cs) (hb : Below X.heap.size X X') : Rnd w0 b R b' R' X.heap.size X'.heap.size X' X' bs cs := by
  obtain ⟨⟨vs, us, h1, h2, h3, h4, h5⟩, hk, hbl, hs, hu, hv⟩ := h
  exact ⟨⟨vs, us, h1.next hb, h2.next hb, h3, fun k hk => .inl (h1.lt k hk), fun k hk => .inl (h2.lt k hk)⟩, fun _ _ _ => rfl, hbl.trans (hb.mono hbl.size), Nat.le_refl _, hu, hv⟩
theorem Rnd.stop (h : Rnd w0 b R b' R' T Z Y X bs cs) : Rnd w0 b R b' R' 0 0 X X bs cs := by
  obtain ⟨⟨vs, us, h1, h2, h3, h4, h5⟩, hk, hbl, hs, hu, hv⟩ := h
  exact ⟨⟨vs, us, h1, h2, h3, fun k _ => .inr (Nat.zero_le _), fun k _ => .inr (Nat.zero_le _)⟩, fun _ _ _ => rfl, hbl, Nat.zero_le _, hu, hv⟩
theorem Rnd.cop (h : Rnd w0 b R b' R' T Z Y X bs cs) : Calls Try.prog 14 #[.pointer (some ⟨b, 0, none⟩)] X fun e w' => (∃ b2 R2 vs2, e = .returned (.pointer (some ⟨b2, 0, none⟩)) ∧ Sc X.heap.size w' b2 R2 vs2 bs) ∧ Below X.heap.size X w' := by
  obtain ⟨vs, us, h1, _⟩ := h.pair
  exact copyS_ok _ b R vs bs X h1
theorem Rnd.dim (h : Rnd w0 b R b' R' T Z Y X bs cs) : 1 ≤ bs.length ∧ bs.length ≤ 6 := by
  obtain ⟨vs, us, h1, _⟩ := h.pair
  exact h1.dim
end
end Go.Proofs.Ytmhjoeegghnlhaa.Sc

/- Plain: the document's own way to read a scale, by places; Narrow. -/
namespace Go.Proofs.Ytmhjoeegghnlhaa.Sc
open Go.RowKit
open Go.Lib (hid)
open Go.Proofs.Ytmhjoeegghnlhaa.Ky Go.Proofs.Ytmhjoeegghnlhaa.Bk
open Go.Proofs.Ytmhjoeegghnlhaa

theorem ex_list (s : ByteArray) (a b : Nat) : (s.extract a b).data.toList = (s.data.toList.drop a).take (b - a) := by
  rw [ByteArray.data_extract]; simp
theorem size_list (s : ByteArray) : s.data.toList.length = s.size := by rw [Array.length_toList]; rfl
/-- numbers of four bytes each, from a place on -/
def posL (S : List UInt8) (a K : Nat) : List Nat := (List.range K).map fun j => Fd.num ((S.drop (a + 4 * j)).take 4)
theorem posL_len (S : List UInt8) (a K : Nat) : (posL S a K).length = K := by simp [posL]
theorem posL_next (S : List UInt8) (a k : Nat) : posL S a (k + 1) = posL S a k ++ [Fd.num ((S.drop (a + 4 * k)).take 4)] := by simp [posL, List.range_succ]
theorem rdF_at (s : ByteArray) (at_ K j : Nat) (h : at_ + 1 + 4 * K ≤ s.size) (hj : j < K) : rdF (s.extract at_ s.size) (1 + 4 * K) j = Fd.num ((s.data.toList.drop (at_ + 1 + 4 * j)).take 4) := by
  unfold rdF Fd.getAt
  rw [ex_list, ex_list, List.drop_zero, Nat.sub_zero]
  congr 1
  apply List.ext_getElem?
  intro i
  simp only [List.getElem?_take, List.getElem?_drop]
  by_cases hi : i < 4
  · rw [if_pos hi, if_pos hi, if_pos (by omega), if_pos (by omega)]
    congr 1; omega
  · rw [if_neg hi, if_neg hi]
theorem rest_at (s : ByteArray) (a E : Nat) (h : a + E ≤ s.size) : (s.extract a s.size).extract E (s.extract a s.size).size = s.extract (a + E) s.size := by
  apply ByteArray.ext
  apply Array.toList_inj.1
  rw [ex_list, ex_list, ex_list]
  have h1 : (s.extract a s.size).size = s.size - a := by rw [ByteArray.size_extract]; omega
  rw [h1]
  apply List.ext_getElem?
  intro i
  simp only [List.getElem?_take, List.getElem?_drop]
  by_cases hi : i < s.size - (a + E)
  · rw [if_pos (by omega), if_pos (by omega), if_pos (by omega)]
    congr 1; omega
  · rw [if_neg (by omega), if_neg (by omega)]
theorem rdR_none (s : ByteArray) (a : Nat) (h : s.size ≤ a) : rdR (s.extract a s.size) = none := by
  unfold rdR
  rw [dif_neg (by rw [ByteArray.size_extract]; omega)]
theorem at_zero (s : ByteArray) (a : Nat) (h : a < s.size) (h0 : 0 < (s.extract a s.size).size) : (s.extract a s.size)[0] = s[a] := by
  have e1 : (s.extract a s.size).data.toList[0]? = some (s.extract a s.size)[0] := by
    rw [List.getElem?_eq_getElem (by rw [size_list]; exact h0)]; rfl
  rw [ex_list, List.getElem?_take, if_pos (by omega), List.getElem?_drop, Nat.add_zero, List.getElem?_eq_getElem (by rw [size_list]; exact h)] at e1
  injection e1 with e1
  exact e1.symm
theorem rdR_cut (s : ByteArray) (a : Nat) (h : a < s.size) (h2 : s.size < a + 1 + 4 * s[a].toNat) : rdR (s.extract a s.size) = none := by
  have h1 : (s.extract a s.size).size = s.size - a := by rw [ByteArray.size_extract]; omega
  have h0 : 0 < (s.extract a s.size).size := by omega
  unfold rdR
  rw [dif_pos h0, at_zero s a h h0, if_neg (by omega)]
theorem rdR_some (s : ByteArray) (a : Nat) (h : a < s.size) (h2 : a + 1 + 4 * s[a].toNat ≤ s.size) : rdR (s.extract a s.size) = some (posL s.data.toList (a + 1) s[a].toNat, s.extract (a + 1 + 4 * s[a].toNat) s.size) := by
  have h1 : (s.extract a s.size).size = s.size - a := by rw [ByteArray.size_extract]; omega
  have h0 : 0 < (s.extract a s.size).size := by omega
  unfold rdR
  rw [dif_pos h0, at_zero s a h h0, if_pos (by omega), rest_at s a _ (by omega)]
  congr 2
  · unfold posL
    apply List.map_congr_left
    intro j hj
    exact rdF_at s a _ j h2 (List.mem_range.1 hj)
  · rw [Nat.add_assoc a 1]
theorem posL_fit (S : List UInt8) (a K : Nat) : ∀ x ∈ posL S a K, x < 4294967296 := by
  intro x hx
  obtain ⟨j, _, rfl⟩ := List.mem_map.1 hx
  have h1 := Fd.num_lt ((S.drop (a + 4 * j)).take 4)
  have h2 : ((S.drop (a + 4 * j)).take 4).length ≤ 4 := List.length_take_le _ _
  have h3 := Nat.pow_le_pow_right (show 0 < 256 by omega) h2
  omega
theorem take_snocS (s : ByteArray) (k : Nat) (h : k < s.size) : s.data.toList.take (k + 1) = s.data.toList.take k ++ [s[k]] := by
  rw [List.take_succ_eq_append_getElem (by simpa using h)]; rfl
set_option maxHeartbeats 400000 in
theorem narrow_any (s : ByteArray) (w : World) (hs : s.size ≤ 4) :
    Calls Try.prog 58 #[.string s] w fun e w' => e = .returned (.int .i64 (Fd.num s.data.toList : Int)) ∧ w = w' := by
  go_enter Try.func58, Try.ntmps58
  go_wp2_with fail
  go_loop [3, 4] (fun x i => ∃ k m : Nat, k ≤ s.size ∧ m < 4294967296 ∧ m = Fd.num (s.data.toList.take k) ∧ i = .int .i64 k ∧ x = .int .i64 (m : Int)) (fun _ i => s.size - (intOf i).toNat)
  case atStart => exact ⟨0, 0, by omega, by omega, by simp [Fd.num], rfl, rfl⟩
  case round =>
    obtain ⟨k, m, hk, hm, hmv, rfl, rfl⟩ := hrel
    have HM := hid hmv; clear hmv
    by_cases hlt : k < s.size
    · have hb := (s[k]).toNat_lt
      go_wp2_with fail
      go_round
      case rel =>
        have hsn : s.data.toList.take (k + 1) = s.data.toList.take k ++ [s[k]] := take_snocS s k hlt
        have hv : Fd.num (s.data.toList.take (k + 1)) = 256 * m + (s[k]).toNat := by rw [hsn, Fd.num_snoc, HM.out]
        have hl := Fd.num_lt (s.data.toList.take (k + 1))
        have hlen : (s.data.toList.take (k + 1)).length ≤ 4 := by simp; omega
        have h4 : Fd.num (s.data.toList.take (k + 1)) < 4294967296 := Nat.lt_of_lt_of_le hl (Nat.pow_le_pow_right (by decide) hlen)
        exact ⟨k + 1, 256 * m + (s[k]).toNat, by omega, by omega, hv.symm, by go_num, by go_num⟩
      case measure => simp [intOf]; omega
    · obtain rfl : k = s.size := by omega
      have HN := hid (show m = Fd.num s.data.toList by rw [HM.out, List.take_of_length_le (by rw [size_list]; omega)])
      go_wp2_with fail
      go_ret
      exact ⟨by rw [← HN.out]; rfl, rfl⟩
end Go.Proofs.Ytmhjoeegghnlhaa.Sc

/- The document's own scale: Decode. -/
namespace Go.Proofs.Ytmhjoeegghnlhaa.Sc
open Go.RowKit
open Go.Lib (hid)
open Go.Proofs.Ytmhjoeegghnlhaa.Ky Go.Proofs.Ytmhjoeegghnlhaa.Bk
open Go.Proofs.Ytmhjoeegghnlhaa

def RdecPost (n : Nat) (s : ByteArray) (w : World) (e : Ending) (w' : World) : Prop :=
  Below w.heap.size w w' ∧ match decN n s with
  | none => e = .returned (.tuple #[.pointer none, .int .i64 9])
  | some (bs, r) => if r.size = 0 ∧ bs.all mayL = true then ∃ b R us, e = .returned (.tuple #[.pointer (some ⟨b, 0, none⟩), .int .i64 0]) ∧ Rk w.heap.size w' b R us bs else e = .returned (.tuple #[.pointer none, .int .i64 6])
/-- the rows read so far, the one that is read, those that come -/
def rowsD (got : List (List Nat)) (l : List Nat) (n i : Nat) : List (List Nat) := got ++ l :: List.replicate (n - (i + 1)) []
theorem rowsD_nil (got : List (List Nat)) (n i : Nat) (h : i < n) : got ++ List.replicate (n - i) [] = rowsD got [] n i := by
  unfold rowsD
  rw [show n - i = (n - (i + 1)) + 1 by omega, List.replicate_succ]
theorem rowsD_end (got : List (List Nat)) (l : List Nat) (n i : Nat) : rowsD got l n i = (got ++ [l]) ++ List.replicate (n - (i + 1)) [] := by unfold rowsD; simp
theorem rowsD_at (got : List (List Nat)) (l : List Nat) (n i : Nat) (h : got.length = i) : (rowsD got l n i)[i]? = some l := by
  unfold rowsD; subst h; simp
theorem rowsD_set (got : List (List Nat)) (l m : List Nat) (n i : Nat) (h : got.length = i) : (rowsD got l n i).set i m = rowsD got m n i := by
  unfold rowsD; subst h; simp
theorem rowsD_len (got : List (List Nat)) (l : List Nat) (n i : Nat) (h : got.length = i) (hi : i < n) : (rowsD got l n i).length = n := by
  unfold rowsD; simp; omega
theorem kl_snoc (l : List Nat) (x : Nat) : Bk.kl l ++ [.int .u32 (x : Int)] = Bk.kl (l ++ [x]) := by simp [Bk.kl]
set_option maxRecDepth 100000 in
set_option maxHeartbeats 16000000 in
theorem rdecode_ok (n : Nat) (s : ByteArray) (w : World) (hn : 1 ≤ n ∧ n ≤ 6) (hms : s.size ≤ 1000000) :
    Calls Try.prog 31 #[.int .i64 (n : Int), .string s] w (RdecPost n s w) := by
  have HD := hid hn
  have HMS := hid hms
  have HNW := hid (rnew_ok n w hn)
  have HS0 := hid (rk_new n w w.heap.size (Nat.le_refl _) hn)
  have HB0 := hid (show Below w.heap.size w ((w.alloc (.cells (List.replicate n (Value.slice none 0 0)).toArray 31)).alloc (.cells #[.slice (some ⟨w.heap.size, 0, none⟩) n n] 73)) from (below_alloc _ _).alloc (below_alloc _ _).size _)
  clear hn hms
  go_enter Try.func31, Try.ntmps31
  go_wp2_with fail
  refine HNW.out.mono ?_
  rintro e w1 ⟨rfl, hw1⟩
  rw [← hw1] at HS0 HB0
  clear hw1 HNW
  obtain ⟨b, hb⟩ : ∃ b, w.heap.size + 1 = b := ⟨_, rfl⟩
  obtain ⟨R, hR⟩ : ∃ R, w.heap.size = R := ⟨_, rfl⟩
  rw [hb] at HS0 ⊢
  clear hb
  have HRE := hid hR
  go_wp2_with fail
  clear hR
  go_loopw [8, 9] (fun av iv wr => ∃ (i at_ : Nat) (got : List (List Nat)) (us : List Value), av = .int .i64 at_ ∧ iv = .int .i64 i ∧ i ≤ n ∧ got.length = i ∧ at_ ≤ s.size ∧ Rk w.heap.size wr b w.heap.size us (got ++ List.replicate (n - i) []) ∧ Below w.heap.size w wr ∧ decN n s = (decN (n - i) (s.extract at_ s.size)).map fun x => (got ++ x.1, x.2)) (fun _ iv _ => n - (intOf iv).toNat)
  case atStart => exact ⟨0, 0, [], _, rfl, rfl, Nat.zero_le _, rfl, Nat.zero_le _, HS0.out, HB0.out, by simp⟩
  case round =>
    obtain ⟨i, a, got, us, rfl, rfl, hi, hgl, has, hk, hb, hd⟩ := hrel
    have HK := hid hk; have HB := hid hb; have HDD := hid hd; have HGL := hid hgl
    clear hk hb hd hgl
    by_cases hlt : i < n
    · have e1 : decide ((i : Int) < (n : Int)) = true := by simpa using hlt
      have e1' : decide (i < n) = true := by simpa using hlt
      have HI := hid hlt
      by_cases h0 : s.size ≤ a
      · have e2 : decide ((s.size : Int) ≤ (a : Int)) = true := decide_eq_true (by omega)
        have e2' : decide (s.size ≤ a) = true := decide_eq_true h0
        have HN := hid (show decN n s = none by rw [HDD.out, show n - i = (n - (i + 1)) + 1 by omega, decN, rdR_none s a h0]; rfl)
        clear hlt h0 hi has
        go_wp2_with fail
        go_ret2
        unfold RdecPost
        rw [HN.out]
        exact ⟨HB.out, rfl⟩
      · have e2 : decide ((s.size : Int) ≤ (a : Int)) = false := decide_eq_false (by omega)
        have e2' : decide (s.size ≤ a) = false := decide_eq_false h0
        have h0' : a < s.size := by omega
        have hK255 := (s[a]).toNat_lt
        obtain ⟨K, hK⟩ : ∃ K, s[a].toNat = K := ⟨_, rfl⟩
        have HK255 := hid (show K ≤ 255 by omega)
        have HKE := hid hK
        have z0 : (0 : Int) ≤ (a : Int) := by omega
        have z1 : (a : Int) < (s.size : Int) := by omega
        obtain ⟨a1, ha1⟩ : ∃ a1, a + 1 = a1 := ⟨_, rfl⟩
        have hms := HMS.out
        have z2 : IntKind.i64.wrap ((a : Int) + 1) = (a1 : Int) := by rw [IntKind.wrap_i64]; omega
        have z3 : IntKind.i64.wrap (4 * (K : Int)) = ((4 * K : Nat) : Int) := by rw [IntKind.wrap_i64]; omega
        have z4 : IntKind.i64.wrap ((a1 : Int) + ((4 * K : Nat) : Int)) = ((a1 + 4 * K : Nat) : Int) := by rw [IntKind.wrap_i64]; omega
        have HA1 := hid ha1
        have HAS := hid h0'
        by_cases hcut : s.size < a1 + 4 * K
        · have e3 : decide ((s.size : Int) < ((a1 + 4 * K : Nat) : Int)) = true := decide_eq_true (by omega)
          have e3' : decide (s.size < a1 + 4 * K) = true := decide_eq_true hcut
          have HN := hid (show decN n s = none by rw [HDD.out, show n - i = (n - (i + 1)) + 1 by omega, decN, rdR_cut s a h0' (by rw [hK]; omega)]; rfl)
          clear hlt h0 hi has hcut ha1
          generalize a1 + 4 * K = A2 at *
          generalize 4 * K = K4 at *
          go_wp2_with fail
          go_ret2
          unfold RdecPost
          rw [HN.out]
          exact ⟨HB.out, rfl⟩
        · have e3 : decide ((s.size : Int) < ((a1 + 4 * K : Nat) : Int)) = false := decide_eq_false (by omega)
          have e3' : decide (s.size < a1 + 4 * K) = false := decide_eq_false hcut
          have HFIT := hid (show a1 + 4 * K ≤ s.size by omega)
          have HNX := hid (show decN n s = (decN (n - (i + 1)) (s.extract (a1 + 4 * K) s.size)).map fun x => ((got ++ [posL s.data.toList a1 K]) ++ x.1, x.2) by
            rw [HDD.out, show n - i = (n - (i + 1)) + 1 by omega, decN, rdR_some s a h0' (by rw [hK]; omega), hK, ha1]
            simp only [Option.map_map]
            congr 1
            funext x
            simp)
          have HK0 := hid (show Rk w.heap.size wr b w.heap.size us (rowsD got (posL s.data.toList a1 0) n i) by
            have h := HK.out
            rw [rowsD_nil got n i hlt] at h
            exact h)
          clear hlt h0 hi has hcut ha1
          obtain ⟨K4, hK4⟩ : ∃ K4, 4 * K = K4 := ⟨_, rfl⟩
          obtain ⟨A2, hA2⟩ : ∃ A2, a1 + 4 * K = A2 := ⟨_, rfl⟩
          rw [hA2] at e3 e3' z4 HNX HFIT
          rw [hK4] at z3 z4
          have HA2 := hid hA2
          clear hA2 hK4
          go_wp2_with fail
          clear e2 e2' e3 e3' z0 z1 z2 z3 z4
          go_loopw [8, 11] (fun av kv wz => ∃ (k : Nat) (us' : List Value), av = .int .i64 ((a1 + 4 * k : Nat) : Int) ∧ kv = .int .i64 k ∧ k ≤ K ∧ Rk w.heap.size wz b w.heap.size us' (rowsD got (posL s.data.toList a1 k) n i) ∧ Below w.heap.size w wz) (fun _ kv _ => K - (intOf kv).toNat)
          case atStart => exact ⟨0, us, by simp, rfl, by omega, HK0.out, HB.out⟩
          case round =>
            obtain ⟨k, us', rfl, rfl, hkK, hk2, hb2⟩ := hrel
            have HK2 := hid hk2
            have HB2 := hid hb2
            by_cases hlk : k < K
            · have e1 : decide ((k : Int) < (K : Int)) = true := by simpa using hlk
              have e1' : decide (k < K) = true := by simpa using hlk
              obtain ⟨A, hA⟩ : ∃ A, a1 + 4 * k = A := ⟨_, rfl⟩
              have hA4 : A + 4 ≤ s.size := by have := HFIT.out; have := HA2.out; omega
              rw [hA]
              obtain ⟨v, p, c, hv, hvp, hcl, hfr, hpt, hown, hlc⟩ := hk2.at (rowsD_at got _ n i HGL.out)
              have hl := posL_len s.data.toList a1 k
              have HNR := hid fun (V : World) => narrow_any (s.extract A (A + 4)) V (by rw [ByteArray.size_extract]; omega)
              have hnum : Fd.num (s.extract A (A + 4)).data.toList = Fd.num ((s.data.toList.drop (a1 + 4 * k)).take 4) := by rw [ex_list, hA, show A + 4 - A = 4 by omega]
              have hxf : Fd.num ((s.data.toList.drop (a1 + 4 * k)).take 4) < 4294967296 := by
                have := posL_fit s.data.toList a1 (k + 1)
                rw [posL_next] at this
                exact this _ (by simp)
              have hnx := posL_next s.data.toList a1 k
              rw [hnum] at HNR
              generalize Fd.num ((s.data.toList.drop (a1 + 4 * k)).take 4) = x at HNR hxf hnx
              have HNX2 := hid hnx
              have HLP := hid hl
              have HV := hid (And.intro hv (And.intro hvp (And.intro hown hlc)))
              rw [hl] at hcl
              have z0 : (0 : Int) ≤ (i : Int) := by omega
              have z1 : (i : Int) < (n : Int) := by have := HI.out; omega
              have hrl := rowsD_len got (posL s.data.toList a1 k) n i HGL.out HI.out
              have hc0 := hk2.cell.1
              have HRL := hid hrl
              rw [hrl] at hc0
              have zA0 : (0 : Int) ≤ (A : Int) := by omega
              obtain ⟨A4, hA4e⟩ : ∃ A4, A + 4 = A4 := ⟨_, rfl⟩
              have zA1 : IntKind.i64.wrap ((A : Int) + 4) = (A4 : Int) := by have := HMS.out; rw [IntKind.wrap_i64]; omega
              have zA2 : (A4 : Int) ≤ (s.size : Int) := by omega
              have zA3 : (A : Int) ≤ (A4 : Int) := by omega
              have zA5 : (0 : Int) ≤ (A4 : Int) := by omega
              have zA6 : A ≤ A4 := by omega
              have zA7 : A4 ≤ s.size := by omega
              rw [hA4e] at HNR
              have HA4E := hid hA4e
              have zx : IntKind.u32.wrap (x : Int) = (x : Int) := by rw [IntKind.wrap_u32]; omega
              have HX := hid hxf
              have HA44 := hid hA4
              have hbR : b ≠ w.heap.size := HK2.out.lo.2.2
              have hRb : w.heap.size ≠ b := fun e => hbR e.symm
              have HAA := hid hA
              have HKK := hid hlk
              clear hk2 hb2 hlk hkK hA hA4e hA4 hv hvp hfr hpt hown hlc hl hnum hnx hrl
              obtain ⟨hv, hvp, hown, hlc⟩ := HV.out
              have hnb := HK2.out.nb v (List.mem_of_getElem? hv)
              rw [hvp, HLP.out] at hnb
              rw [hvp, HLP.out] at hv
              rw [hvp, HLP.out] at hown
              have HVV := hid hv
              have HNB := hid hnb
              have HAP := hid (rec_own (w := (wr.alloc (.cells #[.int .u32 (x : Int)] 30)).drew) 31 (base := w.heap.size) (.slice p k c) k _ (row_keep hown (fun g hg => (below_alloc wr _).block g (hown.lt g hg).2)) (some ⟨wr.heap.size, 0, none⟩) 1 1 [.int .u32 (x : Int)] (rd_one wr x) rfl (by simp [Value.oneCell']) (by have := HKK.out; have := HK255.out; omega) (Nat.le_trans HB2.out.size (below_alloc wr (.cells #[.int .u32 (x : Int)] 30)).size))
              have HS7 := hid (show ∀ w7 : World, (wr.alloc (.cells #[.int .u32 (x : Int)] 30)).drew.grownBy w7 (Value.slice p k c).ownBlock → w7.cell? ⟨b, 0, none⟩ = some (.slice (some ⟨w.heap.size, 0, none⟩) n n) ∧ (∃ u, w7.cell? ⟨w.heap.size, i, none⟩ = some u) ∧ w7.frozen? ⟨w.heap.size, i, none⟩ = false from fun w7 hg => by
                have hbl := HK2.out.ltb
                have hRl := HK2.out.ltR
                have hs := (below_alloc wr (.cells #[.int .u32 (x : Int)] 30)).size
                have eb := (hg.block b (Nat.lt_of_lt_of_le hbl hs) (fun e => HNB.out.1 e.symm)).trans (((below_alloc wr (.cells #[.int .u32 (x : Int)] 30)).block b hbl).trans HK2.out.head)
                have eR := (hg.block w.heap.size (Nat.lt_of_lt_of_le hRl hs) (fun e => HNB.out.2 e.symm)).trans (((below_alloc wr (.cells #[.int .u32 (x : Int)] 30)).block _ hRl).trans HK2.out.row)
                refine ⟨?_, ⟨.slice p k c, ?_⟩, frozen_of_row _ _ _ _ _ eR⟩
                · rw [cell_of_row _ _ _ _ _ _ eb, HRL.out]; rfl
                · rw [cell_of_row _ _ _ _ _ _ eR, List.getElem?_toArray, HVV.out])
              have l1 : (wr.alloc (.cells #[.int .u32 (x : Int)] 30)).cell? ⟨b, 0, none⟩ = some (.slice (some ⟨w.heap.size, 0, none⟩) n n) := ((below_alloc wr _).cell (p := ⟨b, 0, none⟩) HK2.out.ltb).trans hc0
              have l2 : (wr.alloc (.cells #[.int .u32 (x : Int)] 30)).cell? ⟨w.heap.size, i, none⟩ = some (.slice p k c) := ((below_alloc wr _).cell (p := ⟨w.heap.size, i, none⟩) HK2.out.ltR).trans hcl
              clear hv hvp hown hlc hnb
              go_wp2_with fail
              refine wp_region_held_drew (S := fun w' => w'.cell? ⟨b, 0, none⟩ = some (.slice (some ⟨w.heap.size, 0, none⟩) n n)) (by kernel_rfl) (by exact hc0) (fun hHeld => ?_)
              refine wpAnyH_take (i := 0) (oi := { dst := some 49, op := Op.move (Operand.tmp 6), type := 27, pos := "ref.go:154", after := #[], guard := none }) (v := ?vp0) rfl (by kernel_rfl) (by kernel_rfl) (by kernel_rfl) (fun _ _ _ h => h) (Or.inl ⟨by rfl, ?hyp0⟩) (by assumption) ?restp0
              case hyp0 => (intro w hSw; (try dsimp only at hSw); go_simp; (try with_reducible rfl))
              simp only [Act.put, List.setIfInBounds_toArray, List.set_cons_zero, List.set_cons_succ]
              refine wpAnyH_take (i := 1) (oi := { dst := some 50, op := Op.nilCheck (Operand.tmp 49), type := 0, pos := "ref.go:154", after := #[{ on := 0, ground := Ground.data }], guard := none }) (v := ?vp1) rfl (by kernel_rfl) (by kernel_rfl) (by kernel_rfl) (fun _ _ _ h => h) (Or.inl ⟨by rfl, ?hyp1⟩) (by assumption) ?restp1
              case hyp1 => (intro w hSw; (try dsimp only at hSw); go_simp; (try with_reducible rfl))
              simp only [Act.put, List.setIfInBounds_toArray, List.set_cons_zero, List.set_cons_succ]
              refine wpAnyH_take (i := 2) (oi := { dst := some 51, op := Op.fieldAddr 73 (Operand.tmp 50) 0, type := 0, pos := "ref.go:154", after := #[{ on := 1, ground := Ground.data }], guard := none }) (v := ?vp2) rfl (by kernel_rfl) (by kernel_rfl) (by kernel_rfl) (fun _ _ _ h => h) (Or.inl ⟨by rfl, ?hyp2⟩) (by assumption) ?restp2
              case hyp2 => (intro w hSw; (try dsimp only at hSw); go_simp; (try with_reducible rfl))
              simp only [Act.put, List.setIfInBounds_toArray, List.set_cons_zero, List.set_cons_succ]
              refine wpAnyH_take (i := 3) (oi := { dst := some 52, op := Op.load 69 (Operand.tmp 51), type := 69, pos := "ref.go:154", after := #[{ on := 2, ground := Ground.data }], guard := none }) (v := ?vp3) rfl (by kernel_rfl) (by kernel_rfl) (by kernel_rfl) (fun _ _ _ h => h) (Or.inl ⟨by rfl, ?hyp3⟩) (by assumption) ?restp3
              case hyp3 => (intro w hSw; (try dsimp only at hSw); go_simp; (try with_reducible rfl))
              simp only [Act.put, List.setIfInBounds_toArray, List.set_cons_zero, List.set_cons_succ]
              refine wpAnyH_take (i := 4) (oi := { dst := some 53, op := Op.move (Operand.tmp 9), type := 3, pos := "ref.go:154", after := #[], guard := none }) (v := ?vp4) rfl (by kernel_rfl) (by kernel_rfl) (by kernel_rfl) (fun _ _ _ h => h) (Or.inl ⟨by rfl, ?hyp4⟩) (by assumption) ?restp4
              case hyp4 => (intro w hSw; (try dsimp only at hSw); go_simp; (try with_reducible rfl))
              simp only [Act.put, List.setIfInBounds_toArray, List.set_cons_zero, List.set_cons_succ]
              refine wpAnyH_take (i := 5) (oi := { dst := some 54, op := Op.move (Operand.tmp 6), type := 27, pos := "ref.go:154", after := #[], guard := none }) (v := ?vp5) rfl (by kernel_rfl) (by kernel_rfl) (by kernel_rfl) (fun _ _ _ h => h) (Or.inl ⟨by rfl, ?hyp5⟩) (by assumption) ?restp5
              case hyp5 => (intro w hSw; (try dsimp only at hSw); go_simp; (try with_reducible rfl))
              simp only [Act.put, List.setIfInBounds_toArray, List.set_cons_zero, List.set_cons_succ]
              refine wpAnyH_take (i := 6) (oi := { dst := some 55, op := Op.nilCheck (Operand.tmp 54), type := 0, pos := "ref.go:154", after := #[{ on := 5, ground := Ground.data }], guard := none }) (v := ?vp6) rfl (by kernel_rfl) (by kernel_rfl) (by kernel_rfl) (fun _ _ _ h => h) (Or.inl ⟨by rfl, ?hyp6⟩) (by assumption) ?restp6
              case hyp6 => (intro w hSw; (try dsimp only at hSw); go_simp; (try with_reducible rfl))
              simp only [Act.put, List.setIfInBounds_toArray, List.set_cons_zero, List.set_cons_succ]
              refine wpAnyH_take (i := 7) (oi := { dst := some 56, op := Op.fieldAddr 73 (Operand.tmp 55) 0, type := 0, pos := "ref.go:154", after := #[{ on := 6, ground := Ground.data }], guard := none }) (v := ?vp7) rfl (by kernel_rfl) (by kernel_rfl) (by kernel_rfl) (fun _ _ _ h => h) (Or.inl ⟨by rfl, ?hyp7⟩) (by assumption) ?restp7
              case hyp7 => (intro w hSw; (try dsimp only at hSw); go_simp; (try with_reducible rfl))
              simp only [Act.put, List.setIfInBounds_toArray, List.set_cons_zero, List.set_cons_succ]
              refine wpAnyH_take (i := 8) (oi := { dst := some 57, op := Op.load 69 (Operand.tmp 56), type := 69, pos := "ref.go:154", after := #[{ on := 7, ground := Ground.data }], guard := none }) (v := ?vp8) rfl (by kernel_rfl) (by kernel_rfl) (by kernel_rfl) (fun _ _ _ h => h) (Or.inl ⟨by rfl, ?hyp8⟩) (by assumption) ?restp8
              case hyp8 => (intro w hSw; (try dsimp only at hSw); go_simp; (try with_reducible rfl))
              simp only [Act.put, List.setIfInBounds_toArray, List.set_cons_zero, List.set_cons_succ]
              refine wpAnyH_take (i := 9) (oi := { dst := some 58, op := Op.move (Operand.tmp 9), type := 3, pos := "ref.go:154", after := #[], guard := none }) (v := ?vp9) rfl (by kernel_rfl) (by kernel_rfl) (by kernel_rfl) (fun _ _ _ h => h) (Or.inl ⟨by rfl, ?hyp9⟩) (by assumption) ?restp9
              case hyp9 => (intro w hSw; (try dsimp only at hSw); go_simp; (try with_reducible rfl))
              simp only [Act.put, List.setIfInBounds_toArray, List.set_cons_zero, List.set_cons_succ]
              refine wpAnyH_take (i := 10) (oi := { dst := some 59, op := Op.indexAddr 69 (Operand.tmp 57) (Operand.tmp 58), type := 0, pos := "ref.go:154", after := #[{ on := 8, ground := Ground.data }, { on := 9, ground := Ground.data }], guard := none }) (v := ?vp10) rfl (by kernel_rfl) (by kernel_rfl) (by kernel_rfl) (fun _ _ _ h => h) (Or.inl ⟨by rfl, ?hyp10⟩) (by assumption) ?restp10
              case hyp10 => (intro w hSw; (try dsimp only at hSw); go_simp; (try with_reducible rfl))
              simp only [Act.put, List.setIfInBounds_toArray, List.set_cons_zero, List.set_cons_succ]
              refine wpAnyH_take (i := 12) (oi := { dst := some 61, op := Op.move (Operand.tmp 1), type := 9, pos := "ref.go:154", after := #[], guard := none }) (v := ?vp12) rfl (by kernel_rfl) (by kernel_rfl) (by kernel_rfl) (fun _ _ _ h => h) (Or.inl ⟨by rfl, ?hyp12⟩) (by assumption) ?restp12
              case hyp12 => (intro w hSw; (try dsimp only at hSw); go_simp; (try with_reducible rfl))
              simp only [Act.put, List.setIfInBounds_toArray, List.set_cons_zero, List.set_cons_succ]
              refine wpAnyH_take (i := 13) (oi := { dst := some 62, op := Op.move (Operand.tmp 8), type := 3, pos := "ref.go:154", after := #[], guard := none }) (v := ?vp13) rfl (by kernel_rfl) (by kernel_rfl) (by kernel_rfl) (fun _ _ _ h => h) (Or.inl ⟨by rfl, ?hyp13⟩) (by assumption) ?restp13
              case hyp13 => (intro w hSw; (try dsimp only at hSw); go_simp; (try with_reducible rfl))
              simp only [Act.put, List.setIfInBounds_toArray, List.set_cons_zero, List.set_cons_succ]
              refine wpAnyH_take (i := 14) (oi := { dst := some 63, op := Op.move (Operand.tmp 8), type := 3, pos := "ref.go:154", after := #[], guard := none }) (v := ?vp14) rfl (by kernel_rfl) (by kernel_rfl) (by kernel_rfl) (fun _ _ _ h => h) (Or.inl ⟨by rfl, ?hyp14⟩) (by assumption) ?restp14
              case hyp14 => (intro w hSw; (try dsimp only at hSw); go_simp; (try with_reducible rfl))
              simp only [Act.put, List.setIfInBounds_toArray, List.set_cons_zero, List.set_cons_succ]
              refine wpAnyH_take (i := 15) (oi := { dst := some 64, op := Op.binOp BinOp.add 3 (Operand.tmp 63) (Operand.const (Value.int IntKind.i64 4)) 3, type := 3, pos := "ref.go:154", after := #[{ on := 14, ground := Ground.data }], guard := none }) (v := ?vp15) rfl (by kernel_rfl) (by kernel_rfl) (by kernel_rfl) (fun _ _ _ h => h) (Or.inl ⟨by rfl, ?hyp15⟩) (by assumption) ?restp15
              case hyp15 => (intro w hSw; (try dsimp only at hSw); go_simp; (try with_reducible rfl))
              simp only [Act.put, List.setIfInBounds_toArray, List.set_cons_zero, List.set_cons_succ]
              refine wpAnyH_take (i := 16) (oi := { dst := some 65, op := Op.slice 9 (Operand.tmp 61) (some (Operand.tmp 62)) (some (Operand.tmp 64)) none, type := 9, pos := "ref.go:154", after := #[{ on := 12, ground := Ground.data }, { on := 13, ground := Ground.data }, { on := 15, ground := Ground.data }], guard := none }) (v := ?vp16) rfl (by kernel_rfl) (by kernel_rfl) (by kernel_rfl) (fun _ _ _ h => h) (Or.inl ⟨by rfl, ?hyp16⟩) (by assumption) ?restp16
              case hyp16 => (intro w hSw; (try dsimp only at hSw); go_simp; (try with_reducible rfl))
              simp only [Act.put, List.setIfInBounds_toArray, List.set_cons_zero, List.set_cons_succ]
              refine wpAnyH_ready (rs := [11, 17]) (by kernel_rfl) (by simp) (AllReadyH.cons (o := { dst := some 60, op := Op.load 31 (Operand.tmp 59), type := 31, pos := "ref.go:154", after := #[{ on := 10, ground := Ground.data }], guard := none }) rfl (fun K hK => ?_) (AllReadyH.cons (o := { dst := some 66, op := Op.call { callee := Callee.value (Operand.func 58), args := #[Operand.tmp 65], argTypes := #[9] }, type := 3, pos := "ref.go:154", after := #[{ on := 16, ground := Ground.data }], guard := none }) rfl (fun K hK => ?_) AllReadyH.nil))
              · go_simp
                refine hK.out _ _ hc0 (fun hHeld => ?_)
                clear hK K
                refine wpAnyH_ready (rs := [17]) (by kernel_rfl) (by simp) (AllReadyH.cons (o := { dst := some 66, op := Op.call { callee := Callee.value (Operand.func 58), args := #[Operand.tmp 65], argTypes := #[9] }, type := 3, pos := "ref.go:154", after := #[{ on := 16, ground := Ground.data }], guard := none }) rfl (fun K hK => ?_) AllReadyH.nil)
                go_simp
                go_at_call 58
                refine (HNR.out _).mono ?_
                rintro e w3 ⟨rfl, hw3⟩
                subst hw3
                refine hK.out _ _ hc0 (fun hHeld => ?_)
                clear hK K
                refine wpAnyH_take (i := 18) (oi := { dst := some 67, op := Op.convert 3 30 (Operand.tmp 66), type := 30, pos := "ref.go:154", after := #[{ on := 17, ground := Ground.data }], guard := none }) (v := ?vpa18) rfl (by kernel_rfl) (by kernel_rfl) (by kernel_rfl) (fun _ _ _ h => h) (Or.inl ⟨by rfl, ?hypa18⟩) (by assumption) ?restpa18
                case hypa18 => (intro w hSw; (try dsimp only at hSw); go_simp; (try with_reducible rfl))
                simp only [Act.put, List.setIfInBounds_toArray, List.set_cons_zero, List.set_cons_succ]
                refine wpAnyH_ready (rs := [19]) (by kernel_rfl) (by simp) (AllReadyH.cons (o := { dst := some 68, op := Op.buildSlice 31 1 #[(0, Operand.tmp 67)], type := 31, pos := "ref.go:154", after := #[{ on := 18, ground := Ground.data }], guard := none }) rfl (fun K hK => ?_) AllReadyH.nil)
                go_simp
                refine hK.out _ _ l1 (fun hHeld => ?_)
                clear hK K
                refine wpAnyH_ready (rs := [20]) (by kernel_rfl) (by simp) (AllReadyH.cons (o := { dst := some 69, op := Op.call { callee := Callee.builtin Builtin.append, args := #[Operand.tmp 60, Operand.tmp 68], argTypes := #[31, 31] }, type := 31, pos := "ref.go:154", after := #[{ on := 11, ground := Ground.data }, { on := 19, ground := Ground.data }, { on := 17, ground := Ground.chain }], guard := none }) rfl (fun K hK => ?_) AllReadyH.nil)
                refine step_app (by rfl) _ _ _ (by rfl) (by rfl) (by rfl) HAP.out ?_
                intro v' w5 hF
                obtain ⟨pp3, mm3, cc3, hvv⟩ := row_slice hF.1
                subst hvv
                obtain ⟨l5, ⟨u5, m1⟩, f7⟩ := HS7.out w5 hF.2.1
                have HF := hid hF
                clear hF
                refine hK.out _ _ l5 (fun hHeld => ?_)
                clear hK K
                refine wpAnyH_take (i := 21) (oi := { dst := some 70, op := Op.indexAddr 69 (Operand.tmp 52) (Operand.tmp 53), type := 0, pos := "ref.go:154", after := #[{ on := 3, ground := Ground.data }, { on := 4, ground := Ground.data }, { on := 0, ground := Ground.phase }, { on := 1, ground := Ground.phase }, { on := 2, ground := Ground.phase }, { on := 3, ground := Ground.phase }, { on := 4, ground := Ground.phase }, { on := 5, ground := Ground.phase }, { on := 6, ground := Ground.phase }, { on := 7, ground := Ground.phase }, { on := 8, ground := Ground.phase }, { on := 9, ground := Ground.phase }, { on := 10, ground := Ground.phase }, { on := 11, ground := Ground.phase }, { on := 12, ground := Ground.phase }, { on := 13, ground := Ground.phase }, { on := 14, ground := Ground.phase }, { on := 15, ground := Ground.phase }, { on := 16, ground := Ground.phase }, { on := 17, ground := Ground.phase }, { on := 18, ground := Ground.phase }, { on := 19, ground := Ground.phase }, { on := 20, ground := Ground.phase }], guard := none }) (v := ?vpaz21) rfl (by kernel_rfl) (by kernel_rfl) (by kernel_rfl) (fun _ _ _ h => h) (Or.inl ⟨by rfl, ?hypaz21⟩) (by assumption) ?restpaz21
                case hypaz21 => (intro w hSw; (try dsimp only at hSw); go_simp; (try with_reducible rfl))
                simp only [Act.put, List.setIfInBounds_toArray, List.set_cons_zero, List.set_cons_succ]
                refine wpAnyH_ready (rs := [22]) (by kernel_rfl) (by simp) (AllReadyH.cons (o := { dst := none, op := Op.store 31 (Operand.tmp 70) (Operand.tmp 69), type := 0, pos := "ref.go:154", after := #[{ on := 21, ground := Ground.data }, { on := 20, ground := Ground.data }, { on := 20, ground := Ground.chain }, { on := 0, ground := Ground.phase }, { on := 1, ground := Ground.phase }, { on := 2, ground := Ground.phase }, { on := 3, ground := Ground.phase }, { on := 4, ground := Ground.phase }, { on := 5, ground := Ground.phase }, { on := 6, ground := Ground.phase }, { on := 7, ground := Ground.phase }, { on := 8, ground := Ground.phase }, { on := 9, ground := Ground.phase }, { on := 10, ground := Ground.phase }, { on := 11, ground := Ground.phase }, { on := 12, ground := Ground.phase }, { on := 13, ground := Ground.phase }, { on := 14, ground := Ground.phase }, { on := 15, ground := Ground.phase }, { on := 16, ground := Ground.phase }, { on := 17, ground := Ground.phase }, { on := 18, ground := Ground.phase }, { on := 19, ground := Ground.phase }, { on := 20, ground := Ground.phase }], guard := none }) rfl (fun K hK => ?_) AllReadyH.nil)
                go_simp
                refine hK.out _ _ (by go_keep) (fun hHeld => ?_)
                clear hK K
                refine wpAnyH_done (by kernel_rfl) ?_ _
                have HPT := hid (HK2.out.put (W := (wr.alloc (.cells #[.int .u32 (x : Int)] 30)).drew) (below_alloc wr (.cells #[.int .u32 (x : Int)] 30)).drew HF.out.2.1 HVV.out (rowsD_at got _ n i HGL.out) (l' := posL s.data.toList a1 (k + 1)) (by rw [HNX2.out, ← kl_snoc, List.length_append, HLP.out]; exact HF.out.1) (fun g hg => by
                  rcases HF.out.2.2 with h | h
                  · left; rw [← h]; exact hg
                  · right; rw [h] at hg; injection hg with hg; rw [← hg]; exact (below_alloc wr (.cells #[.int .u32 (x : Int)] 30)).size) ⟨posL_fit _ _ _, by rw [posL_len]; have := HKK.out; have := HK255.out; omega⟩)
                have HKF := hid HPT.out.1
                rw [rowsD_set got _ _ n i HGL.out] at HKF
                have HBF := hid (HB2.out.trans (HPT.out.2.1.below HB2.out.size HK2.out.ge))
                clear l1 l2 l5 m1 f7 hc0 hcl HS7 HAP HPT
                go_wp2_with fail
                go_roundw
                case rel => exact ⟨k + 1, _, by rw [show (A4 : Int) = ((a1 + 4 * (k + 1) : Nat) : Int) by have := HAA.out; have := HA4E.out; omega], by rw [show wrap64 ((k : Int) + 1) = ((k + 1 : Nat) : Int) by unfold wrap64; have := HKK.out; have := HK255.out; omega], HKK.out, HKF.out, HBF.out⟩
                case measure =>
                  have := HKK.out; have := HK255.out
                  rw [show wrap64 ((k : Int) + 1) = ((k + 1 : Nat) : Int) by unfold wrap64; omega]
                  simp [intOf]; omega
              · go_simp
                go_at_call 58
                refine (HNR.out _).mono ?_
                rintro e w3 ⟨rfl, hw3⟩
                subst hw3
                refine hK.out _ _ hc0 (fun hHeld => ?_)
                clear hK K
                refine wpAnyH_take (i := 18) (oi := { dst := some 67, op := Op.convert 3 30 (Operand.tmp 66), type := 30, pos := "ref.go:154", after := #[{ on := 17, ground := Ground.data }], guard := none }) (v := ?vpb18) rfl (by kernel_rfl) (by kernel_rfl) (by kernel_rfl) (fun _ _ _ h => h) (Or.inl ⟨by rfl, ?hypb18⟩) (by assumption) ?restpb18
                case hypb18 => (intro w hSw; (try dsimp only at hSw); go_simp; (try with_reducible rfl))
                simp only [Act.put, List.setIfInBounds_toArray, List.set_cons_zero, List.set_cons_succ]
                refine wpAnyH_ready (rs := [11, 19]) (by kernel_rfl) (by simp) (AllReadyH.cons (o := { dst := some 60, op := Op.load 31 (Operand.tmp 59), type := 31, pos := "ref.go:154", after := #[{ on := 10, ground := Ground.data }], guard := none }) rfl (fun K hK => ?_) (AllReadyH.cons (o := { dst := some 68, op := Op.buildSlice 31 1 #[(0, Operand.tmp 67)], type := 31, pos := "ref.go:154", after := #[{ on := 18, ground := Ground.data }], guard := none }) rfl (fun K hK => ?_) AllReadyH.nil))
                · go_simp
                  refine hK.out _ _ hc0 (fun hHeld => ?_)
                  clear hK K
                  refine wpAnyH_ready (rs := [19]) (by kernel_rfl) (by simp) (AllReadyH.cons (o := { dst := some 68, op := Op.buildSlice 31 1 #[(0, Operand.tmp 67)], type := 31, pos := "ref.go:154", after := #[{ on := 18, ground := Ground.data }], guard := none }) rfl (fun K hK => ?_) AllReadyH.nil)
                  go_simp
                  refine hK.out _ _ l1 (fun hHeld => ?_)
                  clear hK K
                  refine wpAnyH_ready (rs := [20]) (by kernel_rfl) (by simp) (AllReadyH.cons (o := { dst := some 69, op := Op.call { callee := Callee.builtin Builtin.append, args := #[Operand.tmp 60, Operand.tmp 68], argTypes := #[31, 31] }, type := 31, pos := "ref.go:154", after := #[{ on := 11, ground := Ground.data }, { on := 19, ground := Ground.data }, { on := 17, ground := Ground.chain }], guard := none }) rfl (fun K hK => ?_) AllReadyH.nil)
                  refine step_app (by rfl) _ _ _ (by rfl) (by rfl) (by rfl) HAP.out ?_
                  intro v' w5 hF
                  obtain ⟨pp3, mm3, cc3, hvv⟩ := row_slice hF.1
                  subst hvv
                  obtain ⟨l5, ⟨u5, m1⟩, f7⟩ := HS7.out w5 hF.2.1
                  have HF := hid hF
                  clear hF
                  refine hK.out _ _ l5 (fun hHeld => ?_)
                  clear hK K
                  refine wpAnyH_take (i := 21) (oi := { dst := some 70, op := Op.indexAddr 69 (Operand.tmp 52) (Operand.tmp 53), type := 0, pos := "ref.go:154", after := #[{ on := 3, ground := Ground.data }, { on := 4, ground := Ground.data }, { on := 0, ground := Ground.phase }, { on := 1, ground := Ground.phase }, { on := 2, ground := Ground.phase }, { on := 3, ground := Ground.phase }, { on := 4, ground := Ground.phase }, { on := 5, ground := Ground.phase }, { on := 6, ground := Ground.phase }, { on := 7, ground := Ground.phase }, { on := 8, ground := Ground.phase }, { on := 9, ground := Ground.phase }, { on := 10, ground := Ground.phase }, { on := 11, ground := Ground.phase }, { on := 12, ground := Ground.phase }, { on := 13, ground := Ground.phase }, { on := 14, ground := Ground.phase }, { on := 15, ground := Ground.phase }, { on := 16, ground := Ground.phase }, { on := 17, ground := Ground.phase }, { on := 18, ground := Ground.phase }, { on := 19, ground := Ground.phase }, { on := 20, ground := Ground.phase }], guard := none }) (v := ?vpbaz21) rfl (by kernel_rfl) (by kernel_rfl) (by kernel_rfl) (fun _ _ _ h => h) (Or.inl ⟨by rfl, ?hypbaz21⟩) (by assumption) ?restpbaz21
                  case hypbaz21 => (intro w hSw; (try dsimp only at hSw); go_simp; (try with_reducible rfl))
                  simp only [Act.put, List.setIfInBounds_toArray, List.set_cons_zero, List.set_cons_succ]
                  refine wpAnyH_ready (rs := [22]) (by kernel_rfl) (by simp) (AllReadyH.cons (o := { dst := none, op := Op.store 31 (Operand.tmp 70) (Operand.tmp 69), type := 0, pos := "ref.go:154", after := #[{ on := 21, ground := Ground.data }, { on := 20, ground := Ground.data }, { on := 20, ground := Ground.chain }, { on := 0, ground := Ground.phase }, { on := 1, ground := Ground.phase }, { on := 2, ground := Ground.phase }, { on := 3, ground := Ground.phase }, { on := 4, ground := Ground.phase }, { on := 5, ground := Ground.phase }, { on := 6, ground := Ground.phase }, { on := 7, ground := Ground.phase }, { on := 8, ground := Ground.phase }, { on := 9, ground := Ground.phase }, { on := 10, ground := Ground.phase }, { on := 11, ground := Ground.phase }, { on := 12, ground := Ground.phase }, { on := 13, ground := Ground.phase }, { on := 14, ground := Ground.phase }, { on := 15, ground := Ground.phase }, { on := 16, ground := Ground.phase }, { on := 17, ground := Ground.phase }, { on := 18, ground := Ground.phase }, { on := 19, ground := Ground.phase }, { on := 20, ground := Ground.phase }], guard := none }) rfl (fun K hK => ?_) AllReadyH.nil)
                  go_simp
                  refine hK.out _ _ (by go_keep) (fun hHeld => ?_)
                  clear hK K
                  refine wpAnyH_done (by kernel_rfl) ?_ _
                  have HPT := hid (HK2.out.put (W := (wr.alloc (.cells #[.int .u32 (x : Int)] 30)).drew) (below_alloc wr (.cells #[.int .u32 (x : Int)] 30)).drew HF.out.2.1 HVV.out (rowsD_at got _ n i HGL.out) (l' := posL s.data.toList a1 (k + 1)) (by rw [HNX2.out, ← kl_snoc, List.length_append, HLP.out]; exact HF.out.1) (fun g hg => by
                    rcases HF.out.2.2 with h | h
                    · left; rw [← h]; exact hg
                    · right; rw [h] at hg; injection hg with hg; rw [← hg]; exact (below_alloc wr (.cells #[.int .u32 (x : Int)] 30)).size) ⟨posL_fit _ _ _, by rw [posL_len]; have := HKK.out; have := HK255.out; omega⟩)
                  have HKF := hid HPT.out.1
                  rw [rowsD_set got _ _ n i HGL.out] at HKF
                  have HBF := hid (HB2.out.trans (HPT.out.2.1.below HB2.out.size HK2.out.ge))
                  clear l1 l2 l5 m1 f7 hc0 hcl HS7 HAP HPT
                  go_wp2_with fail
                  go_roundw
                  case rel => exact ⟨k + 1, _, by rw [show (A4 : Int) = ((a1 + 4 * (k + 1) : Nat) : Int) by have := HAA.out; have := HA4E.out; omega], by rw [show wrap64 ((k : Int) + 1) = ((k + 1 : Nat) : Int) by unfold wrap64; have := HKK.out; have := HK255.out; omega], HKK.out, HKF.out, HBF.out⟩
                  case measure =>
                    have := HKK.out; have := HK255.out
                    rw [show wrap64 ((k : Int) + 1) = ((k + 1 : Nat) : Int) by unfold wrap64; omega]
                    simp [intOf]; omega
                · go_simp
                  refine hK.out _ _ l1 (fun hHeld => ?_)
                  clear hK K
                  refine wpAnyH_ready (rs := [11]) (by kernel_rfl) (by simp) (AllReadyH.cons (o := { dst := some 60, op := Op.load 31 (Operand.tmp 59), type := 31, pos := "ref.go:154", after := #[{ on := 10, ground := Ground.data }], guard := none }) rfl (fun K hK => ?_) AllReadyH.nil)
                  go_simp
                  refine hK.out _ _ l1 (fun hHeld => ?_)
                  clear hK K
                  refine wpAnyH_ready (rs := [20]) (by kernel_rfl) (by simp) (AllReadyH.cons (o := { dst := some 69, op := Op.call { callee := Callee.builtin Builtin.append, args := #[Operand.tmp 60, Operand.tmp 68], argTypes := #[31, 31] }, type := 31, pos := "ref.go:154", after := #[{ on := 11, ground := Ground.data }, { on := 19, ground := Ground.data }, { on := 17, ground := Ground.chain }], guard := none }) rfl (fun K hK => ?_) AllReadyH.nil)
                  refine step_app (by rfl) _ _ _ (by rfl) (by rfl) (by rfl) HAP.out ?_
                  intro v' w5 hF
                  obtain ⟨pp3, mm3, cc3, hvv⟩ := row_slice hF.1
                  subst hvv
                  obtain ⟨l5, ⟨u5, m1⟩, f7⟩ := HS7.out w5 hF.2.1
                  have HF := hid hF
                  clear hF
                  refine hK.out _ _ l5 (fun hHeld => ?_)
                  clear hK K
                  refine wpAnyH_take (i := 21) (oi := { dst := some 70, op := Op.indexAddr 69 (Operand.tmp 52) (Operand.tmp 53), type := 0, pos := "ref.go:154", after := #[{ on := 3, ground := Ground.data }, { on := 4, ground := Ground.data }, { on := 0, ground := Ground.phase }, { on := 1, ground := Ground.phase }, { on := 2, ground := Ground.phase }, { on := 3, ground := Ground.phase }, { on := 4, ground := Ground.phase }, { on := 5, ground := Ground.phase }, { on := 6, ground := Ground.phase }, { on := 7, ground := Ground.phase }, { on := 8, ground := Ground.phase }, { on := 9, ground := Ground.phase }, { on := 10, ground := Ground.phase }, { on := 11, ground := Ground.phase }, { on := 12, ground := Ground.phase }, { on := 13, ground := Ground.phase }, { on := 14, ground := Ground.phase }, { on := 15, ground := Ground.phase }, { on := 16, ground := Ground.phase }, { on := 17, ground := Ground.phase }, { on := 18, ground := Ground.phase }, { on := 19, ground := Ground.phase }, { on := 20, ground := Ground.phase }], guard := none }) (v := ?vpbbz21) rfl (by kernel_rfl) (by kernel_rfl) (by kernel_rfl) (fun _ _ _ h => h) (Or.inl ⟨by rfl, ?hypbbz21⟩) (by assumption) ?restpbbz21
                  case hypbbz21 => (intro w hSw; (try dsimp only at hSw); go_simp; (try with_reducible rfl))
                  simp only [Act.put, List.setIfInBounds_toArray, List.set_cons_zero, List.set_cons_succ]
                  refine wpAnyH_ready (rs := [22]) (by kernel_rfl) (by simp) (AllReadyH.cons (o := { dst := none, op := Op.store 31 (Operand.tmp 70) (Operand.tmp 69), type := 0, pos := "ref.go:154", after := #[{ on := 21, ground := Ground.data }, { on := 20, ground := Ground.data }, { on := 20, ground := Ground.chain }, { on := 0, ground := Ground.phase }, { on := 1, ground := Ground.phase }, { on := 2, ground := Ground.phase }, { on := 3, ground := Ground.phase }, { on := 4, ground := Ground.phase }, { on := 5, ground := Ground.phase }, { on := 6, ground := Ground.phase }, { on := 7, ground := Ground.phase }, { on := 8, ground := Ground.phase }, { on := 9, ground := Ground.phase }, { on := 10, ground := Ground.phase }, { on := 11, ground := Ground.phase }, { on := 12, ground := Ground.phase }, { on := 13, ground := Ground.phase }, { on := 14, ground := Ground.phase }, { on := 15, ground := Ground.phase }, { on := 16, ground := Ground.phase }, { on := 17, ground := Ground.phase }, { on := 18, ground := Ground.phase }, { on := 19, ground := Ground.phase }, { on := 20, ground := Ground.phase }], guard := none }) rfl (fun K hK => ?_) AllReadyH.nil)
                  go_simp
                  refine hK.out _ _ (by go_keep) (fun hHeld => ?_)
                  clear hK K
                  refine wpAnyH_done (by kernel_rfl) ?_ _
                  have HPT := hid (HK2.out.put (W := (wr.alloc (.cells #[.int .u32 (x : Int)] 30)).drew) (below_alloc wr (.cells #[.int .u32 (x : Int)] 30)).drew HF.out.2.1 HVV.out (rowsD_at got _ n i HGL.out) (l' := posL s.data.toList a1 (k + 1)) (by rw [HNX2.out, ← kl_snoc, List.length_append, HLP.out]; exact HF.out.1) (fun g hg => by
                    rcases HF.out.2.2 with h | h
                    · left; rw [← h]; exact hg
                    · right; rw [h] at hg; injection hg with hg; rw [← hg]; exact (below_alloc wr (.cells #[.int .u32 (x : Int)] 30)).size) ⟨posL_fit _ _ _, by rw [posL_len]; have := HKK.out; have := HK255.out; omega⟩)
                  have HKF := hid HPT.out.1
                  rw [rowsD_set got _ _ n i HGL.out] at HKF
                  have HBF := hid (HB2.out.trans (HPT.out.2.1.below HB2.out.size HK2.out.ge))
                  clear l1 l2 l5 m1 f7 hc0 hcl HS7 HAP HPT
                  go_wp2_with fail
                  go_roundw
                  case rel => exact ⟨k + 1, _, by rw [show (A4 : Int) = ((a1 + 4 * (k + 1) : Nat) : Int) by have := HAA.out; have := HA4E.out; omega], by rw [show wrap64 ((k : Int) + 1) = ((k + 1 : Nat) : Int) by unfold wrap64; have := HKK.out; have := HK255.out; omega], HKK.out, HKF.out, HBF.out⟩
                  case measure =>
                    have := HKK.out; have := HK255.out
                    rw [show wrap64 ((k : Int) + 1) = ((k + 1 : Nat) : Int) by unfold wrap64; omega]
                    simp [intOf]; omega
            · have e1 : decide ((k : Int) < (K : Int)) = false := by simp; omega
              have e1' : decide (k < K) = false := by simpa using hlk
              obtain rfl : k = K := by omega
              rw [HA2.out]
              have HKN := hid (show Rk w.heap.size wr b w.heap.size us' ((got ++ [posL s.data.toList a1 k]) ++ List.replicate (n - (i + 1)) []) by rw [← rowsD_end]; exact HK2.out)
              clear hk2 hb2 hlk hkK
              go_wp2_with fail
              go_roundw
              case rel => exact ⟨i + 1, A2, got ++ [posL s.data.toList a1 k], us', rfl, by rw [show wrap64 ((i : Int) + 1) = ((i + 1 : Nat) : Int) by unfold wrap64; have := HI.out; have := HD.out; omega], HI.out, by rw [List.length_append, HGL.out]; rfl, HFIT.out, HKN.out, HB2.out, HNX.out⟩
              case measure =>
                have := HI.out; have := HD.out
                rw [show wrap64 ((i : Int) + 1) = ((i + 1 : Nat) : Int) by unfold wrap64; omega]
                simp [intOf]; omega
    · have e1 : decide ((i : Int) < (n : Int)) = false := by simp; omega
      have e1' : decide (i < n) = false := by simpa using hlt
      obtain rfl : i = n := by omega
      have HNS := hid (show decN i s = some (got, s.extract a s.size) by rw [HDD.out, Nat.sub_self]; simp [decN])
      have HKG := hid (show Rk w.heap.size wr b w.heap.size us got by have h := HK.out; rw [Nat.sub_self] at h; simpa using h)
      have hms := HMS.out
      by_cases ha : a = s.size
      · have e2 : ((a : Int) != (s.size : Int)) = false := by simp [ha]
        have HRZ := hid (show (s.extract a s.size).size = 0 by rw [ByteArray.size_extract]; omega)
        clear hlt hi has ha
        go_wp2_with fail
        clear e1 e1' e2
        generalize wr = W9 at *
        go_loopw [12] (fun jv wz => ∃ j : Nat, jv = .int .i64 j ∧ j ≤ i ∧ (got.take j).all mayL = true ∧ Below W9.heap.size W9 wz) (fun jv _ => i - (intOf jv).toNat)
        case atStart => exact ⟨0, rfl, by omega, by simp, Below.refl _ _⟩
        case round =>
          obtain ⟨j, rfl, hj, hall, hbj⟩ := hrel
          have HBJ := hid hbj; have HALL := hid hall
          clear hall
          by_cases hjn : j < i
          · have e1 : decide ((j : Int) < (i : Int)) = true := by simpa using hjn
            have e1' : decide (j < i) = true := by simpa using hjn
            obtain ⟨l, hl⟩ : ∃ l, got[j]? = some l := ⟨_, List.getElem?_eq_getElem (by rw [HGL.out]; exact hjn)⟩
            obtain ⟨v, p, c, hv, hvp, hcl, hfr, hpt, hown, hlc⟩ := HKG.out.at hl
            have hll := (HKG.out.fit l (List.mem_of_getElem? hl)).2
            have HPT := hid hpt
            have HL := hid hl
            have HJ := hid hjn
            have HLL := hid hll
            have HST := hid (show ∀ X : World, Below W9.heap.size W9 X → X.cell? ⟨b, 0, none⟩ = some (.slice (some ⟨w.heap.size, 0, none⟩) i i) ∧ X.cell? ⟨w.heap.size, j, none⟩ = some (.slice p l.length c) from fun X hX => by
              have h1 := (HKG.out.next hX).cell.1
              rw [HGL.out] at h1
              exact ⟨h1, (hX.cell (p := ⟨w.heap.size, j, none⟩) HKG.out.ltR).trans hcl⟩)
            have HNO := hid fun (h : mayL l = false) => (show got.all mayL = false by rw [List.all_eq_false]; exact ⟨l, List.mem_of_getElem? hl, by rw [h]; simp⟩)
            have zj0 : (0 : Int) ≤ (j : Int) := by omega
            have zj1 : (j : Int) < (i : Int) := by omega
            clear hv hvp hcl hfr hpt hown hlc hl hll hjn hj hbj
            go_wp2_with fail
            generalize wr = W8 at *
            go_loopw [13] (fun kv wy => ∃ k : Nat, kv = .int .i64 k ∧ k ≤ l.length ∧ k ≤ 63 ∧ (List.range k).all (mayI l) = true ∧ Below W9.heap.size W9 wy) (fun kv _ => l.length - (intOf kv).toNat)
            case atStart => exact ⟨0, rfl, by omega, by omega, by simp, HBJ.out⟩
            case round =>
              obtain ⟨k, rfl, hk, hk63, hall, hby⟩ := hrel
              have HBY := hid hby; have HRA := hid hall
              obtain ⟨y1, y2⟩ := HST.out _ hby
              clear hall
              by_cases hkl : k < l.length
              · have e2 : decide ((k : Int) < (l.length : Int)) = true := by simpa using hkl
                have e2' : decide (k < l.length) = true := by simpa using hkl
                obtain ⟨pb, po, hpe, hpl, hpc⟩ := HPT.out.cells k hkl
                have HPC := hid hpc
                have HPE := hid hpe
                have hd := (hby.cell (p := ⟨pb, po + k, none⟩) hpl).trans hpc
                have hgd : l.getD k 0 = l[k] := by rw [List.getD_eq_getElem?_getD, List.getElem?_eq_getElem hkl]; rfl
                have HMI := hid (show mayI l k = (decide (0 < l[k]) && (decide (k = 0) || decide (l.getD (k - 1) 0 < l[k]))) by unfold mayI; rw [hgd])
                have HNM := hid fun (h : mayI l k = false) => (show mayL l = false by unfold mayL; rw [range_not _ _ _ hkl h, Bool.and_false])
                have zk0 : (0 : Int) ≤ (k : Int) := by omega
                have zk1 : (k : Int) < (l.length : Int) := by omega
                have HKL := hid hkl
                subst hpe
                generalize l[k] = x at hd HMI hpc
                clear hgd hpc HPC
                by_cases c0 : x = 0
                · subst c0
                  have HF := hid (HNO.out (HNM.out (by rw [HMI.out]; simp)))
                  go_wp2_with fail
                  go_quiet (fail)
                  have HBQ := hid ((HB.out.trans (HBY.out.mono HB.out.size)).trans (below_drewN (Below.refl _ _) nq |>.mono (HB.out.trans (HBY.out.mono HB.out.size)).size))
                  clear y1 y2 hd
                  generalize wr.drewN nq = V2 at HBQ ⊢
                  go_wp2_with fail
                  go_ret2
                  unfold RdecPost
                  rw [HNS.out]
                  refine ⟨HBQ.out, ?_⟩
                  show (if _ then _ else _)
                  rw [if_neg (by rw [HF.out]; simp)]
                  rfl
                · have d0 : ((x : Int) == 0) = false := by rw [beq_eq_false_iff_ne]; omega
                  by_cases c1 : 63 ≤ k
                  · have d1 : decide ((63 : Int) ≤ (k : Int)) = true := decide_eq_true (by omega)
                    have d1' : decide (63 ≤ k) = true := decide_eq_true c1
                    have HF := hid (HNO.out (by unfold mayL; rw [decide_eq_false (by have := HKL.out; omega), Bool.false_and]))
                    go_wp2_with fail
                    go_quiet (fail)
                    have HBQ := hid ((HB.out.trans (HBY.out.mono HB.out.size)).trans (below_drewN (Below.refl _ _) nq |>.mono (HB.out.trans (HBY.out.mono HB.out.size)).size))
                    clear y1 y2 hd
                    generalize wr.drewN nq = V2 at HBQ ⊢
                    go_wp2_with fail
                    go_ret2
                    unfold RdecPost
                    rw [HNS.out]
                    refine ⟨HBQ.out, ?_⟩
                    show (if _ then _ else _)
                    rw [if_neg (by rw [HF.out]; simp)]
                    rfl
                  · have d1 : decide ((63 : Int) ≤ (k : Int)) = false := decide_eq_false (by omega)
                    have d1' : decide (63 ≤ k) = false := decide_eq_false c1
                    by_cases c2 : k = 0
                    · have d2 : decide ((0 : Int) < (k : Int)) = false := decide_eq_false (by omega)
                      have d2' : decide (0 < k) = false := decide_eq_false (by omega)
                      have HC2 := hid c2
                      clear c2
                      have HNEW := hid (range_more k (mayI l) HRA.out (by rw [HMI.out, decide_eq_true HC2.out, Bool.true_or, Bool.and_true]; exact decide_eq_true (by omega)))
                      go_wp2_with fail
                      go_quiet (fail)
                      have HBQ := hid (HBY.out.trans (below_drewN (Below.refl _ _) nq |>.mono HBY.out.size))
                      clear y1 y2 hd
                      generalize wr.drewN nq = V2 at HBQ ⊢
                      go_wp2_with fail
                      go_roundw
                      case rel => exact ⟨k + 1, by first | (rw [show wrap64 ((k : Int) + 1) = ((k + 1 : Nat) : Int) by unfold wrap64; omega]) | simp, HKL.out, by omega, HNEW.out, HBQ.out⟩
                      case measure =>
                        have := HKL.out
                        first | rw [show wrap64 ((k : Int) + 1) = ((k + 1 : Nat) : Int) by unfold wrap64; omega] | skip
                        simp [intOf]; omega
                    · have d2 : decide ((0 : Int) < (k : Int)) = true := decide_eq_true (by omega)
                      have d2' : decide (0 < k) = true := decide_eq_true (by omega)
                      obtain ⟨k1, hk1⟩ : ∃ k1, k - 1 = k1 := ⟨_, rfl⟩
                      have hk1l : k1 < l.length := by have := HKL.out; omega
                      obtain ⟨pb2, po2, hpe2, hpl2, hpc2⟩ := HPT.out.cells k1 hk1l
                      injection hpe2 with hpe2
                      injection hpe2 with hp1 hp2
                      subst hp1
                      subst hp2
                      have hd2 := (HBY.out.cell (p := ⟨pb, po + k1, none⟩) hpl2).trans hpc2
                      have HGK := hid (show l.getD (k - 1) 0 = l[k1] by rw [hk1, List.getD_eq_getElem?_getD, List.getElem?_eq_getElem hk1l]; rfl)
                      generalize l[k1] = y at hd2 hpc2 HGK
                      have zk2 : IntKind.i64.wrap ((k : Int) - 1) = (k1 : Int) := by rw [IntKind.wrap_i64]; omega
                      have zk3 : (0 : Int) ≤ (k1 : Int) := by omega
                      have zk4 : (k1 : Int) < (l.length : Int) := by omega
                      have HK1 := hid hk1
                      clear hk1 hk1l hpc2 hpl2
                      by_cases c3 : x ≤ y
                      · have d3 : decide ((x : Int) ≤ (y : Int)) = true := decide_eq_true (by omega)
                        have d3' : decide (x ≤ y) = true := decide_eq_true c3
                        have HF := hid (HNO.out (HNM.out (by rw [HMI.out, HGK.out]; simp; omega)))
                        go_wp2_with fail
                        go_quiet (fail)
                        have HBQ := hid ((HB.out.trans (HBY.out.mono HB.out.size)).trans (below_drewN (Below.refl _ _) nq |>.mono (HB.out.trans (HBY.out.mono HB.out.size)).size))
                        clear y1 y2 hd
                        generalize wr.drewN nq = V2 at HBQ ⊢
                        go_wp2_with fail
                        go_ret2
                        unfold RdecPost
                        rw [HNS.out]
                        refine ⟨HBQ.out, ?_⟩
                        show (if _ then _ else _)
                        rw [if_neg (by rw [HF.out]; simp)]
                        rfl
                      · have d3 : decide ((x : Int) ≤ (y : Int)) = false := decide_eq_false (by omega)
                        have d3' : decide (x ≤ y) = false := decide_eq_false c3
                        have HNEW := hid (range_more k (mayI l) HRA.out (by rw [HMI.out, HGK.out]; simp; omega))
                        go_wp2_with fail
                        go_quiet (fail)
                        have HBQ := hid (HBY.out.trans (below_drewN (Below.refl _ _) nq |>.mono HBY.out.size))
                        clear y1 y2 hd
                        generalize wr.drewN nq = V2 at HBQ ⊢
                        go_wp2_with fail
                        go_roundw
                        case rel => exact ⟨k + 1, by first | (rw [show wrap64 ((k : Int) + 1) = ((k + 1 : Nat) : Int) by unfold wrap64; omega]) | simp, HKL.out, by omega, HNEW.out, HBQ.out⟩
                        case measure =>
                          have := HKL.out
                          first | rw [show wrap64 ((k : Int) + 1) = ((k + 1 : Nat) : Int) by unfold wrap64; omega] | skip
                          simp [intOf]; omega
              · have e2 : decide ((k : Int) < (l.length : Int)) = false := by simp; omega
                have e2' : decide (k < l.length) = false := by simpa using hkl
                obtain rfl : k = l.length := by omega
                have HML := hid (show mayL l = true by unfold mayL; rw [HRA.out, decide_eq_true (by omega)]; rfl)
                have HTK := hid (show (got.take (j + 1)).all mayL = true by
                  obtain ⟨hjl, hje⟩ := List.getElem?_eq_some_iff.1 HL.out
                  rw [List.take_succ_eq_append_getElem hjl, List.all_append, HALL.out, hje]; simp [HML.out])
                clear hk hk63 hby hkl
                go_wp2_with fail
                go_roundw
                case rel => exact ⟨j + 1, by rw [show wrap64 ((j : Int) + 1) = ((j + 1 : Nat) : Int) by unfold wrap64; have := HJ.out; have := HD.out; omega], HJ.out, HTK.out, HBY.out⟩
                case measure =>
                  have := HJ.out; have := HD.out
                  rw [show wrap64 ((j : Int) + 1) = ((j + 1 : Nat) : Int) by unfold wrap64; omega]
                  simp [intOf]; omega
          · have e1 : decide ((j : Int) < (i : Int)) = false := by simp; omega
            have e1' : decide (j < i) = false := by simpa using hjn
            have HFA := hid (show got.all mayL = true by have h := HALL.out; rw [List.take_of_length_le (by rw [HGL.out]; omega)] at h; exact h)
            have HBW := hid (HB.out.trans (hbj.mono HB.out.size))
            have HKW := hid (HKG.out.next hbj)
            clear hj hbj hjn
            go_wp2_with fail
            go_ret2
            unfold RdecPost
            rw [HNS.out]
            refine ⟨HBW.out, ?_⟩
            show (if _ then _ else _)
            rw [if_pos ⟨HRZ.out, HFA.out⟩]
            exact ⟨_, _, _, rfl, HKW.out⟩
      · have e2 : ((a : Int) != (s.size : Int)) = true := by simp; omega
        have HRZ := hid (show ¬ ((s.extract a s.size).size = 0) by rw [ByteArray.size_extract]; omega)
        clear hlt hi has ha
        go_wp2_with fail
        go_ret2
        unfold RdecPost
        rw [HNS.out]
        refine ⟨HB.out, ?_⟩
        show (if _ then _ else _)
        rw [if_neg (fun h => HRZ.out h.1)]
        rfl
end Go.Proofs.Ytmhjoeegghnlhaa.Sc

/- ScaleDecodes walked. -/
namespace Go.Proofs.Ytmhjoeegghnlhaa
open Go.RowKit
open Go.Lib (hid)
open Go.ChangeShapes Go.WideShapes Go.Joins
open Go.Proofs.Ytmhjoeegghnlhaa.Ky Go.Proofs.Ytmhjoeegghnlhaa.Bk Go.Proofs.Ytmhjoeegghnlhaa.Sc

theorem be_num (l : List UInt8) : Fd.be l.length (Fd.num l) = l := by
  suffices H : ∀ k, k ≤ l.length → Fd.be k (Fd.num (l.take k)) = l.take k by
    have := H l.length (Nat.le_refl _)
    rwa [List.take_length] at this
  intro k
  induction k with
  | zero => intro _; simp [Fd.be]
  | succ k ih =>
    intro hk
    have e : l.take (k + 1) = l.take k ++ [l[k]] := by rw [List.take_succ_eq_append_getElem hk]
    rw [e, Fd.num_snoc]
    conv => rhs; rw [← ih (by omega)]
    generalize Fd.num (l.take k) = n
    generalize l[k] = b
    unfold Fd.be
    rw [List.range_succ, List.map_append, List.map_singleton]
    have hb := b.toNat_lt
    have e2 : Fd.beB (k + 1) (256 * n + b.toNat) k = b := by
      unfold Fd.beB
      rw [show k + 1 - 1 - k = 0 by omega, Nat.pow_zero, Nat.div_one]
      apply UInt8.toNat_inj.1
      rw [UInt8.toNat_ofNat']
      omega
    rw [e2]
    congr 1
    apply List.map_congr_left
    intro i hi
    rw [List.mem_range] at hi
    unfold Fd.beB
    rw [show k + 1 - 1 - i = (k - 1 - i) + 1 by omega, Nat.pow_succ, Nat.mul_comm (256 ^ _) 256, ← Nat.div_div_eq_div_mul]
    rw [show (256 * n + b.toNat) / 256 = n by omega]
theorem flat_pos (S : List UInt8) (a K : Nat) (h : a + 4 * K ≤ S.length) : (posL S a K).flatMap (Fd.be 4) = (S.drop a).take (4 * K) := by
  induction K with
  | zero => simp [posL]
  | succ k ih =>
    rw [posL_next, List.flatMap_append, ih (by omega)]
    have hl : ((S.drop (a + 4 * k)).take 4).length = 4 := by rw [List.length_take, List.length_drop]; omega
    have e : [Fd.num ((S.drop (a + 4 * k)).take 4)].flatMap (Fd.be 4) = (S.drop (a + 4 * k)).take 4 := by
      rw [List.flatMap_cons, List.flatMap_nil, List.append_nil]
      have := be_num ((S.drop (a + 4 * k)).take 4)
      rw [hl] at this
      exact this
    rw [e]
    rw [show 4 * (k + 1) = 4 * k + 4 by omega, List.take_add, List.drop_drop]
theorem rdR_all (s : ByteArray) (l : List Nat) (r : ByteArray) (h : rdR s = some (l, r)) : s.data.toList = encP l ++ r.data.toList := by
  have h0 : 0 < s.size := by
    rcases Nat.eq_zero_or_pos s.size with h0 | h0
    · unfold rdR at h; rw [dif_neg (by omega)] at h; cases h
    · exact h0
  have he : s.extract 0 s.size = s := by
    apply ByteArray.ext
    apply Array.toList_inj.1
    rw [ex_list, List.drop_zero, List.take_of_length_le (by rw [size_list]; omega)]
  by_cases h2 : 0 + 1 + 4 * s[0].toNat ≤ s.size
  · have h3 := rdR_some s 0 h0 h2
    rw [he, h] at h3
    injection h3 with h3
    injection h3 with h4 h5
    subst h4; subst h5
    unfold encP
    rw [posL_len, flat_pos _ _ _ (by rw [size_list]; omega), ex_list]
    have e1 : Fd.be 1 s[0].toNat = [s[0]] := by
      have := be_num [s[0]]
      simpa [Fd.num] using this
    have e2 : s.data.toList = s[0] :: s.data.toList.drop 1 := by
      have := List.drop_eq_getElem_cons (l := s.data.toList) (i := 0) (by rw [size_list]; exact h0)
      rw [List.drop_zero] at this
      exact this
    rw [e1]
    have e3 : s.data.toList.drop 1 = (s.data.toList.drop 1).take (4 * s[0].toNat) ++ (s.data.toList.drop 1).drop (4 * s[0].toNat) := (List.take_append_drop _ _).symm
    have e4 : List.take (s.size - (0 + 1 + 4 * s[0].toNat)) (List.drop (0 + 1 + 4 * s[0].toNat) s.data.toList) = (s.data.toList.drop 1).drop (4 * s[0].toNat) := by
      rw [List.take_of_length_le (by rw [List.length_drop, size_list]; omega), List.drop_drop]
    rw [e4]
    conv => lhs; rw [e2, e3]
    rw [List.append_assoc]
    rfl
  · have h3 := rdR_cut s 0 h0 (by omega)
    rw [he, h] at h3; cases h3
theorem decN_all (n : Nat) (s : ByteArray) (bs : List (List Nat)) (r : ByteArray) (h : decN n s = some (bs, r)) : s.data.toList = encS bs ++ r.data.toList := by
  induction n generalizing s bs with
  | zero =>
    rw [decN] at h
    injection h with h
    injection h with h1 h2
    subst h1; subst h2
    simp [encS]
  | succ n ih =>
    rw [decN] at h
    cases hr : rdR s with
    | none => rw [hr] at h; cases h
    | some x =>
      obtain ⟨l, r1⟩ := x
      rw [hr] at h
      simp only [Option.map_eq_some_iff] at h
      obtain ⟨⟨bs1, r2⟩, h1, h2⟩ := h
      injection h2 with h3 h4
      subst h3; subst h4
      rw [rdR_all s l r1 hr, ih r1 bs1 h1]
      unfold encS
      rw [List.flatMap_cons, List.append_assoc]
set_option maxRecDepth 100000 in
set_option maxHeartbeats 1000000 in
theorem decode_bad (d : Int) (s : ByteArray) (w : World) (h : d < 1 ∨ 6 < d) : Calls Try.prog 30 #[.int .i64 d, .string s] w fun e w' => e = .returned (.tuple #[.pointer none, .int .i64 1]) ∧ Below w.heap.size w w' := by
  have HN := hid fun (V : World) => new_bad d V h
  go_enter Try.func30, Try.ntmps30
  go_wp2_with fail
  refine (HN.out _).mono ?_
  rintro e w1 ⟨rfl, rfl⟩
  have HB := hid (below_alloc w (.cells #[.pointer none] 23))
  have y0 : (w.alloc (.cells #[.pointer none] 23)).cell? ⟨w.heap.size, 0, none⟩ = some (.pointer none) := by rw [cell_of_row _ _ _ _ _ _ (heap_alloc_new w _)]; rfl
  go_wp2_with fail
  go_ret2
  first | exact ⟨rfl, HB.out⟩ | exact ⟨rfl, Below.refl _ _⟩
set_option maxRecDepth 100000 in
set_option maxHeartbeats 1000000 in
theorem rdecode_bad (d : Int) (s : ByteArray) (w : World) (h : d < 1 ∨ 6 < d) : Calls Try.prog 31 #[.int .i64 d, .string s] w fun e w' => e = .returned (.tuple #[.pointer none, .int .i64 1]) ∧ Below w.heap.size w w' := by
  have HN := hid fun (V : World) => rnew_bad d V h
  go_enter Try.func31, Try.ntmps31
  go_wp2_with fail
  refine (HN.out _).mono ?_
  rintro e w1 ⟨rfl, rfl⟩
  go_wp2_with fail
  go_ret2
  exact ⟨rfl, Below.refl _ _⟩
set_option maxRecDepth 100000 in
set_option maxHeartbeats 8000000 in
theorem ScaleDecodes_walk (d : Int) (s : ByteArray) (w : World) (_ : (Lit.int .i64 d).wf = true) (_ : s.size ≤ maxLen) :
    Calls Try.prog 4 #[.int .i64 d, .string s] w fun e w' => e = .returned (.bool true) ∧ Below w.heap.size w w' := by
  by_cases hs : 2000 < s.size
  · have e1 : decide ((2000 : Int) < (s.size : Int)) = true := decide_eq_true (by omega)
    have e1' : decide (2000 < s.size) = true := decide_eq_true hs
    clear hs
    go_enter Try.func4, Try.ntmps4
    go_wp2_with fail
    refine (live_any _).mono ?_
    rintro e w2 ⟨rfl, hb⟩
    have H2 := hid hb; clear hb
    go_wp2_with fail
    go_ret
    exact ⟨rfl, H2.out⟩
  · have e1 : decide ((2000 : Int) < (s.size : Int)) = false := decide_eq_false (by omega)
    have e1' : decide (2000 < s.size) = false := decide_eq_false hs
    by_cases hd : d < 1 ∨ 6 < d
    · have HN := hid fun (V : World) => decode_bad d s V hd
      have HK := hid fun (V : World) => rdecode_bad d s V hd
      clear hs hd
      go_enter Try.func4, Try.ntmps4
      go_wp2_with fail
      refine (HN.out _).mono ?_
      rintro e w1 ⟨rfl, hb⟩
      have H1 := hid hb; clear hb
      go_wp2_with fail
      refine (HK.out _).mono ?_
      rintro e w2 ⟨rfl, hb⟩
      have H2 := hid (H1.out.trans (hb.mono H1.out.size)); clear hb
      go_wp2_with fail
      refine (live_any _).mono ?_
      rintro e w3 ⟨rfl, hb⟩
      have H3 := hid (H2.out.trans (hb.mono H2.out.size)); clear hb
      go_wp2_with fail
      go_ret
      exact ⟨rfl, H3.out⟩
    · obtain ⟨D, rfl⟩ : ∃ D : Nat, d = (D : Int) := ⟨d.toNat, by omega⟩
      have HN := hid fun (V : World) => decode_ok D s V (by omega) (by omega)
      have HK := hid fun (V : World) => rdecode_ok D s V (by omega) (by omega)
      unfold DecPost at HN
      unfold RdecPost at HK
      clear hs hd
      cases hd : decN D s with
      | none =>
        rw [hd] at HN HK
        clear hd
        go_enter Try.func4, Try.ntmps4
        go_wp2_with fail
        refine (HN.out _).mono ?_
        rintro e w1 ⟨hb, he⟩
        replace he : e = .returned (.tuple #[.pointer none, .int .i64 9]) := he
        subst he
        have H1 := hid hb; clear hb
        go_wp2_with fail
        refine (HK.out _).mono ?_
        rintro e w2 ⟨hb, he⟩
        replace he : e = .returned (.tuple #[.pointer none, .int .i64 9]) := he
        subst he
        have H2 := hid (H1.out.trans (hb.mono H1.out.size)); clear hb
        go_wp2_with fail
        refine (live_any _).mono ?_
        rintro e w3 ⟨rfl, hb⟩
        have H3 := hid (H2.out.trans (hb.mono H2.out.size)); clear hb
        go_wp2_with fail
        go_ret
        exact ⟨rfl, H3.out⟩
      | some x =>
        obtain ⟨bs, r⟩ := x
        rw [hd] at HN HK
        by_cases hc : r.size = 0 ∧ bs.all mayL = true
        · have HEQ := hid (show (⟨(encS bs).toArray⟩ : ByteArray) = s by
            have h1 := decN_all D s bs r hd
            have h2 : r.data.toList = [] := List.eq_nil_of_length_eq_zero (by rw [size_list]; exact hc.1)
            rw [h2, List.append_nil] at h1
            apply ByteArray.ext
            apply Array.toList_inj.1
            rw [h1])
          have HC := hid hc
          clear hd hc
          go_enter Try.func4, Try.ntmps4
          go_wp2_with fail
          refine (HN.out _).mono ?_
          rintro e w1 ⟨hb, he⟩
          have he2 : (if r.size = 0 ∧ bs.all mayL = true then ∃ b R vs, e = .returned (.tuple #[.pointer (some ⟨b, 0, none⟩), .int .i64 0]) ∧ Sc w.heap.size w1 b R vs bs else e = .returned (.tuple #[.pointer none, .int .i64 6])) := he
          rw [if_pos HC.out] at he2
          obtain ⟨b, R, vs, rfl, hsc⟩ := he2
          have H1 := hid hb
          have HS1 := hid hsc
          clear hb he hsc
          go_wp2_with fail
          refine (HK.out _).mono ?_
          rintro e w2 ⟨hb, he⟩
          have he2 : (if r.size = 0 ∧ bs.all mayL = true then ∃ b R us, e = .returned (.tuple #[.pointer (some ⟨b, 0, none⟩), .int .i64 0]) ∧ Rk w1.heap.size w2 b R us bs else e = .returned (.tuple #[.pointer none, .int .i64 6])) := he
          rw [if_pos HC.out] at he2
          obtain ⟨b', R', us, rfl, hrk⟩ := he2
          have H2 := hid (H1.out.trans (hb.mono H1.out.size))
          have HS2 := hid (HS1.out.next hb)
          have HK2 := hid hrk
          clear hb he hrk HS1 H1
          have HEN := hid (encode_ok _ b R vs bs w2 HS2.out)
          rw [HEQ.out] at HEN
          go_wp2_with fail
          refine HEN.out.mono ?_
          rintro e w3 ⟨rfl, hb⟩
          have H3 := hid (H2.out.trans (hb.mono H2.out.size))
          have HS3 := hid (HS2.out.next hb)
          have HK3 := hid (HK2.out.next hb)
          clear hb HS2 HK2 H2 HEN
          go_wp2_with fail
          refine (sizes_ok _ b R vs bs w3 HS3.out).mono ?_
          rintro e w4 ⟨g, rfl, hg, _, hb⟩
          have H4 := hid (H3.out.trans (hb.mono H3.out.size))
          have HG4 := hid hg
          have HK4 := hid (HK3.out.next hb)
          clear hb hg HS3 HK3 H3
          go_wp2_with fail
          refine (rsizes_ok _ b' R' us bs w4 HK4.out).mono ?_
          rintro e w5 ⟨p, c, rfl, hr, hb⟩
          have H5 := hid (H4.out.trans (hb.mono H4.out.size))
          have HRD := hid (And.intro (row_rd ((hb.block _ (lt_of HG4.out)).trans HG4.out)) hr)
          have HDM := hid HK4.out.dim
          clear hb hr HG4 HK4 H4
          have HSI := hid (same_ints (sizeL bs) (some ⟨g, 0, none⟩) p bs.length c w5 HRD.out.1 HRD.out.2 (by have := HDM.out; unfold sizeL; rw [List.length_map]; omega))
          rw [show (sizeL bs).length = bs.length by simp [sizeL]] at HSI
          go_wp2_with fail
          refine HSI.out.mono ?_
          rintro e w6 ⟨rfl, hb⟩
          have H6 := hid (H5.out.trans (hb.mono H5.out.size))
          clear hb H5 HSI HRD
          go_wp2_with fail
          refine (live_any _).mono ?_
          rintro e w7 ⟨rfl, hb⟩
          have H7 := hid (H6.out.trans (hb.mono H6.out.size)); clear hb
          go_wp2_with fail
          go_ret
          exact ⟨rfl, H7.out⟩
        · have HC := hid hc
          clear hd hc
          go_enter Try.func4, Try.ntmps4
          go_wp2_with fail
          refine (HN.out _).mono ?_
          rintro e w1 ⟨hb, he⟩
          have he2 : (if r.size = 0 ∧ bs.all mayL = true then ∃ b R vs, e = .returned (.tuple #[.pointer (some ⟨b, 0, none⟩), .int .i64 0]) ∧ Sc w.heap.size w1 b R vs bs else e = .returned (.tuple #[.pointer none, .int .i64 6])) := he
          rw [if_neg HC.out] at he2
          clear he
          subst he2
          have H1 := hid hb
          clear hb
          go_wp2_with fail
          refine (HK.out _).mono ?_
          rintro e w2 ⟨hb, he⟩
          have he2 : (if r.size = 0 ∧ bs.all mayL = true then ∃ b R us, e = .returned (.tuple #[.pointer (some ⟨b, 0, none⟩), .int .i64 0]) ∧ Rk w1.heap.size w2 b R us bs else e = .returned (.tuple #[.pointer none, .int .i64 6])) := he
          rw [if_neg HC.out] at he2
          clear he
          subst he2
          have H2 := hid (H1.out.trans (hb.mono H1.out.size)); clear hb
          go_wp2_with fail
          refine (live_any _).mono ?_
          rintro e w3 ⟨rfl, hb⟩
          have H3 := hid (H2.out.trans (hb.mono H2.out.size)); clear hb
          go_wp2_with fail
          go_ret
          exact ⟨rfl, H3.out⟩
end Go.Proofs.Ytmhjoeegghnlhaa

