/- Merged out of PpLay, PpNew, PpPl, PpFmt, PpHead, PpOpen. -/
import Derived.Test.YtgihpdhkjneimaaGreatDoorP17
import Derived.Test.YtgihpdhkjneimaaGreatDoorP16
import Derived.Test.YtgihpdhkjneimaaGreatDoorP18
import Derived.Deep.RegionHeld3
/- Pages are laid to their places: all but the first, then the first. -/
namespace Go.Proofs.YtgihpdhkjneimaaGreatDoor.Pp
open Go.RowKit
open Go.Lib (hid)
open Go.Proofs.YtgihpdhkjneimaaGreatDoor.Dk
open Go.Proofs.YtgihpdhkjneimaaGreatDoor.Jn
open Go.Proofs.YtgihpdhkjneimaaGreatDoor.En (Lst PageT Pgs)
/-- behind the writes of pages, one after another, and a flush; ended by the first error -/
noncomputable def putS (s : St) : List PageT → Bool × St
  | [] => (true, (flU s).2)
  | q :: L => if (wrP s q).1 = true then putS (wrP s q).2 L else (false, (wrP s q).2)
theorem putS_cons (s : St) (q : PageT) (L : List PageT) : putS s (q :: L) = if (wrP s q).1 = true then putS (wrP s q).2 L else (false, (wrP s q).2) := rfl
noncomputable def layS (s : St) (L : List PageT) : Bool × St := if (putS s L.tail).1 = true then putS (putS s L.tail).2 (L.take 1) else (false, (putS s L.tail).2)
theorem few_putS {L : List PageT} : ∀ {s : St} {k : Nat}, Few s k → Few (putS s L).2 (k + L.length + 1) := by
  induction L with
  | nil => intro s k h; exact few_fl h
  | cons q L ih =>
    intro s k h
    unfold putS
    split
    · have := ih (few_wrP h q)
      rw [show k + (q :: L).length + 1 = k + 1 + L.length + 1 by simp; omega]; exact this
    · exact few_up (few_wrP h q) (by simp)
theorem putS_len {L : List PageT} : ∀ {s : St}, (putS s L).2.pages.length = s.pages.length := by
  induction L with
  | nil => intro s; exact fl_len s
  | cons q L ih =>
    intro s
    unfold putS
    split
    · rw [ih, wrP_len]
    · exact wrP_len _ _
theorem layS_len {L : List PageT} {s : St} : (layS s L).2.pages.length = s.pages.length := by
  unfold layS
  split
  · rw [putS_len, putS_len]
  · exact putS_len
theorem few_layS {L : List PageT} {s : St} {k : Nat} (h : Few s k) : Few (layS s L).2 (k + L.length + 3) := by
  unfold layS
  have h1 := few_putS (L := L.tail) h
  have hl : L.tail.length ≤ L.length := by simp
  split
  · have h2 := few_putS (L := L.take 1) h1
    have h3 : (L.take 1).length ≤ 1 := by simp; omega
    have h4 : L.tail.length + (L.take 1).length ≤ L.length := by cases L <;> simp
    exact few_up h2 (by omega)
  · exact few_up h1 (by omega)
section
variable {K : Nat → Prop} {D : Nat} {w : World} {s : St}
set_option maxRecDepth 100000 in
set_option maxHeartbeats 4000000 in
theorem put_ok (h : Cd K D w s) {k : Nat} (hf : Few s k) (B : Nat) (hB : w.cell? ⟨B, 0, none⟩ = some (.pointer (some ⟨D, 0, none⟩))) (kB : K B) (L : List PageT) (p : Option Addr) (c : Nat) (hk : k + L.length + 10 < 1000000) (hp : Pgs w p L) (hK : ∀ g off, p = some ⟨g, off, none⟩ → 0 < L.length → K g) :
    Calls Tryz.prog 93 #[.slice p L.length c, .pointer (some ⟨B, 0, none⟩)] w fun e w' => e = .returned (.bool (putS s L).1) ∧ Cd K D w' (putS s L).2 ∧ KS K w w' := by
  obtain ⟨n, hn⟩ : ∃ n, L.length = n := ⟨_, rfl⟩
  have HP := hid hp; have HN := hid hn; have HK := hid hK; have HC := hid h; have HF := hid hf; have HKM := hid hk
  have HBC := hid fun (V : World) (hV : KS K w V) => (ks_cell hV (i := 0) kB (h.lt B kB)).trans hB
  have HKBB := hid kB
  rw [hn]
  clear hp hn hK h hf hk hB
  go_enter Tryz.func93, Tryz.ntmps93
  go_wp2_with fail
  go_loopw [8] (fun i wr => ∃ (j : Nat) (t : St), i = .int .i64 j ∧ j ≤ n ∧ Cd K D wr t ∧ KS K w wr ∧ Few t (k + j) ∧ putS t (L.drop j) = putS s L) (fun i _ => n - (intOf i).toNat)
  case atStart => exact ⟨0, s, rfl, Nat.zero_le _, HC.out, KS.refl _ _, HF.out, rfl⟩
  case round =>
    obtain ⟨j, t, rfl, hj, hc, hks, hft, he⟩ := hrel
    have HT := hid hc; have HS := hid hks; have HFT := hid hft; have HE := hid he
    have x0 := HBC.out _ hks
    clear hc hks hft he
    by_cases hlt : j < n
    · have hjL : j < L.length := by rw [HN.out]; exact hlt
      obtain ⟨b, off, rfl, hbl, d0, d1, d2⟩ := (pgs_ks HP.out HS.out HK.out) j hjL
      have HI := hid hlt
      have HD := hid (show L.drop j = L[j]'hjL :: L.drop (j + 1) from List.drop_eq_getElem_cons hjL)
      rw [HD.out, putS_cons] at HE
      obtain ⟨q, hq⟩ : ∃ q, L[j]'hjL = q := ⟨_, rfl⟩
      rw [hq] at HE d0 d1 d2
      have HB1 := hid ((Below.refl wr.heap.size wr).alloc (Nat.le_refl _) (.cells #[.int .i64 q.1, .int .i64 q.2.1, .string q.2.2] 69))
      have x1 : (wr.alloc (.cells #[.int .i64 q.1, .int .i64 q.2.1, .string q.2.2] 69)).cell? ⟨B, 0, none⟩ = some (.pointer (some ⟨D, 0, none⟩)) := (HB1.out.cell (p := ⟨B, 0, none⟩) (HT.out.lt B HKBB.out)).trans x0
      have HW := hid (write_ok (HT.out.next HB1.out) HFT.out (by have := HKM.out; have := HN.out; omega) q)
      have HFW := hid (few_wrP HFT.out q)
      have HJ := hid (show wrap64 ((j : Int) + 1) = ((j + 1 : Nat) : Int) from Go.IntWalk.wrap64_in _ (by have := HKM.out; have := HN.out; omega))
      clear HD hq
      cases hr : (wrP t q).1 with
      | true =>
        rw [hr, if_pos rfl] at HE
        rw [hr] at HW
        generalize (wrP t q).2 = t' at *
        clear hr
        go_wp2_with fail
        refine HW.out.mono ?_
        rintro e w3 ⟨rfl, hc, hks⟩
        have HT3 := hid hc
        have HS3 := hid (HS.out.trans ((KS.of HB1.out).trans hks))
        clear hc hks x0 x1 d0 d1 d2
        go_wp2_with fail
        go_roundw
        case rel => exact ⟨j + 1, t', by first | (rw [HJ.out]) | go_num, HI.out, HT3.out, HS3.out, HFW.out, HE.out⟩
        case measure => have := HI.out; (first | (rw [HJ.out]; simp [intOf]; omega) | (simp [intOf]; omega))
      | false =>
        rw [hr, if_neg (by decide)] at HE
        rw [hr] at HW
        generalize (wrP t q).2 = t' at *
        clear hr
        go_wp2_with fail
        refine HW.out.mono ?_
        rintro e w3 ⟨rfl, hc, hks⟩
        have HT3 := hid hc
        have HS3 := hid (HS.out.trans ((KS.of HB1.out).trans hks))
        clear hc hks x0 x1 d0 d1 d2
        go_wp2_with fail
        go_ret
        exact ⟨by rw [← HE.out]; rfl, by rw [← HE.out]; exact HT3.out, HS3.out⟩
    · obtain rfl : j = n := by omega
      have HE2 := hid (show putS s L = (true, (flU t).2) by rw [← HE.out, List.drop_of_length_le (by rw [HN.out]; exact Nat.le_refl _)]; rfl)
      have HFL := hid (HT.out.flush HFT.out (by have := HKM.out; have := HN.out; omega))
      generalize (flU t).2 = t' at *
      generalize (flU t).1 = c' at *
      go_wp2_with fail
      refine HFL.out.mono ?_
      rintro e w3 ⟨rfl, hc, hks⟩
      have HT3 := hid hc
      have HS3 := hid (HS.out.trans hks)
      clear hc hks x0
      go_wp2_with fail
      go_ret
      exact ⟨by rw [HE2.out]; rfl, by rw [HE2.out]; exact HT3.out, HS3.out⟩
theorem pgs_tail {w : World} {b off : Nat} {q : PageT} {L : List PageT} (h : Pgs w (some ⟨b, off, none⟩) (q :: L)) : Pgs w (some ⟨b, off + 3, none⟩) L := fun i hi => by
  obtain ⟨b', off', e, hl, c0, c1, c2⟩ := h (i + 1) (by simpa using hi)
  cases e
  refine ⟨b, off + 3, rfl, hl, ?_, ?_, ?_⟩
  · rw [show off + 3 + i * 3 = off + (i + 1) * 3 by omega]; exact c0
  · rw [show off + 3 + i * 3 = off + (i + 1) * 3 by omega]; exact c1
  · rw [show off + 3 + i * 3 = off + (i + 1) * 3 by omega]; exact c2
theorem pgs_head {w : World} {p : Option Addr} {q : PageT} {L : List PageT} (h : Pgs w p (q :: L)) : Pgs w p [q] := fun i hi => by
  obtain rfl : i = 0 := by simpa using hi
  exact h 0 (by simp)
set_option maxRecDepth 100000 in
set_option maxHeartbeats 4000000 in
theorem lay_ok (h : Cd K D w s) {k : Nat} (hf : Few s k) (L : List PageT) (p : Option Addr) (c : Nat) (h0 : 0 < L.length) (hc : L.length ≤ c) (hc2 : c ≤ 9223372036854775807) (hk : k + L.length + 20 < 1000000) (hp : Pgs w p L) (hK : ∀ g off, p = some ⟨g, off, none⟩ → 0 < L.length → K g) :
    Calls Tryz.prog 50 #[.pointer (some ⟨D, 0, none⟩), .slice p L.length c] w fun e w' => e = .returned (.bool (layS s L).1) ∧ Cd K D w' (layS s L).2 ∧ KS K w w' := by
  obtain ⟨q, M, rfl⟩ : ∃ q M, L = q :: M := by cases L with | nil => exact absurd h0 (by simp) | cons q M => exact ⟨q, M, rfl⟩
  obtain ⟨b, off, rfl, hbl, -⟩ := hp 0 (by simp)
  have kb := hK b off rfl (by simp)
  have HB0 := hid ((Below.refl w.heap.size w).alloc (Nat.le_refl _) (.cells #[.pointer (some ⟨D, 0, none⟩)] 24))
  have hx := heap_alloc_new w (.cells #[.pointer (some ⟨D, 0, none⟩)] 24)
  have HX := hid hx
  have hx0 : (w.alloc (.cells #[.pointer (some ⟨D, 0, none⟩)] 24)).cell? ⟨w.heap.size, 0, none⟩ = some (.pointer (some ⟨D, 0, none⟩)) := by rw [cell_of_row _ _ _ _ _ _ hx]; rfl
  have HC1 := hid (cd_add h HB0.out (Nat.le_refl _) (Array.getElem?_eq_some_iff.1 hx).1)
  have HPT := hid (pgs_tail hp)
  have HPH := hid (pgs_head hp)
  have HKB := hid kb
  have HT := hid fun (p' : Option Addr) (c' : Nat) (h1 : Pgs (w.alloc (.cells #[.pointer (some ⟨D, 0, none⟩)] 24)) p' M) (h2 : ∀ g off, p' = some ⟨g, off, none⟩ → 0 < M.length → K g) => put_ok (c := c') HC1.out hf w.heap.size hx0 (.inr rfl) M p' (by simp at hk; omega) h1 (fun g o e h0 => .inl (h2 g o e h0))
  have HPT0 := hid (HPT.out.below HB0.out)
  have HFT := hid (few_putS (L := M) hf)
  have HNM := hid (show M.length + 1 ≤ c by simpa using hc)
  have HKM := hid (show k + M.length + 20 < 1000000 by simp at hk; omega)
  have hl : (q :: M).length = M.length + 1 := rfl
  rw [hl]
  have e0 : layS s (q :: M) = if (putS s M).1 = true then putS (putS s M).2 [q] else (false, (putS s M).2) := rfl
  rw [e0]
  have HX0 := hid hx0
  clear h hf hc hp hK hx hx0 h0 hk hbl kb e0 hl
  obtain ⟨n, hn⟩ : ∃ n, M.length = n := ⟨_, rfl⟩
  have HN := hid hn
  have hnc : n + 1 ≤ c := by rw [← hn]; exact HNM.out
  rw [hn] at HT ⊢
  clear hn
  have HNC := hid hnc
  cases hr : (putS s M).1 with
  | true =>
    rw [if_pos rfl]
    rw [hr] at HT
    generalize (putS s M).2 = t at *
    clear hr
    go_enter Tryz.func50, Tryz.ntmps50
    go_wp2_with fail
    all_goals
      refine (HT.out _ _ (by first | exact HPT0.out | exact fun i hi => absurd hi (by have := HN.out; have := HNC.out; omega)) (fun g off' e _ => by cases e; exact HKB.out)).mono ?_
      rintro e w2 ⟨rfl, hc, hks⟩
      have HC2 := hid hc
      have HK2 := hid hks
      have HS2 := hid ((KS.of (K := K) HB0.out).trans (KS.less hks fun j e => .inl e))
      have HX2 := hid ((ks_cell hks (i := 0) (.inr rfl) (HC1.out.lt _ (.inr rfl))).trans HX0.out)
      have HP2 := hid (pgs_ks (HPH.out.below HB0.out) hks (fun g off' e _ => by cases e; exact .inl HKB.out))
      have HT2 := hid fun (c' : Nat) => (put_ok (c := c') HC2.out HFT.out w.heap.size HX2.out (.inr rfl) [q] (some ⟨b, off, none⟩) (by have := HKM.out; have := HN.out; simp; omega) HP2.out (fun g o e _ => by cases e; exact .inl HKB.out))
      clear hc hks
      go_wp2_with fail
      refine (HT2.out _).mono ?_
      rintro e w3 ⟨rfl, hc, hks⟩
      have HC3 := hid (hc.less (K' := K) fun j e => .inl e)
      have HS3 := hid (HS2.out.trans (KS.less hks fun j e => .inl e))
      clear hc hks
      go_wp2_with fail
      go_ret
      exact ⟨rfl, HC3.out, HS3.out⟩
  | false =>
    rw [if_neg (by decide)]
    rw [hr] at HT
    generalize (putS s M).2 = t at *
    clear hr
    go_enter Tryz.func50, Tryz.ntmps50
    go_wp2_with fail
    all_goals
      refine (HT.out _ _ (by first | exact HPT0.out | exact fun i hi => absurd hi (by have := HN.out; have := HNC.out; omega)) (fun g off' e _ => by cases e; exact HKB.out)).mono ?_
      rintro e w2 ⟨rfl, hc, hks⟩
      have HC2 := hid (hc.less (K' := K) fun j e => .inl e)
      have HS2 := hid ((KS.of (K := K) HB0.out).trans (KS.less hks fun j e => .inl e))
      clear hc hks
      go_wp2_with fail
      go_ret
      exact ⟨rfl, HC2.out, HS2.out⟩
end
end Go.Proofs.YtgihpdhkjneimaaGreatDoor.Pp

/- A pager in memory; Format. -/
namespace Go.Proofs.YtgihpdhkjneimaaGreatDoor.Pp
open Go.RowKit
open Go.Lib (hid)
open Go.Proofs.YtgihpdhkjneimaaGreatDoor.Dk
open Go.Proofs.YtgihpdhkjneimaaGreatDoor.Jn
open Go.Proofs.YtgihpdhkjneimaaGreatDoor.En (Lst PageT Pgs)
/-- a pager at P: its journal, disk, room, pages, and has it died? -/
def PAt (w : World) (P J D : Nat) (r : Nat) (v : Value) (died : Bool) : Prop := w.heap[P]? = some (.cells #[.pointer (some ⟨J, 0, none⟩), .pointer (some ⟨D, 0, none⟩), .int .i64 (r : Int), v, .bool died] 92 (0, 0))
theorem PAt.cells {w : World} {P J D r : Nat} {v : Value} {died : Bool} (h : PAt w P J D r v died) : w.cell? ⟨P, 0, none⟩ = some (.pointer (some ⟨J, 0, none⟩)) ∧ w.cell? ⟨P, 1, none⟩ = some (.pointer (some ⟨D, 0, none⟩)) ∧ w.cell? ⟨P, 2, none⟩ = some (.int .i64 (r : Int)) ∧ w.cell? ⟨P, 3, none⟩ = some v ∧ w.cell? ⟨P, 4, none⟩ = some (.bool died) :=
  ⟨by rw [cell_of_row _ _ _ _ _ _ h]; rfl, by rw [cell_of_row _ _ _ _ _ _ h]; rfl, by rw [cell_of_row _ _ _ _ _ _ h]; rfl, by rw [cell_of_row _ _ _ _ _ _ h]; rfl, by rw [cell_of_row _ _ _ _ _ _ h]; rfl⟩
theorem PAt.lt {w : World} {P J D r : Nat} {v : Value} {died : Bool} (h : PAt w P J D r v died) : P < w.heap.size := (Array.getElem?_eq_some_iff.1 h).1
theorem PAt.below {w w' : World} {P J D r : Nat} {v : Value} {died : Bool} (h : PAt w P J D r v died) (hb : Below w.heap.size w w') : PAt w' P J D r v died := (hb.block P h.lt).trans h
theorem PAt.ks {K : Nat → Prop} {w w' : World} {P J D r : Nat} {v : Value} {died : Bool} (h : PAt w P J D r v died) (hk : KS K w w') (kP : K P) : PAt w' P J D r v died := (hk.block P h.lt kP).trans h
/-- a pager on its disk, apart from K's blocks but for those that it stands on; it has pages L -/
structure Pr (K : Nat → Prop) (P J D : Nat) (w : World) (s : St) (b n t : Nat) (L : List PageT) : Prop where
  jk : Jk K J D w s b n t
  kP : K P
  ne : P ≠ J
  at_ : ∃ q c, PAt w P J D (b - 1) (.slice q L.length c) false ∧ Pgs w q L ∧ ∀ g off, q = some ⟨g, off, none⟩ → 0 < L.length → K g
section
variable {K : Nat → Prop} {P J D b n t r : Nat} {w w' : World} {s : St} {L : List PageT}
theorem Pr.next (h : Pr K P J D w s b n t L) (hb : Below w.heap.size w w') : Pr K P J D w' s b n t L := by
  obtain ⟨q, c, h1, h2, h3⟩ := h.at_
  exact ⟨h.jk.next hb, h.kP, h.ne, q, c, h1.below hb, h2.below hb, h3⟩
theorem cd_counts (h : Cd K D w s) : Calls Tryz.prog 30 #[.pointer (some ⟨D, 0, none⟩)] w fun e w' => e = .returned (.tuple #[.int .i64 s.reads, .int .i64 s.writes, .int .i64 s.flushes]) ∧ Below w.heap.size w w' := by
  obtain ⟨a, rfl, hd, _⟩ := h.ex
  refine (counts_ok a s w hd).mono ?_
  rintro e w' ⟨rfl, m, rfl⟩
  exact ⟨rfl, ⟨rfl, rfl, rfl, Nat.le_refl _, fun _ _ => rfl⟩⟩
set_option maxHeartbeats 1000000 in
theorem may_nil (l : Int) (w : World) : Calls Tryz.prog 35 #[.pointer none, .int .i64 l] w fun e w' => e = .returned (.bool false) ∧ w' = w := by
  go_enter Tryz.func35, Tryz.ntmps35
  go_wp2_with fail
  go_ret
  exact ⟨rfl, rfl⟩
set_option maxHeartbeats 1000000 in
theorem may_any (h : Cd K D w s) (l : Int) (r : Bool) (hr : r = true ↔ 2 ≤ l ∧ l ≤ 900 ∧ 2 ≤ (s.pages.length : Int) - l) :
    Calls Tryz.prog 35 #[.pointer (some ⟨D, 0, none⟩), .int .i64 l] w fun e w' => e = .returned (.bool r) ∧ w' = w := by
  have HS := hid (size_cd h)
  have hm := h.good.n2
  obtain ⟨m, hmm⟩ : ∃ m, s.pages.length = m := ⟨_, rfl⟩
  rw [hmm] at HS hm hr
  clear h hmm
  by_cases h1 : 2 ≤ l
  · have e1 : decide (2 ≤ l) = true := decide_eq_true h1
    by_cases h2 : l ≤ 900
    · have e2 : decide (l ≤ 900) = true := decide_eq_true h2
      have hrr : r = decide (2 ≤ (m : Int) - l) := by
        rw [Bool.eq_iff_iff, hr]; simp [h1, h2]
      have k2 : wrap64 ((m : Int) - l) = (m : Int) - l := by unfold wrap64; omega
      subst hrr
      clear hr h1 h2 hm
      go_enter Tryz.func35, Tryz.ntmps35
      go_wp2_with (go_at_call 75; refine HS.out.mono ?_; rintro e w' ⟨rfl, hw⟩; obtain rfl := hw.symm)
      go_ret
      exact ⟨rfl, rfl⟩
    · have e2 : decide (l ≤ 900) = false := decide_eq_false h2
      have hrr : r = false := by cases r with | false => rfl | true => exact absurd (hr.1 rfl).2.1 h2
      subst hrr
      clear hr h1 h2 hm
      go_enter Tryz.func35, Tryz.ntmps35
      go_wp2_with fail
      go_ret
      exact ⟨rfl, rfl⟩
  · have e1 : decide (2 ≤ l) = false := decide_eq_false h1
    have hrr : r = false := by cases r with | false => rfl | true => exact absurd (hr.1 rfl).1 h1
    subst hrr
    clear hr h1 hm
    go_enter Tryz.func35, Tryz.ntmps35
    go_wp2_with fail
    go_ret
    exact ⟨rfl, rfl⟩
set_option maxRecDepth 100000 in
set_option maxHeartbeats 2000000 in
theorem on_ok (h : Cd K D w s) (hL : Lst w) (k0 : K 0) (b n t : Nat) (ok : JOk b n t) (hb1 : 1 ≤ b) (hp : b + n = s.pages.length) :
    Calls Tryz.prog 36 #[.pointer (some ⟨D, 0, none⟩), .int .i64 (n : Int), .int .i64 (t : Int)] w fun e w' => ∃ P J, e = .returned (.pointer (some ⟨P, 0, none⟩)) ∧ J = w.heap.size ∧ w.heap.size < P ∧ Pr (fun j => (K j ∨ j = J) ∨ j = P) P J D w' s b n t [] ∧ Below w.heap.size w w' := by
  have HS := hid (size_cd h)
  have HJ := hid (jnew_jk h hL k0 b n t ok (by omega))
  rw [← hp] at HS
  have hm := h.good.n2
  have hn2 := ok.n2
  have hn9 := ok.n9
  have hbn := ok.bn
  have k2 : wrap64 (((b + n : Nat) : Int) - (n : Int)) = (b : Int) := by unfold wrap64; omega
  have k3 : wrap64 ((b : Int) - 1) = ((b - 1 : Nat) : Int) := by unfold wrap64; omega
  have k4 : wrap64 ((b : Int) + (n : Int) - (n : Int)) = (b : Int) := by unfold wrap64; omega
  clear h hL ok hp
  go_enter Tryz.func36, Tryz.ntmps36
  go_wp2_with fail
  refine HS.out.mono ?_
  rintro e w' ⟨rfl, hw⟩
  obtain rfl := hw.symm
  go_wp2_with fail
  refine HJ.out.mono ?_
  rintro e w2 ⟨rfl, hj, hb⟩
  have HJ2 := hid hj
  have HB2 := hid hb
  have HLT := hid hj.j.lt
  clear hj hb
  go_wp2_with fail
  have e5 : (b : Int) - 1 = ((b - 1 : Nat) : Int) := by omega
  rw [e5]
  go_ret
  have hb := (Below.refl w2.heap.size w2).alloc (Nat.le_refl _) (.cells #[.pointer (some ⟨w.heap.size, 0, none⟩), .pointer (some ⟨D, 0, none⟩), .int .i64 ((b - 1 : Nat) : Int), .slice none 0 0, .bool false] 92)
  have hx : PAt (w2.alloc (.cells #[.pointer (some ⟨w.heap.size, 0, none⟩), .pointer (some ⟨D, 0, none⟩), .int .i64 ((b - 1 : Nat) : Int), .slice none 0 0, .bool false] 92)) w2.heap.size w.heap.size D (b - 1) (.slice none 0 0) false := heap_alloc_new _ _
  exact ⟨w2.heap.size, w.heap.size, rfl, rfl, HLT.out, ⟨⟨cd_add HJ2.out.cd hb (Nat.le_refl _) hx.lt, .inl HJ2.out.kJ, .inl HJ2.out.k0, HJ2.out.j.below hb, HJ2.out.lst.next HJ2.out.lst.pos hb⟩, .inr rfl, (by have := HLT.out; omega), none, 0, hx, (fun i hi => absurd hi (Nat.not_lt_zero i)), (fun g off e => nomatch e)⟩, HB2.out.trans (hb.mono HB2.out.size)⟩
set_option maxHeartbeats 1000000 in
theorem made_ok {v : Value} {died : Bool} (h : PAt w P J D r v died) : Calls Tryz.prog 45 #[.pointer (some ⟨P, 0, none⟩)] w fun e w' => e = .returned (.bool true) ∧ w' = w := by
  obtain ⟨c0, c1, c2, c3, c4⟩ := h.cells
  clear h
  go_enter Tryz.func45, Tryz.ntmps45
  go_wp2_with fail
  go_ret
  exact ⟨rfl, rfl⟩
set_option maxHeartbeats 1000000 in
theorem made_nil (w : World) : Calls Tryz.prog 45 #[.pointer none] w fun e w' => e = .returned (.bool false) ∧ w' = w := by
  go_enter Tryz.func45, Tryz.ntmps45
  go_wp2_with fail
  go_ret
  exact ⟨rfl, rfl⟩
set_option maxHeartbeats 1000000 in
theorem ptx_ok {v : Value} {died : Bool} (h : PAt w P J D r v died) (hj : JAt w J D b n t) : Calls Tryz.prog 19 #[.pointer (some ⟨P, 0, none⟩)] w fun e w' => e = .returned (.int .i64 (t : Int)) ∧ w' = w := by
  have HM := hid (made_ok h)
  have HT := hid (Jn.tx_ok hj)
  obtain ⟨c0, c1, c2, c3, c4⟩ := h.cells
  clear h hj
  go_enter Tryz.func19, Tryz.ntmps19
  go_wp2_with fail
  refine HM.out.mono ?_
  rintro e w' ⟨rfl, hw⟩
  obtain rfl := hw.symm
  go_wp2_with fail
  refine HT.out.mono ?_
  rintro e w' ⟨rfl, hw⟩
  obtain rfl := hw.symm
  go_wp2_with fail
  go_ret
  exact ⟨rfl, rfl⟩
set_option maxHeartbeats 1000000 in
theorem proom_ok {v : Value} {died : Bool} (h : PAt w P J D r v died) : Calls Tryz.prog 20 #[.pointer (some ⟨P, 0, none⟩)] w fun e w' => e = .returned (.int .i64 (r : Int)) ∧ w' = w := by
  have HM := hid (made_ok h)
  obtain ⟨c0, c1, c2, c3, c4⟩ := h.cells
  clear h
  go_enter Tryz.func20, Tryz.ntmps20
  go_wp2_with fail
  refine HM.out.mono ?_
  rintro e w' ⟨rfl, hw⟩
  obtain rfl := hw.symm
  go_wp2_with fail
  go_ret
  exact ⟨rfl, rfl⟩
set_option maxHeartbeats 1000000 in
theorem ppages_ok {q : Option Addr} {c : Nat} {died : Bool} (h : PAt w P J D r (.slice q L.length c) died) (hp : Pgs w q L) (hl : L.length ≤ 100000) (hs : ∀ q ∈ L, q.2.2.size ≤ 1000000) : Calls Tryz.prog 18 #[.pointer (some ⟨P, 0, none⟩)] w (CopyP w L) := by
  have HM := hid (made_ok h)
  have HC := hid (copies_ok L q c w hp hl hs)
  obtain ⟨c0, c1, c2, c3, c4⟩ := h.cells
  clear h hp hl hs
  go_enter Tryz.func18, Tryz.ntmps18
  go_wp2_with fail
  refine HM.out.mono ?_
  rintro e w' ⟨rfl, hw⟩
  obtain rfl := hw.symm
  go_wp2_with fail
  refine HC.out.mono ?_
  rintro e w2 ⟨p', c', rfl, h1, h2⟩
  have H := hid (And.intro h1 h2)
  clear h1 h2
  go_wp2_with fail
  go_ret
  exact ⟨p', c', rfl, H.out.1, H.out.2⟩
set_option maxRecDepth 100000 in
set_option maxHeartbeats 2000000 in
theorem aborted_ok (h : Pr K P J D w s b n t L) (ok : JOk b n t) {k : Nat} (hf : Few s k) (hk : k + 20 < 1000000) :
    Calls Tryz.prog 39 #[.pointer (some ⟨P, 0, none⟩)] w fun e w' => e = .returned (.bool (decide (s.writes < (aboS s b t).writes))) ∧ Pr K P J D w' (aboS s b t) b n t L ∧ KS K w w' := by
  obtain ⟨q, c, ha, hp, hq⟩ := h.at_
  have HC1 := hid (cd_counts h.jk.cd)
  have HH := hid h
  have HA := hid fun (V : World) (hV : Below w.heap.size w V) => jabort (h.jk.next hV) ok hf (by omega)
  have HX := hid ha
  have HP := hid (And.intro hp hq)
  obtain ⟨c0, c1, c2, c3, c4⟩ := ha.cells
  generalize aboS s b t = s' at *
  clear h ha hp hq ok hf hk
  go_enter Tryz.func39, Tryz.ntmps39
  go_wp2_with fail
  refine HC1.out.mono ?_
  rintro e w2 ⟨rfl, hb⟩
  have HB2 := hid hb
  have HX2 := hid (HX.out.below hb)
  clear hb c0 c1 c2 c3 c4
  obtain ⟨c0, c1, c2, c3, c4⟩ := HX2.out.cells
  go_wp2_with fail
  refine (HA.out _ HB2.out).mono ?_
  rintro e w3 ⟨rfl, hc, hks⟩
  have HC3 := hid hc
  have HK3 := hid hks
  have HX3 := hid (HX2.out.ks hks HH.out.kP)
  clear hc hks c0 c1 c2 c3 c4
  obtain ⟨c0, c1, c2, c3, c4⟩ := HX3.out.cells
  go_wp2_with fail
  refine (cd_counts HC3.out).mono ?_
  rintro e w4 ⟨rfl, hb⟩
  have HB4 := hid hb
  clear hb c0 c1 c2 c3 c4
  go_wp2_with fail
  go_ret
  have hks := (KS.of (K := K) HB2.out).trans HK3.out
  have hps := pgs_ks HP.out.1 hks HP.out.2
  exact ⟨rfl, Pr.next ⟨⟨HC3.out, HH.out.jk.kJ, HH.out.jk.k0, (hks.block J HH.out.jk.j.lt HH.out.jk.kJ).trans HH.out.jk.j, lst_ks HH.out.jk.lst HH.out.jk.k0 hks⟩, HH.out.kP, HH.out.ne, q, c, HX3.out, hps, HP.out.2⟩ HB4.out, hks.trans (KS.of HB4.out)⟩
end
end Go.Proofs.YtgihpdhkjneimaaGreatDoor.Pp

/- What a disk without a fuse holds behind a pager's writes. Plain. -/
namespace Go.Proofs.YtgihpdhkjneimaaGreatDoor.Pp
open Go.RowKit
open Go.Lib (hid)
open Go.Proofs.YtgihpdhkjneimaaGreatDoor.Fd (be be_length num)
open Go.Proofs.YtgihpdhkjneimaaGreatDoor.Dk
open Go.Proofs.YtgihpdhkjneimaaGreatDoor.Jn
open Go.Proofs.YtgihpdhkjneimaaGreatDoor.En (Lst PageT Pgs mayS)
open Go.Proofs.YtgihpdhkjneimaaGreatDoor.Pg (sealL openL mayP)
/-- may a page be sealed, and is its place on a disk of so many pages? -/
def okP (m : Nat) (q : PageT) : Prop := mayP q.1 q.2.1 q.2.2.size ∧ q.2.1 < (m : Int)
theorem sealB_size {q : PageT} (h : mayP q.1 q.2.1 q.2.2.size) : (sealB q).size = 256 := by
  show (sealL q.1.toNat q.2.1.toNat q.2.2.data.toList).toArray.size = 256
  rw [List.size_toArray, Pg.sealL_length _ _ _ (by rw [Fd.size_list]; exact_mod_cast h.2.2.2.2)]
theorem open_sealB {q : PageT} (h : mayP q.1 q.2.1 q.2.2.size) : openL (sealB q).data.toList = (q.1.toNat, q.2.1.toNat, q.2.2.data.toList, 0) := by
  show openL (sealL q.1.toNat q.2.1.toNat q.2.2.data.toList).toArray.toList = _
  rw [List.toList_toArray]
  obtain ⟨h1, h2, h3, h4, h5⟩ := h
  exact Pg.open_seal _ _ _ ⟨by omega, by omega, by omega, by omega, by rw [Fd.size_list]; exact_mod_cast h5⟩
theorem wrP_yes {s : St} {q : PageT} (hf : s.fuse = -1) (h : okP s.pages.length q) : wrP s q = (true, writeS s q.2.1.toNat (sealB q)) := by
  unfold wrP
  rw [if_pos h.1]
  have e : q.2.1 = ((q.2.1.toNat : Nat) : Int) := by have := h.1.2.2.1; omega
  have hw := wr_yes (s := s) (m := q.2.1.toNat) (u := sealB q) hf (by have := h.2; have := h.1.2.2.1; omega) (sealB_size h.1)
  rw [← e] at hw
  rw [hw]; rfl
theorem wrP_vw {s : St} {q : PageT} (hf : s.fuse = -1) (h : okP s.pages.length q) (j : Nat) : vw (wrP s q).2 j = if j = q.2.1.toNat then sealB q else vw s j := by
  have e : q.2.1 = ((q.2.1.toNat : Nat) : Int) := by have := h.1.2.2.1; omega
  have hw := wr_vw (s := s) (m := q.2.1.toNat) (u := sealB q) hf (by have := h.2; have := h.1.2.2.1; omega) (sealB_size h.1) j
  have e2 : (wrP s q).2 = (wrU s ((q.2.1.toNat : Nat) : Int) (sealB q)).2 := by unfold wrP; rw [if_pos h.1, ← e]
  rw [e2]; exact hw
theorem wrP_fuse {s : St} {q : PageT} (hf : s.fuse = -1) : (wrP s q).2.fuse = -1 := by
  unfold wrP; split
  · exact wr_fuse hf
  · exact hf
theorem wrP_counts {s : St} {q : PageT} (hf : s.fuse = -1) (h : okP s.pages.length q) : (wrP s q).2.writes = s.writes + 1 ∧ (wrP s q).2.flushes = s.flushes := by
  rw [wrP_yes hf h]; exact ⟨rfl, rfl⟩
theorem fl_counts {s : St} (hf : s.fuse = -1) : (flU s).2.writes = s.writes ∧ (flU s).2.flushes = s.flushes + 1 := by
  unfold flU; rw [if_neg (by omega)]; exact ⟨rfl, rfl⟩
/-- what is read behind the writes of pages -/
noncomputable def putV (V : Nat → ByteArray) : List PageT → Nat → ByteArray
  | [] => V
  | q :: L => putV (fun j => if j = q.2.1.toNat then sealB q else V j) L
theorem putS_all {L : List PageT} : ∀ {s : St}, s.fuse = -1 → (∀ q ∈ L, okP s.pages.length q) → (putS s L).1 = true ∧ (putS s L).2.fuse = -1 ∧ vw (putS s L).2 = putV (vw s) L ∧ (putS s L).2.writes = s.writes + L.length ∧ (putS s L).2.flushes = s.flushes + 1 := by
  induction L with
  | nil =>
    intro s hf _
    have h := fl_counts hf
    exact ⟨rfl, fl_fuse hf, fl_vw s, by rw [show (putS s []).2 = (flU s).2 from rfl, h.1]; simp, h.2⟩
  | cons q L ih =>
    intro s hf h
    have hq := h q (by simp)
    have hw := wrP_yes hf hq
    have h1 : (wrP s q).1 = true := by rw [hw]
    rw [putS_cons, if_pos h1]
    obtain ⟨i1, i2, i3, i4, i5⟩ := ih (s := (wrP s q).2) (wrP_fuse hf) (fun x hx => by rw [wrP_len]; exact h x (by simp [hx]))
    have hc := wrP_counts hf hq
    refine ⟨i1, i2, ?_, by rw [i4, hc.1]; simp; omega, by rw [i5, hc.2]⟩
    rw [i3]
    show putV (vw (wrP s q).2) L = putV (fun j => if j = q.2.1.toNat then sealB q else vw s j) L
    congr 1
    funext j
    exact wrP_vw hf hq j
theorem layS_all {s : St} {q : PageT} {L : List PageT} (hf : s.fuse = -1) (h : ∀ x ∈ q :: L, okP s.pages.length x) : (layS s (q :: L)).1 = true ∧ (layS s (q :: L)).2.fuse = -1 ∧ vw (layS s (q :: L)).2 = putV (putV (vw s) L) [q] ∧ (layS s (q :: L)).2.writes = s.writes + L.length + 1 ∧ (layS s (q :: L)).2.flushes = s.flushes + 2 := by
  obtain ⟨i1, i2, i3, i4, i5⟩ := putS_all (L := L) hf (fun x hx => h x (by simp [hx]))
  obtain ⟨j1, j2, j3, j4, j5⟩ := putS_all (L := [q]) (s := (putS s L).2) i2 (fun x hx => by rw [putS_len]; exact h x (by simp at hx; simp [hx]))
  have e : layS s (q :: L) = putS (putS s L).2 [q] := by unfold layS; rw [List.tail_cons, if_pos i1]; rfl
  rw [e]
  exact ⟨j1, j2, by rw [j3, i3], by rw [j4, i4]; simp, by rw [j5, i5]; omega⟩
/-- a place that no page of the list has -/
theorem putV_other {L : List PageT} : ∀ {V : Nat → ByteArray} {j : Nat}, (∀ q ∈ L, q.2.1.toNat ≠ j) → putV V L j = V j := by
  induction L with
  | nil => intro V j _; rfl
  | cons q L ih =>
    intro V j h
    show putV (fun j => if j = q.2.1.toNat then sealB q else V j) L j = V j
    rw [ih (fun x hx => h x (by simp [hx]))]
    rw [if_neg (fun e => h q (by simp) e.symm)]
theorem abo_counts {s : St} (hf : s.fuse = -1) {b n t : Nat} (ok : JOk b n t) (hp : b + n ≤ s.pages.length) : (aboS s b t).writes = s.writes + 1 ∧ (aboS s b t).flushes = s.flushes + 1 := by
  have hw := wr_yes (s := s) (m := b) (u := pgJ b 3 t (0 : Nat) 0 0 ⟨#[]⟩ 0 0) hf (by have := ok.n2; omega) (pgJ_size (by decide) (may3 t ok.t1 ok.t2))
  have h := fl_counts (s := (wrU s ((b : Nat) : Int) (pgJ b 3 t (0 : Nat) 0 0 ⟨#[]⟩ 0 0)).2) (wr_fuse hf)
  unfold aboS
  rw [h.1, h.2, hw]
  exact ⟨rfl, rfl⟩
theorem wrS_counts {s : St} (hf : s.fuse = -1) {b n t : Nat} (ok : JOk b n t) {L : List PageT} (hs : AllS L) (hl : L.length < n) (hp : b + n ≤ s.pages.length) (i : Nat) (hi : i ≤ L.length) : (wrS s b t L i).writes = s.writes + i ∧ (wrS s b t L i).flushes = s.flushes := by
  induction i with
  | zero => exact ⟨by show s.writes = s.writes + 0; omega, rfl⟩
  | succ i ih =>
    obtain ⟨h1, h2⟩ := ih (by omega)
    have hw := wr_yes (s := wrS s b t L i) (m := b + i) (u := stg b t L i) (wrS_fuse hf b t L i) (by rw [wrS_len]; omega) (stg_size ok hs (by omega) (by have := ok.n9; omega))
    have e : wrS s b t L (i + 1) = (wrU (wrS s b t L i) ((b + i : Nat) : Int) (stg b t L i)).2 := rfl
    rw [e, hw]
    exact ⟨by show (wrS s b t L i).writes + 1 = _; rw [h1]; omega, h2⟩
theorem com_counts {s : St} (hf : s.fuse = -1) {b n t : Nat} (ok : JOk b n t) {L : List PageT} (h0 : 0 < L.length) (hs : AllS L) (hl : L.length < n) (hp : b + n ≤ s.pages.length) : (comS s b t L).writes = s.writes + L.length + 1 ∧ (comS s b t L).flushes = s.flushes + 2 := by
  obtain ⟨h1, h2⟩ := wrS_counts hf ok hs hl hp L.length (Nat.le_refl _)
  have hf1 := fl_counts (s := wrS s b t L L.length) (wrS_fuse hf b t L _)
  have hw := wr_yes (s := (flU (wrS s b t L L.length)).2) (m := b + L.length) (u := cmt b t L) (fl_fuse (wrS_fuse hf b t L _)) (by rw [fl_len, wrS_len]; omega) (cmt_size ok h0 hl)
  have hf2 := fl_counts (s := (wrU (flU (wrS s b t L L.length)).2 ((b + L.length : Nat) : Int) (cmt b t L)).2) (wr_fuse (fl_fuse (wrS_fuse hf b t L _)))
  have e : comS s b t L = (flU (wrU (flU (wrS s b t L L.length)).2 ((b + L.length : Nat) : Int) (cmt b t L)).2).2 := rfl
  rw [e, hf2.1, hf2.2, hw]
  exact ⟨by show (flU (wrS s b t L L.length)).2.writes + 1 = _; rw [hf1.1, h1], by show (flU (wrS s b t L L.length)).2.flushes + 1 = _; rw [hf1.2, h2]; omega⟩
end Go.Proofs.YtgihpdhkjneimaaGreatDoor.Pp

/- Format of the pager. -/
namespace Go.Proofs.YtgihpdhkjneimaaGreatDoor.Pp
open Go.RowKit
open Go.Lib (hid)
open Go.Proofs.YtgihpdhkjneimaaGreatDoor.Dk
open Go.Proofs.YtgihpdhkjneimaaGreatDoor.Jn
open Go.Proofs.YtgihpdhkjneimaaGreatDoor.En (Lst PageT Pgs)
open Go.Proofs.YtgihpdhkjneimaaGreatDoor.Pg (mayP)
/-- the head, as a page -/
def hdP (t c : Nat) : PageT := (1, 0, hdB t c)
theorem hdP_ok {m : Nat} (h : 0 < m) (t c : Nat) : okP m (hdP t c) := ⟨⟨by show (1 : Int) ≤ 1; decide, by show (1 : Int) ≤ 5; decide, by show (0 : Int) ≤ 0; decide, by show (0 : Int) < 1000; decide, by show (hdB t c).size ≤ 244; rw [hdB_size]; decide⟩, by show (0 : Int) < (m : Int); omega⟩
/-- a disk that is formatted -/
noncomputable def fmtS (s : St) (b : Nat) : St := aboS (wrP s (hdP 1 0)).2 b 1
section
variable {K : Nat → Prop} {P J D b n t r : Nat} {w w' : World} {s : St} {L : List PageT}
theorem pgs_nil (w : World) (p : Option Addr) : Pgs w p [] := fun i hi => absurd hi (Nat.not_lt_zero i)
/-- a pager whose disk has turned -/
theorem Pr.step {s' : St} (h : Pr K P J D w s b n t L) (hc : Cd K D w' s') (hk : KS K w w') : Pr K P J D w' s' b n t L := by
  obtain ⟨q, c, h1, h2, h3⟩ := h.at_
  exact ⟨h.jk.step hc hk, h.kP, h.ne, q, c, h1.ks hk h.kP, pgs_ks h2 hk h3, h3⟩
set_option maxHeartbeats 1000000 in
theorem format_nil (l : Int) (w : World) : Calls Tryz.prog 11 #[.pointer none, .int .i64 l] w fun e w' => e = .returned (.tuple #[.pointer none, .int .i64 1]) ∧ w' = w := by
  have HM := hid (may_nil l w)
  go_enter Tryz.func11, Tryz.ntmps11
  go_wp2_with (go_at_call 35; refine HM.out.mono ?_; rintro e w' ⟨rfl, hw⟩; obtain rfl := hw.symm)
  go_ret2
  exact ⟨rfl, rfl⟩
set_option maxHeartbeats 1000000 in
theorem format_bad (h : Cd K D w s) (l : Int) (hb : ¬ (2 ≤ l ∧ l ≤ 900 ∧ 2 ≤ (s.pages.length : Int) - l)) : Calls Tryz.prog 11 #[.pointer (some ⟨D, 0, none⟩), .int .i64 l] w fun e w' => e = .returned (.tuple #[.pointer none, .int .i64 1]) ∧ w' = w := by
  have HM := hid (may_any h l false ⟨(fun e => by cases e), (fun e => absurd e hb)⟩)
  clear h hb
  go_enter Tryz.func11, Tryz.ntmps11
  go_wp2_with (go_at_call 35; refine HM.out.mono ?_; rintro e w' ⟨rfl, hw⟩; obtain rfl := hw.symm)
  go_ret2
  exact ⟨rfl, rfl⟩
set_option maxRecDepth 100000 in
set_option maxHeartbeats 4000000 in
theorem format_ok (h : Cd K D w s) (hL : Lst w) (k0 : K 0) (hn2 : 2 ≤ n) (hn9 : n ≤ 900) (hb2 : 2 ≤ b) (hp : b + n = s.pages.length) (hm : s.pages.length ≤ 1000) (hfu : s.fuse = -1) {k : Nat} (hf : Few s k) (hk : k + 50 < 1000000) :
    Calls Tryz.prog 11 #[.pointer (some ⟨D, 0, none⟩), .int .i64 (n : Int)] w fun e w' => ∃ P J, e = .returned (.tuple #[.pointer (some ⟨P, 0, none⟩), .int .i64 0]) ∧ w.heap.size ≤ J ∧ w.heap.size ≤ P ∧ Pr (fun j => (K j ∨ j = J) ∨ j = P) P J D w' (fmtS s b) b n 1 [] ∧ KS K w w' := by
  have ok : JOk b n 1 := ⟨hn2, by omega, by omega, by omega, by omega⟩
  have HM := hid (may_any h (n : Int) true ⟨(fun _ => ⟨by omega, by omega, by omega⟩), (fun _ => rfl)⟩)
  have HON := hid (on_ok h hL k0 b n 1 ok (by omega) hp)
  have HHD := hid fun (V : World) => head_ok 1 0 V (by decide) (by decide)
  have HOK := hid ok
  have hq : okP s.pages.length (hdP 1 0) := hdP_ok (by omega) 1 0
  have hw1 : (wrP s (hdP 1 0)).1 = true := by rw [wrP_yes hfu hq]
  have HWR := hid fun (V : World) (K' : Nat → Prop) (hc : Cd K' D V s) => write_ok hc hf (by omega) (hdP 1 0)
  rw [hw1] at HWR
  have HF1 := hid (few_wrP hf (hdP 1 0))
  have hab := abo_counts (s := (wrP s (hdP 1 0)).2) (wrP_fuse hfu) ok (by rw [wrP_len]; omega)
  have HKM := hid hk
  have hsz : (hdP 1 0).1 = 1 ∧ (hdP 1 0).2.1 = 0 ∧ (hdP 1 0).2.2 = hdB 1 0 := ⟨rfl, rfl, rfl⟩
  rw [hsz.1, hsz.2.1, hsz.2.2] at HWR
  unfold fmtS
  generalize hdB 1 0 = HB at *
  generalize (wrP s (hdP 1 0)).2 = s1 at *
  clear h hL k0 hn2 hn9 hb2 hp hm hfu hf hk ok hq hw1 hsz
  have HAB := hid hab.1
  clear hab
  go_enter Tryz.func11, Tryz.ntmps11
  go_wp2_with fail
  refine HM.out.mono ?_
  rintro e w' ⟨rfl, hw⟩
  obtain rfl := hw.symm
  go_wp2_with fail
  refine HON.out.mono ?_
  rintro e w2 ⟨P, J, rfl, hJ, hP, hpr, hb⟩
  have HJP := hid (And.intro hJ hP)
  have HPR := hid hpr
  have HB2 := hid hb
  clear hJ hP hpr hb HON HM
  go_wp2_with fail
  refine (HHD.out _).mono ?_
  rintro e w3 ⟨rfl, hb⟩
  have HPR3 := hid (HPR.out.next hb)
  have HB3 := hid (HB2.out.trans (hb.mono HB2.out.size))
  clear hb
  go_wp2_with fail
  refine (HWR.out _ _ HPR3.out.jk.cd).mono ?_
  rintro e w4 ⟨rfl, hc, hks⟩
  have HPR4 := hid (HPR3.out.step hc hks)
  have HK4 := hid ((KS.of (K := K) HB3.out).trans (KS.less hks fun j e => .inl (.inl e)))
  clear hc hks
  go_wp2_with fail
  refine (aborted_ok HPR4.out HOK.out HF1.out (by have := HKM.out; omega)).mono ?_
  rintro e w5 ⟨rfl, hpr, hks⟩
  have HPR5 := hid hpr
  have HK5 := hid (HK4.out.trans (KS.less hks fun j e => .inl (.inl e)))
  have ed : decide (s1.writes < (aboS s1 b 1).writes) = true := by rw [HAB.out]; simp; omega
  rw [ed]
  clear hpr hks ed
  go_wp2_with fail
  go_ret2
  exact ⟨P, J, rfl, by have := HJP.out.1; omega, by have := HJP.out.2; omega, HPR5.out, HK5.out⟩
end
end Go.Proofs.YtgihpdhkjneimaaGreatDoor.Pp

/- A pager's head and its pages are read again. -/
namespace Go.Proofs.YtgihpdhkjneimaaGreatDoor.Pp
open Go.RowKit
open Go.Lib (hid)
open Go.Proofs.YtgihpdhkjneimaaGreatDoor.Fd (be be_length num num_be)
open Go.Proofs.YtgihpdhkjneimaaGreatDoor.Dk
open Go.Proofs.YtgihpdhkjneimaaGreatDoor.Jn
open Go.Proofs.YtgihpdhkjneimaaGreatDoor.En (Lst PageT Pgs flatP mayS row_keep)
open Go.Proofs.YtgihpdhkjneimaaGreatDoor.Pg (mayP)
theorem hdB_four (t c : Nat) : (hdB t c).extract 0 4 = ⟨(be 4 t).toArray⟩ := by
  apply ByteArray.ext
  show (be 4 t ++ be 2 c).toArray.extract 0 4 = _
  simp [be_length]
theorem hdB_two (t c : Nat) : (hdB t c).extract 4 6 = ⟨(be 2 c).toArray⟩ := by
  apply ByteArray.ext
  show (be 4 t ++ be 2 c).toArray.extract 4 6 = _
  simp [be_length]
  rw [List.take_of_length_le (by rw [be_length]; exact Nat.le_refl _)]
section
variable {K : Nat → Prop} {P J D b n t r : Nat} {w w' : World} {s : St} {L : List PageT}
/-- a page that was sealed is read -/
theorem read_yes (h : Cd K D w s) {k : Nat} (hf : Few s k) (hk : k < 1000000) (m : Nat) (hm : m < s.pages.length) (q : PageT) (hq : okP s.pages.length q) (hn : q.2.1 = (m : Int)) (hv : vw s m = sealB q) :
    Calls Tryz.prog 100 #[.pointer (some ⟨D, 0, none⟩), .int .i64 (m : Int)] w fun e w' => e = .returned (.tuple #[.agg #[.int .i64 q.1, .int .i64 (m : Int), .string q.2.2], .bool true]) ∧ Cd K D w' (rdU s m).2.2 ∧ KS K w w' := by
  have h1 := read_ok h hf hk (m : Int)
  have hu : (rdU s (m : Int)).1 = sealB q := by rw [rd_vw hm, hv]
  have ho := open_sealB hq.1
  have e : rdP (sealB q) (m : Int) = ((q.1, (m : Int), q.2.2), true) := by
    unfold rdP
    rw [ho]
    have h3 := hq.1.1
    have e1 : ((q.1.toNat : Nat) : Int) = q.1 := by omega
    have e2 : ((q.2.1.toNat : Nat) : Int) = (m : Int) := by omega
    dsimp only
    rw [e1, e2]
    simp
  rw [hu, e] at h1
  exact h1
set_option maxRecDepth 100000 in
set_option maxHeartbeats 4000000 in
theorem readHead_yes (h : Cd K D w s) {k : Nat} (hf : Few s k) (hk : k < 1000000) (t c : Nat) (ht : 1 ≤ t) (ht2 : t < 4294967296) (hc : c < 65536) (r : Nat) (hr : c ≤ r) (hv : vw s 0 = sealB (hdP t c)) :
    Calls Tryz.prog 65 #[.pointer (some ⟨D, 0, none⟩), .int .i64 (r : Int)] w fun e w' => e = .returned (.tuple #[.int .i64 (t : Int), .int .i64 (c : Int), .bool true]) ∧ Cd K D w' (rdU s 0).2.2 ∧ KS K w w' := by
  have hm := h.good.n1
  have HR := hid (read_yes h hf hk 0 hm (hdP t c) (hdP_ok hm t c) rfl hv)
  have hsz : (hdP t c).1 = 1 ∧ (hdP t c).2.2 = hdB t c := ⟨rfl, rfl⟩
  rw [hsz.1, hsz.2] at HR
  have x4 := hdB_four t c
  have x2 := hdB_two t c
  have x6 := hdB_size t c
  have n4 : num (⟨(be 4 t).toArray⟩ : ByteArray).data.toList = t := by show num (be 4 t).toArray.toList = t; rw [List.toList_toArray, num_be 4 t (by simpa using ht2)]
  have n2 : num (⟨(be 2 c).toArray⟩ : ByteArray).data.toList = c := by show num (be 2 c).toArray.toList = c; rw [List.toList_toArray, num_be 2 c (by simpa using hc)]
  have s4 : (⟨(be 4 t).toArray⟩ : ByteArray).size ≤ 4 := by show (be 4 t).toArray.size ≤ 4; simp [be_length]
  have s2 : (⟨(be 2 c).toArray⟩ : ByteArray).size ≤ 4 := by show (be 2 c).toArray.size ≤ 4; simp [be_length]
  have HN4 := hid fun (V : World) => number_any ⟨(be 4 t).toArray⟩ V s4
  have HN2 := hid fun (V : World) => number_any ⟨(be 2 c).toArray⟩ V s2
  rw [n4] at HN4
  rw [n2] at HN2
  generalize hdB t c = B at *
  generalize (⟨(be 4 t).toArray⟩ : ByteArray) = A4 at *
  generalize (⟨(be 2 c).toArray⟩ : ByteArray) = A2 at *
  have e1 : decide ((t : Int) < 1) = false := by simp; omega
  have e2 : decide ((r : Int) < (c : Int)) = false := by simp; omega
  have e2' : decide (r < c) = false := by simp; omega
  clear h hf hk ht ht2 hc hr hv hm hsz n4 n2 s4 s2
  go_enter Tryz.func65, Tryz.ntmps65
  go_wp2_with fail
  refine HR.out.mono ?_
  rintro e w2 ⟨rfl, hc, hks⟩
  obtain ⟨V, hV⟩ : ∃ V, w2.alloc (.cells #[.int .i64 1, .int .i64 0, .string B] 69) = V := ⟨_, rfl⟩
  have HBV := hid (show Below w2.heap.size w2 V by rw [← hV]; exact (Below.refl _ _).alloc (Nat.le_refl _) _)
  have HX := hid (show V.heap[w2.heap.size]? = some (.cells #[.int .i64 1, .int .i64 0, .string B] 69 (0, 0)) by rw [← hV]; exact heap_alloc_new _ _)
  have HC := hid (hc.next HBV.out)
  have HK := hid (hks.trans (KS.of HBV.out))
  obtain ⟨y0, y1, y2, -⟩ := page_cells HX.out
  clear hc hks HR
  clear y1
  have q0 := y2
  go_wp2_with fail
  clear hV y0
  go_region_held3 (fun w' => w'.cell? ⟨w2.heap.size, 2, none⟩ = some (.string B)) (first | exact q0 | go_keep)
    (first
      | (go_at_call 103; with_reducible refine (HN4.out _).mono ?_; rintro e w5 ⟨rfl, rfl⟩)
      | (go_at_call 103; with_reducible refine (HN2.out _).mono ?_; rintro e w5 ⟨rfl, rfl⟩)
      | fail)
  go_wp2_with fail
  refine bodyPost_ret (v := .tuple #[.int .i64 (t : Int), .int .i64 (c : Int), .bool true]) (by simp [results, Tryz.results65, go_sem]) rfl ?_
  exact ⟨rfl, HC.out.next (Below.refl _ _).drew, HK.out.trans (KS.of (Below.refl _ _).drew)⟩
/-- pages that stand on a disk, from its page 1 on -/
def OnD (s : St) (L : List PageT) : Prop := ∀ i (h : i < L.length), okP s.pages.length (L[i].1, ((i + 1 : Nat) : Int), L[i].2.2) ∧ vw s (i + 1) = sealB (L[i].1, ((i + 1 : Nat) : Int), L[i].2.2)
set_option maxRecDepth 100000 in
set_option maxHeartbeats 8000000 in
theorem told_yes (h : Cd K D w s) {k : Nat} (hf : Few s k) (hk : k + 1010 < 1000000) (L : List PageT) (hl : L.length ≤ 1000) (hL : L.length < s.pages.length) (hm : MayL L) (ho : OnD s L) :
    Calls Tryz.prog 66 #[.pointer (some ⟨D, 0, none⟩), .int .i64 (L.length : Int)] w fun e w' => ∃ p c s' K', e = .returned (.tuple #[.slice p L.length c, .bool true]) ∧ Pgs w' p L ∧ (∀ g off, p = some ⟨g, off, none⟩ → K' g ∧ w.heap.size ≤ g) ∧ (∀ j, K j → K' j) ∧ Cd K' D w' s' ∧ KS K w w' ∧ Same s s' ∧ Few s' (k + L.length) := by
  obtain ⟨n, hn⟩ : ∃ n, L.length = n := ⟨_, rfl⟩
  have HN := hid hn; have HD := hid h; have HFS := hid hf; have HKK := hid hk; have HM := hid hm; have HO := hid ho; have HLP := hid hL
  rw [hn] at hl ⊢
  clear hn h hf hk hL hm ho
  go_enter Tryz.func66, Tryz.ntmps66
  go_wp2_with fail
  go_loopw [6, 11] (fun x y wr => ∃ (i : Nat) (s' : St), y = .int .i64 i ∧ i ≤ n ∧ wr.ownsRow w.heap.size 69 3 x i (flatP (L.take i)) ∧ Cd (fun j => K j ∨ x.ownBlock = some j) D wr s' ∧ KS K w wr ∧ Same s s' ∧ Few s' (k + i)) (fun _ y _ => n - (intOf y).toNat)
  case atStart => exact ⟨0, s, rfl, Nat.zero_le _, ⟨rfl, .inl ⟨rfl, rfl⟩⟩, HD.out.less (fun j hj => hj.elim id (fun e => by simp [Value.ownBlock] at e)), KS.refl _ _, Same.refl _, HFS.out⟩
  case round =>
    obtain ⟨i, s', rfl, hi, hown, hcd, hks, hsm, hfw⟩ := hrel
    obtain ⟨p, c, rfl, hob, hpo⟩ := own_slice hown
    have HOW := hid hown; have HCD := hid hcd; have HK3 := hid hks; have HSM := hid hsm; have HFW := hid hfw; have HOB := hid hob; have HPO := hid hpo
    clear hown hcd hks hsm hfw hob hpo
    have HAC := hid (show (L.take i).length = i by rw [List.length_take, HN.out]; omega)
    by_cases hlt : i < n
    · have hiL : i < L.length := by rw [HN.out]; exact hlt
      have HI := hid hlt
      have hoi := HO.out i hiL
      have hmi := HM.out i hiL
      have HTK := hid (show L.take (i + 1) = L.take i ++ [L[i]'hiL] from List.take_succ_eq_append_getElem hiL)
      obtain ⟨q, hq⟩ : ∃ q, L[i]'hiL = q := ⟨_, rfl⟩
      rw [hq] at hoi hmi HTK
      obtain ⟨pk, pn, bo⟩ := q
      have hpn : pn = (i : Int) := hmi.2.2
      subst hpn
      dsimp only at hoi
      have HRD := hid (read_yes HCD.out HFW.out (by have := HKK.out; omega) (i + 1) (by rw [HSM.out.pages]; have := HLP.out; omega) (pk, ((i + 1 : Nat) : Int), bo) (by rw [HSM.out.pages]; exact hoi.1) rfl (by rw [HSM.out.vw]; exact hoi.2))
      have HS4 := hid (HSM.out.trans (Same.rd s' (((i + 1 : Nat)) : Int)))
      have HF4 := hid (few_rd HFW.out (((i + 1 : Nat)) : Int))
      have HMB := hid fun (V : World) => maybe_ok pk (i : Int) (i : Int) bo V true ⟨fun _ => hmi, fun _ => rfl⟩
      have hw : wrap64 ((i : Int) + 1) = ((i + 1 : Nat) : Int) := Go.IntWalk.wrap64_in _ (by omega)
      dsimp only at HRD
      generalize (rdU s' (((i + 1 : Nat)) : Int)).2.2 = s4 at *
      have e5 : ((i + 1 : Nat) : Int) = (i : Int) + 1 := by omega
      rw [e5] at HRD
      clear hoi hmi hq HSM HFW e5
      go_wp2_with fail
      refine HRD.out.mono ?_
      rintro e w1 ⟨rfl, hc, hk2⟩
      have HC1 := hid hc
      have HK1 := hid (HK3.out.trans (KS.less hk2 (fun j e => .inl e)))
      have HOW1 := hid (row_keep HOW.out (fun g hg => hk2.block g (HOB.out g hg).2 (.inr hg)))
      clear HOW HCD HK3 HRD hc hk2
      have hx0 := heap_alloc_new w1 (.cells #[.int .i64 pk, .int .i64 ((i : Int) + 1), .string bo] 69)
      have hxx : ((w1.alloc (.cells #[.int .i64 pk, .int .i64 ((i : Int) + 1), .string bo] 69)).setCell ⟨w1.heap.size, 1, none⟩ (.int .i64 (i : Int))).heap[w1.heap.size]? = some (.cells #[.int .i64 pk, .int .i64 (i : Int), .string bo] 69 (0, 0)) := by
        rw [World.setCell, Array.getElem?_modify, if_pos rfl, hx0]; rfl
      have hbx : Below w1.heap.size w1 ((w1.alloc (.cells #[.int .i64 pk, .int .i64 ((i : Int) + 1), .string bo] 69)).setCell ⟨w1.heap.size, 1, none⟩ (.int .i64 (i : Int))) := ((Below.refl w1.heap.size w1).alloc (Nat.le_refl _) _).setCell (by exact Nat.le_refl _) _
      obtain ⟨X, hX⟩ : ∃ X, (w1.alloc (.cells #[.int .i64 pk, .int .i64 ((i : Int) + 1), .string bo] 69)).setCell ⟨w1.heap.size, 1, none⟩ (.int .i64 (i : Int)) = X := ⟨_, rfl⟩
      rw [hX] at hxx hbx
      have HX := hid hxx; have HBX := hid hbx
      obtain ⟨y0, y1, y2, -⟩ := page_cells hxx
      have HC2 := hid (HC1.out.next hbx)
      have HK2 := hid (HK1.out.trans (KS.of hbx))
      have HOW2 := hid (row_keep HOW1.out (fun g hg => hbx.block g (HC1.out.lt g (.inr hg))))
      clear hx0 hxx hbx HC1 HK1 HOW1
      go_wp2_with fail
      refine (HMB.out _).mono ?_
      rintro e w3 ⟨rfl, hb⟩
      have hxx := (hb.block _ (Array.getElem?_eq_some_iff.1 HX.out).1).trans HX.out
      have HC3 := hid (HC2.out.next hb)
      have HK3 := hid (HK2.out.trans (KS.of hb))
      have HOW3 := hid (row_keep HOW2.out (fun g hg => hb.block g (HC2.out.lt g (.inr hg))))
      clear hb hX y0 y1 y2 HC2 HK2 HOW2 HMB
      obtain ⟨y0, y1, y2, -⟩ := page_cells hxx
      have A3 := hid ((Below.refl w3.heap.size w3).alloc (Nat.le_refl _) (.cells #[.int .i64 pk, .int .i64 (i : Int), .string bo] 69))
      have HC4 := hid (HC3.out.next A3.out)
      have HK4 := hid (HK3.out.trans (KS.of A3.out))
      have HOW4 := hid (row_keep HOW3.out (fun g hg => A3.out.block g (HC3.out.lt g (.inr hg))))
      have HQ4 := hid (show Pgs (w3.alloc (.cells #[.int .i64 pk, .int .i64 (i : Int), .string bo] 69)) (some ⟨w3.heap.size, 0, none⟩) [(pk, (i : Int), bo)] from by
        have h := heap_alloc_new w3 (.cells #[.int .i64 pk, .int .i64 (i : Int), .string bo] 69)
        intro j hj
        obtain rfl : j = 0 := by simp at hj; omega
        exact ⟨w3.heap.size, 0, rfl, (Array.getElem?_eq_some_iff.1 h).1, by rw [cell_of_row _ _ _ _ _ _ h]; rfl, by rw [cell_of_row _ _ _ _ _ _ h]; rfl, by rw [cell_of_row _ _ _ _ _ _ h]; rfl⟩)
      have HAP := hid (pages_own 37 (.slice p i c) (L.take i) i HAC.out HOW4.out (some ⟨w3.heap.size, 0, none⟩) 1 (pk, (i : Int), bo) HQ4.out (by omega) HK4.out.size)
      clear hxx HC3 HK3 HOW3 A3
      go_wp2_with (at_builtin; refine Ap.wpList_app rfl _ _ _ rfl rfl rfl HAP.out ?_)
      rintro v4 w4 ⟨hown4, hg4, hv4⟩
      rw [← HTK.out] at hown4
      have HOW5 := hid hown4
      have HC5 := hid (Cd.app HC4.out hg4 hv4 (fun g hg => by
        obtain ⟨_, _, _, h2, _⟩ := own_slice hown4
        exact (h2 g hg).2))
      have HK5 := hid (KS.grown HK4.out hg4 (fun g hg => (HOB.out g hg).1))
      clear hown4 hg4 hv4 HAP HQ4 HC4 HK4 HOW4 y0 y1 y2
      go_wp2_with fail
      go_roundw
      case rel => exact ⟨i + 1, s4, by go_num, HI.out, HOW5.out, HC5.out, HK5.out, HS4.out, HF4.out⟩
      case measure => simp [intOf]; have := HI.out; omega
    · obtain rfl : i = n := by omega
      have hps := own_pgs HOW.out HAC.out
      rw [List.take_of_length_le (by rw [HN.out]; exact Nat.le_refl _)] at hps
      have HPS := hid hps
      clear hps
      go_wp2_with fail
      go_ret2
      exact ⟨p, c, s', _, rfl, HPS.out, fun g off e => ⟨.inr (HPO.out g off e), (HOB.out g (HPO.out g off e)).1⟩, (fun j e => .inl e), HCD.out, HK3.out, HSM.out, HFW.out⟩
end
end Go.Proofs.YtgihpdhkjneimaaGreatDoor.Pp

/- Open of the pager, of a disk whose head and pages are whole, and whose journal has no commit. -/
namespace Go.Proofs.YtgihpdhkjneimaaGreatDoor.Pp
open Go.RowKit
open Go.Lib (hid)
open Go.Proofs.YtgihpdhkjneimaaGreatDoor.Dk
open Go.Proofs.YtgihpdhkjneimaaGreatDoor.Jn
open Go.Proofs.YtgihpdhkjneimaaGreatDoor.En (Lst PageT Pgs)
/-- a disk that a pager of pages L is on, of transaction t -/
structure Onto (s : St) (b n t : Nat) (L : List PageT) : Prop where
  ok : JOk b n t
  n9 : n ≤ 900
  b2 : 2 ≤ b
  len : b + n = s.pages.length
  p9 : s.pages.length ≤ 1000
  may : MayL L
  few : L.length ≤ b - 1
  head : vw s 0 = sealB (hdP t L.length)
  on : OnD s L
  scan : Scans (vw s) b n t 0 [] none
theorem Onto.same {s s' : St} {b n t : Nat} {L : List PageT} (h : Onto s b n t L) (hs : Same s s') : Onto s' b n t L :=
  ⟨h.ok, h.n9, h.b2, by rw [hs.pages]; exact h.len, by rw [hs.pages]; exact h.p9, h.may, h.few, by rw [hs.vw]; exact h.head, fun i hi => by
    have := h.on i hi
    rw [hs.pages, hs.vw]; exact this, by rw [hs.vw]; exact h.scan⟩
section
variable {K : Nat → Prop} {P J D b n t r : Nat} {w w' : World} {s : St} {L : List PageT}
theorem setP_row {v : Value} {died : Bool} (h : PAt w P J D r v died) (x : Value) : PAt (w.setCell ⟨P, 3, none⟩ x) P J D r x died := by
  unfold PAt at h ⊢
  rw [World.setCell, Array.getElem?_modify, if_pos rfl, h]; rfl
theorem one_but (w : World) (P i : Nat) (x : Value) : But P w (w.setCell ⟨P, i, none⟩ x) :=
  ⟨rfl, rfl, rfl, by simp, fun k hk => heap_setCell_other _ _ _ _ hk⟩
theorem But.lst {g : Nat} {V V' : World} (h : But g V V') (hL : Lst V) (h0 : g ≠ 0) : Lst V' := by
  have e : ∀ i, V'.cell? ⟨0, i, none⟩ = V.cell? ⟨0, i, none⟩ := fun i => by
    unfold World.cell?
    rw [h.other 0 (fun e => h0 e.symm)]
  exact ⟨(e 0).trans hL.c0, (e 1).trans hL.c1, (e 2).trans hL.c2, (e 3).trans hL.c3⟩
theorem But.pgs {g : Nat} {V V' : World} {q : Option Addr} {M : List PageT} (h : But g V V') (hp : Pgs V q M) (hg : ∀ g' off, q = some ⟨g', off, none⟩ → 0 < M.length → g' ≠ g) : Pgs V' q M := fun i hi => by
  obtain ⟨b, off, e, hl, c0, c1, c2⟩ := hp i hi
  have hb := h.other b (hg b off e (by omega))
  have hc : ∀ j, V'.cell? ⟨b, j, none⟩ = V.cell? ⟨b, j, none⟩ := fun j => by unfold World.cell?; rw [hb]
  exact ⟨b, off, e, by rw [h.size]; exact hl, (hc _).trans c0, (hc _).trans c1, (hc _).trans c2⟩
/-- other pages -/
theorem Pr.setP (h : Pr K P J D w s b n t L) (q : Option Addr) (c : Nat) (M : List PageT) (hp : Pgs w q M) (hK : ∀ g off, q = some ⟨g, off, none⟩ → 0 < M.length → K g ∧ g ≠ P) (h0 : P ≠ 0) : Pr K P J D (w.setCell ⟨P, 3, none⟩ (.slice q M.length c)) s b n t M := by
  obtain ⟨q0, c0, h1, h2, h3⟩ := h.at_
  have hb := one_but w P 3 (.slice q M.length c)
  exact ⟨⟨hb.cd h.jk.cd h.kP, h.jk.kJ, h.jk.k0, (hb.other J h.ne.symm).trans h.jk.j, hb.lst h.jk.lst h0⟩, h.kP, h.ne, q, c, setP_row h1 _, hb.pgs hp (fun g off e hl => (hK g off e hl).2), fun g off e hl => (hK g off e hl).1⟩
/-- the next transaction -/
theorem Pr.setT (h : Pr K P J D w s b n t L) (t' : Nat) (h0 : J ≠ 0) (hq : ∀ q c died r, PAt w P J D r (.slice q L.length c) died → ∀ g off, q = some ⟨g, off, none⟩ → 0 < L.length → g ≠ J) : Pr K P J D (w.setCell ⟨J, 3, none⟩ (.int .i64 (t' : Int))) s b n t' L := by
  obtain ⟨q0, c0, h1, h2, h3⟩ := h.at_
  have hb := one_but w J 3 (.int .i64 (t' : Int))
  exact ⟨⟨hb.cd h.jk.cd h.jk.kJ, h.jk.kJ, h.jk.k0, jset h.jk.j t', hb.lst h.jk.lst h0⟩, h.kP, h.ne, q0, c0, (hb.other P h.ne).trans h1, hb.pgs h2 (hq q0 c0 _ _ h1), h3⟩
set_option maxRecDepth 100000 in
set_option maxHeartbeats 2000000 in
theorem next_yes (h : Cd K D w s) {k : Nat} (hf : Few s k) (hk : k < 1000000) (ho : Onto s b n t L) :
    Calls Tryz.prog 63 #[.pointer (some ⟨D, 0, none⟩), .int .i64 (n : Int)] w fun e w' => e = .returned (.int .i64 (t : Int)) ∧ Cd K D w' (rdU s 0).2.2 ∧ KS K w w' := by
  have HS := hid (size_cd h)
  have hb2 := ho.b2
  have hbn := ho.ok.bn
  have HR := hid (readHead_yes h hf hk t L.length ho.ok.t1 (by have := ho.ok.t2; omega) (by have := ho.few; omega) (b - 1) ho.few ho.head)
  rw [← ho.len] at HS
  have k2 : wrap64 ((b : Int) + (n : Int) - (n : Int)) = (b : Int) := by unfold wrap64; omega
  have k3 : wrap64 ((b : Int) - 1) = ((b - 1 : Nat) : Int) := by unfold wrap64; omega
  have e5 : ((b - 1 : Nat) : Int) = (b : Int) - 1 := by omega
  rw [e5] at HR
  clear h hf hk ho
  go_enter Tryz.func63, Tryz.ntmps63
  go_wp2_with fail
  refine HS.out.mono ?_
  rintro e w' ⟨rfl, hw⟩
  obtain rfl := hw.symm
  go_wp2_with fail
  refine HR.out.mono ?_
  rintro e w2 ⟨rfl, hc, hks⟩
  have H := hid (And.intro hc hks)
  clear hc hks
  go_wp2_with fail
  go_ret
  exact ⟨rfl, H.out.1, H.out.2⟩
set_option maxRecDepth 100000 in
set_option maxHeartbeats 8000000 in
theorem open_ok (h : Cd K D w s) (hL : Lst w) (k0 : K 0) {k : Nat} (hf : Few s k) (hk : k + 5000 < 1000000) (ho : Onto s b n t L) :
    Calls Tryz.prog 28 #[.pointer (some ⟨D, 0, none⟩), .int .i64 (n : Int)] w fun e w' => ∃ P J s' K', e = .returned (.tuple #[.pointer (some ⟨P, 0, none⟩), .int .i64 0]) ∧ w.heap.size ≤ J ∧ w.heap.size ≤ P ∧ (∀ j, K j → K' j) ∧ Pr K' P J D w' s' b n t L ∧ KS K w w' ∧ Same s s' ∧ Few s' (k + n + L.length + 3) := by
  have HO := hid ho; have HF := hid hf; have HKM := hid hk; have HL := hid hL; have HK0 := hid k0
  have HM := hid (may_any h (n : Int) true ⟨(fun _ => ⟨by have := ho.ok.n2; omega, by have := ho.n9; omega, by have := ho.b2; have := ho.len; omega⟩), (fun _ => rfl)⟩)
  have HNX := hid (next_yes h hf (by omega) ho)
  have HFL := hid (show L.length ≤ 1000 from by have := ho.few; have := ho.ok.bn; omega)
  clear h hL k0 hf hk ho
  go_enter Tryz.func28, Tryz.ntmps28
  go_wp2_with fail
  refine HM.out.mono ?_
  rintro e w' ⟨rfl, hw⟩
  obtain rfl := hw.symm
  go_wp2_with fail
  refine HNX.out.mono ?_
  rintro e w1 ⟨rfl, hc, hks⟩
  have HO1 := hid (HO.out.same (Same.rd s 0))
  have HS1 := hid (Same.rd s 0)
  have HF1 := hid (few_rd HF.out 0)
  have HC1 := hid hc
  have HK1 := hid hks
  have HL1 := hid (lst_ks HL.out HK0.out hks)
  generalize (rdU s 0).2.2 = s1 at *
  clear hc hks HM HNX
  go_wp2_with fail
  refine (on_ok HC1.out HL1.out HK0.out b n t HO1.out.ok (by have := HO1.out.b2; omega) HO1.out.len).mono ?_
  rintro e w2 ⟨P1, J1, rfl, hJ1, hP1, hpr, hb⟩
  have HPR2 := hid hpr
  have HK2 := hid (HK1.out.trans (KS.of hb))
  clear hpr hb hJ1 hP1
  obtain ⟨q1, cc1, hpa, -, -⟩ := HPR2.out.at_
  have HPA2 := hid hpa
  obtain ⟨y0, y1, y2, y3, y4⟩ := hpa.cells
  clear hpa
  go_wp2_with fail
  refine (jscan HPR2.out.jk HO1.out.ok (by rw [HO1.out.len]; exact Nat.le_refl _) HF1.out (by have := HKM.out; omega)).mono ?_
  rintro e w3 ⟨r0, s2, K2, hsc, hse, hk2, hcd, hks, hsm, hfw⟩
  have hr0 : r0 = none := hsc.det HO1.out.scan
  subst hr0
  have he : e = .returned (.tuple #[.slice none 0 0, .bool false]) := hse
  subst he
  have HO2 := hid (HO1.out.same hsm)
  have HS2 := hid (HS1.out.trans hsm)
  have HF2 := hid hfw
  have HC2 := hid hcd
  have HKK2 := hid fun j (e : K j) => hk2 j (.inl (.inl e))
  have HK3 := hid (HK2.out.trans (KS.less hks fun j e => .inl (.inl e)))
  have HL3 := hid (lst_ks HPR2.out.jk.lst HPR2.out.jk.k0 hks)
  have hpa3 := HPA2.out.ks hks HPR2.out.kP
  obtain ⟨z0, z1, z2, z3, z4⟩ := hpa3.cells
  clear hsc hk2 hcd hks hsm hfw hpa3 y0 y1 y2 y3 y4 HPR2 HPA2 HK2 HC1 HK1 HF1
  go_wp2_with fail
  refine (readHead_yes HC2.out HF2.out (by have := HKM.out; have := HO.out.ok.n9; omega) t L.length HO2.out.ok.t1 (by have := HO2.out.ok.t2; omega) (by have := HFL.out; omega) (b - 1) HO2.out.few HO2.out.head).mono ?_
  rintro e w4 ⟨rfl, hc, hks⟩
  have HO3 := hid (HO2.out.same (Same.rd s2 0))
  have HS3 := hid (HS2.out.trans (Same.rd s2 0))
  have HF3 := hid (few_rd HF2.out 0)
  have HC3 := hid hc
  have HK4 := hid (HK3.out.trans (KS.less hks HKK2.out))
  have HL4 := hid (lst_ks HL3.out (HKK2.out 0 HK0.out) hks)
  generalize (rdU s2 0).2.2 = s3 at *
  clear hc hks z0 z1 z2 z3 z4 HC2 HK3 HF2
  go_wp2_with fail
  refine (told_yes HC3.out HF3.out (by have := HKM.out; have := HO.out.ok.n9; omega) L HFL.out (by have := HO3.out.few; have := HO3.out.len; have := HO3.out.b2; omega) HO3.out.may HO3.out.on).mono ?_
  rintro e w5 ⟨p, c, s4, K4, rfl, hp, hpk, hkk, hcd, hks, hsm, hfw⟩
  have HO4 := hid (HO3.out.same hsm)
  have HS4 := hid (HS3.out.trans hsm)
  have HF4 := hid hfw
  have HC4 := hid hcd
  have HP4 := hid hp
  have HPK4 := hid hpk
  have HKK4 := hid fun j (e : K j) => hkk j (HKK2.out j e)
  have HK5 := hid (HK4.out.trans (KS.less hks HKK2.out))
  have HL5 := hid (lst_ks HL4.out (HKK2.out 0 HK0.out) hks)
  clear hp hpk hkk hcd hks hsm hfw HC3 HK4 HF3
  go_wp2_with fail
  refine (on_ok HC4.out HL5.out (HKK4.out 0 HK0.out) b n t HO4.out.ok (by have := HO4.out.b2; omega) HO4.out.len).mono ?_
  rintro e w6 ⟨P, J, rfl, hJ, hP, hpr, hb⟩
  have HJP := hid (And.intro hJ hP)
  have HPR6 := hid hpr
  have HK6 := hid (HK5.out.trans (KS.of hb))
  have HP6 := hid (HP4.out.below hb)
  clear hpr hb hJ hP
  obtain ⟨q1, cc1, hpa, -, -⟩ := HPR6.out.at_
  obtain ⟨y0, y1, y2, y3, y4⟩ := hpa.cells
  have hf3 : w6.frozen? ⟨P, 3, none⟩ = false := frozen_of_row _ _ _ _ _ hpa
  clear hpa
  go_wp2_with fail
  go_ret2
  have hsz := HK5.out.size
  have hPn : P ≠ 0 := by have := HJP.out.2; omega
  have hset := HPR6.out.setP p c L HP6.out (fun g off e _ => ⟨.inl (.inl (HPK4.out g off e).1), by have := HC4.out.lt g (HPK4.out g off e).1; have := HJP.out.2; omega⟩) hPn
  exact ⟨P, J, s4, _, rfl, by have := HJP.out.1; omega, by have := HJP.out.2; omega, (fun j e => .inl (.inl (HKK4.out j e))), hset, (one_but w6 P 3 _).ks HK6.out (.inr (by have := HJP.out.2; omega)), HS4.out, few_up HF4.out (by omega)⟩
end
end Go.Proofs.YtgihpdhkjneimaaGreatDoor.Pp
