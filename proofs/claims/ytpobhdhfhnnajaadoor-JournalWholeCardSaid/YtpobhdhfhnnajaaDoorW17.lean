/- Merged out of JnLastW. -/
import Derived.Test.YtpobhdhfhnnajaaDoorW16
/- JournalLast walked. -/
namespace Go.Proofs.YtpobhdhfhnnajaaDoor.Jn
open Go.RowKit
open Go.Lib (hid)
open Go.Proofs.YtpobhdhfhnnajaaDoor.Dk
open Go.Proofs.YtpobhdhfhnnajaaDoor.En (Lst PageT Pgs IsPgs pgs_list)
open Classical in
/-- what a Commit of pages that find room does -/
noncomputable def comR (s : St) (b t : Nat) (L : List PageT) : Int × St := if AllS L then (0, comS s b t L) else (1, s)
theorem comR_yes {s : St} {b t : Nat} {L : List PageT} (h : AllS L) : comR s b t L = (0, comS s b t L) := if_pos h
theorem comR_no {s : St} {b t : Nat} {L : List PageT} (h : ¬ AllS L) : comR s b t L = (1, s) := if_neg h
theorem comR_fuse {s : St} (hf : s.fuse = -1) (b t : Nat) (L : List PageT) : (comR s b t L).2.fuse = -1 := by
  unfold comR; split
  · exact com_fuse hf b t L
  · exact hf
theorem comR_len (s : St) (b t : Nat) (L : List PageT) : (comR s b t L).2.pages.length = s.pages.length := by
  unfold comR; split
  · exact com_len s b t L
  · rfl
theorem comR_few {s : St} {k : Nat} (h : Few s k) (b t : Nat) (L : List PageT) : Few (comR s b t L).2 (k + L.length + 3) := by
  unfold comR; split
  · exact few_com h b t L
  · exact few_up h (by omega)
theorem jcom_any {K : Nat → Prop} {J D b n t : Nat} {w0 : World} {s : St} (h : Jk K J D w0 s b n t) (ok : JOk b n t) {k : Nat} (hf : Few s k) (p : Option Addr) (L : List PageT) (c : Nat) (hk : k + L.length + 10 < 1000000) (hp : Pgs w0 p L) (hK : ∀ g off, p = some ⟨g, off, none⟩ → 0 < L.length → K g) (h0 : 0 < L.length) (hl : L.length < n) :
    Calls Tryd.prog 11 #[.pointer (some ⟨J, 0, none⟩), .slice p L.length c] w0 fun e w' => e = .returned (.int .i64 (comR s b t L).1) ∧ Cd K D w' (comR s b t L).2 ∧ KS K w0 w' := by
  obtain ⟨r, hr⟩ : ∃ r, n = r + 1 := ⟨n - 1, by omega⟩
  rcases Classical.em (AllS L) with hs | hs
  · rw [comR_yes hs]
    exact jcom_ok h ok hf p L c hk hp hK h0 hs r hr (by omega)
  · rw [comR_no hs]
    exact (jcom_bad h.j h.lst p L c hp h0 (by omega) hs).mono fun _ _ ⟨e1, hb⟩ => ⟨e1, (h.next hb).cd, KS.of hb⟩
set_option maxRecDepth 100000 in
set_option maxHeartbeats 4000000 in
theorem jl_f1 (p q : Option Addr) (L M : List PageT) (c d : Nat) (w : World) (hL : Lst w) (hp : Pgs w p L) (hq : Pgs w q M) (ab : Bool) (h : L.length < 1) :
    Calls Tryd.prog 6 #[.slice p L.length c, .slice q M.length d, .bool ab] w fun e w' => e = .returned (.bool true) ∧ Below w.heap.size w w' := by
  have HL := hid hL
  have HP := hid hL.pos
  have HG := hid hp
  have HGQ := hid hq
  obtain ⟨n, hn⟩ : ∃ n, L.length = n := ⟨_, rfl⟩
  obtain ⟨m, hm⟩ : ∃ n, M.length = n := ⟨_, rfl⟩
  have HN := hid hn
  have HM := hid hm
  rw [hn] at h
  rw [hn, hm]
  have a1 : decide ((n : Int) < 1) = true := by first | (simp; done) | (simp; omega) | (rw [decide_eq_true_iff]; omega)
  have a2 : decide (n < 1) = true := by first | (simp; done) | (simp; omega) | (rw [decide_eq_true_iff]; omega)
  have a5 : (n == 0) = true := by simp; omega
  clear h
  clear hL hp hq hn hm
  go_enter Tryd.func6, Tryd.ntmps6
  go_wp2_with fail
  refine (live_any _ HL.out).mono ?_
  rintro e w99 ⟨rfl, hb⟩
  have HB9 := hid (hb.mono ((Below.refl w.heap.size w)).size)
  have HB8 := hid (((Below.refl w.heap.size w)).trans HB9.out)
  clear hb
  go_wp2_with fail
  go_ret
  exact ⟨rfl, HB8.out⟩
set_option maxRecDepth 100000 in
set_option maxHeartbeats 4000000 in
theorem jl_f2 (p q : Option Addr) (L M : List PageT) (c d : Nat) (w : World) (hL : Lst w) (hp : Pgs w p L) (hq : Pgs w q M) (ab : Bool) (_ : ¬ L.length < 1) (h : 8 < L.length) :
    Calls Tryd.prog 6 #[.slice p L.length c, .slice q M.length d, .bool ab] w fun e w' => e = .returned (.bool true) ∧ Below w.heap.size w w' := by
  have HL := hid hL
  have HP := hid hL.pos
  have HG := hid hp
  have HGQ := hid hq
  obtain ⟨n, hn⟩ : ∃ n, L.length = n := ⟨_, rfl⟩
  obtain ⟨m, hm⟩ : ∃ n, M.length = n := ⟨_, rfl⟩
  have HN := hid hn
  have HM := hid hm
  rw [hn] at h
  rw [hn, hm]
  have a1 : decide ((n : Int) < 1) = false := by first | (simp; done) | (simp; omega) | (rw [decide_eq_false_iff_not]; omega)
  have a2 : decide (n < 1) = false := by first | (simp; done) | (simp; omega) | (rw [decide_eq_false_iff_not]; omega)
  have a5 : (n == 0) = false := by simp; omega
  have a3 : decide ((8 : Int) < (n : Int)) = true := by first | (simp; done) | (simp; omega)
  have a4 : decide (8 < n) = true := by first | (simp; done) | (simp; omega)
  clear h
  clear hL hp hq hn hm
  go_enter Tryd.func6, Tryd.ntmps6
  go_wp2_with fail
  refine (live_any _ HL.out).mono ?_
  rintro e w99 ⟨rfl, hb⟩
  have HB9 := hid (hb.mono ((Below.refl w.heap.size w)).size)
  have HB8 := hid (((Below.refl w.heap.size w)).trans HB9.out)
  clear hb
  go_wp2_with fail
  go_ret
  exact ⟨rfl, HB8.out⟩
set_option maxRecDepth 100000 in
set_option maxHeartbeats 4000000 in
theorem jl_f3 (p q : Option Addr) (L M : List PageT) (c d : Nat) (w : World) (hL : Lst w) (hp : Pgs w p L) (hq : Pgs w q M) (ab : Bool) (h1 : ¬ L.length < 1) (h2 : ¬ 8 < L.length) (h : M.length < 1) :
    Calls Tryd.prog 6 #[.slice p L.length c, .slice q M.length d, .bool ab] w fun e w' => e = .returned (.bool true) ∧ Below w.heap.size w w' := by
  have HL := hid hL
  have HP := hid hL.pos
  have HG := hid hp
  have HGQ := hid hq
  obtain ⟨n, hn⟩ : ∃ n, L.length = n := ⟨_, rfl⟩
  obtain ⟨m, hm⟩ : ∃ n, M.length = n := ⟨_, rfl⟩
  have HN := hid hn
  have HM := hid hm
  rw [hn] at h1 h2
  rw [hm] at h
  rw [hn, hm]
  have a1 : decide ((n : Int) < 1) = false := by first | (simp; done) | (simp; omega) | (rw [decide_eq_false_iff_not]; omega)
  have a2 : decide (n < 1) = false := by first | (simp; done) | (simp; omega) | (rw [decide_eq_false_iff_not]; omega)
  have a5 : (n == 0) = false := by simp; omega
  have a3 : decide ((8 : Int) < (n : Int)) = false := by first | (simp; done) | (simp; omega)
  have a4 : decide (8 < n) = false := by first | (simp; done) | (simp; omega)
  have b1 : decide ((m : Int) < 1) = true := by first | (simp; done) | (simp; omega) | (rw [decide_eq_true_iff]; omega)
  have b2 : decide (m < 1) = true := by first | (simp; done) | (simp; omega) | (rw [decide_eq_true_iff]; omega)
  have b5 : (m == 0) = true := by simp; omega
  clear h1 h2 h
  clear hL hp hq hn hm
  go_enter Tryd.func6, Tryd.ntmps6
  go_wp2_with fail
  refine (live_any _ HL.out).mono ?_
  rintro e w99 ⟨rfl, hb⟩
  have HB9 := hid (hb.mono ((Below.refl w.heap.size w)).size)
  have HB8 := hid (((Below.refl w.heap.size w)).trans HB9.out)
  clear hb
  go_wp2_with fail
  go_ret
  exact ⟨rfl, HB8.out⟩
set_option maxRecDepth 100000 in
set_option maxHeartbeats 4000000 in
theorem jl_f4 (p q : Option Addr) (L M : List PageT) (c d : Nat) (w : World) (hL : Lst w) (hp : Pgs w p L) (hq : Pgs w q M) (ab : Bool) (h1 : ¬ L.length < 1) (h2 : ¬ 8 < L.length) (_ : ¬ M.length < 1) (h : 8 < M.length) :
    Calls Tryd.prog 6 #[.slice p L.length c, .slice q M.length d, .bool ab] w fun e w' => e = .returned (.bool true) ∧ Below w.heap.size w w' := by
  have HL := hid hL
  have HP := hid hL.pos
  have HG := hid hp
  have HGQ := hid hq
  obtain ⟨n, hn⟩ : ∃ n, L.length = n := ⟨_, rfl⟩
  obtain ⟨m, hm⟩ : ∃ n, M.length = n := ⟨_, rfl⟩
  have HN := hid hn
  have HM := hid hm
  rw [hn] at h1 h2
  rw [hm] at h
  rw [hn, hm]
  have a1 : decide ((n : Int) < 1) = false := by first | (simp; done) | (simp; omega) | (rw [decide_eq_false_iff_not]; omega)
  have a2 : decide (n < 1) = false := by first | (simp; done) | (simp; omega) | (rw [decide_eq_false_iff_not]; omega)
  have a5 : (n == 0) = false := by simp; omega
  have a3 : decide ((8 : Int) < (n : Int)) = false := by first | (simp; done) | (simp; omega)
  have a4 : decide (8 < n) = false := by first | (simp; done) | (simp; omega)
  have b1 : decide ((m : Int) < 1) = false := by first | (simp; done) | (simp; omega) | (rw [decide_eq_false_iff_not]; omega)
  have b2 : decide (m < 1) = false := by first | (simp; done) | (simp; omega) | (rw [decide_eq_false_iff_not]; omega)
  have b5 : (m == 0) = false := by simp; omega
  have b3 : decide ((8 : Int) < (m : Int)) = true := by first | (simp; done) | (simp; omega)
  have b4 : decide (8 < m) = true := by first | (simp; done) | (simp; omega)
  clear h1 h2 h
  clear hL hp hq hn hm
  go_enter Tryd.func6, Tryd.ntmps6
  go_wp2_with fail
  refine (live_any _ HL.out).mono ?_
  rintro e w99 ⟨rfl, hb⟩
  have HB9 := hid (hb.mono ((Below.refl w.heap.size w)).size)
  have HB8 := hid (((Below.refl w.heap.size w)).trans HB9.out)
  clear hb
  go_wp2_with fail
  go_ret
  exact ⟨rfl, HB8.out⟩
set_option maxRecDepth 100000 in
set_option maxHeartbeats 4000000 in
theorem jl_f5 (p q : Option Addr) (L M : List PageT) (c d : Nat) (w : World) (hL : Lst w) (hp : Pgs w p L) (hq : Pgs w q M) (ab : Bool) (h1 : 1 ≤ L.length) (h2 : L.length ≤ 8) (h3 : 1 ≤ M.length) (h4 : M.length ≤ 8) (hf : ¬ FewP L) :
    Calls Tryd.prog 6 #[.slice p L.length c, .slice q M.length d, .bool ab] w fun e w' => e = .returned (.bool true) ∧ Below w.heap.size w w' := by
  have HL := hid hL
  have HP := hid hL.pos
  have HG := hid hp
  have HGQ := hid hq
  obtain ⟨n, hn⟩ : ∃ n, L.length = n := ⟨_, rfl⟩
  obtain ⟨m, hm⟩ : ∃ n, M.length = n := ⟨_, rfl⟩
  have HN := hid hn
  have HM := hid hm
  have HF1 := hid (few_any L p c w hp false ⟨(fun h => by cases h), (fun h => absurd h hf)⟩)
  rw [hn] at h1 h2
  rw [hm] at h3 h4
  rw [hn] at HF1
  rw [hn, hm]
  have a1 : decide ((n : Int) < 1) = false := by first | (simp; done) | (simp; omega) | (rw [decide_eq_false_iff_not]; omega)
  have a2 : decide (n < 1) = false := by first | (simp; done) | (simp; omega) | (rw [decide_eq_false_iff_not]; omega)
  have a5 : (n == 0) = false := by simp; omega
  have a3 : decide ((8 : Int) < (n : Int)) = false := by first | (simp; done) | (simp; omega)
  have a4 : decide (8 < n) = false := by first | (simp; done) | (simp; omega)
  have b1 : decide ((m : Int) < 1) = false := by first | (simp; done) | (simp; omega) | (rw [decide_eq_false_iff_not]; omega)
  have b2 : decide (m < 1) = false := by first | (simp; done) | (simp; omega) | (rw [decide_eq_false_iff_not]; omega)
  have b5 : (m == 0) = false := by simp; omega
  have b3 : decide ((8 : Int) < (m : Int)) = false := by first | (simp; done) | (simp; omega)
  have b4 : decide (8 < m) = false := by first | (simp; done) | (simp; omega)
  have HH1 := hid h1; have HH2 := hid h2; have HH3 := hid h3; have HH4 := hid h4
  clear h1 h2 h3 h4 hf
  clear hL hp hq hn hm
  go_enter Tryd.func6, Tryd.ntmps6
  go_wp2_with fail
  refine HF1.out.mono ?_
  rintro e w1 ⟨rfl, hb⟩
  have HB1 := hid hb
  clear hb HF1
  go_wp2_with fail
  refine (live_any _ (HL.out.next HP.out HB1.out)).mono ?_
  rintro e w99 ⟨rfl, hb⟩
  have HB9 := hid (hb.mono (HB1.out).size)
  have HB8 := hid ((HB1.out).trans HB9.out)
  clear hb
  go_wp2_with fail
  go_ret
  exact ⟨rfl, HB8.out⟩
set_option maxRecDepth 100000 in
set_option maxHeartbeats 4000000 in
theorem jl_f6 (p q : Option Addr) (L M : List PageT) (c d : Nat) (w : World) (hL : Lst w) (hp : Pgs w p L) (hq : Pgs w q M) (ab : Bool) (h1 : 1 ≤ L.length) (h2 : L.length ≤ 8) (h3 : 1 ≤ M.length) (h4 : M.length ≤ 8) (hf : FewP L) (hf2 : ¬ FewP M) :
    Calls Tryd.prog 6 #[.slice p L.length c, .slice q M.length d, .bool ab] w fun e w' => e = .returned (.bool true) ∧ Below w.heap.size w w' := by
  have HL := hid hL
  have HP := hid hL.pos
  have HG := hid hp
  have HGQ := hid hq
  obtain ⟨n, hn⟩ : ∃ n, L.length = n := ⟨_, rfl⟩
  obtain ⟨m, hm⟩ : ∃ n, M.length = n := ⟨_, rfl⟩
  have HN := hid hn
  have HM := hid hm
  have HF1 := hid (few_any L p c w hp true ⟨(fun _ => hf), (fun _ => rfl)⟩)
  have HF2 := hid fun (V : World) (hv : Below w.heap.size w V) => few_any M q d V (hq.below hv) false ⟨(fun h => by cases h), (fun h => absurd h hf2)⟩
  rw [hn] at h1 h2
  rw [hm] at h3 h4
  rw [hn] at HF1
  rw [hm] at HF2
  rw [hn, hm]
  have a1 : decide ((n : Int) < 1) = false := by first | (simp; done) | (simp; omega) | (rw [decide_eq_false_iff_not]; omega)
  have a2 : decide (n < 1) = false := by first | (simp; done) | (simp; omega) | (rw [decide_eq_false_iff_not]; omega)
  have a5 : (n == 0) = false := by simp; omega
  have a3 : decide ((8 : Int) < (n : Int)) = false := by first | (simp; done) | (simp; omega)
  have a4 : decide (8 < n) = false := by first | (simp; done) | (simp; omega)
  have b1 : decide ((m : Int) < 1) = false := by first | (simp; done) | (simp; omega) | (rw [decide_eq_false_iff_not]; omega)
  have b2 : decide (m < 1) = false := by first | (simp; done) | (simp; omega) | (rw [decide_eq_false_iff_not]; omega)
  have b5 : (m == 0) = false := by simp; omega
  have b3 : decide ((8 : Int) < (m : Int)) = false := by first | (simp; done) | (simp; omega)
  have b4 : decide (8 < m) = false := by first | (simp; done) | (simp; omega)
  have HH1 := hid h1; have HH2 := hid h2; have HH3 := hid h3; have HH4 := hid h4
  clear h1 h2 h3 h4 hf hf2
  clear hL hp hq hn hm
  go_enter Tryd.func6, Tryd.ntmps6
  go_wp2_with fail
  refine HF1.out.mono ?_
  rintro e w1 ⟨rfl, hb⟩
  have HB1 := hid hb
  clear hb HF1
  go_wp2_with fail
  refine (HF2.out _ HB1.out).mono ?_
  rintro e w2 ⟨rfl, hb⟩
  have HB2 := hid (HB1.out.trans (hb.mono HB1.out.size))
  clear hb HF2 HB1
  go_wp2_with fail
  refine (live_any _ (HL.out.next HP.out HB2.out)).mono ?_
  rintro e w99 ⟨rfl, hb⟩
  have HB9 := hid (hb.mono (HB2.out).size)
  have HB8 := hid ((HB2.out).trans HB9.out)
  clear hb
  go_wp2_with fail
  go_ret
  exact ⟨rfl, HB8.out⟩
theorem lj_ok : JOk 3 10 7 := ⟨by decide, by decide, by decide, by decide, by decide⟩
theorem lj_ok8 : JOk 3 10 8 := ⟨by decide, by decide, by decide, by decide, by decide⟩
set_option maxRecDepth 100000 in
set_option maxHeartbeats 4000000 in
theorem jl_at (p q : Option Addr) (L M : List PageT) (c d : Nat) (w : World) (hL : Lst w) (hp : Pgs w p L) (hq : Pgs w q M) (h1 : 1 ≤ L.length) (h2 : L.length ≤ 8) (h3 : 1 ≤ M.length) (h4 : M.length ≤ 8) (hf : FewP L) (hf2 : FewP M) (hs : ¬ AllS L) :
    Calls Tryd.prog 6 #[.slice p L.length c, .slice q M.length d, .bool true] w fun e w' => e = .returned (.bool true) ∧ Below w.heap.size w w' := by
  have HNS := hid hs
  clear hs
  have HL := hid hL
  have HP := hid hL.pos
  have HG := hid hp
  have HGQ := hid hq
  obtain ⟨n, hn⟩ : ∃ n, L.length = n := ⟨_, rfl⟩
  obtain ⟨m, hm⟩ : ∃ n, M.length = n := ⟨_, rfl⟩
  have HN := hid hn
  have HM := hid hm
  have HF1 := hid (few_any L p c w hp true ⟨(fun _ => hf), (fun _ => rfl)⟩)
  have HF2 := hid fun (V : World) (hv : Below w.heap.size w V) => few_any M q d V (hq.below hv) true ⟨(fun _ => hf2), (fun _ => rfl)⟩
  rw [hn] at h1 h2
  rw [hm] at h3 h4
  rw [hn] at HF1
  rw [hm] at HF2
  rw [hn, hm]
  have a1 : decide ((n : Int) < 1) = false := by first | (simp; done) | (simp; omega) | (rw [decide_eq_false_iff_not]; omega)
  have a2 : decide (n < 1) = false := by first | (simp; done) | (simp; omega) | (rw [decide_eq_false_iff_not]; omega)
  have a5 : (n == 0) = false := by simp; omega
  have a3 : decide ((8 : Int) < (n : Int)) = false := by first | (simp; done) | (simp; omega)
  have a4 : decide (8 < n) = false := by first | (simp; done) | (simp; omega)
  have b1 : decide ((m : Int) < 1) = false := by first | (simp; done) | (simp; omega) | (rw [decide_eq_false_iff_not]; omega)
  have b2 : decide (m < 1) = false := by first | (simp; done) | (simp; omega) | (rw [decide_eq_false_iff_not]; omega)
  have b5 : (m == 0) = false := by simp; omega
  have b3 : decide ((8 : Int) < (m : Int)) = false := by first | (simp; done) | (simp; omega)
  have b4 : decide (8 < m) = false := by first | (simp; done) | (simp; omega)
  have HH1 := hid h1; have HH2 := hid h2; have HH3 := hid h3; have HH4 := hid h4
  clear h1 h2 h3 h4 hf hf2
  clear hL hp hq hn hm
  go_enter Tryd.func6, Tryd.ntmps6
  go_wp2_with fail
  refine HF1.out.mono ?_
  rintro e w1 ⟨rfl, hb⟩
  have HB1 := hid hb
  clear hb HF1
  go_wp2_with fail
  refine (HF2.out _ HB1.out).mono ?_
  rintro e w2 ⟨rfl, hb⟩
  have HB2 := hid (HB1.out.trans (hb.mono HB1.out.size))
  clear hb HF2 HB1
  go_wp2_with fail
  refine (dnew 20 w2 (by decide) (by decide)).mono ?_
  rintro e w3 ⟨D, rfl, hc, hb⟩
  have HB3 := hid (HB2.out.trans (hb.mono HB2.out.size))
  have HK3 := hid (KS.of (K := fun j => j < w2.heap.size) hb)
  have HP2 := hid (show 0 < w2.heap.size from Nat.lt_of_lt_of_le HP.out HB2.out.size)
  have HOK := hid lj_ok
  have HN3 := hid (show Calls Tryd.prog 9 #[.pointer (some ⟨D, 0, none⟩), .int .i64 3, .int .i64 10, .int .i64 7] w3 fun e w' => e = .returned (.tuple #[.pointer (some ⟨w3.heap.size, 0, none⟩), .int .i64 0]) ∧ Jk (fun j => j < w2.heap.size ∨ j = w3.heap.size) w3.heap.size D w' (newS (blanks 20)) 3 10 7 ∧ Below w3.heap.size w3 w' from jnew_jk hc (HL.out.next HP.out HB3.out) HP2.out 3 10 7 lj_ok (by decide))
  have HW23 := hid hb.size
  clear hc hb
  go_wp2_with fail
  refine HN3.out.mono ?_
  rintro e w4 ⟨rfl, hj, hb⟩
  have HJ4 := hid hj
  have HK4 := hid (HK3.out.trans (KS.of hb))
  clear hj hb HN3 HK3
  have HC4 := hid (jcom_any HJ4.out lj_ok (few_new _) p L c (by have := HN.out; have := HH2.out; omega) (HG.out.below (below_ks HB2.out HK4.out)) (fun g off e h => by
    obtain ⟨g', off', e', hl, _⟩ := HG.out 0 h
    rw [e] at e'
    injection e' with e'; injection e' with e1 e2
    subst e1
    exact .inl (Nat.lt_of_lt_of_le hl HB2.out.size)) (by have := HN.out; have := HH1.out; omega) (by have := HN.out; have := HH2.out; omega))
  rw [HN.out] at HC4
  have HF5 := hid (comR_few (few_new (blanks 20)) 3 7 L)
  have HS5 := hid (comR_fuse (s := newS (blanks 20)) rfl 3 7 L)
  have HG5 := hid (show (comR (newS (blanks 20)) 3 7 L).2.pages.length = 20 by rw [comR_len]; decide)
  obtain ⟨ca, hca⟩ : ∃ x, (comR (newS (blanks 20)) 3 7 L).1 = x := ⟨_, rfl⟩
  rw [hca] at HC4
  have HCA := hid hca
  clear hca
  generalize (comR (newS (blanks 20)) 3 7 L).2 = s5 at *
  go_wp2_with fail
  refine HC4.out.mono ?_
  rintro e w5 ⟨rfl, hc, hks⟩
  have HJ5 := hid (HJ4.out.step hc hks)
  have HK5 := hid (HK4.out.trans (KS.less hks (fun j e => .inl e)))
  clear hc hks HC4 HJ4 HK4
  go_wp2_with fail
  have HNX := hid (show Calls Tryd.prog 13 #[.pointer (some ⟨w3.heap.size, 0, none⟩)] w5 fun e w' => e = .returned (.int .i64 0) ∧ w' = w5.setCell ⟨w3.heap.size, 3, none⟩ (.int .i64 8) from next_ok HJ5.out.j (by decide))
  refine HNX.out.mono ?_
  rintro e w6 ⟨rfl, hw⟩
  have HJ6 := hid (show Jk (fun j => j < w2.heap.size ∨ j = w3.heap.size) w3.heap.size D w6 s5 3 10 8 by rw [hw]; exact HJ5.out.tx 8)
  have HK6 := hid (show KS (fun j => j < w2.heap.size) w2 w6 by rw [hw]; exact KS.set HK5.out _ _ _ HW23.out)
  clear hw HNX HJ5 HK5
  go_wp2_with fail
  have HC6 := hid (jcom_any HJ6.out lj_ok8 HF5.out q M d (by have := HN.out; have := HH2.out; have := HM.out; have := HH4.out; omega) (HGQ.out.below (below_ks HB2.out HK6.out)) (fun g off e h => by
    obtain ⟨g', off', e', hl, _⟩ := HGQ.out 0 h
    rw [e] at e'
    injection e' with e'; injection e' with e1 e2
    subst e1
    exact .inl (Nat.lt_of_lt_of_le hl HB2.out.size)) (by have := HM.out; have := HH3.out; omega) (by have := HM.out; have := HH4.out; omega))
  rw [HM.out] at HC6
  have HF7 := hid (comR_few HF5.out 3 8 M)
  have HG7 := hid (show (comR s5 3 8 M).2.pages.length = 20 by rw [comR_len]; exact HG5.out)
  obtain ⟨cb, hcb⟩ : ∃ x, (comR s5 3 8 M).1 = x := ⟨_, rfl⟩
  rw [hcb] at HC6
  have HCB := hid hcb
  clear hcb
  obtain ⟨s7, hs7⟩ : ∃ x, (comR s5 3 8 M).2 = x := ⟨_, rfl⟩
  have HS7 := hid hs7
  rw [hs7] at HC6 HF7 HG7
  clear hs7
  refine HC6.out.mono ?_
  rintro e w7 ⟨rfl, hc, hks⟩
  have HJ7 := hid (HJ6.out.step hc hks)
  have HK7 := hid (HK6.out.trans (KS.less hks (fun j e => .inl e)))
  clear hc hks HC6 HJ6 HK6
  obtain rfl : ca = 1 := by rw [← HCA.out, comR_no HNS.out]
  go_wp2_with fail
  refine (live_any _ HJ7.out.lst).mono ?_
  rintro e w99 ⟨rfl, hb⟩
  have HB9 := hid (hb.mono (below_ks HB2.out HK7.out).size)
  have HB8 := hid ((below_ks HB2.out HK7.out).trans HB9.out)
  clear hb
  go_wp2_with fail
  go_ret
  exact ⟨rfl, HB8.out⟩
set_option maxRecDepth 100000 in
set_option maxHeartbeats 4000000 in
theorem jl_bt (p q : Option Addr) (L M : List PageT) (c d : Nat) (w : World) (hL : Lst w) (hp : Pgs w p L) (hq : Pgs w q M) (h1 : 1 ≤ L.length) (h2 : L.length ≤ 8) (h3 : 1 ≤ M.length) (h4 : M.length ≤ 8) (hf : FewP L) (hf2 : FewP M) (hs0 : AllS L) (hs : ¬ AllS M) :
    Calls Tryd.prog 6 #[.slice p L.length c, .slice q M.length d, .bool true] w fun e w' => e = .returned (.bool true) ∧ Below w.heap.size w w' := by
  have HNS := hid hs
  have HYS := hid hs0
  clear hs hs0
  have HL := hid hL
  have HP := hid hL.pos
  have HG := hid hp
  have HGQ := hid hq
  obtain ⟨n, hn⟩ : ∃ n, L.length = n := ⟨_, rfl⟩
  obtain ⟨m, hm⟩ : ∃ n, M.length = n := ⟨_, rfl⟩
  have HN := hid hn
  have HM := hid hm
  have HF1 := hid (few_any L p c w hp true ⟨(fun _ => hf), (fun _ => rfl)⟩)
  have HF2 := hid fun (V : World) (hv : Below w.heap.size w V) => few_any M q d V (hq.below hv) true ⟨(fun _ => hf2), (fun _ => rfl)⟩
  rw [hn] at h1 h2
  rw [hm] at h3 h4
  rw [hn] at HF1
  rw [hm] at HF2
  rw [hn, hm]
  have a1 : decide ((n : Int) < 1) = false := by first | (simp; done) | (simp; omega) | (rw [decide_eq_false_iff_not]; omega)
  have a2 : decide (n < 1) = false := by first | (simp; done) | (simp; omega) | (rw [decide_eq_false_iff_not]; omega)
  have a5 : (n == 0) = false := by simp; omega
  have a3 : decide ((8 : Int) < (n : Int)) = false := by first | (simp; done) | (simp; omega)
  have a4 : decide (8 < n) = false := by first | (simp; done) | (simp; omega)
  have b1 : decide ((m : Int) < 1) = false := by first | (simp; done) | (simp; omega) | (rw [decide_eq_false_iff_not]; omega)
  have b2 : decide (m < 1) = false := by first | (simp; done) | (simp; omega) | (rw [decide_eq_false_iff_not]; omega)
  have b5 : (m == 0) = false := by simp; omega
  have b3 : decide ((8 : Int) < (m : Int)) = false := by first | (simp; done) | (simp; omega)
  have b4 : decide (8 < m) = false := by first | (simp; done) | (simp; omega)
  have HH1 := hid h1; have HH2 := hid h2; have HH3 := hid h3; have HH4 := hid h4
  clear h1 h2 h3 h4 hf hf2
  clear hL hp hq hn hm
  go_enter Tryd.func6, Tryd.ntmps6
  go_wp2_with fail
  refine HF1.out.mono ?_
  rintro e w1 ⟨rfl, hb⟩
  have HB1 := hid hb
  clear hb HF1
  go_wp2_with fail
  refine (HF2.out _ HB1.out).mono ?_
  rintro e w2 ⟨rfl, hb⟩
  have HB2 := hid (HB1.out.trans (hb.mono HB1.out.size))
  clear hb HF2 HB1
  go_wp2_with fail
  refine (dnew 20 w2 (by decide) (by decide)).mono ?_
  rintro e w3 ⟨D, rfl, hc, hb⟩
  have HB3 := hid (HB2.out.trans (hb.mono HB2.out.size))
  have HK3 := hid (KS.of (K := fun j => j < w2.heap.size) hb)
  have HP2 := hid (show 0 < w2.heap.size from Nat.lt_of_lt_of_le HP.out HB2.out.size)
  have HOK := hid lj_ok
  have HN3 := hid (show Calls Tryd.prog 9 #[.pointer (some ⟨D, 0, none⟩), .int .i64 3, .int .i64 10, .int .i64 7] w3 fun e w' => e = .returned (.tuple #[.pointer (some ⟨w3.heap.size, 0, none⟩), .int .i64 0]) ∧ Jk (fun j => j < w2.heap.size ∨ j = w3.heap.size) w3.heap.size D w' (newS (blanks 20)) 3 10 7 ∧ Below w3.heap.size w3 w' from jnew_jk hc (HL.out.next HP.out HB3.out) HP2.out 3 10 7 lj_ok (by decide))
  have HW23 := hid hb.size
  clear hc hb
  go_wp2_with fail
  refine HN3.out.mono ?_
  rintro e w4 ⟨rfl, hj, hb⟩
  have HJ4 := hid hj
  have HK4 := hid (HK3.out.trans (KS.of hb))
  clear hj hb HN3 HK3
  have HC4 := hid (jcom_any HJ4.out lj_ok (few_new _) p L c (by have := HN.out; have := HH2.out; omega) (HG.out.below (below_ks HB2.out HK4.out)) (fun g off e h => by
    obtain ⟨g', off', e', hl, _⟩ := HG.out 0 h
    rw [e] at e'
    injection e' with e'; injection e' with e1 e2
    subst e1
    exact .inl (Nat.lt_of_lt_of_le hl HB2.out.size)) (by have := HN.out; have := HH1.out; omega) (by have := HN.out; have := HH2.out; omega))
  rw [HN.out] at HC4
  have HF5 := hid (comR_few (few_new (blanks 20)) 3 7 L)
  have HS5 := hid (comR_fuse (s := newS (blanks 20)) rfl 3 7 L)
  have HG5 := hid (show (comR (newS (blanks 20)) 3 7 L).2.pages.length = 20 by rw [comR_len]; decide)
  obtain ⟨ca, hca⟩ : ∃ x, (comR (newS (blanks 20)) 3 7 L).1 = x := ⟨_, rfl⟩
  rw [hca] at HC4
  have HCA := hid hca
  clear hca
  generalize (comR (newS (blanks 20)) 3 7 L).2 = s5 at *
  go_wp2_with fail
  refine HC4.out.mono ?_
  rintro e w5 ⟨rfl, hc, hks⟩
  have HJ5 := hid (HJ4.out.step hc hks)
  have HK5 := hid (HK4.out.trans (KS.less hks (fun j e => .inl e)))
  clear hc hks HC4 HJ4 HK4
  go_wp2_with fail
  have HNX := hid (show Calls Tryd.prog 13 #[.pointer (some ⟨w3.heap.size, 0, none⟩)] w5 fun e w' => e = .returned (.int .i64 0) ∧ w' = w5.setCell ⟨w3.heap.size, 3, none⟩ (.int .i64 8) from next_ok HJ5.out.j (by decide))
  refine HNX.out.mono ?_
  rintro e w6 ⟨rfl, hw⟩
  have HJ6 := hid (show Jk (fun j => j < w2.heap.size ∨ j = w3.heap.size) w3.heap.size D w6 s5 3 10 8 by rw [hw]; exact HJ5.out.tx 8)
  have HK6 := hid (show KS (fun j => j < w2.heap.size) w2 w6 by rw [hw]; exact KS.set HK5.out _ _ _ HW23.out)
  clear hw HNX HJ5 HK5
  go_wp2_with fail
  have HC6 := hid (jcom_any HJ6.out lj_ok8 HF5.out q M d (by have := HN.out; have := HH2.out; have := HM.out; have := HH4.out; omega) (HGQ.out.below (below_ks HB2.out HK6.out)) (fun g off e h => by
    obtain ⟨g', off', e', hl, _⟩ := HGQ.out 0 h
    rw [e] at e'
    injection e' with e'; injection e' with e1 e2
    subst e1
    exact .inl (Nat.lt_of_lt_of_le hl HB2.out.size)) (by have := HM.out; have := HH3.out; omega) (by have := HM.out; have := HH4.out; omega))
  rw [HM.out] at HC6
  have HF7 := hid (comR_few HF5.out 3 8 M)
  have HG7 := hid (show (comR s5 3 8 M).2.pages.length = 20 by rw [comR_len]; exact HG5.out)
  obtain ⟨cb, hcb⟩ : ∃ x, (comR s5 3 8 M).1 = x := ⟨_, rfl⟩
  rw [hcb] at HC6
  have HCB := hid hcb
  clear hcb
  obtain ⟨s7, hs7⟩ : ∃ x, (comR s5 3 8 M).2 = x := ⟨_, rfl⟩
  have HS7 := hid hs7
  rw [hs7] at HC6 HF7 HG7
  clear hs7
  refine HC6.out.mono ?_
  rintro e w7 ⟨rfl, hc, hks⟩
  have HJ7 := hid (HJ6.out.step hc hks)
  have HK7 := hid (HK6.out.trans (KS.less hks (fun j e => .inl e)))
  clear hc hks HC6 HJ6 HK6
  obtain rfl : ca = 0 := by rw [← HCA.out, comR_yes HYS.out]
  obtain rfl : cb = 1 := by rw [← HCB.out, comR_no HNS.out]
  go_wp2_with fail
  refine (live_any _ HJ7.out.lst).mono ?_
  rintro e w99 ⟨rfl, hb⟩
  have HB9 := hid (hb.mono (below_ks HB2.out HK7.out).size)
  have HB8 := hid ((below_ks HB2.out HK7.out).trans HB9.out)
  clear hb
  go_wp2_with fail
  go_ret
  exact ⟨rfl, HB8.out⟩
set_option maxRecDepth 100000 in
set_option maxHeartbeats 4000000 in
theorem jl_yt (p q : Option Addr) (L M : List PageT) (c d : Nat) (w : World) (hL : Lst w) (hp : Pgs w p L) (hq : Pgs w q M) (h1 : 1 ≤ L.length) (h2 : L.length ≤ 8) (h3 : 1 ≤ M.length) (h4 : M.length ≤ 8) (hf : FewP L) (hf2 : FewP M) (hs0 : AllS L) (hs : AllS M) :
    Calls Tryd.prog 6 #[.slice p L.length c, .slice q M.length d, .bool true] w fun e w' => e = .returned (.bool true) ∧ Below w.heap.size w w' := by
  have HYM := hid hs
  have HYS := hid hs0
  clear hs hs0
  have HL := hid hL
  have HP := hid hL.pos
  have HG := hid hp
  have HGQ := hid hq
  obtain ⟨n, hn⟩ : ∃ n, L.length = n := ⟨_, rfl⟩
  obtain ⟨m, hm⟩ : ∃ n, M.length = n := ⟨_, rfl⟩
  have HN := hid hn
  have HM := hid hm
  have HF1 := hid (few_any L p c w hp true ⟨(fun _ => hf), (fun _ => rfl)⟩)
  have HF2 := hid fun (V : World) (hv : Below w.heap.size w V) => few_any M q d V (hq.below hv) true ⟨(fun _ => hf2), (fun _ => rfl)⟩
  rw [hn] at h1 h2
  rw [hm] at h3 h4
  rw [hn] at HF1
  rw [hm] at HF2
  rw [hn, hm]
  have a1 : decide ((n : Int) < 1) = false := by first | (simp; done) | (simp; omega) | (rw [decide_eq_false_iff_not]; omega)
  have a2 : decide (n < 1) = false := by first | (simp; done) | (simp; omega) | (rw [decide_eq_false_iff_not]; omega)
  have a5 : (n == 0) = false := by simp; omega
  have a3 : decide ((8 : Int) < (n : Int)) = false := by first | (simp; done) | (simp; omega)
  have a4 : decide (8 < n) = false := by first | (simp; done) | (simp; omega)
  have b1 : decide ((m : Int) < 1) = false := by first | (simp; done) | (simp; omega) | (rw [decide_eq_false_iff_not]; omega)
  have b2 : decide (m < 1) = false := by first | (simp; done) | (simp; omega) | (rw [decide_eq_false_iff_not]; omega)
  have b5 : (m == 0) = false := by simp; omega
  have b3 : decide ((8 : Int) < (m : Int)) = false := by first | (simp; done) | (simp; omega)
  have b4 : decide (8 < m) = false := by first | (simp; done) | (simp; omega)
  have HH1 := hid h1; have HH2 := hid h2; have HH3 := hid h3; have HH4 := hid h4
  clear h1 h2 h3 h4 hf hf2
  clear hL hp hq hn hm
  go_enter Tryd.func6, Tryd.ntmps6
  go_wp2_with fail
  refine HF1.out.mono ?_
  rintro e w1 ⟨rfl, hb⟩
  have HB1 := hid hb
  clear hb HF1
  go_wp2_with fail
  refine (HF2.out _ HB1.out).mono ?_
  rintro e w2 ⟨rfl, hb⟩
  have HB2 := hid (HB1.out.trans (hb.mono HB1.out.size))
  clear hb HF2 HB1
  go_wp2_with fail
  refine (dnew 20 w2 (by decide) (by decide)).mono ?_
  rintro e w3 ⟨D, rfl, hc, hb⟩
  have HB3 := hid (HB2.out.trans (hb.mono HB2.out.size))
  have HK3 := hid (KS.of (K := fun j => j < w2.heap.size) hb)
  have HP2 := hid (show 0 < w2.heap.size from Nat.lt_of_lt_of_le HP.out HB2.out.size)
  have HOK := hid lj_ok
  have HN3 := hid (show Calls Tryd.prog 9 #[.pointer (some ⟨D, 0, none⟩), .int .i64 3, .int .i64 10, .int .i64 7] w3 fun e w' => e = .returned (.tuple #[.pointer (some ⟨w3.heap.size, 0, none⟩), .int .i64 0]) ∧ Jk (fun j => j < w2.heap.size ∨ j = w3.heap.size) w3.heap.size D w' (newS (blanks 20)) 3 10 7 ∧ Below w3.heap.size w3 w' from jnew_jk hc (HL.out.next HP.out HB3.out) HP2.out 3 10 7 lj_ok (by decide))
  have HW23 := hid hb.size
  clear hc hb
  go_wp2_with fail
  refine HN3.out.mono ?_
  rintro e w4 ⟨rfl, hj, hb⟩
  have HJ4 := hid hj
  have HK4 := hid (HK3.out.trans (KS.of hb))
  clear hj hb HN3 HK3
  have HC4 := hid (jcom_any HJ4.out lj_ok (few_new _) p L c (by have := HN.out; have := HH2.out; omega) (HG.out.below (below_ks HB2.out HK4.out)) (fun g off e h => by
    obtain ⟨g', off', e', hl, _⟩ := HG.out 0 h
    rw [e] at e'
    injection e' with e'; injection e' with e1 e2
    subst e1
    exact .inl (Nat.lt_of_lt_of_le hl HB2.out.size)) (by have := HN.out; have := HH1.out; omega) (by have := HN.out; have := HH2.out; omega))
  rw [HN.out] at HC4
  have HF5 := hid (comR_few (few_new (blanks 20)) 3 7 L)
  have HS5 := hid (comR_fuse (s := newS (blanks 20)) rfl 3 7 L)
  have HG5 := hid (show (comR (newS (blanks 20)) 3 7 L).2.pages.length = 20 by rw [comR_len]; decide)
  obtain ⟨ca, hca⟩ : ∃ x, (comR (newS (blanks 20)) 3 7 L).1 = x := ⟨_, rfl⟩
  rw [hca] at HC4
  have HCA := hid hca
  clear hca
  generalize (comR (newS (blanks 20)) 3 7 L).2 = s5 at *
  go_wp2_with fail
  refine HC4.out.mono ?_
  rintro e w5 ⟨rfl, hc, hks⟩
  have HJ5 := hid (HJ4.out.step hc hks)
  have HK5 := hid (HK4.out.trans (KS.less hks (fun j e => .inl e)))
  clear hc hks HC4 HJ4 HK4
  go_wp2_with fail
  have HNX := hid (show Calls Tryd.prog 13 #[.pointer (some ⟨w3.heap.size, 0, none⟩)] w5 fun e w' => e = .returned (.int .i64 0) ∧ w' = w5.setCell ⟨w3.heap.size, 3, none⟩ (.int .i64 8) from next_ok HJ5.out.j (by decide))
  refine HNX.out.mono ?_
  rintro e w6 ⟨rfl, hw⟩
  have HJ6 := hid (show Jk (fun j => j < w2.heap.size ∨ j = w3.heap.size) w3.heap.size D w6 s5 3 10 8 by rw [hw]; exact HJ5.out.tx 8)
  have HK6 := hid (show KS (fun j => j < w2.heap.size) w2 w6 by rw [hw]; exact KS.set HK5.out _ _ _ HW23.out)
  clear hw HNX HJ5 HK5
  go_wp2_with fail
  have HC6 := hid (jcom_any HJ6.out lj_ok8 HF5.out q M d (by have := HN.out; have := HH2.out; have := HM.out; have := HH4.out; omega) (HGQ.out.below (below_ks HB2.out HK6.out)) (fun g off e h => by
    obtain ⟨g', off', e', hl, _⟩ := HGQ.out 0 h
    rw [e] at e'
    injection e' with e'; injection e' with e1 e2
    subst e1
    exact .inl (Nat.lt_of_lt_of_le hl HB2.out.size)) (by have := HM.out; have := HH3.out; omega) (by have := HM.out; have := HH4.out; omega))
  rw [HM.out] at HC6
  have HF7 := hid (comR_few HF5.out 3 8 M)
  have HG7 := hid (show (comR s5 3 8 M).2.pages.length = 20 by rw [comR_len]; exact HG5.out)
  obtain ⟨cb, hcb⟩ : ∃ x, (comR s5 3 8 M).1 = x := ⟨_, rfl⟩
  rw [hcb] at HC6
  have HCB := hid hcb
  clear hcb
  obtain ⟨s7, hs7⟩ : ∃ x, (comR s5 3 8 M).2 = x := ⟨_, rfl⟩
  have HS7 := hid hs7
  rw [hs7] at HC6 HF7 HG7
  clear hs7
  refine HC6.out.mono ?_
  rintro e w7 ⟨rfl, hc, hks⟩
  have HJ7 := hid (HJ6.out.step hc hks)
  have HK7 := hid (HK6.out.trans (KS.less hks (fun j e => .inl e)))
  clear hc hks HC6 HJ6 HK6
  obtain rfl : ca = 0 := by rw [← HCA.out, comR_yes HYS.out]
  obtain rfl : cb = 0 := by rw [← HCB.out, comR_yes HYM.out]
  have HSM := hid (show s7 = comS s5 3 8 M by rw [← HS7.out, comR_yes HYM.out])
  have HML := hid (show 0 < M.length by have := HM.out; have := HH3.out; omega)
  have HML2 := hid (show M.length < 10 by have := HM.out; have := HH4.out; omega)
  have HSC7 := hid (show Scans (vw s7) 3 10 8 0 [] (some M) by rw [HSM.out]; exact com_scan HS5.out lj_ok8 HML.out HYM.out HML2.out (by rw [HG5.out]; decide))
  have HSO7 := hid (show Scans (vw s7) 3 10 7 0 [] none by
    rw [HSM.out]
    exact scan_other (t' := 8) (by decide) (by rw [com_vw HS5.out lj_ok8 HML.out HYM.out HML2.out (by rw [HG5.out]; decide), if_pos ⟨by decide, by have := HML.out; omega⟩, stg_at HML.out]; exact isJ_pgJ (by decide) (by decide) (may1 8 0 (by decide) (by decide) (by decide) (HYM.out 0 HML.out)) (by decide)) (by decide))
  have HSC := hid (jscan HJ7.out lj_ok8 (by rw [HG7.out]; decide) HF7.out (by have := HN.out; have := HH2.out; have := HM.out; have := HH4.out; omega))
  go_wp2_with fail
  refine HSC.out.mono ?_
  rintro e w8 ⟨r, s8, K8, hr, he, hKK, hc, hks, hsm, hfw⟩
  obtain rfl := hr.det HSC7.out
  obtain ⟨pa, ca, rfl, hpa, hga⟩ := he
  have HC8 := hid hc
  have HL8 := hid (lst_ks HJ7.out.lst HJ7.out.k0 hks)
  have HKL := hid (show ∀ j, j < w2.heap.size → K8 j from fun j e => hKK j (.inl e))
  have HK8 := hid (HK7.out.trans (KS.less hks (fun j e => .inl e)))
  have HPA8 := hid hpa
  have HGA := hid hga
  have HSM8 := hid hsm
  have HF8 := hid hfw
  clear hr hpa hga hKK hc hks hsm hfw HSC HJ7 HK7
  rw [HM.out]
  have HN8 := hid (show Calls Tryd.prog 9 #[.pointer (some ⟨D, 0, none⟩), .int .i64 3, .int .i64 10, .int .i64 7] w8 fun e w' => e = .returned (.tuple #[.pointer (some ⟨w8.heap.size, 0, none⟩), .int .i64 0]) ∧ Jk (fun j => K8 j ∨ j = w8.heap.size) w8.heap.size D w' s8 3 10 7 ∧ Below w8.heap.size w8 w' from jnew_jk HC8.out HL8.out (HKL.out 0 HP2.out) 3 10 7 lj_ok (by rw [HSM8.out.pages, HG7.out]; decide))
  go_wp2_with fail
  refine HN8.out.mono ?_
  rintro e w9 ⟨rfl, hj, hb⟩
  have HJ9 := hid hj
  have HK9 := hid (HK8.out.trans (KS.of hb))
  have HPA9 := hid (HPA8.out.below hb)
  clear hj hb HN8 HK8 HC8 HPA8
  have HSC := hid (jscan HJ9.out lj_ok (by rw [HSM8.out.pages, HG7.out]; decide) HF8.out (by have := HN.out; have := HH2.out; have := HM.out; have := HH4.out; omega))
  go_wp2_with fail
  refine HSC.out.mono ?_
  rintro e w10 ⟨r, s10, K10, hr, he, hKK, hc, hks, hsm, hfw⟩
  rw [HSM8.out.vw] at hr
  obtain rfl := hr.det HSO7.out
  have he : e = .returned (.tuple #[.slice none 0 0, .bool false]) := he
  subst he
  have HL10 := hid (lst_ks HJ9.out.lst HJ9.out.k0 hks)
  have HK10 := hid (HK9.out.trans (KS.less hks (fun j e => .inl (HKL.out j e))))
  have HPA10 := hid (pgs_ks HPA9.out hks (fun g off e _ => .inl (HGA.out g off e).1))
  clear hr hKK hc hks hsm hfw HSC HJ9 HK9 HPA9
  have HEQ := hid (show Calls Tryd.prog 17 #[.slice pa m ca, .slice q m d] w10 fun e w' => e = .returned (.bool true) ∧ Below w10.heap.size w10 w' from by
    have h := pages_any M M pa q ca d w10 HPA10.out (HGQ.out.below (below_ks HB2.out HK10.out)) (by have := HML2.out; omega)
    rw [show decide (M = M) = true from decide_eq_true rfl, HM.out] at h; exact h)
  go_wp2_with fail
  refine HEQ.out.mono ?_
  rintro e w11 ⟨rfl, hb⟩
  have HL11 := hid (HL10.out.next HL10.out.pos hb)
  have HK11 := hid (HK10.out.trans (KS.of hb))
  clear hb
  go_wp2_with fail
  refine (live_any _ HL11.out).mono ?_
  rintro e w99 ⟨rfl, hb⟩
  have HB9 := hid (hb.mono (below_ks HB2.out HK11.out).size)
  have HB8 := hid ((below_ks HB2.out HK11.out).trans HB9.out)
  clear hb
  go_wp2_with fail
  go_ret
  exact ⟨rfl, HB8.out⟩
set_option maxRecDepth 100000 in
set_option maxHeartbeats 4000000 in
theorem jl_af (p q : Option Addr) (L M : List PageT) (c d : Nat) (w : World) (hL : Lst w) (hp : Pgs w p L) (hq : Pgs w q M) (h1 : 1 ≤ L.length) (h2 : L.length ≤ 8) (h3 : 1 ≤ M.length) (h4 : M.length ≤ 8) (hf : FewP L) (hf2 : FewP M) (hs : ¬ AllS L) :
    Calls Tryd.prog 6 #[.slice p L.length c, .slice q M.length d, .bool false] w fun e w' => e = .returned (.bool true) ∧ Below w.heap.size w w' := by
  have HNS := hid hs
  clear hs
  have HL := hid hL
  have HP := hid hL.pos
  have HG := hid hp
  have HGQ := hid hq
  obtain ⟨n, hn⟩ : ∃ n, L.length = n := ⟨_, rfl⟩
  obtain ⟨m, hm⟩ : ∃ n, M.length = n := ⟨_, rfl⟩
  have HN := hid hn
  have HM := hid hm
  have HF1 := hid (few_any L p c w hp true ⟨(fun _ => hf), (fun _ => rfl)⟩)
  have HF2 := hid fun (V : World) (hv : Below w.heap.size w V) => few_any M q d V (hq.below hv) true ⟨(fun _ => hf2), (fun _ => rfl)⟩
  rw [hn] at h1 h2
  rw [hm] at h3 h4
  rw [hn] at HF1
  rw [hm] at HF2
  rw [hn, hm]
  have a1 : decide ((n : Int) < 1) = false := by first | (simp; done) | (simp; omega) | (rw [decide_eq_false_iff_not]; omega)
  have a2 : decide (n < 1) = false := by first | (simp; done) | (simp; omega) | (rw [decide_eq_false_iff_not]; omega)
  have a5 : (n == 0) = false := by simp; omega
  have a3 : decide ((8 : Int) < (n : Int)) = false := by first | (simp; done) | (simp; omega)
  have a4 : decide (8 < n) = false := by first | (simp; done) | (simp; omega)
  have b1 : decide ((m : Int) < 1) = false := by first | (simp; done) | (simp; omega) | (rw [decide_eq_false_iff_not]; omega)
  have b2 : decide (m < 1) = false := by first | (simp; done) | (simp; omega) | (rw [decide_eq_false_iff_not]; omega)
  have b5 : (m == 0) = false := by simp; omega
  have b3 : decide ((8 : Int) < (m : Int)) = false := by first | (simp; done) | (simp; omega)
  have b4 : decide (8 < m) = false := by first | (simp; done) | (simp; omega)
  have HH1 := hid h1; have HH2 := hid h2; have HH3 := hid h3; have HH4 := hid h4
  clear h1 h2 h3 h4 hf hf2
  clear hL hp hq hn hm
  go_enter Tryd.func6, Tryd.ntmps6
  go_wp2_with fail
  refine HF1.out.mono ?_
  rintro e w1 ⟨rfl, hb⟩
  have HB1 := hid hb
  clear hb HF1
  go_wp2_with fail
  refine (HF2.out _ HB1.out).mono ?_
  rintro e w2 ⟨rfl, hb⟩
  have HB2 := hid (HB1.out.trans (hb.mono HB1.out.size))
  clear hb HF2 HB1
  go_wp2_with fail
  refine (dnew 20 w2 (by decide) (by decide)).mono ?_
  rintro e w3 ⟨D, rfl, hc, hb⟩
  have HB3 := hid (HB2.out.trans (hb.mono HB2.out.size))
  have HK3 := hid (KS.of (K := fun j => j < w2.heap.size) hb)
  have HP2 := hid (show 0 < w2.heap.size from Nat.lt_of_lt_of_le HP.out HB2.out.size)
  have HOK := hid lj_ok
  have HN3 := hid (show Calls Tryd.prog 9 #[.pointer (some ⟨D, 0, none⟩), .int .i64 3, .int .i64 10, .int .i64 7] w3 fun e w' => e = .returned (.tuple #[.pointer (some ⟨w3.heap.size, 0, none⟩), .int .i64 0]) ∧ Jk (fun j => j < w2.heap.size ∨ j = w3.heap.size) w3.heap.size D w' (newS (blanks 20)) 3 10 7 ∧ Below w3.heap.size w3 w' from jnew_jk hc (HL.out.next HP.out HB3.out) HP2.out 3 10 7 lj_ok (by decide))
  have HW23 := hid hb.size
  clear hc hb
  go_wp2_with fail
  refine HN3.out.mono ?_
  rintro e w4 ⟨rfl, hj, hb⟩
  have HJ4 := hid hj
  have HK4 := hid (HK3.out.trans (KS.of hb))
  clear hj hb HN3 HK3
  have HC4 := hid (jcom_any HJ4.out lj_ok (few_new _) p L c (by have := HN.out; have := HH2.out; omega) (HG.out.below (below_ks HB2.out HK4.out)) (fun g off e h => by
    obtain ⟨g', off', e', hl, _⟩ := HG.out 0 h
    rw [e] at e'
    injection e' with e'; injection e' with e1 e2
    subst e1
    exact .inl (Nat.lt_of_lt_of_le hl HB2.out.size)) (by have := HN.out; have := HH1.out; omega) (by have := HN.out; have := HH2.out; omega))
  rw [HN.out] at HC4
  have HF5 := hid (comR_few (few_new (blanks 20)) 3 7 L)
  have HS5 := hid (comR_fuse (s := newS (blanks 20)) rfl 3 7 L)
  have HG5 := hid (show (comR (newS (blanks 20)) 3 7 L).2.pages.length = 20 by rw [comR_len]; decide)
  obtain ⟨ca, hca⟩ : ∃ x, (comR (newS (blanks 20)) 3 7 L).1 = x := ⟨_, rfl⟩
  rw [hca] at HC4
  have HCA := hid hca
  clear hca
  generalize (comR (newS (blanks 20)) 3 7 L).2 = s5 at *
  go_wp2_with fail
  refine HC4.out.mono ?_
  rintro e w5 ⟨rfl, hc, hks⟩
  have HJ5 := hid (HJ4.out.step hc hks)
  have HK5 := hid (HK4.out.trans (KS.less hks (fun j e => .inl e)))
  clear hc hks HC4 HJ4 HK4
  go_wp2_with fail
  have HJ6 := HJ5
  have HK6 := HK5
  obtain ⟨w6, hw6⟩ : ∃ x, x = w5 := ⟨_, rfl⟩
  rw [← hw6] at HJ6 HK6 ⊢
  clear HJ5 HK5 hw6
  have HC6 := hid (jcom_any HJ6.out lj_ok HF5.out q M d (by have := HN.out; have := HH2.out; have := HM.out; have := HH4.out; omega) (HGQ.out.below (below_ks HB2.out HK6.out)) (fun g off e h => by
    obtain ⟨g', off', e', hl, _⟩ := HGQ.out 0 h
    rw [e] at e'
    injection e' with e'; injection e' with e1 e2
    subst e1
    exact .inl (Nat.lt_of_lt_of_le hl HB2.out.size)) (by have := HM.out; have := HH3.out; omega) (by have := HM.out; have := HH4.out; omega))
  rw [HM.out] at HC6
  have HF7 := hid (comR_few HF5.out 3 7 M)
  have HG7 := hid (show (comR s5 3 7 M).2.pages.length = 20 by rw [comR_len]; exact HG5.out)
  obtain ⟨cb, hcb⟩ : ∃ x, (comR s5 3 7 M).1 = x := ⟨_, rfl⟩
  rw [hcb] at HC6
  have HCB := hid hcb
  clear hcb
  obtain ⟨s7, hs7⟩ : ∃ x, (comR s5 3 7 M).2 = x := ⟨_, rfl⟩
  have HS7 := hid hs7
  rw [hs7] at HC6 HF7 HG7
  clear hs7
  refine HC6.out.mono ?_
  rintro e w7 ⟨rfl, hc, hks⟩
  have HJ7 := hid (HJ6.out.step hc hks)
  have HK7 := hid (HK6.out.trans (KS.less hks (fun j e => .inl e)))
  clear hc hks HC6 HJ6 HK6
  obtain rfl : ca = 1 := by rw [← HCA.out, comR_no HNS.out]
  go_wp2_with fail
  refine (live_any _ HJ7.out.lst).mono ?_
  rintro e w99 ⟨rfl, hb⟩
  have HB9 := hid (hb.mono (below_ks HB2.out HK7.out).size)
  have HB8 := hid ((below_ks HB2.out HK7.out).trans HB9.out)
  clear hb
  go_wp2_with fail
  go_ret
  exact ⟨rfl, HB8.out⟩
set_option maxRecDepth 100000 in
set_option maxHeartbeats 4000000 in
theorem jl_bf (p q : Option Addr) (L M : List PageT) (c d : Nat) (w : World) (hL : Lst w) (hp : Pgs w p L) (hq : Pgs w q M) (h1 : 1 ≤ L.length) (h2 : L.length ≤ 8) (h3 : 1 ≤ M.length) (h4 : M.length ≤ 8) (hf : FewP L) (hf2 : FewP M) (hs0 : AllS L) (hs : ¬ AllS M) :
    Calls Tryd.prog 6 #[.slice p L.length c, .slice q M.length d, .bool false] w fun e w' => e = .returned (.bool true) ∧ Below w.heap.size w w' := by
  have HNS := hid hs
  have HYS := hid hs0
  clear hs hs0
  have HL := hid hL
  have HP := hid hL.pos
  have HG := hid hp
  have HGQ := hid hq
  obtain ⟨n, hn⟩ : ∃ n, L.length = n := ⟨_, rfl⟩
  obtain ⟨m, hm⟩ : ∃ n, M.length = n := ⟨_, rfl⟩
  have HN := hid hn
  have HM := hid hm
  have HF1 := hid (few_any L p c w hp true ⟨(fun _ => hf), (fun _ => rfl)⟩)
  have HF2 := hid fun (V : World) (hv : Below w.heap.size w V) => few_any M q d V (hq.below hv) true ⟨(fun _ => hf2), (fun _ => rfl)⟩
  rw [hn] at h1 h2
  rw [hm] at h3 h4
  rw [hn] at HF1
  rw [hm] at HF2
  rw [hn, hm]
  have a1 : decide ((n : Int) < 1) = false := by first | (simp; done) | (simp; omega) | (rw [decide_eq_false_iff_not]; omega)
  have a2 : decide (n < 1) = false := by first | (simp; done) | (simp; omega) | (rw [decide_eq_false_iff_not]; omega)
  have a5 : (n == 0) = false := by simp; omega
  have a3 : decide ((8 : Int) < (n : Int)) = false := by first | (simp; done) | (simp; omega)
  have a4 : decide (8 < n) = false := by first | (simp; done) | (simp; omega)
  have b1 : decide ((m : Int) < 1) = false := by first | (simp; done) | (simp; omega) | (rw [decide_eq_false_iff_not]; omega)
  have b2 : decide (m < 1) = false := by first | (simp; done) | (simp; omega) | (rw [decide_eq_false_iff_not]; omega)
  have b5 : (m == 0) = false := by simp; omega
  have b3 : decide ((8 : Int) < (m : Int)) = false := by first | (simp; done) | (simp; omega)
  have b4 : decide (8 < m) = false := by first | (simp; done) | (simp; omega)
  have HH1 := hid h1; have HH2 := hid h2; have HH3 := hid h3; have HH4 := hid h4
  clear h1 h2 h3 h4 hf hf2
  clear hL hp hq hn hm
  go_enter Tryd.func6, Tryd.ntmps6
  go_wp2_with fail
  refine HF1.out.mono ?_
  rintro e w1 ⟨rfl, hb⟩
  have HB1 := hid hb
  clear hb HF1
  go_wp2_with fail
  refine (HF2.out _ HB1.out).mono ?_
  rintro e w2 ⟨rfl, hb⟩
  have HB2 := hid (HB1.out.trans (hb.mono HB1.out.size))
  clear hb HF2 HB1
  go_wp2_with fail
  refine (dnew 20 w2 (by decide) (by decide)).mono ?_
  rintro e w3 ⟨D, rfl, hc, hb⟩
  have HB3 := hid (HB2.out.trans (hb.mono HB2.out.size))
  have HK3 := hid (KS.of (K := fun j => j < w2.heap.size) hb)
  have HP2 := hid (show 0 < w2.heap.size from Nat.lt_of_lt_of_le HP.out HB2.out.size)
  have HOK := hid lj_ok
  have HN3 := hid (show Calls Tryd.prog 9 #[.pointer (some ⟨D, 0, none⟩), .int .i64 3, .int .i64 10, .int .i64 7] w3 fun e w' => e = .returned (.tuple #[.pointer (some ⟨w3.heap.size, 0, none⟩), .int .i64 0]) ∧ Jk (fun j => j < w2.heap.size ∨ j = w3.heap.size) w3.heap.size D w' (newS (blanks 20)) 3 10 7 ∧ Below w3.heap.size w3 w' from jnew_jk hc (HL.out.next HP.out HB3.out) HP2.out 3 10 7 lj_ok (by decide))
  have HW23 := hid hb.size
  clear hc hb
  go_wp2_with fail
  refine HN3.out.mono ?_
  rintro e w4 ⟨rfl, hj, hb⟩
  have HJ4 := hid hj
  have HK4 := hid (HK3.out.trans (KS.of hb))
  clear hj hb HN3 HK3
  have HC4 := hid (jcom_any HJ4.out lj_ok (few_new _) p L c (by have := HN.out; have := HH2.out; omega) (HG.out.below (below_ks HB2.out HK4.out)) (fun g off e h => by
    obtain ⟨g', off', e', hl, _⟩ := HG.out 0 h
    rw [e] at e'
    injection e' with e'; injection e' with e1 e2
    subst e1
    exact .inl (Nat.lt_of_lt_of_le hl HB2.out.size)) (by have := HN.out; have := HH1.out; omega) (by have := HN.out; have := HH2.out; omega))
  rw [HN.out] at HC4
  have HF5 := hid (comR_few (few_new (blanks 20)) 3 7 L)
  have HS5 := hid (comR_fuse (s := newS (blanks 20)) rfl 3 7 L)
  have HG5 := hid (show (comR (newS (blanks 20)) 3 7 L).2.pages.length = 20 by rw [comR_len]; decide)
  obtain ⟨ca, hca⟩ : ∃ x, (comR (newS (blanks 20)) 3 7 L).1 = x := ⟨_, rfl⟩
  rw [hca] at HC4
  have HCA := hid hca
  clear hca
  generalize (comR (newS (blanks 20)) 3 7 L).2 = s5 at *
  go_wp2_with fail
  refine HC4.out.mono ?_
  rintro e w5 ⟨rfl, hc, hks⟩
  have HJ5 := hid (HJ4.out.step hc hks)
  have HK5 := hid (HK4.out.trans (KS.less hks (fun j e => .inl e)))
  clear hc hks HC4 HJ4 HK4
  go_wp2_with fail
  have HJ6 := HJ5
  have HK6 := HK5
  obtain ⟨w6, hw6⟩ : ∃ x, x = w5 := ⟨_, rfl⟩
  rw [← hw6] at HJ6 HK6 ⊢
  clear HJ5 HK5 hw6
  have HC6 := hid (jcom_any HJ6.out lj_ok HF5.out q M d (by have := HN.out; have := HH2.out; have := HM.out; have := HH4.out; omega) (HGQ.out.below (below_ks HB2.out HK6.out)) (fun g off e h => by
    obtain ⟨g', off', e', hl, _⟩ := HGQ.out 0 h
    rw [e] at e'
    injection e' with e'; injection e' with e1 e2
    subst e1
    exact .inl (Nat.lt_of_lt_of_le hl HB2.out.size)) (by have := HM.out; have := HH3.out; omega) (by have := HM.out; have := HH4.out; omega))
  rw [HM.out] at HC6
  have HF7 := hid (comR_few HF5.out 3 7 M)
  have HG7 := hid (show (comR s5 3 7 M).2.pages.length = 20 by rw [comR_len]; exact HG5.out)
  obtain ⟨cb, hcb⟩ : ∃ x, (comR s5 3 7 M).1 = x := ⟨_, rfl⟩
  rw [hcb] at HC6
  have HCB := hid hcb
  clear hcb
  obtain ⟨s7, hs7⟩ : ∃ x, (comR s5 3 7 M).2 = x := ⟨_, rfl⟩
  have HS7 := hid hs7
  rw [hs7] at HC6 HF7 HG7
  clear hs7
  refine HC6.out.mono ?_
  rintro e w7 ⟨rfl, hc, hks⟩
  have HJ7 := hid (HJ6.out.step hc hks)
  have HK7 := hid (HK6.out.trans (KS.less hks (fun j e => .inl e)))
  clear hc hks HC6 HJ6 HK6
  obtain rfl : ca = 0 := by rw [← HCA.out, comR_yes HYS.out]
  obtain rfl : cb = 1 := by rw [← HCB.out, comR_no HNS.out]
  go_wp2_with fail
  refine (live_any _ HJ7.out.lst).mono ?_
  rintro e w99 ⟨rfl, hb⟩
  have HB9 := hid (hb.mono (below_ks HB2.out HK7.out).size)
  have HB8 := hid ((below_ks HB2.out HK7.out).trans HB9.out)
  clear hb
  go_wp2_with fail
  go_ret
  exact ⟨rfl, HB8.out⟩
set_option maxRecDepth 100000 in
set_option maxHeartbeats 4000000 in
theorem jl_yf (p q : Option Addr) (L M : List PageT) (c d : Nat) (w : World) (hL : Lst w) (hp : Pgs w p L) (hq : Pgs w q M) (h1 : 1 ≤ L.length) (h2 : L.length ≤ 8) (h3 : 1 ≤ M.length) (h4 : M.length ≤ 8) (hf : FewP L) (hf2 : FewP M) (hs0 : AllS L) (hs : AllS M) :
    Calls Tryd.prog 6 #[.slice p L.length c, .slice q M.length d, .bool false] w fun e w' => e = .returned (.bool true) ∧ Below w.heap.size w w' := by
  have HYM := hid hs
  have HYS := hid hs0
  clear hs hs0
  have HL := hid hL
  have HP := hid hL.pos
  have HG := hid hp
  have HGQ := hid hq
  obtain ⟨n, hn⟩ : ∃ n, L.length = n := ⟨_, rfl⟩
  obtain ⟨m, hm⟩ : ∃ n, M.length = n := ⟨_, rfl⟩
  have HN := hid hn
  have HM := hid hm
  have HF1 := hid (few_any L p c w hp true ⟨(fun _ => hf), (fun _ => rfl)⟩)
  have HF2 := hid fun (V : World) (hv : Below w.heap.size w V) => few_any M q d V (hq.below hv) true ⟨(fun _ => hf2), (fun _ => rfl)⟩
  rw [hn] at h1 h2
  rw [hm] at h3 h4
  rw [hn] at HF1
  rw [hm] at HF2
  rw [hn, hm]
  have a1 : decide ((n : Int) < 1) = false := by first | (simp; done) | (simp; omega) | (rw [decide_eq_false_iff_not]; omega)
  have a2 : decide (n < 1) = false := by first | (simp; done) | (simp; omega) | (rw [decide_eq_false_iff_not]; omega)
  have a5 : (n == 0) = false := by simp; omega
  have a3 : decide ((8 : Int) < (n : Int)) = false := by first | (simp; done) | (simp; omega)
  have a4 : decide (8 < n) = false := by first | (simp; done) | (simp; omega)
  have b1 : decide ((m : Int) < 1) = false := by first | (simp; done) | (simp; omega) | (rw [decide_eq_false_iff_not]; omega)
  have b2 : decide (m < 1) = false := by first | (simp; done) | (simp; omega) | (rw [decide_eq_false_iff_not]; omega)
  have b5 : (m == 0) = false := by simp; omega
  have b3 : decide ((8 : Int) < (m : Int)) = false := by first | (simp; done) | (simp; omega)
  have b4 : decide (8 < m) = false := by first | (simp; done) | (simp; omega)
  have HH1 := hid h1; have HH2 := hid h2; have HH3 := hid h3; have HH4 := hid h4
  clear h1 h2 h3 h4 hf hf2
  clear hL hp hq hn hm
  go_enter Tryd.func6, Tryd.ntmps6
  go_wp2_with fail
  refine HF1.out.mono ?_
  rintro e w1 ⟨rfl, hb⟩
  have HB1 := hid hb
  clear hb HF1
  go_wp2_with fail
  refine (HF2.out _ HB1.out).mono ?_
  rintro e w2 ⟨rfl, hb⟩
  have HB2 := hid (HB1.out.trans (hb.mono HB1.out.size))
  clear hb HF2 HB1
  go_wp2_with fail
  refine (dnew 20 w2 (by decide) (by decide)).mono ?_
  rintro e w3 ⟨D, rfl, hc, hb⟩
  have HB3 := hid (HB2.out.trans (hb.mono HB2.out.size))
  have HK3 := hid (KS.of (K := fun j => j < w2.heap.size) hb)
  have HP2 := hid (show 0 < w2.heap.size from Nat.lt_of_lt_of_le HP.out HB2.out.size)
  have HOK := hid lj_ok
  have HN3 := hid (show Calls Tryd.prog 9 #[.pointer (some ⟨D, 0, none⟩), .int .i64 3, .int .i64 10, .int .i64 7] w3 fun e w' => e = .returned (.tuple #[.pointer (some ⟨w3.heap.size, 0, none⟩), .int .i64 0]) ∧ Jk (fun j => j < w2.heap.size ∨ j = w3.heap.size) w3.heap.size D w' (newS (blanks 20)) 3 10 7 ∧ Below w3.heap.size w3 w' from jnew_jk hc (HL.out.next HP.out HB3.out) HP2.out 3 10 7 lj_ok (by decide))
  have HW23 := hid hb.size
  clear hc hb
  go_wp2_with fail
  refine HN3.out.mono ?_
  rintro e w4 ⟨rfl, hj, hb⟩
  have HJ4 := hid hj
  have HK4 := hid (HK3.out.trans (KS.of hb))
  clear hj hb HN3 HK3
  have HC4 := hid (jcom_any HJ4.out lj_ok (few_new _) p L c (by have := HN.out; have := HH2.out; omega) (HG.out.below (below_ks HB2.out HK4.out)) (fun g off e h => by
    obtain ⟨g', off', e', hl, _⟩ := HG.out 0 h
    rw [e] at e'
    injection e' with e'; injection e' with e1 e2
    subst e1
    exact .inl (Nat.lt_of_lt_of_le hl HB2.out.size)) (by have := HN.out; have := HH1.out; omega) (by have := HN.out; have := HH2.out; omega))
  rw [HN.out] at HC4
  have HF5 := hid (comR_few (few_new (blanks 20)) 3 7 L)
  have HS5 := hid (comR_fuse (s := newS (blanks 20)) rfl 3 7 L)
  have HG5 := hid (show (comR (newS (blanks 20)) 3 7 L).2.pages.length = 20 by rw [comR_len]; decide)
  obtain ⟨ca, hca⟩ : ∃ x, (comR (newS (blanks 20)) 3 7 L).1 = x := ⟨_, rfl⟩
  rw [hca] at HC4
  have HCA := hid hca
  clear hca
  generalize (comR (newS (blanks 20)) 3 7 L).2 = s5 at *
  go_wp2_with fail
  refine HC4.out.mono ?_
  rintro e w5 ⟨rfl, hc, hks⟩
  have HJ5 := hid (HJ4.out.step hc hks)
  have HK5 := hid (HK4.out.trans (KS.less hks (fun j e => .inl e)))
  clear hc hks HC4 HJ4 HK4
  go_wp2_with fail
  have HJ6 := HJ5
  have HK6 := HK5
  obtain ⟨w6, hw6⟩ : ∃ x, x = w5 := ⟨_, rfl⟩
  rw [← hw6] at HJ6 HK6 ⊢
  clear HJ5 HK5 hw6
  have HC6 := hid (jcom_any HJ6.out lj_ok HF5.out q M d (by have := HN.out; have := HH2.out; have := HM.out; have := HH4.out; omega) (HGQ.out.below (below_ks HB2.out HK6.out)) (fun g off e h => by
    obtain ⟨g', off', e', hl, _⟩ := HGQ.out 0 h
    rw [e] at e'
    injection e' with e'; injection e' with e1 e2
    subst e1
    exact .inl (Nat.lt_of_lt_of_le hl HB2.out.size)) (by have := HM.out; have := HH3.out; omega) (by have := HM.out; have := HH4.out; omega))
  rw [HM.out] at HC6
  have HF7 := hid (comR_few HF5.out 3 7 M)
  have HG7 := hid (show (comR s5 3 7 M).2.pages.length = 20 by rw [comR_len]; exact HG5.out)
  obtain ⟨cb, hcb⟩ : ∃ x, (comR s5 3 7 M).1 = x := ⟨_, rfl⟩
  rw [hcb] at HC6
  have HCB := hid hcb
  clear hcb
  obtain ⟨s7, hs7⟩ : ∃ x, (comR s5 3 7 M).2 = x := ⟨_, rfl⟩
  have HS7 := hid hs7
  rw [hs7] at HC6 HF7 HG7
  clear hs7
  refine HC6.out.mono ?_
  rintro e w7 ⟨rfl, hc, hks⟩
  have HJ7 := hid (HJ6.out.step hc hks)
  have HK7 := hid (HK6.out.trans (KS.less hks (fun j e => .inl e)))
  clear hc hks HC6 HJ6 HK6
  obtain rfl : ca = 0 := by rw [← HCA.out, comR_yes HYS.out]
  obtain rfl : cb = 0 := by rw [← HCB.out, comR_yes HYM.out]
  have HSM := hid (show s7 = comS s5 3 7 M by rw [← HS7.out, comR_yes HYM.out])
  have HML := hid (show 0 < M.length by have := HM.out; have := HH3.out; omega)
  have HML2 := hid (show M.length < 10 by have := HM.out; have := HH4.out; omega)
  have HSC7 := hid (show Scans (vw s7) 3 10 7 0 [] (some M) by rw [HSM.out]; exact com_scan HS5.out lj_ok HML.out HYM.out HML2.out (by rw [HG5.out]; decide))
  have HSO7 := hid (show Scans (vw s7) 3 10 7 0 [] (some M) by
    rw [HSM.out]
    exact com_scan HS5.out lj_ok HML.out HYM.out HML2.out (by rw [HG5.out]; decide))
  have HSC := hid (jscan HJ7.out lj_ok (by rw [HG7.out]; decide) HF7.out (by have := HN.out; have := HH2.out; have := HM.out; have := HH4.out; omega))
  go_wp2_with fail
  refine HSC.out.mono ?_
  rintro e w8 ⟨r, s8, K8, hr, he, hKK, hc, hks, hsm, hfw⟩
  obtain rfl := hr.det HSC7.out
  obtain ⟨pa, ca, rfl, hpa, hga⟩ := he
  have HC8 := hid hc
  have HL8 := hid (lst_ks HJ7.out.lst HJ7.out.k0 hks)
  have HKL := hid (show ∀ j, j < w2.heap.size → K8 j from fun j e => hKK j (.inl e))
  have HK8 := hid (HK7.out.trans (KS.less hks (fun j e => .inl e)))
  have HPA8 := hid hpa
  have HGA := hid hga
  have HSM8 := hid hsm
  have HF8 := hid hfw
  clear hr hpa hga hKK hc hks hsm hfw HSC HJ7 HK7
  rw [HM.out]
  have HN8 := hid (show Calls Tryd.prog 9 #[.pointer (some ⟨D, 0, none⟩), .int .i64 3, .int .i64 10, .int .i64 7] w8 fun e w' => e = .returned (.tuple #[.pointer (some ⟨w8.heap.size, 0, none⟩), .int .i64 0]) ∧ Jk (fun j => K8 j ∨ j = w8.heap.size) w8.heap.size D w' s8 3 10 7 ∧ Below w8.heap.size w8 w' from jnew_jk HC8.out HL8.out (HKL.out 0 HP2.out) 3 10 7 lj_ok (by rw [HSM8.out.pages, HG7.out]; decide))
  go_wp2_with fail
  refine HN8.out.mono ?_
  rintro e w9 ⟨rfl, hj, hb⟩
  have HJ9 := hid hj
  have HK9 := hid (HK8.out.trans (KS.of hb))
  have HPA9 := hid (HPA8.out.below hb)
  clear hj hb HN8 HK8 HC8 HPA8
  have HSC := hid (jscan HJ9.out lj_ok (by rw [HSM8.out.pages, HG7.out]; decide) HF8.out (by have := HN.out; have := HH2.out; have := HM.out; have := HH4.out; omega))
  go_wp2_with fail
  refine HSC.out.mono ?_
  rintro e w10 ⟨r, s10, K10, hr, he, hKK, hc, hks, hsm, hfw⟩
  rw [HSM8.out.vw] at hr
  obtain rfl := hr.det HSO7.out
  obtain ⟨pz, cz, rfl, hpz, hgz⟩ := he
  clear hpz hgz
  have HL10 := hid (lst_ks HJ9.out.lst HJ9.out.k0 hks)
  have HK10 := hid (HK9.out.trans (KS.less hks (fun j e => .inl (HKL.out j e))))
  have HPA10 := hid (pgs_ks HPA9.out hks (fun g off e _ => .inl (HGA.out g off e).1))
  clear hr hKK hc hks hsm hfw HSC HJ9 HK9 HPA9
  have HEQ := hid (show Calls Tryd.prog 17 #[.slice pa m ca, .slice q m d] w10 fun e w' => e = .returned (.bool true) ∧ Below w10.heap.size w10 w' from by
    have h := pages_any M M pa q ca d w10 HPA10.out (HGQ.out.below (below_ks HB2.out HK10.out)) (by have := HML2.out; omega)
    rw [show decide (M = M) = true from decide_eq_true rfl, HM.out] at h; exact h)
  go_wp2_with fail
  refine HEQ.out.mono ?_
  rintro e w11 ⟨rfl, hb⟩
  have HL11 := hid (HL10.out.next HL10.out.pos hb)
  have HK11 := hid (HK10.out.trans (KS.of hb))
  clear hb
  go_wp2_with fail
  refine (live_any _ HL11.out).mono ?_
  rintro e w99 ⟨rfl, hb⟩
  have HB9 := hid (hb.mono (below_ks HB2.out HK11.out).size)
  have HB8 := hid ((below_ks HB2.out HK11.out).trans HB9.out)
  clear hb
  go_wp2_with fail
  go_ret
  exact ⟨rfl, HB8.out⟩
theorem JournalLast_walk (v v' : Value) (ab : Bool) (w : World) (h : ∃ a len cap, v = .slice a len cap ∧ IsPgs w a len) (h' : ∃ a len cap, v' = .slice a len cap ∧ IsPgs w a len) (hL : Lst w) :
    Calls Tryd.prog 6 #[v, v', .bool ab] w fun e w' => e = .returned (.bool true) ∧ Below w.heap.size w w' := by
  obtain ⟨p, len, c, rfl, hg⟩ := h
  obtain ⟨L, rfl, hp, -⟩ := pgs_list hg
  obtain ⟨q, len, d, rfl, hg'⟩ := h'
  obtain ⟨M, rfl, hq, -⟩ := pgs_list hg'
  by_cases h1 : L.length < 1
  · exact jl_f1 p q L M c d w hL hp hq ab h1
  · by_cases h2 : 8 < L.length
    · exact jl_f2 p q L M c d w hL hp hq ab h1 h2
    · by_cases h3 : M.length < 1
      · exact jl_f3 p q L M c d w hL hp hq ab h1 h2 h3
      · by_cases h4 : 8 < M.length
        · exact jl_f4 p q L M c d w hL hp hq ab h1 h2 h3 h4
        · rcases Classical.em (FewP L) with hf | hf
          · rcases Classical.em (FewP M) with hf2 | hf2
            · rcases Classical.em (AllS L) with hs | hs
              · rcases Classical.em (AllS M) with hs2 | hs2
                · cases ab with
                  | true => exact jl_yt p q L M c d w hL hp hq (by omega) (by omega) (by omega) (by omega) hf hf2 hs hs2
                  | false => exact jl_yf p q L M c d w hL hp hq (by omega) (by omega) (by omega) (by omega) hf hf2 hs hs2
                · cases ab with
                  | true => exact jl_bt p q L M c d w hL hp hq (by omega) (by omega) (by omega) (by omega) hf hf2 hs hs2
                  | false => exact jl_bf p q L M c d w hL hp hq (by omega) (by omega) (by omega) (by omega) hf hf2 hs hs2
              · cases ab with
                | true => exact jl_at p q L M c d w hL hp hq (by omega) (by omega) (by omega) (by omega) hf hf2 hs
                | false => exact jl_af p q L M c d w hL hp hq (by omega) (by omega) (by omega) (by omega) hf hf2 hs
            · exact jl_f6 p q L M c d w hL hp hq ab (by omega) (by omega) (by omega) (by omega) hf hf2
          · exact jl_f5 p q L M c d w hL hp hq ab (by omega) (by omega) (by omega) (by omega) hf
set_option maxRecDepth 100000 in
theorem JournalLast_open0 {H : Type} {enc : TypeId × Value → H} {W : World} {base : Nat} {v : Value} {d : DataW H} {p : List MemPlace} (hv : Value.okWide Tryd.prog W .any base 24 v) (h : DataW.Trod enc Tryd.prog W 0 (fun _ => true) true 24 v d p) : ∃ a len cap, v = .slice a len cap ∧ IsPgs W a len := En.open_Pgs hv h
set_option maxRecDepth 100000 in
theorem JournalLast_open1 {H : Type} {enc : TypeId × Value → H} {W : World} {base : Nat} {v : Value} {d : DataW H} {p : List MemPlace} (hv : Value.okWide Tryd.prog W .any base 24 v) (h : DataW.Trod enc Tryd.prog W 0 (fun _ => true) true 24 v d p) : ∃ a len cap, v = .slice a len cap ∧ IsPgs W a len := En.open_Pgs hv h
end Go.Proofs.YtpobhdhfhnnajaaDoor.Jn
