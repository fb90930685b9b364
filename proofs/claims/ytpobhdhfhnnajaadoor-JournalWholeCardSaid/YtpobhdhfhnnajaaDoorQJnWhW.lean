/- JournalWhole walked. -/
import Derived.Test.YtpobhdhfhnnajaaDoorW21
namespace Go.Proofs.YtpobhdhfhnnajaaDoor.Jn
open Go.RowKit
open Go.Lib (hid)
open Go.Proofs.YtpobhdhfhnnajaaDoor.Dk
open Go.Proofs.YtpobhdhfhnnajaaDoor.En (Lst PageT Pgs)
theorem kept_on {w w' : World} {q : Option Addr} {ks : List Int} (h : Dk.Kept w q ks) (hb : Below w.heap.size w w') : Dk.Kept w' q ks := fun j hj => by
  obtain ⟨b, off, e, hlt, hc⟩ := h j hj
  exact ⟨b, off, e, Nat.lt_of_lt_of_le hlt hb.size, (hb.cell (p := ⟨b, off + j, none⟩) hlt).trans hc⟩
theorem lj_ok6 : JOk 3 10 6 := ⟨by decide, by decide, by decide, by decide, by decide⟩
set_option maxRecDepth 100000 in
set_option maxHeartbeats 4000000 in
theorem jw_f1 (p q z : Option Addr) (L M : List PageT) (ks : List Int) (c d kc : Nat) (torn at' : Int) (w : World) (hL : Lst w) (hp : Pgs w p L) (hq : Pgs w q M) (hz : Dk.Kept w z ks) (h : L.length < 1) :
    Calls Tryd.prog 5 #[.agg #[.slice p L.length c, .slice q M.length d, .slice z ks.length kc, .int .i64 torn, .int .i64 at']] w fun e w' => e = .returned (.bool true) ∧ Below w.heap.size w w' := by
  have HL := hid hL
  have HP := hid hL.pos
  have HG := hid hp
  have HGQ := hid hq
  have HZ := hid hz
  obtain ⟨n, hn⟩ : ∃ n, L.length = n := ⟨_, rfl⟩
  obtain ⟨m, hm⟩ : ∃ n, M.length = n := ⟨_, rfl⟩
  obtain ⟨kl, hkl⟩ : ∃ n, ks.length = n := ⟨_, rfl⟩
  have HN := hid hn
  have HM := hid hm
  have HKL := hid hkl
  rw [hn] at h
  rw [hn, hm, hkl]
  have a1 : decide ((n : Int) < 1) = true := by first | (simp; done) | (simp; omega) | (rw [decide_eq_true_iff]; omega)
  have a2 : decide (n < 1) = true := by first | (simp; done) | (simp; omega) | (rw [decide_eq_true_iff]; omega)
  have a5 : (n == 0) = true := by simp; omega
  clear h
  have HB0 := hid ((Below.refl w.heap.size w).alloc (Nat.le_refl _) (.cells #[.slice p n c, .slice q m d, .slice z kl kc, .int .i64 torn, .int .i64 at'] 44))
  have HX0 := hid (heap_alloc_new w (.cells #[.slice p n c, .slice q m d, .slice z kl kc, .int .i64 torn, .int .i64 at'] 44))
  clear hL hp hq hz hn hm hkl
  go_enter Tryd.func5, Tryd.ntmps5
  go_wp2_with fail
  generalize (w.alloc (.cells #[.slice p n c, .slice q m d, .slice z kl kc, .int .i64 torn, .int .i64 at'] 44)) = X at *
  have g0 : X.cell? ⟨w.heap.size, 0, none⟩ = some (.slice p n c) := by rw [cell_of_row _ _ _ _ _ _ HX0.out]; rfl
  have g1 : X.cell? ⟨w.heap.size, 1, none⟩ = some (.slice q m d) := by rw [cell_of_row _ _ _ _ _ _ HX0.out]; rfl
  have g2 : X.cell? ⟨w.heap.size, 2, none⟩ = some (.slice z kl kc) := by rw [cell_of_row _ _ _ _ _ _ HX0.out]; rfl
  have g3 : X.cell? ⟨w.heap.size, 3, none⟩ = some (.int .i64 torn) := by rw [cell_of_row _ _ _ _ _ _ HX0.out]; rfl
  have g4 : X.cell? ⟨w.heap.size, 4, none⟩ = some (.int .i64 at') := by rw [cell_of_row _ _ _ _ _ _ HX0.out]; rfl
  go_quiet (fail)
  have HBX := hid (HB0.out.trans ((below_drewN (Below.refl X.heap.size X) nq).mono HB0.out.size))
  clear g0 g1 g2 g3 g4 HX0 HB0
  go_wp2_with fail
  refine (live_any _ (HL.out.next HP.out HBX.out)).mono ?_
  rintro e w99 ⟨rfl, hb⟩
  have HB9 := hid (hb.mono (HBX.out).size)
  have HB8 := hid ((HBX.out).trans HB9.out)
  clear hb
  go_wp2_with fail
  go_ret
  exact ⟨rfl, HB8.out⟩
set_option maxRecDepth 100000 in
set_option maxHeartbeats 4000000 in
theorem jw_f2 (p q z : Option Addr) (L M : List PageT) (ks : List Int) (c d kc : Nat) (torn at' : Int) (w : World) (hL : Lst w) (hp : Pgs w p L) (hq : Pgs w q M) (hz : Dk.Kept w z ks) (h : 8 < L.length) :
    Calls Tryd.prog 5 #[.agg #[.slice p L.length c, .slice q M.length d, .slice z ks.length kc, .int .i64 torn, .int .i64 at']] w fun e w' => e = .returned (.bool true) ∧ Below w.heap.size w w' := by
  have HL := hid hL
  have HP := hid hL.pos
  have HG := hid hp
  have HGQ := hid hq
  have HZ := hid hz
  obtain ⟨n, hn⟩ : ∃ n, L.length = n := ⟨_, rfl⟩
  obtain ⟨m, hm⟩ : ∃ n, M.length = n := ⟨_, rfl⟩
  obtain ⟨kl, hkl⟩ : ∃ n, ks.length = n := ⟨_, rfl⟩
  have HN := hid hn
  have HM := hid hm
  have HKL := hid hkl
  rw [hn] at h
  rw [hn, hm, hkl]
  have a1 : decide ((n : Int) < 1) = false := by first | (simp; done) | (simp; omega) | (rw [decide_eq_false_iff_not]; omega)
  have a2 : decide (n < 1) = false := by first | (simp; done) | (simp; omega) | (rw [decide_eq_false_iff_not]; omega)
  have a5 : (n == 0) = false := by simp; omega
  have a3 : decide ((8 : Int) < (n : Int)) = true := by first | (simp; done) | (simp; omega)
  have a4 : decide (8 < n) = true := by first | (simp; done) | (simp; omega)
  clear h
  have HB0 := hid ((Below.refl w.heap.size w).alloc (Nat.le_refl _) (.cells #[.slice p n c, .slice q m d, .slice z kl kc, .int .i64 torn, .int .i64 at'] 44))
  have HX0 := hid (heap_alloc_new w (.cells #[.slice p n c, .slice q m d, .slice z kl kc, .int .i64 torn, .int .i64 at'] 44))
  clear hL hp hq hz hn hm hkl
  go_enter Tryd.func5, Tryd.ntmps5
  go_wp2_with fail
  generalize (w.alloc (.cells #[.slice p n c, .slice q m d, .slice z kl kc, .int .i64 torn, .int .i64 at'] 44)) = X at *
  have g0 : X.cell? ⟨w.heap.size, 0, none⟩ = some (.slice p n c) := by rw [cell_of_row _ _ _ _ _ _ HX0.out]; rfl
  have g1 : X.cell? ⟨w.heap.size, 1, none⟩ = some (.slice q m d) := by rw [cell_of_row _ _ _ _ _ _ HX0.out]; rfl
  have g2 : X.cell? ⟨w.heap.size, 2, none⟩ = some (.slice z kl kc) := by rw [cell_of_row _ _ _ _ _ _ HX0.out]; rfl
  have g3 : X.cell? ⟨w.heap.size, 3, none⟩ = some (.int .i64 torn) := by rw [cell_of_row _ _ _ _ _ _ HX0.out]; rfl
  have g4 : X.cell? ⟨w.heap.size, 4, none⟩ = some (.int .i64 at') := by rw [cell_of_row _ _ _ _ _ _ HX0.out]; rfl
  go_quiet (fail)
  have HBX := hid (HB0.out.trans ((below_drewN (Below.refl X.heap.size X) nq).mono HB0.out.size))
  clear g0 g1 g2 g3 g4 HX0 HB0
  go_wp2_with fail
  refine (live_any _ (HL.out.next HP.out HBX.out)).mono ?_
  rintro e w99 ⟨rfl, hb⟩
  have HB9 := hid (hb.mono (HBX.out).size)
  have HB8 := hid ((HBX.out).trans HB9.out)
  clear hb
  go_wp2_with fail
  go_ret
  exact ⟨rfl, HB8.out⟩
set_option maxRecDepth 100000 in
set_option maxHeartbeats 4000000 in
theorem jw_f3 (p q z : Option Addr) (L M : List PageT) (ks : List Int) (c d kc : Nat) (torn at' : Int) (w : World) (hL : Lst w) (hp : Pgs w p L) (hq : Pgs w q M) (hz : Dk.Kept w z ks) (h1 : 1 ≤ L.length) (h2 : L.length ≤ 8) (h : 8 < M.length) :
    Calls Tryd.prog 5 #[.agg #[.slice p L.length c, .slice q M.length d, .slice z ks.length kc, .int .i64 torn, .int .i64 at']] w fun e w' => e = .returned (.bool true) ∧ Below w.heap.size w w' := by
  have HL := hid hL
  have HP := hid hL.pos
  have HG := hid hp
  have HGQ := hid hq
  have HZ := hid hz
  obtain ⟨n, hn⟩ : ∃ n, L.length = n := ⟨_, rfl⟩
  obtain ⟨m, hm⟩ : ∃ n, M.length = n := ⟨_, rfl⟩
  obtain ⟨kl, hkl⟩ : ∃ n, ks.length = n := ⟨_, rfl⟩
  have HN := hid hn
  have HM := hid hm
  have HKL := hid hkl
  rw [hn] at h1 h2
  rw [hm] at h
  rw [hn, hm, hkl]
  have a1 : decide ((n : Int) < 1) = false := by first | (simp; done) | (simp; omega) | (rw [decide_eq_false_iff_not]; omega)
  have a2 : decide (n < 1) = false := by first | (simp; done) | (simp; omega) | (rw [decide_eq_false_iff_not]; omega)
  have a5 : (n == 0) = false := by simp; omega
  have a3 : decide ((8 : Int) < (n : Int)) = false := by first | (simp; done) | (simp; omega)
  have a4 : decide (8 < n) = false := by first | (simp; done) | (simp; omega)
  have b3 : decide ((8 : Int) < (m : Int)) = true := by first | (simp; done) | (simp; omega)
  have b4 : decide (8 < m) = true := by first | (simp; done) | (simp; omega)
  clear h1 h2 h
  have HB0 := hid ((Below.refl w.heap.size w).alloc (Nat.le_refl _) (.cells #[.slice p n c, .slice q m d, .slice z kl kc, .int .i64 torn, .int .i64 at'] 44))
  have HX0 := hid (heap_alloc_new w (.cells #[.slice p n c, .slice q m d, .slice z kl kc, .int .i64 torn, .int .i64 at'] 44))
  clear hL hp hq hz hn hm hkl
  go_enter Tryd.func5, Tryd.ntmps5
  go_wp2_with fail
  generalize (w.alloc (.cells #[.slice p n c, .slice q m d, .slice z kl kc, .int .i64 torn, .int .i64 at'] 44)) = X at *
  have g0 : X.cell? ⟨w.heap.size, 0, none⟩ = some (.slice p n c) := by rw [cell_of_row _ _ _ _ _ _ HX0.out]; rfl
  have g1 : X.cell? ⟨w.heap.size, 1, none⟩ = some (.slice q m d) := by rw [cell_of_row _ _ _ _ _ _ HX0.out]; rfl
  have g2 : X.cell? ⟨w.heap.size, 2, none⟩ = some (.slice z kl kc) := by rw [cell_of_row _ _ _ _ _ _ HX0.out]; rfl
  have g3 : X.cell? ⟨w.heap.size, 3, none⟩ = some (.int .i64 torn) := by rw [cell_of_row _ _ _ _ _ _ HX0.out]; rfl
  have g4 : X.cell? ⟨w.heap.size, 4, none⟩ = some (.int .i64 at') := by rw [cell_of_row _ _ _ _ _ _ HX0.out]; rfl
  go_quiet (fail)
  have HBX := hid (HB0.out.trans ((below_drewN (Below.refl X.heap.size X) nq).mono HB0.out.size))
  clear g0 g1 g2 g3 g4 HX0 HB0
  go_wp2_with fail
  refine (live_any _ (HL.out.next HP.out HBX.out)).mono ?_
  rintro e w99 ⟨rfl, hb⟩
  have HB9 := hid (hb.mono (HBX.out).size)
  have HB8 := hid ((HBX.out).trans HB9.out)
  clear hb
  go_wp2_with fail
  go_ret
  exact ⟨rfl, HB8.out⟩
set_option maxRecDepth 100000 in
set_option maxHeartbeats 4000000 in
theorem jw_f4 (p q z : Option Addr) (L M : List PageT) (ks : List Int) (c d kc : Nat) (torn at' : Int) (w : World) (hL : Lst w) (hp : Pgs w p L) (hq : Pgs w q M) (hz : Dk.Kept w z ks) (h1 : 1 ≤ L.length) (h2 : L.length ≤ 8) (h4 : M.length ≤ 8) (hf : ¬ FewP L) :
    Calls Tryd.prog 5 #[.agg #[.slice p L.length c, .slice q M.length d, .slice z ks.length kc, .int .i64 torn, .int .i64 at']] w fun e w' => e = .returned (.bool true) ∧ Below w.heap.size w w' := by
  have HL := hid hL
  have HP := hid hL.pos
  have HG := hid hp
  have HGQ := hid hq
  have HZ := hid hz
  obtain ⟨n, hn⟩ : ∃ n, L.length = n := ⟨_, rfl⟩
  obtain ⟨m, hm⟩ : ∃ n, M.length = n := ⟨_, rfl⟩
  obtain ⟨kl, hkl⟩ : ∃ n, ks.length = n := ⟨_, rfl⟩
  have HN := hid hn
  have HM := hid hm
  have HKL := hid hkl
  have HF1 := hid fun (V : World) (hv : Below w.heap.size w V) => few_any L p c V (hp.below hv) false ⟨(fun h => by cases h), (fun h => absurd h hf)⟩
  rw [hn] at h1 h2
  rw [hm] at h4
  rw [hn] at HF1
  rw [hn, hm, hkl]
  have a1 : decide ((n : Int) < 1) = false := by first | (simp; done) | (simp; omega) | (rw [decide_eq_false_iff_not]; omega)
  have a2 : decide (n < 1) = false := by first | (simp; done) | (simp; omega) | (rw [decide_eq_false_iff_not]; omega)
  have a5 : (n == 0) = false := by simp; omega
  have a3 : decide ((8 : Int) < (n : Int)) = false := by first | (simp; done) | (simp; omega)
  have a4 : decide (8 < n) = false := by first | (simp; done) | (simp; omega)
  have b3 : decide ((8 : Int) < (m : Int)) = false := by first | (simp; done) | (simp; omega)
  have b4 : decide (8 < m) = false := by first | (simp; done) | (simp; omega)
  have HH1 := hid h1; have HH2 := hid h2; have HH4 := hid h4
  clear h1 h2 h4 hf
  have HB0 := hid ((Below.refl w.heap.size w).alloc (Nat.le_refl _) (.cells #[.slice p n c, .slice q m d, .slice z kl kc, .int .i64 torn, .int .i64 at'] 44))
  have HX0 := hid (heap_alloc_new w (.cells #[.slice p n c, .slice q m d, .slice z kl kc, .int .i64 torn, .int .i64 at'] 44))
  clear hL hp hq hz hn hm hkl
  go_enter Tryd.func5, Tryd.ntmps5
  go_wp2_with fail
  generalize (w.alloc (.cells #[.slice p n c, .slice q m d, .slice z kl kc, .int .i64 torn, .int .i64 at'] 44)) = X at *
  have g0 : X.cell? ⟨w.heap.size, 0, none⟩ = some (.slice p n c) := by rw [cell_of_row _ _ _ _ _ _ HX0.out]; rfl
  have g1 : X.cell? ⟨w.heap.size, 1, none⟩ = some (.slice q m d) := by rw [cell_of_row _ _ _ _ _ _ HX0.out]; rfl
  have g2 : X.cell? ⟨w.heap.size, 2, none⟩ = some (.slice z kl kc) := by rw [cell_of_row _ _ _ _ _ _ HX0.out]; rfl
  have g3 : X.cell? ⟨w.heap.size, 3, none⟩ = some (.int .i64 torn) := by rw [cell_of_row _ _ _ _ _ _ HX0.out]; rfl
  have g4 : X.cell? ⟨w.heap.size, 4, none⟩ = some (.int .i64 at') := by rw [cell_of_row _ _ _ _ _ _ HX0.out]; rfl
  go_quiet (fail)
  have HBX := hid (HB0.out.trans ((below_drewN (Below.refl X.heap.size X) nq).mono HB0.out.size))
  clear g0 g1 g2 g3 g4 HX0 HB0
  go_wp2_with fail
  refine (HF1.out _ HBX.out).mono ?_
  rintro e w1 ⟨rfl, hb⟩
  have HB1 := hid (HBX.out.trans (hb.mono HBX.out.size))
  clear hb HF1 HBX
  go_wp2_with fail
  refine (live_any _ (HL.out.next HP.out HB1.out)).mono ?_
  rintro e w99 ⟨rfl, hb⟩
  have HB9 := hid (hb.mono (HB1.out).size)
  have HB8 := hid ((HB1.out).trans HB9.out)
  clear hb
  go_wp2_with fail
  go_ret
  exact ⟨rfl, HB8.out⟩
set_option maxRecDepth 100000 in
set_option maxHeartbeats 4000000 in
theorem jw_f5 (p q z : Option Addr) (L M : List PageT) (ks : List Int) (c d kc : Nat) (torn at' : Int) (w : World) (hL : Lst w) (hp : Pgs w p L) (hq : Pgs w q M) (hz : Dk.Kept w z ks) (h1 : 1 ≤ L.length) (h2 : L.length ≤ 8) (h4 : M.length ≤ 8) (hf : FewP L) (hf2 : ¬ FewP M) :
    Calls Tryd.prog 5 #[.agg #[.slice p L.length c, .slice q M.length d, .slice z ks.length kc, .int .i64 torn, .int .i64 at']] w fun e w' => e = .returned (.bool true) ∧ Below w.heap.size w w' := by
  have HL := hid hL
  have HP := hid hL.pos
  have HG := hid hp
  have HGQ := hid hq
  have HZ := hid hz
  obtain ⟨n, hn⟩ : ∃ n, L.length = n := ⟨_, rfl⟩
  obtain ⟨m, hm⟩ : ∃ n, M.length = n := ⟨_, rfl⟩
  obtain ⟨kl, hkl⟩ : ∃ n, ks.length = n := ⟨_, rfl⟩
  have HN := hid hn
  have HM := hid hm
  have HKL := hid hkl
  have HF1 := hid fun (V : World) (hv : Below w.heap.size w V) => few_any L p c V (hp.below hv) true ⟨(fun _ => hf), (fun _ => rfl)⟩
  have HF2 := hid fun (V : World) (hv : Below w.heap.size w V) => few_any M q d V (hq.below hv) false ⟨(fun h => by cases h), (fun h => absurd h hf2)⟩
  rw [hn] at h1 h2
  rw [hm] at h4
  rw [hn] at HF1
  rw [hm] at HF2
  rw [hn, hm, hkl]
  have a1 : decide ((n : Int) < 1) = false := by first | (simp; done) | (simp; omega) | (rw [decide_eq_false_iff_not]; omega)
  have a2 : decide (n < 1) = false := by first | (simp; done) | (simp; omega) | (rw [decide_eq_false_iff_not]; omega)
  have a5 : (n == 0) = false := by simp; omega
  have a3 : decide ((8 : Int) < (n : Int)) = false := by first | (simp; done) | (simp; omega)
  have a4 : decide (8 < n) = false := by first | (simp; done) | (simp; omega)
  have b3 : decide ((8 : Int) < (m : Int)) = false := by first | (simp; done) | (simp; omega)
  have b4 : decide (8 < m) = false := by first | (simp; done) | (simp; omega)
  have HH1 := hid h1; have HH2 := hid h2; have HH4 := hid h4
  clear h1 h2 h4 hf hf2
  have HB0 := hid ((Below.refl w.heap.size w).alloc (Nat.le_refl _) (.cells #[.slice p n c, .slice q m d, .slice z kl kc, .int .i64 torn, .int .i64 at'] 44))
  have HX0 := hid (heap_alloc_new w (.cells #[.slice p n c, .slice q m d, .slice z kl kc, .int .i64 torn, .int .i64 at'] 44))
  clear hL hp hq hz hn hm hkl
  go_enter Tryd.func5, Tryd.ntmps5
  go_wp2_with fail
  generalize (w.alloc (.cells #[.slice p n c, .slice q m d, .slice z kl kc, .int .i64 torn, .int .i64 at'] 44)) = X at *
  have g0 : X.cell? ⟨w.heap.size, 0, none⟩ = some (.slice p n c) := by rw [cell_of_row _ _ _ _ _ _ HX0.out]; rfl
  have g1 : X.cell? ⟨w.heap.size, 1, none⟩ = some (.slice q m d) := by rw [cell_of_row _ _ _ _ _ _ HX0.out]; rfl
  have g2 : X.cell? ⟨w.heap.size, 2, none⟩ = some (.slice z kl kc) := by rw [cell_of_row _ _ _ _ _ _ HX0.out]; rfl
  have g3 : X.cell? ⟨w.heap.size, 3, none⟩ = some (.int .i64 torn) := by rw [cell_of_row _ _ _ _ _ _ HX0.out]; rfl
  have g4 : X.cell? ⟨w.heap.size, 4, none⟩ = some (.int .i64 at') := by rw [cell_of_row _ _ _ _ _ _ HX0.out]; rfl
  go_quiet (fail)
  have HBX := hid (HB0.out.trans ((below_drewN (Below.refl X.heap.size X) nq).mono HB0.out.size))
  clear g0 g1 g2 g3 g4 HX0 HB0
  go_wp2_with fail
  refine (HF1.out _ HBX.out).mono ?_
  rintro e w1 ⟨rfl, hb⟩
  have HB1 := hid (HBX.out.trans (hb.mono HBX.out.size))
  clear hb HF1 HBX
  go_wp2_with fail
  refine (HF2.out _ HB1.out).mono ?_
  rintro e w2 ⟨rfl, hb⟩
  have HB2 := hid (HB1.out.trans (hb.mono HB1.out.size))
  clear hb HF2 HB1
  go_wp2_with fail
  refine (live_any _ (HL.out.next HP.out HB2.out)).mono ?_
  rintro e w99 ⟨rfl, hb⟩
  have HB9 := hid (hb.mono (HB2.out).size)
  have HB8 := hid ((HB2.out).trans HB9.out)
  clear hb
  go_wp2_with fail
  go_ret
  exact ⟨rfl, HB8.out⟩
set_option maxRecDepth 100000 in
set_option maxHeartbeats 4000000 in
theorem jw_f6 (p q z : Option Addr) (L M : List PageT) (ks : List Int) (c d kc : Nat) (torn at' : Int) (w : World) (hL : Lst w) (hp : Pgs w p L) (hq : Pgs w q M) (hz : Dk.Kept w z ks) (h1 : 1 ≤ L.length) (h2 : L.length ≤ 8) (h4 : M.length ≤ 8) (hf : FewP L) (hf2 : FewP M) (h5 : 60 < ks.length) :
    Calls Tryd.prog 5 #[.agg #[.slice p L.length c, .slice q M.length d, .slice z ks.length kc, .int .i64 torn, .int .i64 at']] w fun e w' => e = .returned (.bool true) ∧ Below w.heap.size w w' := by
  have HL := hid hL
  have HP := hid hL.pos
  have HG := hid hp
  have HGQ := hid hq
  have HZ := hid hz
  obtain ⟨n, hn⟩ : ∃ n, L.length = n := ⟨_, rfl⟩
  obtain ⟨m, hm⟩ : ∃ n, M.length = n := ⟨_, rfl⟩
  obtain ⟨kl, hkl⟩ : ∃ n, ks.length = n := ⟨_, rfl⟩
  have HN := hid hn
  have HM := hid hm
  have HKL := hid hkl
  have HF1 := hid fun (V : World) (hv : Below w.heap.size w V) => few_any L p c V (hp.below hv) true ⟨(fun _ => hf), (fun _ => rfl)⟩
  have HF2 := hid fun (V : World) (hv : Below w.heap.size w V) => few_any M q d V (hq.below hv) true ⟨(fun _ => hf2), (fun _ => rfl)⟩
  rw [hn] at h1 h2
  rw [hm] at h4
  rw [hn] at HF1
  rw [hm] at HF2
  rw [hkl] at h5
  rw [hn, hm, hkl]
  have a1 : decide ((n : Int) < 1) = false := by first | (simp; done) | (simp; omega) | (rw [decide_eq_false_iff_not]; omega)
  have a2 : decide (n < 1) = false := by first | (simp; done) | (simp; omega) | (rw [decide_eq_false_iff_not]; omega)
  have a5 : (n == 0) = false := by simp; omega
  have a3 : decide ((8 : Int) < (n : Int)) = false := by first | (simp; done) | (simp; omega)
  have a4 : decide (8 < n) = false := by first | (simp; done) | (simp; omega)
  have b3 : decide ((8 : Int) < (m : Int)) = false := by first | (simp; done) | (simp; omega)
  have b4 : decide (8 < m) = false := by first | (simp; done) | (simp; omega)
  have e3 : decide ((60 : Int) < (kl : Int)) = true := by first | (simp; done) | (simp; omega)
  have e4 : decide (60 < kl) = true := by first | (simp; done) | (simp; omega)
  have HH1 := hid h1; have HH2 := hid h2; have HH4 := hid h4
  have HH5 := hid h5
  clear h1 h2 h4 hf hf2 h5
  have HB0 := hid ((Below.refl w.heap.size w).alloc (Nat.le_refl _) (.cells #[.slice p n c, .slice q m d, .slice z kl kc, .int .i64 torn, .int .i64 at'] 44))
  have HX0 := hid (heap_alloc_new w (.cells #[.slice p n c, .slice q m d, .slice z kl kc, .int .i64 torn, .int .i64 at'] 44))
  clear hL hp hq hz hn hm hkl
  go_enter Tryd.func5, Tryd.ntmps5
  go_wp2_with fail
  generalize (w.alloc (.cells #[.slice p n c, .slice q m d, .slice z kl kc, .int .i64 torn, .int .i64 at'] 44)) = X at *
  have g0 : X.cell? ⟨w.heap.size, 0, none⟩ = some (.slice p n c) := by rw [cell_of_row _ _ _ _ _ _ HX0.out]; rfl
  have g1 : X.cell? ⟨w.heap.size, 1, none⟩ = some (.slice q m d) := by rw [cell_of_row _ _ _ _ _ _ HX0.out]; rfl
  have g2 : X.cell? ⟨w.heap.size, 2, none⟩ = some (.slice z kl kc) := by rw [cell_of_row _ _ _ _ _ _ HX0.out]; rfl
  have g3 : X.cell? ⟨w.heap.size, 3, none⟩ = some (.int .i64 torn) := by rw [cell_of_row _ _ _ _ _ _ HX0.out]; rfl
  have g4 : X.cell? ⟨w.heap.size, 4, none⟩ = some (.int .i64 at') := by rw [cell_of_row _ _ _ _ _ _ HX0.out]; rfl
  go_quiet (fail)
  have HBX := hid (HB0.out.trans ((below_drewN (Below.refl X.heap.size X) nq).mono HB0.out.size))
  clear g0 g1 g2 g3 g4 HX0 HB0
  go_wp2_with fail
  refine (HF1.out _ HBX.out).mono ?_
  rintro e w1 ⟨rfl, hb⟩
  have HB1 := hid (HBX.out.trans (hb.mono HBX.out.size))
  clear hb HF1 HBX
  go_wp2_with fail
  refine (HF2.out _ HB1.out).mono ?_
  rintro e w2 ⟨rfl, hb⟩
  have HB2 := hid (HB1.out.trans (hb.mono HB1.out.size))
  clear hb HF2 HB1
  go_wp2_with fail
  refine (live_any _ (HL.out.next HP.out HB2.out)).mono ?_
  rintro e w99 ⟨rfl, hb⟩
  have HB9 := hid (hb.mono (HB2.out).size)
  have HB8 := hid ((HB2.out).trans HB9.out)
  clear hb
  go_wp2_with fail
  go_ret
  exact ⟨rfl, HB8.out⟩
set_option maxRecDepth 100000 in
set_option maxHeartbeats 16000000 in
theorem jw_go (p q z : Option Addr) (L M : List PageT) (ks : List Int) (c d kc : Nat) (torn at' : Int) (w : World) (hL : Lst w) (hp : Pgs w p L) (hq : Pgs w q M) (hz : Dk.Kept w z ks) (h1 : 1 ≤ L.length) (h2 : L.length ≤ 8) (h4 : M.length ≤ 8) (hf : FewP L) (hf2 : FewP M) (h5 : ks.length ≤ 60) :
    Calls Tryd.prog 5 #[.agg #[.slice p L.length c, .slice q M.length d, .slice z ks.length kc, .int .i64 torn, .int .i64 at']] w fun e w' => e = .returned (.bool true) ∧ Below w.heap.size w w' := by
  have HL := hid hL
  have HP := hid hL.pos
  have HG := hid hp
  have HGQ := hid hq
  have HZ := hid hz
  obtain ⟨n, hn⟩ : ∃ n, L.length = n := ⟨_, rfl⟩
  obtain ⟨m, hm⟩ : ∃ n, M.length = n := ⟨_, rfl⟩
  obtain ⟨kl, hkl⟩ : ∃ n, ks.length = n := ⟨_, rfl⟩
  have HN := hid hn
  have HM := hid hm
  have HKL := hid hkl
  have HF1 := hid fun (V : World) (hv : Below w.heap.size w V) => few_any L p c V (hp.below hv) true ⟨(fun _ => hf), (fun _ => rfl)⟩
  have HF2 := hid fun (V : World) (hv : Below w.heap.size w V) => few_any M q d V (hq.below hv) true ⟨(fun _ => hf2), (fun _ => rfl)⟩
  rw [hn] at h1 h2
  rw [hm] at h4
  rw [hn] at HF1
  rw [hm] at HF2
  rw [hkl] at h5
  rw [hn, hm, hkl]
  have a1 : decide ((n : Int) < 1) = false := by first | (simp; done) | (simp; omega) | (rw [decide_eq_false_iff_not]; omega)
  have a2 : decide (n < 1) = false := by first | (simp; done) | (simp; omega) | (rw [decide_eq_false_iff_not]; omega)
  have a5 : (n == 0) = false := by simp; omega
  have a3 : decide ((8 : Int) < (n : Int)) = false := by first | (simp; done) | (simp; omega)
  have a4 : decide (8 < n) = false := by first | (simp; done) | (simp; omega)
  have b3 : decide ((8 : Int) < (m : Int)) = false := by first | (simp; done) | (simp; omega)
  have b4 : decide (8 < m) = false := by first | (simp; done) | (simp; omega)
  have e3 : decide ((60 : Int) < (kl : Int)) = false := by first | (simp; done) | (simp; omega)
  have e4 : decide (60 < kl) = false := by first | (simp; done) | (simp; omega)
  have HH1 := hid h1; have HH2 := hid h2; have HH4 := hid h4
  have HH5 := hid h5
  clear h1 h2 h4 hf hf2 h5
  have HB0 := hid ((Below.refl w.heap.size w).alloc (Nat.le_refl _) (.cells #[.slice p n c, .slice q m d, .slice z kl kc, .int .i64 torn, .int .i64 at'] 44))
  have HX0 := hid (heap_alloc_new w (.cells #[.slice p n c, .slice q m d, .slice z kl kc, .int .i64 torn, .int .i64 at'] 44))
  clear hL hp hq hz hn hm hkl
  go_enter Tryd.func5, Tryd.ntmps5
  go_wp2_with fail
  generalize (w.alloc (.cells #[.slice p n c, .slice q m d, .slice z kl kc, .int .i64 torn, .int .i64 at'] 44)) = X at *
  have g0 : X.cell? ⟨w.heap.size, 0, none⟩ = some (.slice p n c) := by rw [cell_of_row _ _ _ _ _ _ HX0.out]; rfl
  have g1 : X.cell? ⟨w.heap.size, 1, none⟩ = some (.slice q m d) := by rw [cell_of_row _ _ _ _ _ _ HX0.out]; rfl
  have g2 : X.cell? ⟨w.heap.size, 2, none⟩ = some (.slice z kl kc) := by rw [cell_of_row _ _ _ _ _ _ HX0.out]; rfl
  have g3 : X.cell? ⟨w.heap.size, 3, none⟩ = some (.int .i64 torn) := by rw [cell_of_row _ _ _ _ _ _ HX0.out]; rfl
  have g4 : X.cell? ⟨w.heap.size, 4, none⟩ = some (.int .i64 at') := by rw [cell_of_row _ _ _ _ _ _ HX0.out]; rfl
  go_quiet (fail)
  have HBX := hid (HB0.out.trans ((below_drewN (Below.refl X.heap.size X) nq).mono HB0.out.size))
  clear g0 g1 g2 g3 g4 HX0 HB0
  go_wp2_with fail
  refine (HF1.out _ HBX.out).mono ?_
  rintro e w1 ⟨rfl, hb⟩
  have HB1 := hid (HBX.out.trans (hb.mono HBX.out.size))
  clear hb HF1 HBX
  go_wp2_with fail
  refine (HF2.out _ HB1.out).mono ?_
  rintro e w2 ⟨rfl, hb⟩
  have HB2 := hid (HB1.out.trans (hb.mono HB1.out.size))
  clear hb HF2 HB1
  go_wp2_with fail
  refine (dnew 20 w2 (by decide) (by decide)).mono ?_
  rintro e w3 ⟨D, rfl, hc, hb⟩
  have HK3 := hid (KS.of (K := fun j => j < w2.heap.size) hb)
  have HL9 := hid (HL.out.next HP.out HB2.out)
  have HP2 := hid (show 0 < w2.heap.size from Nat.lt_of_lt_of_le HP.out HB2.out.size)
  have HL3 := hid (HL.out.next HP.out (HB2.out.trans (hb.mono HB2.out.size)))
  have HN3 := hid (show Calls Tryd.prog 9 #[.pointer (some ⟨D, 0, none⟩), .int .i64 3, .int .i64 10, .int .i64 7] w3 fun e w' => e = .returned (.tuple #[.pointer (some ⟨w3.heap.size, 0, none⟩), .int .i64 0]) ∧ Jk (fun j => j < w2.heap.size ∨ j = w3.heap.size) w3.heap.size D w' (newS (blanks 20)) 3 10 7 ∧ Below w3.heap.size w3 w' from jnew_jk hc HL3.out HP2.out 3 10 7 lj_ok (by decide))
  have HW23 := hid hb.size
  clear hc hb
  go_wp2_with fail
  refine HN3.out.mono ?_
  rintro e w4 ⟨rfl, hj, hb⟩
  have HJ4 := hid hj
  have HK4 := hid (HK3.out.trans (KS.of hb))
  have HW34 := hid hb.size
  clear hj hb HN3 HK3 HL3
  have HN4 := hid (show Calls Tryd.prog 9 #[.pointer (some ⟨D, 0, none⟩), .int .i64 3, .int .i64 10, .int .i64 6] w4 fun e w' => e = .returned (.tuple #[.pointer (some ⟨w4.heap.size, 0, none⟩), .int .i64 0]) ∧ Jk (fun j => (j < w2.heap.size ∨ j = w3.heap.size) ∨ j = w4.heap.size) w4.heap.size D w' (newS (blanks 20)) 3 10 6 ∧ Below w4.heap.size w4 w' from jnew_jk HJ4.out.cd HJ4.out.lst HJ4.out.k0 3 10 6 lj_ok6 (by decide))
  go_wp2_with fail
  refine HN4.out.mono ?_
  rintro e w5 ⟨rfl, hj, hb⟩
  have HJ5 := hid hj
  have HK5 := hid (HK4.out.trans (KS.of hb))
  have HA5 := hid (HJ4.out.j.below hb)
  clear hj hb HN4 HK4 HJ4
  have HC5 := hid (jcom_q HJ5.out lj_ok6 (few_new _) q M d (by have := HM.out; have := HH4.out; omega) (HGQ.out.below (below_ks HB2.out HK5.out)) (fun g off e h => by
    obtain ⟨g', off', e', hl, _⟩ := HGQ.out 0 h
    rw [e] at e'
    injection e' with e'; injection e' with e1 e2
    subst e1
    exact .inl (.inl (Nat.lt_of_lt_of_le hl HB2.out.size))) (by have := HM.out; have := HH4.out; omega))
  rw [HM.out] at HC5
  have HF6 := hid (comQ_few (few_new (blanks 20)) 3 6 M)
  have HG6 := hid (show (comQ (newS (blanks 20)) 3 6 M).2.pages.length = 20 by rw [comQ_len]; decide)
  have HW6 := hid (comQ_waits (s := newS (blanks 20)) rfl rfl 3 6 M)
  have HO6 := hid (old_none (n := 20) (t := 7) lj_ok6 (by decide) M (by have := HM.out; have := HH4.out; omega) (by decide))
  generalize (comQ (newS (blanks 20)) 3 6 M).2 = s6 at *
  generalize (comQ (newS (blanks 20)) 3 6 M).1 = z6 at *
  go_wp2_with fail
  refine HC5.out.mono ?_
  rintro e w6 ⟨rfl, hc, hks⟩
  have HC6 := hid hc
  have HK6 := hid (HK5.out.trans (KS.less hks (fun j e => .inl (.inl e))))
  have HA6 := hid (show JAt w6 w3.heap.size D 3 10 7 from (hks.block w3.heap.size HA5.out.lt (.inl (.inr rfl))).trans HA5.out)
  clear hc hks HC5 HJ5 HK5 HA5
  go_wp2_with fail
  refine (cd_image HC6.out).mono ?_
  rintro e w7 ⟨g7, c7, rfl, hg, hcl, hb⟩
  have HB7 := hid hb
  have HR7 := hid (refOf_rk s6.pages (some ⟨g7, 0, none⟩) c7 w7 (by have := HG6.out; omega) (by have := HG6.out; omega) HC6.out.good.sizes hcl (fun b off e => by injection e with e; injection e with e1 _; subst e1; exact hg))
  clear hg hcl hb
  rw [HG6.out] at HR7 ⊢
  go_wp2_with fail
  refine HR7.out.mono ?_
  rintro e w8 ⟨r8, rfl, hr, hb, hf⟩
  have HB8a := hid (HB7.out.trans (hb.mono HB7.out.size))
  have HBD := hid (bd_make HC6.out HB8a.out hr (fun k hk => Nat.le_trans HB7.out.size (hf k hk)))
  have HK8 := hid (HK6.out.trans (KS.of HB8a.out))
  have HA8 := hid (HA6.out.below HB8a.out)
  clear hr hb hf HR7 HB7 HC6 HK6 HA6 HB8a
  generalize r8.D = R at *
  have HPT := hid (show (newS s6.pages).pages.length = 20 from HG6.out)
  obtain ⟨KA, hsub, hrc, hback⟩ := HBD.out.ref
  have HN8 := hid (rnew_at hrc HPT.out)
  clear hsub hrc hback
  go_wp2_with fail
  refine HN8.out.mono ?_
  rintro e w9 ⟨J3, rfl, hJ3, hra, hb⟩
  have HBD9 := hid (show Bd (fun j => ((j < w2.heap.size ∨ j = w3.heap.size) ∨ j = w4.heap.size) ∨ j = J3) D R w9 s6 (newS s6.pages) from HBD.out.more hb (fun k hk => hk.imp id (fun e => by omega)) (fun k hk => by
    rcases hk with hk | hk
    · exact Nat.lt_of_lt_of_le (HBD.out.lt k hk) hb.size
    · subst hk; exact hra.lt))
  have HRA9 := hid hra
  have HK9 := hid (HK8.out.trans (KS.of hb))
  have HA9 := hid (HA8.out.below hb)
  clear hJ3 hra hb HN8 HBD HK8 HA8
  obtain ⟨K, hK⟩ : ∃ K : Nat → Prop, (fun j => ((j < w2.heap.size ∨ j = w3.heap.size) ∨ j = w4.heap.size) ∨ j = J3) = K := ⟨_, rfl⟩
  rw [hK] at HBD9
  have HKO := hid (show ∀ j, j < w2.heap.size → K j from fun j e => by rw [← hK]; exact .inl (.inl (.inl e)))
  have HK3 := hid (show K w3.heap.size by rw [← hK]; exact .inl (.inl (.inr rfl)))
  have HKJ := hid (show K J3 by rw [← hK]; exact .inr rfl)
  clear hK
  obtain ⟨KA, hsub, hrc, hback⟩ := HBD9.out.ref
  have HRC := hid (rcom_any (J := J3) (R := R) (b := 3) (n := 10) (t := 7) (K := KA) (w0 := w9) (s := newS s6.pages) ⟨hrc, hsub _ HKJ.out, HRA9.out⟩ lj_ok (few_new _) p L c (by have := HN.out; have := HH2.out; omega) (HG.out.below (below_ks HB2.out HK9.out)) (fun g off e h => by
    obtain ⟨g', off', e', hl, _⟩ := HG.out 0 h
    rw [e] at e'
    injection e' with e'; injection e' with e1 e2
    subst e1
    exact hsub _ (HKO.out _ (Nat.lt_of_lt_of_le hl HB2.out.size))) (by have := HN.out; have := HH1.out; omega) (by have := HN.out; have := HH2.out; omega))
  rw [HN.out] at HRC
  have HBK := hid hback
  clear hsub hrc hback
  rcases Classical.em (AllS L) with hs | hs
  · rw [comR_yes hs] at HRC
    have HYS := hid hs
    clear hs
    have HFT := hid (few_com (few_new s6.pages) 3 7 L)
    have HLT := hid (show (comS (newS s6.pages) 3 7 L).pages.length = 20 by rw [com_len]; exact HPT.out)
    have HLL := hid (show 0 < L.length by have := HN.out; have := HH1.out; omega)
    have HLU := hid (show L.length < 10 by have := HN.out; have := HH2.out; omega)
    have HVW := hid (com_vw (s := newS s6.pages) rfl lj_ok HLL.out HYS.out HLU.out (by rw [HPT.out]; decide))
    generalize comS (newS s6.pages) 3 7 L = t9 at *
    go_wp2_with fail
    refine HRC.out.mono ?_
    rintro e w10 ⟨rfl, hc, hks⟩
    obtain ⟨hbd, hkk⟩ := HBK.out _ _ hc hks
    have HBD10 := hid hbd
    have HK10 := hid (HK9.out.trans (KS.less hkk (fun j e => HKO.out j e)))
    have HA10 := hid (show JAt w10 w3.heap.size D 3 10 7 from (hkk.block w3.heap.size HA9.out.lt HK3.out).trans HA9.out)
    clear hc hks hbd hkk HRC HBK HBD9 HK9 HA9 HRA9
    obtain ⟨NEW, hNEW⟩ : ∃ f, vw t9 = f := ⟨_, rfl⟩
    rw [hNEW] at HVW
    have HNEW := hid hNEW
    clear hNEW
    obtain ⟨OLD, hOLD⟩ : ∃ f, (fun j => s6.pages.getD j emptyB) = f := ⟨_, rfl⟩
    have HO7 := hid (show ∀ (j i : Nat) (kd pk pn : Int) (bo : ByteArray) (ct sm : Int), ¬ IsJ (OLD j) j i 7 kd pk pn bo ct sm by rw [← hOLD]; exact HO6.out)
    have HWT := hid (show Wt s6 OLD NEW by rw [← hOLD]; exact ⟨fun _ => rfl, fun x hx => by rw [HW6.out] at hx; exact absurd hx List.not_mem_nil⟩)
    clear hOLD
    go_wp2_with fail
    go_loopw [18, 19, 20] (fun x _ _ wx => ∃ (i : Nat) (s' t' : St), x = .int .i64 i ∧ i ≤ n + 1 ∧ Bd K D R wx s' t' ∧ Same t9 t' ∧ Few s' (100 + i) ∧ Few t' (100 + i) ∧ s'.pages.length = 20 ∧ Wt s' OLD NEW ∧ KS (fun j => j < w2.heap.size) w2 wx ∧ JAt wx w3.heap.size D 3 10 7) (fun x _ _ _ => n + 1 - (intOf x).toNat)
    case atStart => exact ⟨0, s6, t9, rfl, Nat.zero_le _, HBD10.out, Same.refl _, few_up HF6.out (by have := HM.out; have := HH4.out; omega), few_up HFT.out (by have := HN.out; have := HH2.out; omega), HG6.out, HWT.out, HK10.out, HA10.out⟩
    case round =>
      obtain ⟨i, s', t', rfl, hi, hbd, hsm, hfs, hft, hpl, hwt, hks, hja⟩ := hrel
      have HBD := hid hbd; have HSM := hid hsm; have HFS := hid hfs; have HFT2 := hid hft; have HPL := hid hpl; have HWT2 := hid hwt; have HKS := hid hks; have HJA := hid hja
      clear hbd hsm hfs hft hpl hwt hks hja HBD10 HK10 HA10 HWT
      by_cases hlt : i < n + 1
      · have hle : i ≤ n := by omega
        have HI := hid hlt
        have HI2 := hid hle
        obtain ⟨m3, hm3⟩ : ∃ x, 3 + i = x := ⟨_, rfl⟩
        have HM9 := hid (show (3 + (i : Int)) = (m3 : Int) by omega)
        have HM3 := hid hm3
        obtain ⟨KA, hsub, hrc, hback⟩ := HBD.out.ref
        have HRD := hid (hrc.read HFT2.out (by have := HH2.out; omega) (m3 : Int))
        have HBK := hid hback
        have HVV := hid (show (rdU t' (m3 : Int)).1 = NEW m3 by rw [rd_vw (by rw [HSM.out.pages, HLT.out]; have := HH2.out; omega), HSM.out.vw, HNEW.out])
        have HS4 := hid (HSM.out.trans (Same.rd t' (m3 : Int)))
        have HF4 := hid (few_rd HFT2.out (m3 : Int))
        rw [HVV.out] at HRD
        clear hsub hrc hback hm3 hlt
        generalize (rdU t' (m3 : Int)).2.2 = t4 at *
        generalize (rdU t' (m3 : Int)).2.1 = e4 at *
        have hnn := HH2.out
        go_wp2_with fail
        rw [HM9.out]
        refine HRD.out.mono ?_
        rintro e w11 ⟨rfl, hc, hks⟩
        obtain ⟨hbd, hkk⟩ := HBK.out _ _ hc hks
        have HBD4 := hid hbd
        have HK4 := hid (HKS.out.trans (KS.less hkk (fun j e => HKO.out j e)))
        have HA4 := hid (show JAt w11 w3.heap.size D 3 10 7 from (hkk.block w3.heap.size HJA.out.lt HK3.out).trans HJA.out)
        clear hc hks hbd hkk HRD HBK HBD HKS HJA
        obtain ⟨KB, hsub, hrc, hback⟩ := HBD4.out.code
        have HWR := hid (hrc.write HFS.out (by have := HH2.out; omega) (m3 : Int) (NEW m3))
        have HBK := hid hback
        clear hsub hrc hback
        go_wp2_with fail
        rw [HM9.out]
        refine HWR.out.mono ?_
        rintro e w12 ⟨rfl, hc, hks⟩
        obtain ⟨hbd, hkk⟩ := HBK.out _ _ hc hks
        have HBD5 := hid hbd
        have HK5 := hid (HK4.out.trans (KS.less hkk (fun j e => HKO.out j e)))
        have HA5 := hid (show JAt w12 w3.heap.size D 3 10 7 from (hkk.block w3.heap.size HA4.out.lt HK3.out).trans HA4.out)
        clear hc hks hbd hkk HWR HBK HBD4 HK4 HA4
        go_wp2_with fail
        go_roundw
        case rel => exact ⟨i + 1, _, t4, by go_num, HI.out, HBD5.out, HS4.out, few_wr HFS.out _ _, HF4.out, by rw [wr_len]; exact HPL.out, HWT2.out.wr m3, HK5.out, HA5.out⟩
        case measure => simp [intOf]; have := HI.out; omega
      · obtain rfl : i = n + 1 := by omega
        clear hlt hi
        obtain ⟨KB, hsub, hcd, -⟩ := HBD.out.code
        have HCD := hid (show Cd K D wr s' from hcd.less hsub)
        clear hsub hcd HBD
        have HCR := hid (cd_crash HCD.out z kc ks (kept_on HZ.out (below_ks HB2.out HKS.out)) (by have := HKL.out; have := HH5.out; omega) torn at')
        rw [HKL.out] at HCR
        have HGD := hid HCD.out.good
        cases hcm : comeS s' ks torn at' with
        | none =>
          have HE := hid (show crU s' ks torn at' = (1, s') by unfold crU; rw [hcm])
          rw [HE.out] at HCR
          clear hcm
          have hnn := HH2.out
          go_wp2_with fail
          refine HCR.out.mono ?_
          rintro e w13 ⟨rfl, hc, hks⟩
          have HK13 := hid (HKS.out.trans (KS.less hks (fun j e => HKO.out j e)))
          have HL13 := hid (lst_ks HL9.out HP2.out HK13.out)
          clear hc hks HCR
          go_wp2_with fail
          refine (live_any _ HL13.out).mono ?_
          rintro e w99 ⟨rfl, hb⟩
          have HB9 := hid (hb.mono (below_ks HB2.out HK13.out).size)
          have HB8 := hid ((below_ks HB2.out HK13.out).trans HB9.out)
          clear hb
          go_wp2_with fail
          go_ret
          exact ⟨rfl, HB8.out⟩
        | some o =>
          have HE := hid (show crU s' ks torn at' = (0, crashS s' o) by unfold crU; rw [hcm])
          rw [HE.out] at HCR
          have HMIX := hid (fun (r : Option (List PageT)) (hr : Scans (vw (crashS s' o)) 3 10 7 0 [] r) => scan_mixed (OLD := OLD) (NEW := NEW) lj_ok HLL.out HYS.out HLU.out (fun i hi => by rw [HVW.out, if_pos (by omega), show 3 + i - 3 = i by omega]) (by rw [HVW.out, if_neg (by omega), if_pos rfl]) (fun j => HWT2.out.crash HGD.out hcm j) HO7.out hr)
          have HP13 := hid (show (crashS s' o).pages.length = 20 by rw [crashP_len]; exact HPL.out)
          have HF13 := hid (show Few (crashS s' o) (100 + (n + 1) + 1) by
            have h := few_cr HFS.out ks torn at'
            rw [HE.out] at h; exact h)
          clear hcm HE
          generalize crashS s' o = s13 at *
          have hnn := HH2.out
          go_wp2_with fail
          refine HCR.out.mono ?_
          rintro e w13 ⟨rfl, hc, hks⟩
          have HK13 := hid (HKS.out.trans (KS.less hks (fun j e => HKO.out j e)))
          have HJ13 := hid (show Jk K w3.heap.size D w13 s13 3 10 7 from ⟨hc, HK3.out, HKO.out 0 HP2.out, (hks.block w3.heap.size HJA.out.lt HK3.out).trans HJA.out, lst_ks HL9.out HP2.out HK13.out⟩)
          clear hc hks HCR HKS HJA
          have HSC := hid (jscan HJ13.out lj_ok (by rw [HP13.out]; decide) HF13.out (by have := HH2.out; omega))
          go_wp2_with fail
          refine HSC.out.mono ?_
          rintro e w14 ⟨r, s14, K8, hr, he, hKK, hc, hks, hsm, hfw⟩
          have HK14 := hid (HK13.out.trans (KS.less hks (fun j e => HKO.out j e)))
          have HL14 := hid (lst_ks HL9.out HP2.out HK14.out)
          rcases HMIX.out r hr with e9 | e9
          · subst e9
            have he : e = .returned (.tuple #[.slice none 0 0, .bool false]) := he
            subst he
            clear hr hKK hc hks hsm hfw HSC HJ13 HK13
            go_wp2_with fail
            refine (live_any _ HL14.out).mono ?_
            rintro e w99 ⟨rfl, hb⟩
            have HB9 := hid (hb.mono (below_ks HB2.out HK14.out).size)
            have HB8 := hid ((below_ks HB2.out HK14.out).trans HB9.out)
            clear hb
            go_wp2_with fail
            go_ret
            exact ⟨rfl, HB8.out⟩
          · subst e9
            obtain ⟨pa, ca, rfl, hpa, hga⟩ := he
            have HPA := hid hpa
            clear hr hpa hga hKK hc hks hsm hfw HSC HJ13 HK13
            have HEQ := hid (show Calls Tryd.prog 17 #[.slice pa n ca, .slice p n c] w14 fun e w' => e = .returned (.bool true) ∧ Below w14.heap.size w14 w' from by
              have h := pages_any L L pa p ca c w14 HPA.out (HG.out.below (below_ks HB2.out HK14.out)) (by have := HLU.out; omega)
              rw [show decide (L = L) = true from decide_eq_true rfl, HN.out] at h; exact h)
            rw [HN.out]
            go_wp2_with fail
            refine HEQ.out.mono ?_
            rintro e w15 ⟨rfl, hb⟩
            have HL15 := hid (HL14.out.next HL14.out.pos hb)
            have HK15 := hid (HK14.out.trans (KS.of hb))
            clear hb
            go_wp2_with fail
            refine (live_any _ HL15.out).mono ?_
            rintro e w99 ⟨rfl, hb⟩
            have HB9 := hid (hb.mono (below_ks HB2.out HK15.out).size)
            have HB8 := hid ((below_ks HB2.out HK15.out).trans HB9.out)
            clear hb
            go_wp2_with fail
            go_ret
            exact ⟨rfl, HB8.out⟩
  · rw [comR_no hs] at HRC
    clear hs
    go_wp2_with fail
    refine HRC.out.mono ?_
    rintro e w10 ⟨rfl, hc, hks⟩
    obtain ⟨hbd, hkk⟩ := HBK.out _ _ hc hks
    have HK10 := hid (HK9.out.trans (KS.less hkk (fun j e => HKO.out j e)))
    have HL10 := hid (lst_ks HL9.out HP2.out HK10.out)
    clear hc hks hbd hkk HRC HBK HBD9 HK9 HA9 HRA9
    go_wp2_with fail
    refine (live_any _ HL10.out).mono ?_
    rintro e w99 ⟨rfl, hb⟩
    have HB9 := hid (hb.mono (below_ks HB2.out HK10.out).size)
    have HB8 := hid ((below_ks HB2.out HK10.out).trans HB9.out)
    clear hb
    go_wp2_with fail
    go_ret
    exact ⟨rfl, HB8.out⟩
theorem JournalWhole_walk (v : Value) (w : World) (h : Dk.WhV w v) (hL : Lst w) :
    Calls Tryd.prog 5 #[v] w fun e w' => e = .returned (.bool true) ∧ Below w.heap.size w w' := by
  obtain ⟨x, rfl, hok⟩ := h
  obtain ⟨p, n, c, q, m, d, z, ks, kc, torn, at'⟩ := x
  obtain ⟨L, hL1, hp⟩ := whpgs hok.f0
  obtain ⟨M, hM1, hq⟩ := whpgs hok.f1
  have hz := hok.f2.1.cells
  dsimp only at hL1 hM1 hp hq hz
  subst hL1 hM1
  show Calls Tryd.prog 5 #[.agg #[.slice p L.length c, .slice q M.length d, .slice z ks.length kc, .int .i64 torn, .int .i64 at']] w _
  by_cases h1 : L.length < 1
  · exact jw_f1 p q z L M ks c d kc torn at' w hL hp hq hz h1
  · by_cases h2 : 8 < L.length
    · exact jw_f2 p q z L M ks c d kc torn at' w hL hp hq hz h2
    · by_cases h4 : 8 < M.length
      · exact jw_f3 p q z L M ks c d kc torn at' w hL hp hq hz (by omega) (by omega) h4
      · rcases Classical.em (FewP L) with hf | hf
        · rcases Classical.em (FewP M) with hf2 | hf2
          · by_cases h5 : 60 < ks.length
            · exact jw_f6 p q z L M ks c d kc torn at' w hL hp hq hz (by omega) (by omega) (by omega) hf hf2 h5
            · exact jw_go p q z L M ks c d kc torn at' w hL hp hq hz (by omega) (by omega) (by omega) hf hf2 (by omega)
          · exact jw_f5 p q z L M ks c d kc torn at' w hL hp hq hz (by omega) (by omega) (by omega) hf hf2
        · exact jw_f4 p q z L M ks c d kc torn at' w hL hp hq hz (by omega) (by omega) (by omega) hf
set_option maxRecDepth 100000 in
theorem JournalWhole_open0 {H : Type} {enc : TypeId × Value → H} {W : World} {base : Nat} {v : Value} {d : DataW H} {p : List MemPlace} (hv : Value.okWide Tryd.prog W .any base 44 v) (h : DataW.Trod enc Tryd.prog W 0 (fun _ => true) true 44 v d p) : Dk.WhV W v := Dk.open_Wh hv h
end Go.Proofs.YtpobhdhfhnnajaaDoor.Jn
