/- Merged out of JnBackW. -/
import Derived.Test.YtpobhdhfhnnajaaDoorW15
/- JournalBack walked. -/
namespace Go.Proofs.YtpobhdhfhnnajaaDoor.Jn
open Go.RowKit
open Go.Lib (hid)
open Go.Proofs.YtpobhdhfhnnajaaDoor.Dk
open Go.Proofs.YtpobhdhfhnnajaaDoor.En (Lst PageT Pgs IsPgs pgs_list)
theorem dnew_bad (n : Int) (w : World) (h : n < 1 ∨ 1000 < n) : Calls Tryd.prog 16 #[.int .i64 n] w fun e w' => e = .returned (.tuple #[.pointer none, .int .i64 1]) ∧ w' = w := (new_bad n w h).mono fun _ _ ⟨h1, h2⟩ => ⟨h1, h2.symm⟩
theorem below_ks {w w1 w2 : World} (h : Below w.heap.size w w1) (hk : KS (fun j => j < w1.heap.size) w1 w2) : Below w.heap.size w w2 := h.trans ((hk.below (Nat.le_refl _) (fun _ hk => hk)).mono h.size)
set_option maxRecDepth 100000 in
set_option maxHeartbeats 4000000 in
theorem jb_far1 (p : Option Addr) (L : List PageT) (cap : Nat) (w : World) (hL : Lst w) (hp : Pgs w p L) (pg ba si tx : Int) (ab : Bool) (hf : ¬ FewP L) :
    Calls Tryd.prog 4 #[.agg #[.int .i64 pg, .int .i64 ba, .int .i64 si, .int .i64 tx], .slice p L.length cap, .bool ab] w fun e w' => e = .returned (.bool true) ∧ Below w.heap.size w w' := by
  have HL := hid hL
  have HP := hid hL.pos
  have HG := hid hp
  have HB0 := hid ((Below.refl w.heap.size w).alloc (Nat.le_refl _) (.cells #[.int .i64 pg, .int .i64 ba, .int .i64 si, .int .i64 tx] 23))
  have HF := hid (few_any L p cap (w.alloc (.cells #[.int .i64 pg, .int .i64 ba, .int .i64 si, .int .i64 tx] 23)) (hp.below HB0.out) false ⟨(fun h => by cases h), (fun h => absurd h hf)⟩)
  have HX0 := hid (heap_alloc_new w (.cells #[.int .i64 pg, .int .i64 ba, .int .i64 si, .int .i64 tx] 23))
  obtain ⟨n, hn⟩ : ∃ n, L.length = n := ⟨_, rfl⟩
  have HN := hid hn
  rw [hn] at HF ⊢
  clear hL hp hn hf
  go_enter Tryd.func4, Tryd.ntmps4
  go_wp2_with fail
  refine HF.out.mono ?_
  rintro e w1 ⟨rfl, hb⟩
  have HB1 := hid (HB0.out.trans (hb.mono HB0.out.size))
  have HX1 := hid ((hb.block w.heap.size (Array.getElem?_eq_some_iff.1 HX0.out).1).trans HX0.out)
  clear hb HX0 HB0 HF
  go_wp2_with fail
  refine (live_any _ (HL.out.next HP.out HB1.out)).mono ?_
  rintro e w99 ⟨rfl, hb⟩
  have HB9 := hid (hb.mono (HB1.out).size)
  have HB8 := hid ((HB1.out).trans HB9.out)
  clear hb
  go_wp2_with fail
  go_ret
  exact ⟨rfl, HB8.out⟩
set_option maxRecDepth 100000 in
set_option maxHeartbeats 4000000 in
theorem jb_far2 (p : Option Addr) (L : List PageT) (cap : Nat) (w : World) (hL : Lst w) (hp : Pgs w p L) (pg ba si tx : Int) (ab : Bool) (hf : FewP L) (h30 : 30 < pg) :
    Calls Tryd.prog 4 #[.agg #[.int .i64 pg, .int .i64 ba, .int .i64 si, .int .i64 tx], .slice p L.length cap, .bool ab] w fun e w' => e = .returned (.bool true) ∧ Below w.heap.size w w' := by
  have HL := hid hL
  have HP := hid hL.pos
  have HG := hid hp
  have HB0 := hid ((Below.refl w.heap.size w).alloc (Nat.le_refl _) (.cells #[.int .i64 pg, .int .i64 ba, .int .i64 si, .int .i64 tx] 23))
  have HF := hid (few_any L p cap (w.alloc (.cells #[.int .i64 pg, .int .i64 ba, .int .i64 si, .int .i64 tx] 23)) (hp.below HB0.out) true ⟨(fun _ => hf), (fun _ => rfl)⟩)
  have HX0 := hid (heap_alloc_new w (.cells #[.int .i64 pg, .int .i64 ba, .int .i64 si, .int .i64 tx] 23))
  obtain ⟨n, hn⟩ : ∃ n, L.length = n := ⟨_, rfl⟩
  have HN := hid hn
  rw [hn] at HF ⊢
  clear hL hp hn hf
  have e0 : decide ((30 : Int) < pg) = true := decide_eq_true h30
  clear h30
  go_enter Tryd.func4, Tryd.ntmps4
  go_wp2_with fail
  refine HF.out.mono ?_
  rintro e w1 ⟨rfl, hb⟩
  have HB1 := hid (HB0.out.trans (hb.mono HB0.out.size))
  have HX1 := hid ((hb.block w.heap.size (Array.getElem?_eq_some_iff.1 HX0.out).1).trans HX0.out)
  clear hb HX0 HB0 HF
  have c0 : w1.cell? ⟨w.heap.size, 0, none⟩ = some (.int .i64 pg) := by rw [cell_of_row _ _ _ _ _ _ HX1.out]; rfl
  have c1 : w1.cell? ⟨w.heap.size, 1, none⟩ = some (.int .i64 ba) := by rw [cell_of_row _ _ _ _ _ _ HX1.out]; rfl
  have c2 : w1.cell? ⟨w.heap.size, 2, none⟩ = some (.int .i64 si) := by rw [cell_of_row _ _ _ _ _ _ HX1.out]; rfl
  have c3 : w1.cell? ⟨w.heap.size, 3, none⟩ = some (.int .i64 tx) := by rw [cell_of_row _ _ _ _ _ _ HX1.out]; rfl
  go_wp2_with fail
  refine (live_any _ (HL.out.next HP.out HB1.out)).mono ?_
  rintro e w99 ⟨rfl, hb⟩
  have HB9 := hid (hb.mono (HB1.out).size)
  have HB8 := hid ((HB1.out).trans HB9.out)
  clear hb
  go_wp2_with fail
  go_ret
  exact ⟨rfl, HB8.out⟩
set_option maxRecDepth 100000 in
set_option maxHeartbeats 4000000 in
theorem jb_nodisk (p : Option Addr) (L : List PageT) (cap : Nat) (w : World) (hL : Lst w) (hp : Pgs w p L) (pg ba si tx : Int) (ab : Bool) (hf : FewP L) (h1 : pg < 1) :
    Calls Tryd.prog 4 #[.agg #[.int .i64 pg, .int .i64 ba, .int .i64 si, .int .i64 tx], .slice p L.length cap, .bool ab] w fun e w' => e = .returned (.bool true) ∧ Below w.heap.size w w' := by
  have HL := hid hL
  have HP := hid hL.pos
  have HG := hid hp
  have HB0 := hid ((Below.refl w.heap.size w).alloc (Nat.le_refl _) (.cells #[.int .i64 pg, .int .i64 ba, .int .i64 si, .int .i64 tx] 23))
  have HF := hid (few_any L p cap (w.alloc (.cells #[.int .i64 pg, .int .i64 ba, .int .i64 si, .int .i64 tx] 23)) (hp.below HB0.out) true ⟨(fun _ => hf), (fun _ => rfl)⟩)
  have HX0 := hid (heap_alloc_new w (.cells #[.int .i64 pg, .int .i64 ba, .int .i64 si, .int .i64 tx] 23))
  obtain ⟨n, hn⟩ : ∃ n, L.length = n := ⟨_, rfl⟩
  have HN := hid hn
  rw [hn] at HF ⊢
  clear hL hp hn hf
  have e0 : decide ((30 : Int) < pg) = false := by simp; omega
  have HD := hid (fun (V : World) => dnew_bad pg V (.inl h1))
  clear h1
  go_enter Tryd.func4, Tryd.ntmps4
  go_wp2_with fail
  refine HF.out.mono ?_
  rintro e w1 ⟨rfl, hb⟩
  have HB1 := hid (HB0.out.trans (hb.mono HB0.out.size))
  have HX1 := hid ((hb.block w.heap.size (Array.getElem?_eq_some_iff.1 HX0.out).1).trans HX0.out)
  clear hb HX0 HB0 HF
  have c0 : w1.cell? ⟨w.heap.size, 0, none⟩ = some (.int .i64 pg) := by rw [cell_of_row _ _ _ _ _ _ HX1.out]; rfl
  have c1 : w1.cell? ⟨w.heap.size, 1, none⟩ = some (.int .i64 ba) := by rw [cell_of_row _ _ _ _ _ _ HX1.out]; rfl
  have c2 : w1.cell? ⟨w.heap.size, 2, none⟩ = some (.int .i64 si) := by rw [cell_of_row _ _ _ _ _ _ HX1.out]; rfl
  have c3 : w1.cell? ⟨w.heap.size, 3, none⟩ = some (.int .i64 tx) := by rw [cell_of_row _ _ _ _ _ _ HX1.out]; rfl
  go_wp2_with fail
  refine (HD.out _).mono ?_
  rintro e w' ⟨rfl, hw⟩
  obtain rfl := hw.symm
  go_wp2_with fail
  refine (jnew_nil _ ba si tx).mono ?_
  rintro e w' ⟨rfl, hw⟩
  obtain rfl := hw.symm
  go_wp2_with fail
  refine (live_any _ (HL.out.next HP.out HB1.out)).mono ?_
  rintro e w99 ⟨rfl, hb⟩
  have HB9 := hid (hb.mono (HB1.out).size)
  have HB8 := hid ((HB1.out).trans HB9.out)
  clear hb
  go_wp2_with fail
  go_ret
  exact ⟨rfl, HB8.out⟩
set_option maxRecDepth 100000 in
set_option maxHeartbeats 4000000 in
theorem jb_badj (p : Option Addr) (L : List PageT) (cap : Nat) (w : World) (hL : Lst w) (hp : Pgs w p L) (m : Nat) (ba si tx : Int) (ab : Bool) (hf : FewP L) (h1 : 1 ≤ m) (h30 : m ≤ 30) (htx : tx ≤ 9223372036854775807) (hbad : ¬ (2 ≤ si ∧ si ≤ 999 ∧ 1 ≤ tx ∧ tx ≤ 4294967295 ∧ 0 ≤ ba ∧ ba + si ≤ (m : Int))) :
    Calls Tryd.prog 4 #[.agg #[.int .i64 (m : Int), .int .i64 ba, .int .i64 si, .int .i64 tx], .slice p L.length cap, .bool ab] w fun e w' => e = .returned (.bool true) ∧ Below w.heap.size w w' := by
  have HL := hid hL
  have HP := hid hL.pos
  have HG := hid hp
  have HB0 := hid ((Below.refl w.heap.size w).alloc (Nat.le_refl _) (.cells #[.int .i64 (m : Int), .int .i64 ba, .int .i64 si, .int .i64 tx] 23))
  have HF := hid (few_any L p cap (w.alloc (.cells #[.int .i64 (m : Int), .int .i64 ba, .int .i64 si, .int .i64 tx] 23)) (hp.below HB0.out) true ⟨(fun _ => hf), (fun _ => rfl)⟩)
  have HX0 := hid (heap_alloc_new w (.cells #[.int .i64 (m : Int), .int .i64 ba, .int .i64 si, .int .i64 tx] 23))
  obtain ⟨n, hn⟩ : ∃ n, L.length = n := ⟨_, rfl⟩
  have HN := hid hn
  rw [hn] at HF ⊢
  clear hL hp hn hf
  have e0 : decide ((30 : Int) < (m : Int)) = false := by simp; omega
  have e0' : decide (30 < m) = false := by simp; omega
  go_enter Tryd.func4, Tryd.ntmps4
  go_wp2_with fail
  refine HF.out.mono ?_
  rintro e w1 ⟨rfl, hb⟩
  have HB1 := hid (HB0.out.trans (hb.mono HB0.out.size))
  have HX1 := hid ((hb.block w.heap.size (Array.getElem?_eq_some_iff.1 HX0.out).1).trans HX0.out)
  clear hb HX0 HB0 HF
  have c0 : w1.cell? ⟨w.heap.size, 0, none⟩ = some (.int .i64 (m : Int)) := by rw [cell_of_row _ _ _ _ _ _ HX1.out]; rfl
  have c1 : w1.cell? ⟨w.heap.size, 1, none⟩ = some (.int .i64 ba) := by rw [cell_of_row _ _ _ _ _ _ HX1.out]; rfl
  have c2 : w1.cell? ⟨w.heap.size, 2, none⟩ = some (.int .i64 si) := by rw [cell_of_row _ _ _ _ _ _ HX1.out]; rfl
  have c3 : w1.cell? ⟨w.heap.size, 3, none⟩ = some (.int .i64 tx) := by rw [cell_of_row _ _ _ _ _ _ HX1.out]; rfl
  have HD := hid (dnew m w1 h1 (by omega))
  have HSL := hid (show (newS (blanks m)).pages.length = m by show (blanks m).length = _; simp [blanks])
  clear h1 h30
  go_wp2_with fail
  refine HD.out.mono ?_
  rintro e w2 ⟨D, rfl, hc, hb⟩
  have HC2 := hid hc
  have HB2 := hid (HB1.out.trans (hb.mono HB1.out.size))
  have HK2 := hid (KS.of (K := fun j => j < w1.heap.size) hb)
  have HX2 := hid ((hb.block w.heap.size (Array.getElem?_eq_some_iff.1 HX1.out).1).trans HX1.out)
  have HL2 := hid (HL.out.next HP.out HB2.out)
  have HP1 := hid (show 0 < w1.heap.size from Nat.lt_of_lt_of_le HP.out HB1.out.size)
  have HW12 := hid hb.size
  clear hc hb HD
  have HN2 := hid (jnew_bad HC2.out ba si tx htx (by rw [HSL.out]; exact hbad))
  clear htx hbad c0 c1 c2 c3
  have c0 : w2.cell? ⟨w.heap.size, 0, none⟩ = some (.int .i64 (m : Int)) := by rw [cell_of_row _ _ _ _ _ _ HX2.out]; rfl
  have c1 : w2.cell? ⟨w.heap.size, 1, none⟩ = some (.int .i64 ba) := by rw [cell_of_row _ _ _ _ _ _ HX2.out]; rfl
  have c2 : w2.cell? ⟨w.heap.size, 2, none⟩ = some (.int .i64 si) := by rw [cell_of_row _ _ _ _ _ _ HX2.out]; rfl
  have c3 : w2.cell? ⟨w.heap.size, 3, none⟩ = some (.int .i64 tx) := by rw [cell_of_row _ _ _ _ _ _ HX2.out]; rfl
  go_wp2_with fail
  refine (HN2.out).mono ?_
  rintro e w' ⟨rfl, hw⟩
  obtain rfl := hw.symm
  go_wp2_with fail
  refine (live_any _ HL2.out).mono ?_
  rintro e w99 ⟨rfl, hb⟩
  have HB9 := hid (hb.mono (HB2.out).size)
  have HB8 := hid ((HB2.out).trans HB9.out)
  clear hb
  go_wp2_with fail
  go_ret
  exact ⟨rfl, HB8.out⟩
set_option maxRecDepth 100000 in
set_option maxHeartbeats 4000000 in
theorem jb_nocom (p : Option Addr) (L : List PageT) (cap : Nat) (w : World) (hL : Lst w) (hp : Pgs w p L) (m b n0 t : Nat) (ab : Bool) (hf : FewP L) (h1 : 1 ≤ m) (h30 : m ≤ 30) (ok : JOk b n0 t) (hbm : b + n0 ≤ m) (c : Int) (hc : c ≠ 0) (hC : ∀ (J D : Nat) (V : World), JAt V J D b n0 t → Lst V → Pgs V p L → Calls Tryd.prog 11 #[.pointer (some ⟨J, 0, none⟩), .slice p L.length cap] V fun e w' => e = .returned (.int .i64 c) ∧ Below V.heap.size V w') :
    Calls Tryd.prog 4 #[.agg #[.int .i64 (m : Int), .int .i64 (b : Int), .int .i64 (n0 : Int), .int .i64 (t : Int)], .slice p L.length cap, .bool ab] w fun e w' => e = .returned (.bool true) ∧ Below w.heap.size w w' := by
  have HCM := hid hC
  have x1 : (c != 0) = true := by simpa using hc
  clear hC hc
  have HL := hid hL
  have HP := hid hL.pos
  have HG := hid hp
  have HB0 := hid ((Below.refl w.heap.size w).alloc (Nat.le_refl _) (.cells #[.int .i64 (m : Int), .int .i64 (b : Int), .int .i64 (n0 : Int), .int .i64 (t : Int)] 23))
  have HF := hid (few_any L p cap (w.alloc (.cells #[.int .i64 (m : Int), .int .i64 (b : Int), .int .i64 (n0 : Int), .int .i64 (t : Int)] 23)) (hp.below HB0.out) true ⟨(fun _ => hf), (fun _ => rfl)⟩)
  have HX0 := hid (heap_alloc_new w (.cells #[.int .i64 (m : Int), .int .i64 (b : Int), .int .i64 (n0 : Int), .int .i64 (t : Int)] 23))
  obtain ⟨n, hn⟩ : ∃ n, L.length = n := ⟨_, rfl⟩
  have HN := hid hn
  rw [hn] at HF ⊢
  clear hL hp hn hf
  have e0 : decide ((30 : Int) < (m : Int)) = false := by simp; omega
  have e0' : decide (30 < m) = false := by simp; omega
  rw [HN.out] at HCM
  go_enter Tryd.func4, Tryd.ntmps4
  go_wp2_with fail
  refine HF.out.mono ?_
  rintro e w1 ⟨rfl, hb⟩
  have HB1 := hid (HB0.out.trans (hb.mono HB0.out.size))
  have HX1 := hid ((hb.block w.heap.size (Array.getElem?_eq_some_iff.1 HX0.out).1).trans HX0.out)
  clear hb HX0 HB0 HF
  have c0 : w1.cell? ⟨w.heap.size, 0, none⟩ = some (.int .i64 (m : Int)) := by rw [cell_of_row _ _ _ _ _ _ HX1.out]; rfl
  have c1 : w1.cell? ⟨w.heap.size, 1, none⟩ = some (.int .i64 (b : Int)) := by rw [cell_of_row _ _ _ _ _ _ HX1.out]; rfl
  have c2 : w1.cell? ⟨w.heap.size, 2, none⟩ = some (.int .i64 (n0 : Int)) := by rw [cell_of_row _ _ _ _ _ _ HX1.out]; rfl
  have c3 : w1.cell? ⟨w.heap.size, 3, none⟩ = some (.int .i64 (t : Int)) := by rw [cell_of_row _ _ _ _ _ _ HX1.out]; rfl
  have HD := hid (dnew m w1 h1 (by omega))
  have HSL := hid (show (newS (blanks m)).pages.length = m by show (blanks m).length = _; simp [blanks])
  clear h1 h30
  go_wp2_with fail
  refine HD.out.mono ?_
  rintro e w2 ⟨D, rfl, hc, hb⟩
  have HC2 := hid hc
  have HB2 := hid (HB1.out.trans (hb.mono HB1.out.size))
  have HK2 := hid (KS.of (K := fun j => j < w1.heap.size) hb)
  have HX2 := hid ((hb.block w.heap.size (Array.getElem?_eq_some_iff.1 HX1.out).1).trans HX1.out)
  have HL2 := hid (HL.out.next HP.out HB2.out)
  have HP1 := hid (show 0 < w1.heap.size from Nat.lt_of_lt_of_le HP.out HB1.out.size)
  have HW12 := hid hb.size
  clear hc hb HD
  have HOK := hid ok
  have HBM := hid (show b + n0 ≤ (newS (blanks m)).pages.length by rw [HSL.out]; exact hbm)
  have HN2 := hid (jnew_jk HC2.out HL2.out HP1.out b n0 t ok HBM.out)
  clear ok hbm c0 c1 c2 c3
  have c0 : w2.cell? ⟨w.heap.size, 0, none⟩ = some (.int .i64 (m : Int)) := by rw [cell_of_row _ _ _ _ _ _ HX2.out]; rfl
  have c1 : w2.cell? ⟨w.heap.size, 1, none⟩ = some (.int .i64 (b : Int)) := by rw [cell_of_row _ _ _ _ _ _ HX2.out]; rfl
  have c2 : w2.cell? ⟨w.heap.size, 2, none⟩ = some (.int .i64 (n0 : Int)) := by rw [cell_of_row _ _ _ _ _ _ HX2.out]; rfl
  have c3 : w2.cell? ⟨w.heap.size, 3, none⟩ = some (.int .i64 (t : Int)) := by rw [cell_of_row _ _ _ _ _ _ HX2.out]; rfl
  go_wp2_with fail
  refine HN2.out.mono ?_
  rintro e w3 ⟨rfl, hj, hb⟩
  have HJ3 := hid hj
  have HK3 := hid (HK2.out.trans (KS.of hb))
  have HX3 := hid ((hb.block w.heap.size (Array.getElem?_eq_some_iff.1 HX2.out).1).trans HX2.out)
  have HP3 := hid ((HG.out.below HB2.out).below hb)
  clear hj hb HN2 HX2 c0 c1 c2 c3
  go_wp2_with fail
  refine (HCM.out _ _ _ HJ3.out.j HJ3.out.lst HP3.out).mono ?_
  rintro e w4 ⟨rfl, hb⟩
  have HJ4 := hid (HJ3.out.next hb)
  have HK4 := hid (HK3.out.trans (KS.of hb))
  clear hb HJ3 HK3
  have HSC := hid (jscan HJ4.out HOK.out HBM.out (few_new _) (by decide))
  have HNO := hid (scan_new (m := m) (b := b) (n := n0) (t := t) (by have := HOK.out.n2; omega) (by have := HBM.out; rw [HSL.out] at this; have := HOK.out.n2; omega))
  go_wp2_with fail
  refine HSC.out.mono ?_
  rintro e w5 ⟨r, s5, K5, hr, he, hKK, hc, hks, hsm, hfw⟩
  obtain rfl := hr.det HNO.out
  have he : e = .returned (.tuple #[.slice none 0 0, .bool false]) := he
  subst he
  have HK5 := hid (HK4.out.trans (KS.less hks (fun j e => .inl e)))
  have HL5 := hid (lst_ks HJ4.out.lst HJ4.out.k0 hks)
  clear hr hKK hc hks hsm hfw HSC HNO
  go_wp2_with fail
  refine (live_any _ HL5.out).mono ?_
  rintro e w99 ⟨rfl, hb⟩
  have HB9 := hid (hb.mono (below_ks HB1.out HK5.out).size)
  have HB8 := hid ((below_ks HB1.out HK5.out).trans HB9.out)
  clear hb
  go_wp2_with fail
  go_ret
  exact ⟨rfl, HB8.out⟩
set_option maxRecDepth 100000 in
set_option maxHeartbeats 4000000 in
theorem jb_abort (p : Option Addr) (L : List PageT) (cap : Nat) (w : World) (hL : Lst w) (hp : Pgs w p L) (m b n0 t : Nat) (hf : FewP L) (h1 : 1 ≤ m) (h30 : m ≤ 30) (ok : JOk b n0 t) (hbm : b + n0 ≤ m) (h0 : 0 < L.length) (hs : AllS L) (r : Nat) (hr : n0 = r + 1) (hlr : L.length ≤ r) :
    Calls Tryd.prog 4 #[.agg #[.int .i64 (m : Int), .int .i64 (b : Int), .int .i64 (n0 : Int), .int .i64 (t : Int)], .slice p L.length cap, .bool true] w fun e w' => e = .returned (.bool true) ∧ Below w.heap.size w w' := by
  have HL := hid hL
  have HP := hid hL.pos
  have HG := hid hp
  have HB0 := hid ((Below.refl w.heap.size w).alloc (Nat.le_refl _) (.cells #[.int .i64 (m : Int), .int .i64 (b : Int), .int .i64 (n0 : Int), .int .i64 (t : Int)] 23))
  have HF := hid (few_any L p cap (w.alloc (.cells #[.int .i64 (m : Int), .int .i64 (b : Int), .int .i64 (n0 : Int), .int .i64 (t : Int)] 23)) (hp.below HB0.out) true ⟨(fun _ => hf), (fun _ => rfl)⟩)
  have HX0 := hid (heap_alloc_new w (.cells #[.int .i64 (m : Int), .int .i64 (b : Int), .int .i64 (n0 : Int), .int .i64 (t : Int)] 23))
  obtain ⟨n, hn⟩ : ∃ n, L.length = n := ⟨_, rfl⟩
  have HN := hid hn
  rw [hn] at HF ⊢
  clear hL hp hn hf
  have e0 : decide ((30 : Int) < (m : Int)) = false := by simp; omega
  have e0' : decide (30 < m) = false := by simp; omega
  have HRR := hid hr; have HH0 := hid h0; have HHS := hid hs; have HHL := hid hlr
  clear hr h0 hs hlr
  go_enter Tryd.func4, Tryd.ntmps4
  go_wp2_with fail
  refine HF.out.mono ?_
  rintro e w1 ⟨rfl, hb⟩
  have HB1 := hid (HB0.out.trans (hb.mono HB0.out.size))
  have HX1 := hid ((hb.block w.heap.size (Array.getElem?_eq_some_iff.1 HX0.out).1).trans HX0.out)
  clear hb HX0 HB0 HF
  have c0 : w1.cell? ⟨w.heap.size, 0, none⟩ = some (.int .i64 (m : Int)) := by rw [cell_of_row _ _ _ _ _ _ HX1.out]; rfl
  have c1 : w1.cell? ⟨w.heap.size, 1, none⟩ = some (.int .i64 (b : Int)) := by rw [cell_of_row _ _ _ _ _ _ HX1.out]; rfl
  have c2 : w1.cell? ⟨w.heap.size, 2, none⟩ = some (.int .i64 (n0 : Int)) := by rw [cell_of_row _ _ _ _ _ _ HX1.out]; rfl
  have c3 : w1.cell? ⟨w.heap.size, 3, none⟩ = some (.int .i64 (t : Int)) := by rw [cell_of_row _ _ _ _ _ _ HX1.out]; rfl
  have HD := hid (dnew m w1 h1 (by omega))
  have HSL := hid (show (newS (blanks m)).pages.length = m by show (blanks m).length = _; simp [blanks])
  clear h1 h30
  go_wp2_with fail
  refine HD.out.mono ?_
  rintro e w2 ⟨D, rfl, hc, hb⟩
  have HC2 := hid hc
  have HB2 := hid (HB1.out.trans (hb.mono HB1.out.size))
  have HK2 := hid (KS.of (K := fun j => j < w1.heap.size) hb)
  have HX2 := hid ((hb.block w.heap.size (Array.getElem?_eq_some_iff.1 HX1.out).1).trans HX1.out)
  have HL2 := hid (HL.out.next HP.out HB2.out)
  have HP1 := hid (show 0 < w1.heap.size from Nat.lt_of_lt_of_le HP.out HB1.out.size)
  have HW12 := hid hb.size
  clear hc hb HD
  have HOK := hid ok
  have HBM := hid (show b + n0 ≤ (newS (blanks m)).pages.length by rw [HSL.out]; exact hbm)
  have HN2 := hid (jnew_jk HC2.out HL2.out HP1.out b n0 t ok HBM.out)
  clear ok hbm c0 c1 c2 c3
  have c0 : w2.cell? ⟨w.heap.size, 0, none⟩ = some (.int .i64 (m : Int)) := by rw [cell_of_row _ _ _ _ _ _ HX2.out]; rfl
  have c1 : w2.cell? ⟨w.heap.size, 1, none⟩ = some (.int .i64 (b : Int)) := by rw [cell_of_row _ _ _ _ _ _ HX2.out]; rfl
  have c2 : w2.cell? ⟨w.heap.size, 2, none⟩ = some (.int .i64 (n0 : Int)) := by rw [cell_of_row _ _ _ _ _ _ HX2.out]; rfl
  have c3 : w2.cell? ⟨w.heap.size, 3, none⟩ = some (.int .i64 (t : Int)) := by rw [cell_of_row _ _ _ _ _ _ HX2.out]; rfl
  go_wp2_with fail
  refine HN2.out.mono ?_
  rintro e w3 ⟨rfl, hj, hb⟩
  have HJ3 := hid hj
  have HK3 := hid (HK2.out.trans (KS.of hb))
  have HX3 := hid ((hb.block w.heap.size (Array.getElem?_eq_some_iff.1 HX2.out).1).trans HX2.out)
  have HP3 := hid ((HG.out.below HB2.out).below hb)
  clear hj hb HN2 HX2 c0 c1 c2 c3
  go_wp2_with fail
  have h0 := HH0.out; have hs := HHS.out; have hr := HRR.out; have hlr := HHL.out
  have HCM := hid (fun (J D : Nat) (V : World) (hj : Jk (fun j => j < w1.heap.size ∨ j = w2.heap.size) J D V (newS (blanks m)) b n0 t) (hq : Pgs V p L) => jcom_ok hj HOK.out (few_new _) p L cap (by have := HOK.out.n9; omega) hq (fun g off e h => by
    obtain ⟨g', off', e', hl, _⟩ := HG.out 0 h
    rw [e] at e'
    injection e' with e'; injection e' with e1 e2
    subst e1
    exact .inl (Nat.lt_of_lt_of_le hl HB1.out.size)) h0 hs r hr hlr)
  have HS4 := hid (com_fuse (s := newS (blanks m)) rfl b t L)
  have HG4 := hid (show (comS (newS (blanks m)) b t L).pages.length = m by rw [com_len]; exact HSL.out)
  have HF4 := hid (few_com (few_new (blanks m)) b t L)
  have HSC4 := hid (com_scan (s := newS (blanks m)) rfl HOK.out h0 hs (by omega) HBM.out)
  have HV4 := hid (com_vw (s := newS (blanks m)) rfl HOK.out h0 hs (by omega) HBM.out b)
  have HLN := hid (show L.length ≤ 999 by have := HOK.out.n9; omega)
  have HST := hid (stg_at (b := b) (t := t) HH0.out)
  have HS0 := hid (HHS.out 0 HH0.out)
  generalize comS (newS (blanks m)) b t L = s4 at *
  rw [HN.out] at HCM HF4
  clear h0 hs hr hlr
  refine (HCM.out _ _ _ HJ3.out HP3.out).mono ?_
  rintro e w4 ⟨rfl, hc, hks⟩
  have HJ4 := hid (HJ3.out.step hc hks)
  have HK4 := hid (HK3.out.trans (KS.less hks (fun j e => .inl e)))
  have HX4 := hid ((hks.block w.heap.size (Array.getElem?_eq_some_iff.1 HX3.out).1 (.inl (Nat.lt_of_lt_of_le (by have := Array.getElem?_eq_some_iff.1 HX1.out; exact this.1) (Nat.le_refl _)))).trans HX3.out)
  have HP4 := hid (HG.out.below (below_ks HB1.out HK4.out))
  clear hc hks HCM HJ3 HK3 HX3 HP3
  have c0 : w4.cell? ⟨w.heap.size, 0, none⟩ = some (.int .i64 (m : Int)) := by rw [cell_of_row _ _ _ _ _ _ HX4.out]; rfl
  have c1 : w4.cell? ⟨w.heap.size, 1, none⟩ = some (.int .i64 (b : Int)) := by rw [cell_of_row _ _ _ _ _ _ HX4.out]; rfl
  have c2 : w4.cell? ⟨w.heap.size, 2, none⟩ = some (.int .i64 (n0 : Int)) := by rw [cell_of_row _ _ _ _ _ _ HX4.out]; rfl
  have c3 : w4.cell? ⟨w.heap.size, 3, none⟩ = some (.int .i64 (t : Int)) := by rw [cell_of_row _ _ _ _ _ _ HX4.out]; rfl
  have HN5 := hid (jnew_jk HJ4.out.cd HJ4.out.lst HJ4.out.k0 b n0 t HOK.out (by rw [HG4.out]; have := HBM.out; rw [HSL.out] at this; exact this))
  go_wp2_with fail
  refine HN5.out.mono ?_
  rintro e w5 ⟨rfl, hj, hb⟩
  have HJ5b := hid hj
  have HJ5 := hid (show Jk (fun j => (j < w1.heap.size ∨ j = w2.heap.size) ∨ j = w4.heap.size) w2.heap.size D w5 s4 b n0 t from ⟨hj.cd, .inl HJ4.out.kJ, .inl HJ4.out.k0, HJ4.out.j.below hb, hj.lst⟩)
  have HK5 := hid (HK4.out.trans (KS.of hb))
  clear hj hb HN5 c0 c1 c2 c3
  have HBM2 := hid (show b + n0 ≤ s4.pages.length by rw [HG4.out]; have := HBM.out; rw [HSL.out] at this; exact this)
  have HSC := hid (jscan HJ5.out HOK.out HBM2.out HF4.out (by have := HLN.out; have := HN.out; omega))
  go_wp2_with fail
  refine HSC.out.mono ?_
  rintro e w6 ⟨r, s6, K6, hr, he, hKK, hc, hks, hsm, hfw⟩
  obtain rfl := hr.det HSC4.out
  obtain ⟨pa, ca, rfl, hpa, hga⟩ := he
  have HJ6 := hid (HJ5.out.at hks hc hKK)
  have HJ6b := hid (HJ5b.out.at hks hc hKK)
  have HK6 := hid (HK5.out.trans (KS.less hks (fun j e => .inl (.inl e))))
  have HPA6 := hid hpa
  have HGA := hid hga
  have HSM6 := hid hsm
  have HF6 := hid hfw
  have HKK6 := hid hKK
  clear hr hpa hga hKK hc hks hsm hfw HSC HJ5 HJ5b
  rw [HN.out]
  have HSC := hid (jscan HJ6b.out HOK.out (by rw [HSM6.out.pages]; exact HBM2.out) HF6.out (by have := HLN.out; have := HN.out; have := HOK.out.n9; omega))
  go_wp2_with fail
  refine HSC.out.mono ?_
  rintro e w7 ⟨r, s7, K7, hr, he, hKK, hc, hks, hsm, hfw⟩
  rw [HSM6.out.vw] at hr
  obtain rfl := hr.det HSC4.out
  obtain ⟨pb, cb, rfl, hpb, hgb⟩ := he
  have HJ7 := hid (HJ6.out.at hks hc hKK)
  have HK7 := hid (HK6.out.trans (KS.less hks (fun j e => HKK6.out j (.inl (.inl e)))))
  have HPA7 := hid (pgs_ks HPA6.out hks (fun g off e _ => (HGA.out g off e).1))
  have HPB7 := hid hpb
  have HSM7 := hid (HSM6.out.trans hsm)
  have HF7 := hid hfw
  have HP7 := hid (HG.out.below (below_ks HB1.out HK7.out))
  have HKK7 := hid (show ∀ j, j < w1.heap.size → K7 j from fun j e => hKK j (HKK6.out j (.inl (.inl e))))
  clear hr hpb hgb hKK hc hks hsm hfw HSC HJ6 HJ6b
  rw [HN.out]
  have HEQ := hid fun (V : World) (px : Option Addr) (cx : Nat) (hx : Pgs V px L) (hv : Pgs V p L) => (show Calls Tryd.prog 17 #[.slice px n cx, .slice p n cap] V fun e w' => e = .returned (.bool true) ∧ Below V.heap.size V w' from by
    have h := pages_any L L px p cx cap V hx hv (by have := HLN.out; omega)
    rw [show decide (L = L) = true from decide_eq_true rfl, HN.out] at h; exact h)
  go_wp2_with fail
  refine (HEQ.out _ _ _ HPA7.out HP7.out).mono ?_
  rintro e w8 ⟨rfl, hb⟩
  have HJ8 := hid (HJ7.out.next hb)
  have HK8 := hid (HK7.out.trans (KS.of hb))
  have HPB8 := hid (HPB7.out.below hb)
  have HP8 := hid (HP7.out.below hb)
  clear hb
  go_wp2_with fail
  refine (HEQ.out _ _ _ HPB8.out HP8.out).mono ?_
  rintro e w9 ⟨rfl, hb⟩
  have HJ9 := hid (HJ8.out.next hb)
  have HK9 := hid (HK8.out.trans (KS.of hb))
  have HX9 := hid (((below_ks HB1.out HK9.out).block w.heap.size)) 
  clear hb HX9 HPB8 HP8 HPB7 HPA7 HP7 HPA6 HEQ HJ7 HJ8 HK7 HK8
  have HBM9 := hid (show b + n0 ≤ s7.pages.length by rw [HSM7.out.pages]; exact HBM2.out)
  have HFU9 := hid (show s7.fuse = -1 by rw [HSM7.out.fuse]; exact HS4.out)
  have HW9 := hid (show vw s7 b = pgJ b 1 t (0 : Nat) (L[0]'HH0.out).1 (L[0]'HH0.out).2.1 (L[0]'HH0.out).2.2 0 0 by
    rw [HSM7.out.vw, HV4.out, if_pos ⟨Nat.le_refl _, by have := HH0.out; omega⟩, Nat.sub_self, HST.out]; rfl)
  have HAB := hid (jabort HJ9.out HOK.out HF7.out (by have := HLN.out; have := HN.out; have := HOK.out.n9; omega))
  go_wp2_with fail
  refine HAB.out.mono ?_
  rintro e w10 ⟨rfl, hc, hks⟩
  have HJ10 := hid (HJ9.out.step hc hks)
  have HK10 := hid (HK9.out.trans (KS.less hks HKK7.out))
  clear hc hks HAB
  have HSC := hid (jscan HJ10.out HOK.out (by rw [abo_len]; exact HBM9.out) (few_abo HF7.out b t) (by have := HLN.out; have := HN.out; have := HOK.out.n9; omega))
  have HNO := hid (abo_scan HFU9.out HOK.out HBM9.out)
  go_wp2_with fail
  refine HSC.out.mono ?_
  rintro e w11 ⟨r, s11, K11, hr, he, hKK, hc, hks, hsm, hfw⟩
  obtain rfl := hr.det HNO.out
  have he : e = .returned (.tuple #[.slice none 0 0, .bool false]) := he
  subst he
  have HK11 := hid (HK10.out.trans (KS.less hks HKK7.out))
  have HL11 := hid (lst_ks HJ10.out.lst HJ10.out.k0 hks)
  clear hr hKK hc hks hsm hfw HSC HNO
  go_wp2_with fail
  refine (live_any _ HL11.out).mono ?_
  rintro e w99 ⟨rfl, hb⟩
  have HB9 := hid (hb.mono (below_ks HB1.out HK11.out).size)
  have HB8 := hid ((below_ks HB1.out HK11.out).trans HB9.out)
  clear hb
  go_wp2_with fail
  go_ret
  exact ⟨rfl, HB8.out⟩
set_option maxRecDepth 100000 in
set_option maxHeartbeats 4000000 in
theorem jb_next (p : Option Addr) (L : List PageT) (cap : Nat) (w : World) (hL : Lst w) (hp : Pgs w p L) (m b n0 t : Nat) (hf : FewP L) (h1 : 1 ≤ m) (h30 : m ≤ 30) (ok : JOk b n0 t) (hbm : b + n0 ≤ m) (h0 : 0 < L.length) (hs : AllS L) (r : Nat) (hr : n0 = r + 1) (hlr : L.length ≤ r) (ht : t < 4294967295) :
    Calls Tryd.prog 4 #[.agg #[.int .i64 (m : Int), .int .i64 (b : Int), .int .i64 (n0 : Int), .int .i64 (t : Int)], .slice p L.length cap, .bool false] w fun e w' => e = .returned (.bool true) ∧ Below w.heap.size w w' := by
  have HL := hid hL
  have HP := hid hL.pos
  have HG := hid hp
  have HB0 := hid ((Below.refl w.heap.size w).alloc (Nat.le_refl _) (.cells #[.int .i64 (m : Int), .int .i64 (b : Int), .int .i64 (n0 : Int), .int .i64 (t : Int)] 23))
  have HF := hid (few_any L p cap (w.alloc (.cells #[.int .i64 (m : Int), .int .i64 (b : Int), .int .i64 (n0 : Int), .int .i64 (t : Int)] 23)) (hp.below HB0.out) true ⟨(fun _ => hf), (fun _ => rfl)⟩)
  have HX0 := hid (heap_alloc_new w (.cells #[.int .i64 (m : Int), .int .i64 (b : Int), .int .i64 (n0 : Int), .int .i64 (t : Int)] 23))
  obtain ⟨n, hn⟩ : ∃ n, L.length = n := ⟨_, rfl⟩
  have HN := hid hn
  rw [hn] at HF ⊢
  clear hL hp hn hf
  have HT := hid ht
  clear ht
  have e0 : decide ((30 : Int) < (m : Int)) = false := by simp; omega
  have e0' : decide (30 < m) = false := by simp; omega
  have HRR := hid hr; have HH0 := hid h0; have HHS := hid hs; have HHL := hid hlr
  clear hr h0 hs hlr
  go_enter Tryd.func4, Tryd.ntmps4
  go_wp2_with fail
  refine HF.out.mono ?_
  rintro e w1 ⟨rfl, hb⟩
  have HB1 := hid (HB0.out.trans (hb.mono HB0.out.size))
  have HX1 := hid ((hb.block w.heap.size (Array.getElem?_eq_some_iff.1 HX0.out).1).trans HX0.out)
  clear hb HX0 HB0 HF
  have c0 : w1.cell? ⟨w.heap.size, 0, none⟩ = some (.int .i64 (m : Int)) := by rw [cell_of_row _ _ _ _ _ _ HX1.out]; rfl
  have c1 : w1.cell? ⟨w.heap.size, 1, none⟩ = some (.int .i64 (b : Int)) := by rw [cell_of_row _ _ _ _ _ _ HX1.out]; rfl
  have c2 : w1.cell? ⟨w.heap.size, 2, none⟩ = some (.int .i64 (n0 : Int)) := by rw [cell_of_row _ _ _ _ _ _ HX1.out]; rfl
  have c3 : w1.cell? ⟨w.heap.size, 3, none⟩ = some (.int .i64 (t : Int)) := by rw [cell_of_row _ _ _ _ _ _ HX1.out]; rfl
  have HD := hid (dnew m w1 h1 (by omega))
  have HSL := hid (show (newS (blanks m)).pages.length = m by show (blanks m).length = _; simp [blanks])
  clear h1 h30
  go_wp2_with fail
  refine HD.out.mono ?_
  rintro e w2 ⟨D, rfl, hc, hb⟩
  have HC2 := hid hc
  have HB2 := hid (HB1.out.trans (hb.mono HB1.out.size))
  have HK2 := hid (KS.of (K := fun j => j < w1.heap.size) hb)
  have HX2 := hid ((hb.block w.heap.size (Array.getElem?_eq_some_iff.1 HX1.out).1).trans HX1.out)
  have HL2 := hid (HL.out.next HP.out HB2.out)
  have HP1 := hid (show 0 < w1.heap.size from Nat.lt_of_lt_of_le HP.out HB1.out.size)
  have HW12 := hid hb.size
  clear hc hb HD
  have HOK := hid ok
  have HBM := hid (show b + n0 ≤ (newS (blanks m)).pages.length by rw [HSL.out]; exact hbm)
  have HN2 := hid (jnew_jk HC2.out HL2.out HP1.out b n0 t ok HBM.out)
  clear ok hbm c0 c1 c2 c3
  have c0 : w2.cell? ⟨w.heap.size, 0, none⟩ = some (.int .i64 (m : Int)) := by rw [cell_of_row _ _ _ _ _ _ HX2.out]; rfl
  have c1 : w2.cell? ⟨w.heap.size, 1, none⟩ = some (.int .i64 (b : Int)) := by rw [cell_of_row _ _ _ _ _ _ HX2.out]; rfl
  have c2 : w2.cell? ⟨w.heap.size, 2, none⟩ = some (.int .i64 (n0 : Int)) := by rw [cell_of_row _ _ _ _ _ _ HX2.out]; rfl
  have c3 : w2.cell? ⟨w.heap.size, 3, none⟩ = some (.int .i64 (t : Int)) := by rw [cell_of_row _ _ _ _ _ _ HX2.out]; rfl
  go_wp2_with fail
  refine HN2.out.mono ?_
  rintro e w3 ⟨rfl, hj, hb⟩
  have HJ3 := hid hj
  have HK3 := hid (HK2.out.trans (KS.of hb))
  have HX3 := hid ((hb.block w.heap.size (Array.getElem?_eq_some_iff.1 HX2.out).1).trans HX2.out)
  have HP3 := hid ((HG.out.below HB2.out).below hb)
  clear hj hb HN2 HX2 c0 c1 c2 c3
  go_wp2_with fail
  have h0 := HH0.out; have hs := HHS.out; have hr := HRR.out; have hlr := HHL.out
  have HCM := hid (fun (J D : Nat) (V : World) (hj : Jk (fun j => j < w1.heap.size ∨ j = w2.heap.size) J D V (newS (blanks m)) b n0 t) (hq : Pgs V p L) => jcom_ok hj HOK.out (few_new _) p L cap (by have := HOK.out.n9; omega) hq (fun g off e h => by
    obtain ⟨g', off', e', hl, _⟩ := HG.out 0 h
    rw [e] at e'
    injection e' with e'; injection e' with e1 e2
    subst e1
    exact .inl (Nat.lt_of_lt_of_le hl HB1.out.size)) h0 hs r hr hlr)
  have HS4 := hid (com_fuse (s := newS (blanks m)) rfl b t L)
  have HG4 := hid (show (comS (newS (blanks m)) b t L).pages.length = m by rw [com_len]; exact HSL.out)
  have HF4 := hid (few_com (few_new (blanks m)) b t L)
  have HSC4 := hid (com_scan (s := newS (blanks m)) rfl HOK.out h0 hs (by omega) HBM.out)
  have HV4 := hid (com_vw (s := newS (blanks m)) rfl HOK.out h0 hs (by omega) HBM.out b)
  have HLN := hid (show L.length ≤ 999 by have := HOK.out.n9; omega)
  have HST := hid (stg_at (b := b) (t := t) HH0.out)
  have HS0 := hid (HHS.out 0 HH0.out)
  generalize comS (newS (blanks m)) b t L = s4 at *
  rw [HN.out] at HCM HF4
  clear h0 hs hr hlr
  refine (HCM.out _ _ _ HJ3.out HP3.out).mono ?_
  rintro e w4 ⟨rfl, hc, hks⟩
  have HJ4 := hid (HJ3.out.step hc hks)
  have HK4 := hid (HK3.out.trans (KS.less hks (fun j e => .inl e)))
  have HX4 := hid ((hks.block w.heap.size (Array.getElem?_eq_some_iff.1 HX3.out).1 (.inl (Nat.lt_of_lt_of_le (by have := Array.getElem?_eq_some_iff.1 HX1.out; exact this.1) (Nat.le_refl _)))).trans HX3.out)
  have HP4 := hid (HG.out.below (below_ks HB1.out HK4.out))
  clear hc hks HCM HJ3 HK3 HX3 HP3
  have c0 : w4.cell? ⟨w.heap.size, 0, none⟩ = some (.int .i64 (m : Int)) := by rw [cell_of_row _ _ _ _ _ _ HX4.out]; rfl
  have c1 : w4.cell? ⟨w.heap.size, 1, none⟩ = some (.int .i64 (b : Int)) := by rw [cell_of_row _ _ _ _ _ _ HX4.out]; rfl
  have c2 : w4.cell? ⟨w.heap.size, 2, none⟩ = some (.int .i64 (n0 : Int)) := by rw [cell_of_row _ _ _ _ _ _ HX4.out]; rfl
  have c3 : w4.cell? ⟨w.heap.size, 3, none⟩ = some (.int .i64 (t : Int)) := by rw [cell_of_row _ _ _ _ _ _ HX4.out]; rfl
  have HN5 := hid (jnew_jk HJ4.out.cd HJ4.out.lst HJ4.out.k0 b n0 t HOK.out (by rw [HG4.out]; have := HBM.out; rw [HSL.out] at this; exact this))
  go_wp2_with fail
  refine HN5.out.mono ?_
  rintro e w5 ⟨rfl, hj, hb⟩
  have HJ5b := hid hj
  have HJ5 := hid (show Jk (fun j => (j < w1.heap.size ∨ j = w2.heap.size) ∨ j = w4.heap.size) w2.heap.size D w5 s4 b n0 t from ⟨hj.cd, .inl HJ4.out.kJ, .inl HJ4.out.k0, HJ4.out.j.below hb, hj.lst⟩)
  have HK5 := hid (HK4.out.trans (KS.of hb))
  clear hj hb HN5 c0 c1 c2 c3
  have HBM2 := hid (show b + n0 ≤ s4.pages.length by rw [HG4.out]; have := HBM.out; rw [HSL.out] at this; exact this)
  have HSC := hid (jscan HJ5.out HOK.out HBM2.out HF4.out (by have := HLN.out; have := HN.out; omega))
  go_wp2_with fail
  refine HSC.out.mono ?_
  rintro e w6 ⟨r, s6, K6, hr, he, hKK, hc, hks, hsm, hfw⟩
  obtain rfl := hr.det HSC4.out
  obtain ⟨pa, ca, rfl, hpa, hga⟩ := he
  have HJ6 := hid (HJ5.out.at hks hc hKK)
  have HJ6b := hid (HJ5b.out.at hks hc hKK)
  have HK6 := hid (HK5.out.trans (KS.less hks (fun j e => .inl (.inl e))))
  have HPA6 := hid hpa
  have HGA := hid hga
  have HSM6 := hid hsm
  have HF6 := hid hfw
  have HKK6 := hid hKK
  clear hr hpa hga hKK hc hks hsm hfw HSC HJ5 HJ5b
  rw [HN.out]
  have HSC := hid (jscan HJ6b.out HOK.out (by rw [HSM6.out.pages]; exact HBM2.out) HF6.out (by have := HLN.out; have := HN.out; have := HOK.out.n9; omega))
  go_wp2_with fail
  refine HSC.out.mono ?_
  rintro e w7 ⟨r, s7, K7, hr, he, hKK, hc, hks, hsm, hfw⟩
  rw [HSM6.out.vw] at hr
  obtain rfl := hr.det HSC4.out
  obtain ⟨pb, cb, rfl, hpb, hgb⟩ := he
  have HJ7 := hid (HJ6.out.at hks hc hKK)
  have HK7 := hid (HK6.out.trans (KS.less hks (fun j e => HKK6.out j (.inl (.inl e)))))
  have HPA7 := hid (pgs_ks HPA6.out hks (fun g off e _ => (HGA.out g off e).1))
  have HPB7 := hid hpb
  have HSM7 := hid (HSM6.out.trans hsm)
  have HF7 := hid hfw
  have HP7 := hid (HG.out.below (below_ks HB1.out HK7.out))
  have HKK7 := hid (show ∀ j, j < w1.heap.size → K7 j from fun j e => hKK j (HKK6.out j (.inl (.inl e))))
  clear hr hpb hgb hKK hc hks hsm hfw HSC HJ6 HJ6b
  rw [HN.out]
  have HEQ := hid fun (V : World) (px : Option Addr) (cx : Nat) (hx : Pgs V px L) (hv : Pgs V p L) => (show Calls Tryd.prog 17 #[.slice px n cx, .slice p n cap] V fun e w' => e = .returned (.bool true) ∧ Below V.heap.size V w' from by
    have h := pages_any L L px p cx cap V hx hv (by have := HLN.out; omega)
    rw [show decide (L = L) = true from decide_eq_true rfl, HN.out] at h; exact h)
  go_wp2_with fail
  refine (HEQ.out _ _ _ HPA7.out HP7.out).mono ?_
  rintro e w8 ⟨rfl, hb⟩
  have HJ8 := hid (HJ7.out.next hb)
  have HK8 := hid (HK7.out.trans (KS.of hb))
  have HPB8 := hid (HPB7.out.below hb)
  have HP8 := hid (HP7.out.below hb)
  clear hb
  go_wp2_with fail
  refine (HEQ.out _ _ _ HPB8.out HP8.out).mono ?_
  rintro e w9 ⟨rfl, hb⟩
  have HJ9 := hid (HJ8.out.next hb)
  have HK9 := hid (HK8.out.trans (KS.of hb))
  have HX9 := hid (((below_ks HB1.out HK9.out).block w.heap.size)) 
  clear hb HX9 HPB8 HP8 HPB7 HPA7 HP7 HPA6 HEQ HJ7 HJ8 HK7 HK8
  have HBM9 := hid (show b + n0 ≤ s7.pages.length by rw [HSM7.out.pages]; exact HBM2.out)
  have HFU9 := hid (show s7.fuse = -1 by rw [HSM7.out.fuse]; exact HS4.out)
  have HW9 := hid (show vw s7 b = pgJ b 1 t (0 : Nat) (L[0]'HH0.out).1 (L[0]'HH0.out).2.1 (L[0]'HH0.out).2.2 0 0 by
    rw [HSM7.out.vw, HV4.out, if_pos ⟨Nat.le_refl _, by have := HH0.out; omega⟩, Nat.sub_self, HST.out]; rfl)
  have HNX := hid (next_ok HJ9.out.j HT.out)
  go_wp2_with fail
  refine HNX.out.mono ?_
  rintro e w10 ⟨rfl, hw⟩
  have HJ10 := hid (show Jk K7 w2.heap.size D w10 s7 b n0 (t + 1) by rw [hw]; exact HJ9.out.tx (t + 1))
  have HK10 := hid (show KS (fun j => j < w1.heap.size) w1 w10 by rw [hw]; exact KS.set HK9.out _ _ _ HW12.out)
  clear hw HNX
  have HSC := hid (jscan HJ10.out ⟨HOK.out.n2, HOK.out.n9, HOK.out.bn, by omega, by have := HT.out; omega⟩ HBM9.out HF7.out (by have := HLN.out; have := HN.out; have := HOK.out.n9; omega))
  have HNO := hid (scan_other (V := vw s7) (b := b) (n := n0) (t := t + 1) (t' := t) (by have := HOK.out.n2; omega) (by rw [HW9.out]; exact isJ_pgJ (by decide) (by decide) (may1 t 0 HOK.out.t1 HOK.out.t2 (by decide) HS0.out) (by have := HOK.out.bn; have := HOK.out.n2; omega)) (by omega))
  go_wp2_with fail
  refine HSC.out.mono ?_
  rintro e w11 ⟨r, s11, K11, hr, he, hKK, hc, hks, hsm, hfw⟩
  obtain rfl := hr.det HNO.out
  have he : e = .returned (.tuple #[.slice none 0 0, .bool false]) := he
  subst he
  have HK11 := hid (HK10.out.trans (KS.less hks HKK7.out))
  have HL11 := hid (lst_ks HJ10.out.lst HJ10.out.k0 hks)
  clear hr hKK hc hks hsm hfw HSC HNO
  go_wp2_with fail
  refine (live_any _ HL11.out).mono ?_
  rintro e w99 ⟨rfl, hb⟩
  have HB9 := hid (hb.mono (below_ks HB1.out HK11.out).size)
  have HB8 := hid ((below_ks HB1.out HK11.out).trans HB9.out)
  clear hb
  go_wp2_with fail
  go_ret
  exact ⟨rfl, HB8.out⟩
set_option maxRecDepth 100000 in
set_option maxHeartbeats 4000000 in
theorem jb_last (p : Option Addr) (L : List PageT) (cap : Nat) (w : World) (hL : Lst w) (hp : Pgs w p L) (m b n0 t : Nat) (hf : FewP L) (h1 : 1 ≤ m) (h30 : m ≤ 30) (ok : JOk b n0 t) (hbm : b + n0 ≤ m) (h0 : 0 < L.length) (hs : AllS L) (r : Nat) (hr : n0 = r + 1) (hlr : L.length ≤ r) (ht : t = 4294967295) :
    Calls Tryd.prog 4 #[.agg #[.int .i64 (m : Int), .int .i64 (b : Int), .int .i64 (n0 : Int), .int .i64 (t : Int)], .slice p L.length cap, .bool false] w fun e w' => e = .returned (.bool true) ∧ Below w.heap.size w w' := by
  have HL := hid hL
  have HP := hid hL.pos
  have HG := hid hp
  have HB0 := hid ((Below.refl w.heap.size w).alloc (Nat.le_refl _) (.cells #[.int .i64 (m : Int), .int .i64 (b : Int), .int .i64 (n0 : Int), .int .i64 (t : Int)] 23))
  have HF := hid (few_any L p cap (w.alloc (.cells #[.int .i64 (m : Int), .int .i64 (b : Int), .int .i64 (n0 : Int), .int .i64 (t : Int)] 23)) (hp.below HB0.out) true ⟨(fun _ => hf), (fun _ => rfl)⟩)
  have HX0 := hid (heap_alloc_new w (.cells #[.int .i64 (m : Int), .int .i64 (b : Int), .int .i64 (n0 : Int), .int .i64 (t : Int)] 23))
  obtain ⟨n, hn⟩ : ∃ n, L.length = n := ⟨_, rfl⟩
  have HN := hid hn
  rw [hn] at HF ⊢
  clear hL hp hn hf
  have HT := hid ht
  clear ht
  have e0 : decide ((30 : Int) < (m : Int)) = false := by simp; omega
  have e0' : decide (30 < m) = false := by simp; omega
  have HRR := hid hr; have HH0 := hid h0; have HHS := hid hs; have HHL := hid hlr
  clear hr h0 hs hlr
  go_enter Tryd.func4, Tryd.ntmps4
  go_wp2_with fail
  refine HF.out.mono ?_
  rintro e w1 ⟨rfl, hb⟩
  have HB1 := hid (HB0.out.trans (hb.mono HB0.out.size))
  have HX1 := hid ((hb.block w.heap.size (Array.getElem?_eq_some_iff.1 HX0.out).1).trans HX0.out)
  clear hb HX0 HB0 HF
  have c0 : w1.cell? ⟨w.heap.size, 0, none⟩ = some (.int .i64 (m : Int)) := by rw [cell_of_row _ _ _ _ _ _ HX1.out]; rfl
  have c1 : w1.cell? ⟨w.heap.size, 1, none⟩ = some (.int .i64 (b : Int)) := by rw [cell_of_row _ _ _ _ _ _ HX1.out]; rfl
  have c2 : w1.cell? ⟨w.heap.size, 2, none⟩ = some (.int .i64 (n0 : Int)) := by rw [cell_of_row _ _ _ _ _ _ HX1.out]; rfl
  have c3 : w1.cell? ⟨w.heap.size, 3, none⟩ = some (.int .i64 (t : Int)) := by rw [cell_of_row _ _ _ _ _ _ HX1.out]; rfl
  have HD := hid (dnew m w1 h1 (by omega))
  have HSL := hid (show (newS (blanks m)).pages.length = m by show (blanks m).length = _; simp [blanks])
  clear h1 h30
  go_wp2_with fail
  refine HD.out.mono ?_
  rintro e w2 ⟨D, rfl, hc, hb⟩
  have HC2 := hid hc
  have HB2 := hid (HB1.out.trans (hb.mono HB1.out.size))
  have HK2 := hid (KS.of (K := fun j => j < w1.heap.size) hb)
  have HX2 := hid ((hb.block w.heap.size (Array.getElem?_eq_some_iff.1 HX1.out).1).trans HX1.out)
  have HL2 := hid (HL.out.next HP.out HB2.out)
  have HP1 := hid (show 0 < w1.heap.size from Nat.lt_of_lt_of_le HP.out HB1.out.size)
  clear hc hb HD
  have HOK := hid ok
  have HBM := hid (show b + n0 ≤ (newS (blanks m)).pages.length by rw [HSL.out]; exact hbm)
  have HN2 := hid (jnew_jk HC2.out HL2.out HP1.out b n0 t ok HBM.out)
  clear ok hbm c0 c1 c2 c3
  have c0 : w2.cell? ⟨w.heap.size, 0, none⟩ = some (.int .i64 (m : Int)) := by rw [cell_of_row _ _ _ _ _ _ HX2.out]; rfl
  have c1 : w2.cell? ⟨w.heap.size, 1, none⟩ = some (.int .i64 (b : Int)) := by rw [cell_of_row _ _ _ _ _ _ HX2.out]; rfl
  have c2 : w2.cell? ⟨w.heap.size, 2, none⟩ = some (.int .i64 (n0 : Int)) := by rw [cell_of_row _ _ _ _ _ _ HX2.out]; rfl
  have c3 : w2.cell? ⟨w.heap.size, 3, none⟩ = some (.int .i64 (t : Int)) := by rw [cell_of_row _ _ _ _ _ _ HX2.out]; rfl
  go_wp2_with fail
  refine HN2.out.mono ?_
  rintro e w3 ⟨rfl, hj, hb⟩
  have HJ3 := hid hj
  have HK3 := hid (HK2.out.trans (KS.of hb))
  have HX3 := hid ((hb.block w.heap.size (Array.getElem?_eq_some_iff.1 HX2.out).1).trans HX2.out)
  have HP3 := hid ((HG.out.below HB2.out).below hb)
  clear hj hb HN2 HX2 c0 c1 c2 c3
  go_wp2_with fail
  have h0 := HH0.out; have hs := HHS.out; have hr := HRR.out; have hlr := HHL.out
  have HCM := hid (fun (J D : Nat) (V : World) (hj : Jk (fun j => j < w1.heap.size ∨ j = w2.heap.size) J D V (newS (blanks m)) b n0 t) (hq : Pgs V p L) => jcom_ok hj HOK.out (few_new _) p L cap (by have := HOK.out.n9; omega) hq (fun g off e h => by
    obtain ⟨g', off', e', hl, _⟩ := HG.out 0 h
    rw [e] at e'
    injection e' with e'; injection e' with e1 e2
    subst e1
    exact .inl (Nat.lt_of_lt_of_le hl HB1.out.size)) h0 hs r hr hlr)
  have HS4 := hid (com_fuse (s := newS (blanks m)) rfl b t L)
  have HG4 := hid (show (comS (newS (blanks m)) b t L).pages.length = m by rw [com_len]; exact HSL.out)
  have HF4 := hid (few_com (few_new (blanks m)) b t L)
  have HSC4 := hid (com_scan (s := newS (blanks m)) rfl HOK.out h0 hs (by omega) HBM.out)
  have HV4 := hid (com_vw (s := newS (blanks m)) rfl HOK.out h0 hs (by omega) HBM.out b)
  have HLN := hid (show L.length ≤ 999 by have := HOK.out.n9; omega)
  have HST := hid (stg_at (b := b) (t := t) HH0.out)
  have HS0 := hid (HHS.out 0 HH0.out)
  generalize comS (newS (blanks m)) b t L = s4 at *
  rw [HN.out] at HCM HF4
  clear h0 hs hr hlr
  refine (HCM.out _ _ _ HJ3.out HP3.out).mono ?_
  rintro e w4 ⟨rfl, hc, hks⟩
  have HJ4 := hid (HJ3.out.step hc hks)
  have HK4 := hid (HK3.out.trans (KS.less hks (fun j e => .inl e)))
  have HX4 := hid ((hks.block w.heap.size (Array.getElem?_eq_some_iff.1 HX3.out).1 (.inl (Nat.lt_of_lt_of_le (by have := Array.getElem?_eq_some_iff.1 HX1.out; exact this.1) (Nat.le_refl _)))).trans HX3.out)
  have HP4 := hid (HG.out.below (below_ks HB1.out HK4.out))
  clear hc hks HCM HJ3 HK3 HX3 HP3
  have c0 : w4.cell? ⟨w.heap.size, 0, none⟩ = some (.int .i64 (m : Int)) := by rw [cell_of_row _ _ _ _ _ _ HX4.out]; rfl
  have c1 : w4.cell? ⟨w.heap.size, 1, none⟩ = some (.int .i64 (b : Int)) := by rw [cell_of_row _ _ _ _ _ _ HX4.out]; rfl
  have c2 : w4.cell? ⟨w.heap.size, 2, none⟩ = some (.int .i64 (n0 : Int)) := by rw [cell_of_row _ _ _ _ _ _ HX4.out]; rfl
  have c3 : w4.cell? ⟨w.heap.size, 3, none⟩ = some (.int .i64 (t : Int)) := by rw [cell_of_row _ _ _ _ _ _ HX4.out]; rfl
  have HN5 := hid (jnew_jk HJ4.out.cd HJ4.out.lst HJ4.out.k0 b n0 t HOK.out (by rw [HG4.out]; have := HBM.out; rw [HSL.out] at this; exact this))
  go_wp2_with fail
  refine HN5.out.mono ?_
  rintro e w5 ⟨rfl, hj, hb⟩
  have HJ5b := hid hj
  have HJ5 := hid (show Jk (fun j => (j < w1.heap.size ∨ j = w2.heap.size) ∨ j = w4.heap.size) w2.heap.size D w5 s4 b n0 t from ⟨hj.cd, .inl HJ4.out.kJ, .inl HJ4.out.k0, HJ4.out.j.below hb, hj.lst⟩)
  have HK5 := hid (HK4.out.trans (KS.of hb))
  clear hj hb HN5 c0 c1 c2 c3
  have HBM2 := hid (show b + n0 ≤ s4.pages.length by rw [HG4.out]; have := HBM.out; rw [HSL.out] at this; exact this)
  have HSC := hid (jscan HJ5.out HOK.out HBM2.out HF4.out (by have := HLN.out; have := HN.out; omega))
  go_wp2_with fail
  refine HSC.out.mono ?_
  rintro e w6 ⟨r, s6, K6, hr, he, hKK, hc, hks, hsm, hfw⟩
  obtain rfl := hr.det HSC4.out
  obtain ⟨pa, ca, rfl, hpa, hga⟩ := he
  have HJ6 := hid (HJ5.out.at hks hc hKK)
  have HJ6b := hid (HJ5b.out.at hks hc hKK)
  have HK6 := hid (HK5.out.trans (KS.less hks (fun j e => .inl (.inl e))))
  have HPA6 := hid hpa
  have HGA := hid hga
  have HSM6 := hid hsm
  have HF6 := hid hfw
  have HKK6 := hid hKK
  clear hr hpa hga hKK hc hks hsm hfw HSC HJ5 HJ5b
  rw [HN.out]
  have HSC := hid (jscan HJ6b.out HOK.out (by rw [HSM6.out.pages]; exact HBM2.out) HF6.out (by have := HLN.out; have := HN.out; have := HOK.out.n9; omega))
  go_wp2_with fail
  refine HSC.out.mono ?_
  rintro e w7 ⟨r, s7, K7, hr, he, hKK, hc, hks, hsm, hfw⟩
  rw [HSM6.out.vw] at hr
  obtain rfl := hr.det HSC4.out
  obtain ⟨pb, cb, rfl, hpb, hgb⟩ := he
  have HJ7 := hid (HJ6.out.at hks hc hKK)
  have HK7 := hid (HK6.out.trans (KS.less hks (fun j e => HKK6.out j (.inl (.inl e)))))
  have HPA7 := hid (pgs_ks HPA6.out hks (fun g off e _ => (HGA.out g off e).1))
  have HPB7 := hid hpb
  have HSM7 := hid (HSM6.out.trans hsm)
  have HF7 := hid hfw
  have HP7 := hid (HG.out.below (below_ks HB1.out HK7.out))
  have HKK7 := hid (show ∀ j, j < w1.heap.size → K7 j from fun j e => hKK j (HKK6.out j (.inl (.inl e))))
  clear hr hpb hgb hKK hc hks hsm hfw HSC HJ6 HJ6b
  rw [HN.out]
  have HEQ := hid fun (V : World) (px : Option Addr) (cx : Nat) (hx : Pgs V px L) (hv : Pgs V p L) => (show Calls Tryd.prog 17 #[.slice px n cx, .slice p n cap] V fun e w' => e = .returned (.bool true) ∧ Below V.heap.size V w' from by
    have h := pages_any L L px p cx cap V hx hv (by have := HLN.out; omega)
    rw [show decide (L = L) = true from decide_eq_true rfl, HN.out] at h; exact h)
  go_wp2_with fail
  refine (HEQ.out _ _ _ HPA7.out HP7.out).mono ?_
  rintro e w8 ⟨rfl, hb⟩
  have HJ8 := hid (HJ7.out.next hb)
  have HK8 := hid (HK7.out.trans (KS.of hb))
  have HPB8 := hid (HPB7.out.below hb)
  have HP8 := hid (HP7.out.below hb)
  clear hb
  go_wp2_with fail
  refine (HEQ.out _ _ _ HPB8.out HP8.out).mono ?_
  rintro e w9 ⟨rfl, hb⟩
  have HJ9 := hid (HJ8.out.next hb)
  have HK9 := hid (HK8.out.trans (KS.of hb))
  have HX9 := hid (((below_ks HB1.out HK9.out).block w.heap.size)) 
  clear hb HX9 HPB8 HP8 HPB7 HPA7 HP7 HPA6 HEQ HJ7 HJ8 HK7 HK8
  have HBM9 := hid (show b + n0 ≤ s7.pages.length by rw [HSM7.out.pages]; exact HBM2.out)
  have HFU9 := hid (show s7.fuse = -1 by rw [HSM7.out.fuse]; exact HS4.out)
  have HW9 := hid (show vw s7 b = pgJ b 1 t (0 : Nat) (L[0]'HH0.out).1 (L[0]'HH0.out).2.1 (L[0]'HH0.out).2.2 0 0 by
    rw [HSM7.out.vw, HV4.out, if_pos ⟨Nat.le_refl _, by have := HH0.out; omega⟩, Nat.sub_self, HST.out]; rfl)
  have HNX := hid (show Calls Tryd.prog 13 #[.pointer (some ⟨w2.heap.size, 0, none⟩)] w9 fun e w' => e = .returned (.int .i64 1) ∧ w' = w9 from next_last (D := D) (b := b) (n := n0) (by have h := HJ9.out.j; rw [HT.out] at h; exact h))
  have HX9 := hid (show w9.heap[w.heap.size]? = some (.cells #[.int .i64 (m : Int), .int .i64 (b : Int), .int .i64 (n0 : Int), .int .i64 (t : Int)] 23) from ((HK9.out.below (Nat.le_refl _) (fun k hk => hk)).block w.heap.size (Array.getElem?_eq_some_iff.1 HX1.out).1).trans HX1.out)
  have c0 : w9.cell? ⟨w.heap.size, 0, none⟩ = some (.int .i64 (m : Int)) := by rw [cell_of_row _ _ _ _ _ _ HX9.out]; rfl
  have c1 : w9.cell? ⟨w.heap.size, 1, none⟩ = some (.int .i64 (b : Int)) := by rw [cell_of_row _ _ _ _ _ _ HX9.out]; rfl
  have c2 : w9.cell? ⟨w.heap.size, 2, none⟩ = some (.int .i64 (n0 : Int)) := by rw [cell_of_row _ _ _ _ _ _ HX9.out]; rfl
  have c3 : w9.cell? ⟨w.heap.size, 3, none⟩ = some (.int .i64 (t : Int)) := by rw [cell_of_row _ _ _ _ _ _ HX9.out]; rfl
  have x9 : ((t : Int) == 4294967295) = true := by rw [HT.out]; rfl
  have x9' : (t == 4294967295) = true := by rw [HT.out]; rfl
  go_wp2_with fail
  refine (HNX.out).mono ?_
  rintro e w' ⟨rfl, hw⟩
  obtain rfl := hw.symm
  go_wp2_with fail
  refine (live_any _ HJ9.out.lst).mono ?_
  rintro e w99 ⟨rfl, hb⟩
  have HB9 := hid (hb.mono (below_ks HB1.out HK9.out).size)
  have HB8 := hid ((below_ks HB1.out HK9.out).trans HB9.out)
  clear hb
  go_wp2_with fail
  go_ret
  exact ⟨rfl, HB8.out⟩
theorem JournalBack_walk (v v' : Value) (ab : Bool) (w : World) (h : PlV w v) (h' : ∃ a len cap, v' = .slice a len cap ∧ IsPgs w a len) (hL : Lst w) :
    Calls Tryd.prog 4 #[v, v', .bool ab] w fun e w' => e = .returned (.bool true) ∧ Below w.heap.size w w' := by
  obtain ⟨⟨pg, ba, si, tx⟩, rfl, hd⟩ := h
  obtain ⟨p, len, cap, rfl, hg⟩ := h'
  obtain ⟨L, rfl, hp, -⟩ := pgs_list hg
  rcases Classical.em (FewP L) with hf | hf
  · by_cases h30 : 30 < pg
    · exact jb_far2 p L cap w hL hp pg ba si tx ab hf h30
    · by_cases h1 : pg < 1
      · exact jb_nodisk p L cap w hL hp pg ba si tx ab hf h1
      · obtain ⟨m, rfl⟩ : ∃ m : Nat, pg = (m : Int) := ⟨pg.toNat, by omega⟩
        by_cases hbad : 2 ≤ si ∧ si ≤ 999 ∧ 1 ≤ tx ∧ tx ≤ 4294967295 ∧ 0 ≤ ba ∧ ba + si ≤ (m : Int)
        · obtain ⟨b1, b2, b3, b4, b5, b6⟩ := hbad
          obtain ⟨n0, rfl⟩ : ∃ m : Nat, si = (m : Int) := ⟨si.toNat, by omega⟩
          obtain ⟨t, rfl⟩ : ∃ m : Nat, tx = (m : Int) := ⟨tx.toNat, by omega⟩
          obtain ⟨b, rfl⟩ : ∃ m : Nat, ba = (m : Int) := ⟨ba.toNat, by omega⟩
          have ok : JOk b n0 t := ⟨by omega, by omega, by omega, by omega, by omega⟩
          obtain ⟨r, hr⟩ : ∃ r, n0 = r + 1 := ⟨n0 - 1, by omega⟩
          have hl30 := hf.1
          by_cases h0 : 0 < L.length
          · rcases Classical.em (AllS L) with hs | hs
            · by_cases hlr : L.length ≤ r
              · cases ab with
                | true => exact jb_abort p L cap w hL hp m b n0 t hf (by omega) (by omega) ok (by omega) h0 hs r hr hlr
                | false =>
                  by_cases ht : t < 4294967295
                  · exact jb_next p L cap w hL hp m b n0 t hf (by omega) (by omega) ok (by omega) h0 hs r hr hlr ht
                  · exact jb_last p L cap w hL hp m b n0 t hf (by omega) (by omega) ok (by omega) h0 hs r hr hlr (by omega)
              · exact jb_nocom p L cap w hL hp m b n0 t ab hf (by omega) (by omega) ok (by omega) 3 (by decide) (fun J D V hj hl hq => jcom_full hj hl ok.n9 p L cap hq h0 (by omega) hs r hr (by omega))
            · exact jb_nocom p L cap w hL hp m b n0 t ab hf (by omega) (by omega) ok (by omega) 1 (by decide) (fun J D V hj hl hq => jcom_bad hj hl p L cap hq h0 (by omega) hs)
          · exact jb_nocom p L cap w hL hp m b n0 t ab hf (by omega) (by omega) ok (by omega) 1 (by decide) (fun J D V hj hl hq => by
              have hz : L.length = 0 := by omega
              rw [hz]
              exact (jcom_none hj p cap).mono fun _ _ ⟨e1, e2⟩ => ⟨e1, e2 ▸ Below.refl _ _⟩)
        · exact jb_badj p L cap w hL hp m ba si tx ab hf (by omega) (by omega) hd.f3.2 hbad
  · exact jb_far1 p L cap w hL hp pg ba si tx ab hf
set_option maxRecDepth 100000 in
theorem JournalBack_open0 {H : Type} {enc : TypeId × Value → H} {W : World} {base : Nat} {v : Value} {d : DataW H} {p : List MemPlace} (hv : Value.okWide Tryd.prog W .any base 23 v) (h : DataW.Trod enc Tryd.prog W 0 (fun _ => true) true 23 v d p) : PlV W v := open_Pl hv h
set_option maxRecDepth 100000 in
theorem JournalBack_open1 {H : Type} {enc : TypeId × Value → H} {W : World} {base : Nat} {v : Value} {d : DataW H} {p : List MemPlace} (hv : Value.okWide Tryd.prog W .any base 24 v) (h : DataW.Trod enc Tryd.prog W 0 (fun _ => true) true 24 v d p) : ∃ a len cap, v = .slice a len cap ∧ IsPgs W a len := En.open_Pgs hv h
end Go.Proofs.YtpobhdhfhnnajaaDoor.Jn
