/- JournalNil walked. -/
import Derived.Test.YtpobhdhfhnnajaaDoorM15
namespace Go.Proofs.YtpobhdhfhnnajaaDoor.Jn
open Go.RowKit
open Go.Lib (hid)
open Go.Proofs.YtpobhdhfhnnajaaDoor.Dk
open Go.Proofs.YtpobhdhfhnnajaaDoor.En (Lst PageT Pgs IsPgs pgs_list)
set_option maxRecDepth 100000 in
set_option maxHeartbeats 4000000 in
theorem jnil_far (pg ba si tx : Int) (p : Option Addr) (L : List PageT) (cap : Nat) (w : World) (hL : Lst w) (hp : Pgs w p L) (hf : ¬ FewP L) :
    Calls Tryd.prog 3 #[.agg #[.int .i64 pg, .int .i64 ba, .int .i64 si, .int .i64 tx], .slice p L.length cap] w fun e w' => e = .returned (.bool true) ∧ Below w.heap.size w w' := by
  have HL := hid hL
  have HP := hid hL.pos
  have HB0 := hid ((Below.refl w.heap.size w).alloc (Nat.le_refl _) (.cells #[.int .i64 pg, .int .i64 ba, .int .i64 si, .int .i64 tx] 23))
  have HF := hid (few_any L p cap (w.alloc (.cells #[.int .i64 pg, .int .i64 ba, .int .i64 si, .int .i64 tx] 23)) (hp.below HB0.out) false ⟨(fun h => by cases h), (fun h => absurd h hf)⟩)
  have HX0 := hid (heap_alloc_new w (.cells #[.int .i64 pg, .int .i64 ba, .int .i64 si, .int .i64 tx] 23))
  obtain ⟨n, hn⟩ : ∃ n, L.length = n := ⟨_, rfl⟩
  rw [hn] at HF ⊢
  clear hL hp hn hf
  go_enter Tryd.func3, Tryd.ntmps3
  go_wp2_with fail
  refine HF.out.mono ?_
  rintro e w1 ⟨rfl, hb⟩
  have HB1 := hid (HB0.out.trans (hb.mono HB0.out.size))
  have HX1 := hid ((hb.block w.heap.size (Array.getElem?_eq_some_iff.1 HX0.out).1).trans HX0.out)
  clear hb HX0 HB0 HF
  go_wp2_with fail
  refine (live_any _ (HL.out.next HP.out HB1.out)).mono ?_
  rintro e w9 ⟨rfl, hb⟩
  have HB9 := hid (HB1.out.trans (hb.mono HB1.out.size))
  clear hb
  go_wp2_with fail
  go_ret
  exact ⟨rfl, HB9.out⟩
set_option maxRecDepth 100000 in
set_option maxHeartbeats 4000000 in
theorem jnil_near (pg ba si tx : Int) (p : Option Addr) (L : List PageT) (cap : Nat) (w : World) (hL : Lst w) (hp : Pgs w p L) (hf : FewP L) :
    Calls Tryd.prog 3 #[.agg #[.int .i64 pg, .int .i64 ba, .int .i64 si, .int .i64 tx], .slice p L.length cap] w fun e w' => e = .returned (.bool true) ∧ Below w.heap.size w w' := by
  have HL := hid hL
  have HP := hid hL.pos
  have HB0 := hid ((Below.refl w.heap.size w).alloc (Nat.le_refl _) (.cells #[.int .i64 pg, .int .i64 ba, .int .i64 si, .int .i64 tx] 23))
  have HF := hid (few_any L p cap (w.alloc (.cells #[.int .i64 pg, .int .i64 ba, .int .i64 si, .int .i64 tx] 23)) (hp.below HB0.out) true ⟨(fun _ => hf), (fun _ => rfl)⟩)
  have HX0 := hid (heap_alloc_new w (.cells #[.int .i64 pg, .int .i64 ba, .int .i64 si, .int .i64 tx] 23))
  obtain ⟨n, hn⟩ : ∃ n, L.length = n := ⟨_, rfl⟩
  rw [hn] at HF ⊢
  clear hL hp hn hf
  go_enter Tryd.func3, Tryd.ntmps3
  go_wp2_with fail
  refine HF.out.mono ?_
  rintro e w1 ⟨rfl, hb⟩
  have HB1 := hid (HB0.out.trans (hb.mono HB0.out.size))
  have HX1 := hid ((hb.block w.heap.size (Array.getElem?_eq_some_iff.1 HX0.out).1).trans HX0.out)
  clear hb HX0 HB0 HF
  have c1 : w1.cell? ⟨w.heap.size, 1, none⟩ = some (.int .i64 ba) := by rw [cell_of_row _ _ _ _ _ _ HX1.out]; rfl
  have c2 : w1.cell? ⟨w.heap.size, 2, none⟩ = some (.int .i64 si) := by rw [cell_of_row _ _ _ _ _ _ HX1.out]; rfl
  have c3 : w1.cell? ⟨w.heap.size, 3, none⟩ = some (.int .i64 tx) := by rw [cell_of_row _ _ _ _ _ _ HX1.out]; rfl
  go_wp2_with fail
  refine (jnew_nil w1 ba si tx).mono ?_
  rintro e w' ⟨rfl, hw⟩
  obtain rfl := hw.symm
  go_wp2_with fail
  refine (jscan_nil w1).mono ?_
  rintro e w' ⟨rfl, hw⟩
  obtain rfl := hw.symm
  go_wp2_with fail
  refine (jcom_nil w1 p n cap).mono ?_
  rintro e w' ⟨rfl, hw⟩
  obtain rfl := hw.symm
  go_wp2_with fail
  refine (jabort_nil w1).mono ?_
  rintro e w' ⟨rfl, hw⟩
  obtain rfl := hw.symm
  go_wp2_with fail
  refine (next_nil w1).mono ?_
  rintro e w' ⟨rfl, hw⟩
  obtain rfl := hw.symm
  go_wp2_with fail
  refine (tx_nil w1).mono ?_
  rintro e w' ⟨rfl, hw⟩
  obtain rfl := hw.symm
  go_wp2_with fail
  refine (room_nil w1).mono ?_
  rintro e w' ⟨rfl, hw⟩
  obtain rfl := hw.symm
  go_wp2_with fail
  refine (live_any _ (HL.out.next HP.out HB1.out)).mono ?_
  rintro e w9 ⟨rfl, hb⟩
  have HB9 := hid (HB1.out.trans (hb.mono HB1.out.size))
  clear hb
  go_wp2_with fail
  go_ret
  exact ⟨rfl, HB9.out⟩
theorem JournalNil_walk (v v' : Value) (w : World) (h : PlV w v) (h' : ∃ a len cap, v' = .slice a len cap ∧ IsPgs w a len) (hL : Lst w) :
    Calls Tryd.prog 3 #[v, v'] w fun e w' => e = .returned (.bool true) ∧ Below w.heap.size w w' := by
  obtain ⟨⟨pg, ba, si, tx⟩, rfl, -⟩ := h
  obtain ⟨p, len, cap, rfl, hg⟩ := h'
  obtain ⟨L, rfl, hp, -⟩ := pgs_list hg
  rcases Classical.em (FewP L) with hf | hf
  · exact jnil_near pg ba si tx p L cap w hL hp hf
  · exact jnil_far pg ba si tx p L cap w hL hp hf
set_option maxRecDepth 100000 in
theorem JournalNil_open0 {H : Type} {enc : TypeId × Value → H} {W : World} {base : Nat} {v : Value} {d : DataW H} {p : List MemPlace} (hv : Value.okWide Tryd.prog W .any base 23 v) (h : DataW.Trod enc Tryd.prog W 0 (fun _ => true) true 23 v d p) : PlV W v := open_Pl hv h
set_option maxRecDepth 100000 in
theorem JournalNil_open1 {H : Type} {enc : TypeId × Value → H} {W : World} {base : Nat} {v : Value} {d : DataW H} {p : List MemPlace} (hv : Value.okWide Tryd.prog W .any base 24 v) (h : DataW.Trod enc Tryd.prog W 0 (fun _ => true) true 24 v d p) : ∃ a len cap, v = .slice a len cap ∧ IsPgs W a len := En.open_Pgs hv h
end Go.Proofs.YtpobhdhfhnnajaaDoor.Jn
