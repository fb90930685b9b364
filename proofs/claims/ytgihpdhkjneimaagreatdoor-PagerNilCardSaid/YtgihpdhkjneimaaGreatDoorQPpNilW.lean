/- PagerNil walked. -/
import Derived.Test.YtgihpdhkjneimaaGreatDoorP21
namespace Go.Proofs.YtgihpdhkjneimaaGreatDoor.Pp
open Go.RowKit
open Go.Lib (hid)
open Go.Proofs.YtgihpdhkjneimaaGreatDoor.Dk
open Go.Proofs.YtgihpdhkjneimaaGreatDoor.Jn
open Go.Proofs.YtgihpdhkjneimaaGreatDoor.En (Lst PageT Pgs IsPgs pgs_list)
set_option maxRecDepth 100000 in
set_option maxHeartbeats 4000000 in
theorem pnil (L : List PageT) (p : Option Addr) (c : Nat) (l : Int) (w : World) (hL : Lst w) (hp : Pgs w p L) :
    Calls Tryz.prog 6 #[.slice p L.length c, .int .i64 l] w fun e w' => e = .returned (.bool true) ∧ Below w.heap.size w w' := by
  have HL := hid hL
  have HP := hid hL.pos
  rcases Classical.em (FewP L) with hf | hf
  · have HF := hid (few_any L p c w hp true ⟨(fun _ => hf), (fun _ => rfl)⟩)
    obtain ⟨n, hn⟩ : ∃ n, L.length = n := ⟨_, rfl⟩
    rw [hn] at HF ⊢
    clear hL hp hn hf
    go_enter Tryz.func6, Tryz.ntmps6
    go_wp2_with fail
    refine HF.out.mono ?_
    rintro e w1 ⟨rfl, hb⟩
    have HB1 := hid hb
    clear hb HF
    go_wp2_with fail
    refine (format_nil l _).mono ?_
    rintro e w' ⟨rfl, hw⟩
    obtain rfl := hw.symm
    go_wp2_with fail
    refine (open_nil l _).mono ?_
    rintro e w' ⟨rfl, hw⟩
    obtain rfl := hw.symm
    go_wp2_with fail
    refine (com_nil p n c _).mono ?_
    rintro e w' ⟨rfl, hw⟩
    obtain rfl := hw.symm
    go_wp2_with fail
    refine (ppages_nil _).mono ?_
    rintro e w' ⟨rfl, hw⟩
    obtain rfl := hw.symm
    go_wp2_with fail
    refine (proom_nil _).mono ?_
    rintro e w' ⟨rfl, hw⟩
    obtain rfl := hw.symm
    go_wp2_with fail
    refine (ptx_nil _).mono ?_
    rintro e w' ⟨rfl, hw⟩
    obtain rfl := hw.symm
    go_wp2_with fail
    refine (live_any _ (HL.out.next HP.out HB1.out)).mono ?_
    rintro e w9 ⟨rfl, hb⟩
    have HB9 := hid (HB1.out.trans (hb.mono HB1.out.size))
    clear hb
    go_wp2_with fail
    go_ret
    exact ⟨rfl, HB9.out⟩
  · have HF := hid (few_any L p c w hp false ⟨(fun h => by cases h), (fun h => absurd h hf)⟩)
    obtain ⟨n, hn⟩ : ∃ n, L.length = n := ⟨_, rfl⟩
    rw [hn] at HF ⊢
    clear hL hp hn hf
    go_enter Tryz.func6, Tryz.ntmps6
    go_wp2_with fail
    refine HF.out.mono ?_
    rintro e w1 ⟨rfl, hb⟩
    have HB1 := hid hb
    clear hb HF
    go_wp2_with fail
    refine (live_any _ (HL.out.next HP.out HB1.out)).mono ?_
    rintro e w9 ⟨rfl, hb⟩
    have HB9 := hid (HB1.out.trans (hb.mono HB1.out.size))
    clear hb
    go_wp2_with fail
    go_ret
    exact ⟨rfl, HB9.out⟩
theorem PagerNil_walk (v : Value) (l : Int) (w : World) (h : ∃ a len cap, v = .slice a len cap ∧ IsPgs w a len) (_ : (Lit.int .i64 l).wf = true) (hL : Lst w) :
    Calls Tryz.prog 6 #[v, .int .i64 l] w fun e w' => e = .returned (.bool true) ∧ Below w.heap.size w w' := by
  obtain ⟨p, len, cap, rfl, hg⟩ := h
  obtain ⟨L, rfl, hp, -⟩ := pgs_list hg
  exact pnil L p cap l w hL hp
set_option maxRecDepth 100000 in
theorem PagerNil_open0 {H : Type} {enc : TypeId × Value → H} {W : World} {base : Nat} {v : Value} {d : DataW H} {p : List MemPlace} (hv : Value.okWide Tryz.prog W .any base 37 v) (h : DataW.Trod enc Tryz.prog W 0 (fun _ => true) true 37 v d p) : ∃ a len cap, v = .slice a len cap ∧ IsPgs W a len := En.open_Pgs hv h
end Go.Proofs.YtgihpdhkjneimaaGreatDoor.Pp
