/- DiskScripts walked. -/
import Derived.Test.YtjjplkfgihogkaaDkTwo
import Derived.Test.YtjjplkfgihogkaaDkOpn
import Derived.Test.YtjjplkfgihogkaaDkLive
import Derived.Test.YtjjplkfgihogkaaDkSame
import Derived.Deep.RegionHeld3
import Derived.Deep.CutBlock
import Derived.Deep.DeepCutAuto
namespace Go.Proofs.Ytjjplkfgihogkaa.Dk
open Go.RowKit
open Go.Lib (hid)

theorem dp_new {K : Nat → Prop} {w1 w2 : World} {a b : Ptrs} {s : St} (hK : ∀ k, K k → k < w1.heap.size) (ha : Dsk w1 a s) (hn : ∀ k, Foot a k → ¬ K k) (hb : Rk w2 b s) (hge : ∀ k, Foot b k → w1.heap.size ≤ k) (hw : Below w1.heap.size w1 w2) : Dp K a.D b.D w2 s s := by
  refine ⟨⟨a, b, rfl, rfl, ha.below hw, hb, hn, fun k hf hk => ?_, fun k h1 h2 => ?_⟩, fun k hk => Nat.lt_of_lt_of_le (hK k hk) hw.size⟩
  · have := hge k hf; have := hK k hk; omega
  · have := ha.lt k h1; have := hge k h2; omega
theorem texts_two (l : List ByteArray) (p q : Option Addr) (c c' : Nat) (w : World) (hp : CellsAt w p (sv l)) (hq : CellsAt w q (sv l)) (hl : l.length ≤ 1000000) :
    Calls Try.prog 18 #[.slice p l.length c, .slice q l.length c'] w fun e w' => e = .returned (.bool true) ∧ Below w.heap.size w w' :=
  (texts_ok l l p q c c' w hp hq hl).mono fun e w' ⟨h1, n, h2⟩ => ⟨by rw [h1]; simp, by rw [h2]; exact ⟨rfl, rfl, rfl, Nat.le_refl _, fun _ _ => rfl⟩⟩
theorem waits_two (s : St) (p q : Option Addr) (c c' : Nat) (w : World) (hp : CellsAt w p (iv (waitL s))) (hq : CellsAt w q (iv (waitL s))) (hl : s.waits.length ≤ 1000000) :
    Calls Try.prog 20 #[.slice p s.waits.length c, .slice q s.waits.length c'] w fun e w' => e = .returned (.bool true) ∧ Below w.heap.size w w' := by
  have h := ints_ok (waitL s) (waitL s) p q c c' w hp hq (by rw [waitL_len]; exact hl)
  rw [waitL_len] at h
  exact h.mono fun e w' ⟨h1, n, h2⟩ => ⟨by rw [h1]; simp, by rw [h2]; exact ⟨rfl, rfl, rfl, Nat.le_refl _, fun _ _ => rfl⟩⟩
theorem size_at {K : Nat → Prop} {D R P : Nat} {wr : World} {s t : St} (h : Dp K D R wr s t) (hl : s.pages.length = P) :
    Calls Try.prog 23 #[.pointer (some ⟨D, 0, none⟩)] wr fun e w' => e = .returned (.int .i64 (P : Int)) ∧ wr = w' := by
  rw [← hl]; exact h.size
theorem dscr_next {w wr V X : World} {G : Nat} (hb : Below w.heap.size w wr) (hv : Below wr.heap.size wr V) (ho : KS (fun j => j < w.heap.size ∨ j = G) V X) : Below w.heap.size w X :=
  hb.trans ((hv.mono hb.size).trans (ho.below (Nat.le_trans hb.size hv.size) fun _ hj => .inl hj))
end Go.Proofs.Ytjjplkfgihogkaa.Dk
namespace Go.Proofs.Ytjjplkfgihogkaa
open Go.RowKit
open Go.Lib (hid)
open Go.ChangeShapes Go.WideShapes Go.Joins
open Go.Proofs.Ytjjplkfgihogkaa.Dk

set_option maxRecDepth 100000 in
theorem DiskScripts_open1 {H : Type} {enc : TypeId × Value → H} {W : World} {base : Nat} {v : Value} {d : DataW H} {p : List MemPlace} (hv : Value.okWide Try.prog W .any base 22 v) (h : DataW.Trod enc Try.prog W 0 (fun _ => true) true 22 v d p) : ∃ a len cap, v = .slice a len cap ∧ IsOps W a len := open_Ops hv h
set_option maxRecDepth 100000 in
set_option maxHeartbeats 4000000 in
theorem DScr_no (n : Int) (a : Option Addr) (len cap : Nat) (w : World) (hd : ¬ (1 ≤ n ∧ n ≤ 30)) :
    Calls Try.prog 3 #[.int .i64 n, .slice a len cap] w fun e w' => e = .returned (.bool true) ∧ Below w.heap.size w w' := by
  by_cases hb : n < 1 ∨ 1000 < n
  · have HN := hid fun (V : World) => new_bad n V hb
    have HK := hid fun (V : World) => rdnew_bad n V hb
    have HB := hid (Below.refl w.heap.size w)
    by_cases h3 : n < 1
    · have e3 : decide ((30 : Int) < n) = false := decide_eq_false (by omega)
      clear hd hb h3
      go_enter Try.func3, Try.ntmps3
      go_wp2_with fail
      refine (HN.out _).mono ?_
      rintro e w1 ⟨rfl, rfl⟩
      go_wp2_with fail
      refine (HK.out _).mono ?_
      rintro e w1 ⟨rfl, rfl⟩
      go_wp2_with fail
      go_loopw [9] (fun s wr => s = .int .i64 0 ∧ wr = w) (fun _ _ => 0)
      case atStart => exact ⟨rfl, rfl⟩
      case round =>
        obtain ⟨rfl, rfl⟩ := hrel
        by_cases h0 : len = 0
        · subst h0
          go_wp2_with fail
          refine (live_any _).mono ?_
          rintro e w2 ⟨rfl, hb⟩
          have H2 := hid hb; clear hb
          go_wp2_with fail
          go_ret
          exact ⟨rfl, H2.out⟩
        · have e1 : decide ((0 : Int) < (len : Int)) = true := decide_eq_true (by omega)
          have e1' : decide (0 < len) = true := decide_eq_true (by omega)
          go_wp2_with fail
          refine (live_any _).mono ?_
          rintro e w2 ⟨rfl, hb⟩
          have H2 := hid hb; clear hb
          go_wp2_with fail
          go_ret
          exact ⟨rfl, H2.out⟩
    · have e3 : decide ((30 : Int) < n) = true := decide_eq_true (by omega)
      clear hd hb h3
      go_enter Try.func3, Try.ntmps3
      go_wp2_with fail
      refine (HN.out _).mono ?_
      rintro e w1 ⟨rfl, rfl⟩
      go_wp2_with fail
      refine (HK.out _).mono ?_
      rintro e w1 ⟨rfl, rfl⟩
      go_wp2_with fail
      refine (live_any _).mono ?_
      rintro e w2 ⟨rfl, hb⟩
      have H2 := hid hb; clear hb
      go_wp2_with fail
      go_ret
      exact ⟨rfl, H2.out⟩
  · obtain ⟨P, rfl⟩ : ∃ P : Nat, n = (P : Int) := ⟨n.toNat, by omega⟩
    have e3 : decide ((30 : Int) < (P : Int)) = true := decide_eq_true (by omega)
    have HN := hid (new_ok P w (by omega) (by omega))
    have HK := hid fun (V : World) => rdnew_ok P V (by omega) (by omega) (newS_good (by simp [blanks]; omega) (by simp [blanks]; omega) fun p hp => by rw [(List.mem_replicate.1 hp).2]; exact blankB_size)
    clear hd hb
    go_enter Try.func3, Try.ntmps3
    go_wp2_with fail
    refine HN.out.mono ?_
    rintro e w1 ⟨aa, rfl, -, hb, -⟩
    have HB1 := hid hb
    clear hb
    go_wp2_with fail
    refine (HK.out _).mono ?_
    rintro e w2 ⟨bb, rfl, -, hb, -⟩
    have HB2 := hid (HB1.out.trans (hb.mono HB1.out.size))
    clear hb
    go_wp2_with fail
    refine (live_any _).mono ?_
    rintro e w3 ⟨rfl, hb⟩
    have H3 := hid (HB2.out.trans (hb.mono HB2.out.size)); clear hb
    go_wp2_with fail
    go_ret
    exact ⟨rfl, H3.out⟩
set_option maxRecDepth 100000 in
set_option maxHeartbeats 16000000 in
theorem DScr_yes (P : Nat) (a : Option Addr) (len cap : Nat) (w : World) (hd : 1 ≤ P ∧ P ≤ 30) (hs : IsOps w a len) :
    Calls Try.prog 3 #[.int .i64 (P : Int), .slice a len cap] w fun e w' => e = .returned (.bool true) ∧ Below w.heap.size w w' := by
  have HN := hid (new_ok P w (by omega) (by omega))
  have HK := hid fun (V : World) => rdnew_ok P V (by omega) (by omega) (newS_good (by simp [blanks]; omega) (by simp [blanks]; omega) fun p hp => by rw [(List.mem_replicate.1 hp).2]; exact blankB_size)
  have HS := hid hs
  have HLB := hid (show (newS (blanks P)).pages.length = P by simp [newS, blanks])
  have e30 : decide ((30 : Int) < (P : Int)) = false := decide_eq_false (by omega)
  clear hs
  go_enter Try.func3, Try.ntmps3
  go_wp2_with fail
  refine HN.out.mono ?_
  rintro e w1 ⟨aa, rfl, ha, hb, hge⟩
  have HA := hid (And.intro ha hge)
  have HB1 := hid hb
  clear ha hb hge HN
  go_wp2_with fail
  refine (HK.out _).mono ?_
  rintro e w2 ⟨bb, rfl, hr, hb, hge⟩
  have HT := hid (dp_new (K := fun j => j < w.heap.size) (fun k hk => Nat.lt_of_lt_of_le hk HB1.out.size) HA.out.1 (fun k hf hk => by have := HA.out.2 k hf; omega) hr hge hb)
  have HB2 := hid (HB1.out.trans (hb.mono HB1.out.size))
  clear hr hge hb HA HB1 HK
  have HF0 := hid (few_new (blanks P))
  generalize newS (blanks P) = S0 at HT HF0 HLB
  generalize aa.D = D at *
  generalize bb.D = R at *
  go_wp2_with fail
  clear e30
  go_loopw [9] (fun i wr => ∃ (k : Nat) (s : St), k ≤ len ∧ k ≤ 50 ∧ i = .int .i64 k ∧ Dp (fun j => j < w.heap.size) D R wr s s ∧ Few s k ∧ s.pages.length = P ∧ Below w.heap.size w wr) (fun i _ => 50 - (intOf i).toNat)
  case atStart => exact ⟨0, _, by omega, by omega, rfl, HT.out, HF0.out, HLB.out, HB2.out⟩
  case round =>
    obtain ⟨k, s, hk, hk6, rfl, ht, hf, hlp, hbw⟩ := hrel
    have HR := hid ht
    have HFW := hid hf
    have HLP := hid hlp
    have HBW := hid hbw
    clear ht hf hlp hbw HT HB2 HF0 HLB
    by_cases hlt : k < len
    · have e1 : decide ((k : Int) < (len : Int)) = true := by simpa using hlt
      have e1' : decide (k < len) = true := by simpa using hlt
      by_cases h6 : k < 50
      · have e2 : decide ((k : Int) < 50) = true := by simp; omega
        have e2' : decide (k < 50) = true := by simp; omega
        obtain ⟨bb, off, rfl, hbl, hops⟩ : ∃ bb off, a = some ⟨bb, off, none⟩ ∧ bb < w.heap.size ∧ ∀ i, i < len → ∃ d, OpAt w bb (off + i * 6) d := by
          rcases HS.out.2 with h | h
          · omega
          · exact h
        obtain ⟨⟨a0, a1, a2, p3, l3, c3, a4, a5⟩, ho⟩ := hops k hlt
        have ha2 : a2 < 256 := ho.ok.f2
        have HF := hid (show (-9223372036854775808 ≤ a1 ∧ a1 ≤ 9223372036854775807) ∧ Is w p3 l3 ∧ l3.length ≤ c3 from ⟨ho.ok.f1, ho.ok.f3.1, ho.ok.f3.2.2⟩)
        have HKL := hid (And.intro hlt h6)
        have HW := hid (show wrap64 ((k : Int) + 1) = ((k + 1 : Nat) : Int) from Go.IntWalk.wrap64_in _ (by omega))
        have z0 : (0 : Int) ≤ (k : Int) := by omega
        have z1 : (k : Int) < (len : Int) := by omega
        obtain ⟨d0, d1, d2, d3, d4, d5, _⟩ := ho.below hbl HBW.out
        obtain ⟨cc, rfl⟩ : ∃ cc : UInt8, a2 = cc.toNat := ⟨UInt8.ofNat a2, by simp; omega⟩
        change wr.cell? _ = some (Value.int .i64 a0) at d0
        change wr.cell? _ = some (Value.int .i64 a1) at d1
        change wr.cell? _ = some (Value.int .u8 (cc.toNat : Int)) at d2
        change wr.cell? _ = some (Value.slice p3 l3.length c3) at d3
        change wr.cell? _ = some (Value.int .i64 a4) at d4
        change wr.cell? _ = some (Value.int .i64 a5) at d5
        obtain ⟨V, hV⟩ : ∃ V, wr.alloc (.cells #[.int .i64 a0, .int .i64 a1, .int .u8 (cc.toNat : Int), .slice p3 l3.length c3, .int .i64 a4, .int .i64 a5] 33 (0, 0)) = V := ⟨_, rfl⟩
        have HBV := hid (show Below wr.heap.size wr V by rw [← hV]; exact (Below.refl _ _).alloc (Nat.le_refl _) _)
        have HVC := hid (show V.heap[wr.heap.size]? = some (.cells #[.int .i64 a0, .int .i64 a1, .int .u8 (cc.toNat : Int), .slice p3 l3.length c3, .int .i64 a4, .int .i64 a5] 33 (0, 0)) by rw [← hV]; exact heap_alloc_new _ _)
        have HTV := hid (HR.out.more HBV.out wr.heap.size (Nat.le_refl _) (Array.getElem?_eq_some_iff.1 HVC.out).1)
        have HC6 := hid (show ∀ X : World, KS (fun j => j < w.heap.size ∨ j = wr.heap.size) V X → (X.cell? ⟨wr.heap.size, 0, none⟩ = some (.int .i64 a0) ∧ X.cell? ⟨wr.heap.size, 1, none⟩ = some (.int .i64 a1) ∧ X.cell? ⟨wr.heap.size, 2, none⟩ = some (.int .u8 (cc.toNat : Int)) ∧ X.cell? ⟨wr.heap.size, 3, none⟩ = some (.slice p3 l3.length c3) ∧ X.cell? ⟨wr.heap.size, 4, none⟩ = some (.int .i64 a4) ∧ X.cell? ⟨wr.heap.size, 5, none⟩ = some (.int .i64 a5)) from fun X hX => by
          have h := (hX.block _ (Array.getElem?_eq_some_iff.1 HVC.out).1 (.inr rfl)).trans HVC.out
          exact ⟨by rw [cell_of_row _ _ _ _ _ _ h]; rfl, by rw [cell_of_row _ _ _ _ _ _ h]; rfl, by rw [cell_of_row _ _ _ _ _ _ h]; rfl, by rw [cell_of_row _ _ _ _ _ _ h]; rfl, by rw [cell_of_row _ _ _ _ _ _ h]; rfl, by rw [cell_of_row _ _ _ _ _ _ h]; rfl⟩)
        have HON := hid (KS.refl (fun j => j < w.heap.size ∨ j = wr.heap.size) V)
        have HNX := hid fun (X : World) (hX : KS (fun j => j < w.heap.size ∨ j = wr.heap.size) V X) => dscr_next HBW.out HBV.out hX
        have HKP := hid fun (X : World) (hX : KS (fun j => j < w.heap.size ∨ j = wr.heap.size) V X) => kept_below HF.out.2.1.cells (HNX.out X hX)
        have HQ := hid (show ∀ b off, p3 = some ⟨b, off, none⟩ → 0 < l3.length → (b < w.heap.size ∨ b = wr.heap.size) from fun b off e h0 => by
          obtain ⟨b', off', e', hlt', _⟩ := HF.out.2.1.cells 0 h0
          rw [e] at e'; cases e'; exact .inl hlt')
        have HM := hid (show k < 1000000 by omega)
        obtain ⟨x0, x1, x2, x3, x4, x5⟩ := HC6.out _ HON.out
        clear hops ho hlt h6 hk hk6 hbl HVC HR ha2
        by_cases h4 : l3.length ≤ 60
        · have f4 : decide ((60 : Int) < (l3.length : Int)) = false := decide_eq_false (by omega)
          have f4' : decide (60 < l3.length) = false := decide_eq_false (by omega)
          have HL3 := hid (show l3.length ≤ 1000000 by omega)
          clear h4
          go_upto_block 2 with fail
          clear hV d0 d1 d2 d3 d4 d5 z0 z1
          go_cut [11, 12, 13, 14, 15] (fun ok u1 u2 u3 u4 X => ok = .bool true ∧ ∃ s1, Dp (fun j => j < w.heap.size ∨ j = wr.heap.size) D R X s1 s1 ∧ KS (fun j => j < w.heap.size ∨ j = wr.heap.size) V X ∧ Few s1 (k + 1) ∧ s1.pages.length = P)
          case first =>
            by_cases h0 : a0 = 0
            · subst h0
              go_wp2_with fail
              have y0 := (fun t => And.intro t.2.1 t.2.2.1) (HC6.out _ HON.out)
              clear x0 x1 x2 x3 x4 x5
              have HRD := hid (HTV.out.next (Below.refl _ _).drew)
              have HOD := hid (HON.out.trans (KS.of (Below.refl V.heap.size V).drew))
              go_region_held3 (fun w' => w'.cell? ⟨wr.heap.size, 1, none⟩ = some (.int .i64 a1) ∧ w'.cell? ⟨wr.heap.size, 2, none⟩ = some (.int .u8 (cc.toNat : Int))) (first | exact y0 | exact y1 | exact y2 | exact y3 | go_keep)
                (first
                  | (go_at_call 8; refine (filled_ok cc _).mono ?_; rintro e w5 ⟨rfl, hb⟩; replace HRD := hid (HRD.out.next hb); replace HOD := hid (HOD.out.trans (KS.of hb)); have y1 := (fun t => And.intro t.2.1 t.2.2.1) (HC6.out _ HOD.out); clear hb)
                  | (go_at_call 7; refine (HRD.out.write HFW.out HM.out a1 (filledB cc)).mono ?_; rintro e w6 ⟨rfl, hr, ho⟩; replace HRD := hid hr; replace HOD := hid (HOD.out.trans ho); have y2 := (fun t => And.intro t.2.1 t.2.2.1) (HC6.out _ HOD.out); clear hr ho)
                  | (go_at_call 9; refine (HRD.out.rwrite HFW.out HM.out a1 (filledB cc)).mono ?_; rintro e w7 ⟨rfl, hr, ho⟩; have HR6 := hid hr; have HON6 := hid (HOD.out.trans ho); have y3 := (fun t => And.intro t.2.1 t.2.2.1) (HC6.out _ HON6.out); clear hr ho)
                  | fail)
              have HF6 := hid (few_wr HFW.out a1 (filledB cc))
              have HL6 := hid ((wr_len s a1 (filledB cc)).trans HLP.out)
              clear y0 y1 y2 y3 HRD HOD
              generalize (wrU s a1 (filledB cc)).1 = ee
              generalize (wrU s a1 (filledB cc)).2 = s1 at HR6 HF6 HL6
              go_wp2_with fail
              go_meet
              exact ⟨rfl, s1, HR6.out, HON6.out, HF6.out, HL6.out⟩
            · have fh0 : (a0 == 0) = false := by simpa using h0
              by_cases h1 : a0 = 1
              · subst h1
                have HR0 := HTV
                have HON0 := HON
                go_wp2_with fail
                clear x0 x1 x2 x3 x4 x5
                refine (HR0.out.read HFW.out HM.out a1).mono ?_
                rintro e w5 ⟨rfl, hr, ho⟩
                have HR5 := hid hr
                have HON5 := hid (HON0.out.trans ho)
                clear hr ho HR0 HON0
                obtain ⟨x0, x1, x2, x3, x4, x5⟩ := HC6.out _ HON5.out
                go_wp2_with fail
                refine (HR5.out.rread HFW.out HM.out a1).mono ?_
                rintro e w6 ⟨rfl, hr, ho⟩
                have HR6 := hid hr
                have HON6 := hid (HON5.out.trans ho)
                clear hr ho HR5 HON5; clear x0 x1 x2 x3 x4 x5
                have HF6 := hid (few_rd HFW.out a1)
                have HL6 := hid ((rd_len s a1).trans HLP.out)
                generalize (rdU s a1).1 = et
                generalize (rdU s a1).2.1 = ee
                generalize (rdU s a1).2.2 = s1 at HR6 HF6 HL6
                go_wp2_with fail
                go_meet
                exact ⟨rfl, s1, HR6.out, HON6.out, HF6.out, HL6.out⟩
              · have fh1 : (a0 == 1) = false := by simpa using h1
                by_cases h2 : a0 = 2
                · subst h2
                  have HR0 := HTV
                  have HON0 := HON
                  go_wp2_with fail
                  clear x0 x1 x2 x3 x4 x5
                  refine (HR0.out.flush HFW.out HM.out).mono ?_
                  rintro e w5 ⟨rfl, hr, ho⟩
                  have HR5 := hid hr
                  have HON5 := hid (HON0.out.trans ho)
                  clear hr ho HR0 HON0
                  go_wp2_with fail
                  refine (HR5.out.rflush HFW.out HM.out).mono ?_
                  rintro e w6 ⟨rfl, hr, ho⟩
                  have HR6 := hid hr
                  have HON6 := hid (HON5.out.trans ho)
                  clear hr ho HR5 HON5
                  have HF6 := hid (few_fl HFW.out)
                  have HL6 := hid ((fl_len s).trans HLP.out)
                  generalize (flU s).1 = ee
                  generalize (flU s).2 = s1 at HR6 HF6 HL6
                  go_wp2_with fail
                  go_meet
                  exact ⟨rfl, s1, HR6.out, HON6.out, HF6.out, HL6.out⟩
                · have fh2 : (a0 == 2) = false := by simpa using h2
                  by_cases h3 : a0 = 3
                  · subst h3
                    have HR0 := HTV
                    have HON0 := HON
                    go_wp2_with fail
                    clear x0 x1 x2 x3 x4 x5
                    refine (HR0.out.fuse a1 HF.out.1.2).mono ?_
                    rintro e w5 ⟨rfl, hr, ho⟩
                    have HR5 := hid hr
                    have HON5 := hid (HON0.out.trans ho)
                    clear hr ho HR0 HON0
                    obtain ⟨x0, x1, x2, x3, x4, x5⟩ := HC6.out _ HON5.out
                    obtain ⟨y5, f5⟩ := HR5.out.fuse_cell
                    have HR6 := hid (HR5.out.rfuse a1 HF.out.1.2).1
                    have HON6 := hid (HON5.out.trans (HR5.out.rfuse a1 HF.out.1.2).2)
                    have HF6 := hid (few_fu HFW.out a1)
                    have HL6 := hid (show (fuseS s a1).pages.length = P from HLP.out)
                    generalize fuseS s a1 = s1 at HR6 HF6 HL6
                    go_wp2_with fail
                    go_meet
                    exact ⟨rfl, s1, HR6.out, HON6.out, HF6.out, HL6.out⟩
                  · have fh3 : (a0 == 3) = false := by simpa using h3
                    go_wp2_with fail
                    have y0 := (fun t => And.intro t.2.2.2.1 (And.intro t.2.2.2.2.1 t.2.2.2.2.2)) (HC6.out _ HON.out)
                    clear x0 x1 x2 x3 x4 x5
                    have HRD := hid (HTV.out.next (Below.refl _ _).drew)
                    have HOD := hid (HON.out.trans (KS.of (Below.refl V.heap.size V).drew))
                    go_region_held3 (fun w' => w'.cell? ⟨wr.heap.size, 3, none⟩ = some (.slice p3 l3.length c3) ∧ w'.cell? ⟨wr.heap.size, 4, none⟩ = some (.int .i64 a4) ∧ w'.cell? ⟨wr.heap.size, 5, none⟩ = some (.int .i64 a5)) (first | exact y0 | exact y2 | exact y3 | go_keep)
                      (first
                        | (go_at_call 15; refine (HRD.out.crash p3 c3 l3 (HKP.out _ HOD.out) HL3.out a4 a5).mono ?_; rintro e w6 ⟨rfl, hr, ho⟩; replace HRD := hid hr; replace HOD := hid (HOD.out.trans ho); have y2 := (fun t => And.intro t.2.2.2.1 (And.intro t.2.2.2.2.1 t.2.2.2.2.2)) (HC6.out _ HOD.out); clear hr ho)
                        | (go_at_call 16; refine (HRD.out.rcrash p3 c3 l3 (HKP.out _ HOD.out) HQ.out HF.out.2.2 HL3.out a4 a5).mono ?_; rintro e w7 ⟨rfl, hr, ho⟩; have HR6 := hid hr; have HON6 := hid (HOD.out.trans ho); have y3 := (fun t => And.intro t.2.2.2.1 (And.intro t.2.2.2.2.1 t.2.2.2.2.2)) (HC6.out _ HON6.out); clear hr ho)
                        | fail)
                    have HF6 := hid (few_cr HFW.out l3 a4 a5)
                    have HL6 := hid ((cr_len s l3 a4 a5).trans HLP.out)
                    clear y0 y2 y3 HRD HOD
                    generalize (crU s l3 a4 a5).1 = ee
                    generalize (crU s l3 a4 a5).2 = s1 at HR6 HF6 HL6
                    go_wp2_with fail
                    go_meet
                    exact ⟨rfl, s1, HR6.out, HON6.out, HF6.out, HL6.out⟩
          case rest =>
            obtain ⟨rfl, s1, hr, ho, hf, hl⟩ := hcut
            have HR6 := hid hr
            have HON6 := hid ho
            have HF6 := hid hf
            have HL6 := hid hl
            clear hr ho hf hl x0 x1 x2 x3 x4 x5
            go_wp2_with fail
            refine (HR6.out.counts).mono ?_
            rintro e wN ⟨rfl, hb⟩
            have HR7 := hid (HR6.out.next hb)
            have HON7 := hid (HON6.out.trans (KS.of hb))
            clear hb HR6 HON6
            obtain ⟨PP, cP, hsh⟩ := HR7.out.shows
            have HSH := hid hsh
            have q0 := (fun t => And.intro t.1 (And.intro t.2.1 (And.intro t.2.2.1 t.2.2.2.1))) (hsh _ (Below.refl _ _))
            have HRD := hid (HR7.out.next (Below.refl _ _).drew)
            have HPL := hid (show s1.pages.length ≤ 1000000 by have := HR7.out.good.1.n2; omega)
            have HWL := hid (show s1.waits.length ≤ 1000000 from HR7.out.good.1.few)
            clear hsh
            go_wp2_with fail
            go_region_held3 (fun w' => w'.cell? ⟨R, 0, none⟩ = some (.slice (some ⟨PP, 0, none⟩) s1.pages.length cP) ∧ w'.cell? ⟨R, 2, none⟩ = some (.int .i64 s1.reads) ∧ w'.cell? ⟨R, 3, none⟩ = some (.int .i64 s1.writes) ∧ w'.cell? ⟨R, 4, none⟩ = some (.int .i64 s1.flushes)) (first | exact q0 | exact q1 | exact q2 | exact q3 | exact q4 | exact q5 | go_keep)
              (first
                | (go_at_call 19; refine (HRD.out.image).mono ?_; rintro e wA ⟨gA, cA, rfl, hc, hb⟩; have HA := hid (show Below wN.heap.size wN wA from (Below.refl _ wN).drew.trans hb); have HAC := hid hc; have HAT := hid (HRD.out.next hb); have q1 := (fun t => And.intro t.1 (And.intro t.2.1 (And.intro t.2.2.1 t.2.2.2.1))) (HSH.out _ HA.out); clear hb hc)
                | (go_at_call 18; refine (texts_two s1.pages (some ⟨gA, 0, none⟩) (some ⟨PP, 0, none⟩) cA cP wA HAC.out (HSH.out _ HA.out).2.2.2.2 HPL.out).mono ?_; rintro e wB ⟨rfl, hb⟩; have HB := hid (HA.out.trans (hb.mono HA.out.size)); have HBT := hid (HAT.out.next hb); have q2 := (fun t => And.intro t.1 (And.intro t.2.1 (And.intro t.2.2.1 t.2.2.2.1))) (HSH.out _ HB.out); clear hb)
                | (go_at_call 21; refine (HBT.out.waits).mono ?_; rintro e wC ⟨pC, cC, rfl, hc, hl, hb⟩; have HC := hid (HB.out.trans (hb.mono HB.out.size)); have HCC := hid (And.intro hc hl); have HCT := hid (HBT.out.next hb); have q3 := (fun t => And.intro t.1 (And.intro t.2.1 (And.intro t.2.2.1 t.2.2.2.1))) (HSH.out _ HC.out); clear hb hc hl)
                | (go_at_call 22; refine (HCT.out.rwaits).mono ?_; rintro e wE ⟨pE, cE, rfl, hc, hl, hb⟩; have HE := hid (HC.out.trans (hb.mono HC.out.size)); have HEC := hid (And.intro (cells_below HCC.out.1 HCC.out.2 hb) hc); have HET := hid (HCT.out.next hb); have q4 := (fun t => And.intro t.1 (And.intro t.2.1 (And.intro t.2.2.1 t.2.2.2.1))) (HSH.out _ HE.out); clear hb hc hl)
                | (go_at_call 20; refine (waits_two s1 pC pE cC cE wE HEC.out.1 HEC.out.2 HWL.out).mono ?_; rintro e wF ⟨rfl, hb⟩; have HF := hid (HE.out.trans (hb.mono HE.out.size)); have HFT := hid (HET.out.next hb); have q5 := (fun t => And.intro t.1 (And.intro t.2.1 (And.intro t.2.2.1 t.2.2.2.1))) (HSH.out _ HF.out); clear hb)
                | (go_at_call 23; refine (size_at HFT.out HL6.out).mono ?_; rintro e wG ⟨rfl, rfl⟩)
                | fail)
            have HRE := hid (HFT.out.less (K' := fun j => j < w.heap.size) fun j hj => .inl hj)
            have HOE := hid (HNX.out _ (HON7.out.trans (KS.of HF.out)))
            clear q0 q1 q2 q3 q4 q5 HRD HA HAC HAT HB HBT HC HCC HCT HE HEC HET HF HFT HSH HR7 HON7
            go_wp2_with fail
            go_roundw
            case rel => exact ⟨k + 1, s1, HKL.out.1, HKL.out.2, by rw [HW.out], HRE.out, HF6.out, HL6.out, HOE.out⟩
            case measure => have := HKL.out.2; rw [HW.out]; simp [intOf]; omega
        · have f4 : decide ((60 : Int) < (l3.length : Int)) = true := decide_eq_true (by omega)
          have f4' : decide (60 < l3.length) = true := decide_eq_true (by omega)
          clear h4
          go_wp2_with fail
          refine (live_any _).mono ?_
          rintro e w4 ⟨rfl, hb⟩
          have H4 := hid (HNX.out _ (KS.of hb)); clear hb
          go_wp2_with fail
          go_ret
          exact ⟨rfl, H4.out⟩
      · have e2 : decide ((k : Int) < 50) = false := by simp; omega
        have e2' : decide (k < 50) = false := by simp; omega
        clear hlt h6 hk hk6
        go_wp2_with fail
        refine (live_any _).mono ?_
        rintro e w4 ⟨rfl, hb⟩
        have H4 := hid (HBW.out.trans (hb.mono HBW.out.size)); clear hb
        go_wp2_with fail
        go_ret
        exact ⟨rfl, H4.out⟩
    · have e1 : decide ((k : Int) < (len : Int)) = false := by simp; omega
      have e1' : decide (k < len) = false := by simp; omega
      clear hlt hk hk6
      go_wp2_with fail
      refine (live_any _).mono ?_
      rintro e w4 ⟨rfl, hb⟩
      have H4 := hid (HBW.out.trans (hb.mono HBW.out.size)); clear hb
      go_wp2_with fail
      go_ret
      exact ⟨rfl, H4.out⟩
set_option maxRecDepth 100000 in
theorem DiskScripts_walk (n : Int) (v : Value) (w : World) (_ : (Lit.int .i64 n).wf = true) (h1 : ∃ a len cap, v = .slice a len cap ∧ IsOps w a len) :
    Calls Try.prog 3 #[.int .i64 n, v] w fun e w' => e = .returned (.bool true) ∧ Below w.heap.size w w' := by
  obtain ⟨a, len, cap, rfl, hs⟩ := h1
  by_cases hd : 1 ≤ n ∧ n ≤ 30
  · obtain ⟨P, rfl⟩ : ∃ P : Nat, n = (P : Int) := ⟨n.toNat, by omega⟩
    exact DScr_yes P a len cap w (by omega) hs
  · exact DScr_no n a len cap w hd
end Go.Proofs.Ytjjplkfgihogkaa
