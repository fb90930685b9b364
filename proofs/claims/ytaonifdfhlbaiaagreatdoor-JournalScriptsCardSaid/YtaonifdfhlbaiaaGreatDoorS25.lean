/- Merged out of JoScI. -/
import Derived.Test.YtaonifdfhlbaiaaGreatDoorS24
import Derived.Deep.RegionHeld3
import Derived.Deep.CutBlock
import Derived.Deep.DeepCutAuto
/- JournalScripts walked. -/
namespace Go.Proofs.YtaonifdfhlbaiaaGreatDoor.Jn
open Go.RowKit
open Go.Lib (hid)
open Go.Proofs.YtaonifdfhlbaiaaGreatDoor.Dk
open Go.Proofs.YtaonifdfhlbaiaaGreatDoor.En (Lst PageT Pgs)
theorem jo_on {w wr V X : World} (h1 : Below w.heap.size w wr) (h2 : Below wr.heap.size wr V) (h3 : KS (fun j => j < w.heap.size ∨ j = wr.heap.size) V X) : Below w.heap.size w X :=
  (h1.trans (h2.mono h1.size)).trans (h3.below (Nat.le_trans h1.size h2.size) (fun _ hk => .inl hk))
theorem ks_set {K : Nat → Prop} {w w' : World} (h : KS K w w') (g i : Nat) (v : Value) (hg : ¬ K g) : KS K w (w'.setCell ⟨g, i, none⟩ v) :=
  ⟨h.os, h.tape, h.output, by simpa using h.size, fun k hk e => by
    have hne : k ≠ g := fun e2 => hg (e2 ▸ e)
    rw [heap_setCell_other _ _ _ _ hne]; exact h.block k hk e⟩
theorem jo_kept {w w' : World} {q : Option Addr} {ks : List Int} (h : Dk.Kept w q ks) (hb : Below w.heap.size w w') : Dk.Kept w' q ks := fun j hj => by
  obtain ⟨b, off, e, hlt, hc⟩ := h j hj
  exact ⟨b, off, e, Nat.lt_of_lt_of_le hlt hb.size, (hb.cell (p := ⟨b, off + j, none⟩) hlt).trans hc⟩
set_option maxRecDepth 100000 in
set_option maxHeartbeats 16000000 in
theorem jo_go (q : Option Addr) (len cap : Nat) (w : World) (hL : Lst w) (m b n tx0 : Nat) (HS0 : Dk.IsOps w q len) (h1 : 1 ≤ m) (h30 : m ≤ 30) (ok : JOk b n tx0) (hbm : b + n ≤ m) :
    Calls Tryz.prog 3 #[.agg #[.int .i64 (m : Int), .int .i64 (b : Int), .int .i64 (n : Int), .int .i64 (tx0 : Int)], .slice q len cap] w fun e w' => e = .returned (.bool true) ∧ Below w.heap.size w w' := by
  have HL := hid hL
  have HP := hid hL.pos
  have HB0 := hid ((Below.refl w.heap.size w).alloc (Nat.le_refl _) (.cells #[.int .i64 (m : Int), .int .i64 (b : Int), .int .i64 (n : Int), .int .i64 (tx0 : Int)] 23))
  have HX0 := hid (heap_alloc_new w (.cells #[.int .i64 (m : Int), .int .i64 (b : Int), .int .i64 (n : Int), .int .i64 (tx0 : Int)] 23))
  have c0 : (w.alloc (.cells #[.int .i64 (m : Int), .int .i64 (b : Int), .int .i64 (n : Int), .int .i64 (tx0 : Int)] 23)).cell? ⟨w.heap.size, 0, none⟩ = some (.int .i64 (m : Int)) := by rw [cell_of_row _ _ _ _ _ _ HX0.out]; rfl
  have c1 : (w.alloc (.cells #[.int .i64 (m : Int), .int .i64 (b : Int), .int .i64 (n : Int), .int .i64 (tx0 : Int)] 23)).cell? ⟨w.heap.size, 1, none⟩ = some (.int .i64 (b : Int)) := by rw [cell_of_row _ _ _ _ _ _ HX0.out]; rfl
  have c2 : (w.alloc (.cells #[.int .i64 (m : Int), .int .i64 (b : Int), .int .i64 (n : Int), .int .i64 (tx0 : Int)] 23)).cell? ⟨w.heap.size, 2, none⟩ = some (.int .i64 (n : Int)) := by rw [cell_of_row _ _ _ _ _ _ HX0.out]; rfl
  have c3 : (w.alloc (.cells #[.int .i64 (m : Int), .int .i64 (b : Int), .int .i64 (n : Int), .int .i64 (tx0 : Int)] 23)).cell? ⟨w.heap.size, 3, none⟩ = some (.int .i64 (tx0 : Int)) := by rw [cell_of_row _ _ _ _ _ _ HX0.out]; rfl
  have e0 : decide ((30 : Int) < (m : Int)) = false := by simp; omega
  have e0' : decide (30 < m) = false := by simp; omega
  have HG0 := hid (newS_good (l := blanks m) (by simp [blanks]; omega) (by simp [blanks]; omega) (fun p hp => by
    unfold blanks at hp
    rw [List.eq_of_mem_replicate hp]; exact blank_size))
  have HD := hid fun (V : World) => dnew m V h1 (by omega)
  have HR := hid fun (V : World) => rdnew_ok m V h1 (by omega) HG0.out
  have HSL := hid (show (newS (blanks m)).pages.length = m by show (blanks m).length = _; simp [blanks])
  have H30 := hid h30; have HOK := hid ok; have HBM := hid hbm; have HS := hid HS0
  clear hL h1 h30 HS0
  go_enter Tryz.func3, Tryz.ntmps3
  go_wp2_with fail
  generalize w.alloc (.cells #[.int .i64 (m : Int), .int .i64 (b : Int), .int .i64 (n : Int), .int .i64 (tx0 : Int)] 23) = X at *
  refine (HD.out X).mono ?_
  rintro e w2 ⟨D, rfl, hc, hb⟩
  have HC2 := hid hc
  have HB2 := hid (HB0.out.trans (hb.mono HB0.out.size))
  have HX2 := hid ((hb.block w.heap.size (Array.getElem?_eq_some_iff.1 HX0.out).1).trans HX0.out)
  have HWX := hid hb.size
  clear hc hb HD c0 c1 c2 c3
  have c0 : w2.cell? ⟨w.heap.size, 0, none⟩ = some (.int .i64 (m : Int)) := by rw [cell_of_row _ _ _ _ _ _ HX2.out]; rfl
  have c1 : w2.cell? ⟨w.heap.size, 1, none⟩ = some (.int .i64 (b : Int)) := by rw [cell_of_row _ _ _ _ _ _ HX2.out]; rfl
  have c2 : w2.cell? ⟨w.heap.size, 2, none⟩ = some (.int .i64 (n : Int)) := by rw [cell_of_row _ _ _ _ _ _ HX2.out]; rfl
  have c3 : w2.cell? ⟨w.heap.size, 3, none⟩ = some (.int .i64 (tx0 : Int)) := by rw [cell_of_row _ _ _ _ _ _ HX2.out]; rfl
  go_wp2_with fail
  refine (HR.out w2).mono ?_
  rintro e w3 ⟨d3, rfl, hr, hb, hf⟩
  have HBD := hid (bd_make HC2.out hb hr hf)
  have HB3 := hid (HB2.out.trans (hb.mono HB2.out.size))
  have HX3 := hid ((hb.block w.heap.size (Array.getElem?_eq_some_iff.1 HX2.out).1).trans HX2.out)
  have HW3 := hid (Nat.le_trans HWX.out hb.size)
  clear hr hb hf HR HC2 HB2 HX2 c0 c1 c2 c3
  generalize d3.D = R at *
  have c0 : w3.cell? ⟨w.heap.size, 0, none⟩ = some (.int .i64 (m : Int)) := by rw [cell_of_row _ _ _ _ _ _ HX3.out]; rfl
  have c1 : w3.cell? ⟨w.heap.size, 1, none⟩ = some (.int .i64 (b : Int)) := by rw [cell_of_row _ _ _ _ _ _ HX3.out]; rfl
  have c2 : w3.cell? ⟨w.heap.size, 2, none⟩ = some (.int .i64 (n : Int)) := by rw [cell_of_row _ _ _ _ _ _ HX3.out]; rfl
  have c3 : w3.cell? ⟨w.heap.size, 3, none⟩ = some (.int .i64 (tx0 : Int)) := by rw [cell_of_row _ _ _ _ _ _ HX3.out]; rfl
  obtain ⟨KB, _, hcd, -⟩ := HBD.out.code
  have HN := hid (jnew_ok hcd b n tx0 ok (by rw [HSL.out]; exact hbm))
  clear hcd ok hbm
  go_wp2_with fail
  refine HN.out.mono ?_
  rintro e w4 ⟨rfl, hw4⟩
  have HB34 := hid (show Below w3.heap.size w3 w4 by rw [hw4]; exact (Below.refl _ _).alloc (Nat.le_refl _) _)
  have HJ4 := hid (show JAt w4 w3.heap.size D b n tx0 by rw [hw4]; exact heap_alloc_new w3 _)
  clear hw4 HN
  have HBD4 := hid (show Bd (fun j => j < X.heap.size ∨ j = w3.heap.size) D R w4 (newS (blanks m)) (newS (blanks m)) from HBD.out.more HB34.out (fun k hk => hk.imp id (fun e => by omega)) (fun k hk => by
    rcases hk with hk | hk
    · exact Nat.lt_of_lt_of_le (HBD.out.lt k hk) HB34.out.size
    · subst hk; exact HJ4.out.lt))
  have HX4 := hid ((HB34.out.block w.heap.size (Array.getElem?_eq_some_iff.1 HX3.out).1).trans HX3.out)
  have HB4 := hid (HB3.out.trans (HB34.out.mono HB3.out.size))
  clear HX3 HB3 HBD c0 c1 c2 c3
  have c0 : w4.cell? ⟨w.heap.size, 0, none⟩ = some (.int .i64 (m : Int)) := by rw [cell_of_row _ _ _ _ _ _ HX4.out]; rfl
  have c1 : w4.cell? ⟨w.heap.size, 1, none⟩ = some (.int .i64 (b : Int)) := by rw [cell_of_row _ _ _ _ _ _ HX4.out]; rfl
  have c2 : w4.cell? ⟨w.heap.size, 2, none⟩ = some (.int .i64 (n : Int)) := by rw [cell_of_row _ _ _ _ _ _ HX4.out]; rfl
  have c3 : w4.cell? ⟨w.heap.size, 3, none⟩ = some (.int .i64 (tx0 : Int)) := by rw [cell_of_row _ _ _ _ _ _ HX4.out]; rfl
  obtain ⟨KA, _, hrc, -⟩ := HBD4.out.ref
  have HM := hid (rnew_ok hrc b n tx0 HOK.out (by rw [HSL.out]; exact HBM.out))
  clear hrc
  go_wp2_with fail
  refine HM.out.mono ?_
  rintro e w5 ⟨I0, rfl, hI, hra, hb⟩
  subst hI
  have HB5 := hid (HB4.out.trans (hb.mono HB4.out.size))
  have HIJ := hid (show w3.heap.size < w4.heap.size from HJ4.out.lt)
  have HWJ := hid (show w.heap.size < w3.heap.size from Nat.lt_of_lt_of_le (Array.getElem?_eq_some_iff.1 HX0.out).1 HW3.out)
  have HJB := hid (show Jb (fun j => (j < X.heap.size ∨ j = w3.heap.size) ∨ j = w4.heap.size) D R w3.heap.size w4.heap.size w5 (newS (blanks m)) (newS (blanks m)) b n tx0 from
    ⟨HBD4.out.more hb (fun k hk => hk.imp id (fun e => by omega)) (fun k hk => by
      rcases hk with hk | hk
      · exact Nat.lt_of_lt_of_le (HBD4.out.lt k hk) hb.size
      · subst hk; exact hra.lt), .inl (.inr rfl), .inr rfl, .inl (.inl (by have := (Array.getElem?_eq_some_iff.1 HX0.out).1; omega)), HJ4.out.below hb, hra, HL.out.next HP.out HB5.out⟩)
  clear hra hb HM HBD4 HJ4 HB34 HB4 HX4 c0 c1 c2 c3
  have HF0 := hid (few_new (blanks m))
  generalize newS (blanks m) = s0 at *
  have HXK := hid (show ∀ j, j < w.heap.size → j < X.heap.size from fun j hj => Nat.lt_of_lt_of_le hj HB0.out.size)
  go_wp2_with fail
  go_loopw [13] (fun x wx => ∃ (i : Nat) (s u : St) (tx : Nat) (K : Nat → Prop), x = .int .i64 i ∧ i ≤ len ∧ i ≤ 20 ∧ (∀ j, j < w.heap.size → K j) ∧ Jb K D R w3.heap.size w4.heap.size wx s u b n tx ∧ Same s u ∧ Few s (1100 * i) ∧ Few u (1100 * i) ∧ s.pages.length = m ∧ Below w.heap.size w wx ∧ JOk b n tx) (fun x _ => 20 - (intOf x).toNat)
  case atStart => exact ⟨0, s0, s0, tx0, _, rfl, Nat.zero_le _, Nat.zero_le _, fun j hj => .inl (.inl (HXK.out j hj)), HJB.out, Same.refl _, HF0.out, HF0.out, HSL.out, HB5.out, HOK.out⟩
  case round =>
    obtain ⟨k, s, u, tx, K, rfl, hk, hk6, hK0, hjb, hsm, hfs, hfu, hpl, hbw, hok⟩ := hrel
    have HK0 := hid hK0; have HR := hid hjb; have HSM := hid hsm; have HFS := hid hfs; have HFU := hid hfu; have HPL := hid hpl; have HBW := hid hbw; have HO := hid hok
    clear hK0 hjb hsm hfs hfu hpl hbw hok HJB HF0 HSL HB5 HOK HB0 HX0 HXK
    by_cases hlt : k < len
    · have e1 : decide ((k : Int) < (len : Int)) = true := by simpa using hlt
      have e1' : decide (k < len) = true := by simpa using hlt
      by_cases h6 : k < 20
      · have e2 : decide ((k : Int) < 20) = true := by simp; omega
        have e2' : decide (k < 20) = true := by simp; omega
        obtain ⟨bb, off, rfl, hbl, hops⟩ : ∃ bb off, q = some ⟨bb, off, none⟩ ∧ bb < w.heap.size ∧ ∀ i, i < len → ∃ d, OpAt w bb (off + i * 7) d := by
          rcases HS.out.2 with h | h
          · omega
          · exact h
        obtain ⟨⟨a0, p1, n1, c1, a2, t3, p4, l4, c4, a5, a6⟩, ho⟩ := hops k hlt
        have HF := hid (And.intro ho.ok.f4.1 ho.ok.f4.2.2)
        obtain ⟨L, hL1, hpg⟩ := jopgs ho.ok.f1
        dsimp only at hL1
        subst hL1
        have HPG := hid hpg
        clear hpg
        have HKL := hid (And.intro hlt h6)
        have HW := hid (show wrap64 ((k : Int) + 1) = ((k + 1 : Nat) : Int) from Go.IntWalk.wrap64_in _ (by omega))
        have z0 : (0 : Int) ≤ (k : Int) := by omega
        have z1 : (k : Int) < (len : Int) := by omega
        obtain ⟨d0, d1, d2, d3, d4, d5, d6, _⟩ := ho.below hbl HBW.out
        change wr.cell? _ = some (Value.int .i64 a0) at d0
        change wr.cell? _ = some (Value.slice p1 L.length c1) at d1
        change wr.cell? _ = some (Value.int .i64 a2) at d2
        change wr.cell? _ = some (Value.string t3) at d3
        change wr.cell? _ = some (Value.slice p4 l4.length c4) at d4
        change wr.cell? _ = some (Value.int .i64 a5) at d5
        change wr.cell? _ = some (Value.int .i64 a6) at d6
        obtain ⟨V, hV⟩ : ∃ V, wr.alloc (.cells #[.int .i64 a0, .slice p1 L.length c1, .int .i64 a2, .string t3, .slice p4 l4.length c4, .int .i64 a5, .int .i64 a6] 42 (0, 0)) = V := ⟨_, rfl⟩
        have HBV := hid (show Below wr.heap.size wr V by rw [← hV]; exact (Below.refl _ _).alloc (Nat.le_refl _) _)
        have HVC := hid (show V.heap[wr.heap.size]? = some (.cells #[.int .i64 a0, .slice p1 L.length c1, .int .i64 a2, .string t3, .slice p4 l4.length c4, .int .i64 a5, .int .i64 a6] 42 (0, 0)) by rw [← hV]; exact heap_alloc_new _ _)
        have HTV := hid (show Jb (fun j => K j ∨ j = wr.heap.size) D R w3.heap.size w4.heap.size V s u b n tx from HR.out.more HBV.out (fun _ e => .inl e) (fun k hk => hk.imp id (fun e => by omega)) (fun k hk => by
          rcases hk with hk | hk
          · exact Nat.lt_of_lt_of_le (HR.out.bd.lt k hk) HBV.out.size
          · subst hk; exact (Array.getElem?_eq_some_iff.1 HVC.out).1))
        have HC6 := hid (show ∀ X : World, KS (fun j => j < w.heap.size ∨ j = wr.heap.size) V X → (X.cell? ⟨wr.heap.size, 0, none⟩ = some (.int .i64 a0) ∧ X.cell? ⟨wr.heap.size, 1, none⟩ = some (.slice p1 L.length c1) ∧ X.cell? ⟨wr.heap.size, 2, none⟩ = some (.int .i64 a2) ∧ X.cell? ⟨wr.heap.size, 3, none⟩ = some (.string t3) ∧ X.cell? ⟨wr.heap.size, 4, none⟩ = some (.slice p4 l4.length c4) ∧ X.cell? ⟨wr.heap.size, 5, none⟩ = some (.int .i64 a5) ∧ X.cell? ⟨wr.heap.size, 6, none⟩ = some (.int .i64 a6)) from fun X hX => by
          have h := (hX.block _ (Array.getElem?_eq_some_iff.1 HVC.out).1 (.inr rfl)).trans HVC.out
          exact ⟨by rw [cell_of_row _ _ _ _ _ _ h]; rfl, by rw [cell_of_row _ _ _ _ _ _ h]; rfl, by rw [cell_of_row _ _ _ _ _ _ h]; rfl, by rw [cell_of_row _ _ _ _ _ _ h]; rfl, by rw [cell_of_row _ _ _ _ _ _ h]; rfl, by rw [cell_of_row _ _ _ _ _ _ h]; rfl, by rw [cell_of_row _ _ _ _ _ _ h]; rfl⟩)
        have HNX := hid fun (X : World) (hX : KS (fun j => j < w.heap.size ∨ j = wr.heap.size) V X) => jo_on HBW.out HBV.out hX
        clear hops ho hlt h6 hk hk6 hbl
        rcases Classical.em (FewP L) with hfp | hfp
        · have HFW := hid fun (X : World) (hX : KS (fun j => j < w.heap.size ∨ j = wr.heap.size) V X) => few_any L p1 c1 X (HPG.out.below (HNX.out X hX)) true ⟨(fun _ => hfp), (fun _ => rfl)⟩
          have HLL := hid hfp.1
          have HKO := hid (show ∀ j, (fun j => j < w.heap.size ∨ j = wr.heap.size) j → (fun j => K j ∨ j = wr.heap.size) j from fun j e => e.elim (fun h => .inl (HK0.out j h)) .inr)
          have HGK := hid (show ∀ g off, p1 = some ⟨g, off, none⟩ → 0 < L.length → (fun j => K j ∨ j = wr.heap.size) g from fun g off e h0 => by
            obtain ⟨g', off', e', hl, _⟩ := HPG.out 0 h0
            rw [e] at e'
            injection e' with e'; injection e' with e1 e2
            subst e1
            exact .inl (HK0.out _ hl))
          have HQK := hid (show ∀ b off, p4 = some ⟨b, off, none⟩ → 0 < l4.length → (fun j => K j ∨ j = wr.heap.size) b from fun g off e h0 => by
            obtain ⟨g', off', e', hl, _⟩ := HF.out.1.cells 0 h0
            rw [e] at e'
            injection e' with e'; injection e' with e1 e2
            subst e1
            exact .inl (HK0.out _ hl))
          have HKP := hid fun (X : World) (hX : KS (fun j => j < w.heap.size ∨ j = wr.heap.size) V X) => jo_kept HF.out.1.cells (HNX.out X hX)
          have HPX := hid fun (X : World) (hX : KS (fun j => j < w.heap.size ∨ j = wr.heap.size) V X) => HPG.out.below (HNX.out X hX)
          obtain ⟨x0, x1, x2, x3, x4, x5, x6⟩ := HC6.out _ (KS.refl _ V)
          clear hfp
          by_cases ht3 : t3.size ≤ 300
          · have f3 : decide ((300 : Int) < (t3.size : Int)) = false := by simp; omega
            have f3' : decide (300 < t3.size) = false := by simp; omega
            by_cases h4 : l4.length ≤ 60
            · have f4 : decide ((60 : Int) < (l4.length : Int)) = false := decide_eq_false (by omega)
              have f4' : decide (60 < l4.length) = false := decide_eq_false (by omega)
              have HL4 := hid (show l4.length ≤ 1000000 by omega)
              have HKM := hid (show k < 20 from HKL.out.2)
              clear h4 ht3
              go_wp2_with fail
              refine (HFW.out _ (KS.refl _ V)).mono ?_
              rintro e w6 ⟨rfl, hb⟩
              have HON := hid (KS.of (K := (fun j => j < w.heap.size ∨ j = wr.heap.size)) hb)
              have HT6 := hid (HTV.out.next hb)
              clear hb x0 x1 x2 x3 x4 x5 x6 d0 d1 d2 d3 d4 d5 d6 HTV HFW
              obtain ⟨x0, x1, x2, x3, x4, x5, x6⟩ := HC6.out _ HON.out
              go_upto_block 2 with fail
              clear hV z0 z1
              go_cut [15] (fun okv Y => okv = .bool true ∧ ∃ (s1 u1 : St) (tx1 : Nat), Jb (fun j => K j ∨ j = wr.heap.size) D R w3.heap.size w4.heap.size Y s1 u1 b n tx1 ∧ Same s1 u1 ∧ KS (fun j => j < w.heap.size ∨ j = wr.heap.size) V Y ∧ Few s1 (1100 * k + 50) ∧ Few u1 (1100 * k + 50) ∧ s1.pages.length = m ∧ JOk b n tx1)
              case first =>
                by_cases h0 : a0 = 0
                · subst h0
                  have HCA := hid fun (Y : World) (hj : Jb (fun j => K j ∨ j = wr.heap.size) D R w3.heap.size w4.heap.size Y s u b n tx) (hp : Pgs Y p1 L) => hj.commit HO.out HFS.out p1 L c1 (by have := HLL.out; have := HKM.out; omega) hp HGK.out
                  have HCB := hid fun (Y : World) (hj : Jb (fun j => K j ∨ j = wr.heap.size) D R w3.heap.size w4.heap.size Y (comT s b n tx L).2 u b n tx) (hp : Pgs Y p1 L) => (show Calls Tryz.prog 11 #[.pointer (some ⟨w4.heap.size, 0, none⟩), .slice p1 L.length c1] Y fun e w' => e = .returned (.int .i64 (comT s b n tx L).1) ∧ Jb (fun j => K j ∨ j = wr.heap.size) D R w3.heap.size w4.heap.size w' (comT s b n tx L).2 (comT u b n tx L).2 b n tx ∧ KS (fun j => K j ∨ j = wr.heap.size) Y w' from by
                    have h := hj.rcommit HO.out HFU.out p1 L c1 (by have := HLL.out; have := HKM.out; omega) (by have := HLL.out; omega) hp HGK.out
                    rw [(HSM.out.comT b n tx L).1] at h; exact h)
                  have HS1 := hid (HSM.out.comT b n tx L).2
                  have HF1 := hid (few_up (comT_few HFS.out b n tx L) (show 1100 * k + L.length + 3 ≤ 1100 * k + 50 by have := HLL.out; omega))
                  have HF2 := hid (few_up (comT_few HFU.out b n tx L) (show 1100 * k + L.length + 3 ≤ 1100 * k + 50 by have := HLL.out; omega))
                  have HP1 := hid (show (comT s b n tx L).2.pages.length = m by rw [comT_len]; exact HPL.out)
                  generalize (comT s b n tx L).2 = s1 at *
                  generalize (comT s b n tx L).1 = e7 at *
                  generalize (comT u b n tx L).2 = u1 at *
                  go_wp2_with fail
                  have y0 := (HC6.out _ HON.out).2.1
                  clear x0 x1 x2 x3 x4 x5 x6
                  have HRD := hid (HT6.out.next (Below.refl w6.heap.size w6).drew)
                  have HOD := hid (HON.out.trans (KS.of (Below.refl w6.heap.size w6).drew))
                  have y4 := (HC6.out _ HOD.out).2.1
                  go_region_held3 (fun w' => w'.cell? ⟨wr.heap.size, 1, none⟩ = some (.slice p1 L.length c1)) (first | exact y0 | exact y1 | exact y2 | exact y4 | go_keep)
                    (first
                      | (go_at_call 10; refine (HCA.out _ HRD.out (HPX.out _ HOD.out)).mono ?_; rintro e w7 ⟨rfl, hr, ho⟩; have HR7 := hid hr; have HO7 := hid (HOD.out.trans (KS.less ho HKO.out)); have y1 := (HC6.out _ HO7.out).2.1; clear hr ho)
                      | (go_at_call 11; refine (HCB.out _ HR7.out (HPX.out _ HO7.out)).mono ?_; rintro e w8 ⟨rfl, hr, ho⟩; have HR8 := hid hr; have HO8 := hid (HO7.out.trans (KS.less ho HKO.out)); have y2 := (HC6.out _ HO8.out).2.1; clear hr ho)
                      | fail)
                  go_wp2_with fail
                  go_meet
                  exact ⟨by simp, s1, u1, tx, HR8.out, HS1.out, HO8.out, HF1.out, HF2.out, HP1.out, HO.out⟩
                · have fh0 : (a0 == 0) = false := by simpa using h0
                  by_cases h1 : a0 = 1
                  · subst h1
                    have HCA := hid (HT6.out.abort HO.out HFS.out (by have := HKM.out; omega))
                    have HCB := hid fun (Y : World) (hj : Jb (fun j => K j ∨ j = wr.heap.size) D R w3.heap.size w4.heap.size Y (aboS s b tx) u b n tx) => hj.rabort HO.out HFU.out (by have := HKM.out; omega)
                    have HS1 := hid (HSM.out.abo b tx)
                    have HF1 := hid (few_up (few_abo HFS.out b tx) (show 1100 * k + 2 ≤ 1100 * k + 50 by omega))
                    have HF2 := hid (few_up (few_abo HFU.out b tx) (show 1100 * k + 2 ≤ 1100 * k + 50 by omega))
                    have HP1 := hid (show (aboS s b tx).pages.length = m by rw [abo_len]; exact HPL.out)
                    generalize aboS s b tx = s1 at *
                    generalize aboS u b tx = u1 at *
                    go_wp2_with fail
                    clear x0 x1 x2 x3 x4 x5 x6
                    refine HCA.out.mono ?_
                    rintro e w7 ⟨rfl, hr, ho⟩
                    have HR7 := hid hr
                    have HO7 := hid (HON.out.trans (KS.less ho HKO.out))
                    clear hr ho
                    go_wp2_with fail
                    refine (HCB.out _ HR7.out).mono ?_
                    rintro e w8 ⟨rfl, hr, ho⟩
                    have HR8 := hid hr
                    have HO8 := hid (HO7.out.trans (KS.less ho HKO.out))
                    clear hr ho
                    go_wp2_with fail
                    go_meet
                    exact ⟨by first | rfl | simp, s1, u1, tx, HR8.out, HS1.out, HO8.out, HF1.out, HF2.out, HP1.out, HO.out⟩
                  · have fh1 : (a0 == 1) = false := by simpa using h1
                    by_cases h2 : a0 = 2
                    · subst h2
                      by_cases htx : tx = 4294967295
                      · subst htx
                        go_wp2_with fail
                        clear x0 x1 x2 x3 x4 x5 x6
                        refine (next_last HT6.out.j).mono ?_
                        rintro e w' ⟨rfl, hw⟩
                        obtain rfl := hw.symm
                        go_wp2_with fail
                        refine (rnext_last HT6.out.i).mono ?_
                        rintro e w' ⟨rfl, hw⟩
                        obtain rfl := hw.symm
                        go_wp2_with fail
                        go_meet
                        exact ⟨by first | rfl | simp, s, u, 4294967295, HT6.out, HSM.out, HON.out, few_up HFS.out (by omega), few_up HFU.out (by omega), HPL.out, HO.out⟩
                      · have HTX := hid (show tx < 4294967295 by have := HO.out.t2; omega)
                        have HNJ := hid (show ¬ (fun j => j < w.heap.size ∨ j = wr.heap.size) w3.heap.size from fun e => by have := HWJ.out; have := HR.out.j.lt; rcases e with e | e <;> omega)
                        have HNI := hid (show ¬ (fun j => j < w.heap.size ∨ j = wr.heap.size) w4.heap.size from fun e => by have := HWJ.out; have := HIJ.out; have := HR.out.i.lt; rcases e with e | e <;> omega)
                        clear htx
                        go_wp2_with fail
                        clear x0 x1 x2 x3 x4 x5 x6
                        refine (next_ok HT6.out.j HTX.out).mono ?_
                        rintro e w7 ⟨rfl, hw7⟩
                        have HI7 := hid (show RAt w7 w4.heap.size R b n tx by rw [hw7]; unfold RAt; rw [heap_setCell_other _ _ _ _ (show w4.heap.size ≠ w3.heap.size by have := HIJ.out; omega)]; exact HT6.out.i)
                        have HW7 := hid hw7
                        clear hw7
                        go_wp2_with fail
                        refine (rnext_ok HI7.out HTX.out).mono ?_
                        rintro e w8 ⟨rfl, hw8⟩
                        have HR8 := hid (show Jb (fun j => K j ∨ j = wr.heap.size) D R w3.heap.size w4.heap.size w8 s u b n (tx + 1) by rw [hw8, HW7.out]; exact HT6.out.turn (by have := HIJ.out; omega) (by have := HWJ.out; omega) (by have := HWJ.out; have := HIJ.out; omega) (tx + 1))
                        have HO8 := hid (show KS (fun j => j < w.heap.size ∨ j = wr.heap.size) V w8 by rw [hw8, HW7.out]; exact ks_set (ks_set HON.out _ _ _ HNJ.out) _ _ _ HNI.out)
                        have HO9 := hid (show JOk b n (tx + 1) from ⟨HO.out.n2, HO.out.n9, HO.out.bn, by omega, by have := HTX.out; omega⟩)
                        clear hw8
                        go_wp2_with fail
                        go_meet
                        exact ⟨by first | rfl | simp, s, u, tx + 1, HR8.out, HSM.out, HO8.out, few_up HFS.out (by omega), few_up HFU.out (by omega), HPL.out, HO9.out⟩
                    · have fh2 : (a0 == 2) = false := by simpa using h2
                      by_cases h3 : a0 = 3
                      · subst h3
                        have HCA := hid fun (Y : World) (hj : Jb (fun j => K j ∨ j = wr.heap.size) D R w3.heap.size w4.heap.size Y s u b n tx) => hj.write HFS.out (by have := HKM.out; omega) a2 t3
                        have HCB := hid fun (Y : World) (hj : Jb (fun j => K j ∨ j = wr.heap.size) D R w3.heap.size w4.heap.size Y (wrU s a2 t3).2 u b n tx) => (show Calls Tryz.prog 17 #[.pointer (some ⟨R, 0, none⟩), .int .i64 a2, .string t3] Y fun e w' => e = .returned (.int .i64 (wrU s a2 t3).1) ∧ Jb (fun j => K j ∨ j = wr.heap.size) D R w3.heap.size w4.heap.size w' (wrU s a2 t3).2 (wrU u a2 t3).2 b n tx ∧ KS (fun j => K j ∨ j = wr.heap.size) Y w' from by
                          have h := hj.rwrite HFU.out (by have := HKM.out; omega) a2 t3
                          rw [(HSM.out.wr a2 t3).1] at h; exact h)
                        have HS1 := hid (HSM.out.wr a2 t3).2
                        have HF1 := hid (few_up (few_wr HFS.out a2 t3) (show 1100 * k + 1 ≤ 1100 * k + 50 by omega))
                        have HF2 := hid (few_up (few_wr HFU.out a2 t3) (show 1100 * k + 1 ≤ 1100 * k + 50 by omega))
                        have HP1 := hid (show (wrU s a2 t3).2.pages.length = m by rw [wr_len]; exact HPL.out)
                        generalize (wrU s a2 t3).2 = s1 at *
                        generalize (wrU s a2 t3).1 = e7 at *
                        generalize (wrU u a2 t3).2 = u1 at *
                        go_wp2_with fail
                        have y0 := (fun t => And.intro t.2.2.1 t.2.2.2.1) (HC6.out _ HON.out)
                        clear x0 x1 x2 x3 x4 x5 x6
                        have HRD := hid (HT6.out.next (Below.refl w6.heap.size w6).drew)
                        have HOD := hid (HON.out.trans (KS.of (Below.refl w6.heap.size w6).drew))
                        have y4 := (fun t => And.intro t.2.2.1 t.2.2.2.1) (HC6.out _ HOD.out)
                        go_region_held3 (fun w' => w'.cell? ⟨wr.heap.size, 2, none⟩ = some (.int .i64 a2) ∧ w'.cell? ⟨wr.heap.size, 3, none⟩ = some (.string t3)) (first | exact y0 | exact y1 | exact y2 | exact y4 | go_keep)
                          (first
                            | (go_at_call 16; refine (HCA.out _ HRD.out).mono ?_; rintro e w7 ⟨rfl, hr, ho⟩; have HR7 := hid hr; have HO7 := hid (HOD.out.trans (KS.less ho HKO.out)); have y1 := (fun t => And.intro t.2.2.1 t.2.2.2.1) (HC6.out _ HO7.out); clear hr ho)
                            | (go_at_call 17; refine (HCB.out _ HR7.out).mono ?_; rintro e w8 ⟨rfl, hr, ho⟩; have HR8 := hid hr; have HO8 := hid (HO7.out.trans (KS.less ho HKO.out)); have y2 := (fun t => And.intro t.2.2.1 t.2.2.2.1) (HC6.out _ HO8.out); clear hr ho)
                            | fail)
                        go_wp2_with fail
                        go_meet
                        exact ⟨by first | rfl | simp, s1, u1, tx, HR8.out, HS1.out, HO8.out, HF1.out, HF2.out, HP1.out, HO.out⟩
                      · have fh3 : (a0 == 3) = false := by simpa using h3
                        have HCA := hid fun (Y : World) (hj : Jb (fun j => K j ∨ j = wr.heap.size) D R w3.heap.size w4.heap.size Y s u b n tx) (hq : Dk.Kept Y p4 l4) => hj.crash p4 c4 l4 hq HL4.out a5 a6
                        have HCB := hid fun (Y : World) (hj : Jb (fun j => K j ∨ j = wr.heap.size) D R w3.heap.size w4.heap.size Y (crU s l4 a5 a6).2 u b n tx) (hq : Dk.Kept Y p4 l4) => (show Calls Tryz.prog 19 #[.pointer (some ⟨R, 0, none⟩), .slice p4 l4.length c4, .int .i64 a5, .int .i64 a6] Y fun e w' => e = .returned (.int .i64 (crU s l4 a5 a6).1) ∧ Jb (fun j => K j ∨ j = wr.heap.size) D R w3.heap.size w4.heap.size w' (crU s l4 a5 a6).2 (crU u l4 a5 a6).2 b n tx ∧ KS (fun j => K j ∨ j = wr.heap.size) Y w' from by
                          have h := hj.rcrash p4 c4 l4 hq HQK.out HF.out.2 HL4.out a5 a6
                          rw [(HSM.out.cr l4 a5 a6).1] at h; exact h)
                        have HS1 := hid (HSM.out.cr l4 a5 a6).2
                        have HF1 := hid (few_up (few_cr HFS.out l4 a5 a6) (show 1100 * k + 1 ≤ 1100 * k + 50 by omega))
                        have HF2 := hid (few_up (few_cr HFU.out l4 a5 a6) (show 1100 * k + 1 ≤ 1100 * k + 50 by omega))
                        have HP1 := hid (show (crU s l4 a5 a6).2.pages.length = m by rw [cr_len]; exact HPL.out)
                        generalize (crU s l4 a5 a6).2 = s1 at *
                        generalize (crU s l4 a5 a6).1 = e7 at *
                        generalize (crU u l4 a5 a6).2 = u1 at *
                        go_wp2_with fail
                        have y0 := (fun t => And.intro t.2.2.2.2.1 (And.intro t.2.2.2.2.2.1 t.2.2.2.2.2.2)) (HC6.out _ HON.out)
                        clear x0 x1 x2 x3 x4 x5 x6
                        have HRD := hid (HT6.out.next (Below.refl w6.heap.size w6).drew)
                        have HOD := hid (HON.out.trans (KS.of (Below.refl w6.heap.size w6).drew))
                        have y4 := (fun t => And.intro t.2.2.2.2.1 (And.intro t.2.2.2.2.2.1 t.2.2.2.2.2.2)) (HC6.out _ HOD.out)
                        go_region_held3 (fun w' => w'.cell? ⟨wr.heap.size, 4, none⟩ = some (.slice p4 l4.length c4) ∧ w'.cell? ⟨wr.heap.size, 5, none⟩ = some (.int .i64 a5) ∧ w'.cell? ⟨wr.heap.size, 6, none⟩ = some (.int .i64 a6)) (first | exact y0 | exact y1 | exact y2 | exact y4 | go_keep)
                          (first
                            | (go_at_call 18; refine (HCA.out _ HRD.out (HKP.out _ HOD.out)).mono ?_; rintro e w7 ⟨rfl, hr, ho⟩; have HR7 := hid hr; have HO7 := hid (HOD.out.trans (KS.less ho HKO.out)); have y1 := (fun t => And.intro t.2.2.2.2.1 (And.intro t.2.2.2.2.2.1 t.2.2.2.2.2.2)) (HC6.out _ HO7.out); clear hr ho)
                            | (go_at_call 19; refine (HCB.out _ HR7.out (HKP.out _ HO7.out)).mono ?_; rintro e w8 ⟨rfl, hr, ho⟩; have HR8 := hid hr; have HO8 := hid (HO7.out.trans (KS.less ho HKO.out)); have y2 := (fun t => And.intro t.2.2.2.2.1 (And.intro t.2.2.2.2.2.1 t.2.2.2.2.2.2)) (HC6.out _ HO8.out); clear hr ho)
                            | fail)
                        go_wp2_with fail
                        go_meet
                        exact ⟨by first | rfl | simp, s1, u1, tx, HR8.out, HS1.out, HO8.out, HF1.out, HF2.out, HP1.out, HO.out⟩
              case rest =>
                obtain ⟨rfl, s1, u1, tx1, hr, hsm1, ho, hf1, hf2, hpl1, hok1⟩ := hcut
                have HR6 := hid hr; have HS6 := hid hsm1; have HO6 := hid ho; have HF6 := hid hf1; have HG6 := hid hf2; have HL6 := hid hpl1; have HK6 := hid hok1
                have HU6 := hid (show u1.pages.length = m by rw [hsm1.pages]; exact hpl1)
                clear hr hsm1 ho hf1 hf2 hpl1 hok1 x0 x1 x2 x3 x4 x5 x6 HT6 HON HPX HKP HQK HGK HLL HL4 HF HPG
                go_wp2_with fail
                refine (HR6.out.scan HK6.out (by rw [HL6.out]; exact HBM.out) HF6.out (by have := HKM.out; omega)).mono ?_
                rintro e w7 ⟨r, s2, K2, hsc, hse, hk2, hj, hks, hss, hff⟩
                obtain ⟨pa, ca, rfl, hpa, hpk⟩ := hse.one
                have HSC := hid hsc; have HPA := hid hpa; have HPK := hid hpk; have HK2 := hid hk2; have HR7 := hid hj; have HS7 := hid hss; have HF7 := hid hff
                have HO7 := hid (HO6.out.trans (KS.less hks HKO.out))
                have HLR := hid (show (r.getD []).length ≤ n by
                  cases r with
                  | none => exact Nat.zero_le _
                  | some L => exact hsc.few L rfl (Nat.zero_le _))
                clear hsc hse hpa hpk hk2 hj hks hss hff HR6
                go_wp2_with fail
                refine (HR7.out.rscan HK6.out (by rw [HU6.out]; exact HBM.out) HG6.out (by have := HKM.out; omega)).mono ?_
                rintro e w8 ⟨r', u2, K3, hsc, hse, hk3, hj, hks, hss, hff⟩
                have her : r' = r := by
                  rw [HS6.out.vw] at hsc
                  exact hsc.det HSC.out
                subst her
                obtain ⟨pb, cb, rfl, hpb, -⟩ := hse.one
                have HPB := hid hpb; have HR8 := hid hj; have HF8 := hid hff
                have HK3 := hid fun j e => hk3 j (HK2.out j e)
                have HPA8 := hid (pgs_ks2 HPA.out hks HPK.out)
                have HO8 := hid (HO7.out.trans (KS.less hks fun j e => HK2.out j (HKO.out j e)))
                have HS8 := hid (HS6.out.sq HS7.out hss)
                have HPE := hid (show u2.pages = s2.pages from HS8.out.pages)
                have HL8 := hid (show s2.pages.length = m by rw [HS7.out.pages]; exact HL6.out)
                clear hsc hse hpb hk3 hj hks hss hff HR7 HO7 HO6 HSC HPA HPK
                generalize r'.getD [] = LL at *
                generalize r'.isSome = is at *
                obtain ⟨PP, cP, hsh⟩ := HR8.out.bd.shows
                rw [HPE.out] at hsh
                have HSH := hid hsh
                obtain ⟨r9, hr9⟩ : ∃ r9, n = r9 + 1 := ⟨n - 1, by have := HK6.out.n2; omega⟩
                have HN9 := hid hr9
                have HW9 := hid (show wrap64 ((n : Int) - 1) = (r9 : Int) by have := HK6.out.n9; unfold wrap64; omega)
                have hw9 := HW9.out
                have hz2 : IntKind.i64.wrap ((n : Int) - 1) = (r9 : Int) := by rw [IntKind.wrap_i64]; have := HK6.out.n9; omega
                have hz3 : IntKind.i64.wrap (r9 : Int) = (r9 : Int) := by rw [IntKind.wrap_i64]; have := HK6.out.n9; omega
                have HC8 := hid fun (X : World) (hX : Below w8.heap.size w8 X) => And.intro (hsh X hX).1 (And.intro (HR8.out.i.below hX).cells.2.2.1 (HR8.out.i.below hX).cells.2.2.2)
                have q0 := HC8.out _ (Below.refl _ _)
                have HRD := hid (HR8.out.next (Below.refl _ _).drew)
                have HPD := hid (And.intro (HPA8.out.below (Below.refl _ _).drew) (HPB.out.below (Below.refl _ _).drew))
                have HPL2 := hid (show s2.pages.length ≤ 1000000 by rw [HL8.out]; have := H30.out; omega)
                have HLL2 := hid (show LL.length ≤ 1000000 by have := HLR.out; have := HK6.out.n9; omega)
                clear hsh hr9
                go_wp2_with fail
                go_region_held3 (fun w' => w'.cell? ⟨R, 0, none⟩ = some (.slice (some ⟨PP, 0, none⟩) s2.pages.length cP) ∧ w'.cell? ⟨w4.heap.size, 2, none⟩ = some (.int .i64 (n : Int)) ∧ w'.cell? ⟨w4.heap.size, 3, none⟩ = some (.int .i64 (tx1 : Int))) (first | exact q0 | exact q1 | exact q2 | exact q3 | go_keep)
                  (first
                    | (go_at_call 22; refine (pages_two LL pa pb ca cb _ HPD.out.1 HPD.out.2 HLL2.out).mono ?_; rintro e wA ⟨rfl, hb⟩; have HA := hid (show Below w8.heap.size w8 wA from (Below.refl _ w8).drew.trans hb); have HAT := hid (HRD.out.next hb); have q1 := HC8.out _ HA.out; clear hb)
                    | (go_at_call 23; refine (tx_ok HAT.out.j).mono ?_; rintro e wB ⟨rfl, hw⟩; obtain rfl := hw.symm)
                    | (go_at_call 24; refine (room_ok HAT.out.j r9 HN9.out HK6.out.n9).mono ?_; rintro e wC ⟨rfl, hw⟩; obtain rfl := hw.symm)
                    | (go_at_call 26; refine (HAT.out.bd.image).mono ?_; rintro e wD ⟨gA, cA, rfl, hc, hb⟩; have HD5 := hid (HA.out.trans (hb.mono HA.out.size)); have HAC := hid hc; have HDT := hid (HAT.out.next hb); have q2 := HC8.out _ HD5.out; clear hb hc)
                    | (go_at_call 25; refine (texts_two s2.pages (some ⟨gA, 0, none⟩) (some ⟨PP, 0, none⟩) cA cP _ HAC.out (HSH.out _ HD5.out).2 HPL2.out).mono ?_; rintro e wE ⟨rfl, hb⟩; have HE5 := hid (HD5.out.trans (hb.mono HD5.out.size)); have HET := hid (HDT.out.next hb); have q3 := HC8.out _ HE5.out; clear hb)
                    | fail)
                have HRE := hid HET.out
                have HOE := hid (HNX.out _ (HO8.out.trans (KS.of HE5.out)))
                clear q0 q1 q2 q3 hw9 hz2 hz3 HRD HPD HA HAT HD5 HAC HDT HE5 HET HSH HR8 HO8 HPA8 HPB
                go_wp2_with fail
                go_roundw
                case rel => exact ⟨k + 1, s2, u2, tx1, K3, by rw [HW.out], HKL.out.1, HKL.out.2, (fun j e => HK3.out j (.inl (HK0.out j e))), HRE.out, HS8.out, few_up HF7.out (by have := HK6.out.n9; omega), few_up HF8.out (by have := HK6.out.n9; omega), HL8.out, HOE.out, HK6.out⟩
                case measure => have := HKL.out.2; rw [HW.out]; simp [intOf]; omega
            · have f4 : decide ((60 : Int) < (l4.length : Int)) = true := decide_eq_true (by omega)
              have f4' : decide (60 < l4.length) = true := decide_eq_true (by omega)
              clear h4 ht3
              go_wp2_with fail
              refine (HFW.out _ (KS.refl _ V)).mono ?_
              rintro e w6 ⟨rfl, hb⟩
              have HON := hid (KS.of (K := (fun j => j < w.heap.size ∨ j = wr.heap.size)) hb)
              clear hb x0 x1 x2 x3 x4 x5 x6
              obtain ⟨x0, x1, x2, x3, x4, x5, x6⟩ := HC6.out _ HON.out
              have H6 := hid (HNX.out _ HON.out)
              go_wp2_with fail
              refine (live_any _ (HL.out.next HP.out H6.out)).mono ?_
              rintro e w99 ⟨rfl, hb⟩
              have HB9 := hid (hb.mono (H6.out).size)
              have HB8 := hid ((H6.out).trans HB9.out)
              clear hb
              go_wp2_with fail
              go_ret
              exact ⟨rfl, HB8.out⟩
          · have f3 : decide ((300 : Int) < (t3.size : Int)) = true := by simp; omega
            have f3' : decide (300 < t3.size) = true := by simp; omega
            clear ht3
            go_wp2_with fail
            refine (HFW.out _ (KS.refl _ V)).mono ?_
            rintro e w6 ⟨rfl, hb⟩
            have HON := hid (KS.of (K := (fun j => j < w.heap.size ∨ j = wr.heap.size)) hb)
            clear hb x0 x1 x2 x3 x4 x5 x6
            obtain ⟨x0, x1, x2, x3, x4, x5, x6⟩ := HC6.out _ HON.out
            have H6 := hid (HNX.out _ HON.out)
            go_wp2_with fail
            refine (live_any _ (HL.out.next HP.out H6.out)).mono ?_
            rintro e w99 ⟨rfl, hb⟩
            have HB9 := hid (hb.mono (H6.out).size)
            have HB8 := hid ((H6.out).trans HB9.out)
            clear hb
            go_wp2_with fail
            go_ret
            exact ⟨rfl, HB8.out⟩
        · have HFW := hid fun (X : World) (hX : KS (fun j => j < w.heap.size ∨ j = wr.heap.size) V X) => few_any L p1 c1 X (HPG.out.below (HNX.out X hX)) false ⟨(fun h => by cases h), (fun h => absurd h hfp)⟩
          obtain ⟨x0, x1, x2, x3, x4, x5, x6⟩ := HC6.out _ (KS.refl _ V)
          clear hfp
          go_wp2_with fail
          refine (HFW.out _ (KS.refl _ V)).mono ?_
          rintro e w6 ⟨rfl, hb⟩
          have H6 := hid (HNX.out _ (KS.of hb))
          clear hb
          go_wp2_with fail
          refine (live_any _ (HL.out.next HP.out H6.out)).mono ?_
          rintro e w99 ⟨rfl, hb⟩
          have HB9 := hid (hb.mono (H6.out).size)
          have HB8 := hid ((H6.out).trans HB9.out)
          clear hb
          go_wp2_with fail
          go_ret
          exact ⟨rfl, HB8.out⟩
      · have e2 : decide ((k : Int) < 20) = false := by simp; omega
        have e2' : decide (k < 20) = false := by simp; omega
        clear hlt h6 hk hk6
        go_wp2_with fail
        refine (live_any _ (HL.out.next HP.out HBW.out)).mono ?_
        rintro e w99 ⟨rfl, hb⟩
        have HB9 := hid (hb.mono (HBW.out).size)
        have HB8 := hid ((HBW.out).trans HB9.out)
        clear hb
        go_wp2_with fail
        go_ret
        exact ⟨rfl, HB8.out⟩
    · have e1 : decide ((k : Int) < (len : Int)) = false := by simp; omega
      have e1' : decide (k < len) = false := by simp; omega
      clear hlt hk hk6
      go_wp2_with fail
      refine (live_any _ (HL.out.next HP.out HBW.out)).mono ?_
      rintro e w99 ⟨rfl, hb⟩
      have HB9 := hid (hb.mono (HBW.out).size)
      have HB8 := hid ((HBW.out).trans HB9.out)
      clear hb
      go_wp2_with fail
      go_ret
      exact ⟨rfl, HB8.out⟩
end Go.Proofs.YtaonifdfhlbaiaaGreatDoor.Jn
