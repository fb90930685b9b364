/- Split of the reference. -/
import Derived.Test.YtkjcbfdplhcjpaaPtMerge
namespace Go.Proofs.Ytkjcbfdplhcjpaa.Pt
open Go.RowKit
open Go.Lib (hid)
open Go.Proofs.Ytkjcbfdplhcjpaa.Ky
open Go.Proofs.Ytkjcbfdplhcjpaa.Bk

/-- two lists that grow beside each other, their points elsewhere -/
structure Out3 (N : Nat) (w : World) (v1 v2 : Value) (M1 M2 : List Rec) (xs1 xs2 : List Value) : Prop where
  o1 : w.ownsRow N 33 2 v1 M1.length xs1
  o2 : w.ownsRow N 33 2 v2 M2.length xs2
  r1 : RC (fun b => v1.ownBlock = some b ∨ v2.ownBlock = some b) w xs1 M1
  r2 : RC (fun b => v1.ownBlock = some b ∨ v2.ownBlock = some b) w xs2 M2
  ap : ∀ b, v1.ownBlock = some b → v2.ownBlock = some b → False
theorem Out3.symm {N : Nat} {w : World} {v1 v2 : Value} {M1 M2 : List Rec} {xs1 xs2 : List Value} (h : Out3 N w v1 v2 M1 M2 xs1 xs2) : Out3 N w v2 v1 M2 M1 xs2 xs1 := by
  have e : (fun b => v2.ownBlock = some b ∨ v1.ownBlock = some b) = fun b => v1.ownBlock = some b ∨ v2.ownBlock = some b := by
    funext b
    exact propext ⟨fun h => h.symm, fun h => h.symm⟩
  exact ⟨h.o2, h.o1, by rw [e]; exact h.r2, by rw [e]; exact h.r1, fun b h1 h2 => h.ap b h2 h1⟩
theorem Out3.push {N : Nat} {wr w3 w' : World} {v1 v2 v' : Value} {M1 M2 : List Rec} {xs1 xs2 : List Value} {q : Option Addr} {k : List Nat} {c : Nat} {t : ByteArray} (h : Out3 N wr v1 v2 M1 M2 xs1 xs2) (hb : Below wr.heap.size wr w3)
    (hq : PtD (fun b => N ≤ b) w3 q k) (ho : Owns w3 N 33 2 v1 (M1.length + 1) (xs1 ++ [.slice q k.length c, .string t]) v' w') : Out3 N w' v' v2 (M1 ++ [(k, t)]) M2 (xs1 ++ [.slice q k.length c, .string t]) xs2 := by
  obtain ⟨h1, h2, h3⟩ := ho
  have hv2 : ∀ b, v2.ownBlock = some b → b < wr.heap.size := fun b hb => (h.o2.lt b hb).2
  have hv3 : ∀ b, b < w3.heap.size → v'.ownBlock = some b → v1.ownBlock = some b := fun b hlt hb => by
    rcases h3 with e | e
    · rw [← e]; exact hb
    · rw [hb] at e; injection e with e; omega
  have hk : Keep (fun b => v1.ownBlock = some b) w3 w' := ⟨h2.size, fun b hlt hD => h2.block b hlt (fun e => hD e.symm)⟩
  have hd : ∀ b, b < w3.heap.size → (v'.ownBlock = some b ∨ v2.ownBlock = some b) → (v1.ownBlock = some b ∨ v2.ownBlock = some b) := fun b hlt hD => hD.elim (fun e => .inl (hv3 b hlt e)) .inr
  refine ⟨by rw [List.length_append]; exact h1, own_keep (own_below h.o2 hb) hk (fun b e1 e2 => h.ap b e2 e1), RC.app ((h.r1.below hb).grown (keep_wide hk fun b e => .inl e) hd) (RC.one (hq.grown (keep_wide hk fun b e => (h.o1.lt b e).1) (fun b hlt hD => ?_))), (h.r2.below hb).grown (keep_wide hk fun b e => .inl e) hd, fun b e1 e2 => h.ap b (hv3 b (Nat.lt_of_lt_of_le (hv2 b e2) hb.size) e1) e2⟩
  rcases hd b hlt hD with hD | hD
  · exact (h.o1.lt b hD).1
  · exact (h.o2.lt b hD).1
def SR3 (w : World) (L : List Rec) (a bd : Nat) (v1 v2 i : Value) (wr : World) : Prop :=
  ∃ (k : Nat) (xs1 xs2 : List Value), k ≤ L.length ∧ i = .int .i64 (k : Int) ∧ Out3 w.heap.size wr v1 v2 (lowR a bd (L.take k)) (othR a bd (L.take k)) xs1 xs2 ∧ (∀ r ∈ L.take k, a < r.1.length) ∧ Below w.heap.size w wr
theorem big_low (a bd : Nat) {L : List Rec} (h : bigR L) : bigR (lowR a bd L) := ⟨Nat.le_trans (low_len a bd L) h.1, fun r hr => h.2 r (List.mem_filter.1 hr).1⟩
theorem big_oth (a bd : Nat) {L : List Rec} (h : bigR L) : bigR (othR a bd L) := ⟨Nat.le_trans (oth_len a bd L) h.1, fun r hr => h.2 r (List.mem_filter.1 hr).1⟩
set_option maxRecDepth 100000 in
set_option maxHeartbeats 2000000 in
theorem refSplit_bad {D : Nat → Prop} (L : List Rec) (p : Option Addr) (c : Nat) (a : Int) (bd : Nat) (w : World) (hp : Rs D w p L) (hl : bigR L) (ha : a < 0) (hn : L ≠ []) :
    Calls Try.prog 52 #[.slice p L.length c, .int .i64 a, .int .u32 (bd : Int)] w (SplPost w (splitR L a bd)) := by
  cases L with
  | nil => exact absurd rfl hn
  | cons r L =>
    have HR : Hid (splitR (r :: L) a bd = ([], [], 1)) := hid (by unfold splitR hasAt; rw [if_neg (by simp; omega)])
    obtain ⟨n, hn2⟩ : ∃ n, (r :: L).length = n := ⟨_, rfl⟩
    have h0 : 0 < n := by rw [← hn2]; simp
    have hlen := hl.1
    rw [hn2] at hlen ⊢
    have e1 : decide (a < 0) = true := by simpa using ha
    clear hp hl ha hn hn2
    go_enter Try.func52, Try.ntmps52
    go_wp2_with fail
    go_loopw [9, 10, 11] (fun v1 v2 i wr => v1 = .slice none 0 0 ∧ v2 = .slice none 0 0 ∧ i = .int .i64 0 ∧ wr = w) (fun _ _ _ _ => 0)
    case atStart => exact ⟨rfl, rfl, rfl, rfl⟩
    case round =>
      obtain ⟨rfl, rfl, rfl, rfl⟩ := hrel
      go_wp2_with fail
      refine bodyPost_ret (v := .tuple #[.slice none 0 0, .slice none 0 0, .int .i64 1]) (by simp [results, Try.results52, go_sem]) rfl ?_
      rw [HR.out]
      exact spl_none (Below.refl _ _)
set_option maxRecDepth 100000 in
set_option maxHeartbeats 4000000 in
theorem refSplit_go {D : Nat → Prop} (L : List Rec) (p : Option Addr) (c a bd : Nat) (A : Int) (w : World) (hp : Rs D w p L) (hl : bigR L) (hA : L = [] ∨ A = (a : Int)) :
    Calls Try.prog 52 #[.slice p L.length c, .int .i64 A, .int .u32 (bd : Int)] w (SplPost w (splitR L A bd)) := by
  have HP := hid hp; have HL := hid hl; have hlen := hl.1
  have HNE := hid fun (r : Rec) (hr : r ∈ L) => (show A = (a : Int) from hA.elim (fun h => absurd hr (by rw [h]; simp)) id)
  have HNO := hid fun (r : Rec) (hr : r ∈ L) (h : ¬ a < r.1.length) => (show splitR L A bd = ([], [], 1) by
    unfold splitR hasAt
    rw [if_neg]
    intro e
    have := List.all_eq_true.1 e r hr
    rw [HNE.out r hr] at this
    simp at this
    omega)
  have HYES := hid fun (h : ∀ r ∈ L, a < r.1.length) => (show splitR L A bd = (lowR a bd L, othR a bd L, 0) by
    unfold splitR hasAt
    rw [if_pos (List.all_eq_true.2 fun r hr => by have := h r hr; rw [HNE.out r hr]; simp; omega)]
    rcases hA with rfl | rfl <;> rfl)
  have HB1 := hid (big_low a bd hl); have HB2 := hid (big_oth a bd hl)
  clear hp hl hA
  go_enter Try.func52, Try.ntmps52
  go_wp2_with fail
  go_loopw [9, 10, 11] (fun v1 v2 i wr => SR3 w L a bd v1 v2 i wr) (fun _ _ i _ => L.length - (intOf i).toNat)
  case atStart => exact ⟨0, [], [], by omega, rfl, ⟨World.ownsRow_nil _ _ _ _, World.ownsRow_nil _ _ _ _, RC.nil, RC.nil, fun b e => by cases e⟩, fun r hr => by simp at hr, Below.refl _ _⟩
  case round =>
    obtain ⟨k, xs1, xs2, hk, rfl, ho, hr, hb⟩ := hrel
    have HO := hid ho; have HB := hid hb; have HR := hid hr; clear ho hb hr
    by_cases hlt : k < L.length
    · obtain rfl := HNE.out L[k] (List.getElem_mem hlt)
      obtain ⟨b, off, q, c1, rfl, hbl, d1, d2, hq⟩ := ((HP.out.less (D' := fun b => w.heap.size ≤ b) fun b hb h => absurd hb (by omega)).below HB.out).at k hlt
      have HN := hid (HNO.out L[k] (List.getElem_mem hlt))
      have HLW := hid (low_snoc a bd L k hlt)
      have HOW := hid (oth_snoc a bd L k hlt)
      have HR2 := hid fun (h : a < L[k].1.length) => (show ∀ r ∈ L.take (k + 1), a < r.1.length from fun r hr => by
        rw [List.take_succ_eq_append_getElem hlt] at hr
        rcases List.mem_append.1 hr with h1 | h1
        · exact HR.out r h1
        · simp at h1; subst h1; exact h)
      generalize L[k] = rk at *
      obtain ⟨x, t⟩ := rk
      have hq' : PtD (fun b => w.heap.size ≤ b) wr q x := hq
      have e0 : decide ((a : Int) < 0) = false := by simp
      by_cases hx : a < x.length
      · have hax : x.getD a 0 = x[a] := by rw [List.getD_eq_getElem?_getD, List.getElem?_eq_getElem hx]; rfl
        obtain ⟨b2, off2, rfl, hb2, e2⟩ := hq'.pt.cells a hx
        have e6 : decide ((x.length : Int) ≤ (a : Int)) = false := by simp; omega
        have e7 : decide (x.length ≤ a) = false := by simp; omega
        have HLX := hid (low_len a bd (L.take k)); have HOX := hid (oth_len a bd (L.take k)); have HTK := hid (List.length_take_le k L)
        have HN2 := hid (HR2.out hx)
        have q1 : (a : Int) < (x.length : Int) := by omega
        rw [hax] at HLW HOW
        obtain ⟨y, hy⟩ : ∃ y, x[a] = y := ⟨_, rfl⟩
        rw [hy] at e2 HLW HOW
        have HB4 := hid (below_alloc wr (.cells #[.slice (some ⟨b2, off2, none⟩) x.length c1, .string t] 33))
        have HPT := hid (hq'.keep (.below HB4.out))
        clear hq hq' hax hb2 hbl HR2 HN hy
        by_cases hyb : y < bd
        · rw [if_pos hyb] at HLW HOW
          have e4 : decide ((y : Int) < (bd : Int)) = true := by simp; omega
          have e5 : decide (y < bd) = true := by simp; omega
          clear hyb
          have HA := hid (rec_own (w := wr.alloc (.cells #[.slice (some ⟨b2, off2, none⟩) x.length c1, .string t] 33)) 40 u9 (lowR a bd (L.take k)).length xs1 (own_below HO.out.o1 HB4.out) (some ⟨wr.heap.size, 0, none⟩) 1 1 [.slice (some ⟨b2, off2, none⟩) x.length c1, .string t] (read_new wr _ _ _) rfl (one_two _ _ rfl rfl) (by have := HLX.out; have := HTK.out; omega) (Nat.le_trans HB.out.size HB4.out.size))
          go_wp2_with (at_builtin; refine wpList_app rfl _ _ _ rfl rfl rfl HA.out ?_)
          intro v' w4 hF
          have HO4 := hid (HO.out.push HB4.out HPT.out hF)
          have HB5 := hid (show Below w.heap.size w w4 from (HB.out.trans (HB4.out.mono HB.out.size)).grown hF.2.1 (Nat.le_trans HB.out.size HB4.out.size) (fun j hj => (HO.out.o1.lt j hj).1))
          clear hF
          go_wp2_with fail
          go_roundw
          case rel => exact ⟨k + 1, _, _, by omega, by go_num, by rw [HLW.out, HOW.out, List.append_nil]; exact HO4.out, HN2.out, HB5.out⟩
          case measure => simp [intOf]; omega
        · rw [if_neg hyb] at HLW HOW
          have e4 : decide ((y : Int) < (bd : Int)) = false := by simp; omega
          have e5 : decide (y < bd) = false := by simp; omega
          clear hyb
          have HA := hid (rec_own (w := wr.alloc (.cells #[.slice (some ⟨b2, off2, none⟩) x.length c1, .string t] 33)) 40 u10 (othR a bd (L.take k)).length xs2 (own_below HO.out.o2 HB4.out) (some ⟨wr.heap.size, 0, none⟩) 1 1 [.slice (some ⟨b2, off2, none⟩) x.length c1, .string t] (read_new wr _ _ _) rfl (one_two _ _ rfl rfl) (by have := HOX.out; have := HTK.out; omega) (Nat.le_trans HB.out.size HB4.out.size))
          go_wp2_with (at_builtin; refine wpList_app rfl _ _ _ rfl rfl rfl HA.out ?_)
          intro v' w4 hF
          have HO4 := hid (HO.out.symm.push HB4.out HPT.out hF).symm
          have HB5 := hid (show Below w.heap.size w w4 from (HB.out.trans (HB4.out.mono HB.out.size)).grown hF.2.1 (Nat.le_trans HB.out.size HB4.out.size) (fun j hj => (HO.out.o2.lt j hj).1))
          clear hF
          go_wp2_with fail
          go_roundw
          case rel => exact ⟨k + 1, _, _, by omega, by go_num, by rw [HLW.out, HOW.out, List.append_nil]; exact HO4.out, HN2.out, HB5.out⟩
          case measure => simp [intOf]; omega
      · have HXX := hid (HN.out hx)
        have e6 : decide ((x.length : Int) ≤ (a : Int)) = true := by simp; omega
        have e7 : decide (x.length ≤ a) = true := by simp; omega
        clear hq hq' hx HLW HOW HR2 HN
        go_wp2_with fail
        refine bodyPost_ret (v := .tuple #[.slice none 0 0, .slice none 0 0, .int .i64 1]) (by simp [results, Try.results52, go_sem]) rfl ?_
        rw [HXX.out]
        exact spl_none HB.out
    · obtain rfl : k = L.length := by omega
      have ho := HO.out
      have hr := HR.out
      rw [List.take_length] at ho hr
      have HXX := hid (HYES.out hr)
      obtain ⟨p1, c1, hv1, hr1⟩ := Rs.of_row ho.o1 (ho.r1.less (D' := fun _ => False) fun b _ hb => hb.elim) (fun j _ => id)
      obtain ⟨p2, c2, hv2, hr2⟩ := Rs.of_row ho.o2 (ho.r2.less (D' := fun _ => False) fun b _ hb => hb.elim) (fun j _ => id)
      subst hv1
      subst hv2
      have H1 := hid (copies_ok (lowR a bd L) p1 c1 wr hr1 HB1.out)
      have H2 := hid fun (V : World) (hb : Below wr.heap.size wr V) => copies_ok (othR a bd L) p2 c2 V (hr2.below hb) HB2.out
      clear ho hr hr1 hr2 HO HR
      go_wp2_with fail
      refine H1.out.mono ?_
      rintro e w5 ⟨p5, c5, rfl, z1, z2, h5, hb5⟩
      have HC5 := hid (And.intro z1 z2)
      have H5 := hid h5; have HB5 := hid hb5
      clear z1 z2 h5 hb5
      go_wp2_with fail
      refine (H2.out _ HB5.out).mono ?_
      rintro e w6 ⟨p6, c6, rfl, z1, z2, h6, hb6⟩
      have HC6 := hid (And.intro z1 z2)
      have H6 := hid (h6.less (D' := Lt w.heap.size) fun b _ hb => Nat.lt_of_lt_of_le hb (Nat.le_trans HB.out.size HB5.out.size))
      have H7 := hid ((H5.out.below hb6).less (D' := Lt w.heap.size) fun b _ hb => Nat.lt_of_lt_of_le hb HB.out.size)
      have HB6 := hid (HB.out.trans ((HB5.out.trans (hb6.mono HB5.out.size)).mono HB.out.size))
      clear z1 z2 h6 hb6
      go_wp2_with fail
      refine bodyPost_ret (v := .tuple #[.slice p5 (lowR a bd L).length c5, .slice p6 (othR a bd L).length c6, .int .i64 0]) (by simp [results, Try.results52, go_sem]) rfl ?_
      rw [HXX.out]
      exact ⟨p5, c5, p6, c6, rfl, ⟨HC5.out.1, HC5.out.2, HC6.out.1, HC6.out.2⟩, H7.out, H6.out, HB6.out⟩
theorem refSplit_ok {D : Nat → Prop} (L : List Rec) (p : Option Addr) (c : Nat) (a : Int) (bd : Nat) (w : World) (hp : Rs D w p L) (hl : bigR L) :
    Calls Try.prog 52 #[.slice p L.length c, .int .i64 a, .int .u32 (bd : Int)] w (SplPost w (splitR L a bd)) := by
  by_cases hn : L = []
  · exact refSplit_go L p c 0 bd a w hp hl (.inl hn)
  · by_cases h : a < 0
    · exact refSplit_bad L p c a bd w hp hl h hn
    · exact refSplit_go L p c a.toNat bd a w hp hl (.inr (by omega))
end Go.Proofs.Ytkjcbfdplhcjpaa.Pt
