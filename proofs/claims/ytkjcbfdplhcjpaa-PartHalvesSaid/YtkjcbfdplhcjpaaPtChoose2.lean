/- Choose: at which coordinate a box is to be halved. -/
import Derived.Test.YtkjcbfdplhcjpaaPtChoose
namespace Go.Proofs.Ytkjcbfdplhcjpaa.Pt
open Go.RowKit
open Go.Lib (hid)
open Go.Proofs.Ytkjcbfdplhcjpaa.Ky
open Go.Proofs.Ytkjcbfdplhcjpaa.Bk

/-- the first one, by turns, from one on -/
def cho (q : Nat → Bool) (n f : Nat) : Option Nat := ((List.range n).find? fun i => q ((f + i) % n)).map fun i => (f + i) % n
theorem cho_none {q : Nat → Bool} {n f : Nat} (h : ∀ i, i < n → q ((f + i) % n) = false) : cho q n f = none := by
  unfold cho
  rw [List.find?_eq_none.2 fun i hi => by rw [h i (List.mem_range.1 hi)]; simp]
  rfl
theorem cho_some {q : Nat → Bool} {n f k : Nat} (hk : k < n) (h : ∀ i, i < k → q ((f + i) % n) = false) (h1 : q ((f + k) % n) = true) : cho q n f = some ((f + k) % n) := by
  unfold cho
  rw [show (List.range n).find? (fun i => q ((f + i) % n)) = some k from List.find?_range_eq_some.2 ⟨h1, List.mem_range.2 hk, fun j hj => by rw [h j hj]; rfl⟩]
  rfl
theorem cho_spec {q : Nat → Bool} {n f a : Nat} (h : cho q n f = some a) : q a = true ∧ (0 < n → a < n) := by
  unfold cho at h
  cases e : (List.range n).find? fun i => q ((f + i) % n) with
  | none => rw [e] at h; cases h
  | some i =>
    rw [e] at h
    have := List.find?_some e
    have ha : (f + i) % n = a := by simpa using h
    rw [ha] at this
    exact ⟨this, fun hn => by rw [← ha]; exact Nat.mod_lt _ hn⟩
def chooseN (lo hi : List Nat) (L : List Rec) (f : Nat) : Nat × Bool :=
  match cho (fun a => pick1 lo hi L (a : Int)) lo.length f with
  | some a => (a, true)
  | none => match cho (fun a => halfB lo hi (a : Int)) lo.length f with
    | some a => (a, true)
    | none => (0, false)
def chooseR (lo hi : List Nat) (L : List Rec) (a : Int) : Nat × Bool := if 0 ≤ a ∧ a < (lo.length : Int) then chooseN lo hi L a.toNat else (0, false)
def ChoPost (w : World) (r : Nat × Bool) (e : Ending) (w' : World) : Prop := e = .returned (.tuple #[.int .i64 (r.1 : Int), .bool r.2]) ∧ Below w.heap.size w w'
set_option maxRecDepth 100000 in
set_option maxHeartbeats 1000000 in
theorem choose_no (lo hi : List Nat) (L : List Rec) (p q s : Option Addr) (c c' c'' : Nat) (a : Int) (w : World) (h : decide (0 ≤ a ∧ a < (lo.length : Int)) = false) :
    Calls Try.prog 47 #[.agg #[.slice p lo.length c, .slice q hi.length c'], .slice s L.length c'', .int .i64 a] w (ChoPost w (chooseR lo hi L a)) := by
  have HR : Hid (chooseR lo hi L a = (0, false)) := hid (by unfold chooseR; rw [if_neg (by simpa using h)])
  have HH := hid fun (V : World) => has_ok p lo.length c a V
  rw [h] at HH
  clear h
  have HB := hid ((below_alloc w (.cells #[Value.slice p lo.length c, .slice q hi.length c'] 35)).alloc (below_alloc w _).size (.cells #[Value.slice s L.length c''] 40))
  go_enter Try.func47, Try.ntmps47
  go_wp2_with fail
  refine (HH.out _).mono ?_
  rintro e w2 ⟨rfl, rfl⟩
  go_wp2_with fail
  go_ret2
  rw [HR.out]
  exact ⟨rfl, HB.out⟩
def CR (W : World) (c1 c2 : Prop) (j : Value) (wr : World) : Prop := ∃ m : Nat, m ≤ 2 ∧ j = .int .i64 (m : Int) ∧ (1 ≤ m → c1) ∧ (2 ≤ m → c2) ∧ Below W.heap.size W wr
def CI (W : World) (q : Nat → Bool) (n f : Nat) (i : Value) (wr : World) : Prop := ∃ k : Nat, k ≤ n ∧ i = .int .i64 (k : Int) ∧ (∀ j, j < k → q ((f + j) % n) = false) ∧ Below W.heap.size W wr
set_option maxRecDepth 100000 in
set_option maxHeartbeats 4000000 in
theorem choose_go {D : Nat → Prop} (lo hi : List Nat) (L : List Rec) (p q s : Option Addr) (c c' c'' f : Nat) (w : World) (hp : Pt w p lo) (hq : Pt w q hi) (hs : Rs D w s L) (hl : lo.length ≤ 1000000) (hL : bigR L) (hf : f < lo.length) :
    Calls Try.prog 47 #[.agg #[.slice p lo.length c, .slice q hi.length c'], .slice s L.length c'', .int .i64 (f : Int)] w (ChoPost w (chooseN lo hi L f)) := by
  obtain ⟨V, hV⟩ : ∃ V, (w.alloc (.cells #[Value.slice p lo.length c, .slice q hi.length c'] 35)).alloc (.cells #[Value.slice s L.length c''] 40) = V := ⟨_, rfl⟩
  obtain ⟨u1, u2, u3⟩ := two_new w (.cells #[Value.slice p lo.length c, .slice q hi.length c'] 35) (.cells #[Value.slice s L.length c''] 40)
  rw [hV] at u1 u2 u3
  have hb0 : Below w.heap.size w V := by rw [← hV]; exact (below_alloc _ _).alloc (below_alloc _ _).size _
  have HB0 := hid hb0
  have x0 := two_cells u1
  have HH := hid fun (V : World) => has_ok p lo.length c (f : Int) V
  rw [show decide (0 ≤ (f : Int) ∧ (f : Int) < (lo.length : Int)) = true by simp; omega] at HH
  have HBX := hid fun (V' : World) (hb : Below V.heap.size V V') => (show (V'.cell? ⟨w.heap.size, 0, none⟩ = some (.slice p lo.length c) ∧ V'.cell? ⟨w.heap.size, 1, none⟩ = some (.slice q hi.length c')) ∧ V'.cell? ⟨w.heap.size + 1, 0, none⟩ = some (.slice s L.length c'') by
    have k1 := two_cells ((hb.block _ (by omega)).trans u1)
    have k2 := (hb.block (w.heap.size + 1) (by omega)).trans u2
    exact ⟨⟨k1.1, k1.2.1⟩, by rw [cell_of_row _ _ _ _ _ _ k2]; rfl⟩)
  have HC1 := hid fun (V' : World) (hb : Below V.heap.size V V') (a : Int) => choose1_ok lo hi L p q s c c' c'' w.heap.size (w.heap.size + 1) a V' (hp.below (hb0.trans (hb.mono hb0.size))) (hq.below (hb0.trans (hb.mono hb0.size))) (hs.below (hb0.trans (hb.mono hb0.size))) hl hL (HBX.out V' hb).1 (HBX.out V' hb).2 (by have := hb.size; omega)
  have HC2 := hid fun (V' : World) (hb : Below V.heap.size V V') (a : Int) => choose2_ok lo hi p q c c' w.heap.size a V' (hp.below (hb0.trans (hb.mono hb0.size))) (hq.below (hb0.trans (hb.mono hb0.size))) hl (HBX.out V' hb).1
  obtain ⟨n, hn⟩ : ∃ n, lo.length = n := ⟨_, rfl⟩
  have HRES : Hid (chooseN lo hi L f = match cho (fun a => pick1 lo hi L (a : Int)) n f with | some a => (a, true) | none => match cho (fun a => halfB lo hi (a : Int)) n f with | some a => (a, true) | none => (0, false)) := hid (by unfold chooseN; rw [hn])
  rw [hn] at hf hl x0 HH HBX
  have HHS := hid fun (v v' : Value) (W' : World) (hW' : W' = V.alloc (.cells #[v, v'] 107)) (V' : World) (hb : Below W'.heap.size W' V') => (show Below V.heap.size V V' ∧ (V'.cell? ⟨V.heap.size, 0, none⟩ = some v ∧ V'.cell? ⟨V.heap.size, 1, none⟩ = some v') by
    subst hW'
    have k := two_cells ((hb.block V.heap.size (by simp)).trans (heap_alloc_new V (.cells #[v, v'] 107)))
    exact ⟨(below_alloc V _).trans (hb.mono (by simp)), k.1, k.2.1⟩)
  rw [hn] at hV
  have HN := hid hn
  clear hp hq hs hL u1 u2 u3 hb0 hn
  go_enter Try.func47, Try.ntmps47
  rw [HN.out]
  obtain ⟨W', hW'⟩ : ∃ W', V.alloc (.cells #[Value.func (.func 85) #[] #[.pointer (some ⟨w.heap.size, 0, none⟩), .pointer (some ⟨w.heap.size + 1, 0, none⟩)], Value.func (.func 87) #[] #[.pointer (some ⟨w.heap.size, 0, none⟩)]] 107) = W' := ⟨_, rfl⟩
  have HFN := hid (HHS.out _ _ W' hW'.symm)
  have HVB := hid fun (V' : World) (hb : Below W'.heap.size W' V') => (HFN.out V' hb).1
  have HVS := hid (show W'.heap.size = V.heap.size + 1 by rw [← hW']; simp)
  go_wp2_with fail
  refine (HH.out _).mono ?_
  rintro e w2 ⟨rfl, rfl⟩
  go_wp2_with fail
  clear hW' hV x0
  go_loopw [23] (fun j wr => CR W' (cho (fun a => pick1 lo hi L (a : Int)) n f = none) (cho (fun a => halfB lo hi (a : Int)) n f = none) j wr) (fun j _ => 2 - (intOf j).toNat)
  case atStart => exact ⟨0, by omega, rfl, fun h => absurd h (by omega), fun h => absurd h (by omega), Below.refl _ _⟩
  case round =>
    rename World => wo
    obtain ⟨m, hm, rfl, h1, h2, hb⟩ := hrel
    have K1 := hid h1; have K2 := hid h2; have HBm := hid hb; clear h1 h2 hb
    have zf := (HFN.out _ HBm.out).2
    have bx := (HBX.out _ (HVB.out _ HBm.out)).1
    by_cases hm0 : m = 0
    · have zc : wo.cell? ⟨V.heap.size, m, none⟩ = some (Value.func (.func 85) #[] #[.pointer (some ⟨w.heap.size, 0, none⟩), .pointer (some ⟨w.heap.size + 1, 0, none⟩)]) := by rw [hm0]; exact zf.1
      have HM0 := hid hm0
      have hlt2 : (m : Int) < 2 := by omega
      clear zf hm0
      go_wp2_with fail
      clear zc
      go_loopw [30] (fun i wr => CI W' (fun a => pick1 lo hi L (a : Int)) n f i wr) (fun i _ => n - (intOf i).toNat)
      case atStart => exact ⟨0, by omega, rfl, fun j hj => absurd hj (by omega), HBm.out⟩
      case round =>
        rename World => wi
        obtain ⟨k, hk, rfl, hq, hb⟩ := hrel
        have HQ := hid hq; have HB := hid hb; clear hq hb
        have zb := HVB.out _ HB.out
        have bx := (HBX.out _ zb).1
        by_cases hlt : k < n
        · obtain ⟨a, ha⟩ : ∃ a, (f + k) % n = a := ⟨_, rfl⟩
          have han : a < n := by rw [← ha]; exact Nat.mod_lt _ (by omega)
          have HA := hid ha
          have e1 : ((f : Int) + (k : Int)) % (n : Int) = (a : Int) := by rw [← ha]; simp
          have e2 : ((f : Int) + (k : Int)).tmod (n : Int) = (a : Int) := by rw [Int.tmod_eq_emod_of_nonneg (by omega)]; exact e1
          have e3 : IntKind.i64.wrap ((f : Int) + (k : Int)) = (f : Int) + (k : Int) := Go.IntWalk.i64_in _ (by omega)
          have e4 : IntKind.i64.wrap (a : Int) = (a : Int) := Go.IntWalk.i64_in _ (by omega)
          have e5 : ((n : Int) == 0) = false := by simp; omega
          have HC := hid (HC1.out wi zb (a : Int))
          cases hp : pick1 lo hi L (a : Int) with
          | true =>
            have HX : Hid (chooseN lo hi L f = (a, true)) := hid (by rw [HRES.out, cho_some (q := fun a => pick1 lo hi L (a : Int)) hlt HQ.out (by show pick1 lo hi L (((f + k) % n : Nat) : Int) = true; rw [ha]; exact hp), ha])
            rw [hp] at HC
            clear hp ha
            go_wp2_with (go_at_call 85; refine HC.out.mono ?_; rintro e w2 ⟨rfl, hb⟩; have HB2 := hid (HB0.out.trans ((zb.trans (hb.mono zb.size)).mono HB0.out.size)); clear hb)
            go_ret2
            rw [HX.out]
            exact ⟨rfl, HB2.out⟩
          | false =>
            have HN := hid (show ∀ j, j < k + 1 → pick1 lo hi L (((f + j) % n : Nat) : Int) = false from fun j hj => by
              by_cases e : j = k
              · subst e; rw [HA.out]; exact hp
              · exact HQ.out j (by omega))
            rw [hp] at HC
            clear hp ha
            go_wp2_with (go_at_call 85; refine HC.out.mono ?_; rintro e w2 ⟨rfl, hb⟩; have HB2 := hid (HB.out.trans (hb.mono HB.out.size)); clear hb)
            go_roundw
            case rel => exact ⟨k + 1, by omega, by go_num, HN.out, HB2.out⟩
            case measure => simp [intOf]; omega
        · obtain rfl : k = n := by omega
          have HX := hid (cho_none (q := fun a => pick1 lo hi L (a : Int)) HQ.out)
          go_wp2_with fail
          go_roundw
          case rel => exact ⟨m + 1, by have := HM0.out; omega, by go_num, fun _ => HX.out, fun h => absurd h (by have := HM0.out; omega), HB.out⟩
          case measure => simp [intOf]; omega
    · by_cases hm1 : m = 1
      · have zc : wo.cell? ⟨V.heap.size, m, none⟩ = some (Value.func (.func 87) #[] #[.pointer (some ⟨w.heap.size, 0, none⟩)]) := by rw [hm1]; exact zf.2
        have HM1 := hid hm1
        have hlt2 : (m : Int) < 2 := by omega
        clear zf hm0 hm1
        go_wp2_with fail
        clear zc
        go_loopw [30] (fun i wr => CI W' (fun a => halfB lo hi (a : Int)) n f i wr) (fun i _ => n - (intOf i).toNat)
        case atStart => exact ⟨0, by omega, rfl, fun j hj => absurd hj (by omega), HBm.out⟩
        case round =>
          rename World => wi
          obtain ⟨k, hk, rfl, hq, hb⟩ := hrel
          have HQ := hid hq; have HB := hid hb; clear hq hb
          have zb := HVB.out _ HB.out
          have bx := (HBX.out _ zb).1
          by_cases hlt : k < n
          · obtain ⟨a, ha⟩ : ∃ a, (f + k) % n = a := ⟨_, rfl⟩
            have han : a < n := by rw [← ha]; exact Nat.mod_lt _ (by omega)
            have HA := hid ha
            have e1 : ((f : Int) + (k : Int)) % (n : Int) = (a : Int) := by rw [← ha]; simp
            have e2 : ((f : Int) + (k : Int)).tmod (n : Int) = (a : Int) := by rw [Int.tmod_eq_emod_of_nonneg (by omega)]; exact e1
            have e3 : IntKind.i64.wrap ((f : Int) + (k : Int)) = (f : Int) + (k : Int) := Go.IntWalk.i64_in _ (by omega)
            have e4 : IntKind.i64.wrap (a : Int) = (a : Int) := Go.IntWalk.i64_in _ (by omega)
            have e5 : ((n : Int) == 0) = false := by simp; omega
            have HC := hid (HC2.out wi zb (a : Int))
            cases hp : halfB lo hi (a : Int) with
            | true =>
              have HX : Hid (chooseN lo hi L f = (a, true)) := hid (by rw [HRES.out, K1.out (by have := HM1.out; omega), cho_some (q := fun a => halfB lo hi (a : Int)) hlt HQ.out (by show halfB lo hi (((f + k) % n : Nat) : Int) = true; rw [ha]; exact hp), ha])
              rw [hp] at HC
              clear hp ha
              go_wp2_with (go_at_call 87; refine HC.out.mono ?_; rintro e w2 ⟨rfl, hb⟩; have HB2 := hid (HB0.out.trans ((zb.trans (hb.mono zb.size)).mono HB0.out.size)); clear hb)
              go_ret2
              rw [HX.out]
              exact ⟨rfl, HB2.out⟩
            | false =>
              have HN := hid (show ∀ j, j < k + 1 → halfB lo hi (((f + j) % n : Nat) : Int) = false from fun j hj => by
                by_cases e : j = k
                · subst e; rw [HA.out]; exact hp
                · exact HQ.out j (by omega))
              rw [hp] at HC
              clear hp ha
              go_wp2_with (go_at_call 87; refine HC.out.mono ?_; rintro e w2 ⟨rfl, hb⟩; have HB2 := hid (HB.out.trans (hb.mono HB.out.size)); clear hb)
              go_roundw
              case rel => exact ⟨k + 1, by omega, by go_num, HN.out, HB2.out⟩
              case measure => simp [intOf]; omega
          · obtain rfl : k = n := by omega
            have HX := hid (cho_none (q := fun a => halfB lo hi (a : Int)) HQ.out)
            go_wp2_with fail
            go_roundw
            case rel => exact ⟨m + 1, by have := HM1.out; omega, by go_num, fun _ => K1.out (by have := HM1.out; omega), fun _ => HX.out, HB.out⟩
            case measure => simp [intOf]; omega
      · have hm2 : ¬ (m : Int) < 2 := by omega
        have HX : Hid (chooseN lo hi L f = (0, false)) := hid (by rw [HRES.out, K1.out (by omega), K2.out (by omega)])
        have HB9 := hid (HB0.out.trans ((HVB.out _ HBm.out).mono HB0.out.size))
        clear zf hm0 hm1
        go_wp2_with fail
        go_ret2
        rw [HX.out]
        exact ⟨rfl, HB9.out⟩
theorem choose_ok {D : Nat → Prop} (lo hi : List Nat) (L : List Rec) (p q s : Option Addr) (c c' c'' : Nat) (a : Int) (w : World) (hp : Pt w p lo) (hq : Pt w q hi) (hs : Rs D w s L) (hl : lo.length ≤ 1000000) (hL : bigR L) :
    Calls Try.prog 47 #[.agg #[.slice p lo.length c, .slice q hi.length c'], .slice s L.length c'', .int .i64 a] w (ChoPost w (chooseR lo hi L a)) := by
  cases h : decide (0 ≤ a ∧ a < (lo.length : Int)) with
  | false => exact choose_no lo hi L p q s c c' c'' a w h
  | true =>
    have h' : 0 ≤ a ∧ a < (lo.length : Int) := by simpa using h
    obtain ⟨f, rfl⟩ : ∃ f : Nat, a = (f : Int) := ⟨a.toNat, by omega⟩
    rw [show chooseR lo hi L (f : Int) = chooseN lo hi L f by unfold chooseR; rw [if_pos h']; rfl]
    exact choose_go lo hi L p q s c c' c'' f w hp hq hs hl hL (by omega)
end Go.Proofs.Ytkjcbfdplhcjpaa.Pt
