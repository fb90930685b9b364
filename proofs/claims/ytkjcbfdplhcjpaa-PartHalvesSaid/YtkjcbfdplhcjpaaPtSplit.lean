/- Split and Merge of part. -/
import Derived.Test.YtkjcbfdplhcjpaaPtChoose2
import Derived.Test.YtkjcbfdplhcjpaaBkCut
namespace Go.Proofs.Ytkjcbfdplhcjpaa.Pt
open Go.RowKit
open Go.Lib (hid)
open Go.Proofs.Ytkjcbfdplhcjpaa.Ky
open Go.Proofs.Ytkjcbfdplhcjpaa.Bk

theorem own_keep {D : Nat → Prop} {w w' : World} {base e size n : Nat} {v : Value} {xs : List Value} (h : w.ownsRow base e size v n xs) (hk : Keep D w w') (hd : ∀ b, v.ownBlock = some b → ¬ D b) : w'.ownsRow base e size v n xs := by
  refine ⟨h.1, ?_⟩
  rcases h.2 with hn | ⟨g, cap, cur, hv, hb0, hg, rest⟩
  · exact .inl hn
  · exact .inr ⟨g, cap, cur, hv, hb0, (hk.block g (h.lt g (by rw [hv]; rfl)).2 (hd g (by rw [hv]; rfl))).trans hg, rest⟩
/-- two lists that grow beside each other -/
structure Out2 (N : Nat) (w : World) (v1 v2 : Value) (M1 M2 : List Rec) (xs1 xs2 : List Value) : Prop where
  o1 : w.ownsRow N 33 2 v1 M1.length xs1
  o2 : w.ownsRow N 33 2 v2 M2.length xs2
  r1 : RC (fun b => b < N ∨ v1.ownBlock = some b ∨ v2.ownBlock = some b) w xs1 M1
  r2 : RC (fun b => b < N ∨ v1.ownBlock = some b ∨ v2.ownBlock = some b) w xs2 M2
  ap : ∀ b, v1.ownBlock = some b → v2.ownBlock = some b → False
theorem Out2.symm {N : Nat} {w : World} {v1 v2 : Value} {M1 M2 : List Rec} {xs1 xs2 : List Value} (h : Out2 N w v1 v2 M1 M2 xs1 xs2) : Out2 N w v2 v1 M2 M1 xs2 xs1 := by
  have e : (fun b => b < N ∨ v2.ownBlock = some b ∨ v1.ownBlock = some b) = fun b => b < N ∨ v1.ownBlock = some b ∨ v2.ownBlock = some b := by
    funext b
    exact propext ⟨fun h => h.elim .inl fun h => .inr h.symm, fun h => h.elim .inl fun h => .inr h.symm⟩
  exact ⟨h.o2, h.o1, by rw [e]; exact h.r2, by rw [e]; exact h.r1, fun b h1 h2 => h.ap b h2 h1⟩
theorem keep_wide {D D' : Nat → Prop} {w w' : World} (h : Keep D w w') (hd : ∀ b, D b → D' b) : Keep D' w w' := ⟨h.size, fun k hk hn => h.block k hk (fun e => hn (hd k e))⟩
theorem Out2.push {N : Nat} {wr w3 w' : World} {v1 v2 v' : Value} {M1 M2 : List Rec} {xs1 xs2 : List Value} {q : Option Addr} {k : List Nat} {c : Nat} {t : ByteArray} (h : Out2 N wr v1 v2 M1 M2 xs1 xs2) (hb : Below wr.heap.size wr w3) (hN : N ≤ wr.heap.size)
    (hq : PtD (Lt wr.heap.size) w3 q k) (ho : Owns w3 N 33 2 v1 (M1.length + 1) (xs1 ++ [.slice q k.length c, .string t]) v' w') : Out2 N w' v' v2 (M1 ++ [(k, t)]) M2 (xs1 ++ [.slice q k.length c, .string t]) xs2 := by
  obtain ⟨h1, h2, h3⟩ := ho
  have hv1 : ∀ b, v1.ownBlock = some b → b < wr.heap.size := fun b hb => (h.o1.lt b hb).2
  have hv2 : ∀ b, v2.ownBlock = some b → b < wr.heap.size := fun b hb => (h.o2.lt b hb).2
  have hv3 : ∀ b, b < w3.heap.size → v'.ownBlock = some b → v1.ownBlock = some b := fun b hlt hb => by
    rcases h3 with e | e
    · rw [← e]; exact hb
    · rw [hb] at e; injection e with e; omega
  have hk : Keep (fun b => v1.ownBlock = some b) w3 w' := ⟨h2.size, fun b hlt hD => h2.block b hlt (fun e => hD e.symm)⟩
  have hd : ∀ b, b < w3.heap.size → (b < N ∨ v'.ownBlock = some b ∨ v2.ownBlock = some b) → (b < N ∨ v1.ownBlock = some b ∨ v2.ownBlock = some b) := fun b hlt hD => by
    rcases hD with hD | hD | hD
    · exact .inl hD
    · exact .inr (.inl (hv3 b hlt hD))
    · exact .inr (.inr hD)
  refine ⟨by rw [List.length_append]; exact h1, own_keep (own_below h.o2 hb) hk (fun b e1 e2 => h.ap b e2 e1), RC.app ((h.r1.below hb).grown (keep_wide hk fun b e => .inr (.inl e)) hd) (RC.one (hq.grown (keep_wide hk fun b e => hv1 b e) (fun b hlt hD => ?_))), (h.r2.below hb).grown (keep_wide hk fun b e => .inr (.inl e)) hd, fun b e1 e2 => h.ap b (hv3 b (Nat.lt_of_lt_of_le (hv2 b e2) hb.size) e1) e2⟩
  rcases hd b hlt hD with hD | hD | hD
  · exact Nat.lt_of_lt_of_le hD hN
  · exact hv1 b hD
  · exact hv2 b hD
def lowR (a bd : Nat) (L : List Rec) : List Rec := L.filter fun r => decide (r.1.getD a 0 < bd)
def othR (a bd : Nat) (L : List Rec) : List Rec := L.filter fun r => !decide (r.1.getD a 0 < bd)
def hasAt (L : List Rec) (a : Int) : Bool := L.all fun r => decide (0 ≤ a ∧ a < (r.1.length : Int))
def splitR (L : List Rec) (a : Int) (bd : Nat) : List Rec × List Rec × Int := if hasAt L a then (lowR a.toNat bd L, othR a.toNat bd L, 0) else ([], [], 1)
theorem low_snoc (a bd : Nat) (L : List Rec) (k : Nat) (h : k < L.length) : lowR a bd (L.take (k + 1)) = lowR a bd (L.take k) ++ (if L[k].1.getD a 0 < bd then [L[k]] else []) := by
  unfold lowR; rw [List.take_succ_eq_append_getElem h, List.filter_append]; congr 1
  by_cases e : L[k].1.getD a 0 < bd
  · rw [if_pos e, List.filter_cons, List.filter_nil, decide_eq_true e]; rfl
  · rw [if_neg e, List.filter_cons, List.filter_nil, decide_eq_false e]; rfl
theorem oth_snoc (a bd : Nat) (L : List Rec) (k : Nat) (h : k < L.length) : othR a bd (L.take (k + 1)) = othR a bd (L.take k) ++ (if L[k].1.getD a 0 < bd then [] else [L[k]]) := by
  unfold othR; rw [List.take_succ_eq_append_getElem h, List.filter_append]; congr 1
  by_cases e : L[k].1.getD a 0 < bd
  · rw [if_pos e, List.filter_cons, List.filter_nil, decide_eq_true e]; rfl
  · rw [if_neg e, List.filter_cons, List.filter_nil, decide_eq_false e]; rfl
def SplPost (w : World) (r : List Rec × List Rec × Int) (e : Ending) (w' : World) : Prop :=
  ∃ p c p' c', e = .returned (.tuple #[.slice p r.1.length c, .slice p' r.2.1.length c', .int .i64 r.2.2]) ∧ (r.1.length ≤ c ∧ c ≤ 9223372036854775807 ∧ r.2.1.length ≤ c' ∧ c' ≤ 9223372036854775807) ∧ Rs (Lt w.heap.size) w' p r.1 ∧ Rs (Lt w.heap.size) w' p' r.2.1 ∧ Below w.heap.size w w'
theorem spl_none {w w' : World} {n : Int} (hb : Below w.heap.size w w') : SplPost w ([], [], n) (.returned (.tuple #[.slice none 0 0, .slice none 0 0, .int .i64 n])) w' := ⟨none, 0, none, 0, rfl, ⟨Nat.le_refl _, by omega, Nat.le_refl _, by omega⟩, Rs.nil _, Rs.nil _, hb⟩
/-- the loop -/
def SR (w : World) (L : List Rec) (a bd : Nat) (v1 v2 i : Value) (wr : World) : Prop :=
  ∃ (k : Nat) (xs1 xs2 : List Value), k ≤ L.length ∧ i = .int .i64 (k : Int) ∧ Out2 w.heap.size wr v1 v2 (lowR a bd (L.take k)) (othR a bd (L.take k)) xs1 xs2 ∧ (∀ r ∈ L.take k, a < r.1.length) ∧ Below w.heap.size w wr
theorem row_cap {w : World} {N e n : Nat} {xs : List Value} {p : Option Addr} {c : Nat} (h : w.ownsRow N e 2 (.slice p n c) n xs) : n ≤ c ∧ c ≤ 9223372036854775807 := by
  rcases h.2 with ⟨hv, h0⟩ | ⟨g, cap, cur, hv, _, _, h5, h6, _⟩
  · injection hv with _ h2 h3; omega
  · injection hv with _ h2 h3; unfold maxLen at h6; omega
theorem low_len (a bd : Nat) (L : List Rec) : (lowR a bd L).length ≤ L.length := List.length_filter_le _ _
theorem oth_len (a bd : Nat) (L : List Rec) : (othR a bd L).length ≤ L.length := List.length_filter_le _ _
set_option maxRecDepth 100000 in
set_option maxHeartbeats 1000000 in
theorem split_bad {D : Nat → Prop} (L : List Rec) (p : Option Addr) (c : Nat) (a : Int) (bd : Nat) (w : World) (hp : Rs D w p L) (hl : bigR L) (ha : a < 0) :
    Calls Try.prog 51 #[.slice p L.length c, .int .i64 a, .int .u32 (bd : Int)] w (SplPost w (splitR L a bd)) := by
  cases L with
  | nil =>
    have HR : Hid (splitR [] a bd = ([], [], 0)) := hid rfl
    clear hp hl ha
    go_enter Try.func51, Try.ntmps51
    go_wp2_with fail
    go_loopw [9, 10, 15] (fun v1 v2 i wr => v1 = .slice none 0 0 ∧ v2 = .slice none 0 0 ∧ i = .int .i64 ((0 : Nat) : Int) ∧ wr = w) (fun _ _ _ _ => 0)
    case atStart => exact ⟨rfl, rfl, rfl, rfl⟩
    case round =>
      obtain ⟨rfl, rfl, rfl, rfl⟩ := hrel
      go_wp2_with fail
      refine bodyPost_ret (v := .tuple #[.slice none 0 0, .slice none 0 0, .int .i64 0]) (by simp [results, Try.results51, go_sem]) rfl ?_
      rw [HR.out]
      exact spl_none (Below.refl _ _)
  | cons r L =>
    have HR : Hid (splitR (r :: L) a bd = ([], [], 1)) := hid (by unfold splitR hasAt; rw [if_neg (by simp; omega)])
    obtain ⟨b, off, q, c1, rfl, hbl, d1, d2, hq⟩ := hp.at 0 (by simp)
    have HH := hid fun (V : World) => has_ok q r.1.length c1 a V
    rw [show decide (0 ≤ a ∧ a < (r.1.length : Int)) = false by simp; omega] at HH
    have d1' : w.cell? ⟨b, off, none⟩ = some (.slice q r.1.length c1) := by simpa using d1
    have d2' : w.cell? ⟨b, off + 1, none⟩ = some (.string r.2) := by simpa using d2
    have HB := hid (below_alloc w (.cells #[.slice q r.1.length c1, .string r.2] 33))
    have hlen := hl.1
    clear hp hl ha hq d1 d2
    go_enter Try.func51, Try.ntmps51
    go_wp2_with fail
    go_loopw [9, 10, 15] (fun v1 v2 i wr => v1 = .slice none 0 0 ∧ v2 = .slice none 0 0 ∧ i = .int .i64 0 ∧ wr = w) (fun _ _ _ _ => 0)
    case atStart => exact ⟨rfl, rfl, rfl, rfl⟩
    case round =>
      obtain ⟨rfl, rfl, rfl, rfl⟩ := hrel
      go_wp2_with fail
      refine (HH.out _).mono ?_
      rintro e w2 ⟨rfl, rfl⟩
      go_wp2_with fail
      refine bodyPost_ret (v := .tuple #[.slice none 0 0, .slice none 0 0, .int .i64 1]) (by simp [results, Try.results51, go_sem]) rfl ?_
      rw [HR.out]
      exact spl_none HB.out
set_option maxRecDepth 100000 in
set_option maxHeartbeats 4000000 in
theorem split_go {D : Nat → Prop} (L : List Rec) (p : Option Addr) (c a bd : Nat) (w : World) (hp : Rs D w p L) (hl : bigR L) (_ : a ≤ 9223372036854775807) :
    Calls Try.prog 51 #[.slice p L.length c, .int .i64 (a : Int), .int .u32 (bd : Int)] w (SplPost w (splitR L (a : Int) bd)) := by
  have HP := hid hp; have HL := hid hl; have hlen := hl.1
  have HNO := hid fun (r : Rec) (hr : r ∈ L) (h : ¬ a < r.1.length) => (show splitR L (a : Int) bd = ([], [], 1) by
    unfold splitR hasAt
    rw [if_neg]
    intro e
    have := List.all_eq_true.1 e r hr
    simp at this
    omega)
  have HYES := hid fun (h : ∀ r ∈ L, a < r.1.length) => (show splitR L (a : Int) bd = (lowR a bd L, othR a bd L, 0) by
    unfold splitR hasAt
    rw [if_pos (List.all_eq_true.2 fun r hr => by have := h r hr; simp; omega)]; rfl)
  clear hp hl
  go_enter Try.func51, Try.ntmps51
  go_wp2_with fail
  go_loopw [9, 10, 15] (fun v1 v2 i wr => SR w L a bd v1 v2 i wr) (fun _ _ i _ => L.length - (intOf i).toNat)
  case atStart => exact ⟨0, [], [], by omega, rfl, ⟨World.ownsRow_nil _ _ _ _, World.ownsRow_nil _ _ _ _, RC.nil, RC.nil, fun b e => by cases e⟩, fun r hr => by simp at hr, Below.refl _ _⟩
  case round =>
    obtain ⟨k, xs1, xs2, hk, rfl, ho, hr, hb⟩ := hrel
    have HO := hid ho; have HB := hid hb; have HR := hid hr; clear ho hb hr
    by_cases hlt : k < L.length
    · obtain ⟨b, off, q, c1, rfl, hbl, d1, d2, hq⟩ := (HP.out.below HB.out).at k hlt
      have hbg := HL.out.2 _ (List.getElem_mem hlt)
      have HN := hid (HNO.out L[k] (List.getElem_mem hlt))
      have HLW := hid (low_snoc a bd L k hlt)
      have HOW := hid (oth_snoc a bd L k hlt)
      have HR2 := hid fun (h : a < L[k].1.length) => (show ∀ r ∈ L.take (k + 1), a < r.1.length from fun r hr => by
        rw [List.take_succ_eq_append_getElem hlt] at hr
        rcases List.mem_append.1 hr with h1 | h1
        · exact HR.out r h1
        · simp at h1; subst h1; exact h)
      have HX : Hid (L[k] = (L[k].1, L[k].2)) := hid rfl
      generalize L[k] = rk at *
      obtain ⟨x, t⟩ := rk
      have HH := hid fun (V : World) => has_ok q x.length c1 (a : Int) V
      by_cases hx : a < x.length
      · have hax : x.getD a 0 = x[a] := by rw [List.getD_eq_getElem?_getD, List.getElem?_eq_getElem hx]; rfl
        obtain ⟨b2, off2, rfl, hb2, e2⟩ := hq.pt.cells a hx
        rw [show decide (0 ≤ (a : Int) ∧ (a : Int) < (x.length : Int)) = true by simp; omega] at HH
        obtain ⟨V, hV⟩ : ∃ V, wr.alloc (.cells #[.slice (some ⟨b2, off2, none⟩) x.length c1, .string t] 33) = V := ⟨_, rfl⟩
        have hbv : Below wr.heap.size wr V := by rw [← hV]; exact below_alloc _ _
        have hvs : wr.heap.size < V.heap.size := by rw [← hV]; simp
        have HBV := hid hbv
        have z := two_cells (show V.heap[wr.heap.size]? = some (.cells #[.slice (some ⟨b2, off2, none⟩) x.length c1, .string t] 33) by rw [← hV]; exact heap_alloc_new _ _)
        have e3 : V.cell? ⟨b2, off2 + a, none⟩ = some (.int .u32 (x[a] : Int)) := (hbv.cell (p := ⟨b2, _, none⟩) hb2).trans e2
        have HRC := hid (record_ok x (some ⟨b2, off2, none⟩) c1 t V (hq.pt.below hbv) (by have := hbg.1; simp at this; omega) (by have := hbg.2; simp at this; omega))
        have HLX := hid (low_len a bd (L.take k)); have HOX := hid (oth_len a bd (L.take k)); have HTK := hid (List.length_take_le k L)
        have HVS := hid hvs
        have HN2 := hid (HR2.out hx)
        have q1 : (a : Int) < (x.length : Int) := by omega
        rw [hax] at HLW HOW
        clear hbg hq hax hvs hbv e2 hb2 hbl HX HR2 HN
        obtain ⟨y, hy⟩ : ∃ y, x[a] = y := ⟨_, rfl⟩
        rw [hy] at e3 HLW HOW
        clear hy
        by_cases hyb : y < bd
        · rw [if_pos hyb] at HLW HOW
          have e4 : decide ((y : Int) < (bd : Int)) = true := by simp; omega
          have e5 : decide (y < bd) = true := by simp; omega
          clear hyb
          go_wp2_with fail
          refine (HH.out _).mono ?_
          rintro e w2 ⟨rfl, rfl⟩
          go_wp2_with fail
          refine HRC.out.mono ?_
          rintro e w3 ⟨q', c', rfl, hp, hb3⟩
          have HB3 := hid (HBV.out.trans (hb3.mono HBV.out.size))
          have HPT := hid (hp.to (N := wr.heap.size) fun k hk => Nat.lt_trans hk HVS.out)
          clear hp hb3 z e3 hV
          have HB4 := hid (HB3.out.alloc HB3.out.size (.cells #[.slice q' x.length c', .string t] 33))
          have HA := hid (rec_own (w := w3.alloc (.cells #[.slice q' x.length c', .string t] 33)) 40 u9 (lowR a bd (L.take k)).length xs1 (own_below HO.out.o1 HB4.out) (some ⟨w3.heap.size, 0, none⟩) 1 1 [.slice q' x.length c', .string t] (read_new w3 _ _ _) rfl (one_two _ _ rfl rfl) (by have := HLX.out; have := HTK.out; omega) (Nat.le_trans HB.out.size HB4.out.size))
          go_wp2_with (at_builtin; refine wpList_app rfl _ _ _ rfl rfl rfl HA.out ?_)
          intro v' w4 hF
          have HO4 := hid (HO.out.push HB4.out HB.out.size (HPT.out.keep (.below (below_alloc w3 _))) hF)
          have HB5 := hid (show Below w.heap.size w w4 from (HB.out.trans (HB4.out.mono HB.out.size)).grown hF.2.1 (Nat.le_trans HB.out.size HB4.out.size) (fun j hj => (HO.out.o1.lt j hj).1))
          clear hF
          go_wp2_with fail
          go_roundw
          case rel => exact ⟨k + 1, _, _, by omega, by go_num, by rw [HLW.out, HOW.out, List.append_nil]; exact HO4.out, HN2.out, HB5.out⟩
          case measure => simp [intOf]; omega
        · rw [if_neg hyb] at HLW HOW
          have e4 : decide ((y : Int) < (bd : Int)) = false := by simp; omega
          have e5 : decide (y < bd) = false := by simp; omega
          clear hyb
          go_wp2_with fail
          refine (HH.out _).mono ?_
          rintro e w2 ⟨rfl, rfl⟩
          go_wp2_with fail
          refine HRC.out.mono ?_
          rintro e w3 ⟨q', c', rfl, hp, hb3⟩
          have HB3 := hid (HBV.out.trans (hb3.mono HBV.out.size))
          have HPT := hid (hp.to (N := wr.heap.size) fun k hk => Nat.lt_trans hk HVS.out)
          clear hp hb3 z e3 hV
          have HB4 := hid (HB3.out.alloc HB3.out.size (.cells #[.slice q' x.length c', .string t] 33))
          have HA := hid (rec_own (w := w3.alloc (.cells #[.slice q' x.length c', .string t] 33)) 40 u10 (othR a bd (L.take k)).length xs2 (own_below HO.out.o2 HB4.out) (some ⟨w3.heap.size, 0, none⟩) 1 1 [.slice q' x.length c', .string t] (read_new w3 _ _ _) rfl (one_two _ _ rfl rfl) (by have := HOX.out; have := HTK.out; omega) (Nat.le_trans HB.out.size HB4.out.size))
          go_wp2_with (at_builtin; refine wpList_app rfl _ _ _ rfl rfl rfl HA.out ?_)
          intro v' w4 hF
          have HO4 := hid (HO.out.symm.push HB4.out HB.out.size (HPT.out.keep (.below (below_alloc w3 _))) hF).symm
          have HB5 := hid (show Below w.heap.size w w4 from (HB.out.trans (HB4.out.mono HB.out.size)).grown hF.2.1 (Nat.le_trans HB.out.size HB4.out.size) (fun j hj => (HO.out.o2.lt j hj).1))
          clear hF
          go_wp2_with fail
          go_roundw
          case rel => exact ⟨k + 1, _, _, by omega, by go_num, by rw [HLW.out, HOW.out, List.append_nil]; exact HO4.out, HN2.out, HB5.out⟩
          case measure => simp [intOf]; omega
      · have HXX := hid (HN.out hx)
        rw [show decide (0 ≤ (a : Int) ∧ (a : Int) < (x.length : Int)) = false by simp; omega] at HH
        have HBX := hid (HB.out.alloc HB.out.size (.cells #[.slice q x.length c1, .string t] 33))
        clear hbg hq hx HX HLW HOW HR2 HN
        go_wp2_with fail
        refine (HH.out _).mono ?_
        rintro e w2 ⟨rfl, rfl⟩
        go_wp2_with fail
        refine bodyPost_ret (v := .tuple #[.slice none 0 0, .slice none 0 0, .int .i64 1]) (by simp [results, Try.results51, go_sem]) rfl ?_
        rw [HXX.out]
        exact spl_none HBX.out
    · obtain rfl : k = L.length := by omega
      have ho := HO.out
      have hr := HR.out
      rw [List.take_length] at ho hr
      have HXX := hid (HYES.out hr)
      obtain ⟨p1, c1, hv1, hr1⟩ := Rs.of_row ho.o1 (ho.r1.less (D' := Lt w.heap.size) fun b _ hb => Or.inl hb) (fun j hj => by show ¬ j < w.heap.size; have := (ho.o1.lt j hj).1; omega)
      obtain ⟨p2, c2, hv2, hr2⟩ := Rs.of_row ho.o2 (ho.r2.less (D' := Lt w.heap.size) fun b _ hb => Or.inl hb) (fun j hj => by show ¬ j < w.heap.size; have := (ho.o2.lt j hj).1; omega)
      subst hv1
      subst hv2
      have HCAP := hid (show (lowR a bd L).length ≤ c1 ∧ c1 ≤ 9223372036854775807 ∧ (othR a bd L).length ≤ c2 ∧ c2 ≤ 9223372036854775807 from ⟨(row_cap ho.o1).1, (row_cap ho.o1).2, (row_cap ho.o2).1, (row_cap ho.o2).2⟩)
      have H1 := hid hr1; have H2 := hid hr2
      clear ho hr hr1 hr2 HO HR
      go_wp2_with fail
      refine bodyPost_ret (v := .tuple #[.slice p1 (lowR a bd L).length c1, .slice p2 (othR a bd L).length c2, .int .i64 0]) (by simp [results, Try.results51, go_sem]) rfl ?_
      rw [HXX.out]
      exact ⟨p1, c1, p2, c2, rfl, HCAP.out, H1.out, H2.out, HB.out⟩
theorem split_ok {D : Nat → Prop} (L : List Rec) (p : Option Addr) (c : Nat) (a : Int) (bd : Nat) (w : World) (hp : Rs D w p L) (hl : bigR L) (ha : a ≤ 9223372036854775807) :
    Calls Try.prog 51 #[.slice p L.length c, .int .i64 a, .int .u32 (bd : Int)] w (SplPost w (splitR L a bd)) := by
  by_cases h : a < 0
  · exact split_bad L p c a bd w hp hl h
  · obtain ⟨n, rfl⟩ : ∃ n : Nat, a = (n : Int) := ⟨a.toNat, by omega⟩
    exact split_go L p c n bd w hp hl (by omega)
end Go.Proofs.Ytkjcbfdplhcjpaa.Pt
