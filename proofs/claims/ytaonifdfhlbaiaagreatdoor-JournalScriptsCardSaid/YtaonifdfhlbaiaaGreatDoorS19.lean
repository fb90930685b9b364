/- Merged out of JnOpn, JnBackW, JnLastW, JnRef2, PgRef2, PgRef3, PgRef4, EnDcC, JnRat. -/
import Derived.Test.YtaonifdfhlbaiaaGreatDoorS18
import Derived.Deep.Slices
import Derived.ProofKit
import Derived.Test.YtaonifdfhlbaiaaGreatDoorS17
import Derived.Test.YtaonifdfhlbaiaaGreatDoorS03
import Derived.Test.YtaonifdfhlbaiaaGreatDoorS13
import Derived.Deep.RegionHeld3
import Derived.StillTailTactics
import Derived.Test.YtaonifdfhlbaiaaGreatDoorS11
/- Structs that come in, opened (written by a program of mine). -/
namespace Go.Proofs.YtaonifdfhlbaiaaGreatDoor.Jn
open Go.RowKit
open Go.Lib (hid)
open Go.ChangeShapes Go.WideShapes Go.Joins Go.Deep
section
variable {H : Type} {enc : TypeId × Value → H} {W : World} {base : Nat} {sp : Nat → Bool} {hd : Bool}
theorem cz_int : Tryz.prog.cellsOf 3 = 1 := by kernel_rfl
theorem cz_one {l : List Value} {j c : Nat} {x : Value} (hx : l[j]? = some x) (hc : c = 1) : (l.drop j).take c = [x] := by
  subst hc
  obtain ⟨h, e⟩ := List.getElem?_eq_some_iff.1 hx
  rw [List.drop_eq_getElem_cons h, e]; rfl
theorem cz_two {l : List Value} {j c : Nat} {x y : Value} (hx : l[j]? = some x) (hy : l[j + 1]? = some y) (hc : c = 2) : (l.drop j).take c = [x, y] := by
  subst hc
  obtain ⟨h, e⟩ := List.getElem?_eq_some_iff.1 hx
  obtain ⟨h', e'⟩ := List.getElem?_eq_some_iff.1 hy
  rw [List.drop_eq_getElem_cons h, List.drop_eq_getElem_cons h', e, e']; rfl
/-- what such a struct holds -/
structure PlD where
  a0 : Int
  a1 : Int
  a2 : Int
  a3 : Int
def PlD.cells (d : PlD) : List Value := [.int .i64 d.a0, .int .i64 d.a1, .int .i64 d.a2, .int .i64 d.a3]
structure PlD.Ok (w : World) (d : PlD) : Prop where
  f0 : (-9223372036854775808 ≤ d.a0 ∧ d.a0 ≤ 9223372036854775807)
  f1 : (-9223372036854775808 ≤ d.a1 ∧ d.a1 ≤ 9223372036854775807)
  f2 : (-9223372036854775808 ≤ d.a2 ∧ d.a2 ≤ 9223372036854775807)
  f3 : (-9223372036854775808 ≤ d.a3 ∧ d.a3 ≤ 9223372036854775807)
theorem PlD.Ok.below {w w' : World} {d : PlD} (h : d.Ok w) (_ : Below w.heap.size w w') : d.Ok w' := ⟨h.f0, h.f1, h.f2, h.f3⟩
theorem cz_Pl : Tryz.prog.cellsOf 23 = 4 := by kernel_rfl
set_option maxRecDepth 100000 in
set_option maxHeartbeats 1000000 in
theorem pl_cells {n : Nat} {l : List Value} {x : DataW H × List MemPlace} (hl : l.length = 4) (hf : DataW.trod enc Tryz.prog W base sp hd n 23 l = some x) : ∃ d : PlD, l = d.cells ∧ d.Ok W := by
  obtain ⟨x0, x1, x2, x3, rfl⟩ : ∃ x0 x1 x2 x3, l = [x0, x1, x2, x3] := by
    match l, hl with
    | [x0, x1, x2, x3], _ => exact ⟨x0, x1, x2, x3, rfl⟩
  obtain ⟨xs, m, _, _, _, hlen, hff⟩ := DataW.trod_struct Tryz.underlying23 hf
  have hlen2 : xs.length = 4 := hlen
  have some_at : ∀ j, j < 4 → (xs[j]?).isSome = true := fun j hj => by rw [List.getElem?_eq_getElem (by omega)]; rfl
  obtain ⟨y0, hy0⟩ := Option.isSome_iff_exists.1 (some_at 0 (by omega))
  have h0 := hff 0 _ rfl
  rw [hy0] at h0
  have g0 : DataW.trod enc Tryz.prog W base sp hd m 3 [x0] = some y0 := by rw [← show (([x0, x1, x2, x3] : List Value).drop 0).take (Tryz.prog.cellsOf 3) = [x0] from cz_one rfl cz_int]; exact h0
  obtain ⟨y1, hy1⟩ := Option.isSome_iff_exists.1 (some_at 1 (by omega))
  have h1 := hff 1 _ rfl
  rw [hy1] at h1
  have g1 : DataW.trod enc Tryz.prog W base sp hd m 3 [x1] = some y1 := by rw [← show (([x0, x1, x2, x3] : List Value).drop 1).take (Tryz.prog.cellsOf 3) = [x1] from cz_one rfl cz_int]; exact h1
  obtain ⟨y2, hy2⟩ := Option.isSome_iff_exists.1 (some_at 2 (by omega))
  have h2 := hff 2 _ rfl
  rw [hy2] at h2
  have g2 : DataW.trod enc Tryz.prog W base sp hd m 3 [x2] = some y2 := by rw [← show (([x0, x1, x2, x3] : List Value).drop 2).take (Tryz.prog.cellsOf 3) = [x2] from cz_one rfl cz_int]; exact h2
  obtain ⟨y3, hy3⟩ := Option.isSome_iff_exists.1 (some_at 3 (by omega))
  have h3 := hff 3 _ rfl
  rw [hy3] at h3
  have g3 : DataW.trod enc Tryz.prog W base sp hd m 3 [x3] = some y3 := by rw [← show (([x0, x1, x2, x3] : List Value).drop 3).take (Tryz.prog.cellsOf 3) = [x3] from cz_one rfl cz_int]; exact h3
  obtain ⟨a0, e0, _, wf0⟩ := DataW.trod_int Tryz.underlying3 g0
  simp only [List.cons.injEq, and_true] at e0
  subst e0
  obtain ⟨a1, e1, _, wf1⟩ := DataW.trod_int Tryz.underlying3 g1
  simp only [List.cons.injEq, and_true] at e1
  subst e1
  obtain ⟨a2, e2, _, wf2⟩ := DataW.trod_int Tryz.underlying3 g2
  simp only [List.cons.injEq, and_true] at e2
  subst e2
  obtain ⟨a3, e3, _, wf3⟩ := DataW.trod_int Tryz.underlying3 g3
  simp only [List.cons.injEq, and_true] at e3
  subst e3
  exact ⟨⟨a0, a1, a2, a3⟩, rfl, ⟨wf_i64 wf0, wf_i64 wf1, wf_i64 wf2, wf_i64 wf3⟩⟩
/-- a value that is such a struct -/
def PlV (w : World) (v : Value) : Prop := ∃ d : PlD, v = .agg d.cells.toArray ∧ d.Ok w
set_option maxRecDepth 100000 in
theorem open_Pl {v : Value} {d : DataW H} {p : List MemPlace} (hv : Value.okWide Tryz.prog W .any base 23 v) (h : DataW.Trod enc Tryz.prog W 0 (fun _ => true) true 23 v d p) : PlV W v := by
  obtain ⟨cs, rfl, hsz⟩ := okWide_struct Tryz.underlying23 hv
  obtain ⟨fuel, hf⟩ := h
  rw [cz_Pl] at hsz
  obtain ⟨l⟩ := cs
  obtain ⟨d, rfl, hd⟩ := pl_cells (l := l) hsz hf
  exact ⟨d, rfl, hd⟩
end
end Go.Proofs.YtaonifdfhlbaiaaGreatDoor.Jn

/- JournalBack walked. -/
namespace Go.Proofs.YtaonifdfhlbaiaaGreatDoor.Jn
open Go.RowKit
open Go.Lib (hid)
open Go.Proofs.YtaonifdfhlbaiaaGreatDoor.Dk
open Go.Proofs.YtaonifdfhlbaiaaGreatDoor.En (Lst PageT Pgs IsPgs pgs_list)
theorem dnew_bad (n : Int) (w : World) (h : n < 1 ∨ 1000 < n) : Calls Tryz.prog 5 #[.int .i64 n] w fun e w' => e = .returned (.tuple #[.pointer none, .int .i64 1]) ∧ w' = w := (new_bad n w h).mono fun _ _ ⟨h1, h2⟩ => ⟨h1, h2.symm⟩
theorem below_ks {w w1 w2 : World} (h : Below w.heap.size w w1) (hk : KS (fun j => j < w1.heap.size) w1 w2) : Below w.heap.size w w2 := h.trans ((hk.below (Nat.le_refl _) (fun _ hk => hk)).mono h.size)
set_option maxRecDepth 100000 in
theorem JournalBack_open0 {H : Type} {enc : TypeId × Value → H} {W : World} {base : Nat} {v : Value} {d : DataW H} {p : List MemPlace} (hv : Value.okWide Tryz.prog W .any base 23 v) (h : DataW.Trod enc Tryz.prog W 0 (fun _ => true) true 23 v d p) : PlV W v := open_Pl hv h
set_option maxRecDepth 100000 in
theorem JournalBack_open1 {H : Type} {enc : TypeId × Value → H} {W : World} {base : Nat} {v : Value} {d : DataW H} {p : List MemPlace} (hv : Value.okWide Tryz.prog W .any base 39 v) (h : DataW.Trod enc Tryz.prog W 0 (fun _ => true) true 39 v d p) : ∃ a len cap, v = .slice a len cap ∧ IsPgs W a len := En.open_Pgs hv h
end Go.Proofs.YtaonifdfhlbaiaaGreatDoor.Jn

/- JournalLast walked. -/
namespace Go.Proofs.YtaonifdfhlbaiaaGreatDoor.Jn
open Go.RowKit
open Go.Lib (hid)
open Go.Proofs.YtaonifdfhlbaiaaGreatDoor.Dk
open Go.Proofs.YtaonifdfhlbaiaaGreatDoor.En (Lst PageT Pgs IsPgs pgs_list)
open Classical in
/-- what a Commit of pages that find room does -/
noncomputable def comR (s : St) (b t : Nat) (L : List PageT) : Int × St := if AllS L then (0, comS s b t L) else (1, s)
theorem comR_yes {s : St} {b t : Nat} {L : List PageT} (h : AllS L) : comR s b t L = (0, comS s b t L) := if_pos h
theorem comR_no {s : St} {b t : Nat} {L : List PageT} (h : ¬ AllS L) : comR s b t L = (1, s) := if_neg h
theorem comR_fuse {s : St} (hf : s.fuse = -1) (b t : Nat) (L : List PageT) : (comR s b t L).2.fuse = -1 := by
  unfold comR; split
  · exact com_fuse hf b t L
  · exact hf
theorem comR_len (s : St) (b t : Nat) (L : List PageT) : (comR s b t L).2.pages.length = s.pages.length := by
  unfold comR; split
  · exact com_len s b t L
  · rfl
theorem comR_few {s : St} {k : Nat} (h : Few s k) (b t : Nat) (L : List PageT) : Few (comR s b t L).2 (k + L.length + 3) := by
  unfold comR; split
  · exact few_com h b t L
  · exact few_up h (by omega)
theorem jcom_any {K : Nat → Prop} {J D b n t : Nat} {w0 : World} {s : St} (h : Jk K J D w0 s b n t) (ok : JOk b n t) {k : Nat} (hf : Few s k) (p : Option Addr) (L : List PageT) (c : Nat) (hk : k + L.length + 10 < 1000000) (hp : Pgs w0 p L) (hK : ∀ g off, p = some ⟨g, off, none⟩ → 0 < L.length → K g) (h0 : 0 < L.length) (hl : L.length < n) :
    Calls Tryz.prog 10 #[.pointer (some ⟨J, 0, none⟩), .slice p L.length c] w0 fun e w' => e = .returned (.int .i64 (comR s b t L).1) ∧ Cd K D w' (comR s b t L).2 ∧ KS K w0 w' := by
  obtain ⟨r, hr⟩ : ∃ r, n = r + 1 := ⟨n - 1, by omega⟩
  rcases Classical.em (AllS L) with hs | hs
  · rw [comR_yes hs]
    exact jcom_ok h ok hf p L c hk hp hK h0 hs r hr (by omega)
  · rw [comR_no hs]
    exact (jcom_bad h.j h.lst p L c hp h0 (by omega) hs).mono fun _ _ ⟨e1, hb⟩ => ⟨e1, (h.next hb).cd, KS.of hb⟩
theorem lj_ok : JOk 3 10 7 := ⟨by decide, by decide, by decide, by decide, by decide⟩
theorem lj_ok8 : JOk 3 10 8 := ⟨by decide, by decide, by decide, by decide, by decide⟩
set_option maxRecDepth 100000 in
theorem JournalLast_open0 {H : Type} {enc : TypeId × Value → H} {W : World} {base : Nat} {v : Value} {d : DataW H} {p : List MemPlace} (hv : Value.okWide Tryz.prog W .any base 39 v) (h : DataW.Trod enc Tryz.prog W 0 (fun _ => true) true 39 v d p) : ∃ a len cap, v = .slice a len cap ∧ IsPgs W a len := En.open_Pgs hv h
set_option maxRecDepth 100000 in
theorem JournalLast_open1 {H : Type} {enc : TypeId × Value → H} {W : World} {base : Nat} {v : Value} {d : DataW H} {p : List MemPlace} (hv : Value.okWide Tryz.prog W .any base 39 v) (h : DataW.Trod enc Tryz.prog W 0 (fun _ => true) true 39 v d p) : ∃ a len cap, v = .slice a len cap ∧ IsPgs W a len := En.open_Pgs hv h
end Go.Proofs.YtaonifdfhlbaiaaGreatDoor.Jn

/- The document's own journal: New and Commit. -/
namespace Go.Proofs.YtaonifdfhlbaiaaGreatDoor.Jn
open Go.RowKit
open Go.Lib (hid)
open Go.Proofs.YtaonifdfhlbaiaaGreatDoor.Dk
open Go.Proofs.YtaonifdfhlbaiaaGreatDoor.En (Lst entC encR mayE mayS PageT Pgs ent_at infoC oneC textS)
open Go.Proofs.YtaonifdfhlbaiaaGreatDoor.Sm (U sumB)
section
variable {K : Nat → Prop} {R : Nat} {s : St}
set_option maxRecDepth 100000 in
set_option maxHeartbeats 4000000 in
theorem rnew_at {w : World} (h : Rc K R w s) (hpg : s.pages.length = 20) :
    Calls Tryz.prog 8 #[.pointer (some ⟨R, 0, none⟩), .int .i64 3, .int .i64 10, .int .i64 7] w fun e w' => ∃ J, e = .returned (.tuple #[.pointer (some ⟨J, 0, none⟩), .int .i64 0]) ∧ J = w.heap.size ∧ RAt w' J R 3 10 7 ∧ Below w.heap.size w w' := by
  obtain ⟨a, rfl, hr, _⟩ := h.ex
  have c0 : w.cell? ⟨a.D, 0, none⟩ = some (.slice (some ⟨a.P, 0, none⟩) 20 a.cp) := by
    rw [cell_of_row _ _ _ _ _ _ hr.head, hpg]; rfl
  have HX := hid (show RAt (w.alloc (.cells #[.pointer (some ⟨a.D, 0, none⟩), .int .i64 3, .int .i64 10, .int .i64 7] 53)) w.heap.size a.D 3 10 7 from heap_alloc_new w _)
  have HB := hid ((Below.refl w.heap.size w).alloc (Nat.le_refl _) (.cells #[.pointer (some ⟨a.D, 0, none⟩), .int .i64 3, .int .i64 10, .int .i64 7] 53))
  clear h hr hpg
  go_enter Tryz.func8, Tryz.ntmps8
  go_wp2_with fail
  go_ret2
  exact ⟨_, rfl, rfl, HX.out, HB.out⟩
end
section
variable {K : Nat → Prop} {J R b n t : Nat} {w0 : World} {s : St}
set_option maxRecDepth 100000 in
set_option maxHeartbeats 4000000 in
theorem rcom_bad (p : Option Addr) (L : List PageT) (c : Nat) (hp : Pgs w0 p L) (h0 : 0 < L.length) (hl : L.length ≤ 1000000) (hs : ¬ AllS L) :
    Calls Tryz.prog 11 #[.pointer (some ⟨J, 0, none⟩), .slice p L.length c] w0 fun e w' => e = .returned (.int .i64 1) ∧ Below w0.heap.size w0 w' := by
  have HG := hid hp
  have HS := hid hs
  obtain ⟨m, hm⟩ : ∃ m, L.length = m := ⟨_, rfl⟩
  have HN := hid hm
  rw [hm] at h0 hl ⊢
  have e0 : ((m : Int) == 0) = false := by simp; omega
  have e1 : (m == 0) = false := by simp; omega
  clear hp hs hm h0
  go_enter Tryz.func11, Tryz.ntmps11
  go_wp2_with fail
  clear e0 e1
  go_loopw [5] (fun x wx => ∃ i : Nat, x = .int .i64 i ∧ i ≤ m ∧ Below w0.heap.size w0 wx ∧ ∀ j (h : j < L.length), j < i → mayS L[j].1 L[j].2.1 L[j].2.2) (fun x _ => m - (intOf x).toNat)
  case atStart => exact ⟨0, rfl, Nat.zero_le _, Below.refl _ _, fun j _ hj => absurd hj (Nat.not_lt_zero _)⟩
  case round =>
    obtain ⟨i, rfl, hi, hb, hms⟩ := hrel
    have HB := hid hb; have HMS := hid hms
    clear hb hms
    by_cases hlt : i < m
    · have hiL : i < L.length := by rw [HN.out]; exact hlt
      obtain ⟨g, off, rfl, hbl, d0, d1, d2⟩ := HG.out.below HB.out i hiL
      have HI := hid hlt
      have HLT := hid hiL
      obtain ⟨q0, e0⟩ : ∃ q, (L[i]'hiL) = q := ⟨_, rfl⟩
      rw [e0] at d0 d1 d2
      obtain ⟨k0, m0, b0⟩ := q0
      dsimp only at d0 d1 d2
      have HE := hid (show mayS (L[i]'hiL).1 (L[i]'hiL).2.1 (L[i]'hiL).2.2 ↔ mayS k0 m0 b0 by rw [e0])
      clear e0
      by_cases hmy : mayS k0 m0 b0
      · have HCK := hid fun (V : World) => En.refcheck_yes 1 1 0 k0 m0 0 0 b0 V (may1 1 0 (by decide) (by decide) (by decide) hmy)
        have HM := hid hmy
        clear hmy
        go_wp2_with fail
        refine (HCK.out _).mono ?_
        rintro e w2 ⟨rfl, hb⟩
        have HB2 := hid (HB.out.trans (hb.mono HB.out.size))
        clear hb
        go_wp2_with fail
        go_roundw
        case rel => exact ⟨i + 1, by go_num, HI.out, HB2.out, fun j hj hji => by
          rcases Nat.lt_or_ge j i with h | h
          · exact HMS.out j hj h
          · obtain rfl : j = i := by omega
            exact HE.out.2 HM.out⟩
        case measure => simp [intOf]; have := HI.out; omega
      · have HCK := hid fun (V : World) => En.refcheck_no 1 1 0 k0 m0 0 0 b0 V (notmay1 hmy)
        clear hmy
        go_wp2_with fail
        refine (HCK.out _).mono ?_
        rintro e w2 ⟨rfl, hb⟩
        have HB2 := hid (HB.out.trans (hb.mono HB.out.size))
        clear hb
        go_wp2_with fail
        go_ret
        exact ⟨rfl, HB2.out⟩
    · exact absurd (fun j hj => HMS.out j hj (by have := HN.out; omega)) HS.out
set_option maxRecDepth 100000 in
set_option maxHeartbeats 4000000 in
theorem rcom_ok (h : Jr K J R w0 s b n t) (ok : JOk b n t) {k : Nat} (hf : Few s k) (p : Option Addr) (L : List PageT) (c : Nat) (hk : k + L.length + 10 < 1000000) (hp : Pgs w0 p L) (hK : ∀ g off, p = some ⟨g, off, none⟩ → 0 < L.length → K g) (h0 : 0 < L.length) (hs : AllS L) (r : Nat) (hr : n = r + 1) (hl : L.length ≤ r) :
    Calls Tryz.prog 11 #[.pointer (some ⟨J, 0, none⟩), .slice p L.length c] w0 fun e w' => e = .returned (.int .i64 0) ∧ Rc K R w' (comS s b t L) ∧ KS K w0 w' := by
  have HJ := hid h
  have HGB := hid hp
  have HG := hid fun (V : World) (hv : KS K w0 V) => pgs_ks hp hv hK
  have HCM := hid fun (V : World) (hq : Pgs V p L) => En.refsum_ok L p c V hq (by have := ok.n9; omega)
  have HAS := hid hs
  have HF1 := hid fun (V : World) (cd : Rc K R V (wrS s b t L L.length)) => cd.flush (few_wrS hf b t L L.length) (by omega)
  have HW2 := hid fun (V : World) (hj : Jr K J R V (flU (wrS s b t L L.length)).2 b n t) => rput (kd := 2) (tx := 0) (pk := 0) (pn := 0) (i := L.length) (bo := ⟨#[]⟩) (ct := (L.length : Nat)) (sm := U (sumB (textS L L.length))) hj (few_fl (few_wrS hf b t L L.length)) (by omega) (by unfold U; omega) (by unfold U; have := (sumB (textS L L.length)).isLt; omega) (may2 t L.length _ ok.t1 ok.t2 (by have := ok.n9; omega) h0) (by have := ok.bn; omega)
  have HF2 := hid fun (V : World) (cd : Rc K R V (wrU (flU (wrS s b t L L.length)).2 ((b + L.length : Nat) : Int) (pgJ (b + L.length) 2 t (L.length : Nat) 0 0 ⟨#[]⟩ (L.length : Nat) (U (sumB (textS L L.length))))).2) => cd.flush (few_wr (few_fl (few_wrS hf b t L L.length)) _ _) (by omega)
  have HWI := hid fun (i : Nat) (hi : i < L.length) (V : World) (hj : Jr K J R V (wrS s b t L i) b n t) => rput (kd := 1) (tx := 0) (pk := (L[i]'hi).1) (pn := (L[i]'hi).2.1) (i := i) (bo := (L[i]'hi).2.2) (ct := 0) (sm := 0) hj (few_wrS hf b t L i) (by omega) (by decide) (by decide) (may1 t i ok.t1 ok.t2 (by have := ok.n9; omega) (hs i hi)) (by have := ok.bn; omega)
  have HWN := hid fun (i : Nat) (hi : i < L.length) => (show wrS s b t L (i + 1) = (wrU (wrS s b t L i) ((b + i : Nat) : Int) (pgJ (b + i) 1 t (i : Nat) (L[i]'hi).1 (L[i]'hi).2.1 (L[i]'hi).2.2 0 0)).2 by
    show (wrU (wrS s b t L i) _ _).2 = _
    rw [List.getD_eq_getElem?_getD, List.getElem?_eq_getElem hi]; rfl)
  have HCK := hid fun (i : Nat) (hi : i < L.length) (V : World) => En.refcheck_yes 1 1 0 (L[i]'hi).1 (L[i]'hi).2.1 0 0 (L[i]'hi).2.2 V (may1 1 0 (by decide) (by decide) (by decide) (hs i hi))
  unfold comS
  obtain ⟨u, hu⟩ : ∃ u, U (sumB (textS L L.length)) = u := ⟨_, rfl⟩
  obtain ⟨m, hm⟩ : ∃ m, L.length = m := ⟨_, rfl⟩
  have HN := hid hm
  rw [hu] at HW2 HF2 HCM ⊢
  rw [hm] at h0 hl HCM HF1 HW2 HF2 ⊢
  have e0 : ((m : Int) == 0) = false := by simp; omega
  have e1 : (m == 0) = false := by simp; omega
  have HKM := hid (show m ≤ 998 by have := ok.n9; omega)
  have HR := hid (show wrap64 ((n : Int) - 1) = (r : Int) by unfold wrap64; have := ok.n9; omega)
  have HLR := hid hl
  clear h hf hk hp hK h0 hs hr hl hm ok hu
  go_enter Tryz.func11, Tryz.ntmps11
  go_wp2_with fail
  clear e0 e1
  go_loopw [5] (fun x wx => ∃ i : Nat, x = .int .i64 i ∧ i ≤ m ∧ Below w0.heap.size w0 wx) (fun x _ => m - (intOf x).toNat)
  case atStart => exact ⟨0, rfl, Nat.zero_le _, Below.refl _ _⟩
  case round =>
    obtain ⟨i, rfl, hi, hb⟩ := hrel
    have HB := hid hb
    clear hb
    by_cases hlt : i < m
    · have hiL : i < L.length := by rw [HN.out]; exact hlt
      obtain ⟨g, off, rfl, hbl, d0, d1, d2⟩ := HGB.out.below HB.out i hiL
      have HI := hid hlt
      have HC := hid (HCK.out i hiL)
      obtain ⟨q0, e0⟩ : ∃ q, (L[i]'hiL) = q := ⟨_, rfl⟩
      rw [e0] at d0 d1 d2 HC
      obtain ⟨k0, m0, b0⟩ := q0
      dsimp only at d0 d1 d2 HC
      have hnn := HKM.out
      clear e0
      go_wp2_with fail
      refine (HC.out _).mono ?_
      rintro e w2 ⟨rfl, hb⟩
      have HB2 := hid (HB.out.trans (hb.mono HB.out.size))
      clear hb
      go_wp2_with fail
      go_roundw
      case rel => exact ⟨i + 1, by go_num, HI.out, HB2.out⟩
      case measure => simp [intOf]; have := HI.out; omega
    · obtain rfl : i = m := by omega
      clear hlt hi
      have HJ1 := hid (HJ.out.next HB.out)
      have HK1 := hid (KS.of (K := K) HB.out)
      obtain ⟨j0, j1, j2, j3⟩ := HJ1.out.j.cells
      clear j0 j1 j3
      have hw := HR.out
      have e2 : decide ((r : Int) < (i : Int)) = false := by simp; have := HLR.out; omega
      have e3 : decide (r < i) = false := by simp; have := HLR.out; omega
      go_wp2_with fail
      clear j2 hw e2 e3
      go_loopw [6] (fun x wx => ∃ j : Nat, x = .int .i64 j ∧ j ≤ i ∧ Jr K J R wx (wrS s b t L j) b n t ∧ KS K w0 wx) (fun x _ => i - (intOf x).toNat)
      case atStart => exact ⟨0, rfl, Nat.zero_le _, HJ1.out, HK1.out⟩
      case round =>
        obtain ⟨j, rfl, hi, hj, hks⟩ := hrel
        have HJ3 := hid hj
        have HK3 := hid hks
        clear hj hks
        by_cases hlt : j < i
        · have hiL : j < L.length := by rw [HN.out]; exact hlt
          obtain ⟨g, off, rfl, hbl, d0, d1, d2⟩ := HG.out _ HK3.out j hiL
          have HI := hid hlt
          have HWI3 := hid (HWI.out j hiL)
          have HWN3 := hid (HWN.out j hiL)
          obtain ⟨q0, e0⟩ : ∃ q, (L[j]'hiL) = q := ⟨_, rfl⟩
          rw [e0] at d0 d1 d2 HWI3 HWN3
          obtain ⟨k0, m0, b0⟩ := q0
          dsimp only at d0 d1 d2
          clear e0
          have hnn := HKM.out
          go_wp2_with fail
          refine (HWI3.out _ HJ3.out).mono ?_
          rintro e w4 ⟨rfl, hc, hks⟩
          rw [← HWN3.out] at hc
          have HJ4 := hid (HJ3.out.step hc hks)
          have HK4 := hid (HK3.out.trans hks)
          clear hc hks
          go_wp2_with fail
          go_roundw
          case rel => exact ⟨j + 1, by go_num, HI.out, HJ4.out, HK4.out⟩
          case measure => simp [intOf]; have := HI.out; omega
        · obtain rfl : j = i := by omega
          clear hlt hi
          obtain ⟨j0, j1, j2, j3⟩ := HJ3.out.j.cells
          clear j1 j2 j3
          go_wp2_with fail
          refine (HF1.out _ HJ3.out.cd).mono ?_
          rintro e w4 ⟨rfl, hc, hks⟩
          have HJ4 := hid (HJ3.out.step hc hks)
          have HK4 := hid (HK3.out.trans hks)
          clear hc hks j0
          go_wp2_with fail
          refine (HCM.out _ (HG.out _ HK4.out)).mono ?_
          rintro e w5 ⟨rfl, hb⟩
          have HJ5 := hid (HJ4.out.next hb)
          have HK5 := hid (HK4.out.trans (KS.of hb))
          clear hb
          go_wp2_with fail
          refine (HW2.out _ HJ5.out).mono ?_
          rintro e w6 ⟨rfl, hc, hks⟩
          have HJ6 := hid (HJ5.out.step hc hks)
          have HK6 := hid (HK5.out.trans hks)
          clear hc hks
          obtain ⟨j0, j1, j2, j3⟩ := HJ6.out.j.cells
          clear j1 j2 j3
          go_wp2_with fail
          refine (HF2.out _ HJ6.out.cd).mono ?_
          rintro e w7 ⟨rfl, hc, hks⟩
          have HC7 := hid hc
          have HK7 := hid (HK6.out.trans hks)
          clear hc hks
          go_wp2_with fail
          go_ret
          exact ⟨rfl, HC7.out, HK7.out⟩
theorem rcom_any (h : Jr K J R w0 s b n t) (ok : JOk b n t) {k : Nat} (hf : Few s k) (p : Option Addr) (L : List PageT) (c : Nat) (hk : k + L.length + 10 < 1000000) (hp : Pgs w0 p L) (hK : ∀ g off, p = some ⟨g, off, none⟩ → 0 < L.length → K g) (h0 : 0 < L.length) (hl : L.length < n) :
    Calls Tryz.prog 11 #[.pointer (some ⟨J, 0, none⟩), .slice p L.length c] w0 fun e w' => e = .returned (.int .i64 (comR s b t L).1) ∧ Rc K R w' (comR s b t L).2 ∧ KS K w0 w' := by
  obtain ⟨r, hr⟩ : ∃ r, n = r + 1 := ⟨n - 1, by omega⟩
  rcases Classical.em (AllS L) with hs | hs
  · rw [comR_yes hs]
    exact rcom_ok h ok hf p L c hk hp hK h0 hs r hr (by omega)
  · rw [comR_no hs]
    exact (rcom_bad p L c hp h0 (by omega) hs).mono fun _ _ ⟨e1, hb⟩ => ⟨e1, (h.next hb).cd, KS.of hb⟩
end
end Go.Proofs.YtaonifdfhlbaiaaGreatDoor.Jn

/- Seal, Torn and Open of the document's answer: what each returns, whatever it is called with. -/
namespace Go.Proofs.YtaonifdfhlbaiaaGreatDoor.Pg
open Go.RowKit
open Go.Lib (hid)
open Go.Proofs.YtaonifdfhlbaiaaGreatDoor.Fd (Area Row Upd rowOf be be_length be_at beB num getAt putAt on_below on_upd)
open Go.Proofs.YtaonifdfhlbaiaaGreatDoor.Sm (U B32 sumB U_lo U_hi)

/-- what Seal gives, and its error -/
def sealZ (k n : Int) (b : List UInt8) : List UInt8 := if mayP k n b.length then sealL k.toNat n.toNat b else []
def errZ (k n : Int) (b : List UInt8) : Int := if mayP k n b.length then 0 else 1
set_option maxHeartbeats 400000 in
theorem refSeal_no (k n : Int) (b : ByteArray) (w : World) (h : ¬ mayP k n b.size) :
    Calls Tryz.prog 60 #[.agg #[.int .i64 k, .int .i64 n, .string b]] w fun e w' => e = .returned (.tuple #[.string ⟨#[]⟩, .int .i64 1]) ∧ Below w.heap.size w w' := by
  have H := hid h; clear h
  go_enter Tryz.func60, Tryz.ntmps60
  go_wp2_with (go_at_call 87; refine (refMay_no k n b _ H.out).mono ?_; rintro e w' ⟨rfl, hb⟩; have HB := hid hb; clear hb)
  go_ret2
  exact ⟨rfl, ((Below.refl _ _).alloc (Nat.le_refl _) _).trans (HB.out.mono (by simp))⟩

theorem refSeal_z (k n : Int) (b : ByteArray) (w : World) :
    Calls Tryz.prog 60 #[.agg #[.int .i64 k, .int .i64 n, .string b]] w fun e w' => e = .returned (.tuple #[.string ⟨(sealZ k n b.data.toList).toArray⟩, .int .i64 (errZ k n b.data.toList)]) ∧ Below w.heap.size w w' := by
  have hsz : b.data.toList.length = b.size := by simp
  by_cases h : mayP k n b.size
  · have hk : ((k.toNat : Nat) : Int) = k := by have := h.1; omega
    have hn : ((n.toNat : Nat) : Int) = n := by have := h.2.2.1; omega
    have := refSeal_yes k.toNat n.toNat b w (by rw [hk, hn]; exact h)
    rw [hk, hn] at this
    unfold sealZ errZ; rw [hsz, if_pos h, if_pos h]; exact this
  · have := refSeal_no k n b w h
    unfold sealZ errZ; rw [hsz, if_neg h, if_neg h]; exact this
theorem refSeal_zat {k n E : Int} {b : ByteArray} {r : List UInt8} (w : World) (hr : sealZ k n b.data.toList = r) (hE : errZ k n b.data.toList = E) :
    Calls Tryz.prog 60 #[.agg #[.int .i64 k, .int .i64 n, .string b]] w fun e w' => e = .returned (.tuple #[.string ⟨r.toArray⟩, .int .i64 E]) ∧ Below w.heap.size w w' := by
  subst hr hE; exact refSeal_z k n b w

end Go.Proofs.YtaonifdfhlbaiaaGreatDoor.Pg

/- Open of the document's answer: what it returns, whatever it is called with. -/
namespace Go.Proofs.YtaonifdfhlbaiaaGreatDoor.Pg
open Go.RowKit
open Go.Lib (hid)
open Go.Proofs.YtaonifdfhlbaiaaGreatDoor.Fd (Area Row Upd rowOf be be_length be_at beB num getAt putAt on_below on_upd)
open Go.Proofs.YtaonifdfhlbaiaaGreatDoor.Sm (U B32 sumB U_lo U_hi)

set_option maxHeartbeats 400000 in
theorem refOpen_cut (s : ByteArray) (w : World) (h : s.size ≠ 256) :
    Calls Tryz.prog 69 #[.string s] w fun e w' => e = .returned (.tuple #[.agg #[.int .i64 0, .int .i64 0, .string ⟨#[]⟩], .int .i64 9]) ∧ Below w.heap.size w w' := by
  have e1 : ((s.size : Int) != 256) = true := by simp; omega
  have H := hid h; clear h
  go_enter Tryz.func69, Tryz.ntmps69
  go_wp2_with fail
  refine bodyPost_ret (v := .tuple #[.agg #[.int .i64 0, .int .i64 0, .string ⟨#[]⟩], .int .i64 9]) (by simp [results, Tryz.results69, go_sem]) rfl ⟨rfl, ?_⟩
  exact (Below.refl _ _).alloc (Nat.le_refl _) _
set_option maxHeartbeats 400000 in
theorem refOpen_blank (s : ByteArray) (w : World) (h : s.size = 256) (hb : s.data.toList = blankL) :
    Calls Tryz.prog 69 #[.string s] w fun e w' => e = .returned (.tuple #[.agg #[.int .i64 0, .int .i64 0, .string ⟨#[]⟩], .int .i64 0]) ∧ Below w.heap.size w w' := by
  have e1 : ((s.size : Int) != 256) = false := by simp; omega
  have e2 := str_yes s blankL hb
  have H := hid (And.intro h hb); clear h hb
  go_enter Tryz.func69, Tryz.ntmps69
  go_wp2_with (go_at_call 30; refine (refBlank_any _).mono ?_; rintro e w1 ⟨rfl, hb⟩; obtain ⟨hc, hf⟩ := bcell hb; have hz := hb.size; simp at hz; have HB := hid hb; clear hb)
  refine bodyPost_ret (v := .tuple #[.agg #[.int .i64 0, .int .i64 0, .string ⟨#[]⟩], .int .i64 0]) (by simp [results, Tryz.results69, go_sem, hc]) rfl ⟨rfl, ?_⟩
  exact (((((Below.refl w.heap.size w).alloc (Nat.le_refl _) _).trans (HB.out.mono (by simp))).setCell (Nat.le_refl _) _).setCell (Nat.le_refl _) _).setCell (Nat.le_refl _) _

/-- what the document's Open has laid: its result's block -/
structure Res (w wr : World) : Prop where
  below : Below w.heap.size w wr
  row : wr.heap[w.heap.size]? = some (.cells #[.int .i64 0, .int .i64 0, .string ⟨#[]⟩] 62 (0, 0))
theorem Res.lt {w wr : World} (h : Res w wr) : w.heap.size < wr.heap.size := (Array.getElem?_eq_some_iff.1 h.row).1
theorem Res.on {w wr w' : World} (h : Res w wr) (hb : Below wr.heap.size wr w') : Res w w' :=
  ⟨(on_below (hid h.below) hb).out, by rw [hb.block _ h.lt]; exact h.row⟩
theorem Res.drew {w wr : World} (h : Res w wr) : Res w wr.drew := ⟨h.below.drew, h.row⟩
theorem Res.cells {w wr : World} (h : Res w wr) :
    wr.cell? ⟨w.heap.size, 0, none⟩ = some (.int .i64 0) ∧ wr.cell? ⟨w.heap.size, 1, none⟩ = some (.int .i64 0) ∧ wr.cell? ⟨w.heap.size, 2, none⟩ = some (.string ⟨#[]⟩) := by
  refine ⟨?_, ?_, ?_⟩ <;> rw [cell_of_row _ _ _ _ _ _ h.row] <;> rfl
theorem Res.free {w wr : World} (h : Res w wr) (i : Nat) : wr.frozen? ⟨w.heap.size, i, none⟩ = false := frozen_of_row _ _ _ _ _ h.row
theorem Res.made {w w1 : World} (h1 : Below (w.alloc (.cells #[.int .i64 0, .int .i64 0, .string ⟨#[]⟩] 62)).heap.size (w.alloc (.cells #[.int .i64 0, .int .i64 0, .string ⟨#[]⟩] 62)) w1) : Res w w1 := by
  have hb0 : Below w.heap.size w (w.alloc (.cells #[.int .i64 0, .int .i64 0, .string ⟨#[]⟩] 62)) := (Below.refl _ _).alloc (Nat.le_refl _) _
  refine ⟨(on_below (hid hb0) h1).out, ?_⟩
  rw [h1.block _ (by simp)]
  exact heap_alloc_new _ _

theorem refSum_head {s : ByteArray} {z : Nat} (w : World) (hz : sumN (s.data.toList.take 252) = z) :
    Calls Tryz.prog 61 #[.string (s.extract 0 252)] w fun e w' => e = .returned (.int .u32 (z : Int)) ∧ w = w' := by
  subst hz
  have hd : (s.extract 0 252).data.toList = s.data.toList.take 252 := by rw [ByteArray.data_extract]; simp
  have := Sm.refSum_any (s.extract 0 252) w (by unfold maxLen; rw [ByteArray.size_extract]; omega)
  rw [hd] at this
  exact this
theorem low_nat {z : Nat} {t : List UInt8} (w : World) (hz : z < 4294967296) (ht : lowL z = t) :
    Calls Tryz.prog 88 #[.int .u32 (z : Int)] w fun e w' => e = .returned (.string ⟨t.toArray⟩) ∧ Below w.heap.size w w' := by
  have h2 : (BitVec.ofNat 32 z).toNat = z := by rw [BitVec.toNat_ofNat]; omega
  have h3 : U (BitVec.ofNat 32 z) = (z : Int) := by unfold U; rw [h2]
  have h1 := low_any (BitVec.ofNat 32 z) w
  rw [h3, h2, ht] at h1
  exact h1
theorem extract_tail (s : ByteArray) (h : s.size = 256) : (s.extract 252 256).data.toList = s.data.toList.drop 252 := by
  rw [ByteArray.data_extract]
  have hl : s.data.toList.length = 256 := by simp [h]
  simp only [Array.toList_extract, List.extract_eq_take_drop]
  rw [List.take_of_length_le (by rw [List.length_drop, hl]; decide)]
set_option maxHeartbeats 800000 in
theorem refOpen_sum (s : ByteArray) (w : World) (h : s.size = 256) (hb : s.data.toList ≠ blankL) (hs : lowL (sumN (s.data.toList.take 252)) ≠ s.data.toList.drop 252) :
    Calls Tryz.prog 69 #[.string s] w fun e w' => e = .returned (.tuple #[.agg #[.int .i64 0, .int .i64 0, .string ⟨#[]⟩], .int .i64 7]) ∧ Below w.heap.size w w' := by
  have e1 : ((s.size : Int) != 256) = false := by simp; omega
  have e2 := str_not s blankL hb
  have h252 : (252 : Int) ≤ (s.size : Int) := by omega
  obtain ⟨z, hz⟩ : ∃ z, sumN (s.data.toList.take 252) = z := ⟨_, rfl⟩
  obtain ⟨t, ht⟩ : ∃ t, lowL z = t := ⟨_, rfl⟩
  have hzl : z < 4294967296 := by rw [← hz]; exact sumN_lt _
  have hq : (t == (s.extract 252 s.size).toList) = false := by
    rw [ByteArray.toList_eq, h, extract_tail s h, ← ht, ← hz]; simpa using hs
  have HZ := hid hz; have HT := hid ht; have HZL := hid hzl
  have H := hid (And.intro h (And.intro hb hs)); clear h hb hs hz ht hzl
  go_enter Tryz.func69, Tryz.ntmps69
  go_wp2_with (first
    | (go_at_call 30; refine (refBlank_any _).mono ?_; rintro e w1 ⟨rfl, hb⟩; have HR := hid (Res.made hb); clear hb))
  go_region_held3 (fun _ => True) (trivial)
    (first
      | (go_at_call 61; refine (refSum_head _ HZ.out).mono ?_; rintro e w2 ⟨rfl, rfl⟩)
      | (go_at_call 88; refine (low_nat _ HZL.out HT.out).mono ?_; rintro e w2 ⟨rfl, hb⟩; replace HR := hid (HR.out.drew.on hb); clear hb))
  have c := HR.out.cells
  have f := HR.out.free
  go_wp2_with fail
  refine bodyPost_ret (v := .tuple #[.agg #[.int .i64 0, .int .i64 0, .string ⟨#[]⟩], .int .i64 7]) (by simp [results, Tryz.results69, go_sem, c]) rfl ⟨rfl, ?_⟩
  exact ((HR.out.below.setCell (Nat.le_refl _) _).setCell (Nat.le_refl _) _).setCell (Nat.le_refl _) _
end Go.Proofs.YtaonifdfhlbaiaaGreatDoor.Pg

/- Open of the document's answer, of bytes whose sum is right; and as one. -/
namespace Go.Proofs.YtaonifdfhlbaiaaGreatDoor.Pg
open Go.RowKit
open Go.Lib (hid)
open Go.Proofs.YtaonifdfhlbaiaaGreatDoor.Fd (Area Row Upd rowOf be be_length be_at beB num getAt putAt on_below on_upd)
open Go.Proofs.YtaonifdfhlbaiaaGreatDoor.Sm (U B32 sumB U_lo U_hi)

theorem refSeal_at {k n : Nat} {b r : List UInt8} {F : Int} (w : World) (hr : sealX k n b = r) (hF : sealE k n b = F) :
    Calls Tryz.prog 60 #[.agg #[.int .i64 k, .int .i64 n, .string ⟨b.toArray⟩]] w fun e w' => e = .returned (.tuple #[.string ⟨r.toArray⟩, .int .i64 F]) ∧ Below w.heap.size w w' := by
  refine refSeal_zat (k := (k : Int)) (n := (n : Int)) (b := ⟨b.toArray⟩) w ?_ ?_
  · rw [← hr]; unfold sealZ sealX; simp
  · rw [← hF]; unfold errZ sealE; simp
theorem narrow_at {s : ByteArray} {t : List UInt8} {x : Nat} (w : World) (hs : s.data.toList = t) (ht : t.length ≤ 4) (hx : num t = x) :
    Calls Tryz.prog 98 #[.string s] w fun e w' => e = .returned (.int .i64 (x : Int)) ∧ w = w' := by
  subst hs hx
  exact narrow_any s w (by have : s.data.toList.length = s.size := by simp
                           omega)
theorem extract_get (s : ByteArray) (i j : Nat) : (s.extract i j).data.toList = getAt s.data.toList i (j - i) := by
  rw [ByteArray.data_extract]
  unfold Fd.getAt
  simp only [Array.toList_extract, List.extract_eq_take_drop]
theorem openL_big (l : List UInt8) (hl : l.length = 256) (hb : l ≠ blankL) (hs : lowL (sumN (l.take 252)) = l.drop 252) (hm : 244 < num (getAt l 2 2)) : openL l = (0, 0, [], 6) := by
  unfold openL
  rw [if_neg (by omega), if_neg hb, if_neg (by simpa using hs), if_neg (fun h => by have := h.1.2.2.2.2; omega)]

set_option maxHeartbeats 800000 in
theorem refOpen_big (s : ByteArray) (w : World) (h : s.size = 256) (hb : s.data.toList ≠ blankL) (hs : lowL (sumN (s.data.toList.take 252)) = s.data.toList.drop 252) (m : Nat) (hm : num (getAt s.data.toList 2 2) = m) (hbig : 244 < m) :
    Calls Tryz.prog 69 #[.string s] w fun e w' => e = .returned (.tuple #[.agg #[.int .i64 0, .int .i64 0, .string ⟨#[]⟩], .int .i64 6]) ∧ Below w.heap.size w w' := by
  have e1 : ((s.size : Int) != 256) = false := by simp; omega
  have e2 := str_not s blankL hb
  have h252 : (252 : Int) ≤ (s.size : Int) := by omega
  have h8 : (8 : Int) ≤ (s.size : Int) := by omega
  have h4 : (4 : Int) ≤ (s.size : Int) := by omega
  have hl : s.data.toList.length = 256 := by simp [h]
  obtain ⟨z, hz⟩ : ∃ z, sumN (s.data.toList.take 252) = z := ⟨_, rfl⟩
  obtain ⟨t, ht⟩ : ∃ t, lowL z = t := ⟨_, rfl⟩
  have hzl : z < 4294967296 := by rw [← hz]; exact sumN_lt _
  have hq : (t == (s.extract 252 s.size).toList) = true := by
    rw [ByteArray.toList_eq, h, extract_tail s h, ← ht, ← hz]; simpa using hs
  have hx2 : (s.extract 2 4).data.toList = getAt s.data.toList 2 2 := extract_get s 2 4
  have hl2 : (getAt s.data.toList 2 2).length ≤ 4 := by rw [Fd.getAt_length _ _ _ (by omega)]; omega
  have HX2 := hid hx2; have HL2 := hid hl2; clear hx2 hl2
  have HZ := hid hz; have HT := hid ht; have HZL := hid hzl; have HM := hid hm
  have H := hid (And.intro h (And.intro hb hs)); clear h hb hs hz ht hzl hm
  go_enter Tryz.func69, Tryz.ntmps69
  go_wp2_with (first
    | (go_at_call 30; refine (refBlank_any _).mono ?_; rintro e w1 ⟨rfl, hb⟩; have HR := hid (Res.made hb); clear hb))
  go_region_held3 (fun _ => True) (trivial)
    (first
      | (go_at_call 61; refine (refSum_head _ HZ.out).mono ?_; rintro e w2 ⟨rfl, rfl⟩)
      | (go_at_call 88; refine (low_nat _ HZL.out HT.out).mono ?_; rintro e w2 ⟨rfl, hb⟩; replace HR := hid (HR.out.drew.on hb); clear hb))
  have c := HR.out.cells
  have f := HR.out.free
  go_wp2_with (go_at_call 98; refine (narrow_at _ HX2.out HL2.out HM.out).mono ?_; rintro e w3 ⟨rfl, rfl⟩)
  refine bodyPost_ret (v := .tuple #[.agg #[.int .i64 0, .int .i64 0, .string ⟨#[]⟩], .int .i64 6]) (by simp [results, Tryz.results69, go_sem, c]) rfl ⟨rfl, ?_⟩
  exact ((HR.out.below.setCell (Nat.le_refl _) _).setCell (Nat.le_refl _) _).setCell (Nat.le_refl _) _

/-- what the document's Open has laid ahead of its last test -/
structure Last2 (w : World) (D : Nat) (k n : Nat) (b : List UInt8) (wr : World) : Prop where
  res : Res w wr
  box : Box wr D k n ⟨b.toArray⟩
theorem Last2.made {w w2 w6 : World} {k n : Nat} {b : List UInt8} (h : Res w w2)
    (hb : Below (w2.alloc (.cells #[.int .i64 k, .int .i64 n, .string ⟨b.toArray⟩] 62)).drew.heap.size (w2.alloc (.cells #[.int .i64 k, .int .i64 n, .string ⟨b.toArray⟩] 62)).drew w6) : Last2 w w2.heap.size k n b w6 :=
  ⟨((h.on ((Below.refl _ _).alloc (Nat.le_refl _) _)).drew).on hb, ((Box.made w2 k n _).drew).below hb⟩
set_option maxRecDepth 100000 in
set_option maxHeartbeats 1600000 in
theorem refOpen_rest (s : ByteArray) (w : World) (h : s.size = 256) (hb : s.data.toList ≠ blankL) (hs : lowL (sumN (s.data.toList.take 252)) = s.data.toList.drop 252)
    (k n m : Nat) (b r : List UInt8) (F : Int) (hk : num (getAt s.data.toList 0 1) = k) (hn : num (getAt s.data.toList 4 4) = n) (hm : num (getAt s.data.toList 2 2) = m) (hsmall : m ≤ 244) (hbd : bodyL s.data.toList m = b) (hr : sealX k n b = r) (hF : sealE k n b = F) :
    Calls Tryz.prog 69 #[.string s] w fun e w' => e = .returned (if r = s.data.toList then .tuple #[.agg #[.int .i64 k, .int .i64 n, .string ⟨b.toArray⟩], .int .i64 0] else .tuple #[.agg #[.int .i64 0, .int .i64 0, .string ⟨#[]⟩], .int .i64 6]) ∧ Below w.heap.size w w' := by
  have e1 : ((s.size : Int) != 256) = false := by simp; omega
  have e2 := str_not s blankL hb
  have h252 : (252 : Int) ≤ (s.size : Int) := by omega
  have h8 : (8 : Int) ≤ (s.size : Int) := by omega
  have h4 : (4 : Int) ≤ (s.size : Int) := by omega
  have hl : s.data.toList.length = 256 := by simp [h]
  obtain ⟨z, hz⟩ : ∃ z, sumN (s.data.toList.take 252) = z := ⟨_, rfl⟩
  obtain ⟨t, ht⟩ : ∃ t, lowL z = t := ⟨_, rfl⟩
  have hzl : z < 4294967296 := by rw [← hz]; exact sumN_lt _
  have hq : (t == (s.extract 252 s.size).toList) = true := by
    rw [ByteArray.toList_eq, h, extract_tail s h, ← ht, ← hz]; simpa using hs
  have hx2 : (s.extract 2 4).data.toList = getAt s.data.toList 2 2 := extract_get s 2 4
  have hl2 : (getAt s.data.toList 2 2).length ≤ 4 := by rw [Fd.getAt_length _ _ _ (by omega)]; omega
  have HX2 := hid hx2; have HL2 := hid hl2; clear hx2 hl2
  have HZ := hid hz; have HT := hid ht; have HZL := hid hzl; have HM := hid hm
  have hx4 : (s.extract 4 8).data.toList = getAt s.data.toList 4 4 := extract_get s 4 8
  have hl4 : (getAt s.data.toList 4 4).length ≤ 4 := by rw [Fd.getAt_length _ _ _ (by omega)]; omega
  have hs0 : 0 < s.size := by omega
  have hx0 : (s[0]'hs0).toNat = k := by
    rw [← hk]
    have e : getAt s.data.toList 0 1 = [s[0]'hs0] := by
      unfold Fd.getAt
      rw [List.drop_zero, List.take_succ_eq_append_getElem (by omega)]
      rfl
    rw [e]; simp [num]
  have hx8 : s.extract 8 (8 + m) = ⟨b.toArray⟩ := by
    have e : (s.extract 8 (8 + m)).data.toList = b := by
      rw [extract_get, ← hbd]; unfold bodyL; rw [if_pos (by omega)]; congr 1; omega
    rw [← e]
  have hmw : IntKind.i64.wrap (8 + (m : Int)) = 8 + (m : Int) := IntWalk.i64_in _ (by omega)
  have hm8 : (8 + (m : Int)) ≤ (s.size : Int) := by omega
  have hm9 : (0 : Int) ≤ 8 + (m : Int) := by omega
  have hmt : (8 + (m : Int)).toNat = 8 + m := by omega
  have hsl : ∀ w' : World, (Instr.slice 9 (.string s) (some (.int .i64 8)) (some (.int .i64 (8 + (m : Int)))) none).run Tryz.prog w' = .ok (.string ⟨b.toArray⟩) w' := fun w' => by
    rw [run_slice_string w' 9 s .i64 .i64 8 (8 + (m : Int)) Tryz.underlying9 (by omega) (by omega) (by omega), hmt]
    show Result.ok (Value.string (s.extract 8 (8 + m))) w' = _
    rw [hx8]
  have hk256 : k < 256 := by rw [← hx0]; exact (s[0]'hs0).toNat_lt
  have hkw : IntKind.i64.wrap (k : Int) = (k : Int) := IntWalk.i64_in _ (by omega)
  have hF01 : F = 1 ∨ F = 0 := by rw [← hF]; unfold sealE; split <;> simp
  have HX4 := hid hx4; have HL4 := hid hl4; have HN := hid hn; have HR2 := hid hr; have HF := hid hF
  have hrF : F = 1 → r ≠ s.data.toList := by
    intro e1 e2
    rw [← hF] at e1; rw [← hr] at e2
    unfold sealE at e1; unfold sealX at e2
    by_cases hp : mayP k n b.length
    · rw [if_pos hp] at e1; cases e1
    · rw [if_neg hp] at e2; rw [← e2] at hl; cases hl
  have H := hid (And.intro h (And.intro hb hs)); clear h hb hs hz ht hzl hm hx4 hl4 hk hn hbd hr hF hl hx8 hmt hk256
  rcases hF01 with rfl | rfl
  · have hne := hrF rfl
    rw [if_neg hne]
    clear hrF hne
    go_enter Tryz.func69, Tryz.ntmps69
    go_wp2_with (first
      | (go_at_call 30; refine (refBlank_any _).mono ?_; rintro e w1 ⟨rfl, hb⟩; have HR := hid (Res.made hb); clear hb))
    go_region_held3 (fun _ => True) (trivial)
      (first
        | (go_at_call 61; refine (refSum_head _ HZ.out).mono ?_; rintro e w2 ⟨rfl, rfl⟩)
        | (go_at_call 88; refine (low_nat _ HZL.out HT.out).mono ?_; rintro e w2 ⟨rfl, hb⟩; replace HR := hid (HR.out.drew.on hb); clear hb))
    go_wp2_with (go_at_call 98; refine (narrow_at _ HX2.out HL2.out HM.out).mono ?_; rintro e w3 ⟨rfl, rfl⟩)
    go_region_held3 (fun _ => True) (trivial)
      (first
        | (go_at_call 98; refine (narrow_at _ HX4.out HL4.out HN.out).mono ?_; rintro e w3 ⟨rfl, rfl⟩))
    all_goals
      go_wp2_with (go_at_call 60; refine (refSeal_at _ HR2.out HF.out).mono ?_; rintro e w6 ⟨rfl, hb⟩; have HL := hid (Last2.made HR.out hb); clear hb; have c := HL.out.res.cells; have f := HL.out.res.free; have d0 := HL.out.box.c0; have d1 := HL.out.box.c1; have d2 := HL.out.box.c2)
      refine bodyPost_ret (v := .tuple #[.agg #[.int .i64 0, .int .i64 0, .string ⟨#[]⟩], .int .i64 6]) (by simp [results, Tryz.results69, go_sem, c]) rfl ⟨rfl, ?_⟩
      exact ((HL.out.res.below.setCell (Nat.le_refl _) _).setCell (Nat.le_refl _) _).setCell (Nat.le_refl _) _
  · clear hrF
    by_cases hrl : r = s.data.toList
    · have e5 : (r == s.toList) = true := by rw [ByteArray.toList_eq]; simpa using hrl
      rw [if_pos hrl]
      have HQ := hid hrl; clear hrl
      go_enter Tryz.func69, Tryz.ntmps69
      go_wp2_with (first
        | (go_at_call 30; refine (refBlank_any _).mono ?_; rintro e w1 ⟨rfl, hb⟩; have HR := hid (Res.made hb); clear hb))
      go_region_held3 (fun _ => True) (trivial)
        (first
          | (go_at_call 61; refine (refSum_head _ HZ.out).mono ?_; rintro e w2 ⟨rfl, rfl⟩)
          | (go_at_call 88; refine (low_nat _ HZL.out HT.out).mono ?_; rintro e w2 ⟨rfl, hb⟩; replace HR := hid (HR.out.drew.on hb); clear hb))
      go_wp2_with (go_at_call 98; refine (narrow_at _ HX2.out HL2.out HM.out).mono ?_; rintro e w3 ⟨rfl, rfl⟩)
      go_region_held3 (fun _ => True) (trivial)
        (first
          | (go_at_call 98; refine (narrow_at _ HX4.out HL4.out HN.out).mono ?_; rintro e w3 ⟨rfl, rfl⟩))
      all_goals
        go_wp2_with (go_at_call 60; refine (refSeal_at _ HR2.out HF.out).mono ?_; rintro e w6 ⟨rfl, hb⟩; have HL := hid (Last2.made HR.out hb); clear hb; have c := HL.out.res.cells; have f := HL.out.res.free; have d0 := HL.out.box.c0; have d1 := HL.out.box.c1; have d2 := HL.out.box.c2)
        refine bodyPost_ret (v := .tuple #[.agg #[.int .i64 k, .int .i64 n, .string ⟨b.toArray⟩], .int .i64 0]) (by simp [results, Tryz.results69, go_sem, c]) rfl ⟨rfl, ?_⟩
        exact ((HL.out.res.below.setCell (Nat.le_refl _) _).setCell (Nat.le_refl _) _).setCell (Nat.le_refl _) _
    · have e5 : (r == s.toList) = false := by rw [ByteArray.toList_eq]; simpa using hrl
      rw [if_neg hrl]
      have HQ := hid hrl; clear hrl
      go_enter Tryz.func69, Tryz.ntmps69
      go_wp2_with (first
        | (go_at_call 30; refine (refBlank_any _).mono ?_; rintro e w1 ⟨rfl, hb⟩; have HR := hid (Res.made hb); clear hb))
      go_region_held3 (fun _ => True) (trivial)
        (first
          | (go_at_call 61; refine (refSum_head _ HZ.out).mono ?_; rintro e w2 ⟨rfl, rfl⟩)
          | (go_at_call 88; refine (low_nat _ HZL.out HT.out).mono ?_; rintro e w2 ⟨rfl, hb⟩; replace HR := hid (HR.out.drew.on hb); clear hb))
      go_wp2_with (go_at_call 98; refine (narrow_at _ HX2.out HL2.out HM.out).mono ?_; rintro e w3 ⟨rfl, rfl⟩)
      go_region_held3 (fun _ => True) (trivial)
        (first
          | (go_at_call 98; refine (narrow_at _ HX4.out HL4.out HN.out).mono ?_; rintro e w3 ⟨rfl, rfl⟩))
      all_goals
        go_wp2_with (go_at_call 60; refine (refSeal_at _ HR2.out HF.out).mono ?_; rintro e w6 ⟨rfl, hb⟩; have HL := hid (Last2.made HR.out hb); clear hb; have c := HL.out.res.cells; have f := HL.out.res.free; have d0 := HL.out.box.c0; have d1 := HL.out.box.c1; have d2 := HL.out.box.c2)
        refine bodyPost_ret (v := .tuple #[.agg #[.int .i64 0, .int .i64 0, .string ⟨#[]⟩], .int .i64 6]) (by simp [results, Tryz.results69, go_sem, c]) rfl ⟨rfl, ?_⟩
        exact ((HL.out.res.below.setCell (Nat.le_refl _) _).setCell (Nat.le_refl _) _).setCell (Nat.le_refl _) _

/-- the document's Open's answer -/
theorem refOpen_at {k n e : Nat} {b : List UInt8} (s : ByteArray) (w : World) (h : openL s.data.toList = (k, n, b, e)) :
    Calls Tryz.prog 69 #[.string s] w fun r w' => r = .returned (.tuple #[.agg #[.int .i64 (k : Int), .int .i64 (n : Int), .string ⟨b.toArray⟩], .int .i64 (e : Int)]) ∧ Below w.heap.size w w' := by
  have hsl : s.data.toList.length = s.size := by simp
  by_cases h1 : s.size = 256
  · by_cases h2 : s.data.toList = blankL
    · have : openL s.data.toList = (0, 0, [], 0) := by unfold openL; rw [if_neg (by omega), if_pos h2]
      rw [this] at h; simp only [Prod.mk.injEq] at h; obtain ⟨rfl, rfl, rfl, rfl⟩ := h
      exact refOpen_blank s w h1 h2
    · by_cases h3 : lowL (sumN (s.data.toList.take 252)) = s.data.toList.drop 252
      · by_cases h5 : 244 < num (getAt s.data.toList 2 2)
        · rw [openL_big _ (by omega) h2 h3 h5] at h
          simp only [Prod.mk.injEq] at h; obtain ⟨rfl, rfl, rfl, rfl⟩ := h
          exact refOpen_big s w h1 h2 h3 _ rfl h5
        · have hr := refOpen_rest s w h1 h2 h3 _ _ _ _ _ _ rfl rfl rfl (by omega) rfl rfl rfl
          rw [openL_form _ (by omega) h2 h3] at h
          by_cases h4 : sealX (num (getAt s.data.toList 0 1)) (num (getAt s.data.toList 4 4)) (bodyL s.data.toList (num (getAt s.data.toList 2 2))) = s.data.toList
          · rw [if_pos h4] at h hr; simp only [Prod.mk.injEq] at h; obtain ⟨rfl, rfl, rfl, rfl⟩ := h
            exact hr
          · rw [if_neg h4] at h hr; simp only [Prod.mk.injEq] at h; obtain ⟨rfl, rfl, rfl, rfl⟩ := h
            exact hr
      · have : openL s.data.toList = (0, 0, [], 7) := by unfold openL; rw [if_neg (by omega), if_neg h2, if_pos h3]
        rw [this] at h; simp only [Prod.mk.injEq] at h; obtain ⟨rfl, rfl, rfl, rfl⟩ := h
        exact refOpen_sum s w h1 h2 h3
  · have : openL s.data.toList = (0, 0, [], 9) := by unfold openL; rw [if_pos (by omega)]
    rw [this] at h; simp only [Prod.mk.injEq] at h; obtain ⟨rfl, rfl, rfl, rfl⟩ := h
    exact refOpen_cut s w h1
end Go.Proofs.YtaonifdfhlbaiaaGreatDoor.Pg

/- The document's Decode tells as the program's does. -/
namespace Go.Proofs.YtaonifdfhlbaiaaGreatDoor.En
open Go.RowKit
open Go.Lib (hid)
/-- two contracts of one call speak of one answer -/
theorem one_answer {f : FuncId} {args : Array Value} {w : World} {x y : Value} {B B' : World → Prop} (hi : Tryz.prog.inits.idxOf? f = none)
    (h : Calls Tryz.prog f args w fun e w' => e = .returned x ∧ B w') (g : Calls Tryz.prog f args w fun e w' => e = .returned y ∧ B' w') : x = y := by
  have h1 : Calls Tryz.prog f args w fun | .returned v, _ => v = x | _, _ => False := h.mono fun e w' ⟨he, _⟩ => by subst he; rfl
  have g1 : Calls Tryz.prog f args w fun | .returned v, _ => v = y | _, _ => False := g.mono fun e w' ⟨he, _⟩ => by subst he; rfl
  obtain ⟨n, v, w1, e1, r1⟩ := h1.done hi
  obtain ⟨m, v', w2, e2, r2⟩ := g1.done hi
  have a := runN_ended e1 m
  have b := runN_ended e2 n
  rw [Nat.add_comm, a] at b
  injection b with ho _
  injection ho with hv
  rw [← r1, ← r2, hv]
theorem refdec_two (s : ByteArray) (hs : s.size ≤ 300) (V0 : World) (hV0 : Lst V0) :
    (∃ c : Int, c ≠ 0 ∧ (∀ kd tx ix pk pn b ct sm, 0 ≤ sm → sm < 4294967296 → mayE kd tx ix pk pn b ct sm → (encR kd tx ix pk pn b ct sm).1 ≠ s) ∧ ∃ kd tx ix pk pn b ct sm, ∀ V : World, Calls Tryz.prog 70 #[.string s] V fun e w' => e = .returned (.tuple #[.agg (entC kd tx ix pk pn b ct sm), .int .i64 c]) ∧ Below V.heap.size V w') ∨
    ∃ kd tx ix pk pn b ct sm, 0 ≤ sm ∧ sm < 4294967296 ∧ tx ≤ 9223372036854775807 ∧ mayE kd tx ix pk pn b ct sm ∧ (encR kd tx ix pk pn b ct sm).1 = s ∧ ∀ V : World, Calls Tryz.prog 70 #[.string s] V fun e w' => e = .returned (.tuple #[.agg (entC kd tx ix pk pn b ct sm), .int .i64 0]) ∧ Below V.heap.size V w' := by
  obtain ⟨kd, tx, ix, pk, pn, b, ct, sm, c, _, _, h1, h2⟩ := both_any s hs
  rcases dec_any2 s (by omega) with ⟨c', hc, hn, hV⟩ | ⟨kd', tx', ix', pk', pn', b', ct', sm', g0, g1, g2, g3, g4, hV⟩
  · have e := one_answer (by kernel_rfl) (h1 V0 hV0) (hV V0 hV0)
    injection e with e
    have e2 : (Value.int .i64 c) = .int .i64 c' := by
      have := congrArg (fun a => a[1]?) e
      simpa using this
    injection e2 with _ e2
    exact .inl ⟨c, by omega, hn, kd, tx, ix, pk, pn, b, ct, sm, h2⟩
  · have e := one_answer (by kernel_rfl) (h1 V0 hV0) (hV V0 hV0)
    refine .inr ⟨kd', tx', ix', pk', pn', b', ct', sm', g0, g1, g2, g3, g4, fun V => ?_⟩
    have h := h2 V
    rw [e] at h
    exact h
end Go.Proofs.YtaonifdfhlbaiaaGreatDoor.En

/- The document's own journal: at, Abort, Next. -/
namespace Go.Proofs.YtaonifdfhlbaiaaGreatDoor.Jn
open Go.RowKit
open Go.Lib (hid)
open Go.Proofs.YtaonifdfhlbaiaaGreatDoor.Dk
open Go.Proofs.YtaonifdfhlbaiaaGreatDoor.En (Lst entC encR mayE mayS PageT Pgs ent_at infoC oneC textS)
open Go.Proofs.YtaonifdfhlbaiaaGreatDoor.Pg (openL)
open Go.Proofs.YtaonifdfhlbaiaaGreatDoor.Sm (U sumB)
section
variable {K : Nat → Prop} {J R b n t : Nat} {wr : World} {s : St}
set_option maxRecDepth 100000 in
set_option maxHeartbeats 4000000 in
theorem rabort (h : Jr K J R wr s b n t) (ok : JOk b n t) {k : Nat} (hf : Few s k) (hk : k + 10 < 1000000) :
    Calls Tryz.prog 13 #[.pointer (some ⟨J, 0, none⟩)] wr fun e w' => e = .returned (.int .i64 0) ∧ Rc K R w' (aboS s b t) ∧ KS K wr w' := by
  have HJ := hid h
  have HW := hid (show Calls Tryz.prog 38 #[.pointer (some ⟨J, 0, none⟩), .int .i64 0, .agg (entC 3 0 0 0 0 ⟨#[]⟩ 0 0)] wr fun e w' => e = .returned (.tuple #[]) ∧ Rc K R w' (wrU s ((b : Nat) : Int) (pgJ b 3 t (0 : Nat) 0 0 ⟨#[]⟩ 0 0)).2 ∧ KS K wr w' from
    rput (kd := 3) (tx := 0) (pk := 0) (pn := 0) (i := 0) (bo := ⟨#[]⟩) (ct := 0) (sm := 0) h hf (by omega) (by decide) (by decide) (may3 t ok.t1 ok.t2) (by have := ok.bn; have := ok.n2; omega))
  unfold aboS
  have hf2 := few_wr hf ((b : Nat) : Int) (pgJ b 3 t (0 : Nat) 0 0 ⟨#[]⟩ 0 0)
  generalize (wrU s ((b : Nat) : Int) (pgJ b 3 t (0 : Nat) 0 0 ⟨#[]⟩ 0 0)).2 = s2 at *
  have HF := hid fun (V : World) (c : Rc K R V s2) => c.flush hf2 (by omega)
  clear hf2 hf hk ok h
  go_enter Tryz.func13, Tryz.ntmps13
  go_wp2_with fail
  refine HW.out.mono ?_
  rintro e w1 ⟨rfl, hc, hks⟩
  have HJ1 := hid (HJ.out.step hc hks)
  have HK1 := hid hks
  clear hc hks
  obtain ⟨j0, j1, j2, j3⟩ := HJ1.out.j.cells
  clear j1 j2 j3
  go_wp2_with fail
  refine (HF.out _ HJ1.out.cd).mono ?_
  rintro e w2 ⟨rfl, hc, hks⟩
  have HC2 := hid hc
  have HK2 := hid (HK1.out.trans hks)
  clear hc hks
  go_wp2_with fail
  go_ret
  exact ⟨rfl, HC2.out, HK2.out⟩
theorem rset {w : World} (h : RAt w J R b n t) (t' : Nat) : RAt (w.setCell ⟨J, 3, none⟩ (.int .i64 (t' : Int))) J R b n t' := by
  unfold RAt at h ⊢
  have hlt := (Array.getElem?_eq_some_iff.1 h).1
  rw [setCell_eq_setRow _ _ _ _ _ _ _ h, setRow_heap _ _ _ _ _ _ h]
  rfl
set_option maxHeartbeats 1000000 in
theorem rnext_last {w : World} (h : RAt w J R b n 4294967295) : Calls Tryz.prog 15 #[.pointer (some ⟨J, 0, none⟩)] w fun e w' => e = .returned (.int .i64 1) ∧ w' = w := by
  obtain ⟨j0, j1, j2, j3⟩ := h.cells
  clear h
  go_enter Tryz.func15, Tryz.ntmps15
  go_wp2_with fail
  go_ret
  exact ⟨rfl, rfl⟩
set_option maxHeartbeats 1000000 in
theorem rnext_ok {w : World} (h : RAt w J R b n t) (ht : t < 4294967295) : Calls Tryz.prog 15 #[.pointer (some ⟨J, 0, none⟩)] w fun e w' => e = .returned (.int .i64 0) ∧ w' = w.setCell ⟨J, 3, none⟩ (.int .i64 ((t + 1 : Nat) : Int)) := by
  have hf : w.frozen? ⟨J, 3, none⟩ = false := frozen_of_row _ _ _ _ _ h
  obtain ⟨j0, j1, j2, j3⟩ := h.cells
  obtain ⟨t', ht'⟩ : ∃ t', t + 1 = t' := ⟨_, rfl⟩
  have hw : wrap64 ((t : Int) + 1) = (t' : Int) := by unfold wrap64; omega
  have k2 : ((t : Int) == 4294967295) = false := by simp; omega
  rw [ht']
  clear h ht ht'
  go_enter Tryz.func15, Tryz.ntmps15
  go_wp2_with fail
  go_ret
  exact ⟨rfl, rfl⟩
/-- what at gives: an entry of the transaction, or none -/
def RtP (u : ByteArray) (m t : Nat) (e : Ending) : Prop :=
  (∃ i kd pk pn bo ct sm, IsJ u m i t kd pk pn bo ct sm ∧ e = .returned (.tuple #[.agg (entC kd t (i : Nat) pk pn bo ct sm), .bool true])) ∨
  ((∀ i kd pk pn bo ct sm, ¬ IsJ u m i t kd pk pn bo ct sm) ∧ ∃ kd tx ix pk pn bo ct sm, e = .returned (.tuple #[.agg (entC kd tx ix pk pn bo ct sm), .bool false]))
end
end Go.Proofs.YtaonifdfhlbaiaaGreatDoor.Jn
