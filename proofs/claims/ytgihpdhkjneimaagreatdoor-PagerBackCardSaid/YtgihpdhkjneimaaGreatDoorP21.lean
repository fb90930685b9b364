/- Merged out of PpAny, EnOp0, EnOpn, EnPgs. -/
import Derived.Test.YtgihpdhkjneimaaGreatDoorP20
import Derived.Test.YtgihpdhkjneimaaGreatDoorP13
import Derived.Lib.SmallJoins
import Derived.ProofKit
import Derived.Deep.Slices
import Derived.ChangeSlices
/- The pager's laws: few; a Commit, whatever is committed; a pager that is none. -/
namespace Go.Proofs.YtgihpdhkjneimaaGreatDoor.Pp
open Go.RowKit
open Go.Lib (hid)
open Go.Proofs.YtgihpdhkjneimaaGreatDoor.Dk
open Go.Proofs.YtgihpdhkjneimaaGreatDoor.Jn
open Go.Proofs.YtgihpdhkjneimaaGreatDoor.En (Lst PageT Pgs mayS)
set_option maxRecDepth 100000 in
set_option maxHeartbeats 4000000 in
theorem few_any (L : List PageT) (p : Option Addr) (c : Nat) (w : World) (hp : Pgs w p L) (r : Bool) (hr : r = true ↔ FewP L) :
    Calls Tryz.prog 13 #[.slice p L.length c] w fun e w' => e = .returned (.bool r) ∧ Below w.heap.size w w' := by
  obtain ⟨n, hn⟩ : ∃ n, L.length = n := ⟨_, rfl⟩
  have H := hid hp; have HN := hid hn; have HR := hid hr
  rw [hn]
  by_cases hl : n ≤ 30
  · have e1 : decide ((30 : Int) < (n : Int)) = false := by simp; omega
    have e2 : decide (30 < n) = false := by simp; omega
    clear hp hn hr
    go_enter Tryz.func13, Tryz.ntmps13
    go_wp2_with fail
    clear e1 e2
    go_loopw [3] (fun s wr => ∃ i : Nat, s = .int .i64 i ∧ i ≤ n ∧ Below w.heap.size w wr ∧ ∀ j (h : j < L.length), j < i → L[j].2.2.size ≤ 300) (fun s _ => n - (intOf s).toNat)
    case atStart => exact ⟨0, rfl, Nat.zero_le _, Below.refl _ _, fun j _ hj => absurd hj (Nat.not_lt_zero _)⟩
    case round =>
      obtain ⟨i, rfl, hi, hb, hms⟩ := hrel
      have HB := hid hb; have HMS := hid hms
      clear hb hms
      by_cases hlt : i < n
      · have hiL : i < L.length := by rw [HN.out]; exact hlt
        obtain ⟨b, off, rfl, hbl, d0, d1, d2⟩ := H.out.below HB.out i hiL
        have HI := hid hlt
        obtain ⟨b0, e0⟩ : ∃ q, (L[i]'hiL).2.2 = q := ⟨_, rfl⟩
        rw [e0] at d2
        have HE := hid e0
        clear e0 d0 d1
        by_cases hbig : b0.size ≤ 300
        · have e1 : decide ((300 : Int) < (b0.size : Int)) = false := by simp; omega
          have e2 : decide (300 < b0.size) = false := by simp; omega
          have HBG := hid hbig
          clear hbig
          go_wp2_with fail
          go_roundw
          case rel => exact ⟨i + 1, by go_num, HI.out, HB.out, fun j hj hji => by
            rcases Nat.lt_or_ge j i with h | h
            · exact HMS.out j hj h
            · obtain rfl : j = i := by omega
              rw [HE.out]; exact HBG.out⟩
          case measure => simp [intOf]; have := HI.out; omega
        · have e1 : decide ((300 : Int) < (b0.size : Int)) = true := by simp; omega
          have e2 : decide (300 < b0.size) = true := by simp; omega
          have hrf : r = false := by
            cases hr2 : r with
            | false => rfl
            | true => exact absurd (by rw [← HE.out]; exact (HR.out.1 hr2).2 i hiL) hbig
          have HRF := hid hrf
          clear hrf hbig
          go_wp2_with fail
          go_ret
          exact ⟨by rw [HRF.out]; rfl, HB.out⟩
      · obtain rfl : i = n := by omega
        have HRF := hid (show r = true from HR.out.2 ⟨by rw [HN.out]; exact hl, fun j hj => HMS.out j hj (by rw [← HN.out]; exact hj)⟩)
        clear hlt hi
        go_wp2_with fail
        go_ret
        exact ⟨by rw [HRF.out]; rfl, HB.out⟩
  · have e1 : decide ((30 : Int) < (n : Int)) = true := by simp; omega
    have e2 : decide (30 < n) = true := by simp; omega
    have hrf : r = false := by
      cases hr2 : r with
      | false => rfl
      | true => exact absurd (by rw [← HN.out]; exact (HR.out.1 hr2).1) hl
    have HRF := hid hrf
    clear hp hn hr hrf hl
    go_enter Tryz.func13, Tryz.ntmps13
    go_wp2_with fail
    go_ret
    exact ⟨by rw [HRF.out]; rfl, Below.refl _ _⟩
section
variable {K : Nat → Prop} {P J D b n t r : Nat} {w w' : World} {s : St} {L : List PageT}
/-- what a Commit comes to: the disk, the transaction and the pages behind it -/
def ComR (s : St) (t : Nat) (L M : List PageT) (code : Int) (s' : St) (t' : Nat) (L' : List PageT) : Prop :=
  (code = 0 ∧ L' = M ∧ t' = t + 1 ∧ MayL M ∧ s'.writes = s.writes + 2 * (chg L M M.length).length + 3 ∧ s'.flushes = s.flushes + 4) ∨ (code ≠ 0 ∧ L' = L ∧ t' = t ∧ s' = s)
theorem pcom_any (h : Pr K P J D w s b n t L) (ho : Onto s b n t L) (hfu : s.fuse = -1) (hJ0 : J ≠ 0) (hP0 : P ≠ 0) {k : Nat} (hf : Few s k) (hk : k + 5000 < 1000000) (M : List PageT) (p : Option Addr) (c : Nat) (hl : M.length ≤ 1000) (hp : Pgs w p M) (hpK : ∀ g off, p = some ⟨g, off, none⟩ → 0 < M.length → K g ∧ g ≠ J ∧ g ≠ P) :
    Calls Tryz.prog 15 #[.pointer (some ⟨P, 0, none⟩), .slice p M.length c] w fun e w' => ∃ code K' s' t' L', e = .returned (.int .i64 code) ∧ ComR s t L M code s' t' L' ∧ (∀ j, K j → K' j) ∧ Pr K' P J D w' s' b n t' L' ∧ Onto s' b n t' L' ∧ s'.fuse = -1 ∧ KS (fun j => K j ∧ j ≠ P ∧ j ≠ J) w w' ∧ Few s' (k + 4000) := by
  have hLL : L.length ≤ 1000 := by have := ho.few; have := ho.ok.bn; omega
  have fail : ∀ code : Int, code ≠ 0 → ∀ (e : Ending) (w' : World), e = .returned (.int .i64 code) ∧ Below w.heap.size w w' → ∃ code K' s' t' L', e = .returned (.int .i64 code) ∧ ComR s t L M code s' t' L' ∧ (∀ j, K j → K' j) ∧ Pr K' P J D w' s' b n t' L' ∧ Onto s' b n t' L' ∧ s'.fuse = -1 ∧ KS (fun j => K j ∧ j ≠ P ∧ j ≠ J) w w' ∧ Few s' (k + 4000) := fun code hc e w' ⟨h1, h2⟩ =>
    ⟨code, K, s, t, L, h1, .inr ⟨hc, rfl, rfl, rfl⟩, fun _ e => e, h.next h2, ho, hfu, KS.of h2, few_up hf (by omega)⟩
  rcases Classical.em (MayL M) with hm | hm
  · by_cases hfl : M.length ≤ b - 1
    · by_cases hx : n ≤ (chA t L M M.length).length ∨ t = 4294967295
      · exact (com_jfull h ho.ok hLL M p c hp hm hfl hx).mono (fail 3 (by decide))
      · have ht : t < 4294967295 := by have := ho.ok.t2; omega
        obtain ⟨h1, h2, h3, h4, h5⟩ := onto_com ho hfu ht hm hfl (by omega)
        refine (pcom_ok h hJ0 hP0 ho.ok ht hLL hf hk M p c hp hpK hm hfl (by omega) h1).mono ?_
        rintro e w' ⟨K', g1, g2, g3, g4, g5⟩
        exact ⟨0, K', _, _, _, g1, .inl ⟨rfl, rfl, rfl, hm, h4, h5⟩, g2, g3, h2, h3, g4, g5⟩
    · exact (com_full h M p c hp (by omega) hm (by omega)).mono (fail 2 (by decide))
  · exact (com_bad h M p c hp (by omega) hm).mono (fail 1 (by decide))
set_option maxHeartbeats 1000000 in
theorem open_nil (l : Int) (w : World) : Calls Tryz.prog 28 #[.pointer none, .int .i64 l] w fun e w' => e = .returned (.tuple #[.pointer none, .int .i64 1]) ∧ w' = w := by
  have HM := hid (may_nil l w)
  go_enter Tryz.func28, Tryz.ntmps28
  go_wp2_with (go_at_call 35; refine HM.out.mono ?_; rintro e w' ⟨rfl, hw⟩; obtain rfl := hw.symm)
  go_ret2
  exact ⟨rfl, rfl⟩
set_option maxHeartbeats 1000000 in
theorem ppages_nil (w : World) : Calls Tryz.prog 18 #[.pointer none] w fun e w' => e = .returned (.slice none 0 0) ∧ w' = w := by
  have HM := hid (made_nil w)
  go_enter Tryz.func18, Tryz.ntmps18
  go_wp2_with (go_at_call 45; refine HM.out.mono ?_; rintro e w' ⟨rfl, hw⟩; obtain rfl := hw.symm)
  go_ret
  exact ⟨rfl, rfl⟩
set_option maxHeartbeats 1000000 in
theorem proom_nil (w : World) : Calls Tryz.prog 20 #[.pointer none] w fun e w' => e = .returned (.int .i64 0) ∧ w' = w := by
  have HM := hid (made_nil w)
  go_enter Tryz.func20, Tryz.ntmps20
  go_wp2_with (go_at_call 45; refine HM.out.mono ?_; rintro e w' ⟨rfl, hw⟩; obtain rfl := hw.symm)
  go_ret
  exact ⟨rfl, rfl⟩
set_option maxHeartbeats 1000000 in
theorem ptx_nil (w : World) : Calls Tryz.prog 19 #[.pointer none] w fun e w' => e = .returned (.int .i64 0) ∧ w' = w := by
  have HM := hid (made_nil w)
  go_enter Tryz.func19, Tryz.ntmps19
  go_wp2_with (go_at_call 45; refine HM.out.mono ?_; rintro e w' ⟨rfl, hw⟩; obtain rfl := hw.symm)
  go_ret
  exact ⟨rfl, rfl⟩
end
end Go.Proofs.YtgihpdhkjneimaaGreatDoor.Pp

/- What openers of this package's structs lean on. -/
namespace Go.Proofs.YtgihpdhkjneimaaGreatDoor.En
open Go.RowKit
theorem wf_u32 {x : Int} (h : (Lit.int .u32 x).wf = true) : 0 ≤ x ∧ x < 4294967296 := Fd.wf_u32 h
theorem wf_i64 {x : Int} (h : (Lit.int .i64 x).wf = true) : -9223372036854775808 ≤ x ∧ x ≤ 9223372036854775807 := Fd.wf_i64 h
end Go.Proofs.YtgihpdhkjneimaaGreatDoor.En

/- Structs that come in, opened (written by a program of mine). -/
namespace Go.Proofs.YtgihpdhkjneimaaGreatDoor.En
open Go.RowKit
open Go.Lib (hid)
open Go.ChangeShapes Go.WideShapes Go.Joins Go.Deep
section
variable {H : Type} {enc : TypeId × Value → H} {W : World} {base : Nat} {sp : Nat → Bool} {hd : Bool}
theorem cz_Pg_s : Tryz.prog.cellsOf 37 = 1 := by kernel_rfl
theorem cz_int : Tryz.prog.cellsOf 3 = 1 := by kernel_rfl
theorem cz_page : Tryz.prog.cellsOf 69 = 3 := by kernel_rfl
theorem cz_string : Tryz.prog.cellsOf 9 = 1 := by kernel_rfl
theorem cz_u32 : Tryz.prog.cellsOf 82 = 1 := by kernel_rfl
theorem cz_one {l : List Value} {j c : Nat} {x : Value} (hx : l[j]? = some x) (hc : c = 1) : (l.drop j).take c = [x] := by
  subst hc
  obtain ⟨h, e⟩ := List.getElem?_eq_some_iff.1 hx
  rw [List.drop_eq_getElem_cons h, e]; rfl
theorem cz_two {l : List Value} {j c : Nat} {x y : Value} (hx : l[j]? = some x) (hy : l[j + 1]? = some y) (hc : c = 2) : (l.drop j).take c = [x, y] := by
  subst hc
  obtain ⟨h, e⟩ := List.getElem?_eq_some_iff.1 hx
  obtain ⟨h', e'⟩ := List.getElem?_eq_some_iff.1 hy
  rw [List.drop_eq_getElem_cons h, List.drop_eq_getElem_cons h', e, e']; rfl
theorem cz_three {l : List Value} {j c : Nat} {x y z : Value} (hx : l[j]? = some x) (hy : l[j + 1]? = some y) (hz : l[j + 2]? = some z) (hc : c = 3) : (l.drop j).take c = [x, y, z] := by
  subst hc
  obtain ⟨h, e⟩ := List.getElem?_eq_some_iff.1 hx
  obtain ⟨h', e'⟩ := List.getElem?_eq_some_iff.1 hy
  obtain ⟨h'', e''⟩ := List.getElem?_eq_some_iff.1 hz
  rw [List.drop_eq_getElem_cons h, List.drop_eq_getElem_cons h', List.drop_eq_getElem_cons h'', e, e', e'']; rfl
set_option maxRecDepth 100000 in
theorem pz_cells {n : Nat} {l : List Value} {x : DataW H × List MemPlace} (hl : l.length = 3) (h : DataW.trod enc Tryz.prog W base sp hd n 69 l = some x) :
    ∃ (k m : Int) (t : ByteArray), l = [.int .i64 k, .int .i64 m, .string t] ∧ (-9223372036854775808 ≤ k ∧ k ≤ 9223372036854775807) ∧ (-9223372036854775808 ≤ m ∧ m ≤ 9223372036854775807) ∧ t.size ≤ 9223372036854775807 := by
  obtain ⟨x0, x1, x2, rfl⟩ : ∃ x0 x1 x2, l = [x0, x1, x2] := by
    match l, hl with
    | [x0, x1, x2], _ => exact ⟨x0, x1, x2, rfl⟩
  obtain ⟨xs, m, _, _, _, hlen, hff⟩ := DataW.trod_struct Tryz.underlying69 h
  have hlen2 : xs.length = 3 := hlen
  have some_at : ∀ j, j < 3 → (xs[j]?).isSome = true := fun j hj => by rw [List.getElem?_eq_getElem (by omega)]; rfl
  obtain ⟨y0, hy0⟩ := Option.isSome_iff_exists.1 (some_at 0 (by omega))
  obtain ⟨y1, hy1⟩ := Option.isSome_iff_exists.1 (some_at 1 (by omega))
  obtain ⟨y2, hy2⟩ := Option.isSome_iff_exists.1 (some_at 2 (by omega))
  have h0 := hff 0 _ rfl
  have h1 := hff 1 _ rfl
  have h2 := hff 2 _ rfl
  rw [hy0] at h0
  rw [hy1] at h1
  rw [hy2] at h2
  have g0 : DataW.trod enc Tryz.prog W base sp hd m 3 [x0] = some y0 := by rw [← show (([x0, x1, x2] : List Value).drop 0).take (Tryz.prog.cellsOf 3) = [x0] from cz_one rfl cz_int]; exact h0
  have g1 : DataW.trod enc Tryz.prog W base sp hd m 3 [x1] = some y1 := by rw [← show (([x0, x1, x2] : List Value).drop 1).take (Tryz.prog.cellsOf 3) = [x1] from cz_one rfl cz_int]; exact h1
  have g2 : DataW.trod enc Tryz.prog W base sp hd m 9 [x2] = some y2 := by rw [← show (([x0, x1, x2] : List Value).drop 2).take (Tryz.prog.cellsOf 9) = [x2] from cz_one rfl cz_string]; exact h2
  obtain ⟨a0, e0, _, wf0⟩ := DataW.trod_int Tryz.underlying3 g0
  obtain ⟨a1, e1, _, wf1⟩ := DataW.trod_int Tryz.underlying3 g1
  obtain ⟨a2, e2, _, wf2⟩ := DataW.trod_string Tryz.underlying9 g2
  simp only [List.cons.injEq, and_true] at e0 e1 e2
  subst e0; subst e1; subst e2
  exact ⟨a0, a1, a2, rfl, wf_i64 wf0, wf_i64 wf1, (by unfold maxLen at wf2; omega)⟩
/-- what such a struct holds -/
structure PgD where
  a0 : Int
  a1 : Int
  t2 : ByteArray
def PgD.cells (d : PgD) : List Value := [.int .i64 d.a0, .int .i64 d.a1, .string d.t2]
structure PgD.Ok (w : World) (d : PgD) : Prop where
  f0 : (-9223372036854775808 ≤ d.a0 ∧ d.a0 ≤ 9223372036854775807)
  f1 : (-9223372036854775808 ≤ d.a1 ∧ d.a1 ≤ 9223372036854775807)
  f2 : d.t2.size ≤ 9223372036854775807
theorem PgD.Ok.below {w w' : World} {d : PgD} (h : d.Ok w) (_ : Below w.heap.size w w') : d.Ok w' := ⟨h.f0, h.f1, h.f2⟩
theorem cz_Pg : Tryz.prog.cellsOf 69 = 3 := by kernel_rfl
set_option maxRecDepth 100000 in
set_option maxHeartbeats 1000000 in
theorem pg_cells {n : Nat} {l : List Value} {x : DataW H × List MemPlace} (hl : l.length = 3) (hf : DataW.trod enc Tryz.prog W base sp hd n 69 l = some x) : ∃ d : PgD, l = d.cells ∧ d.Ok W := by
  obtain ⟨x0, x1, x2, rfl⟩ : ∃ x0 x1 x2, l = [x0, x1, x2] := by
    match l, hl with
    | [x0, x1, x2], _ => exact ⟨x0, x1, x2, rfl⟩
  obtain ⟨xs, m, _, _, _, hlen, hff⟩ := DataW.trod_struct Tryz.underlying69 hf
  have hlen2 : xs.length = 3 := hlen
  have some_at : ∀ j, j < 3 → (xs[j]?).isSome = true := fun j hj => by rw [List.getElem?_eq_getElem (by omega)]; rfl
  obtain ⟨y0, hy0⟩ := Option.isSome_iff_exists.1 (some_at 0 (by omega))
  have h0 := hff 0 _ rfl
  rw [hy0] at h0
  have g0 : DataW.trod enc Tryz.prog W base sp hd m 3 [x0] = some y0 := by rw [← show (([x0, x1, x2] : List Value).drop 0).take (Tryz.prog.cellsOf 3) = [x0] from cz_one rfl cz_int]; exact h0
  obtain ⟨y1, hy1⟩ := Option.isSome_iff_exists.1 (some_at 1 (by omega))
  have h1 := hff 1 _ rfl
  rw [hy1] at h1
  have g1 : DataW.trod enc Tryz.prog W base sp hd m 3 [x1] = some y1 := by rw [← show (([x0, x1, x2] : List Value).drop 1).take (Tryz.prog.cellsOf 3) = [x1] from cz_one rfl cz_int]; exact h1
  obtain ⟨y2, hy2⟩ := Option.isSome_iff_exists.1 (some_at 2 (by omega))
  have h2 := hff 2 _ rfl
  rw [hy2] at h2
  have g2 : DataW.trod enc Tryz.prog W base sp hd m 9 [x2] = some y2 := by rw [← show (([x0, x1, x2] : List Value).drop 2).take (Tryz.prog.cellsOf 9) = [x2] from cz_one rfl cz_string]; exact h2
  obtain ⟨a0, e0, _, wf0⟩ := DataW.trod_int Tryz.underlying3 g0
  simp only [List.cons.injEq, and_true] at e0
  subst e0
  obtain ⟨a1, e1, _, wf1⟩ := DataW.trod_int Tryz.underlying3 g1
  simp only [List.cons.injEq, and_true] at e1
  subst e1
  obtain ⟨t2, e2, _, wt2⟩ := DataW.trod_string Tryz.underlying9 g2
  simp only [List.cons.injEq, and_true] at e2
  subst e2
  exact ⟨⟨a0, a1, t2⟩, rfl, ⟨wf_i64 wf0, wf_i64 wf1, (by unfold maxLen at wt2; show t2.size ≤ 9223372036854775807; omega)⟩⟩
/-- a value that is such a struct -/
def PgV (w : World) (v : Value) : Prop := ∃ d : PgD, v = .agg d.cells.toArray ∧ d.Ok w
set_option maxRecDepth 100000 in
theorem open_Pg {v : Value} {d : DataW H} {p : List MemPlace} (hv : Value.okWide Tryz.prog W .any base 69 v) (h : DataW.Trod enc Tryz.prog W 0 (fun _ => true) true 69 v d p) : PgV W v := by
  obtain ⟨cs, rfl, hsz⟩ := okWide_struct Tryz.underlying69 hv
  obtain ⟨fuel, hf⟩ := h
  rw [cz_Pg] at hsz
  obtain ⟨l⟩ := cs
  obtain ⟨d, rfl, hd⟩ := pg_cells (l := l) hsz hf
  exact ⟨d, rfl, hd⟩
/-- an element of a slice of such structs, from a cell on -/
structure PgAt (w : World) (b o : Nat) (d : PgD) : Prop where
  d0 : w.cell? ⟨b, o, none⟩ = some (.int .i64 d.a0)
  d1 : w.cell? ⟨b, o + 1, none⟩ = some (.int .i64 d.a1)
  d2 : w.cell? ⟨b, o + 2, none⟩ = some (.string d.t2)
  ok : d.Ok w
theorem PgAt.below {w w' : World} {b o : Nat} {d : PgD} (h : PgAt w b o d) (hlt : b < w.heap.size) (hb : Below w.heap.size w w') : PgAt w' b o d := ⟨(hb.cell (p := ⟨b, o, none⟩) hlt).trans h.d0, (hb.cell (p := ⟨b, o + 1, none⟩) hlt).trans h.d1, (hb.cell (p := ⟨b, o + 2, none⟩) hlt).trans h.d2, h.ok.below hb⟩
def IsPgs (w : World) (a : Option Addr) (len : Nat) : Prop :=
  len ≤ maxLen ∧ (len = 0 ∨ ∃ b off, a = some ⟨b, off, none⟩ ∧ b < w.heap.size ∧ ∀ i, i < len → ∃ d, PgAt w b (off + i * 3) d)
theorem IsPgs.below {w w' : World} {a : Option Addr} {len : Nat} (h : IsPgs w a len) (hb : Below w.heap.size w w') : IsPgs w' a len := by
  refine ⟨h.1, ?_⟩
  rcases h.2 with h0 | ⟨b, off, e, hlt, hd⟩
  · exact .inl h0
  · exact .inr ⟨b, off, e, Nat.lt_of_lt_of_le hlt hb.size, fun i hi => by obtain ⟨d, h2⟩ := hd i hi; exact ⟨d, h2.below hlt hb⟩⟩
set_option maxRecDepth 100000 in
set_option maxHeartbeats 1000000 in
theorem pgs_trod {n : Nat} {cs : List Value} {x : DataW H × List MemPlace} {v : Value} (hcs0 : cs = [v]) (hf : DataW.trod enc Tryz.prog W base sp hd n 37 cs = some x) : ∃ a len cap, v = .slice a len cap ∧ IsPgs W a len := by
  rcases open_slice Tryz.underlying37 hf with ⟨hcs, _⟩ | ⟨x, l, c, m, n, D, Pl, hcs, _, hlc, hcm, hm, _, hi⟩
  · rw [hcs] at hcs0
    simp at hcs0
    subst hcs0
    exact ⟨none, 0, 0, rfl, Nat.zero_le _, .inl rfl⟩
  · rw [hcs] at hcs0
    simp at hcs0
    subst hcs0
    refine ⟨_, _, _, rfl, ?_⟩
    by_cases h0 : l = 0
    · exact ⟨by rw [h0]; exact Nat.zero_le _, .inl h0⟩
    · have hml : l ≤ m := by rw [hm]; split <;> omega
      have cell : ∀ i, i < l → ∃ d : PgD, (∀ j y, d.cells[j]? = some y → W.cell? ((x.add (i * 3)).add j) = some y) ∧ d.Ok W := by
        intro i hil
        obtain ⟨cs', hc, ht'⟩ := hi i (by omega)
        rw [cz_Pg] at hc
        obtain ⟨_, hl6, hat⟩ := World.cells?_some hc
        obtain ⟨d, rfl, rest⟩ := pg_cells hl6 ht'
        refine ⟨d, fun j y hy => ?_, rest⟩
        rw [hat j (by have := (List.getElem?_eq_some_iff.1 hy).1; simpa [PgD.cells] using this), hy]
      obtain ⟨blk, off, spot⟩ := x
      obtain ⟨d0, hc0, _⟩ := cell 0 (by omega)
      have hfirst := hc0 0 _ rfl
      have hspot : spot = none := by simpa [Addr.add] using World.cell?_spot hfirst
      subst hspot
      have hadd : ∀ o i, (⟨blk, o, none⟩ : Addr).add i = ⟨blk, o + i, none⟩ := fun o i => by unfold Addr.add; split <;> simp_all
      refine ⟨by unfold maxLen at hcm ⊢; omega, .inr ⟨blk, off, rfl, ?_, fun i hil => ?_⟩⟩
      · rw [hadd, hadd] at hfirst; exact block_lt_of_cell hfirst
      · obtain ⟨d, hc, g⟩ := cell i hil
        have e0 := hc 0 _ rfl
        have e1 := hc 1 _ rfl
        have e2 := hc 2 _ rfl
        rw [hadd, hadd] at e0 e1 e2
        exact ⟨d, e0, e1, e2, g⟩
set_option maxRecDepth 100000 in
theorem open_Pgs {v : Value} {d : DataW H} {p : List MemPlace} (hv : Value.okWide Tryz.prog W .any base 37 v) (h : DataW.Trod enc Tryz.prog W 0 (fun _ => true) true 37 v d p) : ∃ a len cap, v = .slice a len cap ∧ IsPgs W a len := by
  obtain ⟨a, len, cap, rfl⟩ := okWide_slice Tryz.underlying37 hv
  obtain ⟨fuel, hf⟩ := h
  exact pgs_trod (cs := (Value.slice a len cap).cells.toList) (by simp [Value.cells]) hf
/-- what such a struct holds -/
structure EnD where
  a0 : Int
  a1 : Int
  a2 : Int
  k3 : Int
  n3 : Int
  t3 : ByteArray
  a4 : Int
  a5 : Nat
def EnD.cells (d : EnD) : List Value := [.int .i64 d.a0, .int .i64 d.a1, .int .i64 d.a2, .int .i64 d.k3, .int .i64 d.n3, .string d.t3, .int .i64 d.a4, .int .u32 (d.a5 : Int)]
structure EnD.Ok (w : World) (d : EnD) : Prop where
  f0 : (-9223372036854775808 ≤ d.a0 ∧ d.a0 ≤ 9223372036854775807)
  f1 : (-9223372036854775808 ≤ d.a1 ∧ d.a1 ≤ 9223372036854775807)
  f2 : (-9223372036854775808 ≤ d.a2 ∧ d.a2 ≤ 9223372036854775807)
  f3 : ((-9223372036854775808 ≤ d.k3 ∧ d.k3 ≤ 9223372036854775807) ∧ (-9223372036854775808 ≤ d.n3 ∧ d.n3 ≤ 9223372036854775807) ∧ d.t3.size ≤ 9223372036854775807)
  f4 : (-9223372036854775808 ≤ d.a4 ∧ d.a4 ≤ 9223372036854775807)
  f5 : d.a5 < 4294967296
theorem EnD.Ok.below {w w' : World} {d : EnD} (h : d.Ok w) (_ : Below w.heap.size w w') : d.Ok w' := ⟨h.f0, h.f1, h.f2, h.f3, h.f4, h.f5⟩
theorem cz_En : Tryz.prog.cellsOf 84 = 8 := by kernel_rfl
set_option maxRecDepth 100000 in
set_option maxHeartbeats 1000000 in
theorem en_cells {n : Nat} {l : List Value} {x : DataW H × List MemPlace} (hl : l.length = 8) (hf : DataW.trod enc Tryz.prog W base sp hd n 84 l = some x) : ∃ d : EnD, l = d.cells ∧ d.Ok W := by
  obtain ⟨x0, x1, x2, x3, x4, x5, x6, x7, rfl⟩ : ∃ x0 x1 x2 x3 x4 x5 x6 x7, l = [x0, x1, x2, x3, x4, x5, x6, x7] := by
    match l, hl with
    | [x0, x1, x2, x3, x4, x5, x6, x7], _ => exact ⟨x0, x1, x2, x3, x4, x5, x6, x7, rfl⟩
  obtain ⟨xs, m, _, _, _, hlen, hff⟩ := DataW.trod_struct Tryz.underlying84 hf
  have hlen2 : xs.length = 6 := hlen
  have some_at : ∀ j, j < 6 → (xs[j]?).isSome = true := fun j hj => by rw [List.getElem?_eq_getElem (by omega)]; rfl
  obtain ⟨y0, hy0⟩ := Option.isSome_iff_exists.1 (some_at 0 (by omega))
  have h0 := hff 0 _ rfl
  rw [hy0] at h0
  have g0 : DataW.trod enc Tryz.prog W base sp hd m 3 [x0] = some y0 := by rw [← show (([x0, x1, x2, x3, x4, x5, x6, x7] : List Value).drop 0).take (Tryz.prog.cellsOf 3) = [x0] from cz_one rfl cz_int]; exact h0
  obtain ⟨y1, hy1⟩ := Option.isSome_iff_exists.1 (some_at 1 (by omega))
  have h1 := hff 1 _ rfl
  rw [hy1] at h1
  have g1 : DataW.trod enc Tryz.prog W base sp hd m 3 [x1] = some y1 := by rw [← show (([x0, x1, x2, x3, x4, x5, x6, x7] : List Value).drop 1).take (Tryz.prog.cellsOf 3) = [x1] from cz_one rfl cz_int]; exact h1
  obtain ⟨y2, hy2⟩ := Option.isSome_iff_exists.1 (some_at 2 (by omega))
  have h2 := hff 2 _ rfl
  rw [hy2] at h2
  have g2 : DataW.trod enc Tryz.prog W base sp hd m 3 [x2] = some y2 := by rw [← show (([x0, x1, x2, x3, x4, x5, x6, x7] : List Value).drop 2).take (Tryz.prog.cellsOf 3) = [x2] from cz_one rfl cz_int]; exact h2
  obtain ⟨y3, hy3⟩ := Option.isSome_iff_exists.1 (some_at 3 (by omega))
  have h3 := hff 3 _ rfl
  rw [hy3] at h3
  have g3 : DataW.trod enc Tryz.prog W base sp hd m 69 [x3, x4, x5] = some y3 := by rw [← show (([x0, x1, x2, x3, x4, x5, x6, x7] : List Value).drop 3).take (Tryz.prog.cellsOf 69) = [x3, x4, x5] from cz_three rfl rfl rfl cz_page]; exact h3
  obtain ⟨y4, hy4⟩ := Option.isSome_iff_exists.1 (some_at 4 (by omega))
  have h4 := hff 4 _ rfl
  rw [hy4] at h4
  have g4 : DataW.trod enc Tryz.prog W base sp hd m 3 [x6] = some y4 := by rw [← show (([x0, x1, x2, x3, x4, x5, x6, x7] : List Value).drop 6).take (Tryz.prog.cellsOf 3) = [x6] from cz_one rfl cz_int]; exact h4
  obtain ⟨y5, hy5⟩ := Option.isSome_iff_exists.1 (some_at 5 (by omega))
  have h5 := hff 5 _ rfl
  rw [hy5] at h5
  have g5 : DataW.trod enc Tryz.prog W base sp hd m 82 [x7] = some y5 := by rw [← show (([x0, x1, x2, x3, x4, x5, x6, x7] : List Value).drop 7).take (Tryz.prog.cellsOf 82) = [x7] from cz_one rfl cz_u32]; exact h5
  obtain ⟨a0, e0, _, wf0⟩ := DataW.trod_int Tryz.underlying3 g0
  simp only [List.cons.injEq, and_true] at e0
  subst e0
  obtain ⟨a1, e1, _, wf1⟩ := DataW.trod_int Tryz.underlying3 g1
  simp only [List.cons.injEq, and_true] at e1
  subst e1
  obtain ⟨a2, e2, _, wf2⟩ := DataW.trod_int Tryz.underlying3 g2
  simp only [List.cons.injEq, and_true] at e2
  subst e2
  obtain ⟨k3, n3, t3, e, hk3, hn3, ht3⟩ := pz_cells rfl g3
  cases e
  obtain ⟨a4, e4, _, wf4⟩ := DataW.trod_int Tryz.underlying3 g4
  simp only [List.cons.injEq, and_true] at e4
  subst e4
  obtain ⟨a5, e5, _, wf5⟩ := DataW.trod_int Tryz.underlying82 g5
  simp only [List.cons.injEq, and_true] at e5
  subst e5
  obtain ⟨a5, rfl⟩ : ∃ n : Nat, a5 = (n : Int) := ⟨a5.toNat, by have := wf_u32 wf5; omega⟩
  exact ⟨⟨a0, a1, a2, k3, n3, t3, a4, a5⟩, rfl, ⟨wf_i64 wf0, wf_i64 wf1, wf_i64 wf2, ⟨hk3, hn3, ht3⟩, wf_i64 wf4, (by have := wf_u32 wf5; show a5 < 4294967296; omega)⟩⟩
/-- a value that is such a struct -/
def EnV (w : World) (v : Value) : Prop := ∃ d : EnD, v = .agg d.cells.toArray ∧ d.Ok w
set_option maxRecDepth 100000 in
theorem open_En {v : Value} {d : DataW H} {p : List MemPlace} (hv : Value.okWide Tryz.prog W .any base 84 v) (h : DataW.Trod enc Tryz.prog W 0 (fun _ => true) true 84 v d p) : EnV W v := by
  obtain ⟨cs, rfl, hsz⟩ := okWide_struct Tryz.underlying84 hv
  obtain ⟨fuel, hf⟩ := h
  rw [cz_En] at hsz
  obtain ⟨l⟩ := cs
  obtain ⟨d, rfl, hd⟩ := en_cells (l := l) hsz hf
  exact ⟨d, rfl, hd⟩
/-- what such a struct holds -/
structure SmsD where
  p0 : Option Addr
  n0 : Nat
  c0 : Nat
  a1 : Int
  a2 : Int
  a3 : Int
def SmsD.cells (d : SmsD) : List Value := [.slice d.p0 d.n0 d.c0, .int .i64 d.a1, .int .i64 d.a2, .int .i64 d.a3]
structure SmsD.Ok (w : World) (d : SmsD) : Prop where
  f0 : IsPgs w d.p0 d.n0
  f1 : (-9223372036854775808 ≤ d.a1 ∧ d.a1 ≤ 9223372036854775807)
  f2 : (-9223372036854775808 ≤ d.a2 ∧ d.a2 ≤ 9223372036854775807)
  f3 : (-9223372036854775808 ≤ d.a3 ∧ d.a3 ≤ 9223372036854775807)
theorem SmsD.Ok.below {w w' : World} {d : SmsD} (h : d.Ok w) (hb : Below w.heap.size w w') : d.Ok w' := ⟨h.f0.below hb, h.f1, h.f2, h.f3⟩
/-- a value that is such a struct -/
def SmsV (w : World) (v : Value) : Prop := ∃ d : SmsD, v = .agg d.cells.toArray ∧ d.Ok w
end
end Go.Proofs.YtgihpdhkjneimaaGreatDoor.En

/- Pages that came in, as a list. -/
namespace Go.Proofs.YtgihpdhkjneimaaGreatDoor.En
open Go.RowKit
theorem pgs_list {w : World} {a : Option Addr} {len : Nat} (h : IsPgs w a len) : ∃ L : List PageT, L.length = len ∧ Pgs w a L ∧ ∀ p ∈ L, (-9223372036854775808 ≤ p.1 ∧ p.1 ≤ 9223372036854775807) ∧ (-9223372036854775808 ≤ p.2.1 ∧ p.2.1 ≤ 9223372036854775807) ∧ p.2.2.size ≤ 9223372036854775807 := by
  rcases h.2 with h0 | ⟨b, off, e, hlt, hd⟩
  · exact ⟨[], h0.symm, (fun i hi => absurd hi (by simp)), (fun p hp => absurd hp (by simp))⟩
  · refine ⟨(List.range len).attach.map fun i => ((hd i.1 (List.mem_range.1 i.2)).choose.a0, (hd i.1 (List.mem_range.1 i.2)).choose.a1, (hd i.1 (List.mem_range.1 i.2)).choose.t2), by simp, fun i hi => ?_, fun p hp => ?_⟩
    · have hi' : i < len := by simpa using hi
      have hs := (hd i hi').choose_spec
      refine ⟨b, off, e, hlt, ?_, ?_, ?_⟩
      · simpa using hs.d0
      · simpa using hs.d1
      · simpa using hs.d2
    · obtain ⟨i, -, rfl⟩ := List.mem_map.1 hp
      have hs := (hd i.1 (List.mem_range.1 i.2)).choose_spec
      exact ⟨hs.ok.f0, hs.ok.f1, hs.ok.f2⟩
end Go.Proofs.YtgihpdhkjneimaaGreatDoor.En
