/- PartParts walked: halved again and again at what is chosen two points are parted. -/
import Derived.Test.YtkjcbfdplhcjpaaPtAllW
import Derived.Test.YtkjcbfdplhcjpaaKyWhole
namespace Go.Proofs.Ytkjcbfdplhcjpaa.Pt
open Go.RowKit
open Go.Lib (hid)
open Go.Proofs.Ytkjcbfdplhcjpaa.Ky
open Go.Proofs.Ytkjcbfdplhcjpaa.Bk

theorem sum_set (l : List Nat) (i x : Nat) (h : i < l.length) : (l.set i x).sum + l[i] = l.sum + x := by
  induction l generalizing i with
  | nil => simp at h
  | cons y l ih =>
    cases i with
    | zero => simp; omega
    | succ i =>
      have := ih i (by simpa using h)
      simp at this ⊢; omega
theorem le_sum (l : List Nat) (i : Nat) (h : i < l.length) : l[i] ≤ l.sum := by
  have := sum_set l i 0 h
  omega
/-- a box whose sides are powers of two -/
structure Wd (lo hi es : List Nat) (n : Nat) : Prop where
  l1 : lo.length = n
  l2 : hi.length = n
  l3 : es.length = n
  w : ∀ j, (h : j < n) → hi[j]'(by omega) + 1 = lo[j]'(by omega) + 2 ^ (es[j]'(by omega))
theorem Wd.le {lo hi es : List Nat} {n : Nat} (h : Wd lo hi es n) : leAll lo hi = true := leAll_iff.2 ⟨by rw [h.l1, h.l2], fun j hj hj' => by
  have h1 := h.w j (by have := h.l1; omega)
  have := Nat.two_pow_pos (es[j]'(by have := h.l3; have := h.l1; omega))
  omega⟩
theorem Wd.half {lo hi es : List Nat} {n j : Nat} (h : Wd lo hi es n) (hn : mayN n = true) (hj : j < n) (hne : lo[j]'(by have := h.l1; omega) < hi[j]'(by have := h.l2; omega)) : halfB lo hi (j : Int) = true := by
  have h1 := h.l1
  have h2 := h.l2
  unfold halfB boxB checkB
  rw [h.le, mayB_nat, h1, hn, Int.toNat_natCast, List.getD_eq_getElem?_getD, List.getD_eq_getElem?_getD, List.getElem?_eq_getElem (by omega), List.getElem?_eq_getElem (by omega)]
  simp; omega
theorem Wd.exp {lo hi es : List Nat} {n j : Nat} (h : Wd lo hi es n) (hj : j < n) (hne : lo[j]'(by have := h.l1; omega) < hi[j]'(by have := h.l2; omega)) : 1 ≤ es[j]'(by have := h.l3; omega) := by
  have h1 := h.w j hj
  rcases Nat.eq_zero_or_pos (es[j]'(by have := h.l3; omega)) with e | e
  · rw [e] at h1; omega
  · exact e
theorem diff_at {a b : List Nat} (h : a ≠ b) (hl : a.length = b.length) : ∃ j, ∃ (h1 : j < a.length) (h2 : j < b.length), a[j] ≠ b[j] := by
  refine Classical.byContradiction fun hc => h (List.ext_getElem hl fun j h1 h2 => ?_)
  exact Classical.byContradiction fun hn => hc ⟨j, h1, h2, hn⟩
theorem in_at {k lo hi : List Nat} (h : inB k lo hi = true) : k.length = lo.length ∧ k.length = hi.length ∧ ∀ j (h1 : j < k.length) (h2 : j < lo.length) (h3 : j < hi.length), lo[j] ≤ k[j] ∧ k[j] ≤ hi[j] := by
  unfold inB at h
  simp only [Bool.and_eq_true] at h
  obtain ⟨x1, x2⟩ := leAll_iff.1 h.1
  obtain ⟨y1, y2⟩ := leAll_iff.1 h.2
  exact ⟨x1.symm, y1, fun j h1 h2 h3 => ⟨x2 j h2 h1, y2 j h1 h3⟩⟩
theorem wide_at {a b lo hi es : List Nat} {n : Nat} (hw : Wd lo hi es n) (ha : inB a lo hi = true) (hb : inB b lo hi = true) (hne : a ≠ b) : ∃ j, ∃ (h : j < n), lo[j]'(by have := hw.l1; omega) < hi[j]'(by have := hw.l2; omega) := by
  obtain ⟨a1, a2, a3⟩ := in_at ha
  obtain ⟨b1, b2, b3⟩ := in_at hb
  have h1 := hw.l1
  have h2 := hw.l2
  obtain ⟨j, g1, g2, g3⟩ := diff_at hne (by omega)
  have x := a3 j g1 (by omega) (by omega)
  have y := b3 j g2 (by omega) (by omega)
  exact ⟨j, by omega, by omega⟩
theorem cho_none_spec {q : Nat → Bool} {n f : Nat} (hf : f < n) (h : cho q n f = none) {j : Nat} (hj : j < n) : q j = false := by
  unfold cho at h
  rw [Option.map_eq_none_iff, List.find?_eq_none] at h
  have hi : (f + (j + n - f) % n) % n = j := by
    by_cases e : f ≤ j
    · rw [show (j + n - f) % n = j - f by rw [show j + n - f = (j - f) + n by omega, Nat.add_mod_right, Nat.mod_eq_of_lt (by omega)]]
      rw [show f + (j - f) = j by omega, Nat.mod_eq_of_lt hj]
    · rw [Nat.mod_eq_of_lt (show j + n - f < n by omega), show f + (j + n - f) = j + n by omega, Nat.add_mod_right, Nat.mod_eq_of_lt hj]
  have := h ((j + n - f) % n) (List.mem_range.2 (Nat.mod_lt _ (by omega)))
  rw [hi] at this
  simpa using this
theorem choose_true {lo hi : List Nat} {n f j : Nat} (L : List Rec) (hl : lo.length = n) (hf : f < n) (hj : j < n) (h : halfB lo hi (j : Int) = true) : ∃ a : Nat, a < n ∧ chooseN lo hi L f = (a, true) ∧ halfB lo hi (a : Int) = true := by
  unfold chooseN
  rw [hl]
  cases e1 : cho (fun a => pick1 lo hi L (a : Int)) n f with
  | some a =>
    obtain ⟨h1, h2⟩ := cho_spec e1
    refine ⟨a, h2 (by omega), rfl, ?_⟩
    unfold pick1 at h1
    simp only [Bool.and_eq_true] at h1
    exact h1.1
  | none =>
    cases e2 : cho (fun a => halfB lo hi (a : Int)) n f with
    | some a =>
      obtain ⟨h1, h2⟩ := cho_spec e2
      exact ⟨a, h2 (by omega), rfl, h1⟩
    | none =>
      have := cho_none_spec (q := fun a => halfB lo hi (a : Int)) hf e2 hj
      rw [h] at this
      cases this
/-- the halves are such boxes, too -/
theorem Wd.step {lo hi es : List Nat} {n a : Nat} (h : Wd lo hi es n) (hb : halfB lo hi (a : Int) = true) (ha : a < n) :
    ∃ es', Wd (xlo lo hi (a : Int)) (xhi lo hi (a : Int)) es' n ∧ Wd (ylo lo hi (a : Int)) (yhi lo hi (a : Int)) es' n ∧ es'.sum + 1 = es.sum := by
  obtain ⟨i, ei, h1, h2, hlen, hle, hc, h3, h4, h5⟩ := half_facts hb
  obtain rfl : a = i := by omega
  have e1 : xlo lo hi (a : Int) = lo := by unfold xlo; rw [hb]; rfl
  have e2 : xhi lo hi (a : Int) = hi.set a (midN lo hi a) := by unfold xhi; rw [hb, Int.toNat_natCast]; rfl
  have e3 : ylo lo hi (a : Int) = lo.set a (midN lo hi a + 1) := by unfold ylo; rw [hb, Int.toNat_natCast]; rfl
  have e4 : yhi lo hi (a : Int) = hi := by unfold yhi; rw [hb]; rfl
  rw [e1, e2, e3, e4]
  have z1 := h.l1
  have z2 := h.l2
  have z3 := h.l3
  have hx := h.exp ha h3
  have hw := h.w a ha
  have hm : midN lo hi a = lo[a] + (hi[a] - lo[a]) / 2 := by
    unfold midN
    rw [List.getD_eq_getElem?_getD, List.getD_eq_getElem?_getD, List.getElem?_eq_getElem h1, List.getElem?_eq_getElem h2]; rfl
  obtain ⟨e, he⟩ : ∃ e, es[a]'(by omega) = e + 1 := ⟨es[a]'(by omega) - 1, by omega⟩
  rw [he, Nat.pow_succ] at hw
  have hp := Nat.two_pow_pos e
  have hm2 : midN lo hi a + 1 = lo[a] + 2 ^ e := by omega
  refine ⟨es.set a e, ⟨z1, by simp [z2], by simp [z3], fun j hj => ?_⟩, ⟨by simp [z1], z2, by simp [z3], fun j hj => ?_⟩, ?_⟩
  · by_cases ej : a = j
    · subst ej
      rw [List.getElem_set_self, List.getElem_set_self]; exact hm2
    · rw [List.getElem_set_ne ej, List.getElem_set_ne ej]; exact h.w j hj
  · by_cases ej : a = j
    · subst ej
      rw [List.getElem_set_self, List.getElem_set_self]; omega
    · rw [List.getElem_set_ne ej, List.getElem_set_ne ej]; exact h.w j hj
  · have := sum_set es a e (by omega)
    omega
theorem Wd.whole (n : Nat) : Wd (lowW n) (highW n) (List.replicate n 32) n :=
  ⟨by simp [lowW], by simp [highW], by simp, fun j hj => by simp [lowW, highW]⟩
theorem in_whole {a : List Nat} {n : Nat} (h : a.length = n) (hf : ∀ x ∈ a, x < 4294967296) : inB a (lowW n) (highW n) = true := by
  unfold inB
  rw [Bool.and_eq_true, leAll_iff, leAll_iff]
  refine ⟨⟨by simp [lowW, h], fun j h1 h2 => by simp [lowW]⟩, ⟨by simp [highW, h], fun j h1 h2 => ?_⟩⟩
  have := hf a[j] (List.getElem_mem h1)
  simp [highW]; omega
/-- the loop: the box at g9, its exponents -/
def PR (a b : List Nat) (n : Nat) (W : World) (g : Nat) (s2 s10 : Value) (wr : World) : Prop :=
  ∃ (i f : Nat) (lo hi es : List Nat) (p q : Option Addr) (c c' : Nat), s10 = .int .i64 (i : Int) ∧ s2 = .int .i64 (f : Int) ∧ f < n ∧ Wd lo hi es n ∧ es.sum + i = 32 * n ∧ (inB a lo hi = true ∧ inB b lo hi = true) ∧
    wr.heap[g]? = some (.cells #[.slice p n c, .slice q n c'] 35) ∧ (Pt wr p lo ∧ Pt wr q hi) ∧ Below g W wr
theorem pt_off2 {w : World} {A : Option Addr} {l : List Nat} (h : Pt w A l) {g : Nat} {p q p' q' : Option Addr} {n c n' c' m d m' d' : Nat} (hg : w.heap[g]? = some (.cells #[.slice p n c, .slice q n' c'] 35)) :
    Pt ((w.setCell ⟨g, 0, none⟩ (.slice p' m d)).setCell ⟨g, 1, none⟩ (.slice q' m' d')) A l := by
  have b1 : (w.setCell ⟨g, 0, none⟩ (.slice p' m d)).heap[g]? = some (.cells #[.slice p' m d, .slice q n' c'] 35 (0, 0)) := by simp [World.setCell, Array.getElem?_modify, hg]
  exact (h.off hg (by simp) (by simp)).off b1 (by simp) (by simp)
end Go.Proofs.Ytkjcbfdplhcjpaa.Pt
namespace Go.Proofs.Ytkjcbfdplhcjpaa
open Go.RowKit
open Go.Lib (hid)
open Go.ChangeShapes Go.WideShapes Go.Joins
open Go.Proofs.Ytkjcbfdplhcjpaa.Ky
open Go.Proofs.Ytkjcbfdplhcjpaa.Bk
open Go.Proofs.Ytkjcbfdplhcjpaa.Pt
set_option maxRecDepth 100000 in
theorem PartParts_open0 {H : Type} {enc : TypeId × Value → H} {W : World} {base : Nat} {v : Value} {d : DataW H} {p : List MemPlace} (hv : Value.okWide Try.prog W .any base 31 v) (h : DataW.Trod enc Try.prog W 0 (fun _ => true) true 31 v d p) : KeyV W v := open_keyv hv h
set_option maxRecDepth 100000 in
theorem PartParts_open1 {H : Type} {enc : TypeId × Value → H} {W : World} {base : Nat} {v : Value} {d : DataW H} {p : List MemPlace} (hv : Value.okWide Try.prog W .any base 31 v) (h : DataW.Trod enc Try.prog W 0 (fun _ => true) true 31 v d p) : KeyV W v := open_keyv hv h
set_option maxRecDepth 100000 in
set_option maxHeartbeats 2000000 in
theorem parts_no (a b : List Nat) (pa pb : Option Addr) (ca cb : Nat) (f : Int) (w : World) (hp : Pt w pa a) (hq : Pt w pb b) (hl : a.length ≤ 9223372036854775807) (h : ¬ (mayN a.length = true ∧ b.length = a.length ∧ a ≠ b ∧ 0 ≤ f ∧ f < (a.length : Int))) :
    Calls Try.prog 13 #[.slice pa a.length ca, .slice pb b.length cb, .int .i64 f] w fun e w' => e = .returned (.bool true) ∧ Below w.heap.size w w' := by
  have HC := hid (refCheck_ok pa a.length ca (a.length : Int) w)
  cases hm : mayN a.length with
  | false =>
    rw [show checkB a.length (a.length : Int) = false by unfold checkB; rw [mayB_nat, hm]; rfl, err_false false rfl] at HC
    clear hp hq hl h hm
    go_enter Try.func13, Try.ntmps13
    go_wp2_with fail
    refine HC.out.mono ?_
    rintro e w1 ⟨rfl, rfl⟩
    go_wp2_with fail
    refine (Pt.live_any _).mono ?_
    rintro e w2 ⟨rfl, hb⟩
    have H1 := hid hb; clear hb
    go_wp2_with fail
    go_ret
    exact ⟨rfl, H1.out⟩
  | true =>
    have h6 : a.length ≤ 6 := by unfold mayN at hm; simp at hm; omega
    rw [show checkB a.length (a.length : Int) = true by unfold checkB; rw [mayB_nat, hm]; simp, err_true true rfl] at HC
    by_cases hb : b.length = a.length
    · have e1 : ((b.length : Int) != (a.length : Int)) = false := by simp [hb]
      have e1' : (b.length != a.length) = false := by simp [hb]
      have HS := hid (same_ok a b pa pb ca cb w hp hq (by omega))
      by_cases hne : a = b
      · rw [show sameB a b = true by simp [sameB, hne]] at HS
        clear hp hq hl h hm hb hne h6
        go_enter Try.func13, Try.ntmps13
        go_wp2_with fail
        refine HC.out.mono ?_
        rintro e w1 ⟨rfl, rfl⟩
        go_wp2_with fail
        refine HS.out.mono ?_
        rintro e w1 ⟨rfl, m, hw⟩
        have H0 := hid (show Below w.heap.size w w1 by rw [hw]; exact below_drewN (Below.refl _ _) m); clear hw
        go_wp2_with fail
        refine (Pt.live_any _).mono ?_
        rintro e w2 ⟨rfl, hb⟩
        have H1 := hid (H0.out.trans (hb.mono H0.out.size)); clear hb
        go_wp2_with fail
        go_ret
        exact ⟨rfl, H1.out⟩
      · rw [show sameB a b = false by simp [sameB, hne]] at HS
        by_cases hf0 : f < 0
        · have e2 : decide (f < 0) = true := by simpa using hf0
          clear hp hq hl h hm hb hne h6 hf0
          go_enter Try.func13, Try.ntmps13
          go_wp2_with fail
          refine HC.out.mono ?_
          rintro e w1 ⟨rfl, rfl⟩
          go_wp2_with fail
          refine HS.out.mono ?_
          rintro e w1 ⟨rfl, m, hw⟩
          have H0 := hid (show Below w.heap.size w w1 by rw [hw]; exact below_drewN (Below.refl _ _) m); clear hw
          go_wp2_with fail
          refine (Pt.live_any _).mono ?_
          rintro e w2 ⟨rfl, hb⟩
          have H1 := hid (H0.out.trans (hb.mono H0.out.size)); clear hb
          go_wp2_with fail
          go_ret
          exact ⟨rfl, H1.out⟩
        · have e2 : decide (f < 0) = false := by simpa using hf0
          have e3 : decide ((a.length : Int) ≤ f) = true := by
            have : ¬ f < (a.length : Int) := fun h1 => h ⟨hm, hb, hne, by omega, h1⟩
            simp; omega
          clear hp hq hl h hm hb hne h6 hf0
          go_enter Try.func13, Try.ntmps13
          go_wp2_with fail
          refine HC.out.mono ?_
          rintro e w1 ⟨rfl, rfl⟩
          go_wp2_with fail
          refine HS.out.mono ?_
          rintro e w1 ⟨rfl, m, hw⟩
          have H0 := hid (show Below w.heap.size w w1 by rw [hw]; exact below_drewN (Below.refl _ _) m); clear hw
          go_wp2_with fail
          refine (Pt.live_any _).mono ?_
          rintro e w2 ⟨rfl, hb⟩
          have H1 := hid (H0.out.trans (hb.mono H0.out.size)); clear hb
          go_wp2_with fail
          go_ret
          exact ⟨rfl, H1.out⟩
    · have e1 : ((b.length : Int) != (a.length : Int)) = true := by simp; omega
      have e1' : (b.length != a.length) = true := by simp; omega
      clear hp hq hl h hm hb h6
      go_enter Try.func13, Try.ntmps13
      go_wp2_with fail
      refine HC.out.mono ?_
      rintro e w1 ⟨rfl, rfl⟩
      go_wp2_with fail
      refine (Pt.live_any _).mono ?_
      rintro e w2 ⟨rfl, hb⟩
      have H1 := hid hb; clear hb
      go_wp2_with fail
      go_ret
      exact ⟨rfl, H1.out⟩
theorem cp_blk {w V : World} {P : List (Option Addr × List Nat)} {B : List (Nat × Value × Value)} {R : List (Option Addr × List Rec)} (h : Cp w V P B R) {g : Nat} {x y : Value} (hg : V.heap[g]? = some (.cells #[x, y] 35)) : Cp w V P ((g, x, y) :: B) R :=
  ⟨h.below, h.pts, fun z hz => by
    rcases List.mem_cons.1 hz with rfl | hz
    · exact hg
    · exact h.bxs z hz, h.rcs⟩
set_option maxRecDepth 100000 in
set_option maxHeartbeats 8000000 in
theorem parts_go (a b : List Nat) (pa pb : Option Addr) (ca cb f0 : Nat) (w : World) (hp : Pt w pa a) (hq : Pt w pb b) (hmay : mayN a.length = true) (hlen : b.length = a.length) (hne : a ≠ b) (hf0 : f0 < a.length) :
    Calls Try.prog 13 #[.slice pa a.length ca, .slice pb b.length cb, .int .i64 (f0 : Int)] w fun e w' => e = .returned (.bool true) ∧ Below w.heap.size w w' := by
  have h6 : 1 ≤ a.length ∧ a.length ≤ 6 := by unfold mayN at hmay; simp at hmay; omega
  have HC := hid (refCheck_ok pa a.length ca (a.length : Int) w)
  rw [show checkB a.length (a.length : Int) = true by unfold checkB; rw [mayB_nat, hmay]; simp, err_true true rfl] at HC
  have HS := hid (same_ok a b pa pb ca cb w hp hq (by omega))
  rw [show sameB a b = false by simp [sameB, hne]] at HS
  have HWH := hid fun (V : World) => refWhole_ok (a.length : Int) V
  rw [show wholeLo (a.length : Int) = lowW a.length by unfold wholeLo; rw [if_pos (by omega), Int.toNat_natCast], show wholeHi (a.length : Int) = highW a.length by unfold wholeHi; rw [if_pos (by omega), Int.toNat_natCast]] at HWH
  have H0 := hid (((Cp.start w).more hp).more hq)
  have HIW := hid (And.intro (in_whole (a := a) (n := a.length) rfl (pt_mem hp)) (in_whole (a := b) (n := a.length) hlen (pt_mem hq)))
  obtain ⟨L, hL⟩ : ∃ L : List Rec, [(a, (⟨#[]⟩ : ByteArray)), (b, ⟨#[]⟩)] = L := ⟨_, rfl⟩
  have hbigL : bigR L := by
    rw [← hL]
    refine ⟨by simp, fun r hr => ?_⟩
    rcases List.mem_cons.1 hr with rfl | hr
    · exact ⟨by show a.length ≤ 1000; omega, by show (0 : Nat) ≤ 1000; omega⟩
    · rcases List.mem_cons.1 hr with rfl | hr
      · exact ⟨by show b.length ≤ 1000; omega, by show (0 : Nat) ≤ 1000; omega⟩
      · simp at hr
  have hL2 : L.length = 2 := by rw [← hL]; rfl
  have HPA := hid hp; have HPB := hid hq
  have HBL := hid hbigL; have HL2 := hid hL2; have HL := hid hL
  have HNE := hid hne; have HMAY := hid hmay; have HF0 := hid hf0
  obtain ⟨n, hn⟩ : ∃ n, a.length = n := ⟨_, rfl⟩
  have hbn : b.length = n := by omega
  rw [hn] at h6 HC HS HWH HIW HMAY HF0
  rw [hbn] at HS
  have HAN := hid hn; have HBN := hid hbn
  rw [hn, hbn]
  have e1 : ((n : Int) != (n : Int)) = false := by simp
  have e1' : (n != n) = false := by simp
  have e2 : decide ((f0 : Int) < 0) = false := by simp
  have e3 : decide ((n : Int) ≤ (f0 : Int)) = false := by simp; omega
  have e3' : decide (n ≤ f0) = false := by simp; omega
  obtain ⟨h1n, h6n⟩ := h6
  clear hp hq hmay hlen hne hf0 hbigL hL2 hn hbn hL
  go_enter Try.func13, Try.ntmps13
  go_wp2_with fail
  refine HC.out.mono ?_
  rintro e w1 ⟨rfl, rfl⟩
  go_wp2_with fail
  refine HS.out.mono ?_
  rintro e w2 ⟨rfl, m, hw⟩
  have H1 := hid (H0.out.step (show Below w.heap.size w w2 by rw [hw]; exact below_drewN (Below.refl _ _) m)); clear hw H0
  have H2 := hid (H1.out.two (q := pa) (k := a) (q' := pb) (k' := b) ca cb ⟨#[]⟩ ⟨#[]⟩ (by simp) (by simp))
  rw [HAN.out, HBN.out, HL.out] at H2
  go_wp2_with fail
  refine (HWH.out _).mono ?_
  rintro e w3 ⟨A, c1, A', c2, rfl, q1, q2, hb⟩
  have H3 := hid (((H2.out.step hb).more q1).more q2); clear hb q1 q2 H1 H2
  simp only [show (lowW n).length = n by simp [lowW], show (highW n).length = n by simp [highW]]
  obtain ⟨W, hW⟩ : ∃ W, w3.alloc (.cells #[Value.slice A n c1, .slice A' n c2] 35) = W := ⟨_, rfl⟩
  have H4 := hid (H3.out.box (.slice A n c1) (.slice A' n c2))
  rw [hW] at H4
  have HWL := hid (show w.heap.size ≤ w3.heap.size from H3.out.below.size)
  have HLS := hid (show Rs (fun k => w3.heap.size ≤ k) W (some ⟨w2.heap.size, 0, none⟩) L from by
    have h1 := H3.out.rs (p := some ⟨w2.heap.size, 0, none⟩) (L := L) (List.mem_cons_self ..)
    rw [← hW]
    exact (h1.less (D' := fun k => w3.heap.size ≤ k) fun b hb h => absurd hb (by omega)).below (below_alloc _ _))
  have HWS := hid (show w3.heap.size < W.heap.size by rw [← hW]; simp)
  go_wp2_with fail
  clear hW e1 e1' e2 e3 e3'
  have hwr : IntKind.i64.wrap (32 * (n : Int)) = 32 * (n : Int) := Go.IntWalk.i64_in _ (by omega)
  go_loopw [2, 10] (fun s2 s10 wr => PR a b n W w3.heap.size s2 s10 wr) (fun _ s10 _ => 32 * n - (intOf s10).toNat)
  case atStart => exact ⟨0, f0, lowW n, highW n, List.replicate n 32, A, A', c1, c2, rfl, rfl, HF0.out, Wd.whole n, by simp; omega, HIW.out, H4.out.bxs (w3.heap.size, _, _) (by simp), ⟨H4.out.pt (p := A) (by simp), H4.out.pt (p := A') (by simp)⟩, Below.refl _ _⟩
  case round =>
    rename World => wa
    obtain ⟨i, f, lo, hi, es, p, q, c, c', rfl, rfl, hf, hw, hsum, ⟨hia, hib⟩, hg, ⟨hp, hq⟩, hb⟩ := hrel
    obtain ⟨j, hj, hjlt⟩ := wide_at hw hia hib HNE.out
    have hes : 1 ≤ es.sum := Nat.le_trans (hw.exp hj hjlt) (le_sum es j _)
    obtain ⟨at_, hat, hch, hhb⟩ := choose_true L hw.l1 hf hj (hw.half HMAY.out hj hjlt)
    obtain ⟨es', hx, hy, hs'⟩ := hw.step hhb hat
    obtain ⟨m1, m2⟩ := half_in hhb a
    obtain ⟨m3, m4⟩ := half_in hhb b
    rw [hia] at m1
    rw [hib] at m3
    have hB : Below w.heap.size w wa := H4.out.below.trans (hb.mono HWL.out)
    have hga : w3.heap.size < wa.heap.size := Nat.lt_of_lt_of_le HWS.out hb.size
    have hls : Rs (fun k => w3.heap.size ≤ k) wa (some ⟨w2.heap.size, 0, none⟩) L := HLS.out.keep ⟨hb.size, fun k _ hD => hb.block k (Nat.lt_of_not_le hD)⟩
    have HCH := hid (choose_ok lo hi L p q (some ⟨w2.heap.size, 0, none⟩) c c' 2 (f : Int) wa hp hq hls (by rw [hw.l1]; omega) HBL.out)
    rw [show chooseR lo hi L (f : Int) = (at_, true) by unfold chooseR; rw [if_pos (by rw [hw.l1]; omega), Int.toNat_natCast, hch], HL2.out, hw.l1, hw.l2] at HCH
    have HH := hid fun (V : World) (g : Pt V p lo) (g' : Pt V q hi) => halves_ok lo hi p q c c' (at_ : Int) V g g' (by rw [hw.l1]; omega)
    unfold HalfPost at HH
    rw [hhb, hw.l1, hw.l2, hx.l1, hx.l2, hy.l1, hy.l2] at HH
    have K0 := hid (cp_blk ((((((Cp.start wa).more (HPA.out.below hB)).more (HPB.out.below hB)).more hp).more hq).list hls) hg)
    have HI1 := hid fun (V : World) (k : List Nat) (pk p1 p2 : Option Addr) (ck c1 c2 : Nat) (g0 : Pt V pk k) (g : Pt V p1 (xlo lo hi (at_ : Int))) (g' : Pt V p2 (xhi lo hi (at_ : Int))) (hk : k.length = n) => (show Calls Try.prog 37 #[.slice pk n ck, .agg #[.slice p1 n c1, .slice p2 n c2]] V fun e w' => e = .returned (.bool (inB k (xlo lo hi (at_ : Int)) (xhi lo hi (at_ : Int)))) ∧ Below V.heap.size V w' from by
      have := refIn_ok k _ _ pk p1 p2 ck c1 c2 V g0 g g' (by omega)
      rw [hk, hx.l1, hx.l2] at this; exact this)
    have HI2 := hid fun (V : World) (k : List Nat) (pk p1 p2 : Option Addr) (ck c1 c2 : Nat) (g0 : Pt V pk k) (g : Pt V p1 (ylo lo hi (at_ : Int))) (g' : Pt V p2 (yhi lo hi (at_ : Int))) (hk : k.length = n) => (show Calls Try.prog 37 #[.slice pk n ck, .agg #[.slice p1 n c1, .slice p2 n c2]] V fun e w' => e = .returned (.bool (inB k (ylo lo hi (at_ : Int)) (yhi lo hi (at_ : Int)))) ∧ Below V.heap.size V w' from by
      have := refIn_ok k _ _ pk p1 p2 ck c1 c2 V g0 g g' (by omega)
      rw [hk, hy.l1, hy.l2] at this; exact this)
    have hlt : (i : Int) < 32 * (n : Int) := by omega
    have e1 : decide ((i : Int) < 32 * (n : Int)) = true := by simp; omega
    obtain ⟨f', hf'⟩ : ∃ f', (at_ + 1) % n = f' := ⟨_, rfl⟩
    have hfn : f' < n := by rw [← hf']; exact Nat.mod_lt _ (by omega)
    have s1 : IntKind.i64.wrap ((at_ : Int) + 1) = (at_ : Int) + 1 := Go.IntWalk.i64_in _ (by omega)
    have s2 : ((at_ : Int) + 1) % (n : Int) = (f' : Int) := by rw [← hf']; simp
    have s3 : ((at_ : Int) + 1).tmod (n : Int) = (f' : Int) := by rw [Int.tmod_eq_emod_of_nonneg (by omega)]; exact s2
    have s4 : IntKind.i64.wrap (f' : Int) = (f' : Int) := Go.IntWalk.i64_in _ (by omega)
    have s5 : ((n : Int) == 0) = false := by simp; omega
    have HXW := hid hx; have HYW := hid hy; have HSU := hid (show es'.sum + (i + 1) = 32 * n by omega)
    have HFN := hid hfn; have HBW := hid hb; have HGA := hid hga; have HBB := hid hB
    have HI32 := hid (show i < 32 * n by omega)
    clear hf hw hsum hia hib hg hp hq hb hj hjlt hes hat hch hhb hx hy hs' hB hga hls hfn hf'
    generalize xlo lo hi (at_ : Int) = XL at *
    generalize xhi lo hi (at_ : Int) = XH at *
    generalize ylo lo hi (at_ : Int) = YL at *
    generalize yhi lo hi (at_ : Int) = YH at *
    have za := (K0.out.cells (g := w3.heap.size) (a := .slice p n c) (b := .slice q n c') (by simp))
    have hcase : ((inB a XL XH = true ∧ inB a YL YH = false) ∨ (inB a XL XH = false ∧ inB a YL YH = true)) ∧ ((inB b XL XH = true ∧ inB b YL YH = false) ∨ (inB b XL XH = false ∧ inB b YL YH = true)) := by
      constructor
      · cases e : inB a XL XH <;> cases e' : inB a YL YH <;> simp [e, e'] at m1 m2 ⊢
      · cases e : inB b XL XH <;> cases e' : inB b YL YH <;> simp [e, e'] at m3 m4 ⊢
    have HCS := hid hcase
    clear m1 m2 m3 m4 hcase
    go_wp2_with fail
    refine HCH.out.mono ?_
    rintro e w4 ⟨rfl, hb⟩
    dsimp only
    have K1 := hid (K0.out.step hb); clear hb K0 za
    have za := (K1.out.cells (g := w3.heap.size) (a := .slice p n c) (b := .slice q n c') (by simp))
    go_wp2_with fail
    refine (HH.out _ (K1.out.pt (p := p) (l := lo) (by simp)) (K1.out.pt (p := q) (l := hi) (by simp))).mono ?_
    rintro e w5 ⟨p1, k1, p2, k2, p3, k3, p4, k4, rfl, g1, g2, g3, g4, hb⟩
    have K2 := hid ((((((K1.out.step hb).more g1).more g2).more g3).more g4).box (.slice p1 n k1) (.slice p2 n k2) |>.box (.slice p3 n k3) (.slice p4 n k4)); clear hb g1 g2 g3 g4 K1 za
    simp only [World.size_alloc] at K2
    obtain ⟨hca, hcb⟩ := HCS.out
    clear HCS
    rcases hca with ⟨ea, ea'⟩ | ⟨ea, ea'⟩ <;> rcases hcb with ⟨eb, eb'⟩ | ⟨eb, eb'⟩
    all_goals
      have EA := hid ea; have EA' := hid ea'; have EB := hid eb; have EB' := hid eb'
      clear ea ea' eb eb'
    · skip
      have zx := K2.out.cells (g := w5.heap.size) (a := .slice p1 n k1) (b := .slice p2 n k2) (by simp)
      go_wp2_with fail
      have CC := HI1.out _ a pa p1 p2 ca k1 k2 (K2.out.pt (p := pa) (l := a) (by simp)) (K2.out.pt (p := p1) (l := XL) (by simp)) (K2.out.pt (p := p2) (l := XH) (by simp)) HAN.out
      rw [EA.out] at CC
      refine CC.mono ?_
      rintro e v3 ⟨rfl, hb⟩
      have K3 := hid (K2.out.step hb); clear hb K2 zx CC
      have zx := K3.out.cells (g := w5.heap.size) (a := .slice p1 n k1) (b := .slice p2 n k2) (by simp)
      go_wp2_with fail
      have CC := HI1.out _ b pb p1 p2 cb k1 k2 (K3.out.pt (p := pb) (l := b) (by simp)) (K3.out.pt (p := p1) (l := XL) (by simp)) (K3.out.pt (p := p2) (l := XH) (by simp)) HBN.out
      rw [EB.out] at CC
      refine CC.mono ?_
      rintro e v4 ⟨rfl, hb⟩
      have K4 := hid (K3.out.step hb); clear hb K3 zx CC
      have zx := K4.out.cells (g := w5.heap.size) (a := .slice p1 n k1) (b := .slice p2 n k2) (by simp)
      have hg := K4.out.bxs (w3.heap.size, .slice p n c, .slice q n c') (by simp)
      have zg := two_cells hg
      have HG := hid hg; clear hg
      have HRA := hid (show _ ∧ _ ∧ _ ∧ _ from ⟨two_set HG.out (.slice p1 n k1) (.slice p2 n k2), pt_off2 (p' := p1) (q' := p2) (m := n) (d := k1) (m' := n) (d' := k2) (K4.out.pt (p := p1) (l := XL) (by simp)) HG.out, pt_off2 (p' := p1) (q' := p2) (m := n) (d := k1) (m' := n) (d' := k2) (K4.out.pt (p := p2) (l := XH) (by simp)) HG.out, ((HBW.out.trans (K4.out.below.mono (Nat.le_of_lt HGA.out))).setCell (p := ⟨w3.heap.size, 0, none⟩) (Nat.le_refl _) (.slice p1 n k1)).setCell (p := ⟨w3.heap.size, 1, none⟩) (Nat.le_refl _) (.slice p2 n k2)⟩)
      go_wp2_with fail
      go_roundw
      case rel => exact ⟨i + 1, f', XL, XH, es', p1, p2, k1, k2, by go_num, rfl, HFN.out, HXW.out, HSU.out, ⟨EA.out, EB.out⟩, HRA.out.1, ⟨HRA.out.2.1, HRA.out.2.2.1⟩, HRA.out.2.2.2⟩
      case measure => simp [intOf]; have := HI32.out; omega
    · skip
      have zx := K2.out.cells (g := w5.heap.size) (a := .slice p1 n k1) (b := .slice p2 n k2) (by simp)
      go_wp2_with fail
      have CC := HI1.out _ a pa p1 p2 ca k1 k2 (K2.out.pt (p := pa) (l := a) (by simp)) (K2.out.pt (p := p1) (l := XL) (by simp)) (K2.out.pt (p := p2) (l := XH) (by simp)) HAN.out
      rw [EA.out] at CC
      refine CC.mono ?_
      rintro e v3 ⟨rfl, hb⟩
      have K3 := hid (K2.out.step hb); clear hb K2 zx CC
      have zx := K3.out.cells (g := w5.heap.size) (a := .slice p1 n k1) (b := .slice p2 n k2) (by simp)
      go_wp2_with fail
      have CC := HI1.out _ b pb p1 p2 cb k1 k2 (K3.out.pt (p := pb) (l := b) (by simp)) (K3.out.pt (p := p1) (l := XL) (by simp)) (K3.out.pt (p := p2) (l := XH) (by simp)) HBN.out
      rw [EB.out] at CC
      refine CC.mono ?_
      rintro e v4 ⟨rfl, hb⟩
      have K4 := hid (K3.out.step hb); clear hb K3 zx CC
      have zx := K4.out.cells (g := w5.heap.size + 1) (a := .slice p3 n k3) (b := .slice p4 n k4) (by simp)
      go_wp2_with fail
      have CC := HI2.out _ a pa p3 p4 ca k3 k4 (K4.out.pt (p := pa) (l := a) (by simp)) (K4.out.pt (p := p3) (l := YL) (by simp)) (K4.out.pt (p := p4) (l := YH) (by simp)) HAN.out
      rw [EA'.out] at CC
      refine CC.mono ?_
      rintro e v5 ⟨rfl, hb⟩
      have K5 := hid (K4.out.step hb); clear hb K4 zx CC
      go_wp2_with fail
      refine (Pt.live_any _).mono ?_
      rintro e v6 ⟨rfl, hb⟩
      have HE := hid (HBB.out.trans ((K5.out.below.trans (hb.mono K5.out.below.size)).mono HBB.out.size)); clear hb
      go_wp2_with fail
      go_ret
      exact ⟨rfl, HE.out⟩
    · skip
      have zx := K2.out.cells (g := w5.heap.size) (a := .slice p1 n k1) (b := .slice p2 n k2) (by simp)
      go_wp2_with fail
      have CC := HI1.out _ a pa p1 p2 ca k1 k2 (K2.out.pt (p := pa) (l := a) (by simp)) (K2.out.pt (p := p1) (l := XL) (by simp)) (K2.out.pt (p := p2) (l := XH) (by simp)) HAN.out
      rw [EA.out] at CC
      refine CC.mono ?_
      rintro e v3 ⟨rfl, hb⟩
      have K3 := hid (K2.out.step hb); clear hb K2 zx CC
      have zx := K3.out.cells (g := w5.heap.size + 1) (a := .slice p3 n k3) (b := .slice p4 n k4) (by simp)
      go_wp2_with fail
      have CC := HI2.out _ a pa p3 p4 ca k3 k4 (K3.out.pt (p := pa) (l := a) (by simp)) (K3.out.pt (p := p3) (l := YL) (by simp)) (K3.out.pt (p := p4) (l := YH) (by simp)) HAN.out
      rw [EA'.out] at CC
      refine CC.mono ?_
      rintro e v4 ⟨rfl, hb⟩
      have K4 := hid (K3.out.step hb); clear hb K3 zx CC
      have zx := K4.out.cells (g := w5.heap.size + 1) (a := .slice p3 n k3) (b := .slice p4 n k4) (by simp)
      go_wp2_with fail
      have CC := HI2.out _ b pb p3 p4 cb k3 k4 (K4.out.pt (p := pb) (l := b) (by simp)) (K4.out.pt (p := p3) (l := YL) (by simp)) (K4.out.pt (p := p4) (l := YH) (by simp)) HBN.out
      rw [EB'.out] at CC
      refine CC.mono ?_
      rintro e v5 ⟨rfl, hb⟩
      have K5 := hid (K4.out.step hb); clear hb K4 zx CC
      go_wp2_with fail
      refine (Pt.live_any _).mono ?_
      rintro e v6 ⟨rfl, hb⟩
      have HE := hid (HBB.out.trans ((K5.out.below.trans (hb.mono K5.out.below.size)).mono HBB.out.size)); clear hb
      go_wp2_with fail
      go_ret
      exact ⟨rfl, HE.out⟩
    · skip
      have zx := K2.out.cells (g := w5.heap.size) (a := .slice p1 n k1) (b := .slice p2 n k2) (by simp)
      go_wp2_with fail
      have CC := HI1.out _ a pa p1 p2 ca k1 k2 (K2.out.pt (p := pa) (l := a) (by simp)) (K2.out.pt (p := p1) (l := XL) (by simp)) (K2.out.pt (p := p2) (l := XH) (by simp)) HAN.out
      rw [EA.out] at CC
      refine CC.mono ?_
      rintro e v3 ⟨rfl, hb⟩
      have K3 := hid (K2.out.step hb); clear hb K2 zx CC
      have zx := K3.out.cells (g := w5.heap.size + 1) (a := .slice p3 n k3) (b := .slice p4 n k4) (by simp)
      go_wp2_with fail
      have CC := HI2.out _ a pa p3 p4 ca k3 k4 (K3.out.pt (p := pa) (l := a) (by simp)) (K3.out.pt (p := p3) (l := YL) (by simp)) (K3.out.pt (p := p4) (l := YH) (by simp)) HAN.out
      rw [EA'.out] at CC
      refine CC.mono ?_
      rintro e v4 ⟨rfl, hb⟩
      have K4 := hid (K3.out.step hb); clear hb K3 zx CC
      have zx := K4.out.cells (g := w5.heap.size + 1) (a := .slice p3 n k3) (b := .slice p4 n k4) (by simp)
      go_wp2_with fail
      have CC := HI2.out _ b pb p3 p4 cb k3 k4 (K4.out.pt (p := pb) (l := b) (by simp)) (K4.out.pt (p := p3) (l := YL) (by simp)) (K4.out.pt (p := p4) (l := YH) (by simp)) HBN.out
      rw [EB'.out] at CC
      refine CC.mono ?_
      rintro e v5 ⟨rfl, hb⟩
      have K5 := hid (K4.out.step hb); clear hb K4 zx CC
      have zx := K5.out.cells (g := w5.heap.size + 1) (a := .slice p3 n k3) (b := .slice p4 n k4) (by simp)
      have hg := K5.out.bxs (w3.heap.size, .slice p n c, .slice q n c') (by simp)
      have zg := two_cells hg
      have HG := hid hg; clear hg
      have HRA := hid (show _ ∧ _ ∧ _ ∧ _ from ⟨two_set HG.out (.slice p3 n k3) (.slice p4 n k4), pt_off2 (p' := p3) (q' := p4) (m := n) (d := k3) (m' := n) (d' := k4) (K5.out.pt (p := p3) (l := YL) (by simp)) HG.out, pt_off2 (p' := p3) (q' := p4) (m := n) (d := k3) (m' := n) (d' := k4) (K5.out.pt (p := p4) (l := YH) (by simp)) HG.out, ((HBW.out.trans (K5.out.below.mono (Nat.le_of_lt HGA.out))).setCell (p := ⟨w3.heap.size, 0, none⟩) (Nat.le_refl _) (.slice p3 n k3)).setCell (p := ⟨w3.heap.size, 1, none⟩) (Nat.le_refl _) (.slice p4 n k4)⟩)
      go_wp2_with fail
      go_roundw
      case rel => exact ⟨i + 1, f', YL, YH, es', p3, p4, k3, k4, by go_num, rfl, HFN.out, HYW.out, HSU.out, ⟨EA'.out, EB'.out⟩, HRA.out.1, ⟨HRA.out.2.1, HRA.out.2.2.1⟩, HRA.out.2.2.2⟩
      case measure => simp [intOf]; have := HI32.out; omega
theorem PartParts_walk (v u : Value) (f : Int) (w : World) (h : KeyV w v) (g : KeyV w u) (_ : (Lit.int .i64 f).wf = true) :
    Calls Try.prog 13 #[v, u, .int .i64 f] w fun e w' => e = .returned (.bool true) ∧ Below w.heap.size w w' := by
  obtain ⟨pa, a, ca, rfl, hp, hl⟩ := h
  obtain ⟨pb, b, cb, rfl, hq, _⟩ := g
  by_cases h : mayN a.length = true ∧ b.length = a.length ∧ a ≠ b ∧ 0 ≤ f ∧ f < (a.length : Int)
  · obtain ⟨h1, h2, h3, h4, h5⟩ := h
    obtain ⟨n, rfl⟩ : ∃ n : Nat, f = (n : Int) := ⟨f.toNat, by omega⟩
    exact parts_go a b pa pb ca cb n w hp hq h1 h2 h3 (by omega)
  · exact parts_no a b pa pb ca cb f w hp hq hl h
end Go.Proofs.Ytkjcbfdplhcjpaa
