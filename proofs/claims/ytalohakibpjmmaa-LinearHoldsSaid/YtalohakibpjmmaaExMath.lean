/- Cells of one size, in plain lists: the box of an address, digit by digit; which cells a box meets. -/
import Derived.Test.YtalohakibpjmmaaPtAllM
namespace Go.Proofs.Ytalohakibpjmmaa.Ex
open Go.Proofs.Ytalohakibpjmmaa.Ky
open Go.Proofs.Ytalohakibpjmmaa.Pt

/-- a half of a box at coordinate c: the lower one, or the upper one -/
def hlo (lo hi : List Nat) (c b : Nat) : List Nat := if b = 0 then xlo lo hi (c : Int) else ylo lo hi (c : Int)
def hhi (lo hi : List Nat) (c b : Nat) : List Nat := if b = 0 then xhi lo hi (c : Int) else yhi lo hi (c : Int)
/-- the box of an address of d digits -/
def cell (n : Nat) : Nat → Nat → List Nat × List Nat
  | 0, _ => (lowW n, highW n)
  | d + 1, a => (hlo (cell n d (a / 2)).1 (cell n d (a / 2)).2 (d % n) (a % 2), hhi (cell n d (a / 2)).1 (cell n d (a / 2)).2 (d % n) (a % 2))
/-- how many halvings are left at a coordinate -/
def ex (n d j : Nat) : Nat := 32 - (d + n - 1 - j) / n
theorem ex_at {n d : Nat} (hn : 1 ≤ n ∧ n ≤ 6) : ex n d (d % n) = 32 - d / n := by
  unfold ex
  congr 1
  rcases (show n = 1 ∨ n = 2 ∨ n = 3 ∨ n = 4 ∨ n = 5 ∨ n = 6 by omega) with rfl | rfl | rfl | rfl | rfl | rfl <;> omega
theorem ex_next {n d : Nat} (hn : 1 ≤ n ∧ n ≤ 6) : ex n (d + 1) (d % n) = 32 - (d / n + 1) := by
  unfold ex
  congr 1
  rcases (show n = 1 ∨ n = 2 ∨ n = 3 ∨ n = 4 ∨ n = 5 ∨ n = 6 by omega) with rfl | rfl | rfl | rfl | rfl | rfl <;> omega
theorem ex_other {n d j : Nat} (hn : 1 ≤ n ∧ n ≤ 6) (hj : j < n) (h : d % n ≠ j) : ex n (d + 1) j = ex n d j := by
  unfold ex
  congr 1
  rcases (show n = 1 ∨ n = 2 ∨ n = 3 ∨ n = 4 ∨ n = 5 ∨ n = 6 by omega) with rfl | rfl | rfl | rfl | rfl | rfl <;> omega
/-- a box whose sides are powers of two, and where it begins -/
structure Cel (n d : Nat) (b : List Nat × List Nat) : Prop where
  l1 : b.1.length = n
  l2 : b.2.length = n
  w : ∀ j, (h : j < n) → b.1[j]'(by omega) % 2 ^ ex n d j = 0 ∧ b.2[j]'(by omega) + 1 = b.1[j]'(by omega) + 2 ^ ex n d j ∧ b.2[j]'(by omega) < 4294967296
theorem Cel.whole (n : Nat) : Cel n 0 (lowW n, highW n) :=
  ⟨by simp [lowW], by simp [highW], fun j hj => by
    have : ex n 0 j = 32 := by
      unfold ex; rw [Nat.div_eq_of_lt (by omega)]
    rw [this]
    simp [lowW, highW]⟩
theorem mayN_of {n : Nat} (hn : 1 ≤ n ∧ n ≤ 6) : mayN n = true := by unfold mayN; simp; omega
theorem Cel.half {n d : Nat} {b : List Nat × List Nat} (h : Cel n d b) (hn : 1 ≤ n ∧ n ≤ 6) (hd : d < 32) : halfB b.1 b.2 ((d % n : Nat) : Int) = true := by
  have h1 := h.l1
  have h2 := h.l2
  have hc : d % n < n := Nat.mod_lt _ (by omega)
  have hw := h.w (d % n) hc
  rw [ex_at hn] at hw
  have hdn : d / n ≤ d := Nat.div_le_self _ _
  obtain ⟨e, he⟩ : ∃ e, 32 - d / n = e + 1 := ⟨31 - d / n, by omega⟩
  rw [he, Nat.pow_succ] at hw
  have hp := Nat.two_pow_pos e
  have hle : leAll b.1 b.2 = true := leAll_iff.2 ⟨by omega, fun j hj hj' => by
    have h3 := h.w j (by omega)
    have := Nat.two_pow_pos (ex n d j)
    omega⟩
  unfold halfB boxB checkB
  rw [hle, mayB_nat, h1, mayN_of hn, Int.toNat_natCast, List.getD_eq_getElem?_getD, List.getD_eq_getElem?_getD, List.getElem?_eq_getElem (by omega), List.getElem?_eq_getElem (by omega)]
  simp; omega
/-- a number between the ends of such a side: its next digit tells the half -/
theorem dig (x l E : Nat) (hE : 0 < E) (hl : l % (E * 2) = 0) (h1 : l ≤ x) (h2 : x < l + E * 2) : x / E % 2 = if x < l + E then 0 else 1 := by
  obtain ⟨m, rfl⟩ : ∃ m, l = E * (2 * m) := ⟨l / (E * 2), by rw [← Nat.mul_assoc]; have := Nat.div_add_mod l (E * 2); omega⟩
  obtain ⟨r, rfl⟩ : ∃ r, x = E * (2 * m) + r := ⟨x - E * (2 * m), by omega⟩
  rw [Nat.mul_add_div hE]
  split
  · rw [Nat.div_eq_of_lt (by omega)]; omega
  · rw [Nat.div_eq_of_lt_le (k := 1) (by omega) (by omega)]; omega
/-- one digit more -/
theorem Cel.next {n d : Nat} {b : List Nat × List Nat} (h : Cel n d b) (hn : 1 ≤ n ∧ n ≤ 6) (hd : d < 32) (t : Nat) : Cel n (d + 1) (hlo b.1 b.2 (d % n) t, hhi b.1 b.2 (d % n) t) := by
  have hb := h.half hn hd
  have hc : d % n < n := Nat.mod_lt _ (by omega)
  obtain ⟨i, ei, h1, h2, hlen, hle, hc', h3, h4, h5⟩ := half_facts hb
  obtain rfl : d % n = i := by omega
  have e1 : xlo b.1 b.2 ((d % n : Nat) : Int) = b.1 := by unfold xlo; rw [hb]; rfl
  have e2 : xhi b.1 b.2 ((d % n : Nat) : Int) = b.2.set (d % n) (midN b.1 b.2 (d % n)) := by unfold xhi; rw [hb, Int.toNat_natCast]; rfl
  have e3 : ylo b.1 b.2 ((d % n : Nat) : Int) = b.1.set (d % n) (midN b.1 b.2 (d % n) + 1) := by unfold ylo; rw [hb, Int.toNat_natCast]; rfl
  have e4 : yhi b.1 b.2 ((d % n : Nat) : Int) = b.2 := by unfold yhi; rw [hb]; rfl
  unfold hlo hhi
  rw [e1, e2, e3, e4]
  have z1 := h.l1
  have z2 := h.l2
  have hw := h.w (d % n) hc
  have hm : midN b.1 b.2 (d % n) = b.1[d % n] + (b.2[d % n] - b.1[d % n]) / 2 := by
    unfold midN
    rw [List.getD_eq_getElem?_getD, List.getD_eq_getElem?_getD, List.getElem?_eq_getElem h1, List.getElem?_eq_getElem h2]; rfl
  have hdn : d / n ≤ d := Nat.div_le_self _ _
  have hx := ex_at (d := d) hn
  have hy := ex_next (d := d) hn
  obtain ⟨e, he⟩ : ∃ e, 32 - d / n = e + 1 := ⟨31 - d / n, by omega⟩
  have he' : 32 - (d / n + 1) = e := by omega
  rw [he] at hx
  rw [he'] at hy
  rw [hx, Nat.pow_succ] at hw
  have hp := Nat.two_pow_pos e
  obtain ⟨hw1, hw2, hw3⟩ := hw
  have hd2 : b.1[d % n] % 2 ^ e = 0 := by
    have := Nat.mod_mul_right_mod (b.1[d % n]) (2 ^ e) 2
    rw [hw1] at this
    simpa using this.symm
  have hmid : midN b.1 b.2 (d % n) + 1 = b.1[d % n] + 2 ^ e := by omega
  by_cases ht : t = 0
  · rw [if_pos ht, if_pos ht]
    refine ⟨z1, by simp [z2], fun j hj => ?_⟩
    by_cases ej : d % n = j
    · subst ej
      rw [hy]
      refine ⟨hd2, ?_, ?_⟩
      · simp only [List.getElem_set_self]; exact hmid
      · simp only [List.getElem_set_self]; omega
    · rw [ex_other hn hj ej]
      have := h.w j hj
      simp only [List.getElem_set_ne ej]; exact this
  · rw [if_neg ht, if_neg ht]
    refine ⟨by simp [z1], z2, fun j hj => ?_⟩
    by_cases ej : d % n = j
    · subst ej
      rw [hy]
      refine ⟨?_, ?_, hw3⟩
      · simp only [List.getElem_set_self]; rw [hmid, Nat.add_mod_right]; exact hd2
      · simp only [List.getElem_set_self]; omega
    · rw [ex_other hn hj ej]
      have := h.w j hj
      simp only [List.getElem_set_ne ej]; exact this
theorem cell_cel {n : Nat} (hn : 1 ≤ n ∧ n ≤ 6) (d a : Nat) (hd : d ≤ 32) : Cel n d (cell n d a) := by
  induction d generalizing a with
  | zero => exact Cel.whole n
  | succ d ih => exact (ih (a / 2) (by omega)).next hn (by omega) (a % 2)
theorem cell_half {n : Nat} (hn : 1 ≤ n ∧ n ≤ 6) (d a : Nat) (hd : d < 32) : halfB (cell n d a).1 (cell n d a).2 ((d % n : Nat) : Int) = true := (cell_cel hn d a (by omega)).half hn hd
/-- a point in such a box: its next digit tells the half -/
theorem Cel.bit {n d : Nat} {b : List Nat × List Nat} (h : Cel n d b) (hn : 1 ≤ n ∧ n ≤ 6) (hd : d < 32) {k : List Nat} (hk : k.length = n) (hi : inB k b.1 b.2 = true) :
    (inB k (hlo b.1 b.2 (d % n) 0) (hhi b.1 b.2 (d % n) 0) = decide (bitK k d = 0)) ∧ (inB k (hlo b.1 b.2 (d % n) 1) (hhi b.1 b.2 (d % n) 1) = decide (bitK k d = 1)) := by
  have hb := h.half hn hd
  have hc : d % n < n := Nat.mod_lt _ (by omega)
  obtain ⟨i, ei, h1, h2, hlen, hle, hc', h3, h4, h5⟩ := half_facts hb
  obtain rfl : d % n = i := by omega
  have e1 : xlo b.1 b.2 ((d % n : Nat) : Int) = b.1 := by unfold xlo; rw [hb]; rfl
  have e2 : xhi b.1 b.2 ((d % n : Nat) : Int) = b.2.set (d % n) (midN b.1 b.2 (d % n)) := by unfold xhi; rw [hb, Int.toNat_natCast]; rfl
  have e3 : ylo b.1 b.2 ((d % n : Nat) : Int) = b.1.set (d % n) (midN b.1 b.2 (d % n) + 1) := by unfold ylo; rw [hb, Int.toNat_natCast]; rfl
  have e4 : yhi b.1 b.2 ((d % n : Nat) : Int) = b.2 := by unfold yhi; rw [hb]; rfl
  unfold hlo hhi
  rw [if_pos rfl, if_pos rfl, if_neg (by decide), if_neg (by decide), e1, e2, e3, e4]
  have hii := hi
  unfold inB at hi ⊢
  rw [le_set_r h2 (by omega), le_set_l h1 (by omega) (by have := h.l1; omega)]
  rw [Bool.and_eq_true] at hi
  rw [hi.1, hi.2, Bool.true_and, Bool.true_and, Bool.true_and, Bool.and_true]
  have hw := h.w (d % n) hc
  have hm : midN b.1 b.2 (d % n) = b.1[d % n] + (b.2[d % n] - b.1[d % n]) / 2 := by
    unfold midN
    rw [List.getD_eq_getElem?_getD, List.getD_eq_getElem?_getD, List.getElem?_eq_getElem h1, List.getElem?_eq_getElem h2]; rfl
  have hdn : d / n ≤ d := Nat.div_le_self _ _
  have hx := ex_at (d := d) hn
  obtain ⟨e, he⟩ : ∃ e, 32 - d / n = e + 1 := ⟨31 - d / n, by omega⟩
  rw [he] at hx
  rw [hx, Nat.pow_succ] at hw
  have hp := Nat.two_pow_pos e
  obtain ⟨hw1, hw2, hw3⟩ := hw
  have hkl : d % n < k.length := by omega
  have hkd : k.getD (d % n) 0 = k[d % n] := by rw [List.getD_eq_getElem?_getD, List.getElem?_eq_getElem hkl]; rfl
  have a1 := (leAll_iff.1 hi.1).2 (d % n) h1 hkl
  have a2 := (leAll_iff.1 hi.2).2 (d % n) hkl h2
  have hbit : bitK k d = k[d % n] / 2 ^ e % 2 := by
    unfold bitK
    rw [hk, hkd, show 31 - d / n = e by omega]
  have hdig := dig k[d % n] b.1[d % n] (2 ^ e) hp hw1 a1 (by omega)
  rw [hbit, hdig, hkd]
  constructor
  · apply decide_eq_decide.2
    split <;> omega
  · apply decide_eq_decide.2
    split <;> omega
/-- a point is in the box of its address, and in that of no other one -/
theorem in_cell {n : Nat} (hn : 1 ≤ n ∧ n ≤ 6) {k : List Nat} (hk : k.length = n) (hf : ∀ x ∈ k, x < 4294967296) (d a : Nat) (hd : d ≤ 32) (ha : a < 2 ^ d) : inB k (cell n d a).1 (cell n d a).2 = decide (a = bitsK k d) := by
  induction d generalizing a with
  | zero =>
    have : a = 0 := by simpa using ha
    subst this
    simp only [cell, bitsK]
    unfold inB
    rw [show leAll (lowW n) k = true from leAll_iff.2 ⟨by simp [lowW, hk], fun j h1 h2 => by simp [lowW]⟩, show leAll k (highW n) = true from leAll_iff.2 ⟨by simp [highW, hk], fun j h1 h2 => by have := hf k[j] (List.getElem_mem h1); simp [highW]; omega⟩]
    rfl
  | succ d ih =>
    have h2 : a / 2 < 2 ^ d := by rw [Nat.pow_succ] at ha; omega
    have IH := ih (a / 2) (by omega) h2
    have hC := cell_cel hn d (a / 2) (by omega)
    have hb := hC.half hn (by omega)
    have hbt := bitK_lt k d
    have hbk : bitsK k (d + 1) = 2 * bitsK k d + bitK k d := rfl
    simp only [cell]
    cases hi : inB k (cell n d (a / 2)).1 (cell n d (a / 2)).2 with
    | true =>
      rw [hi] at IH
      have hq := of_decide_eq_true IH.symm
      obtain ⟨b0, b1⟩ := hC.bit hn (by omega) hk hi
      rcases (show a % 2 = 0 ∨ a % 2 = 1 by omega) with e | e
      · rw [e, b0]; apply decide_eq_decide.2; omega
      · rw [e, b1]; apply decide_eq_decide.2; omega
    | false =>
      rw [hi] at IH
      have hq := of_decide_eq_false IH.symm
      obtain ⟨g1, _⟩ := half_in hb k
      rw [hi] at g1
      have g2 := Bool.or_eq_false_iff.1 g1.symm
      have : decide (a = bitsK k (d + 1)) = false := by apply decide_eq_false; omega
      rw [this]
      unfold hlo hhi
      split
      · exact g2.1
      · exact g2.2
theorem meetB_iff {al ah bl bh : List Nat} : meetB al ah bl bh = true ↔ mayN al.length = true ∧ ah.length = al.length ∧ bl.length = al.length ∧ bh.length = al.length ∧ ∀ j (h1 : j < al.length) (h2 : j < ah.length) (h3 : j < bl.length) (h4 : j < bh.length), max al[j] bl[j] ≤ min ah[j] bh[j] := by
  unfold meetB four boxN
  simp only [Bool.and_eq_true, decide_eq_true_eq]
  constructor
  · rintro ⟨⟨h1, h2, h3⟩, h4, h5, h6⟩
    refine ⟨h4, h1, h2, h3, fun j g1 g2 g3 g4 => ?_⟩
    have := (leAll_iff.1 h6).2 j (by rw [hiOf_length h2]; exact g1) (by rw [loOf_length (by omega)]; omega)
    simpa only [hiOf, loOf, List.getElem_zipWith] using this
  · rintro ⟨h4, h1, h2, h3, h5⟩
    refine ⟨⟨h1, h2, h3⟩, h4, hiOf_length h2, leAll_iff.2 ⟨by rw [hiOf_length h2, loOf_length (by omega), h1], fun j g1 g2 => ?_⟩⟩
    rw [hiOf_length h2] at g1
    simpa only [hiOf, loOf, List.getElem_zipWith] using h5 j g1 (by omega) (by omega) (by omega)
theorem meet_mono {al ah cl ch bl bh : List Nat} (h1 : leAll al cl = true) (h2 : leAll ch ah = true) (h : meetB cl ch bl bh = true) : meetB al ah bl bh = true := by
  rw [meetB_iff] at h ⊢
  obtain ⟨g1, g2, g3, g4, g5⟩ := h
  obtain ⟨l1, m1⟩ := leAll_iff.1 h1
  obtain ⟨l2, m2⟩ := leAll_iff.1 h2
  refine ⟨by rw [l1]; exact g1, by omega, by omega, by omega, fun j k1 k2 k3 k4 => ?_⟩
  have := g5 j (by omega) (by omega) k3 k4
  have := m1 j k1 (by omega)
  have := m2 j (by omega) k2
  omega
/-- a half is in its box -/
theorem half_le {lo hi : List Nat} {c : Nat} (h : halfB lo hi (c : Int) = true) (t : Nat) : leAll lo (hlo lo hi c t) = true ∧ leAll (hhi lo hi c t) hi = true := by
  obtain ⟨i, ei, h1, h2, hlen, hle, hc', h3, h4, h5⟩ := half_facts h
  obtain rfl : c = i := by omega
  have e1 : xlo lo hi (c : Int) = lo := by unfold xlo; rw [h]; rfl
  have e2 : xhi lo hi (c : Int) = hi.set c (midN lo hi c) := by unfold xhi; rw [h, Int.toNat_natCast]; rfl
  have e3 : ylo lo hi (c : Int) = lo.set c (midN lo hi c + 1) := by unfold ylo; rw [h, Int.toNat_natCast]; rfl
  have e4 : yhi lo hi (c : Int) = hi := by unfold yhi; rw [h]; rfl
  unfold hlo hhi
  rw [e1, e2, e3, e4]
  by_cases ht : t = 0
  · rw [if_pos ht, if_pos ht]
    refine ⟨leAll_refl _, leAll_iff.2 ⟨by simp, fun j g1 g2 => ?_⟩⟩
    rw [List.getElem_set]
    split
    · subst_vars; omega
    · exact Nat.le_refl _
  · rw [if_neg ht, if_neg ht]
    refine ⟨leAll_iff.2 ⟨by simp, fun j g1 g2 => ?_⟩, leAll_refl _⟩
    rw [List.getElem_set]
    split
    · subst_vars; omega
    · exact Nat.le_refl _
/-- the addresses below a node, of those that fulfil g -/
def sub (g : Nat → Bool) : Nat → Nat → List Nat
  | 0, a => if g a then [a] else []
  | r + 1, a => sub g r (2 * a) ++ sub g r (2 * a + 1)
theorem sub_eq (g : Nat → Bool) (r a : Nat) : sub g r a = (List.range' (a * 2 ^ r) (2 ^ r)).filter g := by
  induction r generalizing a with
  | zero => simp [sub, List.range'_one, List.filter_cons]
  | succ r ih =>
    rw [sub, ih, ih, ← List.filter_append, Nat.pow_succ, Nat.mul_two, show 2 * a * 2 ^ r = a * (2 ^ r + 2 ^ r) by rw [Nat.mul_add]; rw [Nat.mul_assoc, Nat.two_mul], show (2 * a + 1) * 2 ^ r = a * (2 ^ r + 2 ^ r) + 2 ^ r by rw [Nat.add_mul, Nat.mul_add, Nat.mul_assoc, Nat.two_mul, Nat.one_mul]]
    rw [← List.range'_append_1]
theorem sub_all (g : Nat → Bool) (r : Nat) : sub g r 0 = (List.range (2 ^ r)).filter g := by
  rw [sub_eq, Nat.zero_mul, List.range_eq_range']
/-- does the cell of an address meet a box? -/
def met (n d : Nat) (bl bh : List Nat) (a : Nat) : Bool := meetB (cell n d a).1 (cell n d a).2 bl bh
theorem met_up {n : Nat} (hn : 1 ≤ n ∧ n ≤ 6) {d : Nat} (hd : d < 32) {bl bh : List Nat} {a : Nat} (h : met n (d + 1) bl bh a = true) : met n d bl bh (a / 2) = true := by
  obtain ⟨g1, g2⟩ := half_le (cell_half hn d (a / 2) hd) (a % 2)
  exact meet_mono g1 g2 h
theorem sub_none {n : Nat} (hn : 1 ≤ n ∧ n ≤ 6) {bl bh : List Nat} (r d a : Nat) (hd : d + r ≤ 32) (h : met n d bl bh a = false) : sub (met n (d + r) bl bh) r a = [] := by
  induction r generalizing d a with
  | zero => simp [sub]; exact h
  | succ r ih =>
    rw [sub]
    have e : d + (r + 1) = (d + 1) + r := by omega
    have k1 : met n (d + 1) bl bh (2 * a) = false := by
      cases hm : met n (d + 1) bl bh (2 * a) with
      | false => rfl
      | true => have := met_up hn (by omega) hm; rw [show 2 * a / 2 = a by omega, h] at this; cases this
    have k2 : met n (d + 1) bl bh (2 * a + 1) = false := by
      cases hm : met n (d + 1) bl bh (2 * a + 1) with
      | false => rfl
      | true => have := met_up hn (by omega) hm; rw [show (2 * a + 1) / 2 = a by omega, h] at this; cases this
    rw [e, ih (d + 1) (2 * a) (by omega) k1, ih (d + 1) (2 * a + 1) (by omega) k2]
    rfl
/-- the addresses of the cells that a box meets -/
def rangeL (n d : Nat) (bl bh : List Nat) : List Nat := (List.range (2 ^ d)).filter (met n d bl bh)
theorem cell_two (n d a : Nat) : cell n (d + 1) (2 * a) = (xlo (cell n d a).1 (cell n d a).2 ((d % n : Nat) : Int), xhi (cell n d a).1 (cell n d a).2 ((d % n : Nat) : Int)) ∧ cell n (d + 1) (2 * a + 1) = (ylo (cell n d a).1 (cell n d a).2 ((d % n : Nat) : Int), yhi (cell n d a).1 (cell n d a).2 ((d % n : Nat) : Int)) := by
  constructor
  · rw [cell, show 2 * a / 2 = a by omega, show 2 * a % 2 = 0 by omega]; rfl
  · rw [cell, show (2 * a + 1) / 2 = a by omega, show (2 * a + 1) % 2 = 1 by omega]; rfl
end Go.Proofs.Ytalohakibpjmmaa.Ex
