/- The calls of slab, whatever is asked. -/
import Derived.Test.YtpbidpgpehicmaaSlShrink
import Derived.Test.YtpbidpgpehicmaaSlSeen
namespace Go.Proofs.Ytpbidpgpehicmaa.Sl
open Go.RowKit Go.Shelf
open Go.Lib (hid)

theorem below_two (w : World) (o o' : Obj) : Below w.heap.size w ((w.alloc o).alloc o') := (below_alloc w o).alloc (by simp) _
set_option maxRecDepth 100000 in
set_option maxHeartbeats 1000000 in
theorem grow_bad (w : World) (b g h : Nat) (S C : List Int) (H : Slb w b g h S C) (d i : Int) (hn : hasB S d i = false) :
    Calls Try.prog 12 #[.pointer (some ⟨b, 0, none⟩), .int .i64 d, .int .i64 i] w fun e w' => e = .returned (.int .i64 1) ∧ Below w.heap.size w w' := by
  obtain ⟨k, m, _, _, HS⟩ := H.sb
  have HB := hid (below_alloc w (.cells #[.int .i64 i] 3))
  have HH := hid (has_ok b _ _ k m S C _ (HS.below HB.out) d i)
  rw [hn] at HH
  clear H HS hn
  go_enter Try.func12, Try.ntmps12
  go_wp2_with fail
  refine HH.out.mono ?_
  rintro e w1 ⟨rfl, n1, rfl⟩
  go_wp2_with fail
  go_ret
  exact ⟨rfl, below_drewN HB.out _⟩
theorem over_in (tot : Nat) (hm : 4096 < tot) : decide ((4096 : Int) < (tot : Int)) = true := decide_eq_true (by omega)
theorem mul_in2 (q sz tot : Nat) (h : tot = q * (sz + 1)) (hm : tot ≤ 100000000) : wrap64 ((q : Int) * ((sz : Int) + 1)) = (tot : Int) := by
  have e : (q : Int) * ((sz : Int) + 1) = (tot : Int) := by rw [h, Int.natCast_mul, Int.natCast_add]; rfl
  rw [e]
  clear e h
  exact Go.IntWalk.wrap64_in _ (by omega)
theorem sz_most (S : List Nat) (C : List Int) (F : Fits S C) (d : Nat) (hd : d < S.length) : 1 ≤ S.getD d 1 ∧ S.getD d 1 ≤ 4096 := by
  have hp : 0 < S.getD d 1 := by
    rw [List.getD_eq_getElem?_getD, List.getElem?_eq_getElem hd]; exact F.pos _ (List.getElem_mem hd)
  refine ⟨hp, ?_⟩
  have h1 := prod_at S d hd
  have h2 := prodL_pos (S.take d) fun s hs => F.pos s (List.mem_of_mem_take hs)
  have h3 := prodL_pos (S.drop (d + 1)) fun s hs => F.pos s (List.mem_of_mem_drop hs)
  have h4 := Nat.le_mul_of_pos_right (S.getD d 1) h3
  have h5 := Nat.le_mul_of_pos_left (S.getD d 1 * prodL (S.drop (d + 1))) h2
  have := F.most
  omega
set_option maxRecDepth 100000 in
set_option maxHeartbeats 2000000 in
theorem grow_limit (w : World) (b g h : Nat) (S : List Nat) (C : List Int) (H : Slb w b g h (zs S) C) (F : Fits S C) (d i : Nat) (hd : d < S.length) (hi : i < S.getD d 1) (hover : 4096 < C.length / S.getD d 1 * (S.getD d 1 + 1)) :
    Calls Try.prog 12 #[.pointer (some ⟨b, 0, none⟩), .int .i64 (d : Int), .int .i64 (i : Int)] w fun e w' => e = .returned (.int .i64 4) ∧ Below w.heap.size w w' := by
  obtain ⟨k, m, hk, hm, HS⟩ := H.sb
  rw [zs_len] at hk
  have hfew := F.few
  obtain ⟨hsz1, hszm⟩ := sz_most S C F d hd
  obtain ⟨sz, hsz⟩ : ∃ sz, S.getD d 1 = sz := ⟨_, rfl⟩
  have hszd : S[d] = sz := by rw [← hsz, List.getD_eq_getElem?_getD, List.getElem?_eq_getElem hd]; rfl
  have hwA : Below w.heap.size w (w.alloc (.cells #[.int .i64 (i : Int)] 3)) := below_alloc w _
  have HHAS := hid (has_ok b _ _ k m (zs S) C _ (HS.below hwA) (d : Int) (i : Int))
  have hB : hasB (zs S) (d : Int) (i : Int) = true := by
    unfold hasB
    simp only [Bool.and_eq_true, decide_eq_true_eq, zs_len, Int.toNat_natCast]
    rw [zs_at S d hd]
    refine ⟨⟨⟨by omega, by omega⟩, by omega⟩, ?_⟩
    rw [hszd]; omega
  rw [hB] at HHAS
  rw [hsz] at hi hover hsz1 hszm
  have y0 := (HS.below hwA).cell0
  have y1 := (HS.below hwA).cell1
  rw [zs_len] at y0
  obtain ⟨b1, o1, e1, lt1, z1⟩ := (HS.below hwA).sz d (by rw [iv_length, zs_len]; exact hd)
  injection e1 with e1
  injection e1 with e2 e3
  subst e2; subst e3
  rw [iv_at (zs S) d (by rw [zs_len]; exact hd), Nat.zero_add] at z1
  simp only [zs, List.getElem_map, hszd] at z1
  obtain ⟨q, hq⟩ : ∃ q, q = C.length / sz := ⟨_, rfl⟩
  obtain ⟨tot, htot⟩ : ∃ tot, tot = q * (sz + 1) := ⟨_, rfl⟩
  rw [← hq, ← htot] at hover
  have hC4 : C.length ≤ 4096 := by rw [F.len]; exact F.most
  have hq4 : q ≤ 4096 := by rw [hq]; exact Nat.le_trans (Nat.div_le_self _ _) hC4
  have htm : tot ≤ 4096 * 4097 := by rw [htot]; exact Nat.mul_le_mul hq4 (by omega)
  have a1 : (C.length : Int) / (sz : Int) = (q : Int) := by rw [hq]; rfl
  have A3 := hid (mul_in2 q sz tot htot (Nat.le_trans htm (by decide)))
  have a4 : decide ((4096 : Int) < wrap64 ((q : Int) * ((sz : Int) + 1))) = true := by rw [A3.out]; exact over_in tot hover
  have HTOT := hid htot; have HQ := hid hq; have HWA := hid hwA
  clear htot hq htm hover
  have a5 : ¬ (sz : Int) = 0 := by omega
  clear H HS hsz hszd hB hwA F hC4
  go_enter Try.func12, Try.ntmps12
  go_wp2_with fail
  refine HHAS.out.mono ?_
  rintro e w1 ⟨rfl, n1, rfl⟩
  go_wp2_with fail
  go_ret
  exact ⟨rfl, below_drewN HWA.out _⟩
/-- what Grow answers: the error, the sizes, the contents -/
def growU (S : List Nat) (C : List Int) (d i : Int) : Int × List Nat × List Int :=
  if hasB (zs S) d i = true then (if C.length / S.getD d.toNat 1 * (S.getD d.toNat 1 + 1) ≤ 4096 then (0, S.set d.toNat (S.getD d.toNat 1 + 1), growC S C d.toNat i.toNat) else (4, S, C)) else (1, S, C)
theorem has_nat (S : List Nat) (d i : Int) (h : hasB (zs S) d i = true) : ∃ D I : Nat, d = D ∧ i = I ∧ D < S.length ∧ I < S.getD D 1 := by
  unfold hasB at h
  simp only [Bool.and_eq_true, decide_eq_true_eq, zs_len] at h
  obtain ⟨⟨⟨h1, h2⟩, h3⟩, h4⟩ := h
  obtain ⟨D, rfl⟩ : ∃ D : Nat, d = D := ⟨d.toNat, by omega⟩
  obtain ⟨I, rfl⟩ : ∃ I : Nat, i = I := ⟨i.toNat, by omega⟩
  have hD : D < S.length := by omega
  refine ⟨D, I, rfl, rfl, hD, ?_⟩
  rw [Int.toNat_natCast, zs_at S D hD] at h4
  rw [List.getD_eq_getElem?_getD, List.getElem?_eq_getElem hD]
  show I < S[D]
  omega
/-- how a slab comes out of a call -/
def Turned (V : World) (b g h : Nat) (S : List Nat) (C : List Int) (V' : World) : Prop := ∃ h', Slb V' b g h' (zs S) C ∧ (h' = h ∨ V.heap.size ≤ h') ∧ Onl (B3 b g h) V V'
theorem turned_same {V V' : World} {b g h : Nat} {S : List Nat} {C : List Int} (H : Slb V b g h (zs S) C) (hb : Below V.heap.size V V') : Turned V b g h S C V' := ⟨h, H.below hb, .inl rfl, Onl.ofBelow hb⟩
theorem onl_mono {F G : Nat → Prop} {w w' : World} (h : Onl F w w') (hf : ∀ k, F k → G k) : Onl G w w' := ⟨h.os, h.tape, h.output, h.size, fun k hk hg => h.block k hk fun e => hg (hf k e)⟩
theorem grow_uni (V : World) (b g h : Nat) (S : List Nat) (C : List Int) (H : Slb V b g h (zs S) C) (F : Fits S C) (d i : Int) :
    Calls Try.prog 12 #[.pointer (some ⟨b, 0, none⟩), .int .i64 d, .int .i64 i] V fun e V' => e = .returned (.int .i64 (growU S C d i).1) ∧ Turned V b g h (growU S C d i).2.1 (growU S C d i).2.2 V' ∧ Fits (growU S C d i).2.1 (growU S C d i).2.2 := by
  unfold growU
  cases hh : hasB (zs S) d i with
  | false =>
    simp only [Bool.false_eq_true, if_false]
    exact (grow_bad V b g h (zs S) C H d i hh).mono fun e V' ⟨he, hb⟩ => ⟨he, turned_same H hb, F⟩
  | true =>
    obtain ⟨D, I, rfl, rfl, hD, hI⟩ := has_nat S d i hh
    simp only [if_true, Int.toNat_natCast]
    by_cases hm : C.length / S.getD D 1 * (S.getD D 1 + 1) ≤ 4096
    · rw [if_pos hm]
      refine (callsIn_wide.1 (grow_in V b g h S C H F D I hD hI hm)).mono ?_
      rintro e V' ⟨h', rfl, hs, hle, ho⟩
      exact ⟨rfl, ⟨h', hs, .inr hle, onl_mono ho fun k e => by rcases e with e | e; exact .inl e; exact .inr (.inl e)⟩, grow_fits S C F D I hD hI hm⟩
    · rw [if_neg hm]
      exact (grow_limit V b g h S C H F D I hD hI (by omega)).mono fun e V' ⟨he, hb⟩ => ⟨he, turned_same H hb, F⟩
/-- what Fill answers -/
def fillU (S : List Nat) (C : List Int) (lo hi : List Int) (n : Int) : Int × List Int :=
  if rangeB (zs S) lo hi = true then (0, fillL n ((rangeL (lo.map Int.toNat) (hi.map Int.toNat)).map (placeL S)) C) else (1, C)
theorem range_nat (S : List Nat) (lo hi : List Int) (h : rangeB (zs S) lo hi = true) : ∃ L H : List Nat, lo = zs L ∧ hi = zs H ∧ okC S L = true ∧ okC S H = true := by
  have h' := h
  unfold rangeB at h'
  simp only [Bool.and_eq_true] at h'
  obtain ⟨L, rfl, h1⟩ := cellB_nat S lo h'.1.1
  obtain ⟨H, rfl, h2⟩ := cellB_nat S hi h'.1.2
  exact ⟨L, H, rfl, rfl, h1, h2⟩
theorem zs_nat (L : List Nat) : (zs L).map Int.toNat = L := by simp [zs, Function.comp_def]
theorem fill_uni (V : World) (b g h : Nat) (S : List Nat) (C : List Int) (H : Slb V b g h (zs S) C) (F : Fits S C) (lo hi : List Int) (p q : Option Addr) (c1 c2 : Nat) (hp : CellsD (· = h) V p (iv lo)) (hq : CellsD (· = h) V q (iv hi)) (hl : lo.length ≤ 1000000) (hl2 : hi.length ≤ 1000000) (n : Int) :
    Calls Try.prog 16 #[.pointer (some ⟨b, 0, none⟩), .slice p lo.length c1, .slice q hi.length c2, .int .i64 n] V fun e V' => e = .returned (.int .i64 (fillU S C lo hi n).1) ∧ Turned V b g h S (fillU S C lo hi n).2 V' ∧ Fits S (fillU S C lo hi n).2 := by
  unfold fillU
  cases hh : rangeB (zs S) lo hi with
  | false =>
    simp only [Bool.false_eq_true, if_false]
    exact (fill_bad V b g h (zs S) C H lo hi p q c1 c2 hp.cells hq.cells hl hl2 hh n).mono fun e V' ⟨he, hb⟩ => ⟨he, turned_same H hb, F⟩
  | true =>
    obtain ⟨L, K, rfl, rfl, h1, h2⟩ := range_nat S lo hi hh
    simp only [if_true, zs_nat, zs_len]
    refine (fill_ok V b g h S C H F L K p q c1 c2 hp hq hh h1 h2 n).mono ?_
    rintro e V' ⟨rfl, hs, ho⟩
    exact ⟨rfl, ⟨h, hs, .inl rfl, onl_mono ho fun k e => .inr (.inr e)⟩, ⟨F.some, F.few, F.pos, F.most, by rw [fillL_length]; exact F.len⟩⟩
/-- what Seen answers -/
def seenU (S : List Nat) (C : List Int) (lo hi : List Int) : Int × List Int :=
  if rangeB (zs S) lo hi = true then (0, firstsA (atL C ((rangeL (lo.map Int.toNat) (hi.map Int.toNat)).map (placeL S)))) else (1, [])
theorem seen_uni (V : World) (b g h : Nat) (S : List Nat) (C : List Int) (H : Slb V b g h (zs S) C) (F : Fits S C) (hwf : ∀ x ∈ C, (Lit.int .i64 x).wf = true) (lo hi : List Int) (p q : Option Addr) (c1 c2 : Nat) (hp : CellsAt V p (iv lo)) (hq : CellsAt V q (iv hi)) (hl : lo.length ≤ 1000000) (hl2 : hi.length ≤ 1000000) :
    Calls Try.prog 22 #[.pointer (some ⟨b, 0, none⟩), .slice p lo.length c1, .slice q hi.length c2] V fun e V' => ∃ r c, e = .returned (.tuple #[.slice r (seenU S C lo hi).2.length c, .int .i64 (seenU S C lo hi).1]) ∧ CellsAt V' r (iv (seenU S C lo hi).2) ∧ Below V.heap.size V V' := by
  unfold seenU
  cases hh : rangeB (zs S) lo hi with
  | false =>
    simp only [Bool.false_eq_true, if_false]
    exact (seen_bad V b g h (zs S) C H lo hi p q c1 c2 hp hq hl hl2 hh).mono fun e V' ⟨he, hb⟩ => ⟨none, 0, he, fun j hj => absurd hj (by simp [iv]), hb⟩
  | true =>
    obtain ⟨L, K, rfl, rfl, h1, h2⟩ := range_nat S lo hi hh
    simp only [if_true, zs_nat, zs_len]
    refine (seen_ok V b g h S C H F hwf L K p q c1 c2 hp hq hh h1 h2).mono ?_
    rintro e V' ⟨r, c, rfl, hc, hb⟩
    exact ⟨r, c, rfl, hc, hb⟩
set_option maxRecDepth 100000 in
set_option maxHeartbeats 1000000 in
theorem shrink_bad (w : World) (b g h : Nat) (S : List Nat) (C : List Int) (H : Slb w b g h (zs S) C) (F : Fits S C) (d i : Int) (hn : (hasB (zs S) d i && hasB (zs S) d (i + 1)) = false) :
    Calls Try.prog 14 #[.pointer (some ⟨b, 0, none⟩), .int .i64 d, .int .i64 i] w fun e w' => e = .returned (.int .i64 1) ∧ Below w.heap.size w w' := by
  obtain ⟨k, m, _, _, HS⟩ := H.sb
  obtain ⟨V0, hV0⟩ : ∃ V0, (w.alloc (.cells #[.int .i64 i] 3)).alloc (.cells #[.int .i64 0] 24) = V0 := ⟨_, rfl⟩
  have hB : Below w.heap.size w V0 := by rw [← hV0]; exact (below_alloc w _).alloc (by simp) _
  have hbx : Boxed V0 (w.heap.size + 1) 24 (.int .i64 0) := by
    rw [← hV0]
    have h0 := Boxed.new (w.alloc (.cells #[.int .i64 i] 3)) 24 (.int .i64 0)
    rwa [World.size_alloc] at h0
  have x0 : V0.cell? ⟨w.heap.size, 0, none⟩ = some (.int .i64 i) := by rw [← hV0]; exact ((Boxed.new w _ _).alloc _).cell
  have HH := hid fun (e : Int) (n : Nat) => has_ok b _ _ k m (zs S) C (V0.drewN n) ((HS.below hB).drewN n) d e
  have c1 := hbx.cell
  have f1 := hbx.frozen
  have HBX := hid hbx; have HB := hid hB
  have fin : Hid (∀ n, ((V0.drewN n).setCell ⟨w.heap.size + 1, 0, none⟩ (.int .i64 1)).cell? ⟨w.heap.size + 1, 0, none⟩ = some (.int .i64 1)) := hid fun n => (show Boxed (V0.drewN n) (w.heap.size + 1) 24 (.int .i64 0) from hbx).set (.int .i64 1) |>.cell
  clear hB hbx
  cases h1 : hasB (zs S) d i with
  | false =>
    have H1 := hid (HH.out i 0)
    rw [h1] at H1
    clear h1 hn H HS
    go_enter Try.func14, Try.ntmps14
    go_wp2_with fail
    refine H1.out.mono ?_
    rintro e w1 ⟨rfl, n1, rfl⟩
    go_wp2_with fail
    have hc := fin.out n1
    refine bodyPost_ret (v := .int .i64 1) (by simp [results, Try.results14, go_sem, hc]) rfl ⟨rfl, ?_⟩
    exact (below_drewN HB.out n1).setCell (p := ⟨w.heap.size + 1, 0, none⟩) (by simp) _
  | true =>
    have h2 : hasB (zs S) d (i + 1) = false := by rw [h1] at hn; simpa using hn
    obtain ⟨D, I, rfl, rfl, hD, hI⟩ := has_nat S d i h1
    have hsz := sz_most S C F D hD
    have H1 := hid (HH.out (I : Int) 0)
    rw [h1] at H1
    have H2 := hid fun n => HH.out ((I : Int) + 1) n
    rw [h2] at H2
    have hii : (I : Int) ≤ 100000 := by omega
    clear h1 h2 hn H HS F hsz hI hD
    go_enter Try.func14, Try.ntmps14
    go_wp2_with fail
    refine H1.out.mono ?_
    rintro e w1 ⟨rfl, n1, rfl⟩
    go_wp2_with fail
    refine (H2.out _).mono ?_
    rintro e w1 ⟨rfl, n2, rfl⟩
    go_wp2_with fail
    have hc := fin.out (n1 + n2)
    refine bodyPost_ret (v := .int .i64 1) (by simp [results, Try.results14, go_sem, hc]) rfl ⟨rfl, ?_⟩
    exact (below_drewN HB.out (n1 + n2)).setCell (p := ⟨w.heap.size + 1, 0, none⟩) (by simp) _
open Classical in
/-- what Shrink answers -/
noncomputable def shrinkU (S : List Nat) (C : List Int) (d i : Int) : Int × List Nat × List Int :=
  if (hasB (zs S) d i && hasB (zs S) d (i + 1)) = true then (if shrOk C (prodL (S.drop (d.toNat + 1))) (S.getD d.toNat 1) i.toNat (C.length / prodL (S.drop (d.toNat + 1))) then (0, S.set d.toNat (S.getD d.toNat 1 - 1), shrC C (prodL (S.drop (d.toNat + 1))) (S.getD d.toNat 1) i.toNat (C.length / prodL (S.drop (d.toNat + 1)))) else (1, S, C)) else (1, S, C)
theorem shrink_uni (V : World) (b g h : Nat) (S : List Nat) (C : List Int) (H : Slb V b g h (zs S) C) (F : Fits S C) (d i : Int) :
    Calls Try.prog 14 #[.pointer (some ⟨b, 0, none⟩), .int .i64 d, .int .i64 i] V fun e V' => e = .returned (.int .i64 (shrinkU S C d i).1) ∧ Turned V b g h (shrinkU S C d i).2.1 (shrinkU S C d i).2.2 V' ∧ Fits (shrinkU S C d i).2.1 (shrinkU S C d i).2.2 := by
  unfold shrinkU
  cases hh : hasB (zs S) d i && hasB (zs S) d (i + 1) with
  | false =>
    simp only [Bool.false_eq_true, if_false]
    exact (shrink_bad V b g h S C H F d i hh).mono fun e V' ⟨he, hb⟩ => ⟨he, turned_same H hb, F⟩
  | true =>
    rw [Bool.and_eq_true] at hh
    obtain ⟨D, I, rfl, rfl, hD, hI⟩ := has_nat S d i hh.1
    obtain ⟨D', J, e1, e2, _, hJ⟩ := has_nat S (D : Int) ((I : Int) + 1) hh.2
    obtain rfl : D = D' := by omega
    have hJ2 : I + 1 < S.getD D 1 := by omega
    simp only [if_true, Int.toNat_natCast]
    refine (callsIn_wide.1 (shrink_in V b g h S C H F D I hD hJ2)).mono ?_
    rintro e V' (⟨hok, h', rfl, hs, hle, ho⟩ | ⟨hno, rfl, hb⟩)
    · rw [if_pos hok]
      exact ⟨rfl, ⟨h', hs, .inr hle, onl_mono ho fun k e => by rcases e with e | e; exact .inl e; exact .inr (.inl e)⟩, shr_fits S C F D I hD hJ2⟩
    · rw [if_neg hno]
      exact ⟨rfl, turned_same H hb, F⟩
end Go.Proofs.Ytpbidpgpehicmaa.Sl
