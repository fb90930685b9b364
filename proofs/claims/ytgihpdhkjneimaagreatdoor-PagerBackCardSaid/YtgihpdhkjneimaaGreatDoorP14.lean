/- Merged out of JnBase, PgEq, EnDcB, JnRead. -/
import Derived.Test.YtgihpdhkjneimaaGreatDoorP09
import Derived.Test.YtgihpdhkjneimaaGreatDoorP13
import Derived.Test.YtgihpdhkjneimaaGreatDoorP04
import Derived.Test.YtgihpdhkjneimaaGreatDoorP03
/- A journal in memory, on a disk of the program's. -/
namespace Go.Proofs.YtgihpdhkjneimaaGreatDoor.Jn
open Go.RowKit
open Go.Lib (hid)
open Go.Proofs.YtgihpdhkjneimaaGreatDoor.Dk
open Go.Proofs.YtgihpdhkjneimaaGreatDoor.En (Lst entC encR mayE PageT Pgs)
open Go.Proofs.YtgihpdhkjneimaaGreatDoor.Pg (sealL openL mayP)
open Go.Proofs.YtgihpdhkjneimaaGreatDoor.Sm (U sumB)

/-- a journal at J: its disk, base, size, transaction -/
def JAt (w : World) (J D b n t : Nat) : Prop := w.heap[J]? = some (.cells #[.pointer (some ⟨D, 0, none⟩), .int .i64 (b : Int), .int .i64 (n : Int), .int .i64 (t : Int)] 132 (0, 0))
theorem JAt.cells {w : World} {J D b n t : Nat} (h : JAt w J D b n t) : w.cell? ⟨J, 0, none⟩ = some (.pointer (some ⟨D, 0, none⟩)) ∧ w.cell? ⟨J, 1, none⟩ = some (.int .i64 (b : Int)) ∧ w.cell? ⟨J, 2, none⟩ = some (.int .i64 (n : Int)) ∧ w.cell? ⟨J, 3, none⟩ = some (.int .i64 (t : Int)) :=
  ⟨by rw [cell_of_row _ _ _ _ _ _ h]; rfl, by rw [cell_of_row _ _ _ _ _ _ h]; rfl, by rw [cell_of_row _ _ _ _ _ _ h]; rfl, by rw [cell_of_row _ _ _ _ _ _ h]; rfl⟩
theorem JAt.lt {w : World} {J D b n t : Nat} (h : JAt w J D b n t) : J < w.heap.size := (Array.getElem?_eq_some_iff.1 h).1
theorem JAt.below {w w' : World} {J D b n t : Nat} (h : JAt w J D b n t) (hb : Below w.heap.size w w') : JAt w' J D b n t := (hb.block J h.lt).trans h
theorem ks_cell {K : Nat → Prop} {w w' : World} (h : KS K w w') {k i : Nat} (hk : K k) (hlt : k < w.heap.size) : w'.cell? ⟨k, i, none⟩ = w.cell? ⟨k, i, none⟩ := by
  unfold World.cell?
  rw [h.block k hlt hk]
theorem lst_ks {K : Nat → Prop} {w w' : World} (hL : Lst w) (h0 : K 0) (h : KS K w w') : Lst w' :=
  ⟨(ks_cell h h0 hL.pos).trans hL.c0, (ks_cell h h0 hL.pos).trans hL.c1, (ks_cell h h0 hL.pos).trans hL.c2, (ks_cell h h0 hL.pos).trans hL.c3⟩
/-- a journal at J on the disk at D, apart from K's blocks but for those that it stands on -/
structure Jk (K : Nat → Prop) (J D : Nat) (wr : World) (s : St) (b n t : Nat) : Prop where
  cd : Cd K D wr s
  kJ : K J
  k0 : K 0
  j : JAt wr J D b n t
  lst : Lst wr
section
variable {K : Nat → Prop} {J D b n t : Nat} {wr w' : World} {s s' : St}
theorem Jk.next (h : Jk K J D wr s b n t) (hb : Below wr.heap.size wr w') : Jk K J D w' s b n t := ⟨h.cd.next hb, h.kJ, h.k0, h.j.below hb, h.lst.next h.lst.pos hb⟩
theorem Jk.step (h : Jk K J D wr s b n t) (hc : Cd K D w' s') (hk : KS K wr w') : Jk K J D w' s' b n t := ⟨hc, h.kJ, h.k0, (hk.block J h.j.lt h.kJ).trans h.j, lst_ks h.lst h.k0 hk⟩
end
theorem below_drewN2 {w w' : World} {n : Nat} (h : Below (w.drewN n).heap.size (w.drewN n) w') : Below w.heap.size w w' := ⟨h.os, h.tape, h.output, h.size, h.block⟩
/-- the page that an entry is written as -/
noncomputable def pgJ (m : Nat) (kd tx ix pk pn : Int) (bo : ByteArray) (ct sm : Int) : ByteArray := ⟨(sealL 5 m (encR kd tx ix pk pn bo ct sm).1.data.toList).toArray⟩
set_option maxRecDepth 100000 in
set_option maxHeartbeats 4000000 in
theorem jwrite {K : Nat → Prop} {J D b n t : Nat} {wr : World} {s : St} (h : Jk K J D wr s b n t) {k : Nat} (hf : Few s k) (hk : k < 1000000) (kd tx pk pn : Int) (i : Nat) (bo : ByteArray) (ct sm : Int) (hs : 0 ≤ sm) (hs2 : sm < 4294967296) (hm : mayE kd tx i pk pn bo ct sm) (hbi : b + i < 1000) :
    Calls Tryz.prog 90 #[.pointer (some ⟨J, 0, none⟩), .agg (entC kd tx i pk pn bo ct sm)] wr fun e w' => e = .returned (.tuple #[]) ∧ Cd K D w' (wrU s ((b + i : Nat) : Int) (pgJ (b + i) kd tx i pk pn bo ct sm)).2 ∧ KS K wr w' := by
  have hz := En.encR_size hs hm
  have HE := hid fun (V : World) (hV : Lst V) => (En.encode_any kd tx i pk pn bo ct sm V hV (by have := hm.2.1; omega) hs hs2)
  unfold pgJ
  obtain ⟨S, hS⟩ : ∃ S, (encR kd tx i pk pn bo ct sm).1 = S := ⟨_, rfl⟩
  obtain ⟨cc, hcc⟩ : ∃ S, (encR kd tx i pk pn bo ct sm).2 = S := ⟨_, rfl⟩
  rw [hS] at HE hz ⊢
  rw [hcc] at HE
  obtain ⟨m, hmm⟩ : ∃ m, b + i = m := ⟨_, rfl⟩
  rw [hmm] at hbi ⊢
  have HSL := hid fun (V : World) => Pg.seal_yes 5 m S V ⟨by decide, by decide, by omega, by omega, hz.2⟩
  have HT := hid fun (V : World) (c : Cd K D V s) => c.write hf hk (m : Int) ⟨(sealL 5 m S.data.toList).toArray⟩
  generalize (⟨(sealL 5 m S.data.toList).toArray⟩ : ByteArray) = Tx at *
  have HJ := hid (h.next ((Below.refl wr.heap.size wr).alloc (Nat.le_refl _) (.cells (entC kd tx i pk pn bo ct sm) 134)))
  have HX := hid (heap_alloc_new wr (.cells (entC kd tx i pk pn bo ct sm) 134))
  have HB0 := hid ((Below.refl wr.heap.size wr).alloc (Nat.le_refl _) (.cells (entC kd tx i pk pn bo ct sm) 134))
  have hw : wrap64 ((b : Int) + (i : Int)) = (m : Int) := by unfold wrap64; omega
  clear h hz hS hcc hm hs hs2 hmm
  go_enter Tryz.func90, Tryz.ntmps90
  go_wp2_with fail
  refine (HE.out _ HJ.out.lst).mono ?_
  rintro e w1 ⟨rfl, hb⟩
  have HJ1 := hid (HJ.out.next hb)
  have HB1 := hid (HB0.out.trans (hb.mono HB0.out.size))
  have HX1 := hid ((hb.block wr.heap.size (by simp)).trans HX.out)
  clear hb
  obtain ⟨j0, j1, j2, j3⟩ := HJ1.out.j.cells
  obtain ⟨q0, q1, q2, q3, q4, q5, q6, q7⟩ := En.ent_at HX1.out
  clear q0 q1 q3 q4 q5 q6 q7 j2 j3
  go_wp2_with fail
  go_quiet (fail)
  go_wp2_with fail
  refine (HSL.out _).mono ?_
  rintro e w2 ⟨rfl, hb⟩
  have hb' := below_drewN2 hb
  have HJ2 := hid (HJ1.out.next hb')
  have HB2 := hid (HB1.out.trans (hb'.mono HB1.out.size))
  clear hb hb' j0 j1 q2
  obtain ⟨j0, j1, j2, j3⟩ := HJ2.out.j.cells
  go_wp2_with fail
  refine (HT.out _ HJ2.out.cd).mono ?_
  rintro e w3 ⟨rfl, hc, hks⟩
  have HK3 := hid (And.intro hc ((KS.of HB2.out).trans hks))
  clear hc hks
  go_wp2_with fail
  refine bodyPost_end (v := .tuple #[]) (by simp [results, Tryz.results90, go_sem]) rfl ⟨rfl, ?_⟩
  exact HK3.out
end Go.Proofs.YtgihpdhkjneimaaGreatDoor.Jn

/- Equality of two pages, as the program asks it; Open's contract as one. -/
namespace Go.Proofs.YtgihpdhkjneimaaGreatDoor.Pg
open Go.RowKit
open Go.Lib (hid)
open Go.Proofs.YtgihpdhkjneimaaGreatDoor.Fd (num getAt)

/-- are two pages the same? -/
def pageB (a b a' b' : Int) (c c' : ByteArray) : Bool := a == a' && (b == b' && c.toList == c'.toList)
theorem page_yes {a b a' b' : Int} {c c' : ByteArray} (h1 : a = a') (h2 : b = b') (h3 : c.data.toList = c'.data.toList) : pageB a b a' b' c c' = true := by
  subst h1 h2; unfold pageB; rw [ByteArray.toList_eq, ByteArray.toList_eq, h3]; simp
theorem page_of {a b a' b' : Int} {c c' : ByteArray} (h : pageB a b a' b' c c' = true) : a = a' ∧ b = b' ∧ c.data.toList = c'.data.toList := by
  unfold pageB at h; rw [ByteArray.toList_eq, ByteArray.toList_eq] at h; simpa using h
theorem eq23 (a b a' b' : Int) (c c' : ByteArray) (w : World) :
    (binOp .eql 69 (.agg #[.int .i64 a, .int .i64 b, .string c]) (.agg #[.int .i64 a', .int .i64 b', .string c'])).run Tryz.prog w = .ok (.bool (pageB a b a' b' c c')) w := by
  have ht : Tryz.prog.underlying 69 = some (.struct (Tryz.prog.fieldsOf 69)) := by kernel_rfl
  have hp : Tryz.prog.stoodInHeld 69 = false := by kernel_rfl
  rw [run_eql_struct, show (10000 : Nat) = 9999 + 1 from rfl, run_equalIn_struct _ _ _ _ _ ht hp]
  simp only [Program.fieldsOf, Tryz.underlying69]
  unfold pageB
  by_cases h1 : a = a'
  · by_cases h2 : b = b'
    · by_cases h3 : c.toList = c'.toList <;> simp [Op.eqFields, go_sem, h1, h2, h3]
    · simp [Op.eqFields, go_sem, h1, h2]
  · simp [Op.eqFields, go_sem, h1]
theorem ne23 (a b a' b' : Int) (c c' : ByteArray) (w : World) :
    (binOp .neq 69 (.agg #[.int .i64 a, .int .i64 b, .string c]) (.agg #[.int .i64 a', .int .i64 b', .string c'])).run Tryz.prog w = .ok (.bool (!pageB a b a' b' c c')) w := by
  have h := eq23 a b a' b' c c' w
  rw [run_eql_struct] at h
  rw [run_neq_struct]
  generalize (Op.equalIn 10000 69 (.agg #[.int .i64 a, .int .i64 b, .string c]) (.agg #[.int .i64 a', .int .i64 b', .string c'])).run Tryz.prog w = r at h ⊢
  cases r with
  | ok x w' => simp [Result.andThen] at h ⊢; exact ⟨by rw [h.1], h.2⟩
  | halt x w' => simp [Result.andThen] at h

/-- Open's answer -/
theorem open_at {k n e : Nat} {b : List UInt8} (s : ByteArray) (w : World) (h : openL s.data.toList = (k, n, b, e)) :
    Calls Tryz.prog 133 #[.string s] w fun r w' => r = .returned (.tuple #[.agg #[.int .i64 (k : Int), .int .i64 (n : Int), .string ⟨b.toArray⟩], .int .i64 (e : Int)]) ∧ Below w.heap.size w w' := by
  have hsl : s.data.toList.length = s.size := by simp
  by_cases h1 : s.size = 256
  · by_cases h2 : s.data.toList = blankL
    · have : openL s.data.toList = (0, 0, [], 0) := by unfold openL; rw [if_neg (by omega), if_pos h2]
      rw [this] at h; simp only [Prod.mk.injEq] at h; obtain ⟨rfl, rfl, rfl, rfl⟩ := h
      exact open_blank s w h1 h2
    · by_cases h3 : lowL (sumN (s.data.toList.take 252)) = s.data.toList.drop 252
      · have hr := open_rest s w h1 h2 h3 _ _ _ _ _ _ _ rfl rfl rfl rfl rfl rfl rfl
        rw [openL_form _ (by omega) h2 h3] at h
        by_cases h4 : sealX (num (getAt s.data.toList 0 1)) (num (getAt s.data.toList 4 4)) (bodyL s.data.toList (num (getAt s.data.toList 2 2))) = s.data.toList
        · rw [if_pos h4] at h hr; simp only [Prod.mk.injEq] at h; obtain ⟨rfl, rfl, rfl, rfl⟩ := h
          exact hr
        · rw [if_neg h4] at h hr; simp only [Prod.mk.injEq] at h; obtain ⟨rfl, rfl, rfl, rfl⟩ := h
          exact hr
      · have : openL s.data.toList = (0, 0, [], 7) := by unfold openL; rw [if_neg (by omega), if_neg h2, if_pos h3]
        rw [this] at h; simp only [Prod.mk.injEq] at h; obtain ⟨rfl, rfl, rfl, rfl⟩ := h
        exact open_sum s w h1 h2 h3
  · have : openL s.data.toList = (0, 0, [], 9) := by unfold openL; rw [if_pos (by omega)]
    rw [this] at h; simp only [Prod.mk.injEq] at h; obtain ⟨rfl, rfl, rfl, rfl⟩ := h
    exact open_cut s w h1
end Go.Proofs.YtgihpdhkjneimaaGreatDoor.Pg

/- What Decode of the code answers, whatever the text; where it tells an error, the text is no entry's. -/
namespace Go.Proofs.YtgihpdhkjneimaaGreatDoor.En
open Go.RowKit
open Go.Lib (hid)

theorem dec_any2 (s : ByteArray) (hs : s.size ≤ 4096) :
    (∃ c : Int, c ≠ 0 ∧ (∀ kd tx ix pk pn b ct sm, 0 ≤ sm → sm < 4294967296 → mayE kd tx ix pk pn b ct sm → (encR kd tx ix pk pn b ct sm).1 ≠ s) ∧ ∀ V : World, Lst V → Calls Tryz.prog 101 #[.string s] V fun e w' => e = .returned (.tuple #[.agg (entC 0 0 0 0 0 ⟨#[]⟩ 0 0), .int .i64 c]) ∧ Below V.heap.size V w') ∨
    ∃ kd tx ix pk pn b ct sm, 0 ≤ sm ∧ sm < 4294967296 ∧ tx ≤ 9223372036854775807 ∧ mayE kd tx ix pk pn b ct sm ∧ (encR kd tx ix pk pn b ct sm).1 = s ∧ ∀ V : World, Lst V → Calls Tryz.prog 101 #[.string s] V fun e w' => e = .returned (.tuple #[.agg (entC kd tx ix pk pn b ct sm), .int .i64 0]) ∧ Below V.heap.size V w' := by
  by_cases h0 : 0 < s.size
  · by_cases hn : s.size < leastN s[0].toNat
    · refine .inl ⟨9, by decide, fun kd tx ix pk pn b ct sm g0 g1 gm ge => ?_, fun V hV => decode_cut s V (fun X hX => by have h := cut_pos s h0 X hX; rw [decide_eq_true hn] at h; exact h) hV⟩
      have h1 := enc_size g0 gm
      have h2 := rd_enc g0 g1 gm
      rw [ge] at h1 h2
      have h3 := h2.2.2.1
      rw [first_at s h0] at h3
      rw [h3, Int.toNat_natCast] at h1
      omega
    · have hC : ∀ X : World, Lst X → Calls Tryz.prog 134 #[.string s] X fun e w' => e = .returned (.bool false) ∧ w' = X := fun X hX => by
        have h := cut_pos s h0 X hX; rw [decide_eq_false hn] at h; exact h
      obtain ⟨kd, tx, ix, pk, pn, b, ct, sm, hr⟩ := rd_ex s (fun h => by
        rw [first_at s h0] at h
        rw [h] at hn
        have : leastN 1 = 10 := rfl
        omega)
      by_cases hq : (encR kd tx ix pk pn b ct sm).1 = s
      · refine .inr ⟨kd, tx, ix, pk, pn, b, ct, sm, hr.fit.2.1, hr.fit.2.2, hr.fit.1, ?_, hq, fun V hV => decode_ok s kd tx ix pk pn b ct sm V hs hr hC hV hq⟩
        rcases Classical.em (mayE kd tx ix pk pn b ct sm) with h | h
        · exact h
        · rw [encR_no h] at hq
          rw [← hq] at h0
          exact absurd h0 (by decide)
      · refine .inl ⟨6, by decide, fun kd' tx' ix' pk' pn' b' ct' sm' g0 g1 gm ge => ?_, fun V hV => decode_bad s kd tx ix pk pn b ct sm V hs hr hC hV hq⟩
        have h2 := rd_enc g0 g1 gm
        rw [ge] at h2
        obtain ⟨rfl, rfl, rfl, rfl, rfl, rfl, rfl, rfl⟩ := hr.same h2
        exact hq ge
  · refine .inl ⟨9, by decide, fun kd tx ix pk pn b ct sm g0 g1 gm ge => ?_, fun V hV => decode_cut s V (fun X _ => by rw [no_size h0]; exact cut_nil X) hV⟩
    have h1 := encR_size g0 gm
    rw [ge] at h1
    omega
end Go.Proofs.YtgihpdhkjneimaaGreatDoor.En

/- Read of a journal's page. -/
namespace Go.Proofs.YtgihpdhkjneimaaGreatDoor.Jn
open Go.RowKit
open Go.Lib (hid)
open Go.Proofs.YtgihpdhkjneimaaGreatDoor.Dk
open Go.Proofs.YtgihpdhkjneimaaGreatDoor.En (Lst entC encR mayE PageT Pgs ent_at infoC oneC)
open Go.Proofs.YtgihpdhkjneimaaGreatDoor.Pg (sealL openL mayP)
open Go.Proofs.YtgihpdhkjneimaaGreatDoor.Sm (U sumB wpList_store_whole)
theorem KS.less {K K' : Nat → Prop} {w w' : World} (h : KS K' w w') (hk : ∀ j, K j → K' j) : KS K w w' := ⟨h.os, h.tape, h.output, h.size, fun k hl e => h.block k hl (hk k e)⟩
theorem KS.setRow {K : Nat → Prop} {w w' : World} (h : KS K w w') (g : Nat) (cs : Array Value) (hg : w.heap.size ≤ g) : KS K w (w'.setRow g cs) :=
  ⟨h.os, h.tape, h.output, by rw [setRow_size]; exact h.size, fun k hl e => by rw [setRow_other _ _ _ _ (by omega)]; exact h.block k hl e⟩
theorem Cd.setRow {K : Nat → Prop} {D : Nat} {w : World} {s : St} (h : Cd K D w s) (g : Nat) (cs : Array Value) (hg : K g) : Cd K D (w.setRow g cs) s :=
  h.turn (by rw [setRow_size]; exact Nat.le_refl _) fun k _ hk => setRow_other _ _ _ _ (fun e => hk (e ▸ hg))
/-- what a page's text is read as, of a place and a transaction -/
def IsJ (u : ByteArray) (m i t : Nat) (kd pk pn : Int) (bo : ByteArray) (ct sm : Int) : Prop :=
  ∃ S : ByteArray, openL u.data.toList = (5, m, S.data.toList, 0) ∧ 0 ≤ sm ∧ sm < 4294967296 ∧ mayE kd t i pk pn bo ct sm ∧ (encR kd t i pk pn bo ct sm).1 = S
/-- what read gives: the entry, or none -/
def RdP (u : ByteArray) (m i t : Nat) (e : Ending) : Prop :=
  (∃ kd pk pn bo ct sm, IsJ u m i t kd pk pn bo ct sm ∧ e = .returned (.tuple #[.agg (entC kd t i pk pn bo ct sm), .bool true])) ∨
  ((∀ kd pk pn bo ct sm, ¬ IsJ u m i t kd pk pn bo ct sm) ∧ e = .returned (.tuple #[.agg (entC 0 0 0 0 0 ⟨#[]⟩ 0 0), .bool false]))
theorem body_small {l : List UInt8} {k n : Nat} {b : List UInt8} (h : openL l = (k, n, b, 0)) (hk : k ≠ 0) : b.length ≤ 244 ∧ n < 1000 := by
  obtain ⟨_, h1 | ⟨k', n', b', hm, _, ho⟩⟩ := Pg.open_back l (by rw [h])
  · rw [h1.2] at h; cases h; exact absurd rfl hk
  · rw [ho] at h; cases h; exact ⟨by have := hm.2.2.2.2; omega, by have := hm.2.2.2.1; omega⟩
section
variable {K : Nat → Prop} {J D b n t : Nat} {wr : World} {s : St}
set_option maxRecDepth 100000 in
set_option maxHeartbeats 4000000 in
theorem jr_a1 (h : Jk K J D wr s b n t) {k : Nat} (hf : Few s k) (hk : k < 1000000) (i : Nat) (m : Nat) (hm : b + i = m) (hmm : m < 1000) (u : ByteArray) (hu : (rdU s (m : Int)).1 = u) (k5 n2 e5 : Nat) (bl : List UInt8) (ho : openL u.data.toList = (k5, n2, bl, e5)) (he : e5 ≠ 0) :
    Calls Tryz.prog 102 #[.pointer (some ⟨J, 0, none⟩), .int .i64 (i : Int)] wr fun e w' => e = .returned (.tuple #[.agg (entC 0 0 0 0 0 ⟨#[]⟩ 0 0), .bool false]) ∧ Cd K D w' (rdU s (m : Int)).2.2 ∧ KS K wr w' := by
  have x1 : (((e5 : Nat) : Int) != 0) = true := by simp; omega
  clear he
  have HJ := hid (show Jk (fun j => K j ∨ j = wr.heap.size) J D (wr.alloc (.cells (entC 0 0 0 0 0 ⟨#[]⟩ 0 0) 134)) s b n t from ⟨h.cd.more ((Below.refl wr.heap.size wr).alloc (Nat.le_refl _) _) (fun k hk => hk.imp id (fun e => by omega)) (fun k hk => by
      rcases hk with hk | hk
      · have := h.cd.lt k hk; simp; omega
      · subst hk; simp), .inl h.kJ, .inl h.k0, h.j.below ((Below.refl wr.heap.size wr).alloc (Nat.le_refl _) _), h.lst.next h.lst.pos ((Below.refl wr.heap.size wr).alloc (Nat.le_refl _) _)⟩)
  have HX := hid (heap_alloc_new wr (.cells (entC 0 0 0 0 0 ⟨#[]⟩ 0 0) 134))
  have HB0 := hid (KS.of (K := K) ((Below.refl wr.heap.size wr).alloc (Nat.le_refl _) (.cells (entC 0 0 0 0 0 ⟨#[]⟩ 0 0) 134)))
  have HR := hid fun (V : World) (c : Cd (fun j => K j ∨ j = wr.heap.size) D V s) => (show Calls Tryz.prog 132 #[.pointer (some ⟨D, 0, none⟩), .int .i64 (m : Int)] V fun e w' => e = .returned (.tuple #[.string u, .int .i64 (rdU s (m : Int)).2.1]) ∧ Cd (fun j => K j ∨ j = wr.heap.size) D w' (rdU s (m : Int)).2.2 ∧ KS (fun j => K j ∨ j = wr.heap.size) V w' by
    have h2 := c.read hf hk (m : Int)
    rw [hu] at h2; exact h2)
  have hw : wrap64 ((b : Int) + (i : Int)) = (m : Int) := by unfold wrap64; omega
  clear h hm hu
  obtain ⟨j0, j1, j2, j3⟩ := HJ.out.j.cells
  generalize (rdU s (m : Int)).2.2 = s' at *
  generalize (rdU s (m : Int)).2.1 = c0 at *
  go_enter Tryz.func102, Tryz.ntmps102
  go_wp2_with fail
  refine (HR.out _ HJ.out.cd).mono ?_
  rintro e w1 ⟨rfl, hc, hks⟩
  have HJ1 := hid (HJ.out.step hc hks)
  have HB1 := hid (HB0.out.trans (KS.less hks (fun j e => .inl e)))
  have HX1 := hid ((hks.block wr.heap.size (by simp) (.inr rfl)).trans HX.out)
  clear hc hks j0 j1 j2 j3 HB0 HX HJ
  go_wp2_with fail
  refine (Pg.open_at u _ ho).mono ?_
  rintro e w2 ⟨rfl, hb⟩
  have HJ2 := hid (HJ1.out.next hb)
  have HB2 := hid (HB1.out.trans (KS.of hb))
  have HX2 := hid ((hb.block wr.heap.size (Array.getElem?_eq_some_iff.1 HX1.out).1).trans HX1.out)
  clear hb HJ1 HB1 HX1
  have A3 := hid ((Below.refl w2.heap.size w2).alloc (Nat.le_refl _) (.cells #[.int .i64 (k5 : Int), .int .i64 (n2 : Int), .string ⟨bl.toArray⟩] 69))
  have HJ3 := hid (HJ2.out.next A3.out)
  have HB3 := hid (HB2.out.trans (KS.of A3.out))
  have HX3 := hid ((A3.out.block wr.heap.size (Array.getElem?_eq_some_iff.1 HX2.out).1).trans HX2.out)
  go_wp2_with (first | (refine wpList_store_whole ?gd 134 (.tmp 4) (.tmp 45) (by with_reducible rfl) ?dd wr.heap.size ?cs ?xx ?yy 134 ?old ?hz ?i ?o ?n ?_))
  case gd => rfl
  case dd => rfl
  case cs => exact (entC 0 0 0 0 0 ⟨#[]⟩ 0 0)
  case xx => rfl
  case yy => rfl
  case old => exact (entC 0 0 0 0 0 ⟨#[]⟩ 0 0)
  case hz => exact HX3.out
  case i => exact infoC _ _ _ _ _ _ _ _
  case o => rfl
  case n => exact (oneC _ _ _ _ _ _ _ _)
  obtain ⟨q0, q1, q2, q3, q4, q5, q6, q7⟩ := ent_at (setRow_heap _ _ _ (entC 0 0 0 0 0 ⟨#[]⟩ 0 0) _ _ HX3.out)
  go_wp2_with fail
  refine bodyPost_ret (v := .tuple #[.agg (entC 0 0 0 0 0 ⟨#[]⟩ 0 0), .bool false]) (by simp [results, Tryz.results102, go_sem, q0, q1, q2, q3, q4, q5, q6, q7]) rfl ⟨rfl, ?_, ?_⟩
  · exact (Cd.setRow HJ3.out.cd wr.heap.size _ (.inr rfl)).less (fun j e => .inl e)
  · exact KS.setRow HB3.out _ _ (Nat.le_refl _)
set_option maxRecDepth 100000 in
set_option maxHeartbeats 4000000 in
theorem jr_a2 (h : Jk K J D wr s b n t) {k : Nat} (hf : Few s k) (hk : k < 1000000) (i : Nat) (m : Nat) (hm : b + i = m) (hmm : m < 1000) (u : ByteArray) (hu : (rdU s (m : Int)).1 = u) (k5 n2 : Nat) (bl : List UInt8) (ho : openL u.data.toList = (k5, n2, bl, 0)) (he : k5 ≠ 5) :
    Calls Tryz.prog 102 #[.pointer (some ⟨J, 0, none⟩), .int .i64 (i : Int)] wr fun e w' => e = .returned (.tuple #[.agg (entC 0 0 0 0 0 ⟨#[]⟩ 0 0), .bool false]) ∧ Cd K D w' (rdU s (m : Int)).2.2 ∧ KS K wr w' := by
  have x1 : (((k5 : Nat) : Int) != 5) = true := by simp; omega
  clear he
  have HJ := hid (show Jk (fun j => K j ∨ j = wr.heap.size) J D (wr.alloc (.cells (entC 0 0 0 0 0 ⟨#[]⟩ 0 0) 134)) s b n t from ⟨h.cd.more ((Below.refl wr.heap.size wr).alloc (Nat.le_refl _) _) (fun k hk => hk.imp id (fun e => by omega)) (fun k hk => by
      rcases hk with hk | hk
      · have := h.cd.lt k hk; simp; omega
      · subst hk; simp), .inl h.kJ, .inl h.k0, h.j.below ((Below.refl wr.heap.size wr).alloc (Nat.le_refl _) _), h.lst.next h.lst.pos ((Below.refl wr.heap.size wr).alloc (Nat.le_refl _) _)⟩)
  have HX := hid (heap_alloc_new wr (.cells (entC 0 0 0 0 0 ⟨#[]⟩ 0 0) 134))
  have HB0 := hid (KS.of (K := K) ((Below.refl wr.heap.size wr).alloc (Nat.le_refl _) (.cells (entC 0 0 0 0 0 ⟨#[]⟩ 0 0) 134)))
  have HR := hid fun (V : World) (c : Cd (fun j => K j ∨ j = wr.heap.size) D V s) => (show Calls Tryz.prog 132 #[.pointer (some ⟨D, 0, none⟩), .int .i64 (m : Int)] V fun e w' => e = .returned (.tuple #[.string u, .int .i64 (rdU s (m : Int)).2.1]) ∧ Cd (fun j => K j ∨ j = wr.heap.size) D w' (rdU s (m : Int)).2.2 ∧ KS (fun j => K j ∨ j = wr.heap.size) V w' by
    have h2 := c.read hf hk (m : Int)
    rw [hu] at h2; exact h2)
  have hw : wrap64 ((b : Int) + (i : Int)) = (m : Int) := by unfold wrap64; omega
  clear h hm hu
  obtain ⟨j0, j1, j2, j3⟩ := HJ.out.j.cells
  generalize (rdU s (m : Int)).2.2 = s' at *
  generalize (rdU s (m : Int)).2.1 = c0 at *
  go_enter Tryz.func102, Tryz.ntmps102
  go_wp2_with fail
  refine (HR.out _ HJ.out.cd).mono ?_
  rintro e w1 ⟨rfl, hc, hks⟩
  have HJ1 := hid (HJ.out.step hc hks)
  have HB1 := hid (HB0.out.trans (KS.less hks (fun j e => .inl e)))
  have HX1 := hid ((hks.block wr.heap.size (by simp) (.inr rfl)).trans HX.out)
  clear hc hks j0 j1 j2 j3 HB0 HX HJ
  go_wp2_with fail
  refine (Pg.open_at u _ ho).mono ?_
  rintro e w2 ⟨rfl, hb⟩
  have HJ2 := hid (HJ1.out.next hb)
  have HB2 := hid (HB1.out.trans (KS.of hb))
  have HX2 := hid ((hb.block wr.heap.size (Array.getElem?_eq_some_iff.1 HX1.out).1).trans HX1.out)
  clear hb HJ1 HB1 HX1
  have A3 := hid ((Below.refl w2.heap.size w2).alloc (Nat.le_refl _) (.cells #[.int .i64 (k5 : Int), .int .i64 (n2 : Int), .string ⟨bl.toArray⟩] 69))
  have HJ3 := hid (HJ2.out.next A3.out)
  have HB3 := hid (HB2.out.trans (KS.of A3.out))
  have HX3 := hid ((A3.out.block wr.heap.size (Array.getElem?_eq_some_iff.1 HX2.out).1).trans HX2.out)
  go_wp2_with (first | (refine wpList_store_whole ?gd 134 (.tmp 4) (.tmp 45) (by with_reducible rfl) ?dd wr.heap.size ?cs ?xx ?yy 134 ?old ?hz ?i ?o ?n ?_))
  case gd => rfl
  case dd => rfl
  case cs => exact (entC 0 0 0 0 0 ⟨#[]⟩ 0 0)
  case xx => rfl
  case yy => rfl
  case old => exact (entC 0 0 0 0 0 ⟨#[]⟩ 0 0)
  case hz => exact HX3.out
  case i => exact infoC _ _ _ _ _ _ _ _
  case o => rfl
  case n => exact (oneC _ _ _ _ _ _ _ _)
  obtain ⟨q0, q1, q2, q3, q4, q5, q6, q7⟩ := ent_at (setRow_heap _ _ _ (entC 0 0 0 0 0 ⟨#[]⟩ 0 0) _ _ HX3.out)
  go_wp2_with fail
  refine bodyPost_ret (v := .tuple #[.agg (entC 0 0 0 0 0 ⟨#[]⟩ 0 0), .bool false]) (by simp [results, Tryz.results102, go_sem, q0, q1, q2, q3, q4, q5, q6, q7]) rfl ⟨rfl, ?_, ?_⟩
  · exact (Cd.setRow HJ3.out.cd wr.heap.size _ (.inr rfl)).less (fun j e => .inl e)
  · exact KS.setRow HB3.out _ _ (Nat.le_refl _)
set_option maxRecDepth 100000 in
set_option maxHeartbeats 4000000 in
theorem jr_a3 (h : Jk K J D wr s b n t) {k : Nat} (hf : Few s k) (hk : k < 1000000) (i : Nat) (m : Nat) (hm : b + i = m) (hmm : m < 1000) (u : ByteArray) (hu : (rdU s (m : Int)).1 = u) (n2 : Nat) (bl : List UInt8) (ho : openL u.data.toList = (5, n2, bl, 0)) (he : n2 ≠ m) :
    Calls Tryz.prog 102 #[.pointer (some ⟨J, 0, none⟩), .int .i64 (i : Int)] wr fun e w' => e = .returned (.tuple #[.agg (entC 0 0 0 0 0 ⟨#[]⟩ 0 0), .bool false]) ∧ Cd K D w' (rdU s (m : Int)).2.2 ∧ KS K wr w' := by
  have x1 : (((n2 : Nat) : Int) != (m : Int)) = true := by simp; omega
  clear he
  have HJ := hid (show Jk (fun j => K j ∨ j = wr.heap.size) J D (wr.alloc (.cells (entC 0 0 0 0 0 ⟨#[]⟩ 0 0) 134)) s b n t from ⟨h.cd.more ((Below.refl wr.heap.size wr).alloc (Nat.le_refl _) _) (fun k hk => hk.imp id (fun e => by omega)) (fun k hk => by
      rcases hk with hk | hk
      · have := h.cd.lt k hk; simp; omega
      · subst hk; simp), .inl h.kJ, .inl h.k0, h.j.below ((Below.refl wr.heap.size wr).alloc (Nat.le_refl _) _), h.lst.next h.lst.pos ((Below.refl wr.heap.size wr).alloc (Nat.le_refl _) _)⟩)
  have HX := hid (heap_alloc_new wr (.cells (entC 0 0 0 0 0 ⟨#[]⟩ 0 0) 134))
  have HB0 := hid (KS.of (K := K) ((Below.refl wr.heap.size wr).alloc (Nat.le_refl _) (.cells (entC 0 0 0 0 0 ⟨#[]⟩ 0 0) 134)))
  have HR := hid fun (V : World) (c : Cd (fun j => K j ∨ j = wr.heap.size) D V s) => (show Calls Tryz.prog 132 #[.pointer (some ⟨D, 0, none⟩), .int .i64 (m : Int)] V fun e w' => e = .returned (.tuple #[.string u, .int .i64 (rdU s (m : Int)).2.1]) ∧ Cd (fun j => K j ∨ j = wr.heap.size) D w' (rdU s (m : Int)).2.2 ∧ KS (fun j => K j ∨ j = wr.heap.size) V w' by
    have h2 := c.read hf hk (m : Int)
    rw [hu] at h2; exact h2)
  have hw : wrap64 ((b : Int) + (i : Int)) = (m : Int) := by unfold wrap64; omega
  clear h hm hu
  obtain ⟨j0, j1, j2, j3⟩ := HJ.out.j.cells
  generalize (rdU s (m : Int)).2.2 = s' at *
  generalize (rdU s (m : Int)).2.1 = c0 at *
  go_enter Tryz.func102, Tryz.ntmps102
  go_wp2_with fail
  refine (HR.out _ HJ.out.cd).mono ?_
  rintro e w1 ⟨rfl, hc, hks⟩
  have HJ1 := hid (HJ.out.step hc hks)
  have HB1 := hid (HB0.out.trans (KS.less hks (fun j e => .inl e)))
  have HX1 := hid ((hks.block wr.heap.size (by simp) (.inr rfl)).trans HX.out)
  clear hc hks j0 j1 j2 j3 HB0 HX HJ
  go_wp2_with fail
  refine (Pg.open_at u _ ho).mono ?_
  rintro e w2 ⟨rfl, hb⟩
  have HJ2 := hid (HJ1.out.next hb)
  have HB2 := hid (HB1.out.trans (KS.of hb))
  have HX2 := hid ((hb.block wr.heap.size (Array.getElem?_eq_some_iff.1 HX1.out).1).trans HX1.out)
  clear hb HJ1 HB1 HX1
  have A3 := hid ((Below.refl w2.heap.size w2).alloc (Nat.le_refl _) (.cells #[.int .i64 5, .int .i64 (n2 : Int), .string ⟨bl.toArray⟩] 69))
  have HJ3 := hid (HJ2.out.next A3.out)
  have HB3 := hid (HB2.out.trans (KS.of A3.out))
  have HX3 := hid ((A3.out.block wr.heap.size (Array.getElem?_eq_some_iff.1 HX2.out).1).trans HX2.out)
  go_wp2_with (first | (refine wpList_store_whole ?gd 134 (.tmp 4) (.tmp 45) (by with_reducible rfl) ?dd wr.heap.size ?cs ?xx ?yy 134 ?old ?hz ?i ?o ?n ?_))
  case gd => rfl
  case dd => rfl
  case cs => exact (entC 0 0 0 0 0 ⟨#[]⟩ 0 0)
  case xx => rfl
  case yy => rfl
  case old => exact (entC 0 0 0 0 0 ⟨#[]⟩ 0 0)
  case hz => exact HX3.out
  case i => exact infoC _ _ _ _ _ _ _ _
  case o => rfl
  case n => exact (oneC _ _ _ _ _ _ _ _)
  obtain ⟨q0, q1, q2, q3, q4, q5, q6, q7⟩ := ent_at (setRow_heap _ _ _ (entC 0 0 0 0 0 ⟨#[]⟩ 0 0) _ _ HX3.out)
  go_wp2_with fail
  refine bodyPost_ret (v := .tuple #[.agg (entC 0 0 0 0 0 ⟨#[]⟩ 0 0), .bool false]) (by simp [results, Tryz.results102, go_sem, q0, q1, q2, q3, q4, q5, q6, q7]) rfl ⟨rfl, ?_, ?_⟩
  · exact (Cd.setRow HJ3.out.cd wr.heap.size _ (.inr rfl)).less (fun j e => .inl e)
  · exact KS.setRow HB3.out _ _ (Nat.le_refl _)
set_option maxRecDepth 100000 in
set_option maxHeartbeats 4000000 in
theorem jr_b1 (h : Jk K J D wr s b n t) {k : Nat} (hf : Few s k) (hk : k < 1000000) (i : Nat) (m : Nat) (hm : b + i = m) (hmm : m < 1000) (u : ByteArray) (hu : (rdU s (m : Int)).1 = u) (bl : List UInt8) (c : Int) (ho : openL u.data.toList = (5, m, bl, 0)) (hc : c ≠ 0) (hD : ∀ V : World, Lst V → Calls Tryz.prog 101 #[.string ⟨bl.toArray⟩] V fun e w' => e = .returned (.tuple #[.agg (entC 0 0 0 0 0 ⟨#[]⟩ 0 0), .int .i64 c]) ∧ Below V.heap.size V w') :
    Calls Tryz.prog 102 #[.pointer (some ⟨J, 0, none⟩), .int .i64 (i : Int)] wr fun e w' => e = .returned (.tuple #[.agg (entC 0 0 0 0 0 ⟨#[]⟩ 0 0), .bool false]) ∧ Cd K D w' (rdU s (m : Int)).2.2 ∧ KS K wr w' := by
  have x1 : (c != 0) = true := by simpa using hc
  clear hc
  have HD := hid hD
  clear hD
  have HJ := hid (show Jk (fun j => K j ∨ j = wr.heap.size) J D (wr.alloc (.cells (entC 0 0 0 0 0 ⟨#[]⟩ 0 0) 134)) s b n t from ⟨h.cd.more ((Below.refl wr.heap.size wr).alloc (Nat.le_refl _) _) (fun k hk => hk.imp id (fun e => by omega)) (fun k hk => by
      rcases hk with hk | hk
      · have := h.cd.lt k hk; simp; omega
      · subst hk; simp), .inl h.kJ, .inl h.k0, h.j.below ((Below.refl wr.heap.size wr).alloc (Nat.le_refl _) _), h.lst.next h.lst.pos ((Below.refl wr.heap.size wr).alloc (Nat.le_refl _) _)⟩)
  have HX := hid (heap_alloc_new wr (.cells (entC 0 0 0 0 0 ⟨#[]⟩ 0 0) 134))
  have HB0 := hid (KS.of (K := K) ((Below.refl wr.heap.size wr).alloc (Nat.le_refl _) (.cells (entC 0 0 0 0 0 ⟨#[]⟩ 0 0) 134)))
  have HR := hid fun (V : World) (c : Cd (fun j => K j ∨ j = wr.heap.size) D V s) => (show Calls Tryz.prog 132 #[.pointer (some ⟨D, 0, none⟩), .int .i64 (m : Int)] V fun e w' => e = .returned (.tuple #[.string u, .int .i64 (rdU s (m : Int)).2.1]) ∧ Cd (fun j => K j ∨ j = wr.heap.size) D w' (rdU s (m : Int)).2.2 ∧ KS (fun j => K j ∨ j = wr.heap.size) V w' by
    have h2 := c.read hf hk (m : Int)
    rw [hu] at h2; exact h2)
  have hw : wrap64 ((b : Int) + (i : Int)) = (m : Int) := by unfold wrap64; omega
  clear h hm hu
  obtain ⟨j0, j1, j2, j3⟩ := HJ.out.j.cells
  generalize (rdU s (m : Int)).2.2 = s' at *
  generalize (rdU s (m : Int)).2.1 = c0 at *
  go_enter Tryz.func102, Tryz.ntmps102
  go_wp2_with fail
  refine (HR.out _ HJ.out.cd).mono ?_
  rintro e w1 ⟨rfl, hc, hks⟩
  have HJ1 := hid (HJ.out.step hc hks)
  have HB1 := hid (HB0.out.trans (KS.less hks (fun j e => .inl e)))
  have HX1 := hid ((hks.block wr.heap.size (by simp) (.inr rfl)).trans HX.out)
  clear hc hks j0 j1 j2 j3 HB0 HX HJ
  go_wp2_with fail
  refine (Pg.open_at u _ ho).mono ?_
  rintro e w2 ⟨rfl, hb⟩
  have HJ2 := hid (HJ1.out.next hb)
  have HB2 := hid (HB1.out.trans (KS.of hb))
  have HX2 := hid ((hb.block wr.heap.size (Array.getElem?_eq_some_iff.1 HX1.out).1).trans HX1.out)
  clear hb HJ1 HB1 HX1
  have A3 := hid ((Below.refl w2.heap.size w2).alloc (Nat.le_refl _) (.cells #[.int .i64 5, .int .i64 (m : Int), .string ⟨bl.toArray⟩] 69))
  have HJ3 := hid (HJ2.out.next A3.out)
  have HB3 := hid (HB2.out.trans (KS.of A3.out))
  have HX3 := hid ((A3.out.block wr.heap.size (Array.getElem?_eq_some_iff.1 HX2.out).1).trans HX2.out)
  go_wp2_with fail
  refine (HD.out _ HJ3.out.lst).mono ?_
  rintro e w4 ⟨rfl, hb⟩
  have HJ4 := hid (HJ3.out.next hb)
  have HB4 := hid (HB3.out.trans (KS.of hb))
  have HX4 := hid ((hb.block wr.heap.size (Array.getElem?_eq_some_iff.1 HX3.out).1).trans HX3.out)
  clear hb HJ3 HB3 HX3 HJ2 HB2 HX2 A3
  have A5 := hid ((Below.refl w4.heap.size w4).alloc (Nat.le_refl _) (.cells (entC 0 0 0 0 0 ⟨#[]⟩ 0 0) 134))
  have HJ5 := hid (HJ4.out.next A5.out)
  have HB5 := hid (HB4.out.trans (KS.of A5.out))
  have HX5 := hid ((A5.out.block wr.heap.size (Array.getElem?_eq_some_iff.1 HX4.out).1).trans HX4.out)
  have HE5 := hid (heap_alloc_new w4 (.cells (entC 0 0 0 0 0 ⟨#[]⟩ 0 0) 134))
  go_wp2_with fail
  generalize w4.alloc (.cells (entC 0 0 0 0 0 ⟨#[]⟩ 0 0) 134) = w5 at *
  obtain ⟨j0, j1, j2, j3⟩ := HJ5.out.j.cells
  obtain ⟨p0, p1, p2, p3, p4, p5, p6, p7⟩ := ent_at HE5.out
  clear j0 j1 j2
  go_quiet (fail)
  have HJ6 := hid (HJ5.out.next (below_drewN (Below.refl _ _) nq))
  have HB6 := hid (HB5.out.trans (KS.of (below_drewN (Below.refl _ _) nq)))
  have HX6 := hid (show (w5.drewN nq).heap[wr.heap.size]? = some (.cells (entC 0 0 0 0 0 ⟨#[]⟩ 0 0) 134) from HX5.out)
  go_wp2_with (first | (refine wpList_store_whole ?gd 134 (.tmp 4) (.tmp 69) (by with_reducible rfl) ?dd wr.heap.size ?cs ?xx ?yy 134 ?old ?hz ?i ?o ?n ?_))
  case gd => rfl
  case dd => rfl
  case cs => exact (entC 0 0 0 0 0 ⟨#[]⟩ 0 0)
  case xx => rfl
  case yy => rfl
  case old => exact (entC 0 0 0 0 0 ⟨#[]⟩ 0 0)
  case hz => exact HX6.out
  case i => exact infoC _ _ _ _ _ _ _ _
  case o => rfl
  case n => exact (oneC _ _ _ _ _ _ _ _)
  obtain ⟨q0, q1, q2, q3, q4, q5, q6, q7⟩ := ent_at (setRow_heap _ _ _ (entC 0 0 0 0 0 ⟨#[]⟩ 0 0) _ _ HX6.out)
  go_wp2_with fail
  refine bodyPost_ret (v := .tuple #[.agg (entC 0 0 0 0 0 ⟨#[]⟩ 0 0), .bool false]) (by simp [results, Tryz.results102, go_sem, q0, q1, q2, q3, q4, q5, q6, q7]) rfl ⟨rfl, ?_, ?_⟩
  · exact (Cd.setRow HJ6.out.cd wr.heap.size _ (.inr rfl)).less (fun j e => .inl e)
  · exact KS.setRow HB6.out _ _ (Nat.le_refl _)
set_option maxRecDepth 100000 in
set_option maxHeartbeats 4000000 in
theorem jr_b2 (h : Jk K J D wr s b n t) {k : Nat} (hf : Few s k) (hk : k < 1000000) (i : Nat) (m : Nat) (hm : b + i = m) (hmm : m < 1000) (u : ByteArray) (hu : (rdU s (m : Int)).1 = u) (bl : List UInt8) (kd tx ix pk pn : Int) (bo : ByteArray) (ct sm : Int) (ho : openL u.data.toList = (5, m, bl, 0)) (hc : tx ≠ t) (hD : ∀ V : World, Lst V → Calls Tryz.prog 101 #[.string ⟨bl.toArray⟩] V fun e w' => e = .returned (.tuple #[.agg (entC kd tx ix pk pn bo ct sm), .int .i64 0]) ∧ Below V.heap.size V w') :
    Calls Tryz.prog 102 #[.pointer (some ⟨J, 0, none⟩), .int .i64 (i : Int)] wr fun e w' => e = .returned (.tuple #[.agg (entC 0 0 0 0 0 ⟨#[]⟩ 0 0), .bool false]) ∧ Cd K D w' (rdU s (m : Int)).2.2 ∧ KS K wr w' := by
  have x1 : (tx != (t : Int)) = true := by simpa using hc
  clear hc
  have HD := hid hD
  clear hD
  have HJ := hid (show Jk (fun j => K j ∨ j = wr.heap.size) J D (wr.alloc (.cells (entC 0 0 0 0 0 ⟨#[]⟩ 0 0) 134)) s b n t from ⟨h.cd.more ((Below.refl wr.heap.size wr).alloc (Nat.le_refl _) _) (fun k hk => hk.imp id (fun e => by omega)) (fun k hk => by
      rcases hk with hk | hk
      · have := h.cd.lt k hk; simp; omega
      · subst hk; simp), .inl h.kJ, .inl h.k0, h.j.below ((Below.refl wr.heap.size wr).alloc (Nat.le_refl _) _), h.lst.next h.lst.pos ((Below.refl wr.heap.size wr).alloc (Nat.le_refl _) _)⟩)
  have HX := hid (heap_alloc_new wr (.cells (entC 0 0 0 0 0 ⟨#[]⟩ 0 0) 134))
  have HB0 := hid (KS.of (K := K) ((Below.refl wr.heap.size wr).alloc (Nat.le_refl _) (.cells (entC 0 0 0 0 0 ⟨#[]⟩ 0 0) 134)))
  have HR := hid fun (V : World) (c : Cd (fun j => K j ∨ j = wr.heap.size) D V s) => (show Calls Tryz.prog 132 #[.pointer (some ⟨D, 0, none⟩), .int .i64 (m : Int)] V fun e w' => e = .returned (.tuple #[.string u, .int .i64 (rdU s (m : Int)).2.1]) ∧ Cd (fun j => K j ∨ j = wr.heap.size) D w' (rdU s (m : Int)).2.2 ∧ KS (fun j => K j ∨ j = wr.heap.size) V w' by
    have h2 := c.read hf hk (m : Int)
    rw [hu] at h2; exact h2)
  have hw : wrap64 ((b : Int) + (i : Int)) = (m : Int) := by unfold wrap64; omega
  clear h hm hu
  obtain ⟨j0, j1, j2, j3⟩ := HJ.out.j.cells
  generalize (rdU s (m : Int)).2.2 = s' at *
  generalize (rdU s (m : Int)).2.1 = c0 at *
  go_enter Tryz.func102, Tryz.ntmps102
  go_wp2_with fail
  refine (HR.out _ HJ.out.cd).mono ?_
  rintro e w1 ⟨rfl, hc, hks⟩
  have HJ1 := hid (HJ.out.step hc hks)
  have HB1 := hid (HB0.out.trans (KS.less hks (fun j e => .inl e)))
  have HX1 := hid ((hks.block wr.heap.size (by simp) (.inr rfl)).trans HX.out)
  clear hc hks j0 j1 j2 j3 HB0 HX HJ
  go_wp2_with fail
  refine (Pg.open_at u _ ho).mono ?_
  rintro e w2 ⟨rfl, hb⟩
  have HJ2 := hid (HJ1.out.next hb)
  have HB2 := hid (HB1.out.trans (KS.of hb))
  have HX2 := hid ((hb.block wr.heap.size (Array.getElem?_eq_some_iff.1 HX1.out).1).trans HX1.out)
  clear hb HJ1 HB1 HX1
  have A3 := hid ((Below.refl w2.heap.size w2).alloc (Nat.le_refl _) (.cells #[.int .i64 5, .int .i64 (m : Int), .string ⟨bl.toArray⟩] 69))
  have HJ3 := hid (HJ2.out.next A3.out)
  have HB3 := hid (HB2.out.trans (KS.of A3.out))
  have HX3 := hid ((A3.out.block wr.heap.size (Array.getElem?_eq_some_iff.1 HX2.out).1).trans HX2.out)
  go_wp2_with fail
  refine (HD.out _ HJ3.out.lst).mono ?_
  rintro e w4 ⟨rfl, hb⟩
  have HJ4 := hid (HJ3.out.next hb)
  have HB4 := hid (HB3.out.trans (KS.of hb))
  have HX4 := hid ((hb.block wr.heap.size (Array.getElem?_eq_some_iff.1 HX3.out).1).trans HX3.out)
  clear hb HJ3 HB3 HX3 HJ2 HB2 HX2 A3
  have A5 := hid ((Below.refl w4.heap.size w4).alloc (Nat.le_refl _) (.cells (entC kd tx ix pk pn bo ct sm) 134))
  have HJ5 := hid (HJ4.out.next A5.out)
  have HB5 := hid (HB4.out.trans (KS.of A5.out))
  have HX5 := hid ((A5.out.block wr.heap.size (Array.getElem?_eq_some_iff.1 HX4.out).1).trans HX4.out)
  have HE5 := hid (heap_alloc_new w4 (.cells (entC kd tx ix pk pn bo ct sm) 134))
  go_wp2_with fail
  generalize w4.alloc (.cells (entC kd tx ix pk pn bo ct sm) 134) = w5 at *
  obtain ⟨j0, j1, j2, j3⟩ := HJ5.out.j.cells
  obtain ⟨p0, p1, p2, p3, p4, p5, p6, p7⟩ := ent_at HE5.out
  clear j0 j1 j2
  go_quiet (fail)
  have HJ6 := hid (HJ5.out.next (below_drewN (Below.refl _ _) nq))
  have HB6 := hid (HB5.out.trans (KS.of (below_drewN (Below.refl _ _) nq)))
  have HX6 := hid (show (w5.drewN nq).heap[wr.heap.size]? = some (.cells (entC 0 0 0 0 0 ⟨#[]⟩ 0 0) 134) from HX5.out)
  go_wp2_with (first | (refine wpList_store_whole ?gd 134 (.tmp 4) (.tmp 69) (by with_reducible rfl) ?dd wr.heap.size ?cs ?xx ?yy 134 ?old ?hz ?i ?o ?n ?_))
  case gd => rfl
  case dd => rfl
  case cs => exact (entC 0 0 0 0 0 ⟨#[]⟩ 0 0)
  case xx => rfl
  case yy => rfl
  case old => exact (entC 0 0 0 0 0 ⟨#[]⟩ 0 0)
  case hz => exact HX6.out
  case i => exact infoC _ _ _ _ _ _ _ _
  case o => rfl
  case n => exact (oneC _ _ _ _ _ _ _ _)
  obtain ⟨q0, q1, q2, q3, q4, q5, q6, q7⟩ := ent_at (setRow_heap _ _ _ (entC 0 0 0 0 0 ⟨#[]⟩ 0 0) _ _ HX6.out)
  go_wp2_with fail
  refine bodyPost_ret (v := .tuple #[.agg (entC 0 0 0 0 0 ⟨#[]⟩ 0 0), .bool false]) (by simp [results, Tryz.results102, go_sem, q0, q1, q2, q3, q4, q5, q6, q7]) rfl ⟨rfl, ?_, ?_⟩
  · exact (Cd.setRow HJ6.out.cd wr.heap.size _ (.inr rfl)).less (fun j e => .inl e)
  · exact KS.setRow HB6.out _ _ (Nat.le_refl _)
set_option maxRecDepth 100000 in
set_option maxHeartbeats 4000000 in
theorem jr_b3 (h : Jk K J D wr s b n t) {k : Nat} (hf : Few s k) (hk : k < 1000000) (i : Nat) (m : Nat) (hm : b + i = m) (hmm : m < 1000) (u : ByteArray) (hu : (rdU s (m : Int)).1 = u) (bl : List UInt8) (kd ix pk pn : Int) (bo : ByteArray) (ct sm : Int) (ho : openL u.data.toList = (5, m, bl, 0)) (hc : ix ≠ i) (hD : ∀ V : World, Lst V → Calls Tryz.prog 101 #[.string ⟨bl.toArray⟩] V fun e w' => e = .returned (.tuple #[.agg (entC kd t ix pk pn bo ct sm), .int .i64 0]) ∧ Below V.heap.size V w') :
    Calls Tryz.prog 102 #[.pointer (some ⟨J, 0, none⟩), .int .i64 (i : Int)] wr fun e w' => e = .returned (.tuple #[.agg (entC 0 0 0 0 0 ⟨#[]⟩ 0 0), .bool false]) ∧ Cd K D w' (rdU s (m : Int)).2.2 ∧ KS K wr w' := by
  have x1 : (ix != (i : Int)) = true := by simpa using hc
  clear hc
  have HD := hid hD
  clear hD
  have HJ := hid (show Jk (fun j => K j ∨ j = wr.heap.size) J D (wr.alloc (.cells (entC 0 0 0 0 0 ⟨#[]⟩ 0 0) 134)) s b n t from ⟨h.cd.more ((Below.refl wr.heap.size wr).alloc (Nat.le_refl _) _) (fun k hk => hk.imp id (fun e => by omega)) (fun k hk => by
      rcases hk with hk | hk
      · have := h.cd.lt k hk; simp; omega
      · subst hk; simp), .inl h.kJ, .inl h.k0, h.j.below ((Below.refl wr.heap.size wr).alloc (Nat.le_refl _) _), h.lst.next h.lst.pos ((Below.refl wr.heap.size wr).alloc (Nat.le_refl _) _)⟩)
  have HX := hid (heap_alloc_new wr (.cells (entC 0 0 0 0 0 ⟨#[]⟩ 0 0) 134))
  have HB0 := hid (KS.of (K := K) ((Below.refl wr.heap.size wr).alloc (Nat.le_refl _) (.cells (entC 0 0 0 0 0 ⟨#[]⟩ 0 0) 134)))
  have HR := hid fun (V : World) (c : Cd (fun j => K j ∨ j = wr.heap.size) D V s) => (show Calls Tryz.prog 132 #[.pointer (some ⟨D, 0, none⟩), .int .i64 (m : Int)] V fun e w' => e = .returned (.tuple #[.string u, .int .i64 (rdU s (m : Int)).2.1]) ∧ Cd (fun j => K j ∨ j = wr.heap.size) D w' (rdU s (m : Int)).2.2 ∧ KS (fun j => K j ∨ j = wr.heap.size) V w' by
    have h2 := c.read hf hk (m : Int)
    rw [hu] at h2; exact h2)
  have hw : wrap64 ((b : Int) + (i : Int)) = (m : Int) := by unfold wrap64; omega
  clear h hm hu
  obtain ⟨j0, j1, j2, j3⟩ := HJ.out.j.cells
  generalize (rdU s (m : Int)).2.2 = s' at *
  generalize (rdU s (m : Int)).2.1 = c0 at *
  go_enter Tryz.func102, Tryz.ntmps102
  go_wp2_with fail
  refine (HR.out _ HJ.out.cd).mono ?_
  rintro e w1 ⟨rfl, hc, hks⟩
  have HJ1 := hid (HJ.out.step hc hks)
  have HB1 := hid (HB0.out.trans (KS.less hks (fun j e => .inl e)))
  have HX1 := hid ((hks.block wr.heap.size (by simp) (.inr rfl)).trans HX.out)
  clear hc hks j0 j1 j2 j3 HB0 HX HJ
  go_wp2_with fail
  refine (Pg.open_at u _ ho).mono ?_
  rintro e w2 ⟨rfl, hb⟩
  have HJ2 := hid (HJ1.out.next hb)
  have HB2 := hid (HB1.out.trans (KS.of hb))
  have HX2 := hid ((hb.block wr.heap.size (Array.getElem?_eq_some_iff.1 HX1.out).1).trans HX1.out)
  clear hb HJ1 HB1 HX1
  have A3 := hid ((Below.refl w2.heap.size w2).alloc (Nat.le_refl _) (.cells #[.int .i64 5, .int .i64 (m : Int), .string ⟨bl.toArray⟩] 69))
  have HJ3 := hid (HJ2.out.next A3.out)
  have HB3 := hid (HB2.out.trans (KS.of A3.out))
  have HX3 := hid ((A3.out.block wr.heap.size (Array.getElem?_eq_some_iff.1 HX2.out).1).trans HX2.out)
  go_wp2_with fail
  refine (HD.out _ HJ3.out.lst).mono ?_
  rintro e w4 ⟨rfl, hb⟩
  have HJ4 := hid (HJ3.out.next hb)
  have HB4 := hid (HB3.out.trans (KS.of hb))
  have HX4 := hid ((hb.block wr.heap.size (Array.getElem?_eq_some_iff.1 HX3.out).1).trans HX3.out)
  clear hb HJ3 HB3 HX3 HJ2 HB2 HX2 A3
  have A5 := hid ((Below.refl w4.heap.size w4).alloc (Nat.le_refl _) (.cells (entC kd t ix pk pn bo ct sm) 134))
  have HJ5 := hid (HJ4.out.next A5.out)
  have HB5 := hid (HB4.out.trans (KS.of A5.out))
  have HX5 := hid ((A5.out.block wr.heap.size (Array.getElem?_eq_some_iff.1 HX4.out).1).trans HX4.out)
  have HE5 := hid (heap_alloc_new w4 (.cells (entC kd t ix pk pn bo ct sm) 134))
  go_wp2_with fail
  generalize w4.alloc (.cells (entC kd t ix pk pn bo ct sm) 134) = w5 at *
  obtain ⟨j0, j1, j2, j3⟩ := HJ5.out.j.cells
  obtain ⟨p0, p1, p2, p3, p4, p5, p6, p7⟩ := ent_at HE5.out
  clear j0 j1 j2
  go_quiet (fail)
  have HJ6 := hid (HJ5.out.next (below_drewN (Below.refl _ _) nq))
  have HB6 := hid (HB5.out.trans (KS.of (below_drewN (Below.refl _ _) nq)))
  have HX6 := hid (show (w5.drewN nq).heap[wr.heap.size]? = some (.cells (entC 0 0 0 0 0 ⟨#[]⟩ 0 0) 134) from HX5.out)
  go_wp2_with (first | (refine wpList_store_whole ?gd 134 (.tmp 4) (.tmp 69) (by with_reducible rfl) ?dd wr.heap.size ?cs ?xx ?yy 134 ?old ?hz ?i ?o ?n ?_))
  case gd => rfl
  case dd => rfl
  case cs => exact (entC 0 0 0 0 0 ⟨#[]⟩ 0 0)
  case xx => rfl
  case yy => rfl
  case old => exact (entC 0 0 0 0 0 ⟨#[]⟩ 0 0)
  case hz => exact HX6.out
  case i => exact infoC _ _ _ _ _ _ _ _
  case o => rfl
  case n => exact (oneC _ _ _ _ _ _ _ _)
  obtain ⟨q0, q1, q2, q3, q4, q5, q6, q7⟩ := ent_at (setRow_heap _ _ _ (entC 0 0 0 0 0 ⟨#[]⟩ 0 0) _ _ HX6.out)
  go_wp2_with fail
  refine bodyPost_ret (v := .tuple #[.agg (entC 0 0 0 0 0 ⟨#[]⟩ 0 0), .bool false]) (by simp [results, Tryz.results102, go_sem, q0, q1, q2, q3, q4, q5, q6, q7]) rfl ⟨rfl, ?_, ?_⟩
  · exact (Cd.setRow HJ6.out.cd wr.heap.size _ (.inr rfl)).less (fun j e => .inl e)
  · exact KS.setRow HB6.out _ _ (Nat.le_refl _)
set_option maxRecDepth 100000 in
set_option maxHeartbeats 4000000 in
theorem jr_ok (h : Jk K J D wr s b n t) {k : Nat} (hf : Few s k) (hk : k < 1000000) (i : Nat) (m : Nat) (hm : b + i = m) (hmm : m < 1000) (u : ByteArray) (hu : (rdU s (m : Int)).1 = u) (bl : List UInt8) (kd pk pn : Int) (bo : ByteArray) (ct sm : Int) (ho : openL u.data.toList = (5, m, bl, 0))  (hD : ∀ V : World, Lst V → Calls Tryz.prog 101 #[.string ⟨bl.toArray⟩] V fun e w' => e = .returned (.tuple #[.agg (entC kd t i pk pn bo ct sm), .int .i64 0]) ∧ Below V.heap.size V w') :
    Calls Tryz.prog 102 #[.pointer (some ⟨J, 0, none⟩), .int .i64 (i : Int)] wr fun e w' => e = .returned (.tuple #[.agg (entC kd t i pk pn bo ct sm), .bool true]) ∧ Cd K D w' (rdU s (m : Int)).2.2 ∧ KS K wr w' := by
  have HD := hid hD
  clear hD
  have HJ := hid (show Jk (fun j => K j ∨ j = wr.heap.size) J D (wr.alloc (.cells (entC 0 0 0 0 0 ⟨#[]⟩ 0 0) 134)) s b n t from ⟨h.cd.more ((Below.refl wr.heap.size wr).alloc (Nat.le_refl _) _) (fun k hk => hk.imp id (fun e => by omega)) (fun k hk => by
      rcases hk with hk | hk
      · have := h.cd.lt k hk; simp; omega
      · subst hk; simp), .inl h.kJ, .inl h.k0, h.j.below ((Below.refl wr.heap.size wr).alloc (Nat.le_refl _) _), h.lst.next h.lst.pos ((Below.refl wr.heap.size wr).alloc (Nat.le_refl _) _)⟩)
  have HX := hid (heap_alloc_new wr (.cells (entC 0 0 0 0 0 ⟨#[]⟩ 0 0) 134))
  have HB0 := hid (KS.of (K := K) ((Below.refl wr.heap.size wr).alloc (Nat.le_refl _) (.cells (entC 0 0 0 0 0 ⟨#[]⟩ 0 0) 134)))
  have HR := hid fun (V : World) (c : Cd (fun j => K j ∨ j = wr.heap.size) D V s) => (show Calls Tryz.prog 132 #[.pointer (some ⟨D, 0, none⟩), .int .i64 (m : Int)] V fun e w' => e = .returned (.tuple #[.string u, .int .i64 (rdU s (m : Int)).2.1]) ∧ Cd (fun j => K j ∨ j = wr.heap.size) D w' (rdU s (m : Int)).2.2 ∧ KS (fun j => K j ∨ j = wr.heap.size) V w' by
    have h2 := c.read hf hk (m : Int)
    rw [hu] at h2; exact h2)
  have hw : wrap64 ((b : Int) + (i : Int)) = (m : Int) := by unfold wrap64; omega
  clear h hm hu
  obtain ⟨j0, j1, j2, j3⟩ := HJ.out.j.cells
  generalize (rdU s (m : Int)).2.2 = s' at *
  generalize (rdU s (m : Int)).2.1 = c0 at *
  go_enter Tryz.func102, Tryz.ntmps102
  go_wp2_with fail
  refine (HR.out _ HJ.out.cd).mono ?_
  rintro e w1 ⟨rfl, hc, hks⟩
  have HJ1 := hid (HJ.out.step hc hks)
  have HB1 := hid (HB0.out.trans (KS.less hks (fun j e => .inl e)))
  have HX1 := hid ((hks.block wr.heap.size (by simp) (.inr rfl)).trans HX.out)
  clear hc hks j0 j1 j2 j3 HB0 HX HJ
  go_wp2_with fail
  refine (Pg.open_at u _ ho).mono ?_
  rintro e w2 ⟨rfl, hb⟩
  have HJ2 := hid (HJ1.out.next hb)
  have HB2 := hid (HB1.out.trans (KS.of hb))
  have HX2 := hid ((hb.block wr.heap.size (Array.getElem?_eq_some_iff.1 HX1.out).1).trans HX1.out)
  clear hb HJ1 HB1 HX1
  have A3 := hid ((Below.refl w2.heap.size w2).alloc (Nat.le_refl _) (.cells #[.int .i64 5, .int .i64 (m : Int), .string ⟨bl.toArray⟩] 69))
  have HJ3 := hid (HJ2.out.next A3.out)
  have HB3 := hid (HB2.out.trans (KS.of A3.out))
  have HX3 := hid ((A3.out.block wr.heap.size (Array.getElem?_eq_some_iff.1 HX2.out).1).trans HX2.out)
  go_wp2_with fail
  refine (HD.out _ HJ3.out.lst).mono ?_
  rintro e w4 ⟨rfl, hb⟩
  have HJ4 := hid (HJ3.out.next hb)
  have HB4 := hid (HB3.out.trans (KS.of hb))
  have HX4 := hid ((hb.block wr.heap.size (Array.getElem?_eq_some_iff.1 HX3.out).1).trans HX3.out)
  clear hb HJ3 HB3 HX3 HJ2 HB2 HX2 A3
  have A5 := hid ((Below.refl w4.heap.size w4).alloc (Nat.le_refl _) (.cells (entC kd t i pk pn bo ct sm) 134))
  have HJ5 := hid (HJ4.out.next A5.out)
  have HB5 := hid (HB4.out.trans (KS.of A5.out))
  have HX5 := hid ((A5.out.block wr.heap.size (Array.getElem?_eq_some_iff.1 HX4.out).1).trans HX4.out)
  have HE5 := hid (heap_alloc_new w4 (.cells (entC kd t i pk pn bo ct sm) 134))
  go_wp2_with fail
  generalize w4.alloc (.cells (entC kd t i pk pn bo ct sm) 134) = w5 at *
  obtain ⟨j0, j1, j2, j3⟩ := HJ5.out.j.cells
  obtain ⟨p0, p1, p2, p3, p4, p5, p6, p7⟩ := ent_at HE5.out
  clear j0 j1 j2
  go_quiet (fail)
  have HJ6 := hid (HJ5.out.next (below_drewN (Below.refl _ _) nq))
  have HB6 := hid (HB5.out.trans (KS.of (below_drewN (Below.refl _ _) nq)))
  have HX6 := hid (show (w5.drewN nq).heap[wr.heap.size]? = some (.cells (entC 0 0 0 0 0 ⟨#[]⟩ 0 0) 134) from HX5.out)
  go_wp2_with (first | (refine wpList_store_whole ?gd 134 (.tmp 4) (.tmp 70) (by with_reducible rfl) ?dd wr.heap.size ?cs ?xx ?yy 134 ?old ?hz ?i ?o ?n ?_))
  case gd => rfl
  case dd => rfl
  case cs => exact (entC kd t i pk pn bo ct sm)
  case xx => rfl
  case yy => rfl
  case old => exact (entC 0 0 0 0 0 ⟨#[]⟩ 0 0)
  case hz => exact HX6.out
  case i => exact infoC _ _ _ _ _ _ _ _
  case o => rfl
  case n => exact (oneC _ _ _ _ _ _ _ _)
  obtain ⟨q0, q1, q2, q3, q4, q5, q6, q7⟩ := ent_at (setRow_heap _ _ _ (entC kd t i pk pn bo ct sm) _ _ HX6.out)
  go_wp2_with fail
  refine bodyPost_ret (v := .tuple #[.agg (entC kd t i pk pn bo ct sm), .bool true]) (by simp [results, Tryz.results102, go_sem, q0, q1, q2, q3, q4, q5, q6, q7]) rfl ⟨rfl, ?_, ?_⟩
  · exact (Cd.setRow HJ6.out.cd wr.heap.size _ (.inr rfl)).less (fun j e => .inl e)
  · exact KS.setRow HB6.out _ _ (Nat.le_refl _)
theorem jread (h : Jk K J D wr s b n t) {k : Nat} (hf : Few s k) (hk : k < 1000000) (i : Nat) (hmm : b + i < 1000) :
    Calls Tryz.prog 102 #[.pointer (some ⟨J, 0, none⟩), .int .i64 (i : Int)] wr fun e w' => RdP (rdU s ((b + i : Nat) : Int)).1 (b + i) i t e ∧ Cd K D w' (rdU s ((b + i : Nat) : Int)).2.2 ∧ KS K wr w' := by
  obtain ⟨u, hu⟩ : ∃ u, (rdU s ((b + i : Nat) : Int)).1 = u := ⟨_, rfl⟩
  rw [hu]
  obtain ⟨⟨k5, n2, bl, e5⟩, ho⟩ : ∃ r, openL u.data.toList = r := ⟨_, rfl⟩
  have no : ∀ (P : Prop), (∀ S : ByteArray, openL u.data.toList = (5, b + i, S.data.toList, 0) → P → False) → P → ∀ kd pk pn bo ct sm, ¬ IsJ u (b + i) i t kd pk pn bo ct sm := fun P h1 hP kd pk pn bo ct sm ⟨S, h2, _⟩ => h1 S h2 hP
  by_cases he : e5 = 0
  · subst he
    by_cases h5 : k5 = 5
    · subst h5
      by_cases hn : n2 = b + i
      · subst hn
        have hsm := body_small ho (by decide)
        have hS : (⟨bl.toArray⟩ : ByteArray).data.toList = bl := by simp
        rcases En.dec_any2 ⟨bl.toArray⟩ (by show bl.toArray.size ≤ _; rw [List.size_toArray]; omega) with ⟨c, hc, hno, hD⟩ | ⟨kd, tx, ix, pk, pn, bo, ct, sm, g0, g1, g2, gm, gq, hD⟩
        · refine (jr_b1 h hf hk i _ rfl hmm u hu bl c ho hc hD).mono fun e w' ⟨h1, h2⟩ => ⟨.inr ⟨fun kd pk pn bo ct sm ⟨S, a1, a2, a3, a4, a5⟩ => ?_, h1⟩, h2⟩
          rw [ho] at a1
          have e1 : S = ⟨bl.toArray⟩ := by
            apply ByteArray.ext
            apply Array.toList_inj.1
            injection a1 with _ a1; injection a1 with _ a1; injection a1 with a1 _
            rw [← a1]
          exact hno _ _ _ _ _ _ _ _ a2 a3 a4 (a5.trans e1)
        · by_cases hx : tx = t
          · subst hx
            by_cases hi : ix = i
            · subst hi
              exact (jr_ok h hf hk i _ rfl hmm u hu bl kd pk pn bo ct sm ho hD).mono fun e w' ⟨h1, h2⟩ => ⟨.inl ⟨kd, pk, pn, bo, ct, sm, ⟨_, by rw [hS]; exact ho, g0, g1, gm, gq⟩, h1⟩, h2⟩
            · refine (jr_b3 h hf hk i _ rfl hmm u hu bl kd ix pk pn bo ct sm ho hi hD).mono fun e w' ⟨h1, h2⟩ => ⟨.inr ⟨fun kd' pk' pn' bo' ct' sm' ⟨S, a1, a2, a3, a4, a5⟩ => ?_, h1⟩, h2⟩
              rw [ho] at a1
              have e1 : S = ⟨bl.toArray⟩ := by
                apply ByteArray.ext
                apply Array.toList_inj.1
                injection a1 with _ a1; injection a1 with _ a1; injection a1 with a1 _
                rw [← a1]
              have r1 := En.rd_enc a2 a3 a4
              have r2 := En.rd_enc g0 g1 gm
              rw [a5, e1] at r1
              rw [gq] at r2
              exact hi (r2.same r1).2.2.1
          · refine (jr_b2 h hf hk i _ rfl hmm u hu bl kd tx ix pk pn bo ct sm ho hx hD).mono fun e w' ⟨h1, h2⟩ => ⟨.inr ⟨fun kd' pk' pn' bo' ct' sm' ⟨S, a1, a2, a3, a4, a5⟩ => ?_, h1⟩, h2⟩
            rw [ho] at a1
            have e1 : S = ⟨bl.toArray⟩ := by
              apply ByteArray.ext
              apply Array.toList_inj.1
              injection a1 with _ a1; injection a1 with _ a1; injection a1 with a1 _
              rw [← a1]
            have r1 := En.rd_enc a2 a3 a4
            have r2 := En.rd_enc g0 g1 gm
            rw [a5, e1] at r1
            rw [gq] at r2
            exact hx (r2.same r1).2.1
      · exact (jr_a3 h hf hk i _ rfl hmm u hu n2 bl ho hn).mono fun e w' ⟨h1, h2⟩ => ⟨.inr ⟨no True (fun S h2 _ => by rw [ho] at h2; injection h2 with _ h2; injection h2 with h2 _; exact hn h2) trivial, h1⟩, h2⟩
    · exact (jr_a2 h hf hk i _ rfl hmm u hu k5 n2 bl ho h5).mono fun e w' ⟨h1, h2⟩ => ⟨.inr ⟨no True (fun S h2 _ => by rw [ho] at h2; injection h2 with h2 _; exact h5 h2) trivial, h1⟩, h2⟩
  · exact (jr_a1 h hf hk i _ rfl hmm u hu k5 n2 e5 bl ho he).mono fun e w' ⟨h1, h2⟩ => ⟨.inr ⟨no True (fun S h2 _ => by rw [ho] at h2; injection h2 with _ h2; injection h2 with _ h2; injection h2 with _ h2; exact he h2) trivial, h1⟩, h2⟩
end
end Go.Proofs.YtgihpdhkjneimaaGreatDoor.Jn
