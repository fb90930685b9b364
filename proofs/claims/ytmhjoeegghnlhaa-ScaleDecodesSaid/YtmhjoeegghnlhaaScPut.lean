/- Insert and Remove of a scale. -/
import Derived.Test.YtmhjoeegghnlhaaScIns
namespace Go.Proofs.Ytmhjoeegghnlhaa.Sc
open Go.RowKit
open Go.Lib (hid)
open Go.Proofs.Ytmhjoeegghnlhaa.Ky Go.Proofs.Ytmhjoeegghnlhaa.Bk

/-- but the blocks F all is as it was -/
structure Onl (F : Nat → Prop) (w w' : World) : Prop where
  os : w'.os = w.os
  tape : w'.tape = w.tape
  output : w'.output = w.output
  size : w.heap.size ≤ w'.heap.size
  block : ∀ k, k < w.heap.size → ¬ F k → w'.heap[k]? = w.heap[k]?
theorem Onl.ofBelow {F : Nat → Prop} {w w' : World} (h : Below w.heap.size w w') : Onl F w w' := ⟨h.os, h.tape, h.output, h.size, fun k hk _ => h.block k hk⟩
theorem Onl.below {F : Nat → Prop} {w w' : World} {N : Nat} (h : Onl F w w') (hN : N ≤ w.heap.size) (hf : ∀ k, F k → N ≤ k) : Below N w w' :=
  ⟨h.os, h.tape, h.output, h.size, fun k hk => h.block k (Nat.lt_of_lt_of_le hk hN) (fun hk' => by have := hf k hk'; omega)⟩
/-- one row is another one -/
theorem Sc.put {N b R A : Nat} {w W w7 : World} {vs : List Value} {bs : List (List Nat)} {v v' : Value} {l l' : List Nat} (h : Sc N w b R vs bs) (hW : Below w.heap.size w W) (hg : W.grownBy w7 v.ownBlock) (hv : vs[A]? = some v) (hl : bs[A]? = some l)
    (ho : w7.ownsRow N 30 1 v' l'.length (kl l')) (hn : v'.ownBlock = v.ownBlock ∨ v'.ownBlock = some W.heap.size) (hf : (∀ x ∈ l', x < 4294967296) ∧ l'.length ≤ 255) :
    Sc N (w7.setCell ⟨R, A, none⟩ v') b R (vs.set A v') (bs.set A l') ∧ Onl (FS b R vs) w (w7.setCell ⟨R, A, none⟩ v') ∧ ∀ j, j < w.heap.size → FS b R (vs.set A v') j → FS b R vs j := by
  have hA : A < vs.length := (List.getElem?_eq_some_iff.1 hv).1
  have hAb : A < bs.length := (List.getElem?_eq_some_iff.1 hl).1
  have hvm : v ∈ vs := List.mem_of_getElem? hv
  have hnb := h.nb v hvm
  have hbl := h.ltb
  have hRl := h.ltR
  have hWs := hW.size
  -- what the others' blocks hold
  have hk7 : ∀ k, k < w.heap.size → v.ownBlock ≠ some k → w7.heap[k]? = w.heap[k]? := fun k hk hne => by
    rw [hg.block k (Nat.lt_of_lt_of_le hk hWs) (fun e => hne e.symm), hW.block k hk]
  have hb7 := hk7 b hbl hnb.1
  have hR7 := (hk7 R hRl hnb.2).trans h.row
  have hne : b ≠ R := h.lo.2.2
  have hnew : ∀ k, v'.ownBlock = some k → (v.ownBlock = some k ∨ w.heap.size ≤ k) := fun k hk => by
    rcases hn with e | e
    · left; rw [← e]; exact hk
    · right; rw [e] at hk; injection hk with hk; omega
  have hold : ∀ (i : Nat) (u : Value) (k : Nat), vs[i]? = some u → u.ownBlock = some k → k < w.heap.size := fun i u k hu hk => h.lt k (.inr (.inr ⟨u, List.mem_of_getElem? hu, hk⟩))
  have hsame : ∀ k, k ≠ R → (w7.setCell ⟨R, A, none⟩ v').heap[k]? = w7.heap[k]? := fun k hk => Below.heap_setCell w7 ⟨R, A, none⟩ v' k hk
  have hv'R : v'.ownBlock ≠ some R := fun e => by
    rcases hnew R e with e2 | e2
    · exact hnb.2 e2
    · omega
  have hv'b : v'.ownBlock ≠ some b := fun e => by
    rcases hnew b e with e2 | e2
    · exact hnb.1 e2
    · omega
  have hset : ∀ (i : Nat) (u : Value), (vs.set A v')[i]? = some u → (i = A ∧ u = v') ∨ (i ≠ A ∧ vs[i]? = some u) := fun i u hu => by
    by_cases e : A = i
    · subst e
      rw [List.getElem?_set_self hA] at hu
      injection hu with hu
      exact .inl ⟨rfl, hu.symm⟩
    · rw [List.getElem?_set_ne e] at hu
      exact .inr ⟨fun x => e x.symm, hu⟩
  have hsetb : ∀ (i : Nat) (m : List Nat), (bs.set A l')[i]? = some m → (i = A ∧ m = l') ∨ (i ≠ A ∧ bs[i]? = some m) := fun i m hm => by
    by_cases e : A = i
    · subst e
      rw [List.getElem?_set_self hAb] at hm
      injection hm with hm
      exact .inl ⟨rfl, hm.symm⟩
    · rw [List.getElem?_set_ne e] at hm
      exact .inr ⟨fun x => e x.symm, hm⟩
  refine ⟨⟨?_, ?_, by simp [h.len], ?_, ?_, ?_, h.lo, ?_, by simpa using h.dim⟩, ?_, ?_⟩
  · rw [hsame b hne, hb7, List.length_set]; exact h.head
  · have := heap_setCell_same w7 R A _ _ v' hR7
    rw [this]
    simp
  · intro i u m hu hm
    rcases hset i u hu with ⟨ei, eu⟩ | ⟨hi, hu⟩
    · rcases hsetb _ m hm with ⟨_, em⟩ | ⟨e, _⟩
      · rw [eu, em]
        exact row_keep ho (fun g hgb => hsame g (fun e => hv'R (by rw [hgb, e])))
      · exact absurd ei e
    · rcases hsetb i m hm with ⟨e, _⟩ | ⟨_, hm⟩
      · exact absurd e hi
      · refine row_keep (h.own i u m hu hm) (fun g hgb => ?_)
        have hgl := hold i u g hu hgb
        have hgR : g ≠ R := fun e => (h.nb u (List.mem_of_getElem? hu)).2 (by rw [hgb, e])
        rw [hsame g hgR, hk7 g hgl (fun e => hi (h.apart i A u v g hu hv hgb e))]
  · intro i j u1 u2 k hu1 hu2 hk1 hk2
    rcases hset i u1 hu1 with ⟨ei, eu⟩ | ⟨hi, hu1⟩
    · rcases hset j u2 hu2 with ⟨ej, _⟩ | ⟨hj, hu2⟩
      · omega
      · have hkl := hold j u2 k hu2 hk2
        rcases hnew k (by rw [← eu]; exact hk1) with e | e
        · have := h.apart A j v u2 k hv hu2 e hk2; omega
        · omega
    · rcases hset j u2 hu2 with ⟨ej, eu⟩ | ⟨hj, hu2⟩
      · have hkl := hold i u1 k hu1 hk1
        rcases hnew k (by rw [← eu]; exact hk2) with e | e
        · have := h.apart i A u1 v k hu1 hv hk1 e; omega
        · omega
      · exact h.apart i j u1 u2 k hu1 hu2 hk1 hk2
  · intro u hu
    obtain ⟨i, hi, rfl⟩ := List.getElem_of_mem hu
    rcases hset i _ (List.getElem?_eq_getElem hi) with ⟨_, e⟩ | ⟨_, e⟩
    · rw [e]; exact ⟨hv'b, hv'R⟩
    · exact h.nb _ (List.mem_of_getElem? e)
  · intro m hm
    obtain ⟨i, hi, rfl⟩ := List.getElem_of_mem hm
    rcases hsetb i _ (List.getElem?_eq_getElem hi) with ⟨_, e⟩ | ⟨_, e⟩
    · rw [e]; exact hf
    · exact h.fit _ (List.mem_of_getElem? e)
  · refine ⟨hg.os.trans hW.os, hg.tape.trans hW.tape, hg.output.trans hW.output, ?_, fun k hk hnF => ?_⟩
    · have := hg.size; simp [World.setCell]; omega
    · have hkR : k ≠ R := fun e => hnF (.inr (.inl e))
      rw [hsame k hkR, hk7 k hk (fun e => hnF (.inr (.inr ⟨v, hvm, e⟩)))]
  · rintro j hj (rfl | rfl | ⟨u, hu, hk⟩)
    · exact .inl rfl
    · exact .inr (.inl rfl)
    · obtain ⟨i, hi, rfl⟩ := List.getElem_of_mem hu
      rcases hset i _ (List.getElem?_eq_getElem hi) with ⟨_, e⟩ | ⟨_, e⟩
      · rw [e] at hk
        rcases hnew j hk with e2 | e2
        · exact .inr (.inr ⟨v, hvm, e2⟩)
        · omega
      · exact .inr (.inr ⟨_, List.mem_of_getElem? e, hk⟩)
/-- a number put in -/
def insN (l : List Nat) (i t : Nat) : List Nat := l.take i ++ [t] ++ l.drop i
theorem insL_kl (l : List Nat) (i t : Nat) : insL (kl l) i (.int .u32 (t : Int)) = kl (insN l i t) := by
  unfold insL insN kl; simp [List.map_take, List.map_drop]
theorem insN_length (l : List Nat) (i t : Nat) (h : i ≤ l.length) : (insN l i t).length = l.length + 1 := by unfold insN; simp; omega
theorem insN_fit {l : List Nat} {i t : Nat} (ht : t < 4294967296) (hf : ∀ x ∈ l, x < 4294967296) (hl : l.length ≤ 254) (hi : i ≤ l.length) : (∀ x ∈ insN l i t, x < 4294967296) ∧ (insN l i t).length ≤ 255 := by
  refine ⟨fun x hx => ?_, by rw [insN_length _ _ _ hi]; omega⟩
  unfold insN at hx
  rcases List.mem_append.1 hx with hx | hx
  · rcases List.mem_append.1 hx with hx | hx
    · exact hf x (List.mem_of_mem_take hx)
    · obtain rfl : x = t := by simpa using hx
      exact ht
  · exact hf x (List.mem_of_mem_drop hx)
theorem delL_kl (l : List Nat) (i : Nat) : delL (kl l) i = kl (l.eraseIdx i) := by
  unfold delL kl; rw [List.eraseIdx_eq_take_drop_succ]; simp [List.map_take, List.map_drop]
/-- bounds that may be -/
def upS (bs : List (List Nat)) : Prop := ∀ l ∈ bs, up l ∧ (∀ x ∈ l, 0 < x) ∧ l.length ≤ 63
def insE (bs : List (List Nat)) (a : Int) (t : Nat) : Int := if hasC bs.length a = false ∨ t = 0 ∨ isU (bs.getD a.toNat []) t = true then 1 else if (bs.getD a.toNat []).length = 63 then 4 else 0
def insV (bs : List (List Nat)) (a : Int) (t : Nat) : Int := if insE bs a t = 0 then (posU (bs.getD a.toNat []) t : Nat) else 0
def insB (bs : List (List Nat)) (a : Int) (t : Nat) : List (List Nat) := if insE bs a t = 0 then bs.set a.toNat (insN (bs.getD a.toNat []) (posU (bs.getD a.toNat []) t) t) else bs
theorem row_slice {base e size n : Nat} {w : World} {v : Value} {xs : List Value} (h : w.ownsRow base e size v n xs) : ∃ p m c, v = .slice p m c := by
  rcases h.2 with ⟨rfl, _⟩ | ⟨g, cap, cur, rfl, _⟩
  · exact ⟨_, _, _, rfl⟩
  · exact ⟨_, _, _, rfl⟩
/-- what Insert leaves -/
def InsR (N : Nat) (w : World) (b R : Nat) (vs : List Value) (bs' : List (List Nat)) (v : Value) (e : Ending) (w' : World) : Prop :=
  e = .returned v ∧ ∃ vs', Sc N w' b R vs' bs' ∧ Onl (FS b R vs) w w' ∧ ∀ j, j < w.heap.size → FS b R vs' j → FS b R vs j
theorem InsR.none {N b R : Nat} {w w' : World} {vs : List Value} {bs : List (List Nat)} {v : Value} (h : Sc N w b R vs bs) (hb : Below w.heap.size w w') : InsR N w b R vs bs v (.returned v) w' := ⟨rfl, vs, h.next hb, Onl.ofBelow hb, fun _ _ hf => hf⟩
set_option maxRecDepth 100000 in
set_option maxHeartbeats 4000000 in
theorem insert_ok (N b R : Nat) (vs : List Value) (bs : List (List Nat)) (a : Int) (t : Nat) (w : World) (h : Sc N w b R vs bs) (hN : N ≤ w.heap.size) (hu : upS bs) (ht : t < 4294967296) :
    Calls Try.prog 15 #[.pointer (some ⟨b, 0, none⟩), .int .i64 a, .int .u32 (t : Int)] w (InsR N w b R vs (insB bs a t) (.tuple #[.int .i64 (insV bs a t), .int .i64 (insE bs a t)])) := by
  have HH := hid (has_any (some ⟨b, 0, none⟩) bs.length a w (coords_ok w h.cell.1))
  have H := hid h
  cases hh : hasC bs.length a with
  | false =>
    rw [show insB bs a t = bs by unfold insB insE; rw [hh]; rfl, show insV bs a t = 0 by unfold insV insE; rw [hh]; rfl, show insE bs a t = 1 by unfold insE; rw [hh]; rfl]
    rw [hh] at HH
    clear h hh hu ht hN
    go_enter Try.func15, Try.ntmps15
    go_wp2_with fail
    refine HH.out.mono ?_
    rintro e w' ⟨rfl, rfl⟩
    go_wp2_with fail
    go_ret2
    exact .none H.out (Below.refl _ _)
  | true =>
    rw [hh] at HH
    obtain ⟨A, rfl, hA⟩ := hasC_iff.1 hh
    by_cases h0 : t = 0
    · subst h0
      have hE : insE bs (A : Int) 0 = 1 := by unfold insE; rw [if_pos (.inr (.inl rfl))]
      rw [show insB bs (A : Int) 0 = bs by unfold insB; rw [hE]; rfl, show insV bs (A : Int) 0 = 0 by unfold insV; rw [hE]; rfl, hE]
      clear h hh hu ht hN hA hE
      go_enter Try.func15, Try.ntmps15
      go_wp2_with fail
      refine HH.out.mono ?_
      rintro e w' ⟨rfl, rfl⟩
      go_wp2_with fail
      go_ret2
      exact .none H.out (Below.refl _ _)
    · have d0 : ((t : Int) == 0) = false := by rw [beq_eq_false_iff_ne]; omega
      obtain ⟨l, hl⟩ : ∃ l, bs[A]? = some l := ⟨_, List.getElem?_eq_getElem hA⟩
      have hg : bs.getD (A : Int).toNat [] = l := by rw [Int.toNat_natCast, List.getD_eq_getElem?_getD, hl]; rfl
      obtain ⟨v, p, c, hv, hvp, hcl, hfr, hpt, hown, hlc⟩ := h.at hl
      have hul := hu l (List.mem_of_getElem? hl)
      have HBI := hid fun (V : World) (hV : Pt V p l) => bin_ok l t p c V hV hul.1 (by omega)
      have hc := h.cell.1
      cases hi : isU l t with
      | true =>
        have hE : insE bs (A : Int) t = 1 := by unfold insE; rw [hg, if_pos (.inr (.inr hi))]
        rw [show insB bs (A : Int) t = bs by unfold insB; rw [hE]; rfl, show insV bs (A : Int) t = 0 by unfold insV; rw [hE]; rfl, hE]
        rw [hi] at HBI
        have HPT := hid hpt
        clear h hh hu hul ht hN h0 hE hg hi hpt hown hv hvp hl
        go_enter Try.func15, Try.ntmps15
        go_wp2_with fail
        refine HH.out.mono ?_
        rintro e w' ⟨rfl, rfl⟩
        go_wp2_with fail
        refine (HBI.out _ HPT.out).mono ?_
        rintro e w1 ⟨rfl, m, hw⟩
        have HB := hid (show Below w.heap.size w w1 by rw [hw]; exact below_drewN (Below.refl _ _) m)
        clear hw hc hcl
        go_wp2_with fail
        go_ret2
        exact .none H.out HB.out
      | false =>
        rw [hi] at HBI
        have hno : ¬ (hasC bs.length (A : Int) = false ∨ t = 0 ∨ isU (bs.getD (A : Int).toNat []) t = true) := by rw [hg, hh, hi]; simp [h0]
        by_cases h63 : l.length = 63
        · have hE : insE bs (A : Int) t = 4 := by unfold insE; rw [if_neg hno, hg, if_pos h63]
          rw [show insB bs (A : Int) t = bs by unfold insB; rw [hE]; rfl, show insV bs (A : Int) t = 0 by unfold insV; rw [hE]; rfl, hE]
          have d63 : ((l.length : Int) == 63) = true := by rw [beq_iff_eq]; omega
          have HPT := hid hpt
          have HCL := hid (show ∀ m, (w.drewN m).cell? ⟨b, 0, none⟩ = some (.slice (some ⟨R, 0, none⟩) bs.length bs.length) ∧ (w.drewN m).cell? ⟨R, A, none⟩ = some (.slice p l.length c) from fun m => ⟨hc, hcl⟩)
          clear h hh hu hul ht hN h0 hE hg hi hpt hown hv hvp hl h63 hno
          go_enter Try.func15, Try.ntmps15
          go_wp2_with fail
          refine HH.out.mono ?_
          rintro e w' ⟨rfl, rfl⟩
          go_wp2_with fail
          refine (HBI.out _ HPT.out).mono ?_
          rintro e w1 ⟨rfl, m, rfl⟩
          obtain ⟨k0, k1⟩ := HCL.out m
          have HB := hid (below_drewN (Below.refl w.heap.size w) m)
          clear hc hcl
          go_wp2_with fail
          go_ret2
          exact .none H.out HB.out
        · have hE : insE bs (A : Int) t = 0 := by unfold insE; rw [if_neg hno, hg, if_neg h63]
          have hpl := posU_le l t
          obtain ⟨r, hr⟩ : ∃ r, posU l t = r := ⟨_, rfl⟩
          rw [show insB bs (A : Int) t = bs.set A (insN l r t) by unfold insB; rw [hE, hg, hr]; rfl, show insV bs (A : Int) t = (r : Nat) by unfold insV; rw [hE, hg, hr]; rfl, hE]
          rw [hr] at HBI hpl
          have d63 : ((l.length : Int) == 63) = false := by rw [beq_eq_false_iff_ne]; omega
          have HPT := hid hpt
          have HCL := hid (show ∀ m, (w.drewN m).cell? ⟨b, 0, none⟩ = some (.slice (some ⟨R, 0, none⟩) bs.length bs.length) ∧ (w.drewN m).cell? ⟨R, A, none⟩ = some (.slice p l.length c) from fun m => ⟨hc, hcl⟩)
          have HX := hid (And.intro hN (And.intro hv (And.intro hl (And.intro hul (And.intro ht hpl)))))
          have HOW := hid hown
          have HVP := hid hvp
          have z1 : (0 : Int) ≤ (A : Int) := by omega
          have z2 : (A : Int) < (bs.length : Int) := by omega
          clear h hh hu hul ht hN h0 hE hg hi hpt hown hv hvp hl h63 hno hr hpl
          go_enter Try.func15, Try.ntmps15
          go_wp2_with fail
          refine HH.out.mono ?_
          rintro e w' ⟨rfl, rfl⟩
          go_wp2_with fail
          refine (HBI.out _ HPT.out).mono ?_
          rintro e w1 ⟨rfl, m, hw⟩
          have k0 : w1.cell? ⟨b, 0, none⟩ = some (.slice (some ⟨R, 0, none⟩) bs.length bs.length) := by rw [hw]; exact (HCL.out m).1
          have k1 : w1.cell? ⟨R, A, none⟩ = some (.slice p l.length c) := by rw [hw]; exact (HCL.out m).2
          have HB1 := hid (show Below w.heap.size w w1.drew by rw [hw]; exact (below_drewN (Below.refl w.heap.size w) m).drew)
          clear hw hc hcl HCL HH HBI
          have HB2 := hid (show Below w1.drew.heap.size w1.drew (w1.alloc (.cells #[.int .u32 (t : Int)] 30)).drew from below_alloc w1.drew _)
          have HW := hid (HB1.out.trans (HB2.out.mono HB1.out.size))
          have hbl := H.out.ltb; have hRl := H.out.ltR
          have hws : w.heap.size ≤ w1.heap.size := HB1.out.size
          have l01 : (w1.alloc (.cells #[.int .u32 (t : Int)] 30)).drew.cell? ⟨b, 0, none⟩ = some (.slice (some ⟨R, 0, none⟩) bs.length bs.length) ∧ (w1.alloc (.cells #[.int .u32 (t : Int)] 30)).drew.cell? ⟨R, A, none⟩ = some (.slice p l.length c) :=
            ⟨(HW.out.cell (p := ⟨b, 0, none⟩) hbl).trans (H.out.cell.1), (HW.out.cell (p := ⟨R, A, none⟩) hRl).trans (by
              obtain ⟨v2, p2, c2, hv2, hvp2, hcl2, _⟩ := H.out.at HX.out.2.2.1
              have e1 : some v2 = some v := by rw [← hv2, HX.out.2.1]
              injection e1 with e1
              rw [e1, HVP.out] at hvp2
              rw [hcl2, ← hvp2])⟩
          have l0 : (w1.alloc (.cells #[.int .u32 (t : Int)] 30)).cell? ⟨b, 0, none⟩ = some (.slice (some ⟨R, 0, none⟩) bs.length bs.length) := l01.1
          have l1 : (w1.alloc (.cells #[.int .u32 (t : Int)] 30)).cell? ⟨R, A, none⟩ = some (.slice p l.length c) := l01.2
          clear l01
          have hne : v.ownBlock ≠ some w1.heap.size := fun e => by
            have := H.out.lt _ (.inr (.inr ⟨v, List.mem_of_getElem? HX.out.2.1, e⟩)); omega
          have HIN := ins_ok (w1.alloc (.cells #[.int .u32 (t : Int)] 30)).drew N l.length r w1.heap.size v (.int .u32 (t : Int)) (kl l)
            (row_keep HOW.out (fun g hg => HW.out.block g (H.out.lt _ (.inr (.inr ⟨v, List.mem_of_getElem? HX.out.2.1, hg⟩))))) (kl_one l) (Nat.le_trans HX.out.1 HW.out.size) HX.out.2.2.2.2.2 (by have := HX.out.2.2.2.1.2.2; omega) hne (heap_alloc_new w1 _) rfl
          rw [HVP.out] at HIN
          unfold InsPost at HIN
          rw [insL_kl] at HIN
          have HIN := hid HIN
          have HS7 := hid (show ∀ w7 : World, (w1.alloc (.cells #[.int .u32 (t : Int)] 30)).drew.grownBy w7 v.ownBlock → w7.cell? ⟨b, 0, none⟩ = some (.slice (some ⟨R, 0, none⟩) bs.length bs.length) ∧ w7.cell? ⟨R, A, none⟩ = some (.slice p l.length c) ∧ w7.frozen? ⟨R, A, none⟩ = false from fun w7 hg => by
            have hnb := H.out.nb v (List.mem_of_getElem? HX.out.2.1)
            have eb : w7.heap[b]? = _ := (hg.block b (Nat.lt_of_lt_of_le hbl HW.out.size) (fun e => hnb.1 e.symm)).trans ((HW.out.block b hbl).trans H.out.head)
            have eR : w7.heap[R]? = _ := (hg.block R (Nat.lt_of_lt_of_le hRl HW.out.size) (fun e => hnb.2 e.symm)).trans ((HW.out.block R hRl).trans H.out.row)
            refine ⟨by rw [cell_of_row _ _ _ _ _ _ eb]; rfl, ?_, frozen_of_row _ _ _ _ _ eR⟩
            rw [cell_of_row _ _ _ _ _ _ eR, List.getElem?_toArray, HX.out.2.1, HVP.out])
          rw [← HVP.out] at HS7
          clear hbl hRl hws hne
          go_wp2_with fail
          go_region_law (go_simp; go_at_call 41; refine HIN.out.mono ?_; rintro e w7 ⟨v', rfl, ho, hg, hv⟩; obtain ⟨pp, mm, cc, hvv⟩ := row_slice ho; subst hvv; have HO7 := hid ho; have HG7 := hid hg; have HV7 := hid hv; obtain ⟨m0, m1, f7⟩ := HS7.out w7 (by rw [HVP.out]; exact hg); clear ho hg hv)
          all_goals
            have HP := hid (H.out.put HW.out HG7.out (by rw [HX.out.2.1, HVP.out]) HX.out.2.2.1 (l' := insN l r t) (by rw [insN_length _ _ _ HX.out.2.2.2.2.2]; exact HO7.out) HV7.out (insN_fit HX.out.2.2.2.2.1 (H.out.fit l (List.mem_of_getElem? HX.out.2.2.1)).1 (by have := HX.out.2.2.2.1.2.2; omega) HX.out.2.2.2.2.2))
            clear k0 k1 l0 l1 m0 m1 f7 HO7 HG7 HV7 HS7 HIN HW HB1 HB2
            go_wp2_with fail
            go_ret2
            exact ⟨rfl, _, HP.out.1, HP.out.2.1, HP.out.2.2⟩
end Go.Proofs.Ytmhjoeegghnlhaa.Sc
