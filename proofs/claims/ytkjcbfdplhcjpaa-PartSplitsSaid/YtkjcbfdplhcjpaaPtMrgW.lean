/- PartMerges walked: of two buckets that are put together each Key is there once, those of the second one whole. -/
import Derived.Test.YtkjcbfdplhcjpaaPtBackW
namespace Go.Proofs.Ytkjcbfdplhcjpaa.Pt
open Go.RowKit
open Go.Lib (hid)
open Go.Proofs.Ytkjcbfdplhcjpaa.Ky
open Go.Proofs.Ytkjcbfdplhcjpaa.Bk

theorem up_merge {a b : List Rec} (ha : upL a) (hb : upL b) : upL (mergeR a b) := by
  induction a, b using mergeR.induct with
  | case1 b => rw [merge_left]; exact hb
  | case2 r a => rw [merge_nil]; exact ha
  | case3 r a s b h ih => rw [merge_eq h]; exact ih (List.pairwise_cons.1 ha).2 hb
  | case4 r a s b h h2 ih =>
    rw [merge_lt h2]
    obtain ⟨a1, a2⟩ := List.pairwise_cons.1 ha
    obtain ⟨b1, b2⟩ := List.pairwise_cons.1 hb
    refine List.pairwise_cons.2 ⟨fun x hx => ?_, ih a2 hb⟩
    rcases merge_mem hx with h3 | h3
    · exact a1 x h3
    · rcases List.mem_cons.1 h3 with rfl | h3
      · exact h2
      · exact cmp_lt_trans h2 (b1 x h3)
  | case5 r a s b h h2 ih =>
    have h0 : 0 < cmp r.1 s.1 := by omega
    rw [merge_gt h0]
    obtain ⟨a1, a2⟩ := List.pairwise_cons.1 ha
    obtain ⟨b1, b2⟩ := List.pairwise_cons.1 hb
    have h4 : cmp s.1 r.1 < 0 := by have := cmp_flip s.1 r.1; omega
    refine List.pairwise_cons.2 ⟨fun x hx => ?_, ih ha b2⟩
    rcases merge_mem hx with h3 | h3
    · rcases List.mem_cons.1 h3 with rfl | h3
      · exact h4
      · exact cmp_lt_trans h4 (a1 x h3)
    · exact b1 x h3
theorem mem_right {a b : List Rec} {x : Rec} (h : x ∈ b) : x ∈ mergeR a b := by
  induction a, b using mergeR.induct with
  | case1 b => rw [merge_left]; exact h
  | case2 r a => cases h
  | case3 r a s b hc ih => rw [merge_eq hc]; exact ih h
  | case4 r a s b hc h2 ih => rw [merge_lt h2]; exact List.mem_cons_of_mem _ (ih h)
  | case5 r a s b hc h2 ih =>
    rw [merge_gt (by omega)]
    rcases List.mem_cons.1 h with rfl | h
    · exact List.mem_cons_self ..
    · exact List.mem_cons_of_mem _ (ih h)
theorem key_left {a b : List Rec} {x : Rec} (h : x ∈ a) : ∃ y ∈ mergeR a b, y.1 = x.1 := by
  induction a, b using mergeR.induct with
  | case1 b => cases h
  | case2 r a => rw [merge_nil]; exact ⟨x, h, rfl⟩
  | case3 r a s b hc ih =>
    rw [merge_eq hc]
    rcases List.mem_cons.1 h with rfl | h
    · exact ⟨s, mem_right (List.mem_cons_self ..), (cmp_zero hc).symm⟩
    · exact ih h
  | case4 r a s b hc h2 ih =>
    rw [merge_lt h2]
    rcases List.mem_cons.1 h with rfl | h
    · exact ⟨x, List.mem_cons_self .., rfl⟩
    · obtain ⟨y, hy, e⟩ := ih h
      exact ⟨y, List.mem_cons_of_mem _ hy, e⟩
  | case5 r a s b hc h2 ih =>
    rw [merge_gt (by omega)]
    obtain ⟨y, hy, e⟩ := ih h
    exact ⟨y, List.mem_cons_of_mem _ hy, e⟩
theorem cmp_irr {k l : List Nat} (h : cmp k l < 0) : k ≠ l := by
  rintro rfl
  have := cmp_self k
  omega
theorem absorb {a b : List Rec} (ha : upL a) (hb : upL b) (h : ∀ x ∈ b, x ∈ a) : mergeR a b = a := by
  induction a generalizing b with
  | nil =>
    cases b with
    | nil => exact merge_left []
    | cons s b => exact absurd (h s (List.mem_cons_self ..)) (by simp)
  | cons r a ih =>
    cases b with
    | nil => exact merge_nil _
    | cons s b =>
      obtain ⟨a1, a2⟩ := List.pairwise_cons.1 ha
      obtain ⟨b1, b2⟩ := List.pairwise_cons.1 hb
      rcases List.mem_cons.1 (h s (List.mem_cons_self ..)) with rfl | hs
      · have hin : ∀ x ∈ b, x ∈ a := fun x hx => by
          rcases List.mem_cons.1 (h x (List.mem_cons_of_mem _ hx)) with rfl | h1
          · exact absurd rfl (cmp_irr (b1 _ hx))
          · exact h1
        rw [merge_eq (cmp_self _)]
        have h2 : mergeR a (s :: b) = s :: mergeR a b := by
          cases a with
          | nil => rw [merge_left, merge_left]
          | cons t a =>
            have h3 := a1 t (List.mem_cons_self ..)
            have h4 := cmp_flip t.1 s.1
            rw [merge_gt (by omega)]
        rw [h2, ih a2 b2 hin]
      · have h0 := a1 s hs
        have hin : ∀ x ∈ s :: b, x ∈ a := fun x hx => by
          rcases List.mem_cons.1 (h x hx) with rfl | h1
          · rcases List.mem_cons.1 hx with rfl | hx
            · exact absurd rfl (cmp_irr h0)
            · exact absurd rfl (cmp_irr (cmp_lt_trans h0 (b1 _ hx)))
          · exact h1
        rw [merge_lt h0, ih a2 hb hin]
theorem find_mem {a : List Rec} (hu : upL a) {x : Rec} (h : x ∈ a) : ∃ n, lessN a x.1 = n ∧ hasN a x.1 = true ∧ ∃ hn : n < a.length, a[n].1 = x.1 ∧ a[n] = x := by
  obtain ⟨i, hi, e⟩ := List.getElem_of_mem h
  have h1 := up_at hu hi (by rw [e] : a[i].1 = x.1)
  refine ⟨i, h1, hasN_iff.2 ⟨by omega, ?_⟩, hi, by rw [e], e⟩
  rw [getElem_same (by omega) hi h1, e]
theorem may_merge {l m : List Rec} {d : Int} (h1 : isBb l d = true) (h2 : isBb m d = true) : isBb (mergeR l m) d = true := by
  rw [isBb_iff] at h1 h2 ⊢
  exact ⟨fun r hr => (merge_mem hr).elim (h1.1 r) (h2.1 r), up_merge h1.2 h2.2⟩
end Go.Proofs.Ytkjcbfdplhcjpaa.Pt
namespace Go.Proofs.Ytkjcbfdplhcjpaa
open Go.RowKit
open Go.Lib (hid)
open Go.ChangeShapes Go.WideShapes Go.Joins
open Go.Proofs.Ytkjcbfdplhcjpaa.Ky
open Go.Proofs.Ytkjcbfdplhcjpaa.Bk
open Go.Proofs.Ytkjcbfdplhcjpaa.Pt
set_option maxRecDepth 100000 in
theorem PartMerges_open0 {H : Type} {enc : TypeId × Value → H} {W : World} {base : Nat} {v : Value} {d : DataW H} {p : List MemPlace} (hv : Value.okWide Try.prog W .any base 40 v) (h : DataW.Trod enc Try.prog W 0 (fun _ => true) true 40 v d p) : RecsV W v := open_recs hv h
set_option maxRecDepth 100000 in
theorem PartMerges_open1 {H : Type} {enc : TypeId × Value → H} {W : World} {base : Nat} {v : Value} {d : DataW H} {p : List MemPlace} (hv : Value.okWide Try.prog W .any base 40 v) (h : DataW.Trod enc Try.prog W 0 (fun _ => true) true 40 v d p) : RecsV W v := open_recs hv h
set_option maxRecDepth 100000 in
set_option maxHeartbeats 2000000 in
theorem mrg_no (L M : List Rec) (p q : Option Addr) (c c' : Nat) (w : World) (hp : Rs (fun _ => False) w p L) (hq : Rs (fun _ => False) w q M) (hl : L.length ≤ 9223372036854775807) (hm : M.length ≤ 9223372036854775807) (h : ¬ (fewB L = true ∧ fewB M = true ∧ isBb L (dimR L) = true ∧ isBb M (dimR L) = true)) :
    Calls Try.prog 14 #[.slice p L.length c, .slice q M.length c'] w fun e w' => e = .returned (.bool true) ∧ Below w.heap.size w w' := by
  have HF := hid (few_ok L p c w hp hl)
  cases hf : fewB L with
  | false =>
    rw [hf] at HF
    clear hp hq hl hm h hf
    go_enter Try.func14, Try.ntmps14
    go_wp2_with fail
    refine HF.out.mono ?_
    rintro e w1 ⟨rfl, rfl⟩
    go_wp2_with fail
    refine (Pt.live_any _).mono ?_
    rintro e w2 ⟨rfl, hb⟩
    have H1 := hid hb; clear hb
    go_wp2_with fail
    go_ret
    exact ⟨rfl, H1.out⟩
  | true =>
    rw [hf] at HF
    have HG := hid (few_ok M q c' w hq hm)
    have hbig := fewR_big (fewB_iff.1 hf)
    have HD := hid (dim_ok L p c w hp hbig)
    cases hg : fewB M with
    | false =>
      rw [hg] at HG
      clear hp hq hl hm h hf hg hbig
      go_enter Try.func14, Try.ntmps14
      go_wp2_with fail
      refine HF.out.mono ?_
      rintro e w1 ⟨rfl, rfl⟩
      go_wp2_with fail
      refine HG.out.mono ?_
      rintro e w1 ⟨rfl, rfl⟩
      go_wp2_with fail
      refine (Pt.live_any _).mono ?_
      rintro e w2 ⟨rfl, hb⟩
      have H1 := hid hb; clear hb
      go_wp2_with fail
      go_ret
      exact ⟨rfl, H1.out⟩
    | true =>
      rw [hg] at HG
      have hbig2 := fewR_big (fewB_iff.1 hg)
      have HI := hid (is_ok L p c (dimR L) w hp hbig)
      cases hi : isBb L (dimR L) with
      | false =>
        rw [hi] at HI
        clear hp hq hl hm h hf hg hbig hbig2 hi
        generalize dimR L = d at HD HI
        go_enter Try.func14, Try.ntmps14
        go_wp2_with fail
        refine HF.out.mono ?_
        rintro e w1 ⟨rfl, rfl⟩
        go_wp2_with fail
        refine HG.out.mono ?_
        rintro e w1 ⟨rfl, rfl⟩
        go_wp2_with fail
        refine HD.out.mono ?_
        rintro e w1 ⟨rfl, rfl⟩
        go_wp2_with fail
        refine HI.out.mono ?_
        rintro e w1 ⟨rfl, hb⟩
        have H0 := hid hb; clear hb
        go_wp2_with fail
        refine (Pt.live_any _).mono ?_
        rintro e w2 ⟨rfl, hb⟩
        have H1 := hid (H0.out.trans (hb.mono H0.out.size)); clear hb
        go_wp2_with fail
        go_ret
        exact ⟨rfl, H1.out⟩
      | true =>
        rw [hi] at HI
        have hj : isBb M (dimR L) = false := by
          cases e : isBb M (dimR L) with
          | false => rfl
          | true => exact absurd ⟨hf, hg, hi, e⟩ h
        have HD2 := hid fun (V : World) (hb : Below w.heap.size w V) => dim_ok L p c V (hp.below hb) hbig
        have HJ := hid fun (V : World) (hb : Below w.heap.size w V) => is_ok M q c' (dimR L) V (hq.below hb) hbig2
        rw [hj] at HJ
        clear hp hq hl hm h hf hg hbig hbig2 hi hj
        generalize dimR L = d at HD HI HD2 HJ
        go_enter Try.func14, Try.ntmps14
        go_wp2_with fail
        refine HF.out.mono ?_
        rintro e w1 ⟨rfl, rfl⟩
        go_wp2_with fail
        refine HG.out.mono ?_
        rintro e w1 ⟨rfl, rfl⟩
        go_wp2_with fail
        refine HD.out.mono ?_
        rintro e w1 ⟨rfl, rfl⟩
        go_wp2_with fail
        refine HI.out.mono ?_
        rintro e w1 ⟨rfl, hb⟩
        have H0 := hid hb; clear hb
        go_wp2_with fail
        refine (HD2.out _ H0.out).mono ?_
        rintro e w1 ⟨rfl, rfl⟩
        go_wp2_with fail
        refine (HJ.out _ H0.out).mono ?_
        rintro e w1 ⟨rfl, hb⟩
        have H1 := hid (H0.out.trans (hb.mono H0.out.size)); clear hb
        go_wp2_with fail
        refine (Pt.live_any _).mono ?_
        rintro e w2 ⟨rfl, hb⟩
        have H2 := hid (H1.out.trans (hb.mono H1.out.size)); clear hb
        go_wp2_with fail
        go_ret
        exact ⟨rfl, H2.out⟩
set_option maxRecDepth 100000 in
set_option maxHeartbeats 4000000 in
theorem mrg_go (L M : List Rec) (p q : Option Addr) (c c' : Nat) (w : World) (hp : Rs (fun _ => False) w p L) (hq : Rs (fun _ => False) w q M) (hl : L.length ≤ c ∧ c ≤ 9223372036854775807) (hm : M.length ≤ c' ∧ c' ≤ 9223372036854775807) (hf : fewB L = true) (hg : fewB M = true) (hi : isBb L (dimR L) = true) (hj : isBb M (dimR L) = true) :
    Calls Try.prog 14 #[.slice p L.length c, .slice q M.length c'] w fun e w' => e = .returned (.bool true) ∧ Below w.heap.size w w' := by
  have HF := hid (few_ok L p c w hp (by omega))
  have HG := hid (few_ok M q c' w hq (by omega))
  rw [hf] at HF
  rw [hg] at HG
  have h60 := (fewB_iff.1 hf).1
  have h61 := (fewB_iff.1 hg).1
  have hbig := fewR_big (fewB_iff.1 hf)
  have hbig2 := fewR_big (fewB_iff.1 hg)
  have hup := (isBb_iff.1 hi).2
  have hup2 := (isBb_iff.1 hj).2
  have hbigA := merge_big hbig hbig2 (by omega)
  have hlenA := merge_len L M
  have hupA := up_merge hup hup2
  have H0 := hid (((Cp.start w).list hp).list hq)
  have HD := hid fun (V : World) (g : Rs (fun _ => False) V p L) => dim_ok L p c V g hbig
  have HI := hid fun (V : World) (g : Rs (fun _ => False) V p L) => is_ok L p c (dimR L) V g hbig
  have HJ := hid fun (V : World) (g : Rs (fun _ => False) V q M) => is_ok M q c' (dimR L) V g hbig2
  have HM1 := hid fun (V : World) (g : Rs (fun _ => False) V p L) (g' : Rs (fun _ => False) V q M) => merge_ok L M p q c c' V g g' hbig hbig2 (by omega) hl.1 hm.1
  have HK := hid fun (V : World) (r : Option Addr) (k : Nat) (g : Rs (fun _ => False) V r (mergeR L M)) => is_ok (mergeR L M) r k (dimR L) V g hbigA
  rw [hi] at HI
  rw [hj] at HJ
  rw [may_merge hi hj] at HK
  have HFM := hid fun (x : Rec) (hx : x ∈ M) => find_mem hupA (mem_right (a := L) hx)
  have HFL := hid fun (x : Rec) (hx : x ∈ L) => (show hasN (mergeR L M) x.1 = true from by
    obtain ⟨y, hy, e⟩ := key_left (b := M) hx
    obtain ⟨n, _, h2, _⟩ := find_mem hupA hy
    rw [← e]; exact h2)
  have habs : mergeR (mergeR L M) M = mergeR L M := absorb hupA hup2 fun x hx => mem_right hx
  have HM2 := hid fun (V : World) (r : Option Addr) (k : Nat) (hk : (mergeR L M).length ≤ k) (g : Rs (fun _ => False) V r (mergeR L M)) (g' : Rs (fun _ => False) V q M) => merge_ok (mergeR L M) M r q k c' V g g' hbigA hbig2 (by omega) hk hm.1
  rw [habs] at HM2
  have HFI := hid fun (V : World) (r s : Option Addr) (k k' : Nat) (x : List Nat) (g : Rs (fun _ => False) V r (mergeR L M)) (g' : Pt V s x) => refFind_ok (mergeR L M) x r s k k' V g g' hbigA
  have HB := hid hbigA
  have HLA := hid hlenA
  have H60 := hid h60; have H61 := hid h61
  clear hp hq hl hm hf hg hi hj h60 h61 hbig hbig2 hup hup2 hbigA hlenA hupA habs
  generalize mergeR L M = A at *
  generalize dimR L = d at *
  go_enter Try.func14, Try.ntmps14
  go_wp2_with fail
  refine HF.out.mono ?_
  rintro e w1 ⟨rfl, rfl⟩
  go_wp2_with fail
  refine HG.out.mono ?_
  rintro e w1 ⟨rfl, rfl⟩
  go_wp2_with fail
  refine (HD.out _ (H0.out.rs (p := p) (L := L) (by simp))).mono ?_
  rintro e w1 ⟨rfl, rfl⟩
  go_wp2_with fail
  refine (HI.out _ (H0.out.rs (p := p) (L := L) (by simp))).mono ?_
  rintro e w2 ⟨rfl, hb⟩
  have H1 := hid (H0.out.step hb); clear hb H0
  go_wp2_with fail
  refine (HD.out _ (H1.out.rs (p := p) (L := L) (by simp))).mono ?_
  rintro e w3 ⟨rfl, rfl⟩
  go_wp2_with fail
  refine (HJ.out _ (H1.out.rs (p := q) (L := M) (by simp))).mono ?_
  rintro e w3 ⟨rfl, hb⟩
  have H2 := hid (H1.out.step hb); clear hb H1
  go_wp2_with fail
  refine (HM1.out _ (H2.out.rs (p := p) (L := L) (by simp)) (H2.out.rs (p := q) (L := M) (by simp))).mono ?_
  rintro e w4 ⟨r, rfl, hr, hb⟩
  have H3 := hid ((H2.out.step hb).list hr); clear hb hr H2
  go_wp2_with fail
  refine (HD.out _ (H3.out.rs (p := p) (L := L) (by simp))).mono ?_
  rintro e w5 ⟨rfl, rfl⟩
  go_wp2_with fail
  refine (HK.out _ r A.length (H3.out.rs (p := r) (L := A) (by simp))).mono ?_
  rintro e w6 ⟨rfl, hb⟩
  have H4 := hid (H3.out.step hb); clear hb H3
  go_wp2_with fail
  go_loopw [6] (fun i wr => ∃ k : Nat, k ≤ M.length ∧ i = .int .i64 k ∧ Below w6.heap.size w6 wr) (fun i _ => M.length - (intOf i).toNat)
  case atStart => exact ⟨0, by omega, rfl, Below.refl _ _⟩
  case round =>
    rename World => wa
    obtain ⟨k, hk, rfl, hb⟩ := hrel
    have HBa := hid hb; clear hb
    have h61 := H61.out
    by_cases hlt : k < M.length
    · have H5 := hid (H4.out.step HBa.out)
      obtain ⟨n, hn1, hn2, hn, _, hn3⟩ := HFM.out M[k] (List.getElem_mem hlt)
      obtain ⟨b, off, s, c1, rfl, hbl, d1, d2, hs⟩ := (H5.out.rs (p := q) (L := M) (by simp)).at k hlt
      obtain ⟨b2, off2, s2, c2, rfl, hbl2, d3, d4, _⟩ := (H5.out.rs (p := r) (L := A) (by simp)).at n hn
      have HFF := hid (HFI.out wa _ s A.length c1 M[k].1 (H5.out.rs (p := some ⟨b2, off2, none⟩) (L := A) (by simp)) hs.pt)
      rw [hn1, hn2] at HFF
      rw [hn3] at d4
      have DD := hid fun (V : World) (hb : Below wa.heap.size wa V) => (show V.cell? ⟨b, off + k * 2 + 1, none⟩ = some (.string M[k].2) ∧ V.cell? ⟨b2, off2 + n * 2 + 1, none⟩ = some (.string M[k].2) from ⟨(hb.cell (p := ⟨b, _, none⟩) hbl).trans d2, (hb.cell (p := ⟨b2, _, none⟩) hbl2).trans d4⟩)
      have hla := HB.out.1
      clear hs d2 d3 d4 hn1 hn2 hn3 hbl hbl2
      generalize M[k].1.length = x at d1 HFF
      generalize M[k].2 = t at DD
      have e1 : (t.toList == t.toList) = true := by simp
      have e2 : (t.toList != t.toList) = false := by simp
      have q1 : (n : Int) < (A.length : Int) := by omega
      go_wp2_with fail
      refine HFF.out.mono ?_
      rintro e w8 ⟨rfl, m, hw⟩
      have hb8 : Below wa.heap.size wa w8 := by rw [hw]; exact below_drewN (Below.refl _ _) m
      have HB8 := hid (HBa.out.trans (hb8.mono HBa.out.size))
      have d5 := DD.out w8 hb8
      clear hw hb8 d1
      go_wp2_with fail
      go_quiet (fail)
      go_wp2_with fail
      go_roundw
      case rel => exact ⟨k + 1, by omega, by go_num, below_drewN HB8.out _⟩
      case measure => simp [intOf]; omega
    · obtain rfl : k = M.length := by omega
      have H5 := hid (H4.out.step HBa.out)
      have h60 := H60.out
      clear H4
      go_wp2_with fail
      go_loopw [9] (fun i wr => ∃ k : Nat, k ≤ L.length ∧ i = .int .i64 k ∧ Below wa.heap.size wa wr) (fun i _ => L.length - (intOf i).toNat)
      case atStart => exact ⟨0, by omega, rfl, Below.refl _ _⟩
      case round =>
        rename World => wb
        obtain ⟨k, hk, rfl, hb⟩ := hrel
        have HBb := hid hb; clear hb
        have H6 := hid (H5.out.step HBb.out)
        by_cases hlt : k < L.length
        · obtain ⟨b, off, s, c1, rfl, hbl, d1, d2, hs⟩ := (H6.out.rs (p := p) (L := L) (by simp)).at k hlt
          have HFF := hid (HFI.out wb r s A.length c1 L[k].1 (H6.out.rs (p := r) (L := A) (by simp)) hs.pt)
          rw [HFL.out L[k] (List.getElem_mem hlt)] at HFF
          clear hs d2 hbl
          generalize lessN A L[k].1 = n at HFF
          generalize L[k].1.length = x at d1 HFF
          go_wp2_with fail
          refine HFF.out.mono ?_
          rintro e w8 ⟨rfl, m, hw⟩
          have HB8 := hid (show Below wa.heap.size wa w8 by rw [hw]; exact below_drewN HBb.out m)
          clear hw d1
          go_wp2_with fail
          go_roundw
          case rel => exact ⟨k + 1, by omega, by go_num, HB8.out⟩
          case measure => simp [intOf]; omega
        · obtain rfl : k = L.length := by omega
          have hla := HLA.out
          have e1 : decide ((A.length : Int) ≤ (L.length : Int) + (M.length : Int)) = true := by simp; omega
          have e2 : decide (A.length ≤ L.length + M.length) = true := by simp; omega
          clear H5
          go_wp2_with fail
          refine (HM2.out _ r A.length (Nat.le_refl _) (H6.out.rs (p := r) (L := A) (by simp)) (H6.out.rs (p := q) (L := M) (by simp))).mono ?_
          rintro e w8 ⟨r2, rfl, hr, hb⟩
          have H7 := hid ((H6.out.step hb).list hr); clear hb hr H6
          go_wp2_with fail
          refine (v9 A HB.out rfl (H7.out.rs (p := r2) (L := A) (by simp)) (H7.out.rs (p := r) (L := A) (by simp))).mono ?_
          rintro e w9 ⟨rfl, hb⟩
          have H8 := hid (H7.out.step hb); clear hb H7
          go_wp2_with fail
          refine (Pt.live_any _).mono ?_
          rintro e w10 ⟨rfl, hb⟩
          have H9 := hid (H8.out.step hb); clear hb
          go_wp2_with fail
          go_ret
          exact ⟨rfl, H9.out.below⟩
theorem PartMerges_walk (v u : Value) (w : World) (h : RecsV w v) (g : RecsV w u) :
    Calls Try.prog 14 #[v, u] w fun e w' => e = .returned (.bool true) ∧ Below w.heap.size w w' := by
  obtain ⟨p, L, c, rfl, hp, hc, hc2⟩ := h
  obtain ⟨q, M, c', rfl, hq, hd, hd2⟩ := g
  by_cases h : fewB L = true ∧ fewB M = true ∧ isBb L (dimR L) = true ∧ isBb M (dimR L) = true
  · exact mrg_go L M p q c c' w hp hq ⟨hc, hc2⟩ ⟨hd, hd2⟩ h.1 h.2.1 h.2.2.1 h.2.2.2
  · exact mrg_no L M p q c c' w hp hq (by omega) (by omega) h
end Go.Proofs.Ytkjcbfdplhcjpaa
