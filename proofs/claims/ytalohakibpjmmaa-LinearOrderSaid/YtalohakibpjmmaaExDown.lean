/- The closure of excell's Range: the addresses below a node whose cells meet the box are put on. -/
import Derived.Test.YtalohakibpjmmaaExRange
namespace Go.Proofs.Ytalohakibpjmmaa.Ex
open Go.RowKit
open Go.Lib (hid)
open Go.Proofs.Ytalohakibpjmmaa.Ky
open Go.Proofs.Ytalohakibpjmmaa.Pt
open Go.Proofs.Ytalohakibpjmmaa.Bk

theorem sub_len (g : Nat → Bool) (r a : Nat) : (sub g r a).length ≤ 2 ^ r := by
  rw [sub_eq]
  exact Nat.le_trans (List.length_filter_le _ _) (by simp)
theorem Og.mid {w wb w2 : World} {B go : Nat} {v : Value} {xs : List Nat} {o : Obj} (h : Og w B go v xs) (hwb : wb = w.alloc o) (hg : wb.grownBy w2 v.ownBlock) :
    w2.cell? ⟨go, 0, none⟩ = some v ∧ w2.frozen? ⟨go, 0, none⟩ = false := by
  have hgo := h.lt go (.inl rfl)
  have hs : wb.heap.size = w.heap.size + 1 := by rw [hwb]; simp
  refine one_cell (t := 37) ?_
  rw [hg.block go (by omega) (own_far h.row h.lo), hwb, Below.heap_alloc _ _ _ hgo]; exact h.head
/-- the arguments of a call of the closure -/
def dargs (n d a : Nat) (p q : Option Addr) (c c' gb gd go gf : Nat) : Array Value := #[.agg #[.slice p n c, .slice q n c'], .int .i64 (d : Int), .int .i64 (a : Int), .pointer (some ⟨gb, 0, none⟩), .pointer (some ⟨gd, 0, none⟩), .pointer (some ⟨go, 0, none⟩), .pointer (some ⟨gf, 0, none⟩)]
set_option maxRecDepth 100000 in
set_option maxHeartbeats 4000000 in
theorem down_no {n D d a : Nat} (hn : 1 ≤ n ∧ n ≤ 6) (hd : d ≤ 32) {bl bh : List Nat} {F : Nat → Prop} (gb gd go gf : Nat) (pb qb : Option Addr) (cb cb' : Nat) (p q : Option Addr) (c c' : Nat) (w : World)
    (hF : Fx w F gb gd go gf pb qb cb cb' D bl bh) (hp : PtD F w p (cell n d a).1) (hq : PtD F w q (cell n d a).2) (hm : met n d bl bh a = false) :
    Calls Try.prog 49 (dargs n d a p q c c' gb gd go gf) w fun e w' => e = .returned (.tuple #[]) ∧ Below w.heap.size w w' := by
  unfold dargs
  have f0 := cell_fit hn d a hd
  obtain ⟨W, hW⟩ : ∃ W, w.alloc (.cells #[Value.slice p n c, .slice q n c'] 32) = W := ⟨_, rfl⟩
  have HB := hid (show Below w.heap.size w W by rw [← hW]; exact below_alloc _ _)
  have HM := hid (meet_ok (cell n d a).1 (cell n d a).2 bl bh p q pb qb c c' cb cb' W (hp.pt.below HB.out) (hq.pt.below HB.out) (hF.lo.pt.below HB.out) (hF.hi.pt.below HB.out) (by rw [f0.1]; omega) (by rw [f0.2]; omega))
  unfold NewBox at HM
  rw [show meetB (cell n d a).1 (cell n d a).2 bl bh = false from hm, f0.1, f0.2] at HM
  generalize meetLo (cell n d a).1 (cell n d a).2 bl bh = ML at HM
  generalize meetHi (cell n d a).1 (cell n d a).2 bl bh = MH at HM
  have z1 := two_cells (show W.heap[w.heap.size]? = some (.cells #[.slice p n c, .slice q n c'] 32) by rw [← hW]; exact heap_alloc_new _ _)
  have z2 := two_cells ((HB.out.block gb (Array.getElem?_eq_some_iff.1 hF.box).1).trans hF.box)
  clear hp hq hF f0 hm
  go_enter Try.func49, Try.ntmps49
  go_wp2_with fail
  refine HM.out.mono ?_
  rintro e w2 ⟨A, k, A', k', rfl, h1, h2, hb⟩
  have H2 := hid ((HB.out.trans (hb.mono HB.out.size)).alloc (HB.out.trans (hb.mono HB.out.size)).size (.cells #[Value.slice A ML.length k, .slice A' MH.length k'] 32))
  clear h1 h2 hb z1 z2
  go_wp2_with fail
  refine bodyPost_ret (v := .tuple #[]) (by simp [results, Try.results49, go_sem]) rfl ⟨rfl, ?_⟩
  exact H2.out
set_option maxRecDepth 100000 in
set_option maxHeartbeats 4000000 in
theorem down_end {n D a : Nat} (hn : 1 ≤ n ∧ n ≤ 6) (hD : D ≤ 12) {bl bh : List Nat} (gb gd go gf : Nat) (pb qb : Option Addr) (cb cb' B : Nat) (p q : Option Addr) (c c' : Nat) (w : World) (v : Value) (xs : List Nat)
    (hF : Fx w (Fo go v) gb gd go gf pb qb cb cb' D bl bh) (hO : Og w B go v xs) (hp : PtD (Fo go v) w p (cell n D a).1) (hq : PtD (Fo go v) w q (cell n D a).2) (hl : xs.length ≤ 100000) (hm : met n D bl bh a = true) :
    Calls Try.prog 49 (dargs n D a p q c c' gb gd go gf) w fun e w' => e = .returned (.tuple #[]) ∧ ∃ v', Og w' B go v' (xs ++ [a]) ∧ Exc (Fo go v) w w' ∧ ∀ j, j < w.heap.size → v'.ownBlock = some j → v.ownBlock = some j := by
  unfold dargs
  have f0 := cell_fit hn D a (by omega)
  obtain ⟨W, hW⟩ : ∃ W, w.alloc (.cells #[Value.slice p n c, .slice q n c'] 32) = W := ⟨_, rfl⟩
  have HB := hid (show Below w.heap.size w W by rw [← hW]; exact below_alloc _ _)
  have HM := hid (meet_ok (cell n D a).1 (cell n D a).2 bl bh p q pb qb c c' cb cb' W (hp.pt.below HB.out) (hq.pt.below HB.out) (hF.lo.pt.below HB.out) (hF.hi.pt.below HB.out) (by rw [f0.1]; omega) (by rw [f0.2]; omega))
  unfold NewBox at HM
  rw [show meetB (cell n D a).1 (cell n D a).2 bl bh = true from hm, f0.1, f0.2] at HM
  generalize meetLo (cell n D a).1 (cell n D a).2 bl bh = ML at HM
  generalize meetHi (cell n D a).1 (cell n D a).2 bl bh = MH at HM
  have z1 := two_cells (show W.heap[w.heap.size]? = some (.cells #[.slice p n c, .slice q n c'] 32) by rw [← hW]; exact heap_alloc_new _ _)
  have z2 := two_cells ((HB.out.block gb (Array.getElem?_eq_some_iff.1 hF.box).1).trans hF.box)
  have HF := hid hF; have HO := hid hO
  obtain ⟨i0, hi0, hz0, hz1, hz2⟩ := info_parts infoI
  have hmax : xs.length + 1 ≤ maxLen := by unfold maxLen; omega
  have hby : (xs.length + 1) * 8 ≤ 140737488355328 := by omega
  clear hp hq hF hO f0 hm
  go_enter Try.func49, Try.ntmps49
  go_wp2_with fail
  refine HM.out.mono ?_
  rintro e w2 ⟨A, k, A', k', rfl, h1, h2, hb⟩
  obtain ⟨w3, hw3⟩ : ∃ w3, w2.alloc (.cells #[Value.slice A ML.length k, .slice A' MH.length k'] 32) = w3 := ⟨_, rfl⟩
  have H2 := hid (show Below w.heap.size w w3 by rw [← hw3]; exact (HB.out.trans (hb.mono HB.out.size)).alloc (HB.out.trans (hb.mono HB.out.size)).size (.cells #[Value.slice A ML.length k, .slice A' MH.length k'] 32))
  have HO3 := hid (HO.out.step H2.out)
  have HF3 := hid (HF.out.move (F' := Fo go v) (.ofBelow H2.out) (fun _ _ h => h))
  have y1 := one_cell HO3.out.head
  have y2 := one_cell HF3.out.dep
  have HSA : Hid (B ≤ (w3.alloc (.cells #[Value.int .i64 (a : Int)] 3)).heap.size) := hid (by have := HO3.out.ge; simp; omega)
  clear h1 h2 hb z1 z2 hW
  go_wp2_with
    (at_builtin
     refine wpList_append_lies _ rfl (.tmp 25) (.tmp 27) _ rfl B 3 i0 _ 1 8 Try.underlying37 hi0 hz0 hz1 hz2 rfl (by omega) v xs.length (ki xs) rfl (HO3.out.row.alloc _)
       ⟨w3.heap.size, 0, none⟩ 1 1 [.int .i64 (a : Int)] rfl rfl (World.news_of_block (cs := #[.int .i64 (a : Int)]) (t := 3) (fr := (0, 0)) (heap_alloc_new w3 _)) (by simp [Value.oneCell']) (by omega) hmax hby HSA.out (w3.heap.size + 1) (by simp) ?_
     intro gg cap w4 ho hg hat _
     have HP := hid (HO3.out.push rfl ho hg (by simpa using hat))
     have y3 := HO3.out.mid rfl hg
     clear ho hg hat)
  refine bodyPost_ret (v := .tuple #[]) (by simp [results, Try.results49, go_sem]) rfl ⟨rfl, _, HP.out.1, (Exc.ofBelow (F := Fo go v) H2.out).trans HP.out.2.1 (fun _ _ h => h), ?_⟩
  exact fun j hj e => HP.out.2.2 j (Nat.lt_of_lt_of_le hj H2.out.size) e
set_option maxRecDepth 100000 in
set_option maxHeartbeats 8000000 in
theorem down_two {n D r d a : Nat} (hn : 1 ≤ n ∧ n ≤ 6) (hD : D ≤ 12) {bl bh : List Nat} (gb gd go gf : Nat) (pb qb : Option Addr) (cb cb' B : Nat) (hdr : d + (r + 1) = D) (ha : a < 2 ^ d) (p q : Option Addr) (c c' : Nat) (w : World) (v : Value) (xs : List Nat)
    (hF : Fx w (Fo go v) gb gd go gf pb qb cb cb' D bl bh) (hO : Og w B go v xs) (hp : PtD (Fo go v) w p (cell n d a).1) (hq : PtD (Fo go v) w q (cell n d a).2) (hl : xs.length + 2 ^ (r + 1) ≤ 100000) (hm : met n d bl bh a = true)
    (ih : ∀ (d a : Nat), d + r = D → a < 2 ^ d → ∀ (p q : Option Addr) (c c' : Nat) (w : World) (v : Value) (xs : List Nat), Fx w (Fo go v) gb gd go gf pb qb cb cb' D bl bh → Og w B go v xs → PtD (Fo go v) w p (cell n d a).1 → PtD (Fo go v) w q (cell n d a).2 → xs.length + 2 ^ r ≤ 100000 →
      Calls Try.prog 49 (dargs n d a p q c c' gb gd go gf) w fun e w' => e = .returned (.tuple #[]) ∧ ∃ v', Og w' B go v' (xs ++ sub (met n D bl bh) r a) ∧ Exc (Fo go v) w w' ∧ ∀ j, j < w.heap.size → v'.ownBlock = some j → v.ownBlock = some j) :
    Calls Try.prog 49 (dargs n d a p q c c' gb gd go gf) w fun e w' => e = .returned (.tuple #[]) ∧ ∃ v', Og w' B go v' (xs ++ sub (met n D bl bh) (r + 1) a) ∧ Exc (Fo go v) w w' ∧ ∀ j, j < w.heap.size → v'.ownBlock = some j → v.ownBlock = some j := by
  unfold dargs at ih ⊢
  have f0 := cell_fit hn d a (by omega)
  obtain ⟨W, hW⟩ : ∃ W, w.alloc (.cells #[Value.slice p n c, .slice q n c'] 32) = W := ⟨_, rfl⟩
  have HB := hid (show Below w.heap.size w W by rw [← hW]; exact below_alloc _ _)
  have HM := hid (meet_ok (cell n d a).1 (cell n d a).2 bl bh p q pb qb c c' cb cb' W (hp.pt.below HB.out) (hq.pt.below HB.out) (hF.lo.pt.below HB.out) (hF.hi.pt.below HB.out) (by rw [f0.1]; omega) (by rw [f0.2]; omega))
  unfold NewBox at HM
  rw [show meetB (cell n d a).1 (cell n d a).2 bl bh = true from hm, f0.1, f0.2] at HM
  generalize meetLo (cell n d a).1 (cell n d a).2 bl bh = ML at HM
  generalize meetHi (cell n d a).1 (cell n d a).2 bl bh = MH at HM
  have HGC := hid (show W.heap[w.heap.size]? = some (.cells #[.slice p n c, .slice q n c'] 32) by rw [← hW]; exact heap_alloc_new _ _)
  have z1 := two_cells HGC.out
  have z2 := two_cells ((HB.out.block gb (Array.getElem?_eq_some_iff.1 hF.box).1).trans hF.box)
  have HF := hid hF; have HO := hid hO
  have HH := hid fun (V : World) (hb : Below w.heap.size w V) => halvesE_ok hn (show d < 32 by omega) c c' V (hp.pt.below hb) (hq.pt.below hb)
  unfold TwoPost at HH
  obtain ⟨d', hd'⟩ : ∃ d', d + 1 = d' := ⟨_, rfl⟩
  obtain ⟨t1, ht1⟩ : ∃ t, 2 * a = t := ⟨_, rfl⟩
  obtain ⟨t2, ht2⟩ : ∃ t, 2 * a + 1 = t := ⟨_, rfl⟩
  have hpow : 2 ^ d ≤ 4096 := (pow_12 (show d ≤ 12 by omega)).1
  have o1 := or_one a (by omega)
  rw [hd', ht2, ht1] at HH
  rw [ht2, ht1] at o1
  have hsub : sub (met n D bl bh) (r + 1) a = sub (met n D bl bh) r t1 ++ sub (met n D bl bh) r t2 := by rw [sub, ht2, ht1]
  have hlen := sub_len (met n D bl bh) r t1
  rw [hsub]
  have k1 : t1 < 2 ^ d' := by rw [← hd', Nat.pow_succ]; omega
  have k2 : t2 < 2 ^ d' := by rw [← hd', Nat.pow_succ]; omega
  have hl1 : xs.length + 2 ^ r ≤ 100000 := by rw [Nat.pow_succ] at hl; omega
  have hl2 : (xs ++ sub (met n D bl bh) r t1).length + 2 ^ r ≤ 100000 := by rw [Nat.pow_succ] at hl; rw [List.length_append]; omega
  have HI1 := hid (ih d' t1 (by omega) k1)
  have HI2 := hid (ih d' t2 (by omega) k2)
  generalize sub (met n D bl bh) r t1 = S1 at *
  generalize sub (met n D bl bh) r t2 = S2 at *
  generalize cell n d' t1 = X at *
  generalize cell n d' t2 = Y at *
  have HL1 := hid hl1; have HL2 := hid hl2
  have e1 : ((d : Int) == (D : Int)) = false := by simp; omega
  have e1' : (d == D) = false := by simp; omega
  have s1 : IntKind.i64.wrap ((d : Int) + 1) = (d' : Int) := by rw [show (d : Int) + 1 = (d' : Int) by omega]; exact Go.IntWalk.i64_in _ (by omega)
  have s2 : IntKind.i64.wrap ((a : Int) * 2) = (t1 : Int) := by rw [show (a : Int) * 2 = (t1 : Int) by omega]; exact Go.IntWalk.i64_in _ (by omega)
  have s3 : IntKind.i64.wrap ((a : Int) * 2 ^ 1) = (t1 : Int) := by rw [show (a : Int) * 2 ^ 1 = (t1 : Int) by omega]; exact Go.IntWalk.i64_in _ (by omega)
  clear hp hq hF hO f0 hm ih hd' ht1 ht2 hpow hsub hlen k1 k2 hl1 hl2 hl hdr ha
  go_enter Try.func49, Try.ntmps49
  go_wp2_with fail
  refine HM.out.mono ?_
  rintro e w2 ⟨A, k, A', k', rfl, h1, h2, hb⟩
  have H2' := hid (HB.out.trans (hb.mono HB.out.size))
  have HG2 := hid ((hb.block w.heap.size (by rw [← hW]; simp)).trans HGC.out)
  obtain ⟨w3, hw3⟩ : ∃ w3, w2.alloc (.cells #[Value.slice A ML.length k, .slice A' MH.length k'] 32) = w3 := ⟨_, rfl⟩
  have H3 := hid (show Below w.heap.size w w3 by rw [← hw3]; exact H2'.out.alloc H2'.out.size (.cells #[Value.slice A ML.length k, .slice A' MH.length k'] 32))
  have z3 := two_cells (show w3.heap[w.heap.size]? = some (.cells #[.slice p n c, .slice q n c'] 32) by rw [← hw3, Below.heap_alloc _ _ _ (lt_of HG2.out)]; exact HG2.out)
  have y2 := one_cell (HF.out.move (F' := Fo go v) (.ofBelow H3.out) (fun _ _ h => h)).dep
  clear h1 h2 hb z1 z2 hW
  go_wp2_with fail
  refine (HH.out _ H3.out).mono ?_
  rintro e w5 ⟨p1, k1, p2, k2, p3, k3, p4, k4, rfl, g1, g2, g3, g4, hb⟩
  clear y2 z3
  have HE5 := hid (H3.out.trans (hb.mono H3.out.size))
  have HS5 := hid hb.size
  have HFlt := hid (show ∀ j, Fo go v j → j < w3.heap.size from fun j hj => Nat.lt_of_lt_of_le (HO.out.lt j hj) H3.out.size)
  obtain ⟨V, hV⟩ : ∃ V, (w5.alloc (.cells #[Value.slice p1 n k1, .slice p2 n k2] 32)).alloc (.cells #[Value.slice p3 n k3, .slice p4 n k4] 32) = V := ⟨_, rfl⟩
  have b1 := below_alloc w5 (.cells #[Value.slice p1 n k1, .slice p2 n k2] 32)
  have b2 := below_alloc (w5.alloc (.cells #[Value.slice p1 n k1, .slice p2 n k2] 32)) (.cells #[Value.slice p3 n k3, .slice p4 n k4] 32)
  have HV5 := hid (show Below w5.heap.size w5 V by rw [← hV]; exact b1.trans (b2.mono b1.size))
  have HV := hid (HE5.out.trans (HV5.out.mono HE5.out.size))
  have k1' : V.heap[w5.heap.size]? = some (.cells #[Value.slice p1 n k1, .slice p2 n k2] 32 (0, 0)) := by rw [← hV, b2.block _ (by simp)]; exact heap_alloc_new _ _
  have HK2 : Hid (V.heap[w5.heap.size + 1]? = some (.cells #[Value.slice p3 n k3, .slice p4 n k4] 32 (0, 0))) := hid (by
    rw [← hV]
    have := heap_alloc_new (w5.alloc (.cells #[Value.slice p1 n k1, .slice p2 n k2] 32)) (.cells #[Value.slice p3 n k3, .slice p4 n k4] 32)
    rw [World.size_alloc] at this; exact this)
  have HOV := hid (HO.out.step HV.out)
  have HFV := hid (HF.out.move (F' := Fo go v) (.ofBelow HV.out) (fun _ _ h => h))
  have mv : ∀ {pp : Option Addr} {l : List Nat}, PtD (fun k => k < w3.heap.size) w5 pp l → PtD (Fo go v) V pp l := fun h => ptd_move h (.ofBelow HV5.out) (fun j _ hj => HFlt.out j hj)
  have HP1 := hid (mv g1); have HP2 := hid (mv g2); have HP3 := hid (mv g3); have HP4 := hid (mv g4)
  have x1 := two_cells k1'
  have x2 := one_cell HFV.out.fn
  clear hb g1 g2 g3 g4 b1 b2 k1' mv
  go_wp2_with fail
  refine (HI1.out p1 p2 k1 k2 V v xs HFV.out HOV.out HP1.out HP2.out HL1.out).mono ?_
  rintro e w6 ⟨rfl, v1, hO1, hE1, hf1⟩
  clear x1 x2 hV
  have HO1 := hid hO1; have HE1 := hid hE1; have Hf1 := hid hf1
  have Hff : Hid (∀ j, j < V.heap.size → Fo go v1 j → Fo go v j) := hid (fun j hj h => h.elim .inl (fun h => .inr (Hf1.out j hj h)))
  have HF6 := hid (HFV.out.move HE1.out Hff.out)
  have x3 := two_cells ((HE1.out.block _ (lt_of HK2.out) (fun hF => by have h1 := HFlt.out _ hF; have h2 := HS5.out; omega)).trans HK2.out)
  have x4 := one_cell HF6.out.fn
  clear hO1 hE1 hf1
  go_wp2_with fail
  refine (HI2.out p3 p4 k3 k4 w6 v1 (xs ++ S1) HF6.out HO1.out (ptd_move HP3.out HE1.out Hff.out) (ptd_move HP4.out HE1.out Hff.out) HL2.out).mono ?_
  rintro e w7 ⟨rfl, v2, hO2, hE2, hf2⟩
  clear x3 x4
  go_wp2_with fail
  refine bodyPost_end (v := .tuple #[]) (by simp [results, Try.results49, go_sem]) rfl ⟨rfl, v2, ?_, ?_, ?_⟩
  · rw [← List.append_assoc]; exact hO2
  · exact ((Exc.ofBelow (F := Fo go v) HV.out).trans HE1.out (fun _ _ h => h)).trans hE2 (fun j hj h => Hff.out j (Nat.lt_of_lt_of_le hj HV.out.size) h)
  · exact fun j hj e => Hf1.out j (Nat.lt_of_lt_of_le hj HV.out.size) (hf2 j (Nat.lt_of_lt_of_le (Nat.lt_of_lt_of_le hj HV.out.size) HE1.out.size) e)
theorem down_ok {n D : Nat} (hn : 1 ≤ n ∧ n ≤ 6) (hD : D ≤ 12) {bl bh : List Nat} (gb gd go gf : Nat) (pb qb : Option Addr) (cb cb' B : Nat) : ∀ (r d a : Nat), d + r = D → a < 2 ^ d → ∀ (p q : Option Addr) (c c' : Nat) (w : World) (v : Value) (xs : List Nat), Fx w (Fo go v) gb gd go gf pb qb cb cb' D bl bh → Og w B go v xs → PtD (Fo go v) w p (cell n d a).1 → PtD (Fo go v) w q (cell n d a).2 → xs.length + 2 ^ r ≤ 100000 →
    Calls Try.prog 49 (dargs n d a p q c c' gb gd go gf) w fun e w' => e = .returned (.tuple #[]) ∧ ∃ v', Og w' B go v' (xs ++ sub (met n D bl bh) r a) ∧ Exc (Fo go v) w w' ∧ ∀ j, j < w.heap.size → v'.ownBlock = some j → v.ownBlock = some j := by
  intro r
  induction r with
  | zero =>
    intro d a hdr ha p q c c' w v xs hF hO hp hq hl
    obtain rfl : d = D := by omega
    cases hm : met n d bl bh a with
    | false =>
      refine (down_no hn (by omega) gb gd go gf pb qb cb cb' p q c c' w hF hp hq hm).mono fun e w' ⟨h1, h2⟩ => ⟨h1, v, ?_, .ofBelow h2, fun _ _ h => h⟩
      rw [show sub (met n d bl bh) 0 a = [] by simp [sub, hm], List.append_nil]; exact hO.step h2
    | true =>
      rw [show sub (met n d bl bh) 0 a = [a] by simp [sub, hm]]
      exact down_end hn hD gb gd go gf pb qb cb cb' B p q c c' w v xs hF hO hp hq (by omega) hm
  | succ r ih =>
    intro d a hdr ha p q c c' w v xs hF hO hp hq hl
    cases hm : met n d bl bh a with
    | false =>
      refine (down_no hn (by omega) gb gd go gf pb qb cb cb' p q c c' w hF hp hq hm).mono fun e w' ⟨h1, h2⟩ => ⟨h1, v, ?_, .ofBelow h2, fun _ _ h => h⟩
      have := sub_none hn (r + 1) d a (by omega) hm
      rw [hdr] at this
      rw [this, List.append_nil]; exact hO.step h2
    | true => exact down_two hn hD gb gd go gf pb qb cb cb' B hdr ha p q c c' w v xs hF hO hp hq hl hm ih
end Go.Proofs.Ytalohakibpjmmaa.Ex
