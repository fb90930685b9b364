/- live of scale's law. -/
import Derived.Test.YtmhjoeegghnlhaaScLive
namespace Go.Proofs.Ytmhjoeegghnlhaa.Sc
open Go.RowKit
open Go.Lib (hid)
open Go.Proofs.Ytmhjoeegghnlhaa.Ky Go.Proofs.Ytmhjoeegghnlhaa.Bk
open Go.Proofs.Ytmhjoeegghnlhaa

theorem lvSB {V : World} {p q r s : Option Addr} (h1 : Pt V p [5, 0]) (h2 : Pt V q [8, 4294967295]) (h3 : Pt V r [5, 0]) (h4 : Pt V s [8, 4294967295]) :
    Calls Try.prog 24 #[.agg #[.slice p 2 2, .slice q 2 2], .agg #[.slice r 2 2, .slice s 2 2]] V fun e w' => e = .returned (.bool true) ∧ Below V.heap.size V w' := by
  have := sameBox_ok [5, 0] [8, 4294967295] [5, 0] [8, 4294967295] p q r s 2 2 2 2 V h1 h2 h3 h4 (by simp) (by simp)
  rw [show sameBoxB [5, 0] [8, 4294967295] [5, 0] [8, 4294967295] = true by decide] at this
  exact this
theorem lvS {N b R : Nat} {vs : List Value} {V : World} (h : Sc N V b R vs [[9], []]) :
    Calls Try.prog 28 #[.pointer (some ⟨b, 0, none⟩)] V fun e w' => ∃ g, e = .returned (.slice (some ⟨g, 0, none⟩) 2 2) ∧ w'.heap[g]? = some (.cells (ci [2, 1]).toArray 3 (0, 0)) ∧ Below V.heap.size V w' := by
  refine (sizes_ok N b R vs [[9], []] V h).mono fun e w' hh => ?_
  obtain ⟨g, h1, h2, _, h3⟩ := hh
  rw [m_size] at h2
  exact ⟨g, h1, h2, h3⟩
theorem new_ci (V : World) (x y : Nat) : (V.alloc (.cells #[.int .i64 (x : Int), .int .i64 (y : Int)] 3)).heap[V.heap.size]? = some (.cells (ci [x, y]).toArray 3 (0, 0)) := heap_alloc_new _ _
set_option maxRecDepth 100000 in
set_option maxHeartbeats 8000000 in
theorem live_any (w : World) : Calls Try.prog 12 #[] w fun e w' => e = .returned (.bool true) ∧ Below w.heap.size w w' := by
  go_enter Try.func12, Try.ntmps12
  go_wp2_with fail
  refine (lvN _).mono ?_
  rintro e w1 ⟨rfl, ⟨vs1, hs⟩, hb⟩
  have HS1 := hid hs; have HB1 := hid hb
  clear hs hb
  generalize w.heap.size + 1 = b at *
  go_wp2_with fail
  refine (new_bad 0 _ (.inl (by omega))).mono ?_
  rintro e w2 ⟨rfl, rfl⟩
  go_wp2_with fail
  refine (lvI 0 9 0 0 HS1.out m_up.2.2 HB1.out.size (by decide) m_ins1).mono ?_
  rintro e w2 ⟨rfl, ⟨vs2, hs⟩, hb⟩
  have HS2 := hid hs; have HB2 := hid (HB1.out.trans hb)
  clear hs hb HS1 HB1
  go_wp2_with fail
  refine (lvI 0 5 0 0 HS2.out (by intro l hl; revert l; simp [up]) HB2.out.size (by decide) m_ins2).mono ?_
  rintro e w3 ⟨rfl, ⟨vs3, hs⟩, hb⟩
  have HS3 := hid hs; have HB3 := hid (HB2.out.trans hb)
  clear hs hb HS2 HB2
  go_wp2_with fail
  refine (lvI 0 5 0 1 HS3.out m_up.1 HB3.out.size (by decide) m_ins3).mono ?_
  rintro e w4 ⟨rfl, ⟨vs4, hs⟩, hb⟩
  have HS4 := hid hs; have HB4 := hid (HB3.out.trans hb)
  clear hs hb HS3 HB3
  obtain ⟨V4, hV4⟩ : ∃ V4, w4.alloc (.cells #[.int .u32 7, .int .u32 7] 30) = V4 := ⟨_, rfl⟩
  have HP4 := hid (show Pt V4 (some ⟨w4.heap.size, 0, none⟩) [7, 7] by
    have : Own V4 w4.heap.size [7, 7] := by rw [← hV4]; exact heap_alloc_new _ _
    exact this.pt (by simp))
  have HA4 := hid (show Below w4.heap.size w4 V4 by rw [← hV4]; exact below_alloc _ _)
  go_wp2_with fail
  refine (lvF (HS4.out.next HA4.out) HP4.out).mono ?_
  rintro e w5 ⟨gc, rfl, hc, hgc, hb⟩
  have HB5 := hid (HA4.out.trans (hb.mono HA4.out.size))
  have HC5 := hid (And.intro hc (Nat.le_trans HA4.out.size hgc))
  clear hc hgc hb hV4 HP4 HA4
  go_wp2_with fail
  refine (lvB (HS4.out.next HB5.out) HC5.out.1).mono ?_
  rintro e w6 ⟨gl, gh, rfl, hl, hh, ⟨g1, g2⟩, _, _, hb⟩
  have HB6 := hid (HB5.out.trans (hb.mono HB5.out.size))
  have HC6 := hid (show w6.heap[gc]? = some (.cells (ci [1, 0]).toArray 3 (0, 0)) from (hb.block _ (lt_of HC5.out.1)).trans HC5.out.1)
  have HL6 := hid (And.intro hl (And.intro hh (And.intro (Nat.le_trans HB5.out.size g1) (Nat.le_trans HB5.out.size g2))))
  clear hl hh g1 g2 hb
  obtain ⟨V6, hV6⟩ : ∃ V6, w6.alloc (.cells #[.slice (some ⟨gl, 0, none⟩) 2 2, .slice (some ⟨gh, 0, none⟩) 2 2] 34) = V6 := ⟨_, rfl⟩
  have HA6 := hid (show Below w6.heap.size w6 V6 by rw [← hV6]; exact below_alloc _ _)
  have HD6 := hid (show V6.heap[w6.heap.size]? = some (.cells #[.slice (some ⟨gl, 0, none⟩) 2 2, .slice (some ⟨gh, 0, none⟩) 2 2] 34 (0, 0)) by rw [← hV6]; exact heap_alloc_new _ _)
  have HB6V := hid (HB6.out.trans (HA6.out.mono HB6.out.size))
  go_wp2_with fail
  refine (lvE (HS4.out.next HB6V.out)).mono ?_
  rintro e w7 ⟨rfl, hb⟩
  have HA7 := hid (HA6.out.trans (hb.mono HA6.out.size))
  have HD7 := hid ((hb.block _ (lt_of HD6.out)).trans HD6.out)
  clear hb hV6
  go_wp2_with fail
  refine (lvD _).mono ?_
  rintro e w8 ⟨⟨bx, Rx, vx, rfl, hx⟩, hb⟩
  have HA8 := hid (HA7.out.trans (hb.mono HA7.out.size))
  have HB8 := hid (HB6.out.trans (HA8.out.mono HB6.out.size))
  have HLV := hid (show Lv w4.heap.size w8.heap.size w8 gc w6.heap.size gl gh bx Rx w7.heap.size vx from by
    have q1 := HB6.out.size
    have q2 := HA7.out.size
    have q3 := hb.size
    have c1 := lt_of HC6.out
    have c2 := HL6.out.1.lt
    have c3 := HL6.out.2.1.lt
    have c4 := lt_of HD7.out
    exact ⟨(HA8.out.block _ c1).trans HC6.out, (hb.block _ c4).trans HD7.out, HL6.out.1.below HA8.out, HL6.out.2.1.below HA8.out, hx, ⟨HC5.out.2, q1, HL6.out.2.2.1, HL6.out.2.2.2, by omega⟩, ⟨by omega, by omega, by omega, by omega, fun k hk => hx.lt k hk⟩⟩)
  clear hx hb HD7 HD6 HC6 HC5 HL6 HA7 HA6 HB6V HA8 HB6 HB5
  have HFS := hid (show ∀ k, FS b w.heap.size vs4 k → k < w4.heap.size from HS4.out.lt)
  have HS8 := hid (HS4.out.next HB8.out)
  have HN8 := hid (HB4.out.trans (HB8.out.mono HB4.out.size))
  generalize w6.heap.size = gd at *
  generalize w7.heap.size = Nx at *
  go_wp2_with fail
  refine (remL 0 0 0 HS8.out HN8.out.size ⟨m_rem1.1, by rw [m_rem1.2]; rfl⟩).mono ?_
  rintro e w9 ⟨rfl, ⟨vs9, hs, hfs⟩, ho, hb⟩
  have HS9 := hid hs; have HN9 := hid (HN8.out.trans hb)
  have HLV9 := hid (HLV.out.up (V' := w9) fun k h1 h2 => ho.block k h2 fun hf => by have := HFS.out k hf; omega)
  have HF9 := hid (show ∀ k, k < w8.heap.size → FS b w.heap.size vs9 k → k < w4.heap.size from fun k h1 h2 => HFS.out k (hfs k h1 h2))
  have HZ9 := hid ho.size
  clear hs hfs ho hb HS4 HS8 HLV HFS HN8 HB8 HB4
  go_wp2_with fail
  refine (remL 1 0 1 HS9.out HN9.out.size ⟨m_rem2.1, by rw [m_rem2.2]; rfl⟩).mono ?_
  rintro e w10 ⟨rfl, ⟨vs10, hs, hfs⟩, ho, hb⟩
  have HS10 := hid hs; have HN10 := hid (HN9.out.trans hb)
  have HLV10 := hid (HLV9.out.up (V' := w10) fun k h1 h2 => ho.block k (Nat.lt_of_lt_of_le h2 HZ9.out) fun hf => by have := HF9.out k h2 hf; omega)
  have HZ10 := hid (Nat.le_trans HZ9.out ho.size)
  clear hs hfs ho hb HS9 HLV9 HF9 HN9 HZ9
  go_wp2_with fail
  refine (show Calls Try.prog 37 #[.int .i64 2] w10 (OneBox w10 [0, 0] [4294967295, 4294967295]) from refWhole_ok 2 w10).mono ?_
  rintro e w11 ⟨A, cA, A', cA', rfl, hp1, hp2, hb⟩
  have HPP := hid (And.intro hp1 hp2)
  have HS11 := hid (HS10.out.next hb); have HN11 := hid (HN10.out.trans (hb.mono HN10.out.size)); have HLV11 := hid (HLV10.out.below HZ10.out hb); have HZ11 := hid (Nat.le_trans HZ10.out hb.size)
  clear hp1 hp2 hb HS10 HN10 HLV10 HZ10
  go_wp2_with fail
  refine (lvM HS11.out HPP.out.1 HPP.out.2).mono ?_
  rintro e w12 ⟨gx, gy, rfl, hx, hy, hb⟩
  have HXY := hid (And.intro hx hy)
  have HS12 := hid (HS11.out.next hb); have HN12 := hid (HN11.out.trans (hb.mono HN11.out.size)); have HLV12 := hid (HLV11.out.below HZ11.out hb); have HZ12 := hid (Nat.le_trans HZ11.out hb.size)
  clear hx hy hb HS11 HN11 HLV11 HZ11 HPP
  have HST := hid (show ∀ V : World, Below w12.heap.size w12 V → Sc w.heap.size V b w.heap.size vs10 [[9], []] ∧ Lv w4.heap.size w8.heap.size V gc gd gl gh bx Rx Nx vx ∧ Below w.heap.size w V from fun V hV =>
    ⟨HS12.out.next hV, HLV12.out.below HZ12.out hV, HN12.out.trans (hV.mono HN12.out.size)⟩)
  clear HS12 HLV12 HN12 HZ12
  have HB0 := hid (below_alloc w12 (.cells #[.int .i64 1, .int .i64 0] 3))
  have HNW := hid (new_ci w12 1 0)
  go_wp2_with fail
  refine (ints2 1 0 (HST.out _ HB0.out).2.1.c HNW.out).mono ?_
  rintro e w13 ⟨rfl, hb⟩
  have HB13 := hid (HB0.out.trans (hb.mono HB0.out.size))
  clear hb HB0 HNW
  have hd := (HST.out _ HB13.out).2.1.d
  have y1 : w13.cell? ⟨gd, 0, none⟩ = some (.slice (some ⟨gl, 0, none⟩) 2 2) := by rw [cell_of_row _ _ _ _ _ _ hd]; rfl
  have y2 : w13.cell? ⟨gd, 1, none⟩ = some (.slice (some ⟨gh, 0, none⟩) 2 2) := by rw [cell_of_row _ _ _ _ _ _ hd]; rfl
  clear hd
  obtain ⟨VA, hVA⟩ : ∃ VA, w13.alloc (.cells #[.int .u32 5, .int .u32 0] 30) = VA := ⟨_, rfl⟩
  have HVA := hid (show Below w13.heap.size w13 VA ∧ Own VA w13.heap.size [5, 0] by rw [← hVA]; exact ⟨below_alloc _ _, heap_alloc_new _ _⟩)
  obtain ⟨VB, hVB⟩ : ∃ VB, VA.alloc (.cells #[.int .u32 8, .int .u32 4294967295] 30) = VB := ⟨_, rfl⟩
  have HVB := hid (show Below VA.heap.size VA VB ∧ Own VB VA.heap.size [8, 4294967295] by rw [← hVB]; exact ⟨below_alloc _ _, heap_alloc_new _ _⟩)
  have HBB := hid (HB13.out.trans ((HVA.out.1.trans (HVB.out.1.mono HVA.out.1.size)).mono HB13.out.size))
  have HSB := hid (lvSB ((HST.out _ HBB.out).2.1.l.pt (by simp)) ((HST.out _ HBB.out).2.1.h.pt (by simp)) ((HVA.out.2.below HVB.out.1).pt (by simp)) (HVB.out.2.pt (by simp)))
  go_wp2_with fail
  refine HSB.out.mono ?_
  rintro e w14 ⟨rfl, hb⟩
  have HB14 := hid (HBB.out.trans (hb.mono HBB.out.size))
  clear hb y1 y2 hVA hVB HVA HVB HBB HSB HB13
  go_wp2_with fail
  refine (lvE (HST.out _ HB14.out).2.1.x).mono ?_
  rintro e w15 ⟨rfl, hb⟩
  have HB15 := hid (HB14.out.trans (hb.mono HB14.out.size))
  clear hb HB14
  go_wp2_with fail
  refine (lvS (HST.out _ HB15.out).1).mono ?_
  rintro e w16 ⟨gs, rfl, hg, hb⟩
  have HB16 := hid (HB15.out.trans (hb.mono HB15.out.size))
  have HGS := hid ((below_alloc w16 (.cells #[.int .i64 2, .int .i64 1] 3)).block _ (lt_of hg) |>.trans hg)
  have HA16 := hid (HB16.out.trans ((below_alloc w16 (.cells #[.int .i64 2, .int .i64 1] 3)).mono HB16.out.size))
  have HNW := hid (new_ci w16 2 1)
  clear hb hg HB15 HB16
  go_wp2_with fail
  refine (ints2 2 1 HGS.out HNW.out).mono ?_
  rintro e w17 ⟨rfl, hb⟩
  have HB17 := hid (HA16.out.trans (hb.mono HA16.out.size))
  have HA17 := hid (HB17.out.trans ((below_alloc w17 (.cells #[.int .i64 0, .int .i64 0] 3)).mono HB17.out.size))
  have HNX := hid (new_ci w17 0 0)
  clear hb HGS HA16 HNW HB17
  go_wp2_with fail
  refine (ints2 0 0 ((HA17.out.block _ (lt_of HXY.out.1)).trans HXY.out.1) HNX.out).mono ?_
  rintro e w18 ⟨rfl, hb⟩
  have HB18 := hid (HA17.out.trans (hb.mono HA17.out.size))
  have HA18 := hid (HB18.out.trans ((below_alloc w18 (.cells #[.int .i64 1, .int .i64 0] 3)).mono HB18.out.size))
  have HNY := hid (new_ci w18 1 0)
  clear hb HA17 HNX HB18
  go_wp2_with fail
  refine (ints2 1 0 ((HA18.out.block _ (lt_of HXY.out.2)).trans HXY.out.2) HNY.out).mono ?_
  rintro e w19 ⟨rfl, hb⟩
  have HB19 := hid (HA18.out.trans (hb.mono HA18.out.size))
  clear hb HA18 HNY
  go_wp2_with fail
  go_ret
  exact ⟨rfl, (HST.out _ HB19.out).2.2⟩
end Go.Proofs.Ytmhjoeegghnlhaa.Sc
