/- EntrySums walked: where all may be. -/
import Derived.Test.YtigaddpjmgncmaaDoorEnSmsB
import Derived.Laws.BitsAllLaws
import Derived.Deep.Cut
import Derived.Deep.CutBlock
import Derived.Deep.DeepCutAuto
namespace Go.Proofs.YtigaddpjmgncmaaDoor.En
open Go.RowKit
open Go.Lib (hid)
open Go.Proofs.YtigaddpjmgncmaaDoor.Sm (U sumB)
open Go.Proofs.YtigaddpjmgncmaaDoor.Ap
theorem seen_val (a : UInt8) (r : Nat) (h : r < 8) : bits .xor .u8 (a.toNat : Int) ((2 : Int) ^ r % 256) = ((a ^^^ ((1 : UInt8) <<< (UInt8.ofNat r))).toNat : Int) := by
  have e : ((2 : Int) ^ r % 256) = (((1 : UInt8) <<< (UInt8.ofNat r)).toNat : Int) := by
    rw [Sm.one_shl r h]
    have : (2 : Nat) ^ r ≤ 2 ^ 7 := Nat.pow_le_pow_right (by decide) (by omega)
    have e2 : ((2 : Int) ^ r) = ((2 ^ r : Nat) : Int) := by simp
    have hq : (2 : Nat) ^ r < 256 := Nat.lt_of_le_of_lt this (by decide)
    rw [e2]; exact Int.emod_eq_of_lt (Int.natCast_nonneg _) (Int.ofNat_lt.2 hq)
  rw [e, u8_xor_nat _ _ a.toNat_lt (UInt8.toNat_lt _), UInt8.toNat_xor]
theorem mine_other {w : World} {g : Nat} {M : List PageT} (h : Mine w g M) {B : Nat} (hne : g ≠ B) (j : Nat) (u : Value) : Mine (w.setCell ⟨B, j, none⟩ u) g M := by
  refine ⟨fun i hi => ?_, fun j => by rw [World.frozen?_setCell]; exact h.free j, by rw [World.size_setCell]; exact h.lt⟩
  obtain ⟨c0, c1, c2⟩ := h.cell i hi
  refine ⟨?_, ?_, ?_⟩
  · rw [World.cell?_setCell_other _ _ _ _ (by intro e2; injection e2; omega), c0]
  · rw [World.cell?_setCell_other _ _ _ _ (by intro e2; injection e2; omega), c1]
  · rw [World.cell?_setCell_other _ _ _ _ (by intro e2; injection e2; omega), c2]
set_option maxRecDepth 100000 in
set_option maxHeartbeats 4000000 in
theorem sms_ok
    (p : Option Addr) (L : List PageT) (n cap : Nat) (kk aa rr : Nat) (w : World) (hL : Lst w) (hp : Pgs w p L) (hn : L.length = n) (h1 : n ≤ 60) (h2 : kk < n) (h3 : aa < (L[kk]'(by omega)).2.2.size) (h4 : rr ≤ 7) :
    Calls Tryd.prog 6 #[.agg #[.slice p n cap, .int .i64 (kk : Int), .int .i64 (aa : Int), .int .i64 (rr : Int)]] w fun e w' => e = .returned (.bool true) ∧ Below w.heap.size w w' := by
  obtain ⟨g, off, rfl, hbl, d0, d1, d2⟩ := hp kk (by omega)
  clear d0 d1
  have hkL : kk < L.length := by omega
  obtain ⟨bb, hbb⟩ : ∃ bb, (L[kk]'hkL).2.2 = bb := ⟨_, rfl⟩
  rw [hbb] at d2 h3
  have HBB := hid hbb
  clear hbb
  have HL := hid hL
  have HP := hid hL.pos
  have HG := hid hp
  have HN := hid hn
  clear hL hp hn
  obtain ⟨W, hW⟩ : ∃ W, w.alloc (.cells #[.slice (some ⟨g, off, none⟩) n cap, .int .i64 (kk : Int), .int .i64 (aa : Int), .int .i64 (rr : Int)] 47) = W := ⟨_, rfl⟩
  have HB := hid (show Below w.heap.size w W by rw [← hW]; exact (Below.refl w.heap.size w).alloc (Nat.le_refl _) _)
  have hg : W.heap[w.heap.size]? = some (.cells #[.slice (some ⟨g, off, none⟩) n cap, .int .i64 (kk : Int), .int .i64 (aa : Int), .int .i64 (rr : Int)] 47) := by rw [← hW]; exact heap_alloc_new _ _
  have x0 : W.cell? ⟨w.heap.size, 0, none⟩ = some (.slice (some ⟨g, off, none⟩) n cap) := by rw [cell_of_row _ _ _ _ _ _ hg]; rfl
  have x1 : W.cell? ⟨w.heap.size, 1, none⟩ = some (.int .i64 (kk : Int)) := by rw [cell_of_row _ _ _ _ _ _ hg]; rfl
  have x2 : W.cell? ⟨w.heap.size, 2, none⟩ = some (.int .i64 (aa : Int)) := by rw [cell_of_row _ _ _ _ _ _ hg]; rfl
  have x3 : W.cell? ⟨w.heap.size, 3, none⟩ = some (.int .i64 (rr : Int)) := by rw [cell_of_row _ _ _ _ _ _ hg]; rfl
  clear hg
  have z2 : W.cell? ⟨g, off + kk * 3 + 2, none⟩ = some (.string bb) := by rw [← hW, ← d2]; exact ((Below.refl w.heap.size w).alloc (Nat.le_refl _) _).cell (p := ⟨g, off + kk * 3 + 2, none⟩) hbl
  have HZ := hid d2
  have HGL := hid hbl
  clear d2
  have t10 : decide ((60 : Int) < (n : Int)) = false := by first | (simp; done) | (simp; omega)
  have t11 : decide (60 < n) = false := by first | (simp; done) | (simp; omega)
  have t20 : decide ((kk : Int) < 0) = false := by first | (simp; done) | (simp; omega)
  have t30 : decide ((n : Int) ≤ (kk : Int)) = false := by first | (simp; done) | (simp; omega)
  have t31 : decide (n ≤ kk) = false := by first | (simp; done) | (simp; omega)
  have t40 : decide ((aa : Int) < 0) = false := by first | (simp; done) | (simp; omega)
  have t50 : decide ((bb.size : Int) ≤ (aa : Int)) = false := by first | (simp; done) | (simp; omega)
  have t51 : decide (bb.size ≤ aa) = false := by first | (simp; done) | (simp; omega)
  have t60 : decide ((rr : Int) < 0) = false := by first | (simp; done) | (simp; omega)
  have t70 : decide ((7 : Int) < (rr : Int)) = false := by first | (simp; done) | (simp; omega)
  have t71 : decide (7 < rr) = false := by first | (simp; done) | (simp; omega)
  go_enter Tryd.func6, Tryd.ntmps6
  go_wp2_with fail
  go_quiet (fail)
  go_wp2_with fail
  have HH1 := hid h1; have HH2 := hid h2; have HH3 := hid h3; have HH4 := hid h4
  clear x0 x1 x2 x3 z2 hW t10 t11 t20 t30 t31 t40 t50 t51 t60 t70 t71 h2 h3 h4 hbl
  go_loopw [7] (fun s wr => ∃ i : Nat, s = .int .i64 i ∧ i ≤ n ∧ Below w.heap.size w wr ∧ ∀ j (hj : j < L.length), j < i → mayS L[j].1 L[j].2.1 L[j].2.2) (fun s _ => n - (intOf s).toNat)
  case atStart => exact ⟨0, rfl, Nat.zero_le _, below_drewN HB.out _, fun j _ hj => absurd hj (Nat.not_lt_zero _)⟩
  case round =>
    obtain ⟨i, rfl, hi, hb, hms⟩ := hrel
    have HB1 := hid hb; have HMS := hid hms
    clear hb hms
    by_cases hlt : i < n
    · have hiL : i < L.length := by rw [HN.out]; exact hlt
      obtain ⟨g', off', e, hbl, d0, d1, d2⟩ := HG.out.below HB1.out i hiL
      obtain ⟨rfl, rfl⟩ : g = g' ∧ off = off' := by injection e with e; injection e with e1 e2; exact ⟨e1, e2⟩
      clear e
      have HMI := hid (show mayS L[i].1 L[i].2.1 L[i].2.2 ↔ mayS L[i].1 L[i].2.1 L[i].2.2 from Iff.rfl)
      have HI := hid hlt
      by_cases hm : mayS L[i].1 L[i].2.1 L[i].2.2
      · have HCK := hid fun (V : World) => check_yes 1 1 0 L[i].1 L[i].2.1 0 0 L[i].2.2 V ⟨by decide, by decide, by decide, by decide, .inl ⟨rfl, hm, rfl, rfl⟩⟩
        have HM := hid hm
        clear hm HMI
        generalize L[i].2.2 = b0 at d2 HCK
        generalize L[i].2.1 = m0 at d1 HCK
        generalize L[i].1 = k0 at d0 HCK
        go_wp2_with fail
        refine (HCK.out _).mono ?_
        rintro e w2 ⟨rfl, hb⟩
        have HB2 := hid (HB1.out.trans (hb.mono HB1.out.size))
        clear hb
        go_wp2_with fail
        go_roundw
        case rel => exact ⟨i + 1, by go_num, HI.out, HB2.out, fun j hj hji => by
          rcases Nat.lt_or_ge j i with h | h
          · exact HMS.out j hj h
          · obtain rfl : j = i := by omega
            exact HM.out⟩
        case measure => simp [intOf]; have := HI.out; omega
      · have HCK := hid fun (V : World) => check_no 1 1 0 L[i].1 L[i].2.1 0 0 L[i].2.2 V (by decide) (by
          rintro ⟨-, -, -, -, ⟨-, h, -⟩ | ⟨h, -⟩ | ⟨h, -⟩⟩
          · exact hm h
          · exact absurd h (by decide)
          · exact absurd h (by decide))
        clear hm HMI
        generalize L[i].2.2 = b0 at d2 HCK
        generalize L[i].2.1 = m0 at d1 HCK
        generalize L[i].1 = k0 at d0 HCK
        go_wp2_with fail
        refine (HCK.out _).mono ?_
        rintro e w2 ⟨rfl, hb⟩
        have HB2 := hid (HB1.out.trans (hb.mono HB1.out.size))
        clear hb
        go_wp2_with fail
        refine (live_any _ (HL.out.next HP.out HB2.out)).mono ?_
        rintro e w3 ⟨rfl, hb⟩
        have HB3 := hid (HB2.out.trans (hb.mono HB2.out.size))
        clear hb
        go_wp2_with fail
        go_ret
        exact ⟨rfl, HB3.out⟩
    · obtain rfl : i = n := by omega
      have HMA := hid (show ∀ q ∈ L, mayS q.1 q.2.1 q.2.2 from fun q hq => by
        obtain ⟨j, hj, rfl⟩ := List.getElem_of_mem hq
        exact HMS.out j hj (by rw [← HN.out]; exact hj))
      clear hlt hi HMS
      have HPG := hid (HG.out.below HB1.out)
      have HAP := hid (pages_new (w := wr) 27 (some ⟨g, off, none⟩) L cap i HN.out HPG.out (by have := HH2.out; omega) (by omega))
      go_wp2_with (at_builtin; refine wpList_app rfl _ _ _ rfl rfl rfl HAP.out ?_)
      rintro v3 w3 ⟨c3, rfl, hM, hb3⟩
      have HB3 := hid (HB1.out.trans (hb3.mono HB1.out.size))
      have HM3 := hid hM
      have hconv := bytes_conv bb
      have z3 : w3.cell? ⟨g, off + kk * 3 + 2, none⟩ = some (.string bb) := (HB3.out.cell (p := ⟨g, off + kk * 3 + 2, none⟩) HGL.out).trans HZ.out
      have k1 : decide ((kk : Int) < (i : Int)) = true := by simp; exact HH2.out
      have k2 : (0 : Int) ≤ (kk : Int) := by omega
      have k3 : (kk : Int) < (i : Int) := by have := HH2.out; omega
      clear hb3 hM HAP HPG
      have HYlo := hid HB1.out.size
      generalize wr.heap.size = Y at *
      rw [HN.out]
      go_upto_region 12 with (fail)
      have hbl : bb.data.toList.length = bb.size := by simp
      have HBLN := hid hbl
      have hal : aa < bb.data.toList.length := by rw [hbl]; exact HH3.out
      have HBY := bytes_made w3.drew bb (grownCap w3 bb.size 0 5) ((bytesRow bb (grownCap w3 bb.size 0 5)).size, (bytesRow bb (grownCap w3 bb.size 0 5)).size + 1) (by simp [bytesRow])
      have BA := hid (((Below.refl w3.heap.size w3).alloc (Nat.le_refl _) (.cells (bytesRow bb (grownCap w3 bb.size 0 5)) 5 ((bytesRow bb (grownCap w3 bb.size 0 5)).size, (bytesRow bb (grownCap w3 bb.size 0 5)).size + 1))).drew)
      clear hconv
      generalize grownCap w3 bb.size 0 5 = cb at *
      rw [show (w3.drew.alloc (.cells (bytesRow bb cb) 5 ((bytesRow bb cb).size, (bytesRow bb cb).size + 1))) = (w3.alloc (.cells (bytesRow bb cb) 5 ((bytesRow bb cb).size, (bytesRow bb cb).size + 1))).drew from rfl, show w3.drew.heap.size = w3.heap.size from rfl] at HBY
      generalize (w3.alloc (.cells (bytesRow bb cb) 5 ((bytesRow bb cb).size, (bytesRow bb cb).size + 1))).drew = X at *
      have HBX := hid (HB3.out.trans (BA.out.mono HB3.out.size))
      have HMX := hid (HM3.out.below BA.out)
      have HYlt := hid HM3.out.lt
      clear HM3 BA z3
      have HBlo := hid HB3.out.size
      generalize w3.heap.size = B at *
      have hc := HBY.cell aa hal
      have hf := HBY.free aa hal
      have HBYH := hid HBY
      obtain ⟨v, hvd, hv⟩ : ∃ v : UInt8, bb.data.toList[aa] ^^^ ((1 : UInt8) <<< (UInt8.ofNat rr)) = v ∧ bits .xor .u8 ((bb.data.toList[aa]).toNat : Int) ((2 : Int) ^ min rr 8 % 256) = (v.toNat : Int) :=
        ⟨_, rfl, by rw [show min rr 8 = rr by have := HH4.out; omega]; exact seen_val (bb.data.toList[aa]) rr (by have := HH4.out; omega)⟩
      have HVD := hid hvd
      have k4 : decide ((aa : Int) < (bb.size : Int)) = true := by simp; exact HH3.out
      have k5 : (0 : Int) ≤ (aa : Int) := by omega
      have k6 : (aa : Int) < (bb.size : Int) := by have := HH3.out; omega
      have k7 : IntKind.u64.wrap (rr : Int) = rr := by have := HH4.out; rw [show IntKind.u64.wrap (rr : Int) = (rr : Int) % 18446744073709551616 from rfl]; omega
      have HBS := hid (HBY.set aa hal v)
      clear HBY hvd hbl
      generalize (bb.data.toList[aa]).toNat = xx at hc hv
      go_upto_region 13 with (fail)
      clear hc hf hv k4 k5 k6 k7
      have HBZ := hid (HBX.out.setCell (p := ⟨B, aa, none⟩) HBlo.out (.int .u8 (v.toNat : Int)))
      have HMZ := hid (mine_other HMX.out (show Y ≠ B by have := HYlt.out; omega) aa (.int .u8 (v.toNat : Int)))
      have hback := bytes_back HBS.out bb.size cb (by rw [List.length_set]; exact HBLN.out)
      clear HBYH
      obtain ⟨b', hb'⟩ : ∃ b' : ByteArray, (⟨(bb.data.toList.set aa v).toArray⟩ : ByteArray) = b' := ⟨_, rfl⟩
      rw [hb'] at hback
      have HB' := hid (show b'.data.toList = bb.data.toList.set aa (bb.data.toList[aa] ^^^ ((1 : UInt8) <<< (UInt8.ofNat rr))) by rw [← hb', HVD.out])
      clear hb' HBS
      generalize X.setCell ⟨B, aa, none⟩ (.int .u8 (v.toNat : Int)) = Z at *
      have hkl : kk < L.length := hkL
      have hcy := (HMZ.out.cell kk hkL).2.2
      have hfy := HMZ.out.free (kk * 3 + 2)
      have HMF := hid (HMZ.out.set kk hkL b')
      have HBF := hid (HBZ.out.setCell (p := ⟨Y, kk * 3 + 2, none⟩) HYlo.out (.string b'))
      obtain ⟨u1, hu1⟩ : ∃ u, U (sumB (textS (L.set kk (L[kk].1, L[kk].2.1, b')) L.length)) = u := ⟨_, rfl⟩
      obtain ⟨u2, hu2⟩ : ∃ u, U (sumB (textS L L.length)) = u := ⟨_, rfl⟩
      have hne : u1 ≠ u2 := by
        intro h
        have ha := sums_apart L kk aa rr hkL (by have := HN.out; have := HH1.out; omega) HMA.out (by rw [HBB.out]; exact hal) (by have := HH4.out; omega) b' (by have h9 := HB'.out; simp only [HBB.out]; exact h9)
        apply ha
        apply BitVec.eq_of_toNat_eq
        have h2 : U (sumB (textS (L.set kk (L[kk].1, L[kk].2.1, b')) L.length)) = U (sumB (textS L L.length)) := by rw [hu1, hu2, h]
        unfold U at h2
        exact Int.ofNat_inj.1 h2
      have HS1 := hid fun (V : World) (hV : Lst V) (hq : Pgs V (some ⟨Y, 0, none⟩) (L.set kk (L[kk].1, L[kk].2.1, b'))) => (show Calls Tryd.prog 14 #[.slice (some ⟨Y, 0, none⟩) i c3] V fun e w' => e = .returned (.int .u32 u1) ∧ Below V.heap.size V w' by
        have h2 := sum_ok (L.set kk (L[kk].1, L[kk].2.1, b')) (some ⟨Y, 0, none⟩) c3 V hV hq (by have := HN.out; have := HH1.out; simp; omega)
        rw [List.length_set, hu1, HN.out] at h2; exact h2)
      have HS2 := hid fun (V : World) (hV : Lst V) (hq : Pgs V (some ⟨g, off, none⟩) L) => (show Calls Tryd.prog 14 #[.slice (some ⟨g, off, none⟩) i cap] V fun e w' => e = .returned (.int .u32 u2) ∧ Below V.heap.size V w' by
        have h2 := sum_ok L (some ⟨g, off, none⟩) cap V hV hq (by have := HN.out; have := HH1.out; omega)
        rw [hu2, HN.out] at h2; exact h2)
      have e9 : (u1 != u2) = true := by simpa using hne
      rw [HBB.out] at hcy
      clear hu1 hu2 hne
      generalize L.set kk (L[kk].1, L[kk].2.1, b') = M at *
      go_upto_region 14 with (fail)
      generalize Z.setCell ⟨Y, kk * 3 + 2, none⟩ (.string b') = F at *
      clear hback hcy hfy
      have HLF := hid (HL.out.next HP.out HBF.out)
      go_wp2_with fail
      refine (HS1.out _ HLF.out HMF.out.pgs).mono ?_
      rintro e wa ⟨rfl, hb⟩
      have HBa := hid (HBF.out.trans (hb.mono HBF.out.size))
      clear hb
      go_wp2_with fail
      refine (HS2.out _ (HL.out.next HP.out HBa.out) (HG.out.below HBa.out)).mono ?_
      rintro e wb ⟨rfl, hb⟩
      have HBb := hid (HBa.out.trans (hb.mono HBa.out.size))
      clear hb
      go_wp2_with fail
      refine (live_any _ (HL.out.next HP.out HBb.out)).mono ?_
      rintro e wc ⟨rfl, hb⟩
      have HBc := hid (HBb.out.trans (hb.mono HBb.out.size))
      clear hb
      go_wp2_with fail
      go_ret
      exact ⟨rfl, HBc.out⟩
theorem EntrySums_walk (v : Value) (w : World) (h : SmsV w v) (hL : Lst w) :
    Calls Tryd.prog 6 #[v] w fun e w' => e = .returned (.bool true) ∧ Below w.heap.size w w' := by
  obtain ⟨⟨p, n, cap, wh, at', bt⟩, rfl, hd⟩ := h
  obtain ⟨L, hn, hp, -⟩ := pgs_list hd.f0
  have hn' : L.length = n := hn
  by_cases g1 : n ≤ 60
  · by_cases g2 : 0 ≤ wh
    · obtain ⟨kk, rfl⟩ := Int.eq_ofNat_of_zero_le g2
      by_cases g3 : kk < n
      · by_cases g4 : 0 ≤ at'
        · obtain ⟨aa, rfl⟩ := Int.eq_ofNat_of_zero_le g4
          by_cases g5 : aa < (L[kk]'(by omega)).2.2.size
          · by_cases g6 : 0 ≤ bt
            · obtain ⟨rr, rfl⟩ := Int.eq_ofNat_of_zero_le g6
              by_cases g7 : rr ≤ 7
              · exact sms_ok p L n cap kk aa rr w hL hp hn' g1 g3 g5 g7
              · exact sms_bad7 p L n cap kk aa rr w hL hp hn' g1 g3 g5 (by omega)
            · exact sms_bad6 p L n cap kk aa bt w hL hp hn' g1 g3 g5 (by omega)
          · exact sms_bad5 p L n cap kk aa bt w hL hp hn' g1 g3 (by omega)
        · exact sms_bad4 p L n cap kk at' bt w hL hp hn' g1 g3 (by omega)
      · exact sms_bad3 p L n cap kk at' bt w hL hp hn' g1 (by omega)
    · exact sms_bad2 p L n cap wh at' bt w hL hp hn' g1 (by omega)
  · exact sms_bad1 p L n cap wh at' bt w hL hp hn' (by omega)
theorem EntrySums_open0 {H : Type} {enc : TypeId × Value → H} {W : World} {base : Nat} {v : Value} {d : DataW H} {p : List MemPlace} (hv : Value.okWide Tryd.prog W .any base 47 v) (h : DataW.Trod enc Tryd.prog W 0 (fun _ => true) true 47 v d p) : SmsV W v := open_Sms hv h
end Go.Proofs.YtigaddpjmgncmaaDoor.En
