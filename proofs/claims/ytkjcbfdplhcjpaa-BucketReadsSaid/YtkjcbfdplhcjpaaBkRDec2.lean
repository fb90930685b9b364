/- Decode of the reference, whole. -/
import Derived.Test.YtkjcbfdplhcjpaaBkRDec
namespace Go.Proofs.Ytkjcbfdplhcjpaa.Bk
open Go.RowKit
open Go.Lib (hid)
open Go.Proofs.Ytkjcbfdplhcjpaa.Ky

theorem row_slice {w : World} {base e size n : Nat} {v : Value} {xs : List Value} (h : w.ownsRow base e size v n xs) : ∃ p m c, v = .slice p m c := by
  rcases h.2 with ⟨rfl, _⟩ | ⟨g, cap, cur, rfl, _⟩
  · exact ⟨_, _, _, rfl⟩
  · exact ⟨_, _, _, rfl⟩
theorem row_ptd {w : World} {base N : Nat} {v : Value} {l : List Nat} (h : w.ownsRow base 66 1 v l.length (kl l)) (hf : ∀ x ∈ l, x < 4294967296) (hN : N ≤ base) : ∃ p c, v = .slice p l.length c ∧ PtD (Lt N) w p l := by
  have hf' : ∀ j, (hj : j < l.length) → l[j] < 4294967296 := fun j hj => hf _ (List.getElem_mem hj)
  rcases h.2 with ⟨rfl, h0⟩ | ⟨g, cap, cur, rfl, hb, hh, _, _, hs, ht⟩
  · exact ⟨none, 0, by rw [h0], ⟨fun j hj => absurd hj (by omega), hf'⟩⟩
  · refine ⟨_, cap, rfl, ⟨fun j hj => ⟨g, 0, rfl, (Array.getElem?_eq_some_iff.1 hh).1, by show ¬ g < N; omega, ?_⟩, hf'⟩⟩
    rw [cell_of_row _ _ _ _ _ _ hh, Nat.zero_add]
    have h1 : (cur.toList.take (l.length * 1))[j]? = (kl l)[j]? := by rw [ht]
    rw [List.getElem?_take, if_pos (by omega), Array.getElem?_toList] at h1
    rw [h1]
    simp [kl, hj]
theorem keyAt_fit (s : List UInt8) (a j : Nat) (h : a + 4 * j ≤ s.length) : ∀ x ∈ keyAt s a j, x < 4294967296 := fun x hx => by
  unfold keyAt at hx
  obtain ⟨i, hi, rfl⟩ := List.mem_map.1 hx
  have hi' := List.mem_range.1 hi
  have h1 := Fd.num_lt (Fd.getAt s (a + 4 * i) 4)
  rw [Fd.getAt_length _ _ _ (by omega)] at h1
  exact h1
/-- behind the last coordinate: the data is stored -/
theorem KR.data {wr wz : World} {v : Value} {l : List Nat} (h : KR wr wz wr.heap.size v l) (hf : ∀ x ∈ l, x < 4294967296) (T : ByteArray) :
    ∃ q c, v = .slice q l.length c ∧ PtD (Lt wr.heap.size) (wz.setCell ⟨wr.heap.size, 1, none⟩ (.string T)) q l ∧ Below wr.heap.size wr (wz.setCell ⟨wr.heap.size, 1, none⟩ (.string T)) ∧ (wz.setCell ⟨wr.heap.size, 1, none⟩ (.string T)).cell? ⟨wr.heap.size, 0, none⟩ = some v ∧ (wz.setCell ⟨wr.heap.size, 1, none⟩ (.string T)).cell? ⟨wr.heap.size, 1, none⟩ = some (.string T) := by
  have hb : (wz.setCell ⟨wr.heap.size, 1, none⟩ (.string T)).heap[wr.heap.size]? = _ := heap_setCell_same _ _ _ _ _ _ h.box
  have ho : (wz.setCell ⟨wr.heap.size, 1, none⟩ (.string T)).ownsRow (wr.heap.size + 1) 66 1 v l.length (kl l) := own_set h.own (Nat.lt_succ_self _)
  obtain ⟨q, c, e, hp⟩ := row_ptd ho hf (Nat.le_succ wr.heap.size)
  refine ⟨q, c, e, hp, h.below.setCell (p := ⟨wr.heap.size, 1, none⟩) (Nat.le_refl _) _, ?_, ?_⟩
  · rw [cell_of_row _ _ _ _ _ _ hb]; rfl
  · rw [cell_of_row _ _ _ _ _ _ hb]; rfl
theorem sub_get (s : ByteArray) (a n : Nat) : s.extract a (a + n) = ⟨(Fd.getAt s.data.toList a n).toArray⟩ := extract_get s a n
set_option maxRecDepth 100000 in
set_option maxHeartbeats 8000000 in
theorem refDecode_go (s : ByteArray) (d : Nat) (cap : Int) (w : World) (hs : s.size ≤ 300) (h0 : 0 < s.size) (hd1 : 1 ≤ d) (hd6 : d ≤ 6) (ht : takesB cap = true) :
    Calls Try.prog 43 #[.string s, .int .i64 (d : Int), .int .i64 cap] w (DecPost w (decR s (d : Int) cap)) := by
  have hdec : decOk (d : Int) cap = true := by unfold decOk; rw [ht]; simp; omega
  obtain ⟨sl, hsl⟩ : ∃ sl, s.data.toList = sl := ⟨_, rfl⟩
  have hlen : sl.length = s.size := by rw [← hsl]; exact Fd.size_list s
  have h1 := nm_one sl 0 false (by omega)
  have hbyte : (sl[0]'(by omega)).toNat = (s[0]'h0).toNat := by subst hsl; rfl
  obtain ⟨n0, hn0⟩ : ∃ n0, (s[0]'h0).toNat = n0 := ⟨_, rfl⟩
  have hn0b : n0 < 256 := by rw [← hn0]; exact (s[0]'h0).toNat_lt
  rw [hbyte, hn0] at h1
  have hread : readR sl d = recsS sl d n0 (1, false) := by unfold readR; rw [h1]
  have hdr : decR s (d : Int) cap = if (recsS sl d n0 (1, false)).2.2 then ([], 9) else if encS (recsS sl d n0 (1, false)).1 (d : Int) cap = s then ((recsS sl d n0 (1, false)).1, 0) else ([], 6) := by
    unfold decR; rw [if_pos hdec, hsl, Int.toNat_natCast, hread]
  have hcutR : (recsS sl d n0 (1, false)).2.2 = true → decR s (d : Int) cap = ([], 9) := fun h => by rw [hdr, if_pos h]
  have HDR := hid hdr
  have HCUT := hid hcutR
  have HBIG := hid (recsS_big sl d n0 (1, false) hd6 (by omega))
  have HLEN := hid hlen
  have HSL := hid hsl
  have HN0 := hid hn0
  obtain ⟨REC, hREC⟩ : ∃ REC, (recsS sl d n0 (1, false)).1 = REC := ⟨_, rfl⟩
  have HREC := hid hREC
  have hRl : REC.length = n0 := by rw [← hREC]; exact recsS_len sl d n0 _
  have HRL := hid hRl
  obtain ⟨res, hres⟩ : ∃ res, decR s (d : Int) cap = res := ⟨_, rfl⟩
  rw [hres]
  rw [hres] at HCUT HDR
  have e1 : decide ((d : Int) < 1) = false := by simp; omega
  have e2 : decide (6 < (d : Int)) = false := by simp; omega
  have ht2 : 2 ≤ cap ∧ cap ≤ 16 := by unfold takesB at ht; simp at ht; omega
  have e3 : decide (cap < 2) = false := by simp; omega
  have e4 : decide (16 < cap) = false := by simp; omega
  have e5 : decide ((0 : Int) < (s.size : Int)) = true := by simp; omega
  have hne : (s.toList == ([] : List UInt8)) = false := by
    have : s.toList.length = s.size := by rw [ByteArray.toList_eq]; exact Fd.size_list s
    cases e : s.toList with
    | nil => rw [e] at this; simp at this; omega
    | cons a l => rfl
  have HW0 := hid (Below.refl w.heap.size w)
  clear hdec hread hdr hcutR h1 hbyte hRl hREC hres ht ht2
  go_enter Try.func43, Try.ntmps43
  go_wp2_with fail
  go_loopw [8, 9, 10] (fun v at_ i wr => ∃ (k a : Nat) (xs : List Value), k ≤ n0 ∧ i = .int .i64 k ∧ at_ = .int .i64 a ∧ 1 ≤ a ∧ a ≤ s.size ∧ (recsS sl d k (1, false)).2 = (a, false) ∧ Out w.heap.size wr v k REC xs ∧ Below w.heap.size w wr) (fun _ _ i _ => n0 - (intOf i).toNat)
  case atStart => exact ⟨0, 1, [], by omega, rfl, rfl, by omega, by omega, rfl, ⟨World.ownsRow_nil _ _ _ _, RC.nil⟩, HW0.out⟩
  case round =>
    rename World => w0
    obtain ⟨k, a, xs, hk, rfl, rfl, ha1, ha, hst, ho, hb⟩ := hrel
    have HST := hid hst; have HO := hid ho; have HB := hid hb; clear hst ho hb HW0
    clear hsl hlen hne
    by_cases hlt : k < n0
    · have hkx : (k : Int) < (n0 : Int) := by omega
      have m1 : IntKind.i64.wrap (4 * (d : Int)) = 4 * (d : Int) := Go.IntWalk.i64_in _ (by omega)
      have m2 : IntKind.i64.wrap ((a : Int) + 4 * (d : Int)) = (a : Int) + 4 * (d : Int) := Go.IntWalk.i64_in _ (by omega)
      have m3 : IntKind.i64.wrap ((a : Int) + 4 * (d : Int) + 1) = (a : Int) + 4 * (d : Int) + 1 := Go.IntWalk.i64_in _ (by omega)
      have HSTK := hid fun (h : (recS sl d (a, false)).2.2 = true) => HCUT.out (recsS_stick sl d (k + 1) n0 (1, false) (by show (recS sl d (recsS sl d k (1, false)).2).2.2 = true; rw [HST.out]; exact h) hlt)
      by_cases hc1 : a + 4 * d + 1 ≤ s.size
      · have e6 : decide ((s.size : Int) < (a : Int) + 4 * (d : Int) + 1) = false := by simp; omega
        go_wp2_with fail
        go_loopw [12] (fun i wr => ∃ (j : Nat) (v : Value), j ≤ d ∧ i = .int .i64 j ∧ KR w0 wr w0.heap.size v (keyAt sl a j)) (fun i _ => d - (intOf i).toNat)
        case atStart =>
          refine ⟨0, .slice none 0 0, by omega, rfl, ⟨?_, World.ownsRow_nil _ _ _ _, ?_⟩⟩
          · exact heap_alloc_new _ _
          · exact below_alloc w0 _
        case round =>
          obtain ⟨j, v, hj, rfl, hkr⟩ := hrel
          have HK := hid hkr; clear hkr
          by_cases hjd : j < d
          · obtain ⟨c0, c1, f0, f1⟩ := HK.out.cells
            obtain ⟨b, hbv⟩ : ∃ b, a + 4 * j = b := ⟨_, rfl⟩
            obtain ⟨c, hcv⟩ : ∃ c, b + 4 = c := ⟨_, rfl⟩
            obtain ⟨x, hx⟩ : ∃ x, Fd.num (Fd.getAt sl b 4) = x := ⟨_, rfl⟩
            have hxb : x < 4294967296 := by
              have h1 := Fd.num_lt (Fd.getAt sl b 4)
              rw [Fd.getAt_length _ _ _ (by rw [HLEN.out]; omega), hx] at h1
              exact h1
            have hsz : (s.extract b c).size ≤ 4 := by rw [← hcv, extract_get]; show (Fd.getAt s.data.toList b 4).length ≤ 4; rw [HSL.out, Fd.getAt_length _ _ _ (by rw [HLEN.out]; omega)]; omega
            have HNAR := hid fun (V : World) => (show Calls Try.prog 80 #[.string (s.extract b c)] V fun e w' => e = .returned (.int .i64 (x : Int)) ∧ V = w' from by
              have := narrow_any (s.extract b c) V hsz
              rw [show Fd.num (s.extract b c).data.toList = x by rw [← hcv, extract_get]; show Fd.num (Fd.getAt s.data.toList b 4) = x; rw [HSL.out, hx]] at this
              exact this)
            have HNX := hid (show keyAt sl a (j + 1) = keyAt sl a j ++ [x] by rw [keyAt_succ, hbv, hx])
            have hkl := keyAt_len sl a j
            have HBW := hid (below_alloc wr (.cells #[.int .u32 (x : Int)] 66)).drew
            have HAP := hid (key_own (w := (wr.alloc (.cells #[.int .u32 (x : Int)] 66)).drew) 31 v (keyAt sl a j).length (kl (keyAt sl a j)) (own_below HK.out.own HBW.out) (some ⟨wr.heap.size, 0, none⟩) 1 1 [.int .u32 (x : Int)] ((read_one wr _ _).below (Below.refl _ _).drew) rfl (by simp [Value.oneCell']) (by omega) (by have := HK.out.lt; simp; omega))
            have q0 : (a : Int) + 4 * (j : Int) = (b : Int) := by omega
            have q1 : IntKind.i64.wrap (4 * (j : Int)) = 4 * (j : Int) := Go.IntWalk.i64_in _ (by omega)
            have q2 : IntKind.i64.wrap ((a : Int) + 4 * (j : Int)) = (b : Int) := by rw [q0]; exact Go.IntWalk.i64_in _ (by omega)
            have q3 : (b : Int) + 4 = (c : Int) := by omega
            have q4 : IntKind.i64.wrap ((b : Int) + 4) = (c : Int) := by rw [q3]; exact Go.IntWalk.i64_in _ (by omega)
            have qb : IntKind.i64.wrap (b : Int) = (b : Int) := Go.IntWalk.i64_in _ (by omega)
            have qc : IntKind.i64.wrap (c : Int) = (c : Int) := Go.IntWalk.i64_in _ (by omega)
            have q9 : (0 : Int) ≤ (c : Int) := by omega
            have q5 : (0 : Int) ≤ (b : Int) := by omega
            have q6 : (b : Int) ≤ (c : Int) := by omega
            have q7 : (c : Int) ≤ (s.size : Int) := by omega
            have q8 : (x : Int) % 4294967296 = (x : Int) := by omega
            have qx : IntKind.u32.wrap (x : Int) = (x : Int) := by simp [IntKind.wrap, IntKind.signed, IntKind.bits]; omega
            have qd : b ≤ c := by omega
            have qe : c ≤ s.size := by omega
            have c5 : (wr.alloc (.cells #[.int .u32 (x : Int)] 66)).drew.cell? ⟨w0.heap.size, 0, none⟩ = some v := (HBW.out.cell (p := ⟨w0.heap.size, 0, none⟩) HK.out.lt).trans c0
            clear hsz hx hcv hbv hkl
            go_wp2_with fail
            go_region_law (first
              | (refine step_app (by rfl) _ _ _ (by rfl) (by rfl) (by rfl) HAP.out ?_; intro v' w4 hF; obtain ⟨pp, nn, cc, hvv⟩ := row_slice hF.1; subst hvv; have HM := hid (HK.out.more rfl HBW.out hF); have c4 : w4.cell? ⟨w0.heap.size, 0, none⟩ = some v := HM.out.2.1; have f4 : w4.frozen? ⟨w0.heap.size, 0, none⟩ = false := HM.out.2.2; clear hF)
              | (go_simp; go_at_call 80; refine (HNAR.out _).mono ?_; rintro e w3 ⟨rfl, rfl⟩))
            all_goals
              clear c0 c1 f0 f1 c4 f4 c5
              go_wp2_with fail
              go_roundw
              case rel => exact ⟨j + 1, _, by omega, by go_num, by rw [HNX.out]; exact HM.out.1⟩
              case measure => simp [intOf]; omega
          · obtain rfl : d = j := by omega
            obtain ⟨c0, c1, f0, f1⟩ := HK.out.cells
            obtain ⟨b, hbv⟩ : ∃ b, a + 4 * d = b := ⟨_, rfl⟩
            have hbs : b < s.size := by omega
            obtain ⟨z, hz⟩ : ∃ z, (s[b]'hbs).toNat = z := ⟨_, rfl⟩
            have hzb : z < 256 := by rw [← hz]; exact (s[b]'hbs).toNat_lt
            have hzs : ∀ h, (sl[a + 4 * d]'h).toNat = z := fun h => by
              have h2 := HSL.out; subst h2; subst hbv; exact hz
            obtain ⟨c, hcv⟩ : ∃ c, b + 1 = c := ⟨_, rfl⟩
            obtain ⟨t, htv⟩ : ∃ t, c + z = t := ⟨_, rfl⟩
            have p0 : (a : Int) + 4 * (d : Int) = (b : Int) := by omega
            have p1 : IntKind.i64.wrap (b : Int) = (b : Int) := Go.IntWalk.i64_in _ (by omega)
            have p2 : (b : Int) + 1 = (c : Int) := by omega
            have p3 : IntKind.i64.wrap (c : Int) = (c : Int) := Go.IntWalk.i64_in _ (by omega)
            have p4 : (c : Int) + (z : Int) = (t : Int) := by omega
            have p5 : IntKind.i64.wrap (t : Int) = (t : Int) := Go.IntWalk.i64_in _ (by omega)
            have p6 : IntKind.i64.wrap (z : Int) = (z : Int) := Go.IntWalk.i64_in _ (by omega)
            have HB1 := hid (HB.out.trans (HK.out.below.mono HB.out.size))
            by_cases hc2 : t ≤ s.size
            · have e7 : decide ((s.size : Int) < (t : Int)) = false := by simp; omega
              obtain ⟨T, hT⟩ : ∃ T, s.extract c t = T := ⟨_, rfl⟩
              have hwh := recS_whole sl a d false (by rw [HLEN.out]; omega) (by rw [hzs, HLEN.out]; omega)
              rw [hzs, hbv, hcv, htv] at hwh
              have hTe : (⟨(Fd.getAt sl c z).toArray⟩ : ByteArray) = T := by rw [← hT, ← htv, sub_get, HSL.out]
              rw [hTe] at hwh
              have hkl2 : k < REC.length := by rw [HRL.out]; exact hlt
              have hget : REC[k] = (keyAt sl a d, T) := by
                have h1 := recsS_get sl d n0 k (1, false) hlt
                rw [HST.out, hwh] at h1
                have h2 := HREC.out
                subst h2
                exact h1
              have HST2 := hid (show (recsS sl d (k + 1) (1, false)).2 = (t, false) by
                show (recS sl d (recsS sl d k (1, false)).2).2 = _
                rw [HST.out, hwh])
              obtain ⟨q, cq, hv, hpt, hbl, g0, g1⟩ := HK.out.data (keyAt_fit sl a d (by rw [HLEN.out]; omega)) T
              have HSIZE := hid (show c + z = t from htv)
              have hkl3 := keyAt_len sl a d
              rw [hkl3] at hv
              obtain ⟨V, hV⟩ : ∃ V, wr.setCell ⟨w0.heap.size, 1, none⟩ (.string T) = V := ⟨_, rfl⟩
              rw [hV] at hpt hbl g0 g1
              have HBV := hid hbl; have HPT := hid hpt
              subst hv
              have HBA := hid (HBV.out.alloc HBV.out.size (.cells #[.slice q d cq, .string T] 33))
              have HAP := hid (rec_own (w := V.alloc (.cells #[.slice q d cq, .string T] 33)) 40 u8 k xs (own_below HO.out.own HBA.out) (some ⟨V.heap.size, 0, none⟩) 1 1 [.slice q d cq, .string T] (read_new V _ _ _) rfl (one_two _ _ rfl rfl) (by omega) (Nat.le_trans HB.out.size HBA.out.size))
              have HPU := hid fun (w' : World) (v' : Value) (hw : Owns (V.alloc (.cells #[.slice q d cq, .string T] 33)) w.heap.size 33 2 u8 (k + 1) (xs ++ [.slice q d cq, .string T]) v' w') =>
                HO.out.push (q := q) (c := cq) hkl2 HBA.out HB.out.size (by rw [hget]; exact HPT.out.keep (.below (below_alloc V _))) (by rw [hget]; show Owns _ _ _ _ _ _ (xs ++ [.slice q (keyAt sl a d).length cq, .string T]) _ _; rw [hkl3]; exact hw)
              have HDL := hid hkl3
              have q5 : (0 : Int) ≤ (c : Int) := by omega
              have q6 : (c : Int) ≤ (t : Int) := by omega
              have q7 : (t : Int) ≤ (s.size : Int) := by omega
              have q8 : c ≤ t := by omega
              have q9 : t ≤ s.size := by omega
              clear hzs hcv htv hbv m2 m3 hwh hTe hget hkl3 hpt hbl
              go_wp2_with (at_builtin; refine wpList_app rfl _ _ _ rfl rfl rfl HAP.out ?_)
              intro v' w4 hF
              have HN := hid (HPU.out _ _ hF)
              have HB4 := hid (show Below w.heap.size w w4 from (HB.out.trans (HBA.out.mono HB.out.size)).grown hF.2.1 (Nat.le_trans HB.out.size HBA.out.size) (fun j hj => (HO.out.own.lt j hj).1))
              clear hF
              go_wp2_with fail
              go_roundw
              case rel => exact ⟨k + 1, t, _, by omega, by go_num, rfl, by omega, by omega, HST2.out, HN.out, HB4.out⟩
              case measure => simp [intOf]; omega
            · have e7 : decide ((s.size : Int) < (t : Int)) = true := by simp; omega
              have HX := hid (HSTK.out (recS_cut2 sl a d false (by rw [HLEN.out]; omega) (by rw [hzs, HLEN.out]; omega)))
              clear hzs hcv htv hbv m2 m3
              go_wp2_with fail
              go_ret2
              rw [HX.out]
              exact dec_none HB1.out
      · have e6 : decide ((s.size : Int) < (a : Int) + 4 * (d : Int) + 1) = true := by simp; omega
        have HX := hid (HSTK.out (recS_cut1 sl a d false (by rw [HLEN.out]; exact ha) (by rw [HLEN.out]; exact hc1)))
        go_wp2_with fail
        go_ret2
        rw [HX.out]
        exact dec_none HB.out
    · obtain rfl : k = n0 := by omega
      have hown : w0.ownsRow w.heap.size 33 2 u8 REC.length xs := by rw [HRL.out]; exact HO.out.own
      have hrc := HO.out.rc
      rw [List.take_of_length_le (by rw [HRL.out]; exact Nat.le_refl _)] at hrc
      have hcc : ∀ p' c', u8 = .slice p' REC.length c' → REC.length ≤ c' ∧ c' ≤ 9223372036854775807 := fun p' c' hv0 => by
        rcases hown.2 with ⟨hv, h0⟩ | ⟨g, cap, cur, hv, _, _, h5, h6, _⟩
        · rw [hv0] at hv; injection hv with _ h2 h3; omega
        · rw [hv0] at hv; injection hv with _ h2 h3; unfold maxLen at h6; omega
      obtain ⟨p', c', hv0, hr⟩ := Rs.of_row hown (hrc.less (D' := Lt w.heap.size) fun b _ hb => Or.inl hb) (fun j hj => by show ¬ j < w.heap.size; have := (hown.lt j hj).1; omega)
      have HCC := hid (hcc p' c' hv0)
      subst hv0
      have HR := hid hr
      have HRES := hid (show res = if encS REC (d : Int) cap = s then (REC, 0) else ([], 6) by have := HDR.out; rw [HST.out, HREC.out] at this; simpa using this)
      have HE := hid (refEncode_ok REC p' c' (d : Int) cap w0 hr (HREC.out ▸ HBIG.out))
      clear hown hrc hcc hr HO HDR HCUT
      cases hok : encOk REC (d : Int) cap with
      | false =>
        rw [hok] at HE
        have hne2 : ¬ encS REC (d : Int) cap = s := by
          rw [encNo hok]; intro e; rw [← e] at h0; exact absurd h0 (by decide)
        have HX := hid (show res = ([], 6) by rw [HRES.out, if_neg hne2])
        obtain ⟨T, hT⟩ : ∃ T, encS REC (d : Int) cap = T := ⟨_, rfl⟩
        rw [hT] at HE
        clear hT hne2 hok HRES
        go_wp2_with fail
        refine HE.out.mono ?_
        rintro e w2 ⟨rfl, hb2⟩
        have HB2 := hid (HB.out.trans (hb2.mono HB.out.size)); clear hb2
        have e9 : err false = 1 := rfl
        rw [e9]
        go_wp2_with fail
        go_ret2
        rw [HX.out]
        exact dec_none HB2.out
      | true =>
        rw [hok] at HE
        by_cases heq : encS REC (d : Int) cap = s
        · have HX := hid (show res = (REC, 0) by rw [HRES.out, if_pos heq])
          rw [heq] at HE
          have e8 : (s.toList == s.toList) = true := by simp
          have e9 : err true = 0 := rfl
          clear heq hok HRES
          go_wp2_with fail
          refine HE.out.mono ?_
          rintro e w2 ⟨rfl, hb2⟩
          have HR2 := hid (HR.out.below hb2)
          have HB2 := hid (HB.out.trans (hb2.mono HB.out.size)); clear hb2
          rw [e9]
          go_wp2_with fail
          go_ret2
          rw [HX.out]
          exact ⟨p', c', rfl, HCC.out.1, HCC.out.2, HR2.out, HB2.out⟩
        · have HX := hid (show res = ([], 6) by rw [HRES.out, if_neg heq])
          have hlist := text_ne heq
          obtain ⟨T, hT⟩ : ∃ T, encS REC (d : Int) cap = T := ⟨_, rfl⟩
          rw [hT] at HE hlist
          have e9 : err true = 0 := rfl
          clear hT heq hok HRES
          go_wp2_with fail
          refine HE.out.mono ?_
          rintro e w2 ⟨rfl, hb2⟩
          have HB2 := hid (HB.out.trans (hb2.mono HB.out.size)); clear hb2
          rw [e9]
          go_wp2_with fail
          go_ret2
          rw [HX.out]
          exact dec_none HB2.out
end Go.Proofs.Ytkjcbfdplhcjpaa.Bk
