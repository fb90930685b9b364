/- Cut, and the reference's Put, Cut and Copies. -/
import Derived.Test.YtkjcbfdplhcjpaaBkPut
namespace Go.Proofs.Ytkjcbfdplhcjpaa.Bk
open Go.RowKit
open Go.Lib (hid)
open Go.Proofs.Ytkjcbfdplhcjpaa.Ky

/-- a list out of its cells -/
theorem Rs.mk {w : World} {p : Option Addr} {xs : List Value} {L : List Rec} (h : RC (fun _ => False) w xs L) (hr : ReadAt w p xs) : Rs (fun _ => False) w p L :=
  ⟨xs, h, fun j u hj => by
    obtain ⟨b, off, e, hb, hc⟩ := hr j u hj
    exact ⟨b, off, e, hb, id, hc⟩⟩
set_option maxRecDepth 100000 in
set_option maxHeartbeats 2000000 in
theorem cut_ok {D : Nat → Prop} (L : List Rec) (k : List Nat) (p q : Option Addr) (c c' : Nat) (w : World) (hp : Rs D w p L) (hq : Pt w q k) (hl : bigR L) (hc : L.length ≤ c) (hu : upL L) :
    Calls Try.prog 74 #[.slice p L.length c, .slice q k.length c'] w fun e w' => ∃ p', e = .returned (.tuple #[.slice p' (cutR L k).length (cutR L k).length, .bool (hasN L k)]) ∧ Rs (Lt w.heap.size) w' p' (cutR L k) ∧ Below w.heap.size w w' := by
  have HF := hid (find_ok L k p q c c' w hp hq hl hu)
  obtain ⟨xs, hrc, hrd⟩ := hp.open
  have hn := lessN_le L k
  obtain ⟨n, hnn⟩ : ∃ n, lessN L k = n := ⟨_, rfl⟩
  rw [hnn] at hn
  simp only [hnn] at HF
  have HRC := hid hrc
  have HRD := hid hrd
  have HXL := hid hrc.1
  have hbig := hl.1
  have HRI := hid fun (w' : World) (hb : Below w.heap.size w w') => rises_yes L p c w' (hp.below hb) hl hu
  have HRE := hid fun (w' : World) (hb : Below w.heap.size w w') => records_ok L p c w' (hp.below hb) hl
  cases his : hasN L k with
  | false =>
    rw [his] at HF
    have HM : cutR L k = L := by unfold cutR; rw [his]; simp
    rw [HM]
    clear his hnn HM hrc hrd hp hq
    go_enter Try.func74, Try.ntmps74
    go_wp2_with (first
      | (go_at_call 75; refine HF.out.mono ?_; rintro e w2 ⟨rfl, hb⟩; have HB2 := hid hb; clear hb)
      | (go_at_call 62; refine (HRE.out _ HB2.out).mono ?_; rintro e w6 ⟨p6, rfl, hr, hb⟩; have H6 := hid (hr.lt HB2.out.size); have HB7 := hid (HB2.out.trans (hb.mono HB2.out.size)); clear hr hb)
      | fail)
    go_ret2
    exact ⟨p6, rfl, H6.out, HB7.out⟩
  | true =>
    rw [his] at HF
    have hnl : n < L.length := by obtain ⟨h, _⟩ := hasN_iff.1 his; rw [hnn] at h; exact h
    obtain ⟨M, hM⟩ : ∃ M, cutR L k = M := ⟨_, rfl⟩
    have HBIG := hid (show bigR M from hM ▸ big_cut k hl)
    have HMM := hid (show M = L.take n ++ L.drop (n + 1) by rw [← hM]; unfold cutR; rw [his]; simp only [hnn]; simp)
    rw [hM]
    have s1 := fun (w : World) => slice_front p L.length c n hn hc w
    obtain ⟨P2, hP2, s3⟩ := slice_back p L.length c (n + 1) hnl hc
    have s3' : ∀ w : World, (Instr.slice 40 (.slice p L.length c) (some (.int .i64 ((n : Int) + 1))) none none).run Try.prog w = .ok (.slice P2 (L.length - (n + 1)) (c - (n + 1))) w := s3
    have HP2 := hid (read_cut hrd ((n + 1) * 2) P2 (by rcases hP2 with h | h; exact Or.inl h; right; rw [hrc.1]; omega))
    have HNR := hid (show (L.take n ++ L.drop (n + 1)).length = n + (L.length - (n + 1)) by simp; omega)
    clear his hnn hM hrc hrd hp hq hP2 s3
    go_enter Try.func74, Try.ntmps74
    go_wp2_with (first
      | (go_at_call 75; refine HF.out.mono ?_; rintro e w2 ⟨rfl, hb⟩; have HB2 := hid hb; clear hb)
      | (go_at_call 98; refine (HRI.out _ HB2.out).mono ?_; rintro e w3 ⟨rfl, m, hw3⟩; have HB3 := hid (show Below w.heap.size w w3 by rw [hw3]; exact below_drewN HB2.out m); clear hw3)
      | fail)
    have ew : IntKind.i64.wrap ((n : Int) + 1) = (n : Int) + 1 := Go.IntWalk.i64_in _ (by omega)
    go_still_tail 8, (by kernel_rfl)
    change wpList _ _ _ _ _ w3.drew
    have HB4 := hid HB3.out.drew
    generalize w3.drew = w4 at HB4
    have HA := hid (rec_full (w := w4) 40 p n (xs.take (n * 2)) ((HRD.out.below HB4.out).take _) (by rw [List.length_take, HXL.out]; omega) P2 (L.length - (n + 1)) (c - (n + 1)) (xs.drop ((n + 1) * 2)) (HP2.out.below HB4.out) (by rw [List.length_drop, HXL.out]; omega) (mem_drop HRC.out.oneCell) (by omega))
    clear s1 s3' ew
    go_wp2_with (at_builtin; refine wpList_app rfl _ _ _ rfl rfl rfl HA.out ?_)
    intro v' w5 hF
    obtain ⟨p5, c5, rfl, hr5, hb5, _, _⟩ := hF
    have HB5 := hid (HB4.out.trans (hb5.mono HB4.out.size))
    have hrs : Rs (fun _ => False) w5 p5 M := by
      rw [HMM.out]
      exact Rs.mk ((((HRC.out.less (fun _ _ h => h.elim)).take n hn).app ((HRC.out.less (fun _ _ h => h.elim)).drop (n + 1) hnl)).below HB5.out) hr5
    have HR := hid (records_ok M p5 c5 w5 hrs HBIG.out)
    rw [show M.length = n + (L.length - (n + 1)) by rw [HMM.out, HNR.out]] at HR
    clear hr5 hb5 hrs HA
    have HML := hid (show M.length = n + (L.length - (n + 1)) by rw [HMM.out, HNR.out])
    go_wp2_with (go_at_call 62; refine HR.out.mono ?_; rintro e w6 ⟨p6, rfl, hr, hb⟩; have H6 := hid (hr.lt HB5.out.size); have HB7 := hid (HB5.out.trans (hb.mono HB5.out.size)); clear hr hb)
    go_ret2
    refine ⟨p6, ?_, H6.out, HB7.out⟩
    rw [HML.out]; rfl
theorem own_below {w w' : World} {base e size n : Nat} {v : Value} {xs : List Value} (h : w.ownsRow base e size v n xs) (hb : Below w.heap.size w w') : w'.ownsRow base e size v n xs := by
  refine ⟨h.1, ?_⟩
  rcases h.2 with hn | ⟨g, cap, cur, hv, hb0, hg, rest⟩
  · exact .inl hn
  · exact .inr ⟨g, cap, cur, hv, hb0, (hb.block g (h.lt g (by rw [hv]; rfl)).2).trans hg, rest⟩
/-- records that are laid one behind the other: the row, and what it holds -/
structure Out (N : Nat) (w : World) (v : Value) (k : Nat) (L : List Rec) (xs : List Value) : Prop where
  own : w.ownsRow N 33 2 v k xs
  rc : RC (fun b => b < N ∨ v.ownBlock = some b) w xs (L.take k)
theorem PtD.grown {D D' : Nat → Prop} {w w' : World} {p : Option Addr} {l : List Nat} (h : PtD D w p l) (hk : Keep D w w') (hd : ∀ b, b < w.heap.size → D' b → D b) : PtD D' w' p l := ⟨fun j hj => by
  obtain ⟨b, off, h1, h2, h3, h4⟩ := h.cells j hj
  exact ⟨b, off, h1, Nat.lt_of_lt_of_le h2 hk.size, fun hb => h3 (hd b h2 hb), (hk.cell h2 h3).trans h4⟩, h.fit⟩
theorem RC.grown {D D' : Nat → Prop} {w w' : World} {xs : List Value} {L : List Rec} (h : RC D w xs L) (hk : Keep D w w') (hd : ∀ b, b < w.heap.size → D' b → D b) : RC D' w' xs L := ⟨h.1, fun j hj => by
  obtain ⟨q, c, h1, h2, h3⟩ := h.2 j hj
  exact ⟨q, c, h1, h2, h3.grown hk hd⟩⟩
theorem Out.push {N : Nat} {wr w3 w' : World} {v v' : Value} {k : Nat} {L : List Rec} {xs : List Value} {q : Option Addr} {c : Nat} (h : Out N wr v k L xs) (hk : k < L.length) (hb : Below wr.heap.size wr w3) (hN : N ≤ wr.heap.size)
    (hq : PtD (Lt wr.heap.size) w3 q L[k].1) (ho : Owns w3 N 33 2 v (k + 1) (xs ++ [.slice q L[k].1.length c, .string L[k].2]) v' w') : Out N w' v' (k + 1) L (xs ++ [.slice q L[k].1.length c, .string L[k].2]) := by
  obtain ⟨h1, h2, h3⟩ := ho
  have hv : ∀ b, v.ownBlock = some b → b < wr.heap.size := fun b hb => (h.own.lt b hb).2
  have hv3 : ∀ b, b < w3.heap.size → v'.ownBlock = some b → v.ownBlock = some b := fun b hlt hb => by
    rcases h3 with e | e
    · rw [← e]; exact hb
    · rw [hb] at e; injection e with e; omega
  refine ⟨h1, ?_⟩
  rw [List.take_succ_eq_append_getElem hk]
  refine RC.app ((h.rc.below hb).grown ⟨h2.size, fun b hlt hD => h2.block b hlt (fun e => hD (.inr e.symm))⟩ (fun b hlt hD => ?_)) (RC.one (hq.grown ⟨h2.size, fun b hlt hD => h2.block b hlt (fun e => hD (hv b e.symm))⟩ (fun b hlt hD => ?_)))
  · rcases hD with hD | hD
    · exact .inl hD
    · exact .inr (hv3 b hlt hD)
  · rcases hD with hD | hD
    · exact Nat.lt_of_lt_of_le hD hN
    · exact hv b (hv3 b hlt hD)
set_option maxRecDepth 100000 in
set_option maxHeartbeats 2000000 in
theorem copies_ok {D : Nat → Prop} (L : List Rec) (p : Option Addr) (c : Nat) (w : World) (hp : Rs D w p L) (hl : bigR L) :
    Calls Try.prog 50 #[.slice p L.length c] w fun e w' => ∃ p' c', e = .returned (.slice p' L.length c') ∧ L.length ≤ c' ∧ c' ≤ 9223372036854775807 ∧ Rs (Lt w.heap.size) w' p' L ∧ Below w.heap.size w w' := by
  have HP := hid hp; have HL := hid hl; have hlen := hl.1
  clear hp hl
  go_enter Try.func50, Try.ntmps50
  go_wp2_with fail
  go_loopw [3, 4] (fun v i wr => ∃ (k : Nat) (xs : List Value), k ≤ L.length ∧ i = .int .i64 k ∧ Out w.heap.size wr v k L xs ∧ Below w.heap.size w wr) (fun _ i _ => L.length - (intOf i).toNat)
  case atStart => exact ⟨0, [], by omega, rfl, ⟨World.ownsRow_nil _ _ _ _, RC.nil⟩, Below.refl _ _⟩
  case round =>
    obtain ⟨k, xs, hk, rfl, ho, hb⟩ := hrel
    have HO := hid ho; have HB := hid hb; clear ho hb
    by_cases hlt : k < L.length
    · obtain ⟨b, off, q, c', rfl, hbl, e1, e2, hq⟩ := HP.out.at k hlt
      have hbg := HL.out.2 _ (List.getElem_mem hlt)
      have HD := hid fun (w' : World) (hb : Below w.heap.size w w') => (show w'.cell? ⟨b, off + k * 2, none⟩ = some (.slice q L[k].1.length c') ∧ w'.cell? ⟨b, off + k * 2 + 1, none⟩ = some (.string L[k].2) from ⟨(hb.cell (p := ⟨b, _, none⟩) hbl).trans e1, (hb.cell (p := ⟨b, _, none⟩) hbl).trans e2⟩)
      have HC := hid fun (w' : World) (hb : Below w.heap.size w w') => copy_ok L[k].1 q c' w' (hq.pt.below hb) (by omega)
      have HPU := hid fun (w3 w' : World) (v' : Value) (q2 : Option Addr) (c2 : Nat) (hb : Below wr.heap.size wr w3) (hq : PtD (Lt wr.heap.size) w3 q2 L[k].1) (hw : Owns w3 w.heap.size 33 2 u3 (k + 1) (xs ++ [.slice q2 L[k].1.length c2, .string L[k].2]) v' w') => HO.out.push hlt hb HB.out.size hq hw
      clear hq hbg e1 e2
      generalize L[k].1 = x at HC HD HPU
      generalize L[k].2 = t at HD HPU
      obtain ⟨d1, d2⟩ := HD.out _ HB.out
      have H0 := hid (Below.refl wr.heap.size wr).drew
      have HB0 := hid HB.out.drew
      have y0 := HD.out _ HB0.out
      go_wp2_with fail
      go_region_held3 (fun w' => w'.cell? ⟨b, off + k * 2, none⟩ = some (.slice q x.length c') ∧ w'.cell? ⟨b, off + k * 2 + 1, none⟩ = some (.string t)) (first | exact y0 | exact y1 | exact y2 | exact y3 | go_keep)
        (first
          | (go_at_call 39; (with_reducible refine (HC.out _ HB0.out).mono ?_); rintro e w2 ⟨q2, c2, rfl, hq, hb⟩; have H1 := hid (H0.out.trans (hb.mono H0.out.size)); have HB1 := hid (HB.out.trans (H1.out.mono HB.out.size)); have y1 := HD.out _ HB1.out; have H2 := hid (H1.out.alloc H1.out.size (.cells #[.slice q2 x.length c2, .string t] 33)); have HB2 := hid (HB.out.trans (H2.out.mono HB.out.size)); have y2 := HD.out _ HB2.out; have HQ := hid ((hq.to (N := wr.heap.size) (fun k hk => hk)).keep (.below (below_alloc w2 (.cells #[.slice q2 x.length c2, .string t] 33)))); have HA := hid (rec_own (w := w2.alloc (.cells #[.slice q2 x.length c2, .string t] 33)) 40 u3 k xs (own_below HO.out.own H2.out) (some ⟨w2.heap.size, 0, none⟩) 1 1 [.slice q2 x.length c2, .string t] (read_new w2 _ _ _) rfl (one_two _ _ rfl rfl) (by omega) HB2.out.size); clear hq hb)
          | (refine step_app (by rfl) _ _ _ (by rfl) (by rfl) (by rfl) HA.out ?_; intro v' w4 hF; have H4 := hid (HPU.out _ _ _ _ _ H2.out HQ.out hF); have HB4 := hid (show Below w.heap.size w w4 from HB2.out.grown hF.2.1 HB2.out.size (fun j hj => (HO.out.own.lt j hj).1)); have y3 := HD.out _ HB4.out; clear hF)
          | fail)
      clear d1 d2 y0 y1 y2 y3
      go_wp2_with fail
      go_roundw
      case rel => exact ⟨k + 1, _, by omega, by go_num, H4.out, HB4.out⟩
      case measure => simp [intOf]; omega
    · obtain rfl : k = L.length := by omega
      go_wp2_with fail
      go_ret
      have h1 := HO.out.rc
      rw [List.take_length] at h1
      obtain ⟨p', c', rfl, hr⟩ := Rs.of_row HO.out.own (h1.less (D' := Lt w.heap.size) fun b _ hb => Or.inl hb) (fun j hj => by show ¬ j < w.heap.size; have := (HO.out.own.lt j hj).1; omega)
      have hcc : L.length ≤ c' ∧ c' ≤ 9223372036854775807 := by
        rcases HO.out.own.2 with ⟨hv, h0⟩ | ⟨g, cap, cur, hv, _, _, h5, h6, _⟩
        · injection hv with _ h2 h3; omega
        · injection hv with _ h2 h3; unfold maxLen at h6; omega
      exact ⟨p', c', rfl, hcc.1, hcc.2, hr, HB.out⟩
end Go.Proofs.Ytkjcbfdplhcjpaa.Bk
