/- The walk of FieldApart. -/
import Derived.Test.YtkcfkcdmmllpjaaLive
import Derived.Test.YtkcfkcdmmllpjaaOpen
namespace Go.Proofs.Ytkcfkcdmmllpjaa
open Go.RowKit
open Go.Lib
open Go.ChangeShapes Go.WideShapes Go.Joins

theorem putAt_putAt (l a b : List UInt8) (o : Nat) (h : o + a.length + b.length ≤ l.length) : putAt (putAt l o a) (o + a.length) b = putAt l o (a ++ b) := by
  have h1 : o + a.length ≤ l.length := by omega
  apply List.ext_getElem?
  intro i
  rw [putAt_at _ _ _ (by rw [putAt_length _ _ _ h1]; exact h), putAt_at _ _ _ h1, putAt_at _ _ _ (by simp; omega)]
  simp only [List.length_append]
  by_cases c1 : o + a.length ≤ i ∧ i < o + a.length + b.length
  · rw [if_pos c1, if_pos (by omega), List.getElem?_append_right (by omega)]; congr 1; omega
  · rw [if_neg c1]
    by_cases c2 : o ≤ i ∧ i < o + a.length
    · rw [if_pos c2, if_pos (by omega), List.getElem?_append_left (by omega)]
    · rw [if_neg c2, if_neg (by omega)]
theorem getAt_in (l t : List UInt8) (o i k : Nat) (h : o + t.length ≤ l.length) (hi : i + k ≤ t.length) : getAt (putAt l o t) (o + i) k = getAt t i k := by
  apply List.ext_getElem?
  intro j
  rw [getAt_at, getAt_at]
  by_cases hj : j < k
  · rw [if_pos hj, if_pos hj, putAt_at _ _ _ h, if_pos (by omega)]; congr 1; omega
  · rw [if_neg hj, if_neg hj]

theorem be4 (n : Nat) : be 4 n = [UInt8.ofNat (n / 256 ^ 3), UInt8.ofNat (n / 256 ^ 2), UInt8.ofNat (n / 256), UInt8.ofNat n] := by
  simp [be, beB, List.range, List.range.loop]
theorem mid_num (n m : Nat) (hm : m < 4294967296) : num (getAt (be 4 n ++ be 4 m) 2 4) = n % 65536 * 65536 + m / 65536 := by
  rw [be4, be4]
  simp only [getAt, num, List.cons_append, List.nil_append, List.drop_succ_cons, List.drop_zero, List.take_succ_cons, List.take_zero, List.foldl_cons, List.foldl_nil, UInt8.toNat_ofNat']
  omega
theorem or_halves (n m : Nat) (hm : m < 4294967296) : bits .or .u32 ((n : Int) * 65536 % 4294967296) ((m : Int) / 65536) = ((n % 65536 * 65536 + m / 65536 : Nat) : Int) := by
  have e1 : (n : Int) * 65536 % 4294967296 = ((n % 65536 * 65536 : Nat) : Int) := by omega
  have e2 : (m : Int) / 65536 = ((m / 65536 : Nat) : Int) := by omega
  rw [e1, e2, u32_or_nat _ _ (by omega) (by omega), nat_join 16 (n % 65536 * 65536) (m / 65536) (by omega) (by omega)]

set_option maxRecDepth 100000 in
set_option maxHeartbeats 1000000 in
theorem Apart_go (z o n m : Nat) (hz : z ≤ 4096) (ho : o ≤ 4000) (h : o + 8 ≤ z) (hn : n < 4294967296) (hm : m < 4294967296) (w : World) :
    Calls Try.prog 7 #[.agg #[.int .i64 (z : Int), .int .i64 (o : Int), .int .u32 (n : Int), .int .u32 (m : Int)]] w fun e w' => e = .returned (.bool true) ∧ Below w.heap.size w w' := by
  go_enter Try.func7, Try.ntmps7
  go_wp2_with fail
  go_quiet (fail)
  have HB : Hid (Below w.heap.size w ((w.alloc (.cells #[.int .i64 (z : Int), .int .i64 (o : Int), .int .u32 (n : Int), .int .u32 (m : Int)] 56)).drewN nq)) := hid (below_drewN ((Below.refl _ _).alloc (Nat.le_refl _) _) nq)
  generalize ((w.alloc (.cells #[.int .i64 (z : Int), .int .i64 (o : Int), .int .u32 (n : Int), .int .u32 (m : Int)] 56)).drewN nq) = wq at HB ⊢
  have hle : w.heap.size ≤ wq.heap.size := HB.out.size
  have HL := hid hle; clear hle
  have HA := hid (madeArea_area 60 z wq hz)
  replace HB := on_below HB (madeArea_below 60 z wq)
  go_wp2_with fail
  refine (new_ok z _ hz).mono ?_; rintro e w1 ⟨rfl, rfl⟩
  go_wp2_with fail
  refine (put_4 _ _ _ o n _ HA.out (by simp; omega) (by omega)).mono ?_; rintro e w1 ⟨rfl, hU⟩
  replace HA := hid (HA.out.upd hU (putAt_length _ _ _ (by simp [be_length]; omega)))
  replace HB := on_upd HB hU HL.out; clear hU
  go_wp2_with fail
  rw [show ((o : Int) + 4) = ((o + 4 : Nat) : Int) by omega]
  refine (put_4 _ _ _ (o + 4) m _ HA.out (by rw [putAt_length _ _ _ (by simp [be_length]; omega)]; simp; omega) (by omega)).mono ?_; rintro e w2 ⟨rfl, hU⟩
  replace HA := hid (HA.out.upd hU (putAt_length _ _ _ (by rw [putAt_length _ _ _ (by simp [be_length]; omega)]; simp [be_length]; omega)))
  replace HB := on_upd HB hU HL.out; clear hU
  have hA := HA.out
  have e8 : putAt (putAt (List.replicate z 0) o (be 4 n)) (o + 4) (be 4 m) = putAt (List.replicate z 0) o (be 4 n ++ be 4 m) := by
    have := putAt_putAt (List.replicate z 0) (be 4 n) (be 4 m) o (by simp [be_length]; omega)
    rwa [be_length] at this
  rw [e8] at hA
  have hlen : (putAt (List.replicate z (0 : UInt8)) o (be 4 n ++ be 4 m)).length = z := by rw [putAt_length _ _ _ (by simp [be_length]; omega)]; simp
  have hfit : o + (be 4 n ++ be 4 m).length ≤ (List.replicate z (0 : UInt8)).length := by simp [be_length]; omega
  have g0 : num (getAt (putAt (List.replicate z 0) o (be 4 n ++ be 4 m)) o 4) = n := by
    have := getAt_in _ _ o 0 4 hfit (by simp [be_length])
    rw [Nat.add_zero] at this
    rw [this]
    have e : getAt (be 4 n ++ be 4 m) 0 4 = be 4 n := by unfold getAt; simp [be_length]
    rw [e, num_be 4 n (by omega)]
  have g4 : num (getAt (putAt (List.replicate z 0) o (be 4 n ++ be 4 m)) (o + 4) 4) = m := by
    rw [getAt_in _ _ o 4 4 hfit (by simp [be_length])]
    have e : getAt (be 4 n ++ be 4 m) 4 4 = be 4 m := by
      unfold getAt; simp [be_length]; exact List.take_of_length_le (by simp [be_length])
    rw [e, num_be 4 m (by omega)]
  have g2 : num (getAt (putAt (List.replicate z 0) o (be 4 n ++ be 4 m)) (o + 2) 4) = n % 65536 * 65536 + m / 65536 := by
    rw [getAt_in _ _ o 2 4 hfit (by simp [be_length]), mid_num n m hm]
  generalize putAt (List.replicate z (0 : UInt8)) o (be 4 n ++ be 4 m) = l at hA hlen g0 g4 g2
  replace HA := hid hA
  have G0 := hid g0
  have G4 := hid g4
  have G2 := hid g2
  clear hA e8 hfit g0 g4 g2
  have t2 : (((n % 65536 * 65536 + m / 65536 : Nat) : Int) == bits .or .u32 ((n : Int) * 65536 % 4294967296) ((m : Int) / 65536)) = true := by
    rw [or_halves n m hm]; exact beq_self_eq_true _
  generalize hx : n % 65536 * 65536 + m / 65536 = x at G2 t2
  clear hx
  have HLEN := hid hlen; clear hlen
  go_wp2_with fail
  refine (get_lit (o := o) (wd := 4) HA.out (by omega) (by rw [HLEN.out]; omega) G0.out).mono ?_; rintro e w3 ⟨rfl, rfl⟩
  go_wp2_with fail
  rw [show ((o : Int) + 4) = ((o + 4 : Nat) : Int) by omega]
  refine (get_lit (o := o + 4) (wd := 4) HA.out (by omega) (by rw [HLEN.out]; omega) G4.out).mono ?_; rintro e w3 ⟨rfl, rfl⟩
  go_wp2_with fail
  rw [show ((o : Int) + 2) = ((o + 2 : Nat) : Int) by omega]
  refine (get_lit (o := o + 2) (wd := 4) HA.out (by omega) (by rw [HLEN.out]; omega) G2.out).mono ?_; rintro e w3 ⟨rfl, rfl⟩
  go_wp2_with fail
  refine (live_any _).mono ?_; rintro e w4 ⟨rfl, hb⟩; replace HB := on_below HB hb; clear hb
  go_wp2_with fail
  go_ret
  exact ⟨rfl, HB.out⟩

set_option maxRecDepth 100000 in
set_option maxHeartbeats 1000000 in
theorem Apart_live1 (z o n m : Int) (w : World) (h : z < 0 ∨ 4096 < z) :
    Calls Try.prog 7 #[.agg #[.int .i64 z, .int .i64 o, .int .u32 n, .int .u32 m]] w fun e w' => e = .returned (.bool true) ∧ Below w.heap.size w w' := by
  go_enter Try.func7, Try.ntmps7
  go_wp2_with fail
  go_quiet (fail)
  have HB : Hid (Below w.heap.size w ((w.alloc (.cells #[.int .i64 z, .int .i64 o, .int .u32 n, .int .u32 m] 56)).drewN nq)) := hid (below_drewN ((Below.refl _ _).alloc (Nat.le_refl _) _) nq)
  generalize ((w.alloc (.cells #[.int .i64 z, .int .i64 o, .int .u32 n, .int .u32 m] 56)).drewN nq) = wq at HB ⊢
  go_wp2_with fail
  refine (new_no z _ h).mono ?_; rintro e w1 ⟨rfl, rfl⟩
  go_wp2_with fail
  refine (live_any _).mono ?_; rintro e w4 ⟨rfl, hb⟩; replace HB := on_below HB hb; clear hb
  go_wp2_with fail
  go_ret
  exact ⟨rfl, HB.out⟩

set_option maxRecDepth 100000 in
set_option maxHeartbeats 1000000 in
theorem Apart_live2 (z : Nat) (o n m : Int) (w : World) (hz : z ≤ 4096) (ho : isInt o) (h : o < 0 ∨ 4000 < o ∨ (z : Int) < o + 8) :
    Calls Try.prog 7 #[.agg #[.int .i64 (z : Int), .int .i64 o, .int .u32 n, .int .u32 m]] w fun e w' => e = .returned (.bool true) ∧ Below w.heap.size w w' := by
  unfold isInt at ho
  go_enter Try.func7, Try.ntmps7
  go_wp2_with fail
  go_quiet (fail)
  have HB : Hid (Below w.heap.size w ((w.alloc (.cells #[.int .i64 (z : Int), .int .i64 o, .int .u32 n, .int .u32 m] 56)).drewN nq)) := hid (below_drewN ((Below.refl _ _).alloc (Nat.le_refl _) _) nq)
  generalize ((w.alloc (.cells #[.int .i64 (z : Int), .int .i64 o, .int .u32 n, .int .u32 m] 56)).drewN nq) = wq at HB ⊢
  replace HB := on_below HB (madeArea_below 60 z wq)
  by_cases h1 : o < 0
  · go_wp2_with (first
      | (go_at_call 8; refine (new_ok z _ hz).mono ?_; rintro e w1 ⟨rfl, rfl⟩)
      | (go_at_call 10; refine (live_any _).mono ?_; rintro e w4 ⟨rfl, hb⟩; replace HB := on_below HB hb; clear hb))
    go_ret
    exact ⟨rfl, HB.out⟩
  · by_cases h2 : 4000 < o
    · go_wp2_with (first
        | (go_at_call 8; refine (new_ok z _ hz).mono ?_; rintro e w1 ⟨rfl, rfl⟩)
        | (go_at_call 10; refine (live_any _).mono ?_; rintro e w4 ⟨rfl, hb⟩; replace HB := on_below HB hb; clear hb))
      go_ret
      exact ⟨rfl, HB.out⟩
    · have h3 : (z : Int) < o + 8 := by omega
      go_wp2_with (first
        | (go_at_call 8; refine (new_ok z _ hz).mono ?_; rintro e w1 ⟨rfl, rfl⟩)
        | (go_at_call 10; refine (live_any _).mono ?_; rintro e w4 ⟨rfl, hb⟩; replace HB := on_below HB hb; clear hb))
      go_ret
      exact ⟨rfl, HB.out⟩

theorem FieldApart_walk (v : Value) (h : ∃ (z o n m : Int), v = .agg #[.int .i64 z, .int .i64 o, .int .u32 n, .int .u32 m] ∧ (Lit.int .i64 o).wf = true ∧ (Lit.int .u32 n).wf = true ∧ (Lit.int .u32 m).wf = true) (w : World) :
    Calls Try.prog 7 #[v] w fun e w' => e = .returned (.bool true) ∧ Below w.heap.size w w' := by
  obtain ⟨z, o, n, m, rfl, wo, wn, wm⟩ := h
  by_cases h1 : z < 0 ∨ 4096 < z
  · exact Apart_live1 z o n m w h1
  · obtain ⟨z, rfl⟩ := Int.eq_ofNat_of_zero_le (show 0 ≤ z by omega)
    by_cases h2 : o < 0 ∨ 4000 < o ∨ (z : Int) < o + 8
    · exact Apart_live2 z o n m w (by omega) (wf_i64 wo) h2
    · have hn := wf_u32 wn
      have hm := wf_u32 wm
      obtain ⟨o, rfl⟩ := Int.eq_ofNat_of_zero_le (show 0 ≤ o by omega)
      obtain ⟨n, rfl⟩ := Int.eq_ofNat_of_zero_le hn.1
      obtain ⟨m, rfl⟩ := Int.eq_ofNat_of_zero_le hm.1
      exact Apart_go z o n m (by omega) (by omega) (by omega) (by omega) (by omega) w

theorem FieldApart_open0 {H : Type} {enc : TypeId × Value → H} {W : World} {base : Nat} {v : Value} {d : DataW H} {p : List MemPlace}
    (hv : Value.okWide Try.prog W .any base 56 v) (h : DataW.Trod enc Try.prog W 0 (fun _ => true) true 56 v d p) :
    ∃ (z o n m : Int), v = .agg #[.int .i64 z, .int .i64 o, .int .u32 n, .int .u32 m] ∧ (Lit.int .i64 o).wf = true ∧ (Lit.int .u32 n).wf = true ∧ (Lit.int .u32 m).wf = true := by
  obtain ⟨v0, v1, v2, v3, y0, y1, y2, y3, n, rfl, _, _, h0, h1, h2, h3⟩ := open_agg4 Try.underlying56 (by kernel_rfl) (by kernel_rfl) hv h
  obtain ⟨x, e0, _, wx⟩ := DataW.trod_int Try.underlying3 h0
  obtain ⟨y, e1, _, wy⟩ := DataW.trod_int Try.underlying3 h1
  obtain ⟨t, e2, _, wt⟩ := DataW.trod_int Try.underlying30 h2
  obtain ⟨z, e3, _, wz⟩ := DataW.trod_int Try.underlying30 h3
  simp at e0 e1 e2 e3
  subst e0 e1 e2 e3
  exact ⟨x, y, t, z, rfl, wy, wt, wz⟩
end Go.Proofs.Ytkcfkcdmmllpjaa
