/- The walk of FieldTexts. -/
import Derived.Test.YtkcfkcdmmllpjaaLive
import Derived.Test.YtkcfkcdmmllpjaaOpen
namespace Go.Proofs.Ytkcfkcdmmllpjaa
open Go.RowKit
open Go.Lib
open Go.ChangeShapes Go.WideShapes Go.Joins

theorem str_eta (t : ByteArray) : (⟨t.data.toList.toArray⟩ : ByteArray) = t := by simp
theorem getText_str {A B : Nat} {l : List UInt8} {o : Nat} {w : World} (t : ByteArray) (ha : Area 60 w A B l) (h : o + t.size ≤ l.length) (hr : getAt l o t.size = t.data.toList) :
    Calls Try.prog 17 #[.pointer (some ⟨A, 0, none⟩), .int .i64 (o : Int), .int .i64 (t.size : Int)] w fun e w' => e = .returned (.tuple #[.string t, .int .i64 0]) ∧ w = w' := by
  have := getText_ok A B l o t.size w ha h
  rwa [hr, str_eta] at this
theorem bytes_str {A B : Nat} {w : World} (t : ByteArray) (ha : Area 60 w A B t.data.toList) :
    Calls Try.prog 21 #[.pointer (some ⟨A, 0, none⟩)] w fun e w' => e = .returned (.string t) ∧ w = w' := by
  have := bytes_ok A B t.data.toList w ha
  rwa [str_eta] at this


set_option maxRecDepth 100000 in
set_option maxHeartbeats 1000000 in
theorem Texts_great (s t : ByteArray) (o p : Int) (ws : s.size ≤ maxLen) (wt : t.size ≤ maxLen) (w : World) (h : 1000 < s.size ∨ 1000 < t.size) :
    Calls Try.prog 6 #[.agg #[.string s, .string t, .int .i64 o, .int .i64 p]] w fun e w' => e = .returned (.bool true) ∧ Below w.heap.size w w' := by
  unfold maxLen at ws wt
  go_enter Try.func6, Try.ntmps6
  go_wp2_with fail
  go_quiet (fail)
  have HB : Hid (Below w.heap.size w ((w.alloc (.cells #[.string s, .string t, .int .i64 o, .int .i64 p] 53)).drewN nq)) := hid (below_drewN ((Below.refl _ _).alloc (Nat.le_refl _) _) nq)
  generalize ((w.alloc (.cells #[.string s, .string t, .int .i64 o, .int .i64 p] 53)).drewN nq) = wq at HB ⊢
  by_cases h1 : 1000 < s.size
  · go_wp2_with (go_at_call 10; refine (live_any _).mono ?_; rintro e w4 ⟨rfl, hb⟩; replace HB := on_below HB hb; clear hb)
    go_ret
    exact ⟨rfl, HB.out⟩
  · have h2 : 1000 < t.size := by omega
    go_wp2_with (go_at_call 10; refine (live_any _).mono ?_; rintro e w4 ⟨rfl, hb⟩; replace HB := on_below HB hb; clear hb)
    go_ret
    exact ⟨rfl, HB.out⟩

set_option maxRecDepth 100000 in
set_option maxHeartbeats 1000000 in
theorem Texts_bad (s t : ByteArray) (o p : Int) (w : World) (h1 : s.size ≤ 1000) (h2 : t.size ≤ 1000) (ho : isInt o) (h : ¬ isRange o t.size s.size) :
    Calls Try.prog 6 #[.agg #[.string s, .string t, .int .i64 o, .int .i64 p]] w fun e w' => e = .returned (.bool true) ∧ Below w.heap.size w w' := by
  unfold isInt at ho
  go_enter Try.func6, Try.ntmps6
  go_wp2_with fail
  go_quiet (fail)
  have HB : Hid (Below w.heap.size w ((w.alloc (.cells #[.string s, .string t, .int .i64 o, .int .i64 p] 53)).drewN nq)) := hid (below_drewN ((Below.refl _ _).alloc (Nat.le_refl _) _) nq)
  generalize ((w.alloc (.cells #[.string s, .string t, .int .i64 o, .int .i64 p] 53)).drewN nq) = wq at HB ⊢
  go_wp2_with fail
  refine (of_ok s _ (by omega)).mono ?_; rintro e w1 ⟨rfl, hA, hb⟩; replace HB := on_below HB hb; clear hb; have HA := hid hA; clear hA
  go_wp2_with fail
  refine (putText_bad _ _ _ _ (cut_no _ _ _ _ _ _ HA.out (by rw [size_list]; exact h) ho (by omega))).mono ?_; rintro e w2 ⟨rfl, rfl⟩
  unfold isRange at h
  by_cases c1 : o < 0
  · clear h
    go_wp2_with fail
    refine (bytes_str s HA.out).mono ?_; rintro e w2 ⟨rfl, rfl⟩
    go_wp2_with fail
    refine (live_any _).mono ?_; rintro e w4 ⟨rfl, hb⟩; replace HB := on_below HB hb; clear hb
    go_wp2_with fail
    go_ret
    exact ⟨rfl, HB.out⟩
  · by_cases c2 : (s.size : Int) < o
    · clear h
      go_wp2_with fail
      refine (bytes_str s HA.out).mono ?_; rintro e w2 ⟨rfl, rfl⟩
      go_wp2_with fail
      refine (live_any _).mono ?_; rintro e w4 ⟨rfl, hb⟩; replace HB := on_below HB hb; clear hb
      go_wp2_with fail
      go_ret
      exact ⟨rfl, HB.out⟩
    · have c3 : (s.size : Int) - o < t.size := by omega
      clear h
      go_wp2_with fail
      refine (bytes_str s HA.out).mono ?_; rintro e w2 ⟨rfl, rfl⟩
      go_wp2_with fail
      refine (live_any _).mono ?_; rintro e w4 ⟨rfl, hb⟩; replace HB := on_below HB hb; clear hb
      go_wp2_with fail
      go_ret
      exact ⟨rfl, HB.out⟩

set_option maxRecDepth 100000 in
set_option maxHeartbeats 1000000 in
theorem Texts_go (s t : ByteArray) (o : Nat) (p : Int) (w : World) (h1 : s.size ≤ 1000) (h2 : t.size ≤ 1000) (hp : isInt p) (h : o + t.size ≤ s.size) :
    Calls Try.prog 6 #[.agg #[.string s, .string t, .int .i64 (o : Int), .int .i64 p]] w fun e w' => e = .returned (.bool true) ∧ Below w.heap.size w w' := by
  unfold isInt at hp
  have HP := hid hp; clear hp
  go_enter Try.func6, Try.ntmps6
  go_wp2_with fail
  go_quiet (fail)
  have HB : Hid (Below w.heap.size w ((w.alloc (.cells #[.string s, .string t, .int .i64 (o : Int), .int .i64 p] 53)).drewN nq)) := hid (below_drewN ((Below.refl _ _).alloc (Nat.le_refl _) _) nq)
  generalize ((w.alloc (.cells #[.string s, .string t, .int .i64 (o : Int), .int .i64 p] 53)).drewN nq) = wq at HB ⊢
  have HL := hid (show w.heap.size ≤ wq.heap.size from HB.out.size)
  have HS := hid (size_list s)
  have HT := hid (size_list t)
  go_wp2_with fail
  refine (of_ok s _ (by omega)).mono ?_; rintro e w1 ⟨rfl, hA, hb⟩; replace HB := on_below HB hb; clear hb; have HA := hid hA; clear hA
  go_wp2_with fail
  refine (putText_ok _ _ _ o t _ HA.out (by rw [HS.out]; exact h)).mono ?_; rintro e w2 ⟨rfl, hU⟩
  have hfit : o + t.data.toList.length ≤ s.data.toList.length := by rw [HS.out, HT.out]; exact h
  replace HA := hid (HA.out.upd hU (putAt_length _ _ _ hfit))
  replace HB := on_upd HB hU HL.out; clear hU
  have hg := getAt_putAt s.data.toList o t.data.toList hfit
  have hn : (putAt s.data.toList o t.data.toList).length = s.size := by rw [putAt_length _ _ _ hfit, HS.out]
  rw [HT.out] at hg
  clear hfit
  generalize putAt s.data.toList o t.data.toList = l at HA hg hn
  have HG := hid hg; clear hg
  have HN := hid hn; clear hn
  go_wp2_with fail
  refine (getText_str t HA.out (by rw [HN.out]; exact h) HG.out).mono ?_; rintro e w3 ⟨rfl, rfl⟩
  go_wp2_with fail
  refine (move_ok _ _ _ o o t.size _ HA.out (by rw [HN.out]; exact h) (by rw [HN.out]; exact h)).mono ?_; rintro e w3 ⟨rfl, hU⟩
  rw [putAt_getAt l o t.size (by rw [HN.out]; exact h)] at hU
  replace HA := hid (HA.out.upd hU rfl)
  replace HB := on_upd HB hU HL.out; clear hU
  go_wp2_with fail
  refine (getText_str t HA.out (by rw [HN.out]; exact h) HG.out).mono ?_; rintro e w4 ⟨rfl, rfl⟩
  by_cases c : isRange p t.size s.size
  · obtain ⟨c1, _, c2⟩ := c
    obtain ⟨p, rfl⟩ := Int.eq_ofNat_of_zero_le c1
    go_wp2_with fail
    refine (move_ok _ _ _ p o t.size _ HA.out (by rw [HN.out]; omega) (by rw [HN.out]; exact h)).mono ?_; rintro e w4 ⟨rfl, hU⟩
    rw [HG.out] at hU
    have hfit : p + t.data.toList.length ≤ l.length := by rw [HN.out, HT.out]; omega
    replace HA := hid (HA.out.upd hU (putAt_length _ _ _ hfit))
    replace HB := on_upd HB hU HL.out; clear hU
    have hg := getAt_putAt l p t.data.toList hfit
    rw [HT.out] at hg
    have hn : (putAt l p t.data.toList).length = s.size := by rw [putAt_length _ _ _ hfit, HN.out]
    clear hfit
    generalize putAt l p t.data.toList = l2 at HA hg hn
    replace HG := hid hg; clear hg
    replace HN := hid hn; clear hn
    go_wp2_with fail
    refine (getText_str t HA.out (by rw [HN.out]; omega) HG.out).mono ?_; rintro e w5 ⟨rfl, rfl⟩
    go_wp2_with fail
    refine (live_any _).mono ?_; rintro e w6 ⟨rfl, hb⟩; replace HB := on_below HB hb; clear hb
    go_wp2_with fail
    go_ret
    exact ⟨rfl, HB.out⟩
  · have HC := hid c; clear c
    go_wp2_with fail
    refine (move_bad1 _ _ _ _ _ (cut_no _ _ _ _ _ _ HA.out (by rw [HN.out]; exact HC.out) HP.out (by omega))).mono ?_; rintro e w5 ⟨rfl, rfl⟩
    go_wp2_with fail
    refine (live_any _).mono ?_; rintro e w6 ⟨rfl, hb⟩; replace HB := on_below HB hb; clear hb
    go_wp2_with fail
    go_ret
    exact ⟨rfl, HB.out⟩

theorem FieldTexts_walk (v : Value) (h : ∃ (s t : ByteArray) (o p : Int), v = .agg #[.string s, .string t, .int .i64 o, .int .i64 p] ∧ s.size ≤ maxLen ∧ t.size ≤ maxLen ∧ (Lit.int .i64 o).wf = true ∧ (Lit.int .i64 p).wf = true) (w : World) :
    Calls Try.prog 6 #[v] w fun e w' => e = .returned (.bool true) ∧ Below w.heap.size w w' := by
  obtain ⟨s, t, o, p, rfl, ws, wt, wo, wp⟩ := h
  by_cases h1 : 1000 < s.size ∨ 1000 < t.size
  · exact Texts_great s t o p ws wt w h1
  · by_cases h2 : isRange o t.size s.size
    · obtain ⟨c1, _, c2⟩ := h2
      obtain ⟨o, rfl⟩ := Int.eq_ofNat_of_zero_le c1
      exact Texts_go s t o p w (by omega) (by omega) (wf_i64 wp) (by omega)
    · exact Texts_bad s t o p w (by omega) (by omega) (wf_i64 wo) h2

theorem FieldTexts_open0 {H : Type} {enc : TypeId × Value → H} {W : World} {base : Nat} {v : Value} {d : DataW H} {p : List MemPlace}
    (hv : Value.okWide Try.prog W .any base 53 v) (h : DataW.Trod enc Try.prog W 0 (fun _ => true) true 53 v d p) :
    ∃ (s t : ByteArray) (o p : Int), v = .agg #[.string s, .string t, .int .i64 o, .int .i64 p] ∧ s.size ≤ maxLen ∧ t.size ≤ maxLen ∧ (Lit.int .i64 o).wf = true ∧ (Lit.int .i64 p).wf = true := by
  obtain ⟨v0, v1, v2, v3, y0, y1, y2, y3, n, rfl, _, _, h0, h1, h2, h3⟩ := open_agg4 Try.underlying53 (by kernel_rfl) (by kernel_rfl) hv h
  obtain ⟨x, e0, _, wx⟩ := DataW.trod_string Try.underlying9 h0
  obtain ⟨y, e1, _, wy⟩ := DataW.trod_string Try.underlying9 h1
  obtain ⟨t, e2, _, wt⟩ := DataW.trod_int Try.underlying3 h2
  obtain ⟨z, e3, _, wz⟩ := DataW.trod_int Try.underlying3 h3
  simp at e0 e1 e2 e3
  subst e0 e1 e2 e3
  exact ⟨x, y, t, z, rfl, wx, wy, wt, wz⟩
end Go.Proofs.Ytkcfkcdmmllpjaa
