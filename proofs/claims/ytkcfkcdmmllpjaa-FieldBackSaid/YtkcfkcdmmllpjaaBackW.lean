/- The walk of FieldBack. -/
import Derived.Test.YtkcfkcdmmllpjaaTextsW
import Derived.StillTailTactics
namespace Go.Proofs.Ytkcfkcdmmllpjaa
open Go.RowKit
open Go.Lib
open Go.ChangeShapes Go.WideShapes Go.Joins

theorem bytes_as {A B : Nat} {l : List UInt8} {w : World} (t : ByteArray) (ha : Area 60 w A B l) (h : t.data.toList = l) :
    Calls Try.prog 21 #[.pointer (some ⟨A, 0, none⟩)] w fun e w' => e = .returned (.string t) ∧ w = w' := by
  subst h; exact bytes_str t ha

theorem bytes_ext {a b : ByteArray} (h : a.data.toList = b.data.toList) : a = b := by
  rw [← str_eta a, h, str_eta]
theorem extract_list (s : ByteArray) (i j : Nat) : (s.extract i j).data.toList = (s.data.toList.take j).drop i := by
  rw [ByteArray.data_extract]; simp [Array.toList_extract, List.extract_eq_take_drop, List.drop_take]
theorem put_front (s t : ByteArray) (o : Nat) (b : List UInt8) (h : t.data.toList = putAt s.data.toList o b) (hf : o + b.length ≤ s.data.toList.length) : t.extract 0 o = s.extract 0 o := by
  apply bytes_ext
  rw [extract_list, extract_list, h, List.drop_zero, List.drop_zero]
  apply List.ext_getElem?
  intro i
  by_cases hi : i < o
  · rw [List.getElem?_take_of_lt hi, List.getElem?_take_of_lt hi, putAt_at _ _ _ hf, if_neg (by omega)]
  · rw [List.getElem?_take_eq_none (by omega), List.getElem?_take_eq_none (by omega)]
theorem put_tail (s t : ByteArray) (o : Nat) (b : List UInt8) (h : t.data.toList = putAt s.data.toList o b) (hf : o + b.length ≤ s.data.toList.length) :
    t.extract (o + b.length) t.size = s.extract (o + b.length) s.size := by
  apply bytes_ext
  have hl : t.size = s.size := by rw [← size_list, ← size_list, h, putAt_length _ _ _ hf]
  rw [extract_list, extract_list, List.take_of_length_le (by rw [size_list]; exact Nat.le_refl _), List.take_of_length_le (by rw [size_list]; exact Nat.le_refl _), h]
  apply List.ext_getElem?
  intro i
  rw [List.getElem?_drop, List.getElem?_drop, putAt_at _ _ _ hf, if_neg (by omega)]

set_option maxRecDepth 100000 in
set_option maxHeartbeats 1000000 in
theorem Back_go (s : ByteArray) (o wd n : Nat) (w : World) (h1 : s.size ≤ 4096) (hw : wd = 1 ∨ wd = 2 ∨ wd = 4) (h : o + wd ≤ s.size) (hn : n < 256 ^ wd)
    (hput : ∀ (A B : Nat) (l : List UInt8) (w : World), Area 60 w A B l → o + wd ≤ l.length →
      Calls Try.prog 11 #[.pointer (some ⟨A, 0, none⟩), .int .i64 (o : Int), .int .i64 (wd : Int), .int .u32 (n : Int)] w fun e w' => e = .returned (.int .i64 0) ∧ Upd B (putAt l o (be wd n)) w w') :
    Calls Try.prog 5 #[.agg #[.string s, .int .i64 (o : Int), .int .i64 (wd : Int), .int .u32 (n : Int)]] w fun e w' => e = .returned (.bool true) ∧ Below w.heap.size w w' := by
  have HW := hid hw; clear hw
  have HN := hid hn; clear hn
  have HP := hid hput; clear hput
  have HS := hid (size_list s)
  have hwd : wd ≤ 4 := by have := HW.out; omega
  go_enter Try.func5, Try.ntmps5
  go_wp2_with fail
  go_quiet (fail)
  have HB : Hid (Below w.heap.size w ((w.alloc (.cells #[.string s, .int .i64 (o : Int), .int .i64 (wd : Int), .int .u32 (n : Int)] 50)).drewN nq)) := hid (below_drewN ((Below.refl _ _).alloc (Nat.le_refl _) _) nq)
  generalize ((w.alloc (.cells #[.string s, .int .i64 (o : Int), .int .i64 (wd : Int), .int .u32 (n : Int)] 50)).drewN nq) = wq at HB ⊢
  have HL := hid (show w.heap.size ≤ wq.heap.size from HB.out.size)
  go_wp2_with fail
  refine (of_ok s _ (by omega)).mono ?_; rintro e w1 ⟨rfl, hA, hb⟩; replace HB := on_below HB hb; clear hb; have HA := hid hA; clear hA
  go_wp2_with fail
  refine (HP.out _ _ _ _ HA.out (by rw [HS.out]; exact h)).mono ?_; rintro e w2 ⟨rfl, hU⟩
  have hfit : o + (be wd n).length ≤ s.data.toList.length := by rw [HS.out, be_length]; exact h
  replace HA := hid (HA.out.upd hU (putAt_length _ _ _ hfit))
  replace HB := on_upd HB hU HL.out; clear hU
  have hg := getAt_putAt s.data.toList o (be wd n) hfit
  rw [be_length] at hg
  have hg' : num (getAt (putAt s.data.toList o (be wd n)) o wd) = n := by rw [hg, num_be wd n HN.out]
  obtain ⟨t, ht⟩ : ∃ t : ByteArray, t.data.toList = putAt s.data.toList o (be wd n) := ⟨⟨(putAt s.data.toList o (be wd n)).toArray⟩, rfl⟩
  have hlen : t.size = s.size := by rw [← size_list, ht, putAt_length _ _ _ hfit, HS.out]
  have HT := hid ht; clear ht
  have HG := hid hg'; clear hg' hg
  have HLEN := hid hlen; clear hlen
  have HFIT := hid hfit; clear hfit
  go_wp2_with fail
  refine (get_lit HA.out HW.out (by rw [putAt_length _ _ _ HFIT.out, HS.out]; exact h) HG.out).mono ?_; rintro e w3 ⟨rfl, rfl⟩
  go_wp2_with fail
  refine (bytes_as t HA.out HT.out).mono ?_; rintro e w3 ⟨rfl, rfl⟩
  have hne : ((t.size : Int) != (s.size : Int)) = false := by rw [HLEN.out, bne_self_eq_false]
  have hts : t.size ≤ 4096 := by rw [HLEN.out]; exact h1
  go_wp2_with fail
  have hot : o + wd ≤ t.size := by rw [HLEN.out]; exact h
  have q1 : o ≤ t.size := by omega
  have q2 : o ≤ s.size := by omega
  have q3 : (0 : Int) ≤ (o : Int) + (wd : Int) := by omega
  have q4 : (o : Int) + (wd : Int) ≤ (t.size : Int) := by omega
  have q5 : (o : Int) + (wd : Int) ≤ (s.size : Int) := by omega
  have q6 : IntKind.i64.wrap ((o : Int) + (wd : Int)) = (o : Int) + (wd : Int) := IntWalk.i64_in _ (by omega)
  have q7 : ((o : Int) + (wd : Int)).toNat = o + wd := by omega
  have e0 : t.extract 0 o = s.extract 0 o := put_front s t o _ HT.out HFIT.out
  have e1 : t.extract (o + wd) t.size = s.extract (o + wd) s.size := by
    have := put_tail s t o _ HT.out HFIT.out
    rwa [be_length] at this
  go_still_tail 21, (by kernel_rfl)
  change wpList _ _ _ _ _ w2.drew
  have HC : Hid (Below w.heap.size w w2.drew) := hid HB.out.drew
  generalize w2.drew = w5 at HC ⊢
  clear e0 e1 q1 q2 q3 q4 q5 q6 q7
  go_wp2_with fail
  refine (live_any _).mono ?_; rintro e w6 ⟨rfl, hb⟩; replace HC := on_below HC hb; clear hb
  go_wp2_with fail
  go_ret
  exact ⟨rfl, HC.out⟩

set_option maxRecDepth 100000 in
set_option maxHeartbeats 1000000 in
theorem Back_great (s : ByteArray) (o wd n : Int) (ws : s.size ≤ maxLen) (w : World) (h : 4096 < s.size) :
    Calls Try.prog 5 #[.agg #[.string s, .int .i64 o, .int .i64 wd, .int .u32 n]] w fun e w' => e = .returned (.bool true) ∧ Below w.heap.size w w' := by
  unfold maxLen at ws
  go_enter Try.func5, Try.ntmps5
  go_wp2_with fail
  go_quiet (fail)
  have HB : Hid (Below w.heap.size w ((w.alloc (.cells #[.string s, .int .i64 o, .int .i64 wd, .int .u32 n] 50)).drewN nq)) := hid (below_drewN ((Below.refl _ _).alloc (Nat.le_refl _) _) nq)
  generalize ((w.alloc (.cells #[.string s, .int .i64 o, .int .i64 wd, .int .u32 n] 50)).drewN nq) = wq at HB ⊢
  go_wp2_with (go_at_call 10; refine (live_any _).mono ?_; rintro e w4 ⟨rfl, hb⟩; replace HB := on_below HB hb; clear hb)
  go_ret
  exact ⟨rfl, HB.out⟩

set_option maxRecDepth 100000 in
set_option maxHeartbeats 1000000 in
theorem Back_bad (s : ByteArray) (o wd n : Int) (w : World) (h : s.size ≤ 4096)
    (hput : ∀ (A B : Nat) (w : World), Area 60 w A B s.data.toList →
      Calls Try.prog 11 #[.pointer (some ⟨A, 0, none⟩), .int .i64 o, .int .i64 wd, .int .u32 n] w fun e w' => e = .returned (.int .i64 1) ∧ w = w') :
    Calls Try.prog 5 #[.agg #[.string s, .int .i64 o, .int .i64 wd, .int .u32 n]] w fun e w' => e = .returned (.bool true) ∧ Below w.heap.size w w' := by
  have HP := hid hput; clear hput
  go_enter Try.func5, Try.ntmps5
  go_wp2_with fail
  go_quiet (fail)
  have HB : Hid (Below w.heap.size w ((w.alloc (.cells #[.string s, .int .i64 o, .int .i64 wd, .int .u32 n] 50)).drewN nq)) := hid (below_drewN ((Below.refl _ _).alloc (Nat.le_refl _) _) nq)
  generalize ((w.alloc (.cells #[.string s, .int .i64 o, .int .i64 wd, .int .u32 n] 50)).drewN nq) = wq at HB ⊢
  go_wp2_with fail
  refine (of_ok s _ h).mono ?_; rintro e w1 ⟨rfl, hA, hb⟩; replace HB := on_below HB hb; clear hb; have HA := hid hA; clear hA
  go_wp2_with fail
  refine (HP.out _ _ _ HA.out).mono ?_; rintro e w2 ⟨rfl, rfl⟩
  go_wp2_with fail
  refine (bytes_str s HA.out).mono ?_; rintro e w2 ⟨rfl, rfl⟩
  go_wp2_with fail
  refine (live_any _).mono ?_; rintro e w4 ⟨rfl, hb⟩; replace HB := on_below HB hb; clear hb
  go_wp2_with fail
  go_ret
  exact ⟨rfl, HB.out⟩

theorem put_fits (wd n : Nat) (hw : wd = 1 ∨ wd = 2 ∨ wd = 4) (hn : n < 256 ^ wd) (o A B : Nat) (l : List UInt8) (w : World) (ha : Area 60 w A B l) (h : o + wd ≤ l.length) :
    Calls Try.prog 11 #[.pointer (some ⟨A, 0, none⟩), .int .i64 (o : Int), .int .i64 (wd : Int), .int .u32 (n : Int)] w fun e w' => e = .returned (.int .i64 0) ∧ Upd B (putAt l o (be wd n)) w w' := by
  rcases hw with rfl | rfl | rfl
  · exact put_1 A B l o n w ha h hn
  · exact put_2 A B l o n w ha h hn
  · exact put_4 A B l o n w ha h hn

theorem wide_nat {wd : Int} (h : wide wd) : ∃ k : Nat, wd = (k : Int) ∧ (k = 1 ∨ k = 2 ∨ k = 4) := by
  rcases h with rfl | rfl | rfl
  · exact ⟨1, rfl, .inl rfl⟩
  · exact ⟨2, rfl, .inr (.inl rfl)⟩
  · exact ⟨4, rfl, .inr (.inr rfl)⟩

theorem FieldBack_walk (v : Value) (h : ∃ (s : ByteArray) (o wd n : Int), v = .agg #[.string s, .int .i64 o, .int .i64 wd, .int .u32 n] ∧ s.size ≤ maxLen ∧ (Lit.int .i64 o).wf = true ∧ (Lit.int .i64 wd).wf = true ∧ (Lit.int .u32 n).wf = true) (w : World) :
    Calls Try.prog 5 #[v] w fun e w' => e = .returned (.bool true) ∧ Below w.heap.size w w' := by
  obtain ⟨s, o, wd, n, rfl, ws, wo, wwd, wn⟩ := h
  by_cases h1 : 4096 < s.size
  · exact Back_great s o wd n ws w h1
  · by_cases h2 : wide wd
    · obtain ⟨k, rfl, hk⟩ := wide_nat h2
      by_cases h3 : isRange o k s.size
      · obtain ⟨c1, _, c2⟩ := h3
        obtain ⟨o, rfl⟩ := Int.eq_ofNat_of_zero_le c1
        obtain ⟨n, rfl⟩ := Int.eq_ofNat_of_zero_le (wf_u32 wn).1
        by_cases h4 : n < 256 ^ k
        · exact Back_go s o k n w (by omega) hk (by omega) h4 (fun A B l w => put_fits k n hk h4 o A B l w)
        · refine Back_bad s o k n w (by omega) (fun A B w ha => put_great A B _ o k n w ha hk (by rw [size_list]; omega) ?_)
          have : 256 ^ k ≤ n := by omega
          have h5 := Int.ofNat_le.2 this
          rw [Int.natCast_pow] at h5
          exact h5
      · exact Back_bad s o k n w (by omega) (fun A B w ha => put_bad _ _ _ _ _ (number_no A B _ o k w ha (by rw [size_list]; exact h3) (wf_i64 wo) (by omega)))
    · exact Back_bad s o wd n w (by omega) (fun A B w ha => put_bad _ _ _ _ _ (number_narrow _ o wd w h2))

theorem FieldBack_open0 {H : Type} {enc : TypeId × Value → H} {W : World} {base : Nat} {v : Value} {d : DataW H} {p : List MemPlace}
    (hv : Value.okWide Try.prog W .any base 50 v) (h : DataW.Trod enc Try.prog W 0 (fun _ => true) true 50 v d p) :
    ∃ (s : ByteArray) (o wd n : Int), v = .agg #[.string s, .int .i64 o, .int .i64 wd, .int .u32 n] ∧ s.size ≤ maxLen ∧ (Lit.int .i64 o).wf = true ∧ (Lit.int .i64 wd).wf = true ∧ (Lit.int .u32 n).wf = true := by
  obtain ⟨v0, v1, v2, v3, y0, y1, y2, y3, n, rfl, _, _, h0, h1, h2, h3⟩ := open_agg4 Try.underlying50 (by kernel_rfl) (by kernel_rfl) hv h
  obtain ⟨x, e0, _, wx⟩ := DataW.trod_string Try.underlying9 h0
  obtain ⟨y, e1, _, wy⟩ := DataW.trod_int Try.underlying3 h1
  obtain ⟨t, e2, _, wt⟩ := DataW.trod_int Try.underlying3 h2
  obtain ⟨z, e3, _, wz⟩ := DataW.trod_int Try.underlying30 h3
  simp at e0 e1 e2 e3
  subst e0 e1 e2 e3
  exact ⟨x, y, t, z, rfl, wx, wy, wt, wz⟩
end Go.Proofs.Ytkcfkcdmmllpjaa
