/- Each call of an area answers what the document's answer answers, and leaves the same bytes: for any arguments. -/
import Derived.Test.YtkcfkcdmmllpjaaRef
namespace Go.Proofs.Ytkcfkcdmmllpjaa
open Go.RowKit
open Go.Lib

theorem wide_nat {wd : Int} (h : wide wd) : ∃ k : Nat, wd = (k : Int) ∧ (k = 1 ∨ k = 2 ∨ k = 4) := by
  rcases h with rfl | rfl | rfl
  · exact ⟨1, rfl, .inl rfl⟩
  · exact ⟨2, rfl, .inr (.inl rfl)⟩
  · exact ⟨4, rfl, .inr (.inr rfl)⟩
theorem put_fits (wd n : Nat) (hw : wd = 1 ∨ wd = 2 ∨ wd = 4) (hn : n < 256 ^ wd) (o A B : Nat) (l : List UInt8) (w : World) (ha : Area 60 w A B l) (h : o + wd ≤ l.length) :
    Calls Try.prog 11 #[.pointer (some ⟨A, 0, none⟩), .int .i64 (o : Int), .int .i64 (wd : Int), .int .u32 (n : Int)] w fun e w' => e = .returned (.int .i64 0) ∧ Upd B (putAt l o (be wd n)) w w' := by
  rcases hw with rfl | rfl | rfl
  · exact put_1 A B l o n w ha h hn
  · exact put_2 A B l o n w ha h hn
  · exact put_4 A B l o n w ha h hn

/-- a call that turns nothing, as one that leaves the same bytes -/
theorem stays {f : Nat} {T : TypeId} {args : Array Value} {r : Value} {w : World} {A B : Nat} {l : List UInt8} (ha : Area T w A B l)
    (h : Calls Try.prog f args w fun e w' => e = .returned r ∧ w = w') : Calls Try.prog f args w fun e w' => e = .returned r ∧ Upd B l w w' :=
  h.mono fun _ _ ⟨he, hw⟩ => ⟨he, by rw [← hw]; exact Upd.refl ha.row⟩

theorem put_both (l : List UInt8) (o wd n : Int) (ho : isInt o) (hwd : isInt wd) (hn : 0 ≤ n) :
    ∃ (E : Int) (l' : List UInt8), l'.length = l.length ∧
      (∀ (A B : Nat) (w : World), Area 60 w A B l → Calls Try.prog 11 #[.pointer (some ⟨A, 0, none⟩), .int .i64 o, .int .i64 wd, .int .u32 n] w fun e w' => e = .returned (.int .i64 E) ∧ Upd B l' w w') ∧
      (∀ (A B : Nat) (w : World), Area 44 w A B l → Calls Try.prog 12 #[.pointer (some ⟨A, 0, none⟩), .int .i64 o, .int .i64 wd, .int .u32 n] w fun e w' => e = .returned (.int .i64 E) ∧ Upd B l' w w') := by
  obtain ⟨n, rfl⟩ := Int.eq_ofNat_of_zero_le hn
  by_cases h2 : wide wd
  · obtain ⟨k, rfl, hk⟩ := wide_nat h2
    by_cases h3 : isRange o k l.length
    · obtain ⟨c1, _, c2⟩ := h3
      obtain ⟨o, rfl⟩ := Int.eq_ofNat_of_zero_le c1
      by_cases h4 : n < 256 ^ k
      · exact ⟨0, _, putAt_length _ _ _ (by rw [be_length]; omega), fun A B w ha => put_fits k n hk h4 o A B l w ha (by omega), fun A B w ha => refPut_ok A B l o k n w ha hk (by omega) h4⟩
      · refine ⟨1, l, rfl, fun A B w ha => stays ha (put_great A B l o k n w ha hk (by omega) ?_), fun A B w ha => stays ha (refPut_great A B l o k n w ha hk (by omega) h4)⟩
        have h5 := Int.ofNat_le.2 (show 256 ^ k ≤ n by omega)
        rw [Int.natCast_pow] at h5
        exact h5
    · exact ⟨1, l, rfl, fun A B w ha => stays ha (put_bad _ _ _ _ _ (number_no A B l o k w ha h3 ho hwd)), fun A B w ha => stays ha (refPut_far A B l o k n w ha hk h3 ho)⟩
  · exact ⟨1, l, rfl, fun A B w ha => stays ha (put_bad _ _ _ _ _ (number_narrow _ o wd w h2)), fun A B w ha => stays ha (refPut_narrow _ o wd n w h2)⟩

theorem get_both (l : List UInt8) (o wd : Int) (ho : isInt o) (hwd : isInt wd) :
    ∃ (x E : Int),
      (∀ (A B : Nat) (w : World), Area 60 w A B l → Calls Try.prog 13 #[.pointer (some ⟨A, 0, none⟩), .int .i64 o, .int .i64 wd] w fun e w' => e = .returned (.tuple #[.int .u32 x, .int .i64 E]) ∧ w = w') ∧
      (∀ (A B : Nat) (w : World), Area 44 w A B l → Calls Try.prog 14 #[.pointer (some ⟨A, 0, none⟩), .int .i64 o, .int .i64 wd] w fun e w' => e = .returned (.tuple #[.int .u32 x, .int .i64 E]) ∧ w = w') := by
  by_cases h2 : wide wd
  · obtain ⟨k, rfl, hk⟩ := wide_nat h2
    by_cases h3 : isRange o k l.length
    · obtain ⟨c1, _, c2⟩ := h3
      obtain ⟨o, rfl⟩ := Int.eq_ofNat_of_zero_le c1
      exact ⟨_, 0, fun A B w ha => get_ok A B l o k w ha hk (by omega), fun A B w ha => refGet_ok A B l o k w ha hk (by omega)⟩
    · exact ⟨0, 1, fun A B w ha => get_bad _ _ _ _ (number_no A B l o k w ha h3 ho hwd), fun A B w ha => refGet_far A B l o k w ha hk h3 ho⟩
  · exact ⟨0, 1, fun A B w ha => get_bad _ _ _ _ (number_narrow _ o wd w h2), fun A B w ha => refGet_narrow _ o wd w h2⟩

theorem putText_both (l : List UInt8) (o : Int) (s : ByteArray) (ho : isInt o) (hs : s.size ≤ 300) :
    ∃ (E : Int) (l' : List UInt8), l'.length = l.length ∧
      (∀ (A B : Nat) (w : World), Area 60 w A B l → Calls Try.prog 15 #[.pointer (some ⟨A, 0, none⟩), .int .i64 o, .string s] w fun e w' => e = .returned (.int .i64 E) ∧ Upd B l' w w') ∧
      (∀ (A B : Nat) (w : World), Area 44 w A B l → Calls Try.prog 16 #[.pointer (some ⟨A, 0, none⟩), .int .i64 o, .string s] w fun e w' => e = .returned (.int .i64 E) ∧ Upd B l' w w') := by
  have hi : isInt (s.size : Int) := by unfold isInt; omega
  by_cases h3 : isRange o s.size l.length
  · obtain ⟨c1, _, c2⟩ := h3
    obtain ⟨o, rfl⟩ := Int.eq_ofNat_of_zero_le c1
    exact ⟨0, _, putAt_length _ _ _ (by rw [size_list]; omega), fun A B w ha => putText_ok A B l o s w ha (by omega), fun A B w ha => refPutText_ok A B l o s w ha (by omega)⟩
  · exact ⟨1, l, rfl, fun A B w ha => stays ha (putText_bad _ _ _ _ (cut_no A B l o _ w ha h3 ho hi)), fun A B w ha => stays ha (refPutText_no _ _ _ _ (is_no A B l o _ w ha h3 ho hi))⟩

theorem getText_both (l : List UInt8) (o n : Int) (ho : isInt o) (hn : isInt n) :
    ∃ (t : ByteArray) (E : Int),
      (∀ (A B : Nat) (w : World), Area 60 w A B l → Calls Try.prog 17 #[.pointer (some ⟨A, 0, none⟩), .int .i64 o, .int .i64 n] w fun e w' => e = .returned (.tuple #[.string t, .int .i64 E]) ∧ w = w') ∧
      (∀ (A B : Nat) (w : World), Area 44 w A B l → Calls Try.prog 18 #[.pointer (some ⟨A, 0, none⟩), .int .i64 o, .int .i64 n] w fun e w' => e = .returned (.tuple #[.string t, .int .i64 E]) ∧ w = w') := by
  by_cases h3 : isRange o n l.length
  · obtain ⟨c1, c3, c2⟩ := h3
    obtain ⟨o, rfl⟩ := Int.eq_ofNat_of_zero_le c1
    obtain ⟨n, rfl⟩ := Int.eq_ofNat_of_zero_le c3
    exact ⟨_, 0, fun A B w ha => getText_ok A B l o n w ha (by omega), fun A B w ha => refGetText_ok A B l o n w ha (by omega)⟩
  · exact ⟨_, 1, fun A B w ha => getText_bad _ _ _ _ (cut_no A B l o n w ha h3 ho hn), fun A B w ha => refGetText_no _ _ _ _ (is_no A B l o n w ha h3 ho hn)⟩

theorem move_both (l : List UInt8) (o f n : Int) (ho : isInt o) (hf : isInt f) (hn : isInt n) :
    ∃ (E : Int) (l' : List UInt8), l'.length = l.length ∧
      (∀ (A B : Nat) (w : World), Area 60 w A B l → Calls Try.prog 19 #[.pointer (some ⟨A, 0, none⟩), .int .i64 o, .int .i64 f, .int .i64 n] w fun e w' => e = .returned (.int .i64 E) ∧ Upd B l' w w') ∧
      (∀ (A B : Nat) (w : World), Area 44 w A B l → Calls Try.prog 20 #[.pointer (some ⟨A, 0, none⟩), .int .i64 o, .int .i64 f, .int .i64 n] w fun e w' => e = .returned (.int .i64 E) ∧ Upd B l' w w') := by
  by_cases h3 : isRange o n l.length
  · obtain ⟨c1, c3, c2⟩ := h3
    obtain ⟨o, rfl⟩ := Int.eq_ofNat_of_zero_le c1
    obtain ⟨n, rfl⟩ := Int.eq_ofNat_of_zero_le c3
    by_cases h4 : isRange f n l.length
    · obtain ⟨d1, _, d2⟩ := h4
      obtain ⟨f, rfl⟩ := Int.eq_ofNat_of_zero_le d1
      exact ⟨0, _, putAt_length _ _ _ (by rw [getAt_length _ _ _ (by omega)]; omega), fun A B w ha => move_ok A B l o f n w ha (by omega) (by omega), fun A B w ha => refMove_ok A B l o f n w ha (by omega) (by omega)⟩
    · exact ⟨1, l, rfl, fun A B w ha => stays ha (move_bad2 _ _ _ _ _ _ (cut_ok A B l o n w ha (by omega)) (cut_no A B l f n w ha h4 hf hn)),
        fun A B w ha => stays ha (refMove_no2 _ _ _ _ _ (is_yes A B l o n w ha (by omega)) (is_no A B l f n w ha h4 hf hn))⟩
  · exact ⟨1, l, rfl, fun A B w ha => stays ha (move_bad1 _ _ _ _ _ (cut_no A B l o n w ha h3 ho hn)), fun A B w ha => stays ha (refMove_no1 _ _ _ _ _ (is_no A B l o n w ha h3 ho hn))⟩
end Go.Proofs.Ytkcfkcdmmllpjaa
