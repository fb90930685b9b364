/- The walk of PageBack. -/
import Derived.Test.YtfedkhomplffoaaApartW
namespace Go.Proofs.Ytfedkhomplffoaa
open Go.RowKit
open Go.Lib (hid)
open Go.Proofs.Ytfedkhomplffoaa.Fd (on_below wf_i64 num getAt)
open Go.Proofs.Ytfedkhomplffoaa.Pg

/-- how what is opened may be -/
def Opens (s : ByteArray) : Prop :=
  (∃ e : Nat, (e : Int) ≠ 0 ∧ openL s.data.toList = (0, 0, [], e)) ∨ (s.data.toList = blankL ∧ openL s.data.toList = (0, 0, [], 0)) ∨
  (∃ k n : Nat, ∃ b, 1 ≤ k ∧ sealX k n b = s.data.toList ∧ sealE k n b = 0 ∧ openL s.data.toList = (k, n, b, 0))
theorem opens_any (s : ByteArray) : Opens s := by
  unfold Opens
  by_cases h : (openL s.data.toList).2.2.2 = 0
  · obtain ⟨h1, h2⟩ := open_back _ h
    rcases h2 with ⟨h3, h4⟩ | ⟨k, n, b, h3, h4, h5⟩
    · exact .inr (.inl ⟨h3, h4⟩)
    · refine .inr (.inr ⟨k, n, b, by have := h3.1; omega, ?_, ?_, h5⟩)
      · unfold sealX; rw [if_pos h3]; exact h4
      · unfold sealE; rw [if_pos h3]
  · exact .inl ⟨(openL s.data.toList).2.2.2, by omega, open_zero _ h⟩

/-- what Seal gives, and what Open gives of that -/
def Seals (k n : Int) (b : ByteArray) : Prop :=
  errZ k n b.data.toList = 1 ∨ (errZ k n b.data.toList = 0 ∧ ∃ r, sealZ k n b.data.toList = r ∧ r.length = 256 ∧ openL r = (k.toNat, n.toNat, b.data.toList, 0) ∧ ((k.toNat : Nat) : Int) = k ∧ ((n.toNat : Nat) : Int) = n)
theorem seals_any (k n : Int) (b : ByteArray) : Seals k n b := by
  unfold Seals errZ sealZ
  by_cases h : mayP k n b.data.toList.length
  · rw [if_pos h, if_pos h]
    have a1 := h.1; have a3 := h.2.2.1
    have hk : ((k.toNat : Nat) : Int) = k := by omega
    have hn : ((n.toNat : Nat) : Int) = n := by omega
    exact .inr ⟨rfl, _, rfl, sealL_length _ _ _ h.2.2.2.2, open_seal _ _ _ (by rw [hk, hn]; exact h), hk, hn⟩
  · rw [if_neg h]; exact .inl rfl

set_option maxHeartbeats 1600000 in
theorem PageBack_any (k n : Int) (b : ByteArray) (s : ByteArray) (w0 : b.size ≤ maxLen) (w1 : s.size ≤ maxLen) (w : World) :
    Calls Try.prog 5 #[.agg #[.int .i64 k, .int .i64 n, .string b], .string s] w fun e w' => e = .returned (.bool true) ∧ Below w.heap.size w w' := by
  unfold maxLen at w0 w1
  have hB : Below w.heap.size w (w.alloc (.cells #[.int .i64 k, .int .i64 n, .string b] 23)) := (Below.refl _ _).alloc (Nat.le_refl _) _
  have hP := Box.made w k n b
  have HB := hid hB; have HP := hid hP; clear hB hP
  by_cases h3 : 300 < b.size ∨ 300 < s.size
  · by_cases h4 : 300 < b.size
    · have e4 : decide ((300 : Int) < (b.size : Int)) = true := by simp; omega
      clear h3
      go_enter Try.func5, Try.ntmps5
      go_wp2_with (go_at_call 9; refine (live_any _).mono ?_; rintro e w' ⟨rfl, hb⟩; replace HB := on_below HB hb; clear hb)
      go_ret; exact ⟨rfl, HB.out⟩
    · have h5 : 300 < s.size := by omega
      have e4 : decide ((300 : Int) < (b.size : Int)) = false := by simp; omega
      have e5 : decide ((300 : Int) < (s.size : Int)) = true := by simp; omega
      clear h3
      go_enter Try.func5, Try.ntmps5
      go_wp2_with (go_at_call 9; refine (live_any _).mono ?_; rintro e w' ⟨rfl, hb⟩; replace HB := on_below HB hb; clear hb)
      go_ret; exact ⟨rfl, HB.out⟩
  · have e4 : decide ((300 : Int) < (b.size : Int)) = false := by simp; omega
    have e5 : decide ((300 : Int) < (s.size : Int)) = false := by simp; omega
    clear h3
    have heq := eq23
    have hne := ne23
    have HO := hid (opens_any s)
    have hz : pageB 0 0 0 0 ⟨#[]⟩ ⟨#[]⟩ = true := page_yes rfl rfl rfl
    rcases seals_any k n b with hE | ⟨hE, r, hr, hlen, hop, hk, hn⟩
    · have HE := hid hE; clear hE
      have HR : Hid (sealZ k n b.data.toList = sealZ k n b.data.toList) := hid rfl
      generalize hrr : sealZ k n b.data.toList = r at HR
      have HRR := hid hrr; clear hrr
      obtain HO := HO.out
      unfold Opens at HO
      rcases HO with ⟨e, he, ho⟩ | ⟨hb, ho⟩ | ⟨k2, n2, b2, hk2, hs2, hE2, ho⟩
      · have he0 : ((e : Int) != 0) = true := by simp; omega
        have he1 : ((e : Int) == 0) = false := by simp; omega
        have HOO := hid ho; clear ho he
        go_enter Try.func5, Try.ntmps5
        go_wp2_with (first
          | (go_at_call 9; refine (live_any _).mono ?_; rintro e w' ⟨rfl, hb⟩; (first | (replace HB := on_below HB hb; (try replace HP := hid (HP.out.below hb)); (try replace HQ := hid (HQ.out.below hb))) | (replace HB := on_alloc HB hb; replace HP := hid (HP.out.next hb); have HQ := hid ((Box.made _ _ _ _).below hb))); clear hb; have p0 := HP.out.c0; have p1 := HP.out.c1; have p2 := HP.out.c2; have p3 := HP.out.lt; (try (have q0 := HQ.out.c0; have q1 := HQ.out.c1; have q2 := HQ.out.c2)))
          | (go_at_call 10; (with_reducible refine (seal_zat (k := k) (n := n) (b := b) _ HRR.out HE.out).mono ?_); rintro e w' ⟨rfl, hb⟩; (first | (replace HB := on_below HB hb; (try replace HP := hid (HP.out.below hb)); (try replace HQ := hid (HQ.out.below hb))) | (replace HB := on_alloc HB hb; replace HP := hid (HP.out.next hb); have HQ := hid ((Box.made _ _ _ _).below hb))); clear hb; have p0 := HP.out.c0; have p1 := HP.out.c1; have p2 := HP.out.c2; have p3 := HP.out.lt; (try (have q0 := HQ.out.c0; have q1 := HQ.out.c1; have q2 := HQ.out.c2)))
          | (go_at_call 16; (with_reducible refine (open_l (s := s) (b := []) (z := (e : Int)) _ rfl HOO.out rfl rfl rfl).mono ?_); rintro e w' ⟨rfl, hb⟩; (first | (replace HB := on_below HB hb; (try replace HP := hid (HP.out.below hb)); (try replace HQ := hid (HQ.out.below hb))) | (replace HB := on_alloc HB hb; replace HP := hid (HP.out.next hb); have HQ := hid ((Box.made _ _ _ _).below hb))); clear hb; have p0 := HP.out.c0; have p1 := HP.out.c1; have p2 := HP.out.c2; have p3 := HP.out.lt; (try (have q0 := HQ.out.c0; have q1 := HQ.out.c1; have q2 := HQ.out.c2))))
        go_ret; exact ⟨rfl, HB.out⟩
      · have hbl := str_yes s blankL hb
        have HOO := hid ho; clear ho hb
        go_enter Try.func5, Try.ntmps5
        go_wp2_with (first
          | (go_at_call 9; refine (live_any _).mono ?_; rintro e w' ⟨rfl, hb⟩; (first | (replace HB := on_below HB hb; (try replace HP := hid (HP.out.below hb)); (try replace HQ := hid (HQ.out.below hb))) | (replace HB := on_alloc HB hb; replace HP := hid (HP.out.next hb); have HQ := hid ((Box.made _ _ _ _).below hb))); clear hb; have p0 := HP.out.c0; have p1 := HP.out.c1; have p2 := HP.out.c2; have p3 := HP.out.lt; (try (have q0 := HQ.out.c0; have q1 := HQ.out.c1; have q2 := HQ.out.c2)))
          | (go_at_call 14; refine (blank_any _).mono ?_; rintro e w' ⟨rfl, hb⟩; (first | (replace HB := on_below HB hb; (try replace HP := hid (HP.out.below hb)); (try replace HQ := hid (HQ.out.below hb))) | (replace HB := on_alloc HB hb; replace HP := hid (HP.out.next hb); have HQ := hid ((Box.made _ _ _ _).below hb))); clear hb; have p0 := HP.out.c0; have p1 := HP.out.c1; have p2 := HP.out.c2; have p3 := HP.out.lt; (try (have q0 := HQ.out.c0; have q1 := HQ.out.c1; have q2 := HQ.out.c2)))
          | (go_at_call 10; (with_reducible refine (seal_zat (k := k) (n := n) (b := b) _ HRR.out HE.out).mono ?_); rintro e w' ⟨rfl, hb⟩; (first | (replace HB := on_below HB hb; (try replace HP := hid (HP.out.below hb)); (try replace HQ := hid (HQ.out.below hb))) | (replace HB := on_alloc HB hb; replace HP := hid (HP.out.next hb); have HQ := hid ((Box.made _ _ _ _).below hb))); clear hb; have p0 := HP.out.c0; have p1 := HP.out.c1; have p2 := HP.out.c2; have p3 := HP.out.lt; (try (have q0 := HQ.out.c0; have q1 := HQ.out.c1; have q2 := HQ.out.c2)))
          | (go_at_call 16; (with_reducible refine (open_l (s := s) (b := []) (x := 0) (y := 0) (z := 0) _ rfl HOO.out rfl rfl rfl).mono ?_); rintro e w' ⟨rfl, hb⟩; (first | (replace HB := on_below HB hb; (try replace HP := hid (HP.out.below hb)); (try replace HQ := hid (HQ.out.below hb))) | (replace HB := on_alloc HB hb; replace HP := hid (HP.out.next hb); have HQ := hid ((Box.made _ _ _ _).below hb))); clear hb; have p0 := HP.out.c0; have p1 := HP.out.c1; have p2 := HP.out.c2; have p3 := HP.out.lt; (try (have q0 := HQ.out.c0; have q1 := HQ.out.c1; have q2 := HQ.out.c2))))
        go_ret; exact ⟨rfl, HB.out⟩
      · have hk0 : ((k2 : Int) == 0) = false := by simp; omega
        obtain ⟨r2, hr2⟩ : ∃ r2, sealX k2 n2 b2 = r2 := ⟨_, rfl⟩
        have hrs : (r2 == s.toList) = true := by rw [ByteArray.toList_eq, ← hr2]; simpa using hs2
        have HOO := hid ho; have HR2 := hid hr2; have HE2 := hid hE2; clear ho hk2 hs2 hr2 hE2
        go_enter Try.func5, Try.ntmps5
        go_wp2_with (first
          | (go_at_call 9; refine (live_any _).mono ?_; rintro e w' ⟨rfl, hb⟩; (first | (replace HB := on_below HB hb; (try replace HP := hid (HP.out.below hb)); (try replace HQ := hid (HQ.out.below hb))) | (replace HB := on_alloc HB hb; replace HP := hid (HP.out.next hb); have HQ := hid ((Box.made _ _ _ _).below hb))); clear hb; have p0 := HP.out.c0; have p1 := HP.out.c1; have p2 := HP.out.c2; have p3 := HP.out.lt; (try (have q0 := HQ.out.c0; have q1 := HQ.out.c1; have q2 := HQ.out.c2)))
          | (go_at_call 10; (with_reducible refine (seal_zat (k := k) (n := n) (b := b) _ HRR.out HE.out).mono ?_); rintro e w' ⟨rfl, hb⟩; (first | (replace HB := on_below HB hb; (try replace HP := hid (HP.out.below hb)); (try replace HQ := hid (HQ.out.below hb))) | (replace HB := on_alloc HB hb; replace HP := hid (HP.out.next hb); have HQ := hid ((Box.made _ _ _ _).below hb))); clear hb; have p0 := HP.out.c0; have p1 := HP.out.c1; have p2 := HP.out.c2; have p3 := HP.out.lt; (try (have q0 := HQ.out.c0; have q1 := HQ.out.c1; have q2 := HQ.out.c2)))
          | (go_at_call 10; (with_reducible refine (seal_at (k := k2) (n := n2) (b := b2) _ HR2.out HE2.out).mono ?_); rintro e w' ⟨rfl, hb⟩; (first | (replace HB := on_below HB hb; (try replace HP := hid (HP.out.below hb)); (try replace HQ := hid (HQ.out.below hb))) | (replace HB := on_alloc HB hb; replace HP := hid (HP.out.next hb); have HQ := hid ((Box.made _ _ _ _).below hb))); clear hb; have p0 := HP.out.c0; have p1 := HP.out.c1; have p2 := HP.out.c2; have p3 := HP.out.lt; (try (have q0 := HQ.out.c0; have q1 := HQ.out.c1; have q2 := HQ.out.c2)))
          | (go_at_call 16; (with_reducible refine (open_l (s := s) (b := b2) (x := (k2 : Int)) (y := (n2 : Int)) (z := 0) _ rfl HOO.out rfl rfl rfl).mono ?_); rintro e w' ⟨rfl, hb⟩; (first | (replace HB := on_below HB hb; (try replace HP := hid (HP.out.below hb)); (try replace HQ := hid (HQ.out.below hb))) | (replace HB := on_alloc HB hb; replace HP := hid (HP.out.next hb); have HQ := hid ((Box.made _ _ _ _).below hb))); clear hb; have p0 := HP.out.c0; have p1 := HP.out.c1; have p2 := HP.out.c2; have p3 := HP.out.lt; (try (have q0 := HQ.out.c0; have q1 := HQ.out.c1; have q2 := HQ.out.c2))))
        go_ret; exact ⟨rfl, HB.out⟩
    · have HE := hid hE; have HR := hid hr; have HOP := hid hop; have HK := hid hk; have HN := hid hn; clear hE hr hop hk hn
      have hlen' : r.toArray.size = 256 := by rw [List.size_toArray]; exact hlen
      have hp : pageB k n k n ⟨b.data.toList.toArray⟩ b = true := page_yes rfl rfl (by simp)
      have hp2 : pageB k n k n ⟨b.data⟩ b = true := page_yes rfl rfl rfl
      clear hlen
      obtain HO := HO.out
      unfold Opens at HO
      rcases HO with ⟨e, he, ho⟩ | ⟨hb, ho⟩ | ⟨k2, n2, b2, hk2, hs2, hE2, ho⟩
      · have he0 : ((e : Int) != 0) = true := by simp; omega
        have he1 : ((e : Int) == 0) = false := by simp; omega
        have HOO := hid ho; clear ho he
        go_enter Try.func5, Try.ntmps5
        go_wp2_with (first
          | (go_at_call 9; refine (live_any _).mono ?_; rintro e w' ⟨rfl, hb⟩; (first | (replace HB := on_below HB hb; (try replace HP := hid (HP.out.below hb)); (try replace HQ := hid (HQ.out.below hb))) | (replace HB := on_alloc HB hb; replace HP := hid (HP.out.next hb); have HQ := hid ((Box.made _ _ _ _).below hb))); clear hb; have p0 := HP.out.c0; have p1 := HP.out.c1; have p2 := HP.out.c2; have p3 := HP.out.lt; (try (have q0 := HQ.out.c0; have q1 := HQ.out.c1; have q2 := HQ.out.c2)))
          | (go_at_call 10; (with_reducible refine (seal_zat (k := k) (n := n) (b := b) _ HR.out HE.out).mono ?_); rintro e w' ⟨rfl, hb⟩; (first | (replace HB := on_below HB hb; (try replace HP := hid (HP.out.below hb)); (try replace HQ := hid (HQ.out.below hb))) | (replace HB := on_alloc HB hb; replace HP := hid (HP.out.next hb); have HQ := hid ((Box.made _ _ _ _).below hb))); clear hb; have p0 := HP.out.c0; have p1 := HP.out.c1; have p2 := HP.out.c2; have p3 := HP.out.lt; (try (have q0 := HQ.out.c0; have q1 := HQ.out.c1; have q2 := HQ.out.c2)))
          | (go_at_call 16; (with_reducible refine (open_l (s := ⟨r.toArray⟩) (b := b.data.toList) (x := k) (y := n) (z := 0) _ rfl HOP.out HK.out HN.out rfl).mono ?_); rintro e w' ⟨rfl, hb⟩; (first | (replace HB := on_below HB hb; (try replace HP := hid (HP.out.below hb)); (try replace HQ := hid (HQ.out.below hb))) | (replace HB := on_alloc HB hb; replace HP := hid (HP.out.next hb); have HQ := hid ((Box.made _ _ _ _).below hb))); clear hb; have p0 := HP.out.c0; have p1 := HP.out.c1; have p2 := HP.out.c2; have p3 := HP.out.lt; (try (have q0 := HQ.out.c0; have q1 := HQ.out.c1; have q2 := HQ.out.c2)))
          | (go_at_call 16; (with_reducible refine (open_l (s := s) (b := []) (z := (e : Int)) _ rfl HOO.out rfl rfl rfl).mono ?_); rintro e w' ⟨rfl, hb⟩; (first | (replace HB := on_below HB hb; (try replace HP := hid (HP.out.below hb)); (try replace HQ := hid (HQ.out.below hb))) | (replace HB := on_alloc HB hb; replace HP := hid (HP.out.next hb); have HQ := hid ((Box.made _ _ _ _).below hb))); clear hb; have p0 := HP.out.c0; have p1 := HP.out.c1; have p2 := HP.out.c2; have p3 := HP.out.lt; (try (have q0 := HQ.out.c0; have q1 := HQ.out.c1; have q2 := HQ.out.c2))))
        go_ret; exact ⟨rfl, HB.out⟩
      · have hbl := str_yes s blankL hb
        have HOO := hid ho; clear ho hb
        go_enter Try.func5, Try.ntmps5
        go_wp2_with (first
          | (go_at_call 9; refine (live_any _).mono ?_; rintro e w' ⟨rfl, hb⟩; (first | (replace HB := on_below HB hb; (try replace HP := hid (HP.out.below hb)); (try replace HQ := hid (HQ.out.below hb))) | (replace HB := on_alloc HB hb; replace HP := hid (HP.out.next hb); have HQ := hid ((Box.made _ _ _ _).below hb))); clear hb; have p0 := HP.out.c0; have p1 := HP.out.c1; have p2 := HP.out.c2; have p3 := HP.out.lt; (try (have q0 := HQ.out.c0; have q1 := HQ.out.c1; have q2 := HQ.out.c2)))
          | (go_at_call 14; refine (blank_any _).mono ?_; rintro e w' ⟨rfl, hb⟩; (first | (replace HB := on_below HB hb; (try replace HP := hid (HP.out.below hb)); (try replace HQ := hid (HQ.out.below hb))) | (replace HB := on_alloc HB hb; replace HP := hid (HP.out.next hb); have HQ := hid ((Box.made _ _ _ _).below hb))); clear hb; have p0 := HP.out.c0; have p1 := HP.out.c1; have p2 := HP.out.c2; have p3 := HP.out.lt; (try (have q0 := HQ.out.c0; have q1 := HQ.out.c1; have q2 := HQ.out.c2)))
          | (go_at_call 10; (with_reducible refine (seal_zat (k := k) (n := n) (b := b) _ HR.out HE.out).mono ?_); rintro e w' ⟨rfl, hb⟩; (first | (replace HB := on_below HB hb; (try replace HP := hid (HP.out.below hb)); (try replace HQ := hid (HQ.out.below hb))) | (replace HB := on_alloc HB hb; replace HP := hid (HP.out.next hb); have HQ := hid ((Box.made _ _ _ _).below hb))); clear hb; have p0 := HP.out.c0; have p1 := HP.out.c1; have p2 := HP.out.c2; have p3 := HP.out.lt; (try (have q0 := HQ.out.c0; have q1 := HQ.out.c1; have q2 := HQ.out.c2)))
          | (go_at_call 16; (with_reducible refine (open_l (s := ⟨r.toArray⟩) (b := b.data.toList) (x := k) (y := n) (z := 0) _ rfl HOP.out HK.out HN.out rfl).mono ?_); rintro e w' ⟨rfl, hb⟩; (first | (replace HB := on_below HB hb; (try replace HP := hid (HP.out.below hb)); (try replace HQ := hid (HQ.out.below hb))) | (replace HB := on_alloc HB hb; replace HP := hid (HP.out.next hb); have HQ := hid ((Box.made _ _ _ _).below hb))); clear hb; have p0 := HP.out.c0; have p1 := HP.out.c1; have p2 := HP.out.c2; have p3 := HP.out.lt; (try (have q0 := HQ.out.c0; have q1 := HQ.out.c1; have q2 := HQ.out.c2)))
          | (go_at_call 16; (with_reducible refine (open_l (s := s) (b := []) (x := 0) (y := 0) (z := 0) _ rfl HOO.out rfl rfl rfl).mono ?_); rintro e w' ⟨rfl, hb⟩; (first | (replace HB := on_below HB hb; (try replace HP := hid (HP.out.below hb)); (try replace HQ := hid (HQ.out.below hb))) | (replace HB := on_alloc HB hb; replace HP := hid (HP.out.next hb); have HQ := hid ((Box.made _ _ _ _).below hb))); clear hb; have p0 := HP.out.c0; have p1 := HP.out.c1; have p2 := HP.out.c2; have p3 := HP.out.lt; (try (have q0 := HQ.out.c0; have q1 := HQ.out.c1; have q2 := HQ.out.c2))))
        go_ret; exact ⟨rfl, HB.out⟩
      · have hk0 : ((k2 : Int) == 0) = false := by simp; omega
        obtain ⟨r2, hr2⟩ : ∃ r2, sealX k2 n2 b2 = r2 := ⟨_, rfl⟩
        have hrs : (r2 == s.toList) = true := by rw [ByteArray.toList_eq, ← hr2]; simpa using hs2
        have HOO := hid ho; have HR2 := hid hr2; have HE2 := hid hE2; clear ho hk2 hs2 hr2 hE2
        go_enter Try.func5, Try.ntmps5
        go_wp2_with (first
          | (go_at_call 9; refine (live_any _).mono ?_; rintro e w' ⟨rfl, hb⟩; (first | (replace HB := on_below HB hb; (try replace HP := hid (HP.out.below hb)); (try replace HQ := hid (HQ.out.below hb))) | (replace HB := on_alloc HB hb; replace HP := hid (HP.out.next hb); have HQ := hid ((Box.made _ _ _ _).below hb))); clear hb; have p0 := HP.out.c0; have p1 := HP.out.c1; have p2 := HP.out.c2; have p3 := HP.out.lt; (try (have q0 := HQ.out.c0; have q1 := HQ.out.c1; have q2 := HQ.out.c2)))
          | (go_at_call 10; (with_reducible refine (seal_zat (k := k) (n := n) (b := b) _ HR.out HE.out).mono ?_); rintro e w' ⟨rfl, hb⟩; (first | (replace HB := on_below HB hb; (try replace HP := hid (HP.out.below hb)); (try replace HQ := hid (HQ.out.below hb))) | (replace HB := on_alloc HB hb; replace HP := hid (HP.out.next hb); have HQ := hid ((Box.made _ _ _ _).below hb))); clear hb; have p0 := HP.out.c0; have p1 := HP.out.c1; have p2 := HP.out.c2; have p3 := HP.out.lt; (try (have q0 := HQ.out.c0; have q1 := HQ.out.c1; have q2 := HQ.out.c2)))
          | (go_at_call 16; (with_reducible refine (open_l (s := ⟨r.toArray⟩) (b := b.data.toList) (x := k) (y := n) (z := 0) _ rfl HOP.out HK.out HN.out rfl).mono ?_); rintro e w' ⟨rfl, hb⟩; (first | (replace HB := on_below HB hb; (try replace HP := hid (HP.out.below hb)); (try replace HQ := hid (HQ.out.below hb))) | (replace HB := on_alloc HB hb; replace HP := hid (HP.out.next hb); have HQ := hid ((Box.made _ _ _ _).below hb))); clear hb; have p0 := HP.out.c0; have p1 := HP.out.c1; have p2 := HP.out.c2; have p3 := HP.out.lt; (try (have q0 := HQ.out.c0; have q1 := HQ.out.c1; have q2 := HQ.out.c2)))
          | (go_at_call 10; (with_reducible refine (seal_at (k := k2) (n := n2) (b := b2) _ HR2.out HE2.out).mono ?_); rintro e w' ⟨rfl, hb⟩; (first | (replace HB := on_below HB hb; (try replace HP := hid (HP.out.below hb)); (try replace HQ := hid (HQ.out.below hb))) | (replace HB := on_alloc HB hb; replace HP := hid (HP.out.next hb); have HQ := hid ((Box.made _ _ _ _).below hb))); clear hb; have p0 := HP.out.c0; have p1 := HP.out.c1; have p2 := HP.out.c2; have p3 := HP.out.lt; (try (have q0 := HQ.out.c0; have q1 := HQ.out.c1; have q2 := HQ.out.c2)))
          | (go_at_call 16; (with_reducible refine (open_l (s := s) (b := b2) (x := (k2 : Int)) (y := (n2 : Int)) (z := 0) _ rfl HOO.out rfl rfl rfl).mono ?_); rintro e w' ⟨rfl, hb⟩; (first | (replace HB := on_below HB hb; (try replace HP := hid (HP.out.below hb)); (try replace HQ := hid (HQ.out.below hb))) | (replace HB := on_alloc HB hb; replace HP := hid (HP.out.next hb); have HQ := hid ((Box.made _ _ _ _).below hb))); clear hb; have p0 := HP.out.c0; have p1 := HP.out.c1; have p2 := HP.out.c2; have p3 := HP.out.lt; (try (have q0 := HQ.out.c0; have q1 := HQ.out.c1; have q2 := HQ.out.c2))))
        go_ret; exact ⟨rfl, HB.out⟩

theorem PageBack_walk (v : Value) (s : ByteArray) (w0 : IsPage v) (w1 : s.size ≤ maxLen) (w : World) :
    Calls Try.prog 5 #[v, .string s] w fun e w' => e = .returned (.bool true) ∧ Below w.heap.size w w' := by
  obtain ⟨k, n, b, rfl, _, _, hb⟩ := w0
  exact PageBack_any k n b s hb w1 w
theorem PageBack_open0 {H : Type} {enc : TypeId × Value → H} {W : World} {base : Nat} {v : Value} {d : DataW H} {p : List MemPlace}
    (hv : Value.okWide Try.prog W .any base 23 v) (h : DataW.Trod enc Try.prog W 0 (fun _ => true) true 23 v d p) : IsPage v := page_open hv h
end Go.Proofs.Ytfedkhomplffoaa
