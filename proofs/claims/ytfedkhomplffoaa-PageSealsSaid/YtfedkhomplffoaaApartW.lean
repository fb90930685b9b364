/- The walk of PageApart. -/
import Derived.Test.YtfedkhomplffoaaPgLive
import Derived.Test.YtfedkhomplffoaaPgArg
namespace Go.Proofs.Ytfedkhomplffoaa
open Go.RowKit
open Go.Lib (hid)
open Go.Proofs.Ytfedkhomplffoaa.Fd (on_below wf_i64)
open Go.Proofs.Ytfedkhomplffoaa.Pg

/-- Seal's answer, whatever page it is -/
def sealZ (k n : Int) (b : List UInt8) : List UInt8 := if mayP k n b.length then sealL k.toNat n.toNat b else []
def errZ (k n : Int) (b : List UInt8) : Int := if mayP k n b.length then 0 else 1
theorem seal_z (k n : Int) (b : ByteArray) (w : World) :
    Calls Try.prog 10 #[.agg #[.int .i64 k, .int .i64 n, .string b]] w fun e w' => e = .returned (.tuple #[.string ⟨(sealZ k n b.data.toList).toArray⟩, .int .i64 (errZ k n b.data.toList)]) ∧ Below w.heap.size w w' := by
  have hsz : b.data.toList.length = b.size := by simp
  by_cases h : mayP k n b.size
  · have hk : ((k.toNat : Nat) : Int) = k := by have := h.1; omega
    have hn : ((n.toNat : Nat) : Int) = n := by have := h.2.2.1; omega
    have := seal_yes k.toNat n.toNat b w (by rw [hk, hn]; exact h)
    rw [hk, hn] at this
    unfold sealZ errZ; rw [hsz, if_pos h, if_pos h]; exact this
  · have := seal_no k n b w h
    unfold sealZ errZ; rw [hsz, if_neg h, if_neg h]; exact this
theorem seal_zat {k n E : Int} {b : ByteArray} {r : List UInt8} (w : World) (hr : sealZ k n b.data.toList = r) (hE : errZ k n b.data.toList = E) :
    Calls Try.prog 10 #[.agg #[.int .i64 k, .int .i64 n, .string b]] w fun e w' => e = .returned (.tuple #[.string ⟨r.toArray⟩, .int .i64 E]) ∧ Below w.heap.size w w' := by
  subst hr hE; exact seal_z k n b w

theorem Box.alloc {w : World} {P : Nat} {k n : Int} {b : ByteArray} {o : Obj} (h : Box w P k n b) : Box (w.alloc o) P k n b := h.below ((Below.refl _ _).alloc (Nat.le_refl _) o)

set_option maxHeartbeats 800000 in
theorem PageApart_any (k n : Int) (b : ByteArray) (k' n' : Int) (b' : ByteArray) (w0 : b.size ≤ maxLen) (w1 : b'.size ≤ maxLen) (w : World) :
    Calls Try.prog 8 #[.agg #[.int .i64 k, .int .i64 n, .string b], .agg #[.int .i64 k', .int .i64 n', .string b']] w fun e w' => e = .returned (.bool true) ∧ Below w.heap.size w w' := by
  unfold maxLen at w0 w1
  have hB : Below w.heap.size w ((w.alloc (.cells #[.int .i64 k, .int .i64 n, .string b] 23)).alloc (.cells #[.int .i64 k', .int .i64 n', .string b'] 23)) :=
    ((Below.refl _ _).alloc (Nat.le_refl _) _).alloc (by simp) _
  have hP : Box ((w.alloc (.cells #[.int .i64 k, .int .i64 n, .string b] 23)).alloc (.cells #[.int .i64 k', .int .i64 n', .string b'] 23)) w.heap.size k n b := Box.alloc (Box.made w k n b)
  have hQ := Box.made (w.alloc (.cells #[.int .i64 k, .int .i64 n, .string b] 23)) k' n' b'
  rw [show (w.alloc (.cells #[.int .i64 k, .int .i64 n, .string b] 23)).heap.size = w.heap.size + 1 by simp] at hQ
  have HB := hid hB; have HP := hid hP; have HQ := hid hQ; clear hB hP hQ
  by_cases h3 : 300 < b.size ∨ 300 < b'.size
  · by_cases h4 : 300 < b.size
    · have e4 : decide ((300 : Int) < (b.size : Int)) = true := by simp; omega
      clear h3
      go_enter Try.func8, Try.ntmps8
      go_wp2_with (go_at_call 9; refine (live_any _).mono ?_; rintro e w' ⟨rfl, hb⟩; replace HB := on_below HB hb; clear hb)
      go_ret; exact ⟨rfl, HB.out⟩
    · have h5 : 300 < b'.size := by omega
      have e4 : decide ((300 : Int) < (b.size : Int)) = false := by simp; omega
      have e5 : decide ((300 : Int) < (b'.size : Int)) = true := by simp; omega
      clear h3
      go_enter Try.func8, Try.ntmps8
      go_wp2_with (go_at_call 9; refine (live_any _).mono ?_; rintro e w' ⟨rfl, hb⟩; replace HB := on_below HB hb; clear hb)
      go_ret; exact ⟨rfl, HB.out⟩
  · have e4 : decide ((300 : Int) < (b.size : Int)) = false := by simp; omega
    have e5 : decide ((300 : Int) < (b'.size : Int)) = false := by simp; omega
    have hsz : b.data.toList.length = b.size := by simp
    have hsz' : b'.data.toList.length = b'.size := by simp
    clear h3
    obtain ⟨r, hr⟩ : ∃ r, sealZ k n b.data.toList = r := ⟨_, rfl⟩
    obtain ⟨r', hr'⟩ : ∃ r, sealZ k' n' b'.data.toList = r := ⟨_, rfl⟩
    obtain ⟨E, hE⟩ : ∃ r, errZ k n b.data.toList = r := ⟨_, rfl⟩
    obtain ⟨E', hE'⟩ : ∃ r, errZ k' n' b'.data.toList = r := ⟨_, rfl⟩
    have hcase : E = 1 ∨ (E = 0 ∧ E' = 1) ∨ (E = 0 ∧ E' = 0 ∧ r ≠ blankL ∧ (r = r' ↔ pageB k n k' n' b b' = true)) := by
      rw [← hE, ← hE', ← hr, ← hr']
      unfold errZ sealZ
      by_cases m1 : mayP k n b.data.toList.length
      · rw [if_pos m1, if_pos m1]
        by_cases m2 : mayP k' n' b'.data.toList.length
        · rw [if_pos m2, if_pos m2]
          right; right
          have a1 := m1.1; have a2 := m1.2.1; have a3 := m1.2.2.1
          have c1 := m2.1; have c3 := m2.2.2.1
          refine ⟨rfl, rfl, seal_not_blank _ _ _ (by omega) (by omega), ?_⟩
          have hk : ((k.toNat : Nat) : Int) = k := by omega
          have hn : ((n.toNat : Nat) : Int) = n := by omega
          have hk' : ((k'.toNat : Nat) : Int) = k' := by omega
          have hn' : ((n'.toNat : Nat) : Int) = n' := by omega
          constructor
          · intro e
            obtain ⟨i1, i2, i3⟩ := seal_inj (by rw [hk, hn]; exact m1) (by rw [hk', hn']; exact m2) e
            exact page_yes (by omega) (by omega) i3
          · intro e
            obtain ⟨i1, i2, i3⟩ := page_of e
            rw [i1, i2, i3]
        · rw [if_neg m2]; exact .inr (.inl ⟨rfl, rfl⟩)
      · rw [if_neg m1]; exact .inl rfl
    have HR := hid hr; have HR' := hid hr'; have HE := hid hE; have HE' := hid hE'
    clear hr hr' hE hE' hsz hsz'
    have heq := eq23
    rcases hcase with rfl | ⟨rfl, rfl⟩ | ⟨rfl, rfl, hnb, hiff⟩
    · go_enter Try.func8, Try.ntmps8
      go_wp2_with (first
        | (go_at_call 9; refine (live_any _).mono ?_; rintro e w' ⟨rfl, hb⟩; replace HB := on_below HB hb; clear hb)
        | (go_at_call 10; (first | (with_reducible refine (seal_zat (k := k) (n := n) (b := b) _ HR.out HE.out).mono ?_) | (with_reducible refine (seal_zat (k := k') (n := n') (b := b') _ HR'.out HE'.out).mono ?_)); rintro e w' ⟨rfl, hb⟩; replace HB := on_below HB hb; replace HP := hid (HP.out.below hb); replace HQ := hid (HQ.out.below hb); clear hb; have p0 := HP.out.c0; have p1 := HP.out.c1; have p2 := HP.out.c2; have q0 := HQ.out.c0; have q1 := HQ.out.c1; have q2 := HQ.out.c2))
      go_ret; exact ⟨rfl, HB.out⟩
    · go_enter Try.func8, Try.ntmps8
      go_wp2_with (first
        | (go_at_call 9; refine (live_any _).mono ?_; rintro e w' ⟨rfl, hb⟩; replace HB := on_below HB hb; clear hb)
        | (go_at_call 10; (first | (with_reducible refine (seal_zat (k := k) (n := n) (b := b) _ HR.out HE.out).mono ?_) | (with_reducible refine (seal_zat (k := k') (n := n') (b := b') _ HR'.out HE'.out).mono ?_)); rintro e w' ⟨rfl, hb⟩; replace HB := on_below HB hb; replace HP := hid (HP.out.below hb); replace HQ := hid (HQ.out.below hb); clear hb; have p0 := HP.out.c0; have p1 := HP.out.c1; have p2 := HP.out.c2; have q0 := HQ.out.c0; have q1 := HQ.out.c1; have q2 := HQ.out.c2))
      go_ret; exact ⟨rfl, HB.out⟩
    · have e8 : (r == blankL) = false := by simpa using hnb
      have e9 : ((r == r') == pageB k n k' n' b b') = true := by
        by_cases hrr : r = r'
        · rw [hiff.1 hrr]; simp [hrr]
        · have : pageB k n k' n' b b' = false := by
            cases hp : pageB k n k' n' b b' with
            | false => rfl
            | true => exact absurd (hiff.2 hp) hrr
          rw [this]; simp [hrr]
      have HN := hid hnb; have HI := hid hiff; clear hnb hiff
      go_enter Try.func8, Try.ntmps8
      go_wp2_with (first
        | (go_at_call 9; refine (live_any _).mono ?_; rintro e w' ⟨rfl, hb⟩; replace HB := on_below HB hb; clear hb)
        | (go_at_call 14; refine (blank_any _).mono ?_; rintro e w' ⟨rfl, hb⟩; replace HB := on_below HB hb; clear hb)
        | (go_at_call 10; (first | (with_reducible refine (seal_zat (k := k) (n := n) (b := b) _ HR.out HE.out).mono ?_) | (with_reducible refine (seal_zat (k := k') (n := n') (b := b') _ HR'.out HE'.out).mono ?_)); rintro e w' ⟨rfl, hb⟩; replace HB := on_below HB hb; replace HP := hid (HP.out.below hb); replace HQ := hid (HQ.out.below hb); clear hb; have p0 := HP.out.c0; have p1 := HP.out.c1; have p2 := HP.out.c2; have q0 := HQ.out.c0; have q1 := HQ.out.c1; have q2 := HQ.out.c2))
      go_ret; exact ⟨rfl, HB.out⟩

theorem PageApart_walk (v v' : Value) (w0 : IsPage v) (w1 : IsPage v') (w : World) :
    Calls Try.prog 8 #[v, v'] w fun e w' => e = .returned (.bool true) ∧ Below w.heap.size w w' := by
  obtain ⟨k, n, b, rfl, _, _, hb⟩ := w0
  obtain ⟨k', n', b', rfl, _, _, hb'⟩ := w1
  exact PageApart_any k n b k' n' b' hb hb' w
theorem PageApart_open0 {H : Type} {enc : TypeId × Value → H} {W : World} {base : Nat} {v : Value} {d : DataW H} {p : List MemPlace}
    (hv : Value.okWide Try.prog W .any base 23 v) (h : DataW.Trod enc Try.prog W 0 (fun _ => true) true 23 v d p) : IsPage v := page_open hv h
theorem PageApart_open1 {H : Type} {enc : TypeId × Value → H} {W : World} {base : Nat} {v : Value} {d : DataW H} {p : List MemPlace}
    (hv : Value.okWide Try.prog W .any base 23 v) (h : DataW.Trod enc Try.prog W 0 (fun _ => true) true 23 v d p) : IsPage v := page_open hv h
end Go.Proofs.Ytfedkhomplffoaa
