/- The document's own disk: Read, Waits. -/
import Derived.Test.YtjjplkfgihogkaaDkRop
namespace Go.Proofs.Ytjjplkfgihogkaa.Dk
open Go.RowKit
open Go.Lib (hid)

set_option maxHeartbeats 400000 in
theorem rread_bad (d : Ptrs) (s : St) (n : Int) (w : World) (h : Rk w d s) (hb : n < 0 ∨ s.pages.length ≤ n) :
    Calls Try.prog 11 #[.pointer (some ⟨d.D, 0, none⟩), .int .i64 n] w fun e w' => e = .returned (.tuple #[.string ⟨#[]⟩, .int .i64 1]) ∧ w = w' := by
  obtain ⟨c0, c1, c2, c3, c4, c5⟩ := h.cells
  clear h
  by_cases h1 : n < 0
  · have e1 : decide (n < 0) = true := decide_eq_true h1
    clear hb h1
    go_enter Try.func11, Try.ntmps11
    go_wp2_with fail
    go_ret2
    exact ⟨rfl, rfl⟩
  · have e1 : decide (n < 0) = false := decide_eq_false h1
    have h2 : (s.pages.length : Int) ≤ n := by omega
    have e2 : decide ((s.pages.length : Int) ≤ n) = true := decide_eq_true h2
    clear hb h1 h2
    go_enter Try.func11, Try.ntmps11
    go_wp2_with fail
    go_ret2
    exact ⟨rfl, rfl⟩
set_option maxRecDepth 100000 in
set_option maxHeartbeats 1000000 in
theorem rread_ok (d : Ptrs) (s : St) (n : Nat) (w : World) (h : Rk w d s) (hn : n < s.pages.length) (hr : s.reads < 1000000) :
    Calls Try.prog 11 #[.pointer (some ⟨d.D, 0, none⟩), .int .i64 (n : Int)] w fun e w' => ∃ t, e = .returned (.tuple #[.string t, .int .i64 0]) ∧ (applyW s.pages s.waits)[n]? = some t ∧ Rk w' d (readS s) ∧ Only d w w' := by
  have HRK := hid (h.store 2 (.int .i64 (s.reads + 1)) (readS s) rfl rfl (readS_good h.good hr) rfl)
  have HON := hid ((Only.refl d w).store 2 (.int .i64 (s.reads + 1)))
  obtain ⟨c0, c1, c2, c3, c4, c5⟩ := h.cells
  have f2 := h.free 2
  have hr1 := h.good.reads.1
  have hr2 := h.good.reads.2
  have hfew := h.good.few
  have hpl := h.good.n2
  obtain ⟨p, cap, hv⟩ := h.waitsAt
  have HH := hid h
  have HV := hid hv
  have HN := hid hn
  have e1 : decide ((n : Int) < 0) = false := by simp
  have e2 : decide ((s.pages.length : Int) ≤ (n : Int)) = false := decide_eq_false (by omega)
  have e2' : decide (s.pages.length ≤ n) = false := decide_eq_false (by omega)
  have z0 : (0 : Int) ≤ (n : Int) := by omega
  have z1 : (n : Int) < (s.pages.length : Int) := by omega
  have x1 : (w.setCell ⟨d.D, 2, none⟩ (.int .i64 (s.reads + 1))).cell? ⟨d.D, 1, none⟩ = some (.slice p s.waits.length cap) := by rw [← hv]; exact HRK.out.cells.2.1
  have x0 : (w.setCell ⟨d.D, 2, none⟩ (.int .i64 (s.reads + 1))).cell? ⟨d.D, 0, none⟩ = some (.slice (some ⟨d.P, 0, none⟩) s.pages.length d.cp) := HRK.out.cells.1
  clear h hn hr
  rw [hv] at c1
  clear hv
  go_enter Try.func11, Try.ntmps11
  go_wp2_with fail
  clear c0 c1 c2 c3 c4 c5 f2 e1 e2 e2'
  generalize w.setCell ⟨d.D, 2, none⟩ (.int .i64 (s.reads + 1)) = W at *
  go_loopw [6] (fun i wr => ∃ k : Nat, k ≤ s.waits.length ∧ i = .int .i64 ((k : Int) - 1) ∧ wr = W ∧ ∀ q (hq : q < s.waits.length), k ≤ q → s.waits[q].1 ≠ n) (fun i _ => (intOf i + 1).toNat)
  case atStart => exact ⟨s.waits.length, by omega, by go_num, rfl, fun q hq hk => by omega⟩
  case round =>
    obtain ⟨k, hk, hi, rfl, hno⟩ := hrel
    have HNO := hid hno
    clear hno
    cases k with
    | zero =>
      obtain rfl := hi
      have hp := HRK.out.page n HN.out
      have HLAST := hid (last_eq s.pages n HN.out (s.pages[n]'HN.out) _ s.waits rfl (.inr ⟨fun j hj => HNO.out j hj (Nat.zero_le _), List.getElem?_eq_getElem HN.out⟩))
      change wr.cell? _ = some (Value.string (s.pages[n]'HN.out)) at hp
      generalize s.pages[n]'HN.out = t at hp HLAST
      clear hk
      go_wp2_with fail
      go_ret2
      exact ⟨t, rfl, HLAST.out, HRK.out, HON.out⟩
    | succ k =>
      rw [show ((k + 1 : Nat) : Int) - 1 = (k : Int) by omega] at hi
      obtain rfl := hi
      have hlt : k < s.waits.length := by omega
      have z2 : (0 : Int) ≤ (k : Int) := by omega
      have z3 : (k : Int) < (s.waits.length : Int) := by omega
      obtain ⟨gw, rfl⟩ := HH.out.someAt HV.out (by omega)
      obtain ⟨cw1, cw2⟩ := HRK.out.wait HV.out k hlt
      change wr.cell? _ = some (Value.int .i64 ((s.waits[k].1 : Nat) : Int)) at cw1
      change wr.cell? _ = some (Value.string s.waits[k].2) at cw2
      have HLT := hid hlt
      have HLAST := hid (fun (he : s.waits[k].1 = n) => last_eq s.pages n HN.out (s.waits[k].2) _ s.waits rfl (.inl ⟨k, hlt, he, rfl, fun j hj hkj => HNO.out j hj (by omega)⟩))
      have HNX := hid (fun (he : s.waits[k].1 ≠ n) => (show ∀ q (hq : q < s.waits.length), k ≤ q → s.waits[q].1 ≠ n from fun q hq hkq => by
        by_cases e : q = k
        · subst e; exact he
        · exact HNO.out q hq (by omega)))
      generalize s.waits[k].2 = t at cw2 HLAST
      generalize s.waits[k].1 = y at cw1 HLAST HNX
      by_cases he : y = n
      · have HLT2 := hid (HLAST.out he)
        subst he
        have e3 : ((y : Int) == (y : Int)) = true := by simp
        clear HLAST
        clear hk hlt
        go_wp2_with fail
        go_ret2
        exact ⟨t, rfl, HLT2.out, HRK.out, HON.out⟩
      · have e3 : ((y : Int) == (n : Int)) = false := by simp; omega
        have HE := hid he
        clear hk hlt he
        go_wp2_with fail
        go_roundw
        case rel => exact ⟨k, by have := HLT.out; omega, by go_num, by first | trivial | rfl, HNX.out HE.out⟩
        case measure => simp [intOf] <;> omega
theorem wpages_iv (l : List (Nat × ByteArray)) : wpages l = iv (l.map fun p => (p.1 : Int)) := by simp [wpages, iv]
set_option maxRecDepth 100000 in
set_option maxHeartbeats 1000000 in
theorem rwaits_ok (d : Ptrs) (s : St) (w : World) (h : Rk w d s) :
    Calls Try.prog 22 #[.pointer (some ⟨d.D, 0, none⟩)] w fun e w' => ∃ v, e = .returned v ∧ w'.ownsRow w.heap.size 3 1 v s.waits.length (wpages s.waits) ∧ Below w.heap.size w w' := by
  obtain ⟨i0, hi0, hz0, hz1, hz2⟩ := info_parts info3
  obtain ⟨p, cap, hv⟩ := h.waitsAt
  have hfew := h.good.few
  have HV := hid hv
  have HH := hid h
  clear h
  go_enter Try.func22, Try.ntmps22
  go_wp2_with fail
  go_loopw [3, 4] (fun v i wr => ∃ k : Nat, k ≤ s.waits.length ∧ i = .int .i64 k ∧ wr.ownsRow w.heap.size 3 1 v k (wpages (s.waits.take k)) ∧ Below w.heap.size w wr) (fun _ i _ => s.waits.length - (intOf i).toNat)
  case atStart => exact ⟨0, by omega, rfl, World.ownsRow_nil _ _ _ _, Below.refl _ _⟩
  case round =>
    obtain ⟨k, hk, rfl, hO, hB⟩ := hrel
    have HO := hid hO; have HB := hid hB
    have c1 := (HH.out.below hB).cells.2.1
    rw [hv] at c1
    clear hO hB hv
    by_cases hlt : k < s.waits.length
    · have e1 : decide ((k : Int) < (s.waits.length : Int)) = true := by simpa using hlt
      have e1' : decide (k < s.waits.length) = true := by simpa using hlt
      have z0 : (0 : Int) ≤ (k : Int) := by omega
      have z1 : (k : Int) < (s.waits.length : Int) := by omega
      obtain ⟨gw, rfl⟩ := HH.out.someAt HV.out (by omega)
      obtain ⟨x, hx⟩ : ∃ x, s.waits[k].1 = x := ⟨_, rfl⟩
      have cw : wr.cell? ⟨gw, k * 2, none⟩ = some (.int .i64 (x : Int)) := by
        have := ((HH.out.below HB.out).wait HV.out k hlt).1
        rw [← hx]; exact this
      have hmore := wpages_more s.waits k hlt
      rw [hx] at hmore
      have HM := hid hmore; clear hmore hx
      have HS := hid HB.out.size
      go_wp2_with (at_builtin; refine wpList_append_own _ rfl _ _ 31 rfl w.heap.size 3 i0 (.int .i64 0) 1 8 Try.underlying31 hi0 hz0 hz1 hz2 rfl (by decide) _ _ _ rfl (HO.out.alloc _) ⟨wr.heap.size, 0, none⟩ 1 1 [.int .i64 (x : Int)] (by rfl) rfl ?c1 ?c2 ?c3 ?c4 ?c5 ?_)
      case c1 =>
        intro j u hj
        match j, hj with
        | 0, hj => simp at hj; subst hj; simp [Addr.add]
      case c2 => intro u hu; simp at hu; subst hu; rfl
      case c3 => unfold maxLen; omega
      case c4 => omega
      case c5 => have := HS.out; simp; omega
      intro v' w1 hown' hgrow _
      have hB1 : Below w.heap.size w w1 := (HB.out.alloc HS.out _).grown hgrow (by have := HS.out; simp; omega) (fun j hj => (HO.out.lt j hj).1)
      have HB1 := hid hB1; have HO1 := hid hown'; clear hB1 hown' hgrow cw c1
      go_wp2_with fail
      go_roundw
      case rel => exact ⟨k + 1, by omega, by go_num, by rw [HM.out]; exact HO1.out, HB1.out⟩
      case measure => simp [intOf]; omega
    · obtain rfl : k = s.waits.length := by omega
      go_wp2_with fail
      go_ret
      have := HO.out
      rw [List.take_length] at this
      exact ⟨_, rfl, this, HB.out⟩
end Go.Proofs.Ytjjplkfgihogkaa.Dk
