/- A scale grown by a script. -/
import Derived.Test.YtmhjoeegghnlhaaScPl
import Derived.Test.YtmhjoeegghnlhaaScNil
import Derived.Test.YtmhjoeegghnlhaaScOpen
namespace Go.Proofs.Ytmhjoeegghnlhaa.Sc
open Go.RowKit
open Go.Lib (hid)
open Go.Proofs.Ytmhjoeegghnlhaa.Ky Go.Proofs.Ytmhjoeegghnlhaa.Bk

theorem newS (d : Nat) (V : World) (hd : 1 ≤ d ∧ d ≤ 6) : Calls Try.prog 9 #[.int .i64 (d : Int)] V fun e w' => e = .returned (.tuple #[.pointer (some ⟨V.heap.size + 1, 0, none⟩), .int .i64 0]) ∧ (∃ vs, Sc V.heap.size w' (V.heap.size + 1) V.heap.size vs (List.replicate d [])) ∧ Below V.heap.size V w' := by
  have h := new_ok d V hd
  refine h.mono fun e w' hh => ?_
  obtain ⟨h1, h2⟩ := hh
  subst h2
  exact ⟨h1, ⟨_, sc_new d V V.heap.size (Nat.le_refl _) hd⟩, (below_alloc _ _).alloc (below_alloc _ _).size _⟩
theorem insS {N b R : Nat} {vs : List Value} {bs : List (List Nat)} {V : World} (a : Int) (t : Nat) (h : Sc N V b R vs bs) (hu : upS bs) (hN : N ≤ V.heap.size) (ht : t < 4294967296) :
    Calls Try.prog 15 #[.pointer (some ⟨b, 0, none⟩), .int .i64 a, .int .u32 (t : Int)] V fun e w' => e = .returned (.tuple #[.int .i64 (insV bs a t), .int .i64 (insE bs a t)]) ∧ (∃ vs', Sc N w' b R vs' (insB bs a t)) ∧ Below N V w' := by
  refine (insert_ok N b R vs bs a t V h hN hu ht).mono fun e w' hh => ?_
  obtain ⟨h1, vs', h2, h3, _⟩ := hh
  exact ⟨h1, ⟨vs', h2⟩, h3.below hN h.ge⟩
/-- a scale that was made since w -/
def Made (w wr : World) (b R d : Nat) : Prop := ∃ vs bs, Sc w.heap.size wr b R vs bs ∧ upS bs ∧ bs.length = d ∧ Below w.heap.size w wr
theorem upS_new (d : Nat) : upS (List.replicate d []) := fun l hl => by
  obtain rfl : l = [] := (List.mem_replicate.1 hl).2
  simp [up]
theorem Made.ins {w V : World} {b R d : Nat} (h : Made w V b R d) (a : Int) (t : Nat) (ht : t < 4294967296) :
    Calls Try.prog 15 #[.pointer (some ⟨b, 0, none⟩), .int .i64 a, .int .u32 (t : Int)] V fun e w' => (∃ x y, e = .returned (.tuple #[.int .i64 x, .int .i64 y])) ∧ Made w w' b R d := by
  obtain ⟨vs, bs, hs, hu, hl, hb⟩ := h
  refine (insS a t hs hu hb.size ht).mono fun e w' hh => ?_
  obtain ⟨h1, ⟨vs', h2⟩, h3⟩ := hh
  exact ⟨⟨_, _, h1⟩, vs', _, h2, upS_ins hu, by rw [insB_len, hl], hb.trans h3⟩
theorem Made.below {w V : World} {b R d : Nat} (h : Made w V b R d) : Below w.heap.size w V := by obtain ⟨_, _, _, _, _, hb⟩ := h; exact hb
theorem Made.next {w V V' : World} {b R d : Nat} (h : Made w V b R d) (hb : Below V.heap.size V V') : Made w V' b R d := by
  obtain ⟨vs, bs, hs, hu, hl, h2⟩ := h
  exact ⟨vs, bs, hs.next hb, hu, hl, h2.trans (hb.mono h2.size)⟩
set_option maxRecDepth 100000 in
set_option maxHeartbeats 4000000 in
theorem grown_yes (d : Nat) (a : Option Addr) (len cap : Nat) (w : World) (hd : 1 ≤ d ∧ d ≤ 6) (hs : IsOps w a len) :
    Calls Try.prog 33 #[.int .i64 (d : Int), .slice a len cap] w fun e w' => e = .returned (.pointer (some ⟨w.heap.size + 1, 0, none⟩)) ∧ Made w w' (w.heap.size + 1) w.heap.size d := by
  have HN := hid (newS d w hd)
  have HS := hid hs
  clear hd hs
  go_enter Try.func33, Try.ntmps33
  go_wp2_with fail
  refine HN.out.mono ?_
  rintro e w1 ⟨rfl, ⟨vs1, hs⟩, hb⟩
  have HM := hid (show Made w w1 (w.heap.size + 1) w.heap.size d from ⟨vs1, _, hs, upS_new d, by simp, hb⟩)
  clear hs hb HN
  go_wp2_with fail
  go_loopw [7] (fun i wr => ∃ k : Nat, k ≤ len ∧ k ≤ 60 ∧ i = .int .i64 k ∧ Made w wr (w.heap.size + 1) w.heap.size d) (fun i _ => 60 - (intOf i).toNat)
  case atStart => exact ⟨0, by omega, by omega, rfl, HM.out⟩
  case round =>
    obtain ⟨k, hk, hk6, rfl, hm⟩ := hrel
    have HR := hid hm
    clear hm
    by_cases hlt : k < len
    · have e1 : decide ((k : Int) < (len : Int)) = true := by simpa using hlt
      have e1' : decide (k < len) = true := by simpa using hlt
      by_cases h6 : k < 60
      · have e2 : decide ((k : Int) < 60) = true := by simp; omega
        have e2' : decide (k < 60) = true := by simp; omega
        obtain ⟨bb, off, rfl, hbl, hops⟩ : ∃ bb off, a = some ⟨bb, off, none⟩ ∧ bb < w.heap.size ∧ ∀ i, i < len → ∃ d, OpAt w bb (off + i * 8) d := by
          rcases HS.out.2 with h | h
          · omega
          · exact h
        obtain ⟨o, ho⟩ := hops k hlt
        have HQ := hid fun (X : World) (hX : Below w.heap.size w X) => And.intro ((hX.cell (p := ⟨bb, off + k * 8 + 1, none⟩) hbl).trans ho.d1) ((hX.cell (p := ⟨bb, off + k * 8 + 3, none⟩) hbl).trans ho.d3)
        have q1 := HQ.out _ HR.out.below
        have HT := hid ho.ok.f3
        clear hops ho
        generalize o.a1 = at1 at q1 HQ
        generalize o.a3 = bo at q1 HQ HT
        have z0 : (0 : Int) ≤ (k : Int) := by omega
        have z1 : (k : Int) < (len : Int) := by omega
        go_wp2_with fail
        go_region_held3 (fun w' => w'.cell? ⟨bb, off + k * 8 + 1, none⟩ = some (.int .i64 at1) ∧ w'.cell? ⟨bb, off + k * 8 + 3, none⟩ = some (.int .u32 (bo : Int))) (first | exact q1 | exact x4 | go_keep)
          (first
            | (go_at_call 15; refine ((HR.out.next (Below.refl _ _).drew).ins at1 bo HT.out).mono ?_; rintro e w4 ⟨⟨x, y, rfl⟩, hm⟩; have HM4 := hid hm; have x4 := HQ.out _ HM4.out.below; clear hm)
            | fail)
        go_wp2_with fail
        go_roundw
        case rel => exact ⟨k + 1, by omega, by omega, by go_num, HM4.out⟩
        case measure => simp [intOf]; omega
      · have e2 : decide ((k : Int) < 60) = false := by simp; omega
        have e2' : decide (k < 60) = false := by simp; omega
        go_wp2_with fail
        go_ret
        exact ⟨rfl, HR.out⟩
    · have e1 : decide ((k : Int) < (len : Int)) = false := by simp; omega
      have e1' : decide (k < len) = false := by simp; omega
      go_wp2_with fail
      go_ret
      exact ⟨rfl, HR.out⟩
set_option maxRecDepth 100000 in
set_option maxHeartbeats 4000000 in
theorem grown_no (d : Int) (a : Option Addr) (len cap : Nat) (w : World) (hd : d < 1 ∨ 6 < d) (hs : IsOps w a len) :
    Calls Try.prog 33 #[.int .i64 d, .slice a len cap] w fun e w' => e = .returned (.pointer none) ∧ Below w.heap.size w w' := by
  have HN := hid (new_bad d w hd)
  have HS := hid hs
  clear hd hs
  go_enter Try.func33, Try.ntmps33
  go_wp2_with fail
  refine HN.out.mono ?_
  rintro e w1 ⟨rfl, rfl⟩
  go_wp2_with fail
  go_loopw [7] (fun i wr => ∃ k : Nat, k ≤ len ∧ k ≤ 60 ∧ i = .int .i64 k ∧ Below w.heap.size w wr) (fun i _ => 60 - (intOf i).toNat)
  case atStart => exact ⟨0, by omega, by omega, rfl, Below.refl _ _⟩
  case round =>
    obtain ⟨k, hk, hk6, rfl, hm⟩ := hrel
    have HR := hid hm
    clear hm
    by_cases hlt : k < len
    · have e1 : decide ((k : Int) < (len : Int)) = true := by simpa using hlt
      have e1' : decide (k < len) = true := by simpa using hlt
      by_cases h6 : k < 60
      · have e2 : decide ((k : Int) < 60) = true := by simp; omega
        have e2' : decide (k < 60) = true := by simp; omega
        obtain ⟨bb, off, rfl, hbl, hops⟩ : ∃ bb off, a = some ⟨bb, off, none⟩ ∧ bb < w.heap.size ∧ ∀ i, i < len → ∃ d, OpAt w bb (off + i * 8) d := by
          rcases HS.out.2 with h | h
          · omega
          · exact h
        obtain ⟨o, ho⟩ := hops k hlt
        have HQ := hid fun (X : World) (hX : Below w.heap.size w X) => And.intro ((hX.cell (p := ⟨bb, off + k * 8 + 1, none⟩) hbl).trans ho.d1) ((hX.cell (p := ⟨bb, off + k * 8 + 3, none⟩) hbl).trans ho.d3)
        have q1 := HQ.out _ HR.out
        clear hops ho
        generalize o.a1 = at1 at q1 HQ
        generalize o.a3 = bo at q1 HQ
        have z0 : (0 : Int) ≤ (k : Int) := by omega
        have z1 : (k : Int) < (len : Int) := by omega
        go_wp2_with fail
        go_region_held3 (fun w' => w'.cell? ⟨bb, off + k * 8 + 1, none⟩ = some (.int .i64 at1) ∧ w'.cell? ⟨bb, off + k * 8 + 3, none⟩ = some (.int .u32 (bo : Int))) (first | exact q1 | exact x4 | go_keep)
          (first
            | (go_at_call 15; refine (insert_nil at1 bo _).mono ?_; rintro e w4 ⟨rfl, hw⟩; have HM4 := hid (show Below w.heap.size w w4 by rw [← hw]; exact HR.out.drew); have x4 := HQ.out _ HM4.out; clear hw)
            | fail)
        go_wp2_with fail
        go_roundw
        case rel => exact ⟨k + 1, by omega, by omega, by go_num, HM4.out⟩
        case measure => simp [intOf]; omega
      · have e2 : decide ((k : Int) < 60) = false := by simp; omega
        have e2' : decide (k < 60) = false := by simp; omega
        go_wp2_with fail
        go_ret
        exact ⟨rfl, HR.out⟩
    · have e1 : decide ((k : Int) < (len : Int)) = false := by simp; omega
      have e1' : decide (k < len) = false := by simp; omega
      go_wp2_with fail
      go_ret
      exact ⟨rfl, HR.out⟩
end Go.Proofs.Ytmhjoeegghnlhaa.Sc
