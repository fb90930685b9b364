/- Whole of both sides. -/
import Derived.Test.YtolnbamdddiifaaKyRows
namespace Go.Proofs.Ytolnbamdddiifaa.Ky
open Go.RowKit
open Go.Lib (hid)

/-- a box was returned -/
def OneBox (w : World) (lo hi : List Nat) (e : Ending) (w' : World) : Prop :=
  ∃ A c A' c', e = .returned (.agg #[.slice A lo.length c, .slice A' hi.length c']) ∧ Pt w' A lo ∧ Pt w' A' hi ∧ Below w.heap.size w w'
theorem rep_snoc (k x : Nat) : List.replicate k x ++ [x] = List.replicate (k + 1) x := (List.replicate_succ' ..).symm
theorem rep_fit (k x : Nat) (hx : x < 4294967296) : ∀ y ∈ List.replicate k x, y < 4294967296 := fun y hy => by rw [List.eq_of_mem_replicate hy]; exact hx
/-- the box at g is whole: its value, and that its points read so -/
theorem Bx.read {wr : World} {g : Nat} {vl vh : Value} {los his : List Nat} (h : Bx wr g vl vh los his) (h1 : ∀ x ∈ los, x < 4294967296) (h2 : ∀ x ∈ his, x < 4294967296) :
    ∃ A c A' c', vl = .slice A los.length c ∧ vh = .slice A' his.length c' ∧ Pt wr A los ∧ Pt wr A' his := by
  obtain ⟨A, c, e1, p1⟩ := own_pt h.ol h1
  obtain ⟨A', c', e2, p2⟩ := own_pt h.oh h2
  exact ⟨A, c, A', c', e1, e2, p1, p2⟩
/-- the result's variable is stored to: a block of two slices below -/
theorem store_out {w V : World} {b : Nat} {A A' : Option Addr} {lo hi : List Nat} (hb : Below w.heap.size w V) (hge : w.heap.size ≤ b) (hz : V.heap[b]? = some (.cells #[Value.slice none 0 0, .slice none 0 0] 25 (0, 0))) (h1 : Pt V A lo) (h2 : Pt V A' hi) (u v : Value) (hu : ∀ z, u ≠ .int .u32 z) :
    Pt ((V.setCell ⟨b, 0, none⟩ u).setCell ⟨b, 1, none⟩ v) A lo ∧ Pt ((V.setCell ⟨b, 0, none⟩ u).setCell ⟨b, 1, none⟩ v) A' hi ∧ Below w.heap.size w ((V.setCell ⟨b, 0, none⟩ u).setCell ⟨b, 1, none⟩ v) ∧
      ((V.setCell ⟨b, 0, none⟩ u).setCell ⟨b, 1, none⟩ v).cell? ⟨b, 0, none⟩ = some u ∧ ((V.setCell ⟨b, 0, none⟩ u).setCell ⟨b, 1, none⟩ v).cell? ⟨b, 1, none⟩ = some v := by
  have b1 : (V.setCell ⟨b, 0, none⟩ u).heap[b]? = some (.cells #[u, .slice none 0 0] 25 (0, 0)) := by simp [World.setCell, Array.getElem?_modify, hz]
  have b2 : ((V.setCell ⟨b, 0, none⟩ u).setCell ⟨b, 1, none⟩ v).heap[b]? = some (.cells #[u, v] 25 (0, 0)) := by
    rw [World.setCell, Array.getElem?_modify, if_pos rfl, b1]; rfl
  exact ⟨(h1.off hz (by simp) (by simp)).off b1 hu (by simp), (h2.off hz (by simp) (by simp)).off b1 hu (by simp), (hb.setCell (by exact hge) _).setCell (by exact hge) _,
    by rw [cell_of_row _ _ _ _ _ _ b2]; rfl, by rw [cell_of_row _ _ _ _ _ _ b2]; rfl⟩
theorem zero_cells {V : World} {b : Nat} (hz : V.heap[b]? = some (.cells #[Value.slice none 0 0, .slice none 0 0] 25 (0, 0))) : V.cell? ⟨b, 0, none⟩ = some (.slice none 0 0) ∧ V.cell? ⟨b, 1, none⟩ = some (.slice none 0 0) ∧ V.frozen? ⟨b, 0, none⟩ = false ∧ V.frozen? ⟨b, 1, none⟩ = false :=
  ⟨by rw [cell_of_row _ _ _ _ _ _ hz]; rfl, by rw [cell_of_row _ _ _ _ _ _ hz]; rfl, by simp [World.frozen?, hz], by simp [World.frozen?, hz]⟩
def RW (w : World) (D : Nat) (i : Value) (wr : World) : Prop :=
  ∃ (k : Nat) (vl vh : Value), k ≤ D ∧ i = .int .i64 k ∧ Bx wr (w.heap.size + 1) vl vh (List.replicate k 0) (List.replicate k 4294967295) ∧ Below (w.heap.size + 1) (w.alloc (.cells #[Value.slice none 0 0, .slice none 0 0] 25)) wr
set_option maxRecDepth 100000 in
set_option maxHeartbeats 2000000 in
theorem refWhole_ok (dim : Int) (w : World) : Calls Try.prog 25 #[.int .i64 dim] w (OneBox w (wholeLo dim) (wholeHi dim)) := by
  obtain ⟨oz, hoz⟩ : ∃ o, o = Obj.cells #[Value.slice none 0 0, .slice none 0 0] 25 := ⟨_, rfl⟩
  obtain ⟨D, hD⟩ : ∃ D : Nat, D = if 1 ≤ dim ∧ dim ≤ 6 then dim.toNat else 0 := ⟨_, rfl⟩
  have HLo : Hid (wholeLo dim = List.replicate D 0) := hid (by unfold wholeLo lowW; rw [hD]; split <;> rfl)
  have HHi : Hid (wholeHi dim = List.replicate D 4294967295) := hid (by unfold wholeHi highW; rw [hD]; split <;> rfl)
  have HDD : Hid (D ≤ 6 ∧ ((1 ≤ dim ∧ dim ≤ 6 ∧ dim = D) ∨ (D = 0 ∧ (dim < 1 ∨ 6 < dim)))) := hid (by rw [hD]; split <;> omega)
  clear hD
  have HB0 := hid (below_alloc w oz)
  have HX0 := hid (new_bx (w.alloc oz))
  have HZ0 := hid (heap_alloc_new w oz)
  subst hoz
  rw [World.size_alloc] at HX0
  obtain ⟨i0, hi0, hz0, hz1, hz2⟩ := info_parts info46'
  go_enter Try.func25, Try.ntmps25
  go_wp2_with fail
  go_loopw [4] (fun i wr => RW w D i wr) (fun i _ => D - (intOf i).toNat)
  case atStart => exact ⟨0, _, _, by omega, rfl, HX0.out, (Below.refl _ _).alloc (by simp) _⟩
  case round =>
    obtain ⟨k, vl, vh, hk, rfl, hx, hb⟩ := hrel
    have HX := hid hx; have HB := hid hb; clear hx hb
    have c1 := HX.out.cells
    by_cases hlt : k < D
    · obtain rfl : dim = (D : Int) := by have := HDD.out; omega
      have HD6 := hid (show D ≤ 6 by have := HDD.out; omega)
      have e1 : decide ((D : Int) ≤ 6) = true := by have := HD6.out; simp; omega
      have HSZ := hid HX.out.lt
      have hk6 : k ≤ 6 := by have := HD6.out; omega
      have hmax : k + 1 ≤ maxLen := by unfold maxLen; omega
      have hby : (k + 1) * 4 ≤ 140737488355328 := by omega
      have HOL : Hid (wr.ownsRow (w.heap.size + 2) 47 1 vl k (kl (List.replicate k 0))) := hid (by have := HX.out.ol; rw [List.length_replicate] at this; exact this)
      have HSA : Hid (w.heap.size + 2 ≤ (wr.alloc (.cells #[Value.int .u32 0] 47)).heap.size) := hid (by have := HSZ.out; simp; omega)
      go_wp2_with (first
        | (at_builtin
           refine wpList_append_lies _ rfl (.tmp 16) (.tmp 17) _ rfl (w.heap.size + 2) 47 i0 _ 1 4 Try.underlying23 hi0 hz0 hz1 hz2 rfl (by omega) vl k (kl (List.replicate k 0)) rfl (HOL.out.alloc _)
             ⟨wr.heap.size, 0, none⟩ 1 1 [.int .u32 0] rfl rfl (World.news_of_block (cs := #[.int .u32 0]) (t := 47) (fr := (0, 0)) (heap_alloc_new wr _)) (by simp [Value.oneCell']) (by omega) hmax hby HSA.out (wr.heap.size + 1) (by simp) ?_
           intro gg cap w2 ho hg hat _
           have HO := hid ho; have HG := hid hg; have HA := hid hat; clear ho hg hat
           have c2 := HX.out.midc (.inl rfl) HG.out
           have HX2 := hid (HX.out.pushLo (x := 0) (by rw [List.length_replicate]) HO.out HG.out HA.out)
           have HB2 := hid (bel_push (i := 0) HB.out HOL.out HG.out HSZ.out (.slice (some ⟨gg, 0, none⟩) (k + 1) cap))
           clear HO HG HA c1
           have HOH : Hid ((w2.setCell ⟨w.heap.size + 1, 0, none⟩ (.slice (some ⟨gg, 0, none⟩) (k + 1) cap)).ownsRow (w.heap.size + 2) 47 1 vh k (kl (List.replicate k 4294967295))) := hid (by have := HX2.out.oh; rw [List.length_replicate] at this; exact this)
           have HSB : Hid (w.heap.size + 2 ≤ ((w2.setCell ⟨w.heap.size + 1, 0, none⟩ (.slice (some ⟨gg, 0, none⟩) (k + 1) cap)).alloc (.cells #[Value.int .u32 4294967295] 47)).heap.size) := hid (by have := HX2.out.lt; simp at this ⊢; omega)
           have HN2 := hid (World.news_of_block (cs := #[.int .u32 4294967295]) (t := 47) (fr := (0, 0)) (w := (w2.setCell ⟨w.heap.size + 1, 0, none⟩ (.slice (some ⟨gg, 0, none⟩) (k + 1) cap)).alloc (.cells #[Value.int .u32 4294967295] 47)) (B := w2.heap.size) (by
             have := heap_alloc_new (w2.setCell ⟨w.heap.size + 1, 0, none⟩ (.slice (some ⟨gg, 0, none⟩) (k + 1) cap)) (.cells #[Value.int .u32 4294967295] 47)
             rw [World.size_setCell] at this; exact this)))
        | (at_builtin
           refine wpList_append_lies _ rfl (.tmp 21) (.tmp 22) _ rfl (w.heap.size + 2) 47 i0 _ 1 4 Try.underlying23 hi0 hz0 hz1 hz2 rfl (by omega) vh k (kl (List.replicate k 4294967295)) rfl (HOH.out.alloc _)
             ⟨w2.heap.size, 0, none⟩ 1 1 [.int .u32 4294967295] rfl rfl HN2.out (by simp [Value.oneCell']) (by omega) hmax hby HSB.out (w2.heap.size + 1) (by simp) ?_
           intro g3 cap3 w4 ho hg hat _
           have HO := hid ho; have HG := hid hg; have HA := hid hat; clear ho hg hat
           have c4 := HX2.out.midc (.inr rfl) HG.out
           have HX3 := hid (HX2.out.pushHi (x := 4294967295) (by rw [List.length_replicate]) HO.out HG.out (by rw [World.size_setCell]; exact HA.out))
           have HB3 := hid (bel_push (i := 1) HB2.out HOH.out HG.out HX2.out.lt (.slice (some ⟨g3, 0, none⟩) (k + 1) cap3))
           clear HO HG HA))
      go_roundw
      case rel => exact ⟨k + 1, _, _, by omega, by go_num, by have := HX3.out; rw [rep_snoc, rep_snoc] at this; exact this, HB3.out⟩
      case measure => simp [intOf]; omega
    · obtain rfl : k = D := by omega
      have HR := hid (HX.out.read (rep_fit _ _ (by omega)) (rep_fit _ _ (by omega)))
      obtain ⟨A, c, A', c', rfl, rfl, p1, p2⟩ := HR.out
      have P1 := hid p1; have P2 := hid p2; clear p1 p2 HR
      have hz := (HB.out.block w.heap.size (by omega)).trans HZ0.out
      have HS := hid (store_out ((HB0.out).trans (HB.out.mono (by omega))) (Nat.le_refl _) hz P1.out P2.out (.slice A k c) (.slice A' k c') (by simp))
      have z := zero_cells hz
      have HDK := hid HDD.out.2
      clear hz hk hlt
      rcases HDK.out with ⟨h1, h2, h3⟩ | ⟨h1, h2⟩
      · have e1 : decide ((k : Int) < dim) = false := by simp; omega
        clear h1 h2 h3
        go_wp2_with fail
        have z2 := HS.out.2.2.2
        refine bodyPost_ret (v := .agg #[.slice A k c, .slice A' k c']) (by simp [results, Try.results25, go_sem, z2]) rfl ?_
        rw [HLo.out, HHi.out]
        exact ⟨A, c, A', c', by rw [List.length_replicate, List.length_replicate], HS.out.1, HS.out.2.1, HS.out.2.2.1⟩
      · have e1 : (decide ((k : Int) < dim) && decide (dim ≤ 6)) = false := by
          rw [Bool.and_eq_false_iff]; simp; omega
        by_cases h3 : (k : Int) < dim
        · have e2 : decide ((k : Int) < dim) = true := by simpa using h3
          have e3 : decide (dim ≤ 6) = false := by simp; omega
          clear h1 h2 h3 e1
          go_wp2_with fail
          have z2 := HS.out.2.2.2
          refine bodyPost_ret (v := .agg #[.slice A k c, .slice A' k c']) (by simp [results, Try.results25, go_sem, z2]) rfl ?_
          rw [HLo.out, HHi.out]
          exact ⟨A, c, A', c', by rw [List.length_replicate, List.length_replicate], HS.out.1, HS.out.2.1, HS.out.2.2.1⟩
        · have e2 : decide ((k : Int) < dim) = false := by simpa using h3
          clear h1 h2 h3 e1
          go_wp2_with fail
          have z2 := HS.out.2.2.2
          refine bodyPost_ret (v := .agg #[.slice A k c, .slice A' k c']) (by simp [results, Try.results25, go_sem, z2]) rfl ?_
          rw [HLo.out, HHi.out]
          exact ⟨A, c, A', c', by rw [List.length_replicate, List.length_replicate], HS.out.1, HS.out.2.1, HS.out.2.2.1⟩
end Go.Proofs.Ytolnbamdddiifaa.Ky
