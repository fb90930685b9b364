/- Of of the reference: a disk of an image, or none. -/
import Derived.Test.YtlkejjclmamlaaaDkSame
import Derived.Test.YtlkejjclmamlaaaBkApp
namespace Go.Proofs.Ytlkejjclmamlaaa.Dk
open Go.RowKit
open Go.Lib (hid)
open Go.Proofs.Ytlkejjclmamlaaa.Bk (Owns ReadAt step_app run_app_own)

theorem ballocS (w : World) (o : Obj) : Below w.heap.size w (w.alloc o) := (Below.refl _ _).alloc (Nat.le_refl _) o
theorem strinfo : (Try.prog.info? 9).map (fun i => (i.zero, i.size, i.bytes)) = some (some (.string ⟨#[]⟩), 1, 16) := by kernel_rfl
theorem str_own {w : World} (ty : TypeId) {base : Nat} (v : Value) (n : Nat) (xs : List Value) (hown : w.ownsRow base 9 1 v n xs) (q : Option Addr) (m c : Nat) (news : List Value) (hq : ReadAt w q news) (hl : news.length = m * 1) (h1 : ∀ u ∈ news, u.oneCell' = true) (hb : n + m ≤ 1000000) (hbase : base ≤ w.heap.size) :
    ∃ v' w', (Builtin.append_ #[85, 85] ty #[v, .slice q m c]).run Try.prog w = .ok v' w' ∧ Owns w base 9 1 v (n + m) (xs ++ news) v' w' := by
  obtain ⟨i, hi, hz0, hz1, hz2⟩ := info_parts strinfo
  exact run_app_own (P := Try.prog) Try.underlying85 hi hz0 hz1 hz2 rfl (by decide) ty v n xs hown q m c news hq hl h1 (by unfold maxLen; omega) (by omega) hbase
theorem sread_one (W : World) (u : Value) (T : TypeId) : ReadAt (W.alloc (.cells #[u] T)) (some ⟨W.heap.size, 0, none⟩) [u] := fun j y hj => by
  refine ⟨W.heap.size, 0, rfl, by simp, ?_⟩
  rw [cell_of_row _ _ _ _ _ _ (heap_alloc_new W _), Nat.zero_add]
  match j, hj with
  | 0, hj => simpa using hj
/-- the reference's disk under way: so many pages -/
structure PR (w V : World) (g : Nat) (v : Value) (l : List ByteArray) : Prop where
  box : V.heap[g]? = some (.cells #[v, .slice none 0 0, .int .i64 0, .int .i64 0, .int .i64 0, .int .i64 (-1)] 88 (0, 0))
  own : V.ownsRow (g + 1) 9 1 v l.length (sv l)
  below : Below g w V
theorem PR.lt {w V : World} {g : Nat} {v : Value} {l : List ByteArray} (h : PR w V g v l) : g < V.heap.size := (Array.getElem?_eq_some_iff.1 h.box).1
theorem PR.cell {w V : World} {g : Nat} {v : Value} {l : List ByteArray} (h : PR w V g v l) : V.cell? ⟨g, 0, none⟩ = some v ∧ V.frozen? ⟨g, 0, none⟩ = false :=
  ⟨by rw [cell_of_row _ _ _ _ _ _ h.box]; rfl, frozen_of_row _ _ _ _ _ h.box⟩
theorem own_belowS {w w' : World} {base e size n : Nat} {v : Value} {xs : List Value} (h : w.ownsRow base e size v n xs) (hb : Below w.heap.size w w') : w'.ownsRow base e size v n xs := by
  refine ⟨h.1, ?_⟩
  rcases h.2 with hn | ⟨g, cap, cur, hv, hb0, hg, rest⟩
  · exact .inl hn
  · exact .inr ⟨g, cap, cur, hv, hb0, by rw [hb.block g (Array.getElem?_eq_some_iff.1 hg).1]; exact hg, rest⟩
theorem own_setS {w : World} {base e size n g i : Nat} {v u : Value} {xs : List Value} (h : w.ownsRow base e size v n xs) (hg : g < base) : (w.setCell ⟨g, i, none⟩ u).ownsRow base e size v n xs := by
  refine ⟨h.1, ?_⟩
  rcases h.2 with hn | ⟨g', cap, cur, hv, hb0, hh, rest⟩
  · exact .inl hn
  · exact .inr ⟨g', cap, cur, hv, hb0, by rw [heap_setCell_other _ _ _ _ (show g' ≠ g by omega)]; exact hh, rest⟩
theorem row_sliceS {w : World} {base e size n : Nat} {v : Value} {xs : List Value} (h : w.ownsRow base e size v n xs) : ∃ p m c, v = .slice p m c := by
  rcases h.2 with ⟨rfl, _⟩ | ⟨g, cap, cur, rfl, _⟩
  · exact ⟨_, _, _, rfl⟩
  · exact ⟨_, _, _, rfl⟩
/-- one more page: an array of it, the append, the store -/
theorem PR.more {w V w4 : World} {g : Nat} {v v' : Value} {l : List ByteArray} {t : ByteArray} (h : PR w V g v l) (hgw : g = w.heap.size) {W : World} (hW : Below V.heap.size V W)
    (ho : Owns W (g + 1) 9 1 v (l.length + 1) (sv l ++ [.string t]) v' w4) :
    PR w (w4.setCell ⟨g, 0, none⟩ v') g v' (l ++ [t]) ∧ w4.cell? ⟨g, 0, none⟩ = some v ∧ w4.frozen? ⟨g, 0, none⟩ = false := by
  obtain ⟨h1, h2, h3⟩ := ho
  have hlt := h.lt
  have hne : ∀ b, v.ownBlock = some b → b ≠ g := fun b hb => by have := (h.own.lt b hb).1; omega
  have hbx : w4.heap[g]? = some (.cells #[v, .slice none 0 0, .int .i64 0, .int .i64 0, .int .i64 0, .int .i64 (-1)] 88 (0, 0)) := by
    rw [h2.block g (Nat.lt_of_lt_of_le hlt hW.size) (fun e => hne g e.symm rfl), hW.block g hlt]; exact h.box
  refine ⟨⟨?_, ?_, ?_⟩, by rw [cell_of_row _ _ _ _ _ _ hbx]; rfl, frozen_of_row _ _ _ _ _ hbx⟩
  · rw [heap_setCell_same _ _ _ _ _ _ hbx]; simp
  · rw [List.length_append, show sv (l ++ [t]) = sv l ++ [.string t] by simp [sv]]
    exact own_setS h1 (Nat.lt_succ_self g)
  · have hb1 : Below g w W := h.below.trans (hW.mono (Nat.le_of_lt hlt))
    have hb2 : Below g w w4 := hb1.grown h2 (Nat.le_of_lt (Nat.lt_of_lt_of_le hlt hW.size)) (fun k hk => by have := (h.own.lt k hk).1; omega)
    exact hb2.setCell (p := ⟨g, 0, none⟩) (Nat.le_refl _) _
def OfPost (w : World) (ok : Bool) (e : Ending) (w' : World) : Prop :=
  Below w.heap.size w w' ∧ ((ok = true ∧ ∃ D, e = .returned (.tuple #[.pointer (some ⟨D, 0, none⟩), .int .i64 0])) ∨ (ok = false ∧ e = .returned (.tuple #[.pointer none, .int .i64 1])))
/-- may these texts be an image? -/
def imgOk (l : List ByteArray) : Bool := l.all fun t => t.size == 256
set_option maxHeartbeats 400000 in
theorem refOf_few (p : Option Addr) (c : Nat) (w : World) :
    Calls Try.prog 58 #[.slice p 0 c] w fun e w' => e = .returned (.tuple #[.pointer none, .int .i64 1]) ∧ w = w' := by
  go_enter Try.func58, Try.ntmps58
  go_wp2_with fail
  go_ret2
  exact ⟨rfl, rfl⟩
set_option maxRecDepth 100000 in
set_option maxHeartbeats 4000000 in
theorem refOf_ok (l : List ByteArray) (p : Option Addr) (c : Nat) (w : World) (h1 : 1 ≤ l.length) (h2 : l.length ≤ 1000) (hs : ∀ t ∈ l, t.size ≤ 100000) (hp : CellsAt w p (sv l)) (hlt0 : ∀ b off, p = some ⟨b, off, none⟩ → b < w.heap.size) :
    Calls Try.prog 58 #[.slice p l.length c] w (OfPost w (imgOk l)) := by
  have HP := hid hp; have HL0 := hid hlt0; have HSZ := hid hs; clear hp hlt0 hs
  have e1 : decide ((l.length : Int) < 1) = false := by simp; omega
  have e2 : decide ((1000 : Int) < (l.length : Int)) = false := by simp; omega
  go_enter Try.func58, Try.ntmps58
  go_wp2_with fail
  clear e1 e2
  go_loopw [5] (fun i wr => ∃ (k : Nat) (v : Value), k ≤ l.length ∧ i = .int .i64 k ∧ PR w wr w.heap.size v (l.take k) ∧ imgOk (l.take k) = true) (fun i _ => l.length - (intOf i).toNat)
  case atStart =>
    refine ⟨0, .slice none 0 0, by omega, rfl, ⟨?_, World.ownsRow_nil _ _ _ _, ?_⟩, rfl⟩
    · exact heap_alloc_new _ _
    · exact ballocS w _
  case round =>
    obtain ⟨k, v, hk, rfl, hpr, hok⟩ := hrel
    have HK := hid hpr; have HOK := hid hok; clear hpr hok
    rename World => w0
    by_cases hlt : k < l.length
    · obtain ⟨b, off, rfl, hc⟩ := HP.out k (by rw [sv_length]; exact hlt)
      have hbw := HL0.out b off rfl
      have hc0 : w.cell? ⟨b, off + k, none⟩ = some (.string l[k]) := by have := hc; simp [sv] at this; exact this
      have hc1 : w0.cell? ⟨b, off + k, none⟩ = some (.string l[k]) := by rw [HK.out.below.cell (p := ⟨b, off + k, none⟩) hbw]; exact hc0
      have HNX : Hid (l.take (k + 1) = l.take k ++ [l[k]]) := hid (List.take_succ_eq_append_getElem hlt)
      have hsz := HSZ.out _ (List.getElem_mem hlt)
      have htk : (l.take k).length = k := by rw [List.length_take]; omega
      clear hc hc0
      by_cases hn : l[k].size = 256
      · have HOK2 : Hid (imgOk (l.take (k + 1)) = true) := hid (by
          rw [HNX.out]; unfold imgOk; rw [List.all_append]
          have := HOK.out; unfold imgOk at this; rw [this]; simp [hn])
        generalize l[k] = t at hc1 hn HNX hsz
        have e3 : ((t.size : Int) != 256) = false := by simp; omega
        clear hn
        obtain ⟨c0, f0⟩ := HK.out.cell
        have HW := hid (ballocS w0 (.cells #[.string t] 9)).drew
        have HAP := hid (str_own (w := (w0.alloc (.cells #[.string t] 9)).drew) 85 v (l.take k).length (sv (l.take k)) (own_belowS HK.out.own HW.out) (some ⟨w0.heap.size, 0, none⟩) 1 1 [.string t] (fun j u hj => by obtain ⟨b', o', h1, h2, h3⟩ := sread_one w0 (.string t) 9 j u hj; exact ⟨b', o', h1, h2, h3⟩) rfl (by simp [Value.oneCell']) (by omega) (by have := HK.out.lt; simp; omega))
        have c5 : (w0.alloc (.cells #[.string t] 9)).cell? ⟨w.heap.size, 0, none⟩ = some v := (HW.out.cell (p := ⟨w.heap.size, 0, none⟩) HK.out.lt).trans c0
        have c6 : (w0.alloc (.cells #[.string t] 9)).cell? ⟨b, off + k, none⟩ = some (.string t) := (HW.out.cell (p := ⟨b, off + k, none⟩) (Nat.lt_of_lt_of_le hbw HK.out.below.size)).trans hc1
        go_wp2_with fail
        go_region_law (first
          | (refine step_app (by rfl) _ _ _ (by rfl) (by rfl) (by rfl) HAP.out ?_; intro v' w4 hF; obtain ⟨pp, nn, cc, hvv⟩ := Go.Proofs.Ytlkejjclmamlaaa.Dk.row_sliceS hF.1; subst hvv; have HM := hid (HK.out.more rfl HW.out hF); have c4 : w4.cell? ⟨w.heap.size, 0, none⟩ = some v := HM.out.2.1; have f4 : w4.frozen? ⟨w.heap.size, 0, none⟩ = false := HM.out.2.2; clear hF))
        all_goals
          clear c0 f0 c4 f4 c5 c6
          go_wp2_with fail
          go_roundw
          case rel => exact ⟨k + 1, _, by omega, by go_num, by rw [HNX.out]; exact HM.out.1, HOK2.out⟩
          case measure => simp [intOf]; omega
      · have HNO : Hid (imgOk l = false) := hid (by
          unfold imgOk
          rw [List.all_eq_false]
          exact ⟨l[k], List.getElem_mem hlt, by simpa using hn⟩)
        generalize l[k] = t at hc1 hn hsz
        have e3 : ((t.size : Int) != 256) = true := by simp; omega
        clear hn HNX
        go_wp2_with fail
        refine bodyPost_ret (v := .tuple #[.pointer none, .int .i64 1]) (by simp [results, Try.results58, go_sem]) rfl ?_
        exact ⟨HK.out.below, .inr ⟨HNO.out, rfl⟩⟩
    · obtain rfl : k = l.length := by omega
      have HYES : Hid (imgOk l = true) := hid (by have := HOK.out; rwa [List.take_length] at this)
      go_wp2_with fail
      refine bodyPost_ret (v := .tuple #[.pointer (some ⟨w.heap.size, 0, none⟩), .int .i64 0]) (by simp [results, Try.results58, go_sem]) rfl ?_
      exact ⟨HK.out.below, .inl ⟨HYES.out, _, rfl⟩⟩
end Go.Proofs.Ytlkejjclmamlaaa.Dk
