/- LinearOrder walked: of one coordinate chains are in the points' order. -/
import Derived.Test.YtalohakibpjmmaaLnLive
import Derived.Test.YtalohakibpjmmaaKyOpen
namespace Go.Proofs.Ytalohakibpjmmaa
open Go.RowKit
open Go.Lib (hid)
open Go.ChangeShapes Go.WideShapes Go.Joins Go.Deep
open Go.Proofs.Ytalohakibpjmmaa.Ky
open Go.Proofs.Ytalohakibpjmmaa.Bk
open Go.Proofs.Ytalohakibpjmmaa.Ex
open Go.Proofs.Ytalohakibpjmmaa.Ln
theorem cTwo : Try.prog.cellsOf 49 = 4 := by kernel_rfl
def TwoV (v : Value) : Prop := ∃ (a b : Nat) (l x : Int), v = .agg #[.int .u32 (a : Int), .int .u32 (b : Int), .int .i64 l, .int .i64 x] ∧ a < 4294967296 ∧ b < 4294967296
section
variable {H : Type} {enc : TypeId × Value → H} {W : World} {base : Nat} {sp : Nat → Bool} {hd : Bool}
theorem read_k (t : TypeId) (k : IntKind) (j : Nat) {n : Nat} {x : Value} {l : List Value} {o : Option (DataW H × List MemPlace)} (ht : Try.prog.underlying t = some (.int k)) (hc : Try.prog.cellsOf t = 1) (hx : l[j]? = some x) (ho : o.isSome = true)
    (h : DataW.trod enc Try.prog W base sp hd n t ((l.drop j).take (Try.prog.cellsOf t)) = o) : ∃ a : Int, x = .int k a ∧ (Lit.int k a).wf = true := by
  obtain ⟨y, rfl⟩ := Option.isSome_iff_exists.1 ho
  have hxx : (l.drop j).take (Try.prog.cellsOf t) = [x] := by
    rw [hc]
    obtain ⟨h, e⟩ := List.getElem?_eq_some_iff.1 hx
    rw [List.drop_eq_getElem_cons h, e]; rfl
  rw [hxx] at h
  obtain ⟨a, e, _, wa⟩ := DataW.trod_int ht h
  simp at e
  exact ⟨a, e, wa⟩
end
set_option maxRecDepth 100000 in
theorem LinearOrder_open0 {H : Type} {enc : TypeId × Value → H} {W : World} {base : Nat} {v : Value} {d : DataW H} {p : List MemPlace} (hv : Value.okWide Try.prog W .any base 49 v) (h : DataW.Trod enc Try.prog W 0 (fun _ => true) true 49 v d p) : TwoV v := by
  obtain ⟨cs, rfl, hsz⟩ := okWide_struct Try.underlying49 hv
  obtain ⟨fuel, hf⟩ := h
  rw [cTwo] at hsz
  obtain ⟨l⟩ := cs
  have hl : l.length = 4 := hsz
  obtain ⟨x0, x1, x2, x3, rfl⟩ : ∃ x0 x1 x2 x3, l = [x0, x1, x2, x3] := by
    match l, hl with
    | [x0, x1, x2, x3], _ => exact ⟨x0, x1, x2, x3, rfl⟩
  obtain ⟨xs, m, _, _, _, hlen, hff⟩ := DataW.trod_struct Try.underlying49 hf
  have hlen4 : xs.length = 4 := hlen
  have some_at : ∀ j, j < 4 → (xs[j]?).isSome = true := fun j hj => by rw [List.getElem?_eq_getElem (by omega)]; rfl
  obtain ⟨a, rfl, wa⟩ := read_k 47 .u32 0 Try.underlying47 c46 rfl (some_at 0 (by omega)) (hff 0 _ rfl)
  obtain ⟨b, rfl, wb⟩ := read_k 47 .u32 1 Try.underlying47 c46 rfl (some_at 1 (by omega)) (hff 1 _ rfl)
  obtain ⟨c, rfl, _⟩ := read_k 3 .i64 2 Try.underlying3 c3 rfl (some_at 2 (by omega)) (hff 2 _ rfl)
  obtain ⟨e, rfl, _⟩ := read_k 3 .i64 3 Try.underlying3 c3 rfl (some_at 3 (by omega)) (hff 3 _ rfl)
  have ha := wf_u32 wa
  have hb := wf_u32 wb
  refine ⟨a.toNat, b.toNat, c, e, ?_, by omega, by omega⟩
  rw [Int.toNat_of_nonneg ha.1, Int.toNat_of_nonneg hb.1]
theorem bits_one (a : Nat) : ∀ D, D ≤ 32 → a < 4294967296 → bitsK [a] D = a / 2 ^ (32 - D)
  | 0, _, h => by simp [bitsK, Nat.div_eq_of_lt h]
  | D + 1, hD, h => by
    have ih := bits_one a D (by omega) h
    have e1 : bitK [a] D = a / 2 ^ (31 - D) % 2 := by
      unfold bitK
      simp [Nat.mod_one]
    rw [show bitsK [a] (D + 1) = 2 * bitsK [a] D + bitK [a] D from rfl, ih, e1, show 32 - D = (31 - D) + 1 by omega, show 32 - (D + 1) = 31 - D by omega, Nat.pow_succ, ← Nat.div_div_eq_div_mul]
    omega
theorem fnd_mono {a b L X : Nat} (hL : L ≤ 10) (ha : a < 4294967296) (hb : b < 4294967296) (h : a ≤ b) : fnd [a] L X ≤ fnd [b] L X := by
  have h1 := bits_half [a] L
  have h2 := bits_half [b] L
  have h3 : bitsK [a] (L + 1) ≤ bitsK [b] (L + 1) := by rw [bits_one a _ (by omega) ha, bits_one b _ (by omega) hb]; exact Nat.div_le_div_right h
  unfold fnd
  split <;> split <;> omega
/-- a point of one coordinate, laid and looked for -/
theorem find_new (a : Nat) (l x : Int) (ha : a < 4294967296) (V : World) : Calls Try.prog 12 #[.slice (some ⟨V.heap.size, 0, none⟩) 1 1, .int .i64 l, .int .i64 x] (V.alloc (.cells #[.int .u32 (a : Int)] 47)) fun e w' => e = .returned (.tuple #[.int .i64 (fV [a] l x), .int .i64 (err (lvB l x))]) ∧ ∃ m, w' = (V.alloc (.cells #[.int .u32 (a : Int)] 47)).drewN m := by
  have hp : Pt (V.alloc (.cells #[.int .u32 (a : Int)] 47)) (some ⟨V.heap.size, 0, none⟩) [a] := (show Own (V.alloc (.cells (kcs [a]) 47)) V.heap.size [a] from heap_alloc_new _ _).pt (by simp; omega)
  have := findL_ok [a] _ 1 l x _ hp (by simp)
  rw [show fB [a] l x = lvB l x by unfold fB; simp [mayN]] at this
  exact this
set_option maxRecDepth 100000 in
set_option maxHeartbeats 4000000 in
theorem LinearOrder_walk (v : Value) (w : World) (h : TwoV v) :
    Calls Try.prog 8 #[v] w fun e w' => e = .returned (.bool true) ∧ Below w.heap.size w w' := by
  obtain ⟨a, b, l, x, rfl, ha, hb⟩ := h
  obtain ⟨W, hW⟩ : ∃ W, w.alloc (.cells #[.int .u32 (a : Int), .int .u32 (b : Int), .int .i64 l, .int .i64 x] 49) = W := ⟨_, rfl⟩
  have HB := hid (show Below w.heap.size w W by rw [← hW]; exact below_alloc _ _)
  have hg : W.heap[w.heap.size]? = some (.cells #[.int .u32 (a : Int), .int .u32 (b : Int), .int .i64 l, .int .i64 x] 49 (0, 0)) := by rw [← hW]; exact heap_alloc_new _ _
  have x0 : W.cell? ⟨w.heap.size, 0, none⟩ = some (.int .u32 (a : Int)) := by rw [cell_of_row _ _ _ _ _ _ hg]; rfl
  have x1 : W.cell? ⟨w.heap.size, 1, none⟩ = some (.int .u32 (b : Int)) := by rw [cell_of_row _ _ _ _ _ _ hg]; rfl
  have x2 : W.cell? ⟨w.heap.size, 2, none⟩ = some (.int .i64 l) := by rw [cell_of_row _ _ _ _ _ _ hg]; rfl
  have x3 : W.cell? ⟨w.heap.size, 3, none⟩ = some (.int .i64 x) := by rw [cell_of_row _ _ _ _ _ _ hg]; rfl
  have HA := hid fun V : World => find_new a l x ha V
  have HF := hid fun V : World => find_new b l x hb V
  cases hv : lvB l x with
  | false =>
    rw [hv, show fV [a] l x = 0 by unfold fV fB; rw [hv]; rfl, err_false false rfl] at HA
    rw [hv, show fV [b] l x = 0 by unfold fV fB; rw [hv]; rfl, err_false false rfl] at HF
    clear hg hv ha hb
    go_enter Try.func8, Try.ntmps8
    go_wp2_with fail
    go_quiet (fail)
    go_wp2_with fail
    refine (HA.out (W.drewN _)).mono ?_
    rintro e w1 ⟨rfl, m, hw⟩
    have H1 := hid (show Below w.heap.size w w1 by rw [hw]; exact below_drewN ((below_drewN HB.out _).alloc (below_drewN HB.out _).size _) m)
    clear hw x0 x1 x2 x3
    go_wp2_with fail
    refine (HF.out w1).mono ?_
    rintro e w2 ⟨rfl, m, hw⟩
    have H2 := hid (show Below w.heap.size w w2 by rw [hw]; exact below_drewN (H1.out.alloc H1.out.size _) m)
    clear hw
    go_wp2_with fail
    refine (Ln.live_any _).mono ?_
    rintro e w3 ⟨rfl, hb⟩
    have H3 := hid (H2.out.trans (hb.mono H2.out.size)); clear hb
    go_wp2_with fail
    go_ret
    exact ⟨rfl, H3.out⟩
  | true =>
    obtain ⟨L, X, rfl, hL, rfl, hX⟩ := lvB_iff.1 hv
    rw [hv, show fV [a] (L : Int) (X : Int) = (fnd [a] L X : Nat) by unfold fV fB; rw [hv, show mayN [a].length = true from rfl, Int.toNat_natCast, Int.toNat_natCast]; rfl, err_true true rfl] at HA
    rw [hv, show fV [b] (L : Int) (X : Int) = (fnd [b] L X : Nat) by unfold fV fB; rw [hv, show mayN [b].length = true from rfl, Int.toNat_natCast, Int.toNat_natCast]; rfl, err_true true rfl] at HF
    have hmn : a ≤ b → fnd [a] L X ≤ fnd [b] L X := fnd_mono hL ha hb
    generalize fnd [a] L X = na at HA hmn
    generalize fnd [b] L X = nb at HF hmn
    by_cases hab : b < a
    · have d1 : decide ((b : Int) < (a : Int)) = true := by simpa using hab
      have d1' : decide (b < a) = true := by simpa using hab
      clear hg hv ha hb hL hX hmn hab
      go_enter Try.func8, Try.ntmps8
      go_wp2_with fail
      go_quiet (fail)
      go_wp2_with fail
      refine (HA.out (W.drewN _)).mono ?_
      rintro e w1 ⟨rfl, m, hw⟩
      have H1 := hid (show Below w.heap.size w w1 by rw [hw]; exact below_drewN ((below_drewN HB.out _).alloc (below_drewN HB.out _).size _) m)
      clear hw x0 x1 x2 x3
      go_wp2_with fail
      refine (HF.out w1).mono ?_
      rintro e w2 ⟨rfl, m, hw⟩
      have H2 := hid (show Below w.heap.size w w2 by rw [hw]; exact below_drewN (H1.out.alloc H1.out.size _) m)
      clear hw
      go_wp2_with fail
      refine (Ln.live_any _).mono ?_
      rintro e w3 ⟨rfl, hb⟩
      have H3 := hid (H2.out.trans (hb.mono H2.out.size)); clear hb
      go_wp2_with fail
      go_ret
      exact ⟨rfl, H3.out⟩
    · have d1 : decide ((b : Int) < (a : Int)) = false := by simp; omega
      have d1' : decide (b < a) = false := by simpa using hab
      have hm := hmn (by omega)
      have d2 : decide ((na : Int) ≤ (nb : Int)) = true := by simpa using hm
      have d2' : decide (na ≤ nb) = true := by simpa using hm
      clear hg hv ha hb hL hX hmn hab hm
      go_enter Try.func8, Try.ntmps8
      go_wp2_with fail
      go_quiet (fail)
      go_wp2_with fail
      refine (HA.out (W.drewN _)).mono ?_
      rintro e w1 ⟨rfl, m, hw⟩
      have H1 := hid (show Below w.heap.size w w1 by rw [hw]; exact below_drewN ((below_drewN HB.out _).alloc (below_drewN HB.out _).size _) m)
      clear hw x0 x1 x2 x3
      go_wp2_with fail
      refine (HF.out w1).mono ?_
      rintro e w2 ⟨rfl, m, hw⟩
      have H2 := hid (show Below w.heap.size w w2 by rw [hw]; exact below_drewN (H1.out.alloc H1.out.size _) m)
      clear hw
      go_wp2_with fail
      refine (Ln.live_any _).mono ?_
      rintro e w3 ⟨rfl, hb⟩
      have H3 := hid (H2.out.trans (hb.mono H2.out.size)); clear hb
      go_wp2_with fail
      go_ret
      exact ⟨rfl, H3.out⟩
end Go.Proofs.Ytalohakibpjmmaa
