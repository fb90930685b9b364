/- Put and Cut, of both sides. -/
import Derived.Test.YtkjcbfdplhcjpaaBkFind
namespace Go.Proofs.Ytkjcbfdplhcjpaa.Bk
open Go.RowKit
open Go.Lib (hid)
open Go.Proofs.Ytkjcbfdplhcjpaa.Ky

theorem ReadAt.take {w : World} {p : Option Addr} {xs : List Value} (h : ReadAt w p xs) (n : Nat) : ReadAt w p (xs.take n) := fun j u hj => h j u (by
  rw [List.getElem?_take] at hj
  split at hj
  · exact hj
  · cases hj)
theorem ReadAt.drop {w : World} {p : Option Addr} {xs : List Value} (h : ReadAt w p xs) (n : Nat) : ReadAt w (cutP p n) (xs.drop n) := fun j u hj => by
  rw [List.getElem?_drop] at hj
  obtain ⟨b, off, e, hb, hc⟩ := h _ _ hj
  refine ⟨b, off + n, by rw [e]; unfold cutP; simp [addr_add], hb, ?_⟩
  rw [← hc]; congr 2; omega
theorem ReadAt.end {w : World} {p : Option Addr} {xs : List Value} {n : Nat} (h : xs.length ≤ n) : ReadAt w p (xs.drop n) := by
  rw [List.drop_eq_nil_of_le h]; exact ReadAt.nil w p
theorem Rs.open {D : Nat → Prop} {w : World} {p : Option Addr} {L : List Rec} (h : Rs D w p L) : ∃ xs, RC D w xs L ∧ ReadAt w p xs := by
  obtain ⟨xs, h1, h2⟩ := h
  exact ⟨xs, h1, fun j u hj => by
    obtain ⟨b, off, e, hb, _, hc⟩ := h2 j u hj
    exact ⟨b, off, e, hb, hc⟩⟩
/-- what a cut leaves, wherever it points -/
theorem read_cut {w : World} {p : Option Addr} {xs : List Value} (h : ReadAt w p xs) (n : Nat) (P : Option Addr) (hP : P = cutP p n ∨ xs.length ≤ n) : ReadAt w P (xs.drop n) := by
  rcases hP with rfl | hP
  · exact h.drop n
  · exact ReadAt.end hP
set_option maxRecDepth 100000 in
/-- the slices that Put and Cut take of a list, wherever it points -/
theorem slice_front (p : Option Addr) (len c n : Nat) (h : n ≤ len) (hc : len ≤ c) (w : World) : (Instr.slice 40 (.slice p len c) none (some (.int .i64 (n : Int))) (some (.int .i64 (n : Int)))).run Try.prog w = .ok (.slice p n n) w := by
  have hs : (sizeOf 33).run Try.prog w = .ok 2 w := by kernel_rfl
  rw [run_slice_hm w _ p len c (by kernel_rfl) .i64 .i64 n n (by omega) (by omega) (by omega)]
  have e : Try.prog.elem 40 = 33 := by kernel_rfl
  rw [e, hs]
  simp only [Result.andThen, sliced, Int.toNat_natCast, Nat.sub_zero, Nat.zero_mul]
  congr 2
  split
  · rfl
  · cases p with
    | none => rfl
    | some a => simp only [Option.map_some]; congr 1
set_option maxRecDepth 100000 in
theorem slice_back (p : Option Addr) (len c n : Nat) (h : n ≤ len) (hc : len ≤ c) : ∃ P, (P = cutP p (n * 2) ∨ len ≤ n) ∧ ∀ w : World, (Instr.slice 40 (.slice p len c) (some (.int .i64 (n : Int))) none none).run Try.prog w = .ok (.slice P (len - n) (c - n)) w := by
  refine ⟨if c = n then p else p.map fun a => a.add (n * 2), ?_, fun w => ?_⟩
  · split
    · right; omega
    · left; rfl
  · have hs : (sizeOf 33).run Try.prog w = .ok 2 w := by kernel_rfl
    rw [run_slice_l w _ p len c (by kernel_rfl) .i64 n (by omega) (by omega)]
    have e : Try.prog.elem 40 = 33 := by kernel_rfl
    rw [e, hs]
    simp only [Result.andThen, sliced, Int.toNat_natCast]
theorem read_new (W : World) (u v : Value) (T : TypeId) : ReadAt (W.alloc (.cells #[u, v] T)) (some ⟨W.heap.size, 0, none⟩) [u, v] := fun j y hj => by
  refine ⟨W.heap.size, 0, rfl, by simp, ?_⟩
  rw [cell_of_row _ _ _ _ _ _ (heap_alloc_new W _), Nat.zero_add]
  match j, hj with
  | 0, hj => simpa using hj
  | 1, hj => simpa using hj
theorem stay_two {w2 w' : World} {g : Nat} {u v x y : Value} {T : TypeId} (hg : g < w2.heap.size) (h0 : w2.cell? ⟨g, 0, none⟩ = some u) (h1 : w2.cell? ⟨g, 1, none⟩ = some v) (hb : Below (w2.drew.alloc (.cells #[x, y] T)).heap.size (w2.drew.alloc (.cells #[x, y] T)) w') : w'.cell? ⟨g, 0, none⟩ = some u ∧ w'.cell? ⟨g, 1, none⟩ = some v := by
  have hl : g < (w2.drew.alloc (.cells #[x, y] T)).heap.size := by simp; omega
  have e : ∀ i, (w2.drew.alloc (.cells #[x, y] T)).cell? ⟨g, i, none⟩ = w2.cell? ⟨g, i, none⟩ := fun i => World.cell?_alloc_lt w2.drew _ ⟨g, i, none⟩ hg
  exact ⟨(hb.cell (p := ⟨g, 0, none⟩) hl).trans ((e 0).trans h0), (hb.cell (p := ⟨g, 1, none⟩) hl).trans ((e 1).trans h1)⟩
theorem big_put {L : List Rec} {x : List Nat} {t : ByteArray} (hl : bigR L) (hx : x.length ≤ 1000) (ht : t.size ≤ 1000) (hl2 : L.length < 1000) : bigR (putR L (x, t)) := by
  refine ⟨by rw [putR_length]; split <;> omega, fun r hr => ?_⟩
  unfold putR at hr
  rcases List.mem_append.1 hr with h | h
  · exact hl.2 r (List.mem_of_mem_take h)
  · rcases List.mem_cons.1 h with rfl | h
    · exact ⟨hx, ht⟩
    · exact hl.2 r (List.mem_of_mem_drop h)
theorem big_cut {L : List Rec} (k : List Nat) (hl : bigR L) : bigR (cutR L k) := by
  refine ⟨by rw [cutR_length]; have := hl.1; split <;> omega, fun r hr => ?_⟩
  unfold cutR at hr
  split at hr
  · rcases List.mem_append.1 hr with h | h
    · exact hl.2 r (List.mem_of_mem_take h)
    · exact hl.2 r (List.mem_of_mem_drop h)
  · exact hl.2 r hr
theorem Rs.lt {w : World} {p : Option Addr} {L : List Rec} {N : Nat} (h : Rs (Lt N) w p L) {M : Nat} (hm : M ≤ N) : Rs (Lt M) w p L := h.less fun _ _ hb => Nat.lt_of_lt_of_le hb hm
theorem one_two (u v : Value) (hu : u.oneCell' = true) (hv : v.oneCell' = true) : ∀ y ∈ [u, v], y.oneCell' = true := fun y hy => by
  simp at hy; rcases hy with rfl | rfl <;> assumption
theorem mem_take {α : Type} {l : List α} {n : Nat} {P : α → Prop} (h : ∀ y ∈ l, P y) : ∀ y ∈ l.take n, P y := fun y hy => h y (List.mem_of_mem_take hy)
theorem mem_drop {α : Type} {l : List α} {n : Nat} {P : α → Prop} (h : ∀ y ∈ l, P y) : ∀ y ∈ l.drop n, P y := fun y hy => h y (List.mem_of_mem_drop hy)
/-- what the two appends of Put leave -/
theorem put_rows {w w5 : World} {base : Nat} {xs : List Value} {L M : List Rec} {x : List Nat} {t : ByteArray} {q : Option Addr} {c' n m : Nat} {v'' : Value} (hrc : RC (fun _ => False) w xs L) (hq : Pt w q x) (hn : n ≤ L.length) (hm : m ≤ L.length)
    (hM : M = (L.take n ++ [(x, t)]) ++ L.drop m) (hb : Below w.heap.size w w5) {zs : List Value} (ho : w5.ownsRow base 33 2 v'' (n + 1 + (L.length - m)) zs) (hz : zs = (xs.take (n * 2) ++ [.slice q x.length c', .string t]) ++ xs.drop (m * 2)) :
    ∃ p5 c5, v'' = .slice p5 M.length c5 ∧ Rs (fun _ => False) w5 p5 M := by
  subst hz
  have hl : M.length = n + 1 + (L.length - m) := by rw [hM]; simp; omega
  rw [← hl] at ho
  refine Rs.of_row ho ?_ (fun _ _ h => h)
  rw [hM]
  exact (((hrc.take n hn).app (RC.one (Pt.ptd hq))).app (hrc.drop m hm)).below hb
set_option maxRecDepth 100000 in
set_option maxHeartbeats 2000000 in
theorem put_ok {D : Nat → Prop} (L : List Rec) (x : List Nat) (t : ByteArray) (p q : Option Addr) (c c' : Nat) (w : World) (hp : Rs D w p L) (hq : Pt w q x) (hl : bigR L) (hc : L.length ≤ c) (hu : upL L) (hx : x.length ≤ 1000) (ht : t.size ≤ 1000) (hl2 : L.length < 1000) :
    Calls Try.prog 73 #[.slice p L.length c, .agg #[.slice q x.length c', .string t]] w fun e w' => ∃ p', e = .returned (.slice p' (putR L (x, t)).length (putR L (x, t)).length) ∧ Rs (Lt w.heap.size) w' p' (putR L (x, t)) ∧ Below w.heap.size w w' := by
  have HF := hid fun (w' : World) (hb : Below w.heap.size w w') => find_ok L x p q c c' w' (hp.below hb) (hq.below hb) hl hu
  have HB := hid (below_alloc w (.cells #[.slice q x.length c', .string t] 33))
  have HA := hid (two_cells (heap_alloc_new w (.cells #[.slice q x.length c', .string t] 33)))
  have HG := hid (show w.heap.size < (w.alloc (.cells #[.slice q x.length c', .string t] 33)).heap.size by simp)
  obtain ⟨xs, hrc, hrd⟩ := hp.open
  have hn := lessN_le L x
  obtain ⟨n, hnn⟩ : ∃ n, lessN L x = n := ⟨_, rfl⟩
  rw [hnn] at hn
  simp only [hnn] at HF
  obtain ⟨M, hM⟩ : ∃ M, putR L (x, t) = M := ⟨_, rfl⟩
  rw [hM]
  have HBIG := hid (show bigR M from hM ▸ big_put (x := x) (t := t) hl hx ht hl2)
  have HQ := hid hq
  have HRC := hid hrc
  have HRD := hid hrd
  have HXL := hid hrc.1
  have hbig := hl.1
  have s1 := fun (w : World) => slice_front p L.length c n hn hc w
  obtain ⟨P1, hP1, s2⟩ := slice_back p L.length c n hn hc
  have HP1 := hid (read_cut hrd (n * 2) P1 (by rcases hP1 with h | h; exact Or.inl h; right; rw [hrc.1]; omega))
  clear hp hrc hrd hq hP1
  cases his : hasN L x with
  | false =>
    rw [his] at HF
    have HPUT := hid (show M = (L.take n ++ [(x, t)]) ++ L.drop n by rw [← hM]; unfold putR; simp only [hnn, his]; simp)
    clear his hnn hM
    go_enter Try.func73, Try.ntmps73
    go_wp2_with (first
      | (go_at_call 75; refine (HF.out _ HB.out).mono ?_; rintro e w2 ⟨rfl, hb⟩; have HB2 := hid (HB.out.trans (hb.mono HB.out.size)); have H2S := hid hb.size; have a2 : w2.cell? ⟨w.heap.size, 0, none⟩ = some (.slice q x.length c') := (hb.cell (p := ⟨w.heap.size, 0, none⟩) HG.out).trans HA.out.1; have b2 : w2.cell? ⟨w.heap.size, 1, none⟩ = some (.string t) := (hb.cell (p := ⟨w.heap.size, 1, none⟩) HG.out).trans HA.out.2.1; clear hb))
    have HB3 := hid HB2.out.drew
    have HB4 := hid (HB3.out.alloc HB3.out.size (.cells #[.slice q x.length c', .string t] 33))
    have HA1 := hid (rec_full (w := w2.drew.alloc (.cells #[.slice q x.length c', .string t] 33)) 40 p n (xs.take (n * 2)) ((HRD.out.below HB4.out).take _) (by rw [List.length_take, HXL.out]; omega) (some ⟨w2.drew.heap.size, 0, none⟩) 1 1 [.slice q x.length c', .string t] (read_new w2.drew _ _ _) rfl (one_two _ _ rfl rfl) (by omega))
    have HGB := hid (show w.heap.size < w2.heap.size from Nat.lt_of_lt_of_le HG.out H2S.out)
    have HST := hid fun (w' : World) (hb : Below (w2.drew.alloc (.cells #[.slice q x.length c', .string t] 33)).heap.size (w2.drew.alloc (.cells #[.slice q x.length c', .string t] 33)) w') => stay_two (T := 33) HGB.out a2 b2 hb
    have y := HST.out _ (Below.refl _ _)
    have a3 : w2.drew.cell? ⟨w.heap.size, 0, none⟩ = some (.slice q x.length c') := a2
    have b3 : w2.drew.cell? ⟨w.heap.size, 1, none⟩ = some (.string t) := b2
    go_region_held3 (fun w' => w'.cell? ⟨w.heap.size, 0, none⟩ = some (.slice q x.length c') ∧ w'.cell? ⟨w.heap.size, 1, none⟩ = some (.string t)) (first | exact ⟨a2, b2⟩ | exact ⟨a3, b3⟩ | exact y | exact y4 | go_keep)
      (first
        | (refine step_app (by rfl) _ _ _ (by rfl) (by rfl) (by rfl) HA1.out ?_; intro v' w4 hF; obtain ⟨p4, c4, rfl, _, hb4, _, ho4'⟩ := hF; have y4 := HST.out _ hb4; have ho4 := (ho4' (by omega)).1; clear ho4')
        | fail)
    clear a2 b2 a3 b3 y y4 s1 s2 
    have HB5 := hid (HB4.out.trans (hb4.mono HB4.out.size))
    have HA2 := hid (rec_own (w := w4) 40 (.slice p4 (n + 1) c4) (n + 1) _ ho4 P1 (L.length - n) (c - n) (xs.drop (n * 2)) (HP1.out.below HB5.out) (by rw [List.length_drop, HXL.out]; omega) (mem_drop HRC.out.oneCell) (by omega) hb4.size)
    have HO4 := hid (And.intro ho4 (And.intro hb4.size HB4.out.size))
    clear ho4 hb4 HA1
    go_wp2_with (at_builtin; refine wpList_app rfl _ _ _ rfl rfl rfl HA2.out ?_)
    intro v'' w5 hF
    obtain ⟨ho5, hg5, _⟩ := hF
    have HB6 := hid (show Below w.heap.size w w5 from HB5.out.grown hg5 HB5.out.size (fun j hj => Nat.le_trans HO4.out.2.2 (HO4.out.1.lt j hj).1))
    obtain ⟨p5, c5, rfl, hr5⟩ := put_rows (HRC.out.less (fun _ _ h => h.elim)) HQ.out hn hn HPUT.out HB6.out ho5 (c' := c') (by simp)
    have HR := hid (records_ok M p5 c5 w5 hr5 HBIG.out)
    clear ho5 hg5 hr5 HA2
    go_wp2_with (go_at_call 62; refine HR.out.mono ?_; rintro e w6 ⟨p6, rfl, hr, hb⟩; have H6 := hid (hr.lt HB6.out.size); have HB7 := hid (HB6.out.trans (hb.mono HB6.out.size)); clear hr hb)
    go_ret
    exact ⟨p6, rfl, H6.out, HB7.out⟩
  | true =>
    rw [his] at HF
    have HPUT := hid (show M = (L.take n ++ [(x, t)]) ++ L.drop (n + 1) by rw [← hM]; unfold putR; simp only [hnn, his]; simp)
    have hnl : n < L.length := by obtain ⟨h, _⟩ := hasN_iff.1 his; rw [hnn] at h; exact h
    obtain ⟨P2, hP2, s3⟩ := slice_back P1 (L.length - n) (c - n) 1 (by omega) (by omega)
    have HP2 := hid (show ReadAt w P2 (xs.drop ((n + 1) * 2)) by
      have := read_cut HP1.out (1 * 2) P2 (by rcases hP2 with h | h; exact Or.inl h; right; rw [List.length_drop, HXL.out]; omega)
      rw [List.drop_drop] at this
      rw [show (n + 1) * 2 = n * 2 + 1 * 2 by omega]; exact this)
    have s3' : ∀ w : World, (Instr.slice 40 (.slice P1 (L.length - n) (c - n)) (some (.int .i64 1)) none none).run Try.prog w = .ok (.slice P2 (L.length - n - 1) (c - n - 1)) w := s3
    clear his hnn hP2 s3 hM
    go_enter Try.func73, Try.ntmps73
    go_wp2_with (first
      | (go_at_call 75; refine (HF.out _ HB.out).mono ?_; rintro e w2 ⟨rfl, hb⟩; have HB2 := hid (HB.out.trans (hb.mono HB.out.size)); have H2S := hid hb.size; have a2 : w2.cell? ⟨w.heap.size, 0, none⟩ = some (.slice q x.length c') := (hb.cell (p := ⟨w.heap.size, 0, none⟩) HG.out).trans HA.out.1; have b2 : w2.cell? ⟨w.heap.size, 1, none⟩ = some (.string t) := (hb.cell (p := ⟨w.heap.size, 1, none⟩) HG.out).trans HA.out.2.1; clear hb))
    have HB3 := hid HB2.out.drew
    have HB4 := hid (HB3.out.alloc HB3.out.size (.cells #[.slice q x.length c', .string t] 33))
    have HA1 := hid (rec_full (w := w2.drew.alloc (.cells #[.slice q x.length c', .string t] 33)) 40 p n (xs.take (n * 2)) ((HRD.out.below HB4.out).take _) (by rw [List.length_take, HXL.out]; omega) (some ⟨w2.drew.heap.size, 0, none⟩) 1 1 [.slice q x.length c', .string t] (read_new w2.drew _ _ _) rfl (one_two _ _ rfl rfl) (by omega))
    have HGB := hid (show w.heap.size < w2.heap.size from Nat.lt_of_lt_of_le HG.out H2S.out)
    have HST := hid fun (w' : World) (hb : Below (w2.drew.alloc (.cells #[.slice q x.length c', .string t] 33)).heap.size (w2.drew.alloc (.cells #[.slice q x.length c', .string t] 33)) w') => stay_two (T := 33) HGB.out a2 b2 hb
    have y := HST.out _ (Below.refl _ _)
    have a3 : w2.drew.cell? ⟨w.heap.size, 0, none⟩ = some (.slice q x.length c') := a2
    have b3 : w2.drew.cell? ⟨w.heap.size, 1, none⟩ = some (.string t) := b2
    go_region_held3 (fun w' => w'.cell? ⟨w.heap.size, 0, none⟩ = some (.slice q x.length c') ∧ w'.cell? ⟨w.heap.size, 1, none⟩ = some (.string t)) (first | exact ⟨a2, b2⟩ | exact ⟨a3, b3⟩ | exact y | exact y4 | go_keep)
      (first
        | (refine step_app (by rfl) _ _ _ (by rfl) (by rfl) (by rfl) HA1.out ?_; intro v' w4 hF; obtain ⟨p4, c4, rfl, _, hb4, _, ho4'⟩ := hF; have y4 := HST.out _ hb4; have ho4 := (ho4' (by omega)).1; clear ho4')
        | fail)
    clear a2 b2 a3 b3 y y4 s1 s2 s3'
    have HB5 := hid (HB4.out.trans (hb4.mono HB4.out.size))
    have HA2 := hid (rec_own (w := w4) 40 (.slice p4 (n + 1) c4) (n + 1) _ ho4 P2 (L.length - n - 1) (c - n - 1) (xs.drop ((n + 1) * 2)) (HP2.out.below HB5.out) (by rw [List.length_drop, HXL.out]; omega) (mem_drop HRC.out.oneCell) (by omega) hb4.size)
    have HO4 := hid (And.intro ho4 (And.intro hb4.size HB4.out.size))
    clear ho4 hb4 HA1
    go_wp2_with (at_builtin; refine wpList_app rfl _ _ _ rfl rfl rfl HA2.out ?_)
    intro v'' w5 hF
    obtain ⟨ho5, hg5, _⟩ := hF
    have HB6 := hid (show Below w.heap.size w w5 from HB5.out.grown hg5 HB5.out.size (fun j hj => Nat.le_trans HO4.out.2.2 (HO4.out.1.lt j hj).1))
    rw [show n + 1 + (L.length - n - 1) = n + 1 + (L.length - (n + 1)) by omega] at ho5
    obtain ⟨p5, c5, rfl, hr5⟩ := put_rows (HRC.out.less (fun _ _ h => h.elim)) HQ.out hn (m := n + 1) hnl HPUT.out HB6.out ho5 (c' := c') (by simp)
    have HR := hid (records_ok M p5 c5 w5 hr5 HBIG.out)
    clear ho5 hg5 hr5 HA2
    go_wp2_with (go_at_call 62; refine HR.out.mono ?_; rintro e w6 ⟨p6, rfl, hr, hb⟩; have H6 := hid (hr.lt HB6.out.size); have HB7 := hid (HB6.out.trans (hb.mono HB6.out.size)); clear hr hb)
    go_ret
    exact ⟨p6, rfl, H6.out, HB7.out⟩
end Go.Proofs.Ytkjcbfdplhcjpaa.Bk
