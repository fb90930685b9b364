/- Partial of the reference. -/
import Derived.Test.YtolnbamdddiifaaKyLive
namespace Go.Proofs.Ytolnbamdddiifaa.Ky
open Go.RowKit
open Go.Lib (hid)

/-- a row of the call's own: D coordinates, in block g, with room for c -/
def Rw (w : World) (g c D : Nat) (l : List Nat) : Prop := w.ownsRow 0 47 1 (.slice (some ⟨g, 0, none⟩) D c) D (kl l)
theorem Rw.lt {w : World} {g c D : Nat} {l : List Nat} (h : Rw w g c D l) : g < w.heap.size := (World.ownsRow.lt h g rfl).2
theorem Rw.kept {w w' : World} {g c D : Nat} {l : List Nat} (h : Rw w g c D l) (hb : w'.heap[g]? = w.heap[g]?) : Rw w' g c D l := by
  refine ⟨h.1, ?_⟩
  rcases h.2 with ⟨h', _⟩ | ⟨g', cap, cur, hv, hb0, hh, rest⟩
  · cases h'
  · refine .inr ⟨g', cap, cur, hv, hb0, ?_, rest⟩
    have : g' = g := by cases hv; rfl
    subst this
    rw [hb]; exact hh
theorem Rw.below {w w' : World} {g c D : Nat} {l : List Nat} (h : Rw w g c D l) (hb : Below w.heap.size w w') : Rw w' g c D l := h.kept (hb.block g h.lt)
theorem Rw.alloc {w : World} {g c D : Nat} {l : List Nat} (h : Rw w g c D l) (o : Obj) : Rw (w.alloc o) g c D l := h.below (below_alloc w o)
theorem Rw.drew {w : World} {g c D : Nat} {l : List Nat} (h : Rw w g c D l) : Rw w.drew g c D l := h
theorem Rw.far {w : World} {g c D : Nat} {l : List Nat} (h : Rw w g c D l) {p : Addr} (hp : g ≠ p.block) (u : Value) : Rw (w.setCell p u) g c D l := h.kept (Below.heap_setCell w p u g hp)
theorem Rw.set {w : World} {g c D : Nat} {l : List Nat} (h : Rw w g c D l) (i x : Nat) : Rw (w.setCell ⟨g, i, none⟩ (.int .u32 (x : Int))) g c D (l.set i x) := by
  have := (World.ownsRow.stored h i (.int .u32 (x : Int))).1
  unfold Rw
  rw [show kl (l.set i x) = (kl l).set i (.int .u32 (x : Int)) by unfold kl; rw [List.map_set]]
  exact this
theorem Rw.cell {w : World} {g c D : Nat} {l : List Nat} (h : Rw w g c D l) (i : Nat) (hi : i < l.length) : w.cell? ⟨g, i, none⟩ = some (.int .u32 (l[i] : Int)) := by
  have hl : l.length = D := by have := h.1; rw [kl_length] at this; omega
  rw [World.ownsRow.cellAt h i (by omega)]; simp [kl, hi]
theorem Rw.frozen {w : World} {g c D : Nat} {l : List Nat} (h : Rw w g c D l) (i : Nat) : w.frozen? ⟨g, i, none⟩ = false := World.ownsRow.frozenAt h i
theorem Rw.pt {w : World} {g c D : Nat} {l : List Nat} (h : Rw w g c D l) (hf : ∀ x ∈ l, x < 4294967296) : Pt w (some ⟨g, 0, none⟩) l :=
  ⟨fun j hj => ⟨g, 0, rfl, h.lt, by rw [Nat.zero_add]; exact h.cell j hj⟩, fun j hj => hf _ (List.getElem_mem hj)⟩
/-- a new box of two rows of the call's own -/
def RowBox (w : World) (D : Nat) (e : Ending) (w' : World) : Prop :=
  ∃ gl gh cl ch, e = .returned (.agg #[.slice (some ⟨gl, 0, none⟩) D cl, .slice (some ⟨gh, 0, none⟩) D ch]) ∧ Rw w' gl cl D (List.replicate D 0) ∧ Rw w' gh ch D (List.replicate D 4294967295) ∧ gl ≠ gh ∧ w.heap.size ≤ gl ∧ w.heap.size ≤ gh ∧ Below w.heap.size w w'
theorem row_form {w : World} {base D : Nat} {v : Value} {l : List Nat} (h : w.ownsRow base 47 1 v D (kl l)) (hD : 1 ≤ D) : ∃ g c, v = .slice (some ⟨g, 0, none⟩) D c ∧ base ≤ g ∧ Rw w g c D l := by
  rcases h.2 with ⟨_, h0⟩ | ⟨g, cap, cur, rfl, hb, hh, rest⟩
  · omega
  · exact ⟨g, cap, rfl, hb, h.1, .inr ⟨g, cap, cur, rfl, Nat.zero_le _, hh, rest⟩⟩
set_option maxRecDepth 100000 in
set_option maxHeartbeats 2000000 in
theorem refWhole_two (D : Nat) (w : World) (hd : 1 ≤ D ∧ D ≤ 6) : Calls Try.prog 25 #[.int .i64 (D : Int)] w (RowBox w D) := by
  obtain ⟨oz, hoz⟩ : ∃ o, o = Obj.cells #[Value.slice none 0 0, .slice none 0 0] 25 := ⟨_, rfl⟩
  have HDD := hid hd
  clear hd
  have HB0 := hid (below_alloc w oz)
  have HX0 := hid (new_bx (w.alloc oz))
  have HZ0 := hid (heap_alloc_new w oz)
  subst hoz
  rw [World.size_alloc] at HX0
  obtain ⟨i0, hi0, hz0, hz1, hz2⟩ := info_parts info46'
  go_enter Try.func25, Try.ntmps25
  go_wp2_with fail
  go_loopw [4] (fun i wr => RW w D i wr) (fun i _ => D - (intOf i).toNat)
  case atStart => exact ⟨0, _, _, by omega, rfl, HX0.out, (Below.refl _ _).alloc (by simp) _⟩
  case round =>
    obtain ⟨k, vl, vh, hk, rfl, hx, hb⟩ := hrel
    have HX := hid hx; have HB := hid hb; clear hx hb
    have c1 := HX.out.cells
    by_cases hlt : k < D
    · have HD6 := hid HDD.out.2
      have e1 : decide ((D : Int) ≤ 6) = true := by have := HD6.out; simp; omega
      have HSZ := hid HX.out.lt
      have hk6 : k ≤ 6 := by have := HD6.out; omega
      have hmax : k + 1 ≤ maxLen := by unfold maxLen; omega
      have hby : (k + 1) * 4 ≤ 140737488355328 := by omega
      have HOL : Hid (wr.ownsRow (w.heap.size + 2) 47 1 vl k (kl (List.replicate k 0))) := hid (by have := HX.out.ol; rw [List.length_replicate] at this; exact this)
      have HSA : Hid (w.heap.size + 2 ≤ (wr.alloc (.cells #[Value.int .u32 0] 47)).heap.size) := hid (by have := HSZ.out; simp; omega)
      go_wp2_with (first
        | (at_builtin
           refine wpList_append_lies _ rfl (.tmp 16) (.tmp 17) _ rfl (w.heap.size + 2) 47 i0 _ 1 4 Try.underlying23 hi0 hz0 hz1 hz2 rfl (by omega) vl k (kl (List.replicate k 0)) rfl (HOL.out.alloc _)
             ⟨wr.heap.size, 0, none⟩ 1 1 [.int .u32 0] rfl rfl (World.news_of_block (cs := #[.int .u32 0]) (t := 47) (fr := (0, 0)) (heap_alloc_new wr _)) (by simp [Value.oneCell']) (by omega) hmax hby HSA.out (wr.heap.size + 1) (by simp) ?_
           intro gg cap w2 ho hg hat _
           have HO := hid ho; have HG := hid hg; have HA := hid hat; clear ho hg hat
           have c2 := HX.out.midc (.inl rfl) HG.out
           have HX2 := hid (HX.out.pushLo (x := 0) (by rw [List.length_replicate]) HO.out HG.out HA.out)
           have HB2 := hid (bel_push (i := 0) HB.out HOL.out HG.out HSZ.out (.slice (some ⟨gg, 0, none⟩) (k + 1) cap))
           clear HO HG HA c1
           have HOH : Hid ((w2.setCell ⟨w.heap.size + 1, 0, none⟩ (.slice (some ⟨gg, 0, none⟩) (k + 1) cap)).ownsRow (w.heap.size + 2) 47 1 vh k (kl (List.replicate k 4294967295))) := hid (by have := HX2.out.oh; rw [List.length_replicate] at this; exact this)
           have HSB : Hid (w.heap.size + 2 ≤ ((w2.setCell ⟨w.heap.size + 1, 0, none⟩ (.slice (some ⟨gg, 0, none⟩) (k + 1) cap)).alloc (.cells #[Value.int .u32 4294967295] 47)).heap.size) := hid (by have := HX2.out.lt; simp at this ⊢; omega)
           have HN2 := hid (World.news_of_block (cs := #[.int .u32 4294967295]) (t := 47) (fr := (0, 0)) (w := (w2.setCell ⟨w.heap.size + 1, 0, none⟩ (.slice (some ⟨gg, 0, none⟩) (k + 1) cap)).alloc (.cells #[Value.int .u32 4294967295] 47)) (B := w2.heap.size) (by
             have := heap_alloc_new (w2.setCell ⟨w.heap.size + 1, 0, none⟩ (.slice (some ⟨gg, 0, none⟩) (k + 1) cap)) (.cells #[Value.int .u32 4294967295] 47)
             rw [World.size_setCell] at this; exact this)))
        | (at_builtin
           refine wpList_append_lies _ rfl (.tmp 21) (.tmp 22) _ rfl (w.heap.size + 2) 47 i0 _ 1 4 Try.underlying23 hi0 hz0 hz1 hz2 rfl (by omega) vh k (kl (List.replicate k 4294967295)) rfl (HOH.out.alloc _)
             ⟨w2.heap.size, 0, none⟩ 1 1 [.int .u32 4294967295] rfl rfl HN2.out (by simp [Value.oneCell']) (by omega) hmax hby HSB.out (w2.heap.size + 1) (by simp) ?_
           intro g3 cap3 w4 ho hg hat _
           have HO := hid ho; have HG := hid hg; have HA := hid hat; clear ho hg hat
           have c4 := HX2.out.midc (.inr rfl) HG.out
           have HX3 := hid (HX2.out.pushHi (x := 4294967295) (by rw [List.length_replicate]) HO.out HG.out (by rw [World.size_setCell]; exact HA.out))
           have HB3 := hid (bel_push (i := 1) HB2.out HOH.out HG.out HX2.out.lt (.slice (some ⟨g3, 0, none⟩) (k + 1) cap3))
           clear HO HG HA))
      go_roundw
      case rel => exact ⟨k + 1, _, _, by omega, by go_num, by have := HX3.out; rw [rep_snoc, rep_snoc] at this; exact this, HB3.out⟩
      case measure => simp [intOf]; omega
    · obtain rfl : k = D := by omega
      have hx := HX.out
      obtain ⟨gl, cl, rfl, g1, r1⟩ := row_form (D := k) (l := List.replicate k 0) (by have := hx.ol; rw [List.length_replicate] at this; exact this) HDD.out.1
      obtain ⟨gh, ch, rfl, g2, r2⟩ := row_form (D := k) (l := List.replicate k 4294967295) (by have := hx.oh; rw [List.length_replicate] at this; exact this) HDD.out.1
      have hne : gl ≠ gh := by
        rcases hx.ne with h | h
        · cases h
        · intro e; subst e; exact h rfl
      have HR := hid (And.intro r1 (And.intro r2 (And.intro hne (And.intro g1 g2))))
      have hz := (HB.out.block w.heap.size (by omega)).trans HZ0.out
      have HS := hid (store_out (lo := []) (hi := []) (A := none) (A' := none) ((HB0.out).trans (HB.out.mono (by omega))) (Nat.le_refl _) hz (Pt.nil _ _) (Pt.nil _ _) (.slice (some ⟨gl, 0, none⟩) k cl) (.slice (some ⟨gh, 0, none⟩) k ch) (by simp))
      have z := zero_cells hz
      clear hx r1 r2 hne g1 g2 hz hk hlt
      go_wp2_with fail
      have z2 := HS.out.2.2.2
      refine bodyPost_ret (v := .agg #[.slice (some ⟨gl, 0, none⟩) k cl, .slice (some ⟨gh, 0, none⟩) k ch]) (by simp [results, Try.results25, go_sem, z2]) rfl ?_
      obtain ⟨q1, q2, q3, q4, q5⟩ := HR.out
      exact ⟨gl, gh, cl, ch, rfl, (q1.far (p := ⟨w.heap.size, 0, none⟩) (by show gl ≠ w.heap.size; omega) _).far (p := ⟨w.heap.size, 1, none⟩) (by show gl ≠ w.heap.size; omega) _, (q2.far (p := ⟨w.heap.size, 0, none⟩) (by show gh ≠ w.heap.size; omega) _).far (p := ⟨w.heap.size, 1, none⟩) (by show gh ≠ w.heap.size; omega) _, q3, by omega, by omega, HS.out.2.2.1⟩
/-- the loop's relation -/
def PR2 (w : World) (g8 gl gh cl ch D : Nat) (at_ : List Int) (k : List Nat) (iv : Value) (wr : World) : Prop :=
  ∃ j : Nat, j ≤ at_.length ∧ iv = .int .i64 j ∧ rises D (leastK at_ j) (at_.drop j) = rises D 0 at_ ∧ (0 ≤ leastK at_ j ∧ leastK at_ j ≤ D) ∧
    Rw wr gl cl D (putsK (List.replicate D 0) at_ k j) ∧ Rw wr gh ch D (putsK (List.replicate D 4294967295) at_ k j) ∧ wr.heap[g8]? = some (.cells #[.slice (some ⟨gl, 0, none⟩) D cl, .slice (some ⟨gh, 0, none⟩) D ch] 25 (0, 0)) ∧
    wr.heap[w.heap.size]? = some (.cells #[Value.slice none 0 0, .slice none 0 0] 25 (0, 0)) ∧ Below w.heap.size w wr
theorem part_yes2 {w w' : World} {D gl gh cl ch : Nat} {at_ : List Int} {k : List Nat} (h : partOk (D : Int) at_ k = true) (hk : ∀ x ∈ k, x < 4294967296)
    (h1 : Rw w' gl cl D (puts (List.replicate D 0) at_ k)) (h2 : Rw w' gh ch D (puts (List.replicate D 4294967295) at_ k)) (hb : Below w.heap.size w w') :
    NewBox w (partLo D at_ k) (partHi D at_ k) (.int .i64 (err (partOk D at_ k))) (.returned (.tuple #[.agg #[.slice (some ⟨gl, 0, none⟩) D cl, .slice (some ⟨gh, 0, none⟩) D ch], .int .i64 0])) w' := by
  have e1 : partLo D at_ k = puts (List.replicate D 0) at_ k := by simp [partLo, h, lowW]
  have e2 : partHi D at_ k = puts (List.replicate D 4294967295) at_ k := by simp [partHi, h, highW]
  rw [h, e1, e2]
  refine ⟨_, cl, _, ch, by rw [puts_length, puts_length, List.length_replicate, List.length_replicate]; rfl, h1.pt (puts_fit _ _ _ (rep_fit _ _ (by omega)) hk), h2.pt (puts_fit _ _ _ (rep_fit _ _ (by omega)) hk), hb⟩
theorem Rw.drewN {w : World} {g c D : Nat} {l : List Nat} (h : Rw w g c D l) (n : Nat) : Rw (w.drewN n) g c D l := h
set_option maxRecDepth 100000 in
set_option maxHeartbeats 4000000 in
theorem refPartial_ok (dim : Int) (at_ : List Int) (k : List Nat) (p q : Option Addr) (c1 c2 : Nat) (w : World) (h1 : Is w p at_) (h2 : Pt w q k) (hl : at_.length ≤ 1000000) :
    Calls Try.prog 17 #[.int .i64 dim, .slice p at_.length c1, .slice q k.length c2] w (NewBox w (partLo dim at_ k) (partHi dim at_ k) (.int .i64 (err (partOk dim at_ k)))) := by
  obtain ⟨oz, hoz⟩ : ∃ o, o = Obj.cells #[Value.slice none 0 0, .slice none 0 0] 25 := ⟨_, rfl⟩
  have HB0 := hid (below_alloc w oz)
  have HZ0 := hid (show (w.alloc oz).heap[w.heap.size]? = some (.cells #[Value.slice none 0 0, .slice none 0 0] 25 (0, 0)) by rw [hoz]; exact heap_alloc_new w _)
  subst hoz
  have z := zero_cells HZ0.out
  have HS := hid (zero_again HB0.out HZ0.out)
  by_cases q1 : dim < 1
  · have HP : Hid (partOk dim at_ k = false) := hid (by simp [partOk]; omega)
    have t1 : decide (dim < 1) = true := by simpa using q1
    clear q1
    go_enter Try.func17, Try.ntmps17
    go_wp2_with fail
    have z2 := HS.out.2
    refine bodyPost_ret (v := .tuple #[.agg #[.slice none 0 0, .slice none 0 0], .int .i64 1]) (by simp [results, Try.results17, go_sem]) rfl ?_
    exact part_no HP.out (by first | exact HS.out.1 | exact HB0.out)
  · have t1 : decide (dim < 1) = false := by simpa using q1
    by_cases q2 : 6 < dim
    · have HP : Hid (partOk dim at_ k = false) := hid (by simp [partOk]; omega)
      have t2 : decide (6 < dim) = true := by simpa using q2
      clear q1 q2
      go_enter Try.func17, Try.ntmps17
      go_wp2_with fail
      have z2 := HS.out.2
      refine bodyPost_ret (v := .tuple #[.agg #[.slice none 0 0, .slice none 0 0], .int .i64 1]) (by simp [results, Try.results17, go_sem]) rfl ?_
      exact part_no HP.out (by first | exact HS.out.1 | exact HB0.out)
    · have t2 : decide (6 < dim) = false := by simpa using q2
      by_cases hlen : at_.length = k.length
      · obtain ⟨D, rfl⟩ : ∃ D : Nat, dim = (D : Int) := ⟨dim.toNat, by omega⟩
        have HR : Hid (partOk (D : Int) at_ k = rises D 0 at_) := hid (by simp only [partOk, hlen]; rw [decide_eq_true (show (1 : Int) ≤ (D : Int) ∧ (D : Int) ≤ 6 by omega)]; simp)
        have HW := hid fun w' => refWhole_two D w' (by omega)
        have HD := hid (show 1 ≤ D ∧ D ≤ 6 by omega)
        have e1 : ((at_.length : Int) != (k.length : Int)) = false := by simp [hlen]
        have HLEN := hid hlen
        have HKF := hid (pt_mem h2)
        have HK0 := hid (And.intro h1 h2)
        clear q1 q2 hlen h1 h2 HS
        go_enter Try.func17, Try.ntmps17
        go_wp2_with (go_at_call 25; refine (HW.out _).mono ?_; rintro e w4 ⟨gl, gh, cl, ch, rfl, o1, o2, on, og1, og2, hb⟩; have HO := hid (And.intro o1 (And.intro o2 (And.intro on (And.intro og1 og2)))); have HB4 := hid hb; clear o1 o2 on og1 og2 hb z)
        have HX := hid (show Rw (w4.alloc (.cells #[Value.slice (some ⟨gl, 0, none⟩) D cl, .slice (some ⟨gh, 0, none⟩) D ch] 25)) gl cl D (List.replicate D 0) ∧ Rw (w4.alloc (.cells #[Value.slice (some ⟨gl, 0, none⟩) D cl, .slice (some ⟨gh, 0, none⟩) D ch] 25)) gh ch D (List.replicate D 4294967295) ∧ (w4.alloc (.cells #[Value.slice (some ⟨gl, 0, none⟩) D cl, .slice (some ⟨gh, 0, none⟩) D ch] 25)).heap[w4.heap.size]? = some (.cells #[Value.slice (some ⟨gl, 0, none⟩) D cl, .slice (some ⟨gh, 0, none⟩) D ch] 25) ∧ (w4.alloc (.cells #[Value.slice (some ⟨gl, 0, none⟩) D cl, .slice (some ⟨gh, 0, none⟩) D ch] 25)).heap[w.heap.size]? = some (.cells #[Value.slice none 0 0, .slice none 0 0] 25 (0, 0)) ∧ Below w.heap.size w (w4.alloc (.cells #[Value.slice (some ⟨gl, 0, none⟩) D cl, .slice (some ⟨gh, 0, none⟩) D ch] 25)) ∧ gl < w4.heap.size ∧ gh < w4.heap.size by
          have hz4 := (HB4.out.block _ (lt_of HZ0.out)).trans HZ0.out
          have hb4 := HB0.out.trans (HB4.out.mono HB0.out.size)
          exact ⟨HO.out.1.alloc _, HO.out.2.1.alloc _, heap_alloc_new _ _, (Below.heap_alloc _ _ _ (lt_of hz4)).trans hz4, hb4.alloc hb4.size _, HO.out.1.lt, HO.out.2.1.lt⟩)
        have HNE := hid (show gl ≠ gh ∧ w.heap.size < gl ∧ w.heap.size < gh by have := HO.out.2.2; simp at this; omega)
        clear HO HB4 HW HZ0 HB0 e1 t1 t2
        generalize w4.alloc (.cells #[Value.slice (some ⟨gl, 0, none⟩) D cl, .slice (some ⟨gh, 0, none⟩) D ch] 25) = V at HX ⊢
        generalize w4.heap.size = g8 at HX ⊢
        go_loopw [9] (fun iv wr => PR2 w g8 gl gh cl ch D at_ k iv wr) (fun iv _ => at_.length - (intOf iv).toNat)
        case atStart => exact ⟨0, by omega, rfl, rfl, by simp [leastK], HX.out.1, HX.out.2.1, HX.out.2.2.1, HX.out.2.2.2.1, HX.out.2.2.2.2.1⟩
        case round =>
          obtain ⟨j, hj, rfl, hrs, hle, o1, o2, hb8, hz, hb⟩ := hrel
          have HRS := hid hrs; have HLE := hid hle; have HO1 := hid o1; have HO2 := hid o2; have H8 := hid hb8; have HZ := hid hz; have HB := hid hb
          have HGG := hid (show gl ≠ g8 ∧ gh ≠ g8 by have h := HX.out.2.2.2.2.2; omega)
          clear hrs o1 o2 hb8 hz hb hle
          by_cases hlt : j < at_.length
          · have hjk : j < k.length := by have := HLEN.out; omega
            obtain ⟨b1, f1, rfl, l1, dw1⟩ := HK0.out.1.cells j hlt
            obtain ⟨b2, f2, rfl, l2, dw2⟩ := HK0.out.2.cells j hjk
            have d1 := (HB.out.cell (p := ⟨b1, f1 + j, none⟩) l1).trans dw1
            have d2 := (HB.out.cell (p := ⟨b2, f2 + j, none⟩) l2).trans dw2
            have HRD := hid (rises_drop D at_ j hlt)
            have HPM := hid (putsK_more (List.replicate D 0) at_ k j HLEN.out hlt hjk)
            have HPN := hid (putsK_more (List.replicate D 4294967295) at_ k j HLEN.out hlt hjk)
            have hL : leastK at_ (j + 1) = at_[j] + 1 := by simp only [leastK]; rw [List.getD_eq_getElem?_getD, List.getElem?_eq_getElem hlt]; rfl
            have HL := hid hL
            have HLL := hid (And.intro l1 l2)
            clear hL dw1 dw2 l1 l2
            have hle1 := HLE.out.1
            have hle2 := HLE.out.2
            by_cases hj0 : j = 0
            · subst hj0
              rw [Nat.add_zero] at d1 d2
              generalize at_[0] = ci at d1 HRD HPM HPN HL
              generalize k[0] = xv at d2 HPM HPN
              have hl0 : leastK at_ 0 = 0 := rfl
              by_cases t1 : ci < 0
              · have e1 : decide (ci < 0) = true := by simpa using t1
                have HP : Hid (partOk (D : Int) at_ k = false) := hid (by rw [HR.out, ← HRS.out, HRD.out]; simp; omega)
                have z := zero_cells HZ.out
                clear HRD
                go_wp2_with fail
                go_quiet (fail)
                have HS := hid (zero_again (V := wr.drewN nq) (below_drewN HB.out nq) HZ.out)
                go_wp2_with fail
                have z2 := HS.out.2
                refine bodyPost_ret (v := .tuple #[.agg #[.slice none 0 0, .slice none 0 0], .int .i64 1]) (by simp [results, Try.results17, go_sem, z2]) rfl ?_
                exact part_no HP.out HS.out.1
              · have e1 : decide (ci < 0) = false := by simpa using t1
                by_cases t2 : (D : Int) ≤ ci
                · have e2 : decide ((D : Int) ≤ ci) = true := by simpa using t2
                  have HP : Hid (partOk (D : Int) at_ k = false) := hid (by rw [HR.out, ← HRS.out, HRD.out]; simp; omega)
                  have z := zero_cells HZ.out
                  clear HRD
                  go_wp2_with fail
                  go_quiet (fail)
                  have HS := hid (zero_again (V := wr.drewN nq) (below_drewN HB.out nq) HZ.out)
                  go_wp2_with fail
                  have z2 := HS.out.2
                  refine bodyPost_ret (v := .tuple #[.agg #[.slice none 0 0, .slice none 0 0], .int .i64 1]) (by simp [results, Try.results17, go_sem, z2]) rfl ?_
                  exact part_no HP.out HS.out.1
                · have e2 : decide ((D : Int) ≤ ci) = false := by simpa using t2
                  obtain ⟨C, rfl⟩ : ∃ C : Nat, ci = (C : Int) := ⟨ci.toNat, by omega⟩
                  have hCD : C < D := by omega
                  have e2n : decide (D ≤ C) = false := by rw [decide_eq_false_iff_not]; omega
                  have HN6 : Hid (rises D (leastK at_ (0 + 1)) (at_.drop (0 + 1)) = rises D 0 at_) := hid (by
                    rw [← HRS.out, HRD.out]
                    have b1 : decide (leastK at_ 0 ≤ (C : Int)) = true := by rw [decide_eq_true_iff]; omega
                    have b2 : decide ((C : Int) < (D : Int)) = true := by rw [decide_eq_true_iff]; omega
                    rw [b1, b2]; rfl)
                  have HLR : Hid (0 ≤ leastK at_ (0 + 1) ∧ leastK at_ (0 + 1) ≤ (D : Int)) := hid (by rw [HL.out]; omega)
                  have hD6 := HD.out.2
                  clear HRD
                  go_wp2_with fail
                  go_quiet (fail)
                  obtain ⟨V, hV⟩ : ∃ V, V = wr.drewN nq := ⟨_, rfl⟩
                  have HO1' : Hid (Rw V gl cl D (putsK (List.replicate D 0) at_ k 0)) := hid (by rw [hV]; exact HO1.out)
                  have HO2' : Hid (Rw V gh ch D (putsK (List.replicate D 4294967295) at_ k 0)) := hid (by rw [hV]; exact HO2.out)
                  have H8' : Hid (V.heap[g8]? = some (.cells #[.slice (some ⟨gl, 0, none⟩) D cl, .slice (some ⟨gh, 0, none⟩) D ch] 25 (0, 0))) := hid (by rw [hV]; exact H8.out)
                  have HZ' : Hid (V.heap[w.heap.size]? = some (.cells #[Value.slice none 0 0, .slice none 0 0] 25 (0, 0))) := hid (by rw [hV]; exact HZ.out)
                  have HB' : Hid (Below w.heap.size w V) := hid (by rw [hV]; exact below_drewN HB.out nq)
                  have v1 : V.cell? ⟨b1, f1, none⟩ = some (.int .i64 (C : Int)) := by rw [hV]; exact d1
                  have v2 : V.cell? ⟨b2, f2, none⟩ = some (.int .u32 (xv : Int)) := by rw [hV]; exact d2
                  have x0 : V.cell? ⟨g8, 0, none⟩ = some (.slice (some ⟨gl, 0, none⟩) D cl) := by rw [cell_of_row _ _ _ _ _ _ H8'.out]; rfl
                  have x1 : V.cell? ⟨g8, 1, none⟩ = some (.slice (some ⟨gh, 0, none⟩) D ch) := by rw [cell_of_row _ _ _ _ _ _ H8'.out]; rfl
                  rw [← hV]
                  clear hV d1 d2 HO1 HO2 H8 HZ HB
                  have y1 := HO1'.out.cell C (by rw [putsK, puts_length, List.length_replicate]; exact hCD)
                  have y2 := HO2'.out.cell C (by rw [putsK, puts_length, List.length_replicate]; exact hCD)
                  have w1 := HO1'.out.frozen C
                  have w2 := HO2'.out.frozen C
                  generalize (putsK (List.replicate D 0) at_ k 0)[C]'_ = u1 at y1
                  generalize (putsK (List.replicate D 4294967295) at_ k 0)[C]'_ = u2 at y2
                  have HA1 : Hid (Rw (V.setCell ⟨gl, C, none⟩ (.int .u32 (xv : Int))) gl cl D (putsK (List.replicate D 0) at_ k (0 + 1))) := hid (by rw [← HPM.out, Int.toNat_natCast]; exact HO1'.out.set C xv)
                  have HA2 : Hid (Rw (V.setCell ⟨gl, C, none⟩ (.int .u32 (xv : Int))) gh ch D (putsK (List.replicate D 4294967295) at_ k 0)) := hid (HO2'.out.far (p := ⟨gl, C, none⟩) (by show gh ≠ gl; exact HNE.out.1.symm) _)
                  have y3 : (V.setCell ⟨gl, C, none⟩ (.int .u32 (xv : Int))).cell? ⟨gh, C, none⟩ = some (.int .u32 (u2 : Int)) := by
                    rw [World.cell?_setCell_other _ _ _ _ (fun e => by injection e with e1 _ _; have := HNE.out.1; first | exact this e1 | exact this e1.symm)]; exact y2
                  have w3 : (V.setCell ⟨gl, C, none⟩ (.int .u32 (xv : Int))).frozen? ⟨gh, C, none⟩ = false := HA2.out.frozen C
                  have y4 : (V.setCell ⟨gl, C, none⟩ (.int .u32 (xv : Int))).cell? ⟨g8, 1, none⟩ = some (.slice (some ⟨gh, 0, none⟩) D ch) := by
                    rw [World.cell?_setCell_other _ _ _ _ (fun e => by injection e with e1 _ _; have := HGG.out.1; first | exact this e1 | exact this e1.symm)]; exact x1
                  have y5 : (V.setCell ⟨gl, C, none⟩ (.int .u32 (xv : Int))).cell? ⟨b2, f2, none⟩ = some (.int .u32 (xv : Int)) := by
                    rw [World.cell?_setCell_other _ _ _ _ (fun e => by injection e with e1 _ _; have := HNE.out.2.1; have := HLL.out.2; omega)]; exact v2
                  have y6 : (V.setCell ⟨gl, C, none⟩ (.int .u32 (xv : Int))).cell? ⟨b1, f1, none⟩ = some (.int .i64 (C : Int)) := by
                    rw [World.cell?_setCell_other _ _ _ _ (fun e => by injection e with e1 _ _; have := HNE.out.2.1; have := HLL.out.1; omega)]; exact v1
                  have HN1 : Hid (Rw ((V.setCell ⟨gl, C, none⟩ (.int .u32 (xv : Int))).setCell ⟨gh, C, none⟩ (.int .u32 (xv : Int))) gl cl D (putsK (List.replicate D 0) at_ k (0 + 1))) := hid (HA1.out.far (by show gl ≠ gh; exact HNE.out.1) _)
                  have HN2 : Hid (Rw ((V.setCell ⟨gl, C, none⟩ (.int .u32 (xv : Int))).setCell ⟨gh, C, none⟩ (.int .u32 (xv : Int))) gh ch D (putsK (List.replicate D 4294967295) at_ k (0 + 1))) := hid (by rw [← HPN.out, Int.toNat_natCast]; exact HA2.out.set C xv)
                  have HN3 := hid (show ((V.setCell ⟨gl, C, none⟩ (.int .u32 (xv : Int))).setCell ⟨gh, C, none⟩ (.int .u32 (xv : Int))).heap[g8]? = some (.cells #[.slice (some ⟨gl, 0, none⟩) D cl, .slice (some ⟨gh, 0, none⟩) D ch] 25 (0, 0)) by
                    rw [Below.heap_setCell _ ⟨gh, C, none⟩ _ _ (by show g8 ≠ gh; exact HGG.out.2.symm), Below.heap_setCell _ ⟨gl, C, none⟩ _ _ (by show g8 ≠ gl; exact HGG.out.1.symm)]; exact H8'.out)
                  have HN4 := hid (show ((V.setCell ⟨gl, C, none⟩ (.int .u32 (xv : Int))).setCell ⟨gh, C, none⟩ (.int .u32 (xv : Int))).heap[w.heap.size]? = some (.cells #[Value.slice none 0 0, .slice none 0 0] 25 (0, 0)) by
                    rw [Below.heap_setCell _ ⟨gh, C, none⟩ _ _ (by show w.heap.size ≠ gh; have := HNE.out.2.2; omega), Below.heap_setCell _ ⟨gl, C, none⟩ _ _ (by show w.heap.size ≠ gl; have := HNE.out.2.1; omega)]; exact HZ'.out)
                  have HN5 := hid ((HB'.out.setCell (p := ⟨gl, C, none⟩) (by show w.heap.size ≤ gl; have := HNE.out.2.1; omega) (.int .u32 (xv : Int))).setCell (p := ⟨gh, C, none⟩) (by show w.heap.size ≤ gh; have := HNE.out.2.2; omega) (.int .u32 (xv : Int)))
                  clear HPM HPN HO1' HO2' H8' HZ' HB' HA1 HA2
                  go_wp2_with fail
                  obtain ⟨V2, hV2⟩ : ∃ V2, V2 = (V.setCell ⟨gl, C, none⟩ (.int .u32 (xv : Int))).drew := ⟨_, rfl⟩
                  have y3' : V2.cell? ⟨gh, C, none⟩ = some (.int .u32 (u2 : Int)) := by rw [hV2]; exact y3
                  have w3' : V2.frozen? ⟨gh, C, none⟩ = false := by rw [hV2]; exact w3
                  have y4' : V2.cell? ⟨g8, 1, none⟩ = some (.slice (some ⟨gh, 0, none⟩) D ch) := by rw [hV2]; exact y4
                  have y5' : V2.cell? ⟨b2, f2, none⟩ = some (.int .u32 (xv : Int)) := by rw [hV2]; exact y5
                  have y6' : V2.cell? ⟨b1, f1, none⟩ = some (.int .i64 (C : Int)) := by rw [hV2]; exact y6
                  have HM1 := hid (show Rw (V2.drew.setCell ⟨gh, C, none⟩ (.int .u32 (xv : Int))) gl cl D _ by rw [hV2]; exact HN1.out.kept rfl)
                  have HM2 := hid (show Rw (V2.drew.setCell ⟨gh, C, none⟩ (.int .u32 (xv : Int))) gh ch D _ by rw [hV2]; exact HN2.out.kept rfl)
                  have HM3 := hid (show (V2.drew.setCell ⟨gh, C, none⟩ (.int .u32 (xv : Int))).heap[g8]? = some (.cells #[.slice (some ⟨gl, 0, none⟩) D cl, .slice (some ⟨gh, 0, none⟩) D ch] 25 (0, 0)) by rw [hV2]; exact HN3.out)
                  have HM4 := hid (show (V2.drew.setCell ⟨gh, C, none⟩ (.int .u32 (xv : Int))).heap[w.heap.size]? = some (.cells #[Value.slice none 0 0, .slice none 0 0] 25 (0, 0)) by rw [hV2]; exact HN4.out)
                  have HM5 := hid (show Below w.heap.size w (V2.drew.setCell ⟨gh, C, none⟩ (.int .u32 (xv : Int))) by rw [hV2]; exact ⟨HN5.out.os, HN5.out.tape, HN5.out.output, HN5.out.size, HN5.out.block⟩)
                  clear y3 w3 y4 y5 y6 HN1 HN2 HN3 HN4 HN5
                  go_still_tail 11, (by kernel_rfl)
                  change wpList _ _ _ _ _ V.drew
                  go_wp2_with fail
                  rw [← hV2]
                  clear hV2 v1 v2 x0 x1 y1 y2 w1 w2
                  go_still_tail 11, (by kernel_rfl)
                  change wpList _ _ _ _ _ V2.drew
                  go_wp2_with fail
                  go_roundw
                  case rel => exact ⟨0 + 1, by omega, by go_num, HN6.out, HLR.out, HM1.out, HM2.out, HM3.out, HM4.out, HM5.out⟩
                  case measure => simp [intOf]; omega
            · obtain ⟨m, hjm⟩ : ∃ m, j = m + 1 := ⟨j - 1, by omega⟩
              have hm : m < at_.length := by omega
              have hlm : leastK at_ j = at_[m] + 1 := by rw [hjm]; simp only [leastK]; rw [List.getD_eq_getElem?_getD, List.getElem?_eq_getElem hm]; rfl
              have d0 : wr.cell? ⟨b1, f1 + m, none⟩ = some (.int .i64 at_[m]) := by
                obtain ⟨b', f', eb, lb, dw⟩ := HK0.out.1.cells m hm
                cases eb
                exact (HB.out.cell (p := ⟨b1, f1 + m, none⟩) lb).trans dw
              generalize at_[m] = pv at d0 hlm
              generalize at_[j] = ci at d1 HRD HPM HPN HL
              generalize k[j] = xv at d2 HPM HPN
              have g1 : (j : Int) - 1 = (m : Int) := by omega
              have g2 : IntKind.i64.wrap (m : Int) = (m : Int) := Go.IntWalk.i64_in _ (by omega)
              have g3 : decide (0 < j) = true := by rw [decide_eq_true_iff]; omega
              have HLM := hid hlm
              clear hlm hjm hj0
              by_cases t1 : ci < 0
              · have e1 : decide (ci < 0) = true := by simpa using t1
                have HP : Hid (partOk (D : Int) at_ k = false) := hid (by rw [HR.out, ← HRS.out, HRD.out]; simp; omega)
                have z := zero_cells HZ.out
                clear HRD
                go_wp2_with fail
                go_quiet (fail)
                have HS := hid (zero_again (V := wr.drewN nq) (below_drewN HB.out nq) HZ.out)
                go_wp2_with fail
                have z2 := HS.out.2
                refine bodyPost_ret (v := .tuple #[.agg #[.slice none 0 0, .slice none 0 0], .int .i64 1]) (by simp [results, Try.results17, go_sem, z2]) rfl ?_
                exact part_no HP.out HS.out.1
              · have e1 : decide (ci < 0) = false := by simpa using t1
                by_cases t2 : (D : Int) ≤ ci
                · have e2 : decide ((D : Int) ≤ ci) = true := by simpa using t2
                  have HP : Hid (partOk (D : Int) at_ k = false) := hid (by rw [HR.out, ← HRS.out, HRD.out]; simp; omega)
                  have z := zero_cells HZ.out
                  clear HRD
                  go_wp2_with fail
                  go_quiet (fail)
                  have HS := hid (zero_again (V := wr.drewN nq) (below_drewN HB.out nq) HZ.out)
                  go_wp2_with fail
                  have z2 := HS.out.2
                  refine bodyPost_ret (v := .tuple #[.agg #[.slice none 0 0, .slice none 0 0], .int .i64 1]) (by simp [results, Try.results17, go_sem, z2]) rfl ?_
                  exact part_no HP.out HS.out.1
                · have e2 : decide ((D : Int) ≤ ci) = false := by simpa using t2
                  have hlm := HLM.out
                  by_cases t3 : ci ≤ pv
                  · have e3 : decide (ci ≤ pv) = true := by simpa using t3
                    have HP : Hid (partOk (D : Int) at_ k = false) := hid (by rw [HR.out, ← HRS.out, HRD.out]; simp; omega)
                    have z := zero_cells HZ.out
                    clear HRD
                    go_wp2_with fail
                    go_quiet (fail)
                    have HS := hid (zero_again (V := wr.drewN nq) (below_drewN HB.out nq) HZ.out)
                    go_wp2_with fail
                    have z2 := HS.out.2
                    refine bodyPost_ret (v := .tuple #[.agg #[.slice none 0 0, .slice none 0 0], .int .i64 1]) (by simp [results, Try.results17, go_sem, z2]) rfl ?_
                    exact part_no HP.out HS.out.1
                  · have e3 : decide (ci ≤ pv) = false := by simpa using t3
                    obtain ⟨C, rfl⟩ : ∃ C : Nat, ci = (C : Int) := ⟨ci.toNat, by omega⟩
                    have hCD : C < D := by omega
                    have e2n : decide (D ≤ C) = false := by rw [decide_eq_false_iff_not]; omega
                    have HN6 : Hid (rises D (leastK at_ (j + 1)) (at_.drop (j + 1)) = rises D 0 at_) := hid (by
                      rw [← HRS.out, HRD.out]
                      have b1 : decide (leastK at_ j ≤ (C : Int)) = true := by rw [decide_eq_true_iff]; omega
                      have b2 : decide ((C : Int) < (D : Int)) = true := by rw [decide_eq_true_iff]; omega
                      rw [b1, b2]; rfl)
                    have HLR : Hid (0 ≤ leastK at_ (j + 1) ∧ leastK at_ (j + 1) ≤ (D : Int)) := hid (by rw [HL.out]; omega)
                    have hD6 := HD.out.2
                    clear HRD
                    go_wp2_with fail
                    go_quiet (fail)
                    obtain ⟨V, hV⟩ : ∃ V, V = wr.drewN nq := ⟨_, rfl⟩
                    have HO1' : Hid (Rw V gl cl D (putsK (List.replicate D 0) at_ k j)) := hid (by rw [hV]; exact HO1.out)
                    have HO2' : Hid (Rw V gh ch D (putsK (List.replicate D 4294967295) at_ k j)) := hid (by rw [hV]; exact HO2.out)
                    have H8' : Hid (V.heap[g8]? = some (.cells #[.slice (some ⟨gl, 0, none⟩) D cl, .slice (some ⟨gh, 0, none⟩) D ch] 25 (0, 0))) := hid (by rw [hV]; exact H8.out)
                    have HZ' : Hid (V.heap[w.heap.size]? = some (.cells #[Value.slice none 0 0, .slice none 0 0] 25 (0, 0))) := hid (by rw [hV]; exact HZ.out)
                    have HB' : Hid (Below w.heap.size w V) := hid (by rw [hV]; exact below_drewN HB.out nq)
                    have v1 : V.cell? ⟨b1, f1 + j, none⟩ = some (.int .i64 (C : Int)) := by rw [hV]; exact d1
                    have v2 : V.cell? ⟨b2, f2 + j, none⟩ = some (.int .u32 (xv : Int)) := by rw [hV]; exact d2
                    have x0 : V.cell? ⟨g8, 0, none⟩ = some (.slice (some ⟨gl, 0, none⟩) D cl) := by rw [cell_of_row _ _ _ _ _ _ H8'.out]; rfl
                    have x1 : V.cell? ⟨g8, 1, none⟩ = some (.slice (some ⟨gh, 0, none⟩) D ch) := by rw [cell_of_row _ _ _ _ _ _ H8'.out]; rfl
                    rw [← hV]
                    clear hV d1 d2 HO1 HO2 H8 HZ HB
                    have y1 := HO1'.out.cell C (by rw [putsK, puts_length, List.length_replicate]; exact hCD)
                    have y2 := HO2'.out.cell C (by rw [putsK, puts_length, List.length_replicate]; exact hCD)
                    have w1 := HO1'.out.frozen C
                    have w2 := HO2'.out.frozen C
                    generalize (putsK (List.replicate D 0) at_ k j)[C]'_ = u1 at y1
                    generalize (putsK (List.replicate D 4294967295) at_ k j)[C]'_ = u2 at y2
                    have HA1 : Hid (Rw (V.setCell ⟨gl, C, none⟩ (.int .u32 (xv : Int))) gl cl D (putsK (List.replicate D 0) at_ k (j + 1))) := hid (by rw [← HPM.out, Int.toNat_natCast]; exact HO1'.out.set C xv)
                    have HA2 : Hid (Rw (V.setCell ⟨gl, C, none⟩ (.int .u32 (xv : Int))) gh ch D (putsK (List.replicate D 4294967295) at_ k j)) := hid (HO2'.out.far (p := ⟨gl, C, none⟩) (by show gh ≠ gl; exact HNE.out.1.symm) _)
                    have y3 : (V.setCell ⟨gl, C, none⟩ (.int .u32 (xv : Int))).cell? ⟨gh, C, none⟩ = some (.int .u32 (u2 : Int)) := by
                      rw [World.cell?_setCell_other _ _ _ _ (fun e => by injection e with e1 _ _; have := HNE.out.1; first | exact this e1 | exact this e1.symm)]; exact y2
                    have w3 : (V.setCell ⟨gl, C, none⟩ (.int .u32 (xv : Int))).frozen? ⟨gh, C, none⟩ = false := HA2.out.frozen C
                    have y4 : (V.setCell ⟨gl, C, none⟩ (.int .u32 (xv : Int))).cell? ⟨g8, 1, none⟩ = some (.slice (some ⟨gh, 0, none⟩) D ch) := by
                      rw [World.cell?_setCell_other _ _ _ _ (fun e => by injection e with e1 _ _; have := HGG.out.1; first | exact this e1 | exact this e1.symm)]; exact x1
                    have y5 : (V.setCell ⟨gl, C, none⟩ (.int .u32 (xv : Int))).cell? ⟨b2, f2 + j, none⟩ = some (.int .u32 (xv : Int)) := by
                      rw [World.cell?_setCell_other _ _ _ _ (fun e => by injection e with e1 _ _; have := HNE.out.2.1; have := HLL.out.2; omega)]; exact v2
                    have y6 : (V.setCell ⟨gl, C, none⟩ (.int .u32 (xv : Int))).cell? ⟨b1, f1 + j, none⟩ = some (.int .i64 (C : Int)) := by
                      rw [World.cell?_setCell_other _ _ _ _ (fun e => by injection e with e1 _ _; have := HNE.out.2.1; have := HLL.out.1; omega)]; exact v1
                    have HN1 : Hid (Rw ((V.setCell ⟨gl, C, none⟩ (.int .u32 (xv : Int))).setCell ⟨gh, C, none⟩ (.int .u32 (xv : Int))) gl cl D (putsK (List.replicate D 0) at_ k (j + 1))) := hid (HA1.out.far (by show gl ≠ gh; exact HNE.out.1) _)
                    have HN2 : Hid (Rw ((V.setCell ⟨gl, C, none⟩ (.int .u32 (xv : Int))).setCell ⟨gh, C, none⟩ (.int .u32 (xv : Int))) gh ch D (putsK (List.replicate D 4294967295) at_ k (j + 1))) := hid (by rw [← HPN.out, Int.toNat_natCast]; exact HA2.out.set C xv)
                    have HN3 := hid (show ((V.setCell ⟨gl, C, none⟩ (.int .u32 (xv : Int))).setCell ⟨gh, C, none⟩ (.int .u32 (xv : Int))).heap[g8]? = some (.cells #[.slice (some ⟨gl, 0, none⟩) D cl, .slice (some ⟨gh, 0, none⟩) D ch] 25 (0, 0)) by
                      rw [Below.heap_setCell _ ⟨gh, C, none⟩ _ _ (by show g8 ≠ gh; exact HGG.out.2.symm), Below.heap_setCell _ ⟨gl, C, none⟩ _ _ (by show g8 ≠ gl; exact HGG.out.1.symm)]; exact H8'.out)
                    have HN4 := hid (show ((V.setCell ⟨gl, C, none⟩ (.int .u32 (xv : Int))).setCell ⟨gh, C, none⟩ (.int .u32 (xv : Int))).heap[w.heap.size]? = some (.cells #[Value.slice none 0 0, .slice none 0 0] 25 (0, 0)) by
                      rw [Below.heap_setCell _ ⟨gh, C, none⟩ _ _ (by show w.heap.size ≠ gh; have := HNE.out.2.2; omega), Below.heap_setCell _ ⟨gl, C, none⟩ _ _ (by show w.heap.size ≠ gl; have := HNE.out.2.1; omega)]; exact HZ'.out)
                    have HN5 := hid ((HB'.out.setCell (p := ⟨gl, C, none⟩) (by show w.heap.size ≤ gl; have := HNE.out.2.1; omega) (.int .u32 (xv : Int))).setCell (p := ⟨gh, C, none⟩) (by show w.heap.size ≤ gh; have := HNE.out.2.2; omega) (.int .u32 (xv : Int)))
                    clear HPM HPN HO1' HO2' H8' HZ' HB' HA1 HA2
                    go_wp2_with fail
                    obtain ⟨V2, hV2⟩ : ∃ V2, V2 = (V.setCell ⟨gl, C, none⟩ (.int .u32 (xv : Int))).drew := ⟨_, rfl⟩
                    have y3' : V2.cell? ⟨gh, C, none⟩ = some (.int .u32 (u2 : Int)) := by rw [hV2]; exact y3
                    have w3' : V2.frozen? ⟨gh, C, none⟩ = false := by rw [hV2]; exact w3
                    have y4' : V2.cell? ⟨g8, 1, none⟩ = some (.slice (some ⟨gh, 0, none⟩) D ch) := by rw [hV2]; exact y4
                    have y5' : V2.cell? ⟨b2, f2 + j, none⟩ = some (.int .u32 (xv : Int)) := by rw [hV2]; exact y5
                    have y6' : V2.cell? ⟨b1, f1 + j, none⟩ = some (.int .i64 (C : Int)) := by rw [hV2]; exact y6
                    have HM1 := hid (show Rw (V2.drew.setCell ⟨gh, C, none⟩ (.int .u32 (xv : Int))) gl cl D _ by rw [hV2]; exact HN1.out.kept rfl)
                    have HM2 := hid (show Rw (V2.drew.setCell ⟨gh, C, none⟩ (.int .u32 (xv : Int))) gh ch D _ by rw [hV2]; exact HN2.out.kept rfl)
                    have HM3 := hid (show (V2.drew.setCell ⟨gh, C, none⟩ (.int .u32 (xv : Int))).heap[g8]? = some (.cells #[.slice (some ⟨gl, 0, none⟩) D cl, .slice (some ⟨gh, 0, none⟩) D ch] 25 (0, 0)) by rw [hV2]; exact HN3.out)
                    have HM4 := hid (show (V2.drew.setCell ⟨gh, C, none⟩ (.int .u32 (xv : Int))).heap[w.heap.size]? = some (.cells #[Value.slice none 0 0, .slice none 0 0] 25 (0, 0)) by rw [hV2]; exact HN4.out)
                    have HM5 := hid (show Below w.heap.size w (V2.drew.setCell ⟨gh, C, none⟩ (.int .u32 (xv : Int))) by rw [hV2]; exact ⟨HN5.out.os, HN5.out.tape, HN5.out.output, HN5.out.size, HN5.out.block⟩)
                    clear y3 w3 y4 y5 y6 HN1 HN2 HN3 HN4 HN5
                    go_still_tail 11, (by kernel_rfl)
                    change wpList _ _ _ _ _ V.drew
                    go_wp2_with fail
                    rw [← hV2]
                    clear hV2 v1 v2 x0 x1 y1 y2 w1 w2
                    go_still_tail 11, (by kernel_rfl)
                    change wpList _ _ _ _ _ V2.drew
                    go_wp2_with fail
                    go_roundw
                    case rel => exact ⟨j + 1, by omega, by go_num, HN6.out, HLR.out, HM1.out, HM2.out, HM3.out, HM4.out, HM5.out⟩
                    case measure => simp [intOf]; omega
          · obtain rfl : j = at_.length := by omega
            have HP : Hid (partOk (D : Int) at_ k = true) := hid (by rw [HR.out, ← HRS.out, List.drop_length]; rfl)
            have HQ1 : Hid (Rw wr gl cl D (puts (List.replicate D 0) at_ k)) := hid (by rw [← putsK_all _ _ _ HLEN.out]; exact HO1.out)
            have HQ2 : Hid (Rw wr gh ch D (puts (List.replicate D 4294967295) at_ k)) := hid (by rw [← putsK_all _ _ _ HLEN.out]; exact HO2.out)
            have z := zero_cells HZ.out
            have x0 : wr.cell? ⟨g8, 0, none⟩ = some (.slice (some ⟨gl, 0, none⟩) D cl) := by rw [cell_of_row _ _ _ _ _ _ H8.out]; rfl
            have x1 : wr.cell? ⟨g8, 1, none⟩ = some (.slice (some ⟨gh, 0, none⟩) D ch) := by rw [cell_of_row _ _ _ _ _ _ H8.out]; rfl
            have HS := hid (store_out (lo := []) (hi := []) (A := none) (A' := none) HB.out (Nat.le_refl _) HZ.out (Pt.nil _ _) (Pt.nil _ _) (.slice (some ⟨gl, 0, none⟩) D cl) (.slice (some ⟨gh, 0, none⟩) D ch) (by simp))
            go_wp2_with fail
            have z2 := HS.out.2.2.2
            refine bodyPost_ret (v := .tuple #[.agg #[.slice (some ⟨gl, 0, none⟩) D cl, .slice (some ⟨gh, 0, none⟩) D ch], .int .i64 0]) (by simp [results, Try.results17, go_sem, z2]) rfl ?_
            have hn := HNE.out
            exact part_yes2 HP.out HKF.out ((HQ1.out.far (p := ⟨w.heap.size, 0, none⟩) (by show gl ≠ w.heap.size; omega) _).far (p := ⟨w.heap.size, 1, none⟩) (by show gl ≠ w.heap.size; omega) _)
              ((HQ2.out.far (p := ⟨w.heap.size, 0, none⟩) (by show gh ≠ w.heap.size; omega) _).far (p := ⟨w.heap.size, 1, none⟩) (by show gh ≠ w.heap.size; omega) _) HS.out.2.2.1
      · have HP : Hid (partOk dim at_ k = false) := hid (by simp [partOk, hlen])
        have e1 : ((at_.length : Int) != (k.length : Int)) = true := by simp; omega
        clear q1 q2 hlen
        go_enter Try.func17, Try.ntmps17
        go_wp2_with fail
        have z2 := HS.out.2
        refine bodyPost_ret (v := .tuple #[.agg #[.slice none 0 0, .slice none 0 0], .int .i64 1]) (by simp [results, Try.results17, go_sem]) rfl ?_
        exact part_no HP.out (by first | exact HS.out.1 | exact HB0.out)
end Go.Proofs.Ytolnbamdddiifaa.Ky
