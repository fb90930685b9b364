/- Partial of the reference. -/
import Derived.Test.YtmhjoeegghnlhaaKyPart
import Derived.Test.YtmhjoeegghnlhaaKyWhole
namespace Go.Proofs.Ytmhjoeegghnlhaa.Ky
open Go.RowKit
open Go.Lib (hid)

/-- a row of the call's own: D coordinates, in block g, with room for c -/
def Rw (w : World) (g c D : Nat) (l : List Nat) : Prop := w.ownsRow 0 30 1 (.slice (some ⟨g, 0, none⟩) D c) D (kl l)
theorem Rw.lt {w : World} {g c D : Nat} {l : List Nat} (h : Rw w g c D l) : g < w.heap.size := (World.ownsRow.lt h g rfl).2
theorem Rw.kept {w w' : World} {g c D : Nat} {l : List Nat} (h : Rw w g c D l) (hb : w'.heap[g]? = w.heap[g]?) : Rw w' g c D l := by
  refine ⟨h.1, ?_⟩
  rcases h.2 with ⟨h', _⟩ | ⟨g', cap, cur, hv, hb0, hh, rest⟩
  · cases h'
  · refine .inr ⟨g', cap, cur, hv, hb0, ?_, rest⟩
    have : g' = g := by cases hv; rfl
    subst this
    rw [hb]; exact hh
theorem Rw.below {w w' : World} {g c D : Nat} {l : List Nat} (h : Rw w g c D l) (hb : Below w.heap.size w w') : Rw w' g c D l := h.kept (hb.block g h.lt)
theorem Rw.alloc {w : World} {g c D : Nat} {l : List Nat} (h : Rw w g c D l) (o : Obj) : Rw (w.alloc o) g c D l := h.below (below_alloc w o)
theorem Rw.drew {w : World} {g c D : Nat} {l : List Nat} (h : Rw w g c D l) : Rw w.drew g c D l := h
theorem Rw.far {w : World} {g c D : Nat} {l : List Nat} (h : Rw w g c D l) {p : Addr} (hp : g ≠ p.block) (u : Value) : Rw (w.setCell p u) g c D l := h.kept (Below.heap_setCell w p u g hp)
theorem Rw.set {w : World} {g c D : Nat} {l : List Nat} (h : Rw w g c D l) (i x : Nat) : Rw (w.setCell ⟨g, i, none⟩ (.int .u32 (x : Int))) g c D (l.set i x) := by
  have := (World.ownsRow.stored h i (.int .u32 (x : Int))).1
  unfold Rw
  rw [show kl (l.set i x) = (kl l).set i (.int .u32 (x : Int)) by unfold kl; rw [List.map_set]]
  exact this
theorem Rw.cell {w : World} {g c D : Nat} {l : List Nat} (h : Rw w g c D l) (i : Nat) (hi : i < l.length) : w.cell? ⟨g, i, none⟩ = some (.int .u32 (l[i] : Int)) := by
  have hl : l.length = D := by have := h.1; rw [kl_length] at this; omega
  rw [World.ownsRow.cellAt h i (by omega)]; simp [kl, hi]
theorem Rw.frozen {w : World} {g c D : Nat} {l : List Nat} (h : Rw w g c D l) (i : Nat) : w.frozen? ⟨g, i, none⟩ = false := World.ownsRow.frozenAt h i
theorem Rw.pt {w : World} {g c D : Nat} {l : List Nat} (h : Rw w g c D l) (hf : ∀ x ∈ l, x < 4294967296) : Pt w (some ⟨g, 0, none⟩) l :=
  ⟨fun j hj => ⟨g, 0, rfl, h.lt, by rw [Nat.zero_add]; exact h.cell j hj⟩, fun j hj => hf _ (List.getElem_mem hj)⟩
/-- a new box of two rows of the call's own -/
def RowBox (w : World) (D : Nat) (e : Ending) (w' : World) : Prop :=
  ∃ gl gh cl ch, e = .returned (.agg #[.slice (some ⟨gl, 0, none⟩) D cl, .slice (some ⟨gh, 0, none⟩) D ch]) ∧ Rw w' gl cl D (List.replicate D 0) ∧ Rw w' gh ch D (List.replicate D 4294967295) ∧ gl ≠ gh ∧ w.heap.size ≤ gl ∧ w.heap.size ≤ gh ∧ Below w.heap.size w w'
theorem row_form {w : World} {base D : Nat} {v : Value} {l : List Nat} (h : w.ownsRow base 30 1 v D (kl l)) (hD : 1 ≤ D) : ∃ g c, v = .slice (some ⟨g, 0, none⟩) D c ∧ base ≤ g ∧ Rw w g c D l := by
  rcases h.2 with ⟨_, h0⟩ | ⟨g, cap, cur, rfl, hb, hh, rest⟩
  · omega
  · exact ⟨g, cap, rfl, hb, h.1, .inr ⟨g, cap, cur, rfl, Nat.zero_le _, hh, rest⟩⟩
set_option maxRecDepth 100000 in
set_option maxHeartbeats 2000000 in
theorem refWhole_two (D : Nat) (w : World) (hd : 1 ≤ D ∧ D ≤ 6) : Calls Try.prog 37 #[.int .i64 (D : Int)] w (RowBox w D) := by
  obtain ⟨oz, hoz⟩ : ∃ o, o = Obj.cells #[Value.slice none 0 0, .slice none 0 0] 34 := ⟨_, rfl⟩
  have HDD := hid hd
  clear hd
  have HB0 := hid (below_alloc w oz)
  have HX0 := hid (new_bx (w.alloc oz))
  have HZ0 := hid (heap_alloc_new w oz)
  subst hoz
  rw [World.size_alloc] at HX0
  obtain ⟨i0, hi0, hz0, hz1, hz2⟩ := info_parts info46'
  go_enter Try.func37, Try.ntmps37
  go_wp2_with fail
  go_loopw [4] (fun i wr => RW w D i wr) (fun i _ => D - (intOf i).toNat)
  case atStart => exact ⟨0, _, _, by omega, rfl, HX0.out, (Below.refl _ _).alloc (by simp) _⟩
  case round =>
    obtain ⟨k, vl, vh, hk, rfl, hx, hb⟩ := hrel
    have HX := hid hx; have HB := hid hb; clear hx hb
    have c1 := HX.out.cells
    by_cases hlt : k < D
    · have HD6 := hid HDD.out.2
      have e1 : decide ((D : Int) ≤ 6) = true := by have := HD6.out; simp; omega
      have HSZ := hid HX.out.lt
      have hk6 : k ≤ 6 := by have := HD6.out; omega
      have hmax : k + 1 ≤ maxLen := by unfold maxLen; omega
      have hby : (k + 1) * 4 ≤ 140737488355328 := by omega
      have HOL : Hid (wr.ownsRow (w.heap.size + 2) 30 1 vl k (kl (List.replicate k 0))) := hid (by have := HX.out.ol; rw [List.length_replicate] at this; exact this)
      have HSA : Hid (w.heap.size + 2 ≤ (wr.alloc (.cells #[Value.int .u32 0] 30)).heap.size) := hid (by have := HSZ.out; simp; omega)
      go_wp2_with (first
        | (at_builtin
           refine wpList_append_lies _ rfl (.tmp 16) (.tmp 17) _ rfl (w.heap.size + 2) 30 i0 _ 1 4 Try.underlying32 hi0 hz0 hz1 hz2 rfl (by omega) vl k (kl (List.replicate k 0)) rfl (HOL.out.alloc _)
             ⟨wr.heap.size, 0, none⟩ 1 1 [.int .u32 0] rfl rfl (World.news_of_block (cs := #[.int .u32 0]) (t := 30) (fr := (0, 0)) (heap_alloc_new wr _)) (by simp [Value.oneCell']) (by omega) hmax hby HSA.out (wr.heap.size + 1) (by simp) ?_
           intro gg cap w2 ho hg hat _
           have HO := hid ho; have HG := hid hg; have HA := hid hat; clear ho hg hat
           have c2 := HX.out.midc (.inl rfl) HG.out
           have HX2 := hid (HX.out.pushLo (x := 0) (by rw [List.length_replicate]) HO.out HG.out HA.out)
           have HB2 := hid (bel_push (i := 0) HB.out HOL.out HG.out HSZ.out (.slice (some ⟨gg, 0, none⟩) (k + 1) cap))
           clear HO HG HA c1
           have HOH : Hid ((w2.setCell ⟨w.heap.size + 1, 0, none⟩ (.slice (some ⟨gg, 0, none⟩) (k + 1) cap)).ownsRow (w.heap.size + 2) 30 1 vh k (kl (List.replicate k 4294967295))) := hid (by have := HX2.out.oh; rw [List.length_replicate] at this; exact this)
           have HSB : Hid (w.heap.size + 2 ≤ ((w2.setCell ⟨w.heap.size + 1, 0, none⟩ (.slice (some ⟨gg, 0, none⟩) (k + 1) cap)).alloc (.cells #[Value.int .u32 4294967295] 30)).heap.size) := hid (by have := HX2.out.lt; simp at this ⊢; omega)
           have HN2 := hid (World.news_of_block (cs := #[.int .u32 4294967295]) (t := 30) (fr := (0, 0)) (w := (w2.setCell ⟨w.heap.size + 1, 0, none⟩ (.slice (some ⟨gg, 0, none⟩) (k + 1) cap)).alloc (.cells #[Value.int .u32 4294967295] 30)) (B := w2.heap.size) (by
             have := heap_alloc_new (w2.setCell ⟨w.heap.size + 1, 0, none⟩ (.slice (some ⟨gg, 0, none⟩) (k + 1) cap)) (.cells #[Value.int .u32 4294967295] 30)
             rw [World.size_setCell] at this; exact this)))
        | (at_builtin
           refine wpList_append_lies _ rfl (.tmp 21) (.tmp 22) _ rfl (w.heap.size + 2) 30 i0 _ 1 4 Try.underlying32 hi0 hz0 hz1 hz2 rfl (by omega) vh k (kl (List.replicate k 4294967295)) rfl (HOH.out.alloc _)
             ⟨w2.heap.size, 0, none⟩ 1 1 [.int .u32 4294967295] rfl rfl HN2.out (by simp [Value.oneCell']) (by omega) hmax hby HSB.out (w2.heap.size + 1) (by simp) ?_
           intro g3 cap3 w4 ho hg hat _
           have HO := hid ho; have HG := hid hg; have HA := hid hat; clear ho hg hat
           have c4 := HX2.out.midc (.inr rfl) HG.out
           have HX3 := hid (HX2.out.pushHi (x := 4294967295) (by rw [List.length_replicate]) HO.out HG.out (by rw [World.size_setCell]; exact HA.out))
           have HB3 := hid (bel_push (i := 1) HB2.out HOH.out HG.out HX2.out.lt (.slice (some ⟨g3, 0, none⟩) (k + 1) cap3))
           clear HO HG HA))
      go_roundw
      case rel => exact ⟨k + 1, _, _, by omega, by go_num, by have := HX3.out; rw [rep_snoc, rep_snoc] at this; exact this, HB3.out⟩
      case measure => simp [intOf]; omega
    · obtain rfl : k = D := by omega
      have hx := HX.out
      obtain ⟨gl, cl, rfl, g1, r1⟩ := row_form (D := k) (l := List.replicate k 0) (by have := hx.ol; rw [List.length_replicate] at this; exact this) HDD.out.1
      obtain ⟨gh, ch, rfl, g2, r2⟩ := row_form (D := k) (l := List.replicate k 4294967295) (by have := hx.oh; rw [List.length_replicate] at this; exact this) HDD.out.1
      have hne : gl ≠ gh := by
        rcases hx.ne with h | h
        · cases h
        · intro e; subst e; exact h rfl
      have HR := hid (And.intro r1 (And.intro r2 (And.intro hne (And.intro g1 g2))))
      have hz := (HB.out.block w.heap.size (by omega)).trans HZ0.out
      have HS := hid (store_out (lo := []) (hi := []) (A := none) (A' := none) ((HB0.out).trans (HB.out.mono (by omega))) (Nat.le_refl _) hz (Pt.nil _ _) (Pt.nil _ _) (.slice (some ⟨gl, 0, none⟩) k cl) (.slice (some ⟨gh, 0, none⟩) k ch) (by simp))
      have z := zero_cells hz
      clear hx r1 r2 hne g1 g2 hz hk hlt
      go_wp2_with fail
      have z2 := HS.out.2.2.2
      refine bodyPost_ret (v := .agg #[.slice (some ⟨gl, 0, none⟩) k cl, .slice (some ⟨gh, 0, none⟩) k ch]) (by simp [results, Try.results37, go_sem, z2]) rfl ?_
      obtain ⟨q1, q2, q3, q4, q5⟩ := HR.out
      exact ⟨gl, gh, cl, ch, rfl, (q1.far (p := ⟨w.heap.size, 0, none⟩) (by show gl ≠ w.heap.size; omega) _).far (p := ⟨w.heap.size, 1, none⟩) (by show gl ≠ w.heap.size; omega) _, (q2.far (p := ⟨w.heap.size, 0, none⟩) (by show gh ≠ w.heap.size; omega) _).far (p := ⟨w.heap.size, 1, none⟩) (by show gh ≠ w.heap.size; omega) _, q3, by omega, by omega, HS.out.2.2.1⟩
/-- the loop's relation -/
def PR2 (w : World) (g8 gl gh cl ch D : Nat) (at_ : List Int) (k : List Nat) (iv : Value) (wr : World) : Prop :=
  ∃ j : Nat, j ≤ at_.length ∧ iv = .int .i64 j ∧ rises D (leastK at_ j) (at_.drop j) = rises D 0 at_ ∧ (0 ≤ leastK at_ j ∧ leastK at_ j ≤ D) ∧
    Rw wr gl cl D (putsK (List.replicate D 0) at_ k j) ∧ Rw wr gh ch D (putsK (List.replicate D 4294967295) at_ k j) ∧ wr.heap[g8]? = some (.cells #[.slice (some ⟨gl, 0, none⟩) D cl, .slice (some ⟨gh, 0, none⟩) D ch] 34 (0, 0)) ∧
    wr.heap[w.heap.size]? = some (.cells #[Value.slice none 0 0, .slice none 0 0] 34 (0, 0)) ∧ Below w.heap.size w wr
theorem part_yes2 {w w' : World} {D gl gh cl ch : Nat} {at_ : List Int} {k : List Nat} (h : partOk (D : Int) at_ k = true) (hk : ∀ x ∈ k, x < 4294967296)
    (h1 : Rw w' gl cl D (puts (List.replicate D 0) at_ k)) (h2 : Rw w' gh ch D (puts (List.replicate D 4294967295) at_ k)) (hb : Below w.heap.size w w') :
    NewBox w (partLo D at_ k) (partHi D at_ k) (.int .i64 (err (partOk D at_ k))) (.returned (.tuple #[.agg #[.slice (some ⟨gl, 0, none⟩) D cl, .slice (some ⟨gh, 0, none⟩) D ch], .int .i64 0])) w' := by
  have e1 : partLo D at_ k = puts (List.replicate D 0) at_ k := by simp [partLo, h, lowW]
  have e2 : partHi D at_ k = puts (List.replicate D 4294967295) at_ k := by simp [partHi, h, highW]
  rw [h, e1, e2]
  refine ⟨_, cl, _, ch, by rw [puts_length, puts_length, List.length_replicate, List.length_replicate]; rfl, h1.pt (puts_fit _ _ _ (rep_fit _ _ (by omega)) hk), h2.pt (puts_fit _ _ _ (rep_fit _ _ (by omega)) hk), hb⟩
theorem Rw.drewN {w : World} {g c D : Nat} {l : List Nat} (h : Rw w g c D l) (n : Nat) : Rw (w.drewN n) g c D l := h
end Go.Proofs.Ytmhjoeegghnlhaa.Ky
