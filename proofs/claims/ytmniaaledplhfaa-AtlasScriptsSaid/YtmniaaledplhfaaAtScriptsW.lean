/- AtlasScripts walked: whatever is put, deleted, got and looked for, an atlas answers what the document's does; a copy stays as it was. -/
import Derived.Test.YtmniaaledplhfaaAtUni
namespace Go.Proofs.Ytmniaaledplhfaa
open Go.RowKit
open Go.Lib (hid)
open Go.Proofs.Ytmniaaledplhfaa.Ky
open Go.Proofs.Ytmniaaledplhfaa.Bk
open Go.Proofs.Ytmniaaledplhfaa.Pt
open Go.Proofs.Ytmniaaledplhfaa.At
set_option maxRecDepth 100000 in
theorem AtlasScripts_open1 {H : Type} {enc : TypeId × Value → H} {W : World} {base : Nat} {v : Value} {d : DataW H} {p : List MemPlace} (hv : Value.okWide Try.prog W .any base 22 v) (h : DataW.Trod enc Try.prog W 0 (fun _ => true) true 22 v d p) : ∃ a len cap, v = .slice a len cap ∧ IsScriptA W a len := open_scriptA hv h
/-- the loop: both atlases hold the same -/
def SR (w : World) (b c : Nat) (d : Int) (n : Nat) (s : Value) (wr : World) : Prop :=
  ∃ (i : Nat) (v u : Value) (L K : List Rec), s = .int .i64 (i : Int) ∧ i ≤ n ∧ i ≤ 60 ∧ Pq w wr b v L c u K d ∧ EqR K L ∧ L.length ≤ i
/-- both atlases' blocks -/
def F2 (b : Nat) (v : Value) (c : Nat) (u : Value) (j : Nat) : Prop := FT b v j ∨ FT c u j
/-- what a round holds: both atlases, the op's box, what was kept aside -/
structure Rk (w V : World) (b : Nat) (v : Value) (L : List Rec) (c : Nat) (u : Value) (K : List Rec) (d : Int) (g : Nat) (cs : Array Value) (b2 : Nat) (p1 p2 : Option Addr) (M : List Rec) : Prop where
  pq : Pq w V b v L c u K d
  box : V.heap[g]? = some (.cells cs 37 (0, 0))
  nf : ¬ F2 b v c u g
  kp : Kp V (F2 b v c u) b2 p1 p2 M d
section
variable {w V V' : World} {b c g b2 : Nat} {v v' u u' : Value} {L L' K K' M : List Rec} {d : Int} {cs : Array Value} {p1 p2 : Option Addr}
theorem Rk.lt (h : Rk w V b v L c u K d g cs b2 p1 p2 M) : g < V.heap.size := (Array.getElem?_eq_some_iff.1 h.box).1
theorem Rk.next (h : Rk w V b v L c u K d g cs b2 p1 p2 M) (hb : Below V.heap.size V V') : Rk w V' b v L c u K d g cs b2 p1 p2 M :=
  ⟨h.pq.next hb, (hb.block _ h.lt).trans h.box, h.nf, h.kp.next hb⟩
theorem Rk.drewN (h : Rk w V b v L c u K d g cs b2 p1 p2 M) (n : Nat) : Rk w (V.drewN n) b v L c u K d g cs b2 p1 p2 M := h.next (below_drewN (Below.refl _ _) n)
theorem Rk.turnA (h : Rk w V b v L c u K d g cs b2 p1 p2 M) (hq : Pq w V' b v' L' c u K d) (ho : Onl (FT b v) V V') (hf : ∀ j, j < V.heap.size → FT b v' j → FT b v j) : Rk w V' b v' L' c u K d g cs b2 p1 p2 M :=
  ⟨hq, (ho.block _ h.lt (fun hx => h.nf (.inl hx))).trans h.box, fun hx => h.nf (hx.elim (fun hy => .inl (hf _ h.lt hy)) .inr), h.kp.turn (ho.wide fun _ hx => .inl hx) (fun j hj hx => hx.elim (fun hy => .inl (hf j hj hy)) .inr)⟩
theorem Rk.turnR (h : Rk w V b v L c u K d g cs b2 p1 p2 M) (hq : Pq w V' b v L c u' K' d) (ho : Onl (FT c u) V V') (hf : ∀ j, j < V.heap.size → FT c u' j → FT c u j) : Rk w V' b v L c u' K' d g cs b2 p1 p2 M :=
  ⟨hq, (ho.block _ h.lt (fun hx => h.nf (.inr hx))).trans h.box, fun hx => h.nf (hx.elim .inl (fun hy => .inr (hf _ h.lt hy))), h.kp.turn (ho.wide fun _ hx => .inr hx) (fun j hj hx => hx.elim .inl (fun hy => .inr (hf j hj hy)))⟩
theorem box5 {x0 x1 x2 x3 x4 : Value} (h : V.heap[g]? = some (.cells #[x0, x1, x2, x3, x4] 37 (0, 0))) :
    V.cell? ⟨g, 0, none⟩ = some x0 ∧ V.cell? ⟨g, 1, none⟩ = some x1 ∧ V.cell? ⟨g, 2, none⟩ = some x2 ∧ V.cell? ⟨g, 3, none⟩ = some x3 ∧ V.cell? ⟨g, 4, none⟩ = some x4 :=
  ⟨by rw [cell_of_row _ _ _ _ _ _ h]; rfl, by rw [cell_of_row _ _ _ _ _ _ h]; rfl, by rw [cell_of_row _ _ _ _ _ _ h]; rfl, by rw [cell_of_row _ _ _ _ _ _ h]; rfl, by rw [cell_of_row _ _ _ _ _ _ h]; rfl⟩
end
/-- both atlases, new -/
theorem pq_start (d : Int) (w w1 w2 : World) (h1 : Aw w w1 No w.heap.size (.slice none 0 0) d []) (h2 : w2 = w1.alloc (.cells #[.int .i64 d, .slice none 0 0] 55 (0, 0))) :
    Pq w w2 w.heap.size (.slice none 0 0) [] w1.heap.size (.slice none 0 0) [] d := by
  have hb : Below w1.heap.size w1 w2 := by rw [h2]; exact below_alloc w1 _
  have hlt := h1.atl.ltb
  have hft : ∀ j, FT w1.heap.size (.slice none 0 0) j → j = w1.heap.size := fun j hj => by
    rcases hj with hj | hj
    · exact hj
    · cases hj
  have hfb : ∀ j, FT w.heap.size (.slice none 0 0) j → j = w.heap.size := fun j hj => by
    rcases hj with hj | hj
    · exact hj
    · cases hj
  refine ⟨⟨(h1.atl.less (X' := FT w1.heap.size (.slice none 0 0)) (fun j hj hx => by have := hft j hx; omega)).next hb, fun j hj hk => by have := hft j hj; have := hfb j hk; omega, fun j hj => by have := hft j hj; rw [h2]; simp; omega, h1.below.trans (hb.mono h1.below.size)⟩, ?_, fun j hj hk => by have := hfb j hj; have := hft j hk; omega⟩
  exact ⟨by rw [h2]; exact heap_alloc_new _ _, ⟨[], World.ownsRow_nil _ _ _ _, RC.nil⟩, h1.below.size, by simp [Value.ownBlock], by unfold bigR; simp⟩
theorem rall_as {N b : Nat} {X : Nat → Prop} {v : Value} {d : Int} {K M : List Rec} {w : World} (h : Ra N w X b v d K) (he : EqR K M) :
    Calls Try.prog 8 #[.pointer (some ⟨b, 0, none⟩)] w fun e w' => ∃ p' c', e = .returned (.slice p' M.length c') ∧ Rs (Lt w.heap.size) w' p' M ∧ Below w.heap.size w w' := by
  have := rall_ok w h
  rw [he.sort] at this
  exact this
theorem same_as {D D' : Nat → Prop} {L : List Rec} {p q : Option Addr} {c c' : Nat} {w : World} (hp : Rs D w p L) (hq : Rs D' w q L) (hl : bigR L) :
    Calls Try.prog 21 #[.slice p L.length c, .slice q L.length c'] w fun e w' => e = .returned (.bool true) ∧ Below w.heap.size w w' := by
  have := sameR_ok L L p q c c' w hp hq hl
  rw [decide_eq_true rfl] at this
  exact this.mono fun e w' ⟨h1, n, h2⟩ => ⟨h1, by rw [h2]; exact below_drewN (Below.refl _ _) n⟩
set_option maxRecDepth 100000 in
set_option maxHeartbeats 4000000 in
theorem scripts_bad (d : Int) (a : Option Addr) (n cap : Nat) (w : World) (h : d < 1 ∨ 6 < d) :
    Calls Try.prog 3 #[.int .i64 d, .slice a n cap] w fun e w' => e = .returned (.bool true) ∧ Below w.heap.size w w' := by
  have HA := hid (new_bad d w h)
  have HK := hid (rnew_bad d w h)
  clear h
  go_enter Try.func3, Try.ntmps3
  go_wp2_with fail
  refine HA.out.mono ?_
  rintro e w1 ⟨rfl, rfl⟩
  go_wp2_with fail
  refine HK.out.mono ?_
  rintro e w1 ⟨rfl, rfl⟩
  go_wp2_with fail
  go_loopw [9] (fun s wr => s = .int .i64 0 ∧ wr = w) (fun _ _ => 0)
  case atStart => exact ⟨rfl, rfl⟩
  case round =>
    obtain ⟨rfl, rfl⟩ := hrel
    by_cases hn : 0 < n
    · have e1 : decide ((0 : Int) < (n : Int)) = true := by simp; omega
      have e1' : decide (0 < n) = true := by simpa using hn
      clear hn
      go_wp2_with fail
      refine (At.live_any _).mono ?_
      rintro e w2 ⟨rfl, hb⟩
      have H1 := hid hb; clear hb
      go_wp2_with fail
      go_ret
      exact ⟨rfl, H1.out⟩
    · have e1 : decide ((0 : Int) < (n : Int)) = false := by simp; omega
      have e1' : decide (0 < n) = false := by simpa using hn
      clear hn
      go_wp2_with fail
      refine (At.live_any _).mono ?_
      rintro e w2 ⟨rfl, hb⟩
      have H1 := hid hb; clear hb
      go_wp2_with fail
      go_ret
      exact ⟨rfl, H1.out⟩
set_option maxRecDepth 100000 in
set_option maxHeartbeats 8000000 in
theorem scripts_ok (d : Int) (a : Option Addr) (n cap : Nat) (w : World) (hd : 1 ≤ d ∧ d ≤ 6) (hs : IsScriptA w a n) :
    Calls Try.prog 3 #[.int .i64 d, .slice a n cap] w fun e w' => e = .returned (.bool true) ∧ Below w.heap.size w w' := by
  have HS := hid hs
  have HN := hid (aw_new d w w (Below.refl _ _) hd (X := No) (fun _ h => h.elim))
  have HR := hid fun V : World => rnew_ok d V hd
  clear hs hd
  go_enter Try.func3, Try.ntmps3
  go_wp2_with fail
  refine HN.out.mono ?_
  rintro e w1 ⟨rfl, ha, _⟩
  have HA := hid ha; clear ha HN
  go_wp2_with fail
  refine (HR.out w1).mono ?_
  rintro e w2 ⟨rfl, hw2⟩
  have HQ := hid (pq_start d w w1 w2 HA.out hw2)
  clear hw2 HA HR
  generalize w1.heap.size = c at HQ
  go_wp2_with fail
  go_loopw [9] (fun s wr => SR w w.heap.size c d n s wr) (fun s _ => 60 - (intOf s).toNat)
  case atStart => exact ⟨0, _, _, [], [], rfl, by omega, by omega, HQ.out, EqR.nil, by simp⟩
  case round =>
    rename World => wa
    obtain ⟨i, v, u, L, K, rfl, hin, h60, hq, he, hl⟩ := hrel
    have HP := hid hq; have HE := hid he
    clear HQ hq he
    by_cases hlt : i < n
    · have e1 : decide ((i : Int) < (n : Int)) = true := by simp; omega
      have e1' : decide (i < n) = true := by simpa using hlt
      by_cases hl60 : i < 60
      · have e2 : decide ((i : Int) < 60) = true := by simp; omega
        have e2' : decide (i < 60) = true := by simpa using hl60
        obtain ⟨b0, off, rfl, hb0, hops⟩ := HS.out.2.resolve_left (by omega)
        obtain ⟨x, p, k, ck, t, q, lo, c2, r, hi, c3, hop⟩ := hops i hlt
        have hmx := HS.out.1
        have HOP := hid hop
        have hcl : ∀ {j : Nat} {y : Value}, w.cell? ⟨b0, j, none⟩ = some y → wa.cell? ⟨b0, j, none⟩ = some y := fun hj => (HP.out.a.below.cell hb0).trans hj
        have d0 := hcl hop.d0
        have d1 := hcl hop.d1
        have d2 := hcl hop.d2
        have d3 := hcl hop.d3
        have d4 := hcl hop.d4
        have HI := hid (And.intro hlt (And.intro hl60 hl))
        have s4 : IntKind.i64.wrap ((i : Int) + 1) = ((i + 1 : Nat) : Int) := Go.IntWalk.i64_in _ (by omega)
        obtain ⟨V, hV⟩ : ∃ V, wa.alloc (.cells #[.int .i64 x, .slice p k.length ck, .string t, .slice q lo.length c2, .slice r hi.length c3] 37) = V := ⟨_, rfl⟩
        have HBV := hid (show Below wa.heap.size wa V by rw [← hV]; exact below_alloc _ _)
        have HG := hid (show V.heap[wa.heap.size]? = some (.cells #[.int .i64 x, .slice p k.length ck, .string t, .slice q lo.length c2, .slice r hi.length c3] 37 (0, 0)) by rw [← hV]; exact heap_alloc_new _ _)
        obtain ⟨z0, z1, z2, z3, z4⟩ := box5 HG.out
        have HSH := hid fun V : World => short_ok x p k ck t q lo c2 r hi c3 V
        clear hl60 hl hb0 hops hop hcl hin h60
        go_wp2_with fail
        refine (HSH.out _).mono ?_
        rintro e w3 ⟨rfl, hb⟩
        have HB3 := hid (show Below wa.heap.size wa w3 from HBV.out.trans (hb.mono HBV.out.size))
        have HG3 := hid ((hb.block _ (Array.getElem?_eq_some_iff.1 HG.out).1).trans HG.out)
        clear hb z0 z1 z2 z3 z4 d0 d1 d2 d3 d4 hV hlt hmx
        cases hsh : shortB k lo hi t with
        | false =>
          have HPB := hid (HP.out.a.below.trans (HB3.out.mono HP.out.a.below.size))
          go_wp2_with fail
          refine (At.live_any _).mono ?_
          rintro e w4 ⟨rfl, hb⟩
          have H4 := hid (HPB.out.trans (hb.mono HPB.out.size)); clear hb
          go_wp2_with fail
          go_ret
          exact ⟨rfl, H4.out⟩
        | true =>
          have H3 := hid (HP.out.next HB3.out)
          have HLT := hid (show ∀ j, F2 w.heap.size v c u j → j < wa.heap.size from fun j hf => hf.elim (HP.out.a.atl.lt j) (HP.out.r.lt j))
          have hall := rall_ok w3 H3.out.r
          rw [HE.out.sort] at hall
          have HALL := hid hall
          have HC1 := hid fun V : World => atlasCheck_ok p k.length ck t d V
          have HC2 := hid fun V : World => refCheckR_ok p k.length ck t d V
          generalize err (checkB k.length d && decide (t.size ≤ 40)) = E0 at HC1 HC2
          clear hall hsh HSH HP
          go_wp2_with fail
          refine HALL.out.mono ?_
          rintro e w4 ⟨p1, cp1, rfl, hr1, hb⟩
          have H4 := hid (H3.out.next hb)
          have HG4 := hid ((hb.block _ (Array.getElem?_eq_some_iff.1 HG3.out).1).trans HG3.out)
          have HB4 := hid (show w3.heap.size ≤ w4.heap.size from hb.size)
          have HR1 := hid hr1
          clear hb hr1 HALL
          go_wp2_with fail
          refine (copy_ok w4 H4.out.a.atl).mono ?_
          rintro e w5 ⟨b2, p2, rfl, hb2, hhd, hr2, hb⟩
          have HK := hid (show Rk w w5 w.heap.size v L c u K d wa.heap.size #[.int .i64 x, .slice p k.length ck, .string t, .slice q lo.length c2, .slice r hi.length c3] b2 p1 p2 L from by
            have hs3 := HB3.out.size
            have hs4 := HB4.out
            refine ⟨H4.out.next hb, (hb.block _ (Array.getElem?_eq_some_iff.1 HG4.out).1).trans HG4.out, fun hf => Nat.lt_irrefl _ (HLT.out _ hf), ⟨hhd, fun hf => by have := HLT.out _ hf; omega, ?_, ?_⟩⟩
            · exact (Onl.ofBelow (F := Lt w3.heap.size) hb).list HR1.out (fun j _ hf => Nat.lt_of_lt_of_le (HLT.out j hf) hs3)
            · exact hr2.less (fun j _ hf => .inl (by have := HLT.out j hf; omega)))
          clear hb hb2 hhd hr2 H3 H4 HG4 HB4 HR1 HG3 HB3 HLT HBV HG
          go_wp2_with fail
          have HK1 := hid (HK.out.next (Below.refl _ _).drew)
          have y12 := And.intro (box5 HK1.out.box).2.1 (box5 HK1.out.box).2.2.1
          clear HK
          go_region_held3 (fun w' => w'.cell? ⟨wa.heap.size, 1, none⟩ = some (.slice p k.length ck) ∧ w'.cell? ⟨wa.heap.size, 2, none⟩ = some (.string t)) (first | exact y12 | exact x4 | exact x5 | go_keep)
            (first
              | (go_at_call 10; refine (HC1.out _).mono ?_; rintro e w6 ⟨rfl, hb⟩; have HK2 := hid (HK1.out.next hb); have x4 := And.intro (box5 HK2.out.box).2.1 (box5 HK2.out.box).2.2.1; clear hb)
              | (go_at_call 11; refine (HC2.out _).mono ?_; rintro e w7 ⟨rfl, hb⟩; have HK3 := hid (HK2.out.next hb); have x5 := And.intro (box5 HK3.out.box).2.1 (box5 HK3.out.box).2.2.1; clear hb)
              | fail)
          clear y12 x4 x5 HK1 HK2 HC1 HC2
          have y0 := (box5 HK3.out.box).1
          have HML := hid HK3.out.pq.a.atl.big
          by_cases hx0 : x = 0
          · subst hx0
            go_wp2_with fail
            have HK4 := hid (HK3.out.next (Below.refl _ _).drew)
            have y12 := And.intro (box5 HK4.out.box).2.1 (box5 HK4.out.box).2.2.1
            clear HK3 y0
            go_region_held3 (fun w' => w'.cell? ⟨wa.heap.size, 1, none⟩ = some (.slice p k.length ck) ∧ w'.cell? ⟨wa.heap.size, 2, none⟩ = some (.string t)) (first | exact y12 | exact x4 | exact x5 | go_keep)
              (first
                | (go_at_call 12; refine (uput HK4.out.pq k t p ck (HOP.out.hk.below HK4.out.pq.a.below) (by have := HI.out.2.2; have := HI.out.2.1; omega)).mono ?_; rintro e w8 ⟨rfl, v8, hq8, ho8, hf8⟩; have HK5 := hid (HK4.out.turnA hq8 ho8 hf8); have x4 := And.intro (box5 HK5.out.box).2.1 (box5 HK5.out.box).2.2.1; clear hq8 ho8 hf8)
                | (go_at_call 13; refine (urput HK5.out.pq k t p ck (HOP.out.hk.below HK5.out.pq.a.below) (by have := HI.out.2.2; have := HI.out.2.1; have := HE.out.len; omega)).mono ?_; rintro e w9 ⟨rfl, u9, K9, he9, hq9, ho9, hf9⟩; have HE9 := hid (he9 L HE.out); have HK6 := hid (HK5.out.turnR hq9 ho9 hf9); have x5 := And.intro (box5 HK6.out.box).2.1 (box5 HK6.out.box).2.2.1; clear he9 hq9 ho9 hf9)
                | fail)
            clear y12 x4 x5 HK4 HK5
            have HL9 := hid (show (putA L k t d).length ≤ i + 1 by have := HI.out.2.2; unfold putA; split; (rw [putR_length]; split <;> omega); omega)
            generalize putA L k t d = L9 at HK6 HE9 HL9
            go_wp2_with fail
            have HKT := hid (HK6.out.next (Below.refl _ _).drew)
            obtain ⟨pu, cu, hu, _⟩ := HKT.out.pq.r.form
            rw [HE9.out.len] at hu
            have hcu := HKT.out.pq.r.cells.2.1
            rw [hu] at hcu
            have HU := hid hu
            have hnn : ((L9.length : Int) != (L9.length : Int)) = false := by simp
            have HBM := hid HKT.out.pq.a.atl.big
            clear hu HK6
            go_region_held3 (fun w' => w'.cell? ⟨c, 1, none⟩ = some (.slice pu L9.length cu)) (first | exact hcu | exact q1 | exact q2 | exact q3 | exact q4 | exact q5 | exact q6 | go_keep)
              (first
                | (go_at_call 22; (with_reducible refine (all_ok _ HKT.out.pq.a.atl).mono ?_); rintro e wb ⟨pa, rfl, hr, hb⟩; have HK11 := hid (HKT.out.next hb); have HRA := hid (hr.less (D' := fun _ => False) (fun _ _ h => h.elim)); have q1 := (HK11.out.pq.r.cells.2.1).trans (congrArg some HU.out); clear hr hb)
                | (go_at_call 8; (with_reducible refine (rall_as HK11.out.pq.r HE9.out).mono ?_); rintro e wc ⟨pb, cb, rfl, hr, hb⟩; have HK12 := hid (HK11.out.next hb); have HRA2 := hid (HRA.out.below hb); have HRB := hid (hr.less (D' := fun _ => False) (fun _ _ h => h.elim)); have q2 := (HK12.out.pq.r.cells.2.1).trans (congrArg some HU.out); clear hr hb)
                | (go_at_call 21; (with_reducible refine (same_as HRA2.out HRB.out HBM.out).mono ?_); rintro e wd ⟨rfl, hb⟩; have HK13 := hid (HK12.out.next hb); have q3 := (HK13.out.pq.r.cells.2.1).trans (congrArg some HU.out); clear hb)
                | (go_at_call 23; (with_reducible refine (len_ok _ HK13.out.pq.a.atl).mono ?_); rintro e we ⟨rfl, rfl⟩)
                | (go_at_call 22; (with_reducible refine (all_rd _ (two_cells HK13.out.kp.head).2.1 HK13.out.kp.old HML.out).mono ?_); rintro e wf ⟨pc, rfl, hr, hb⟩; have HK15 := hid (HK13.out.next hb); have HRC := hid (hr.less (D' := fun _ => False) (fun _ _ h => h.elim)); have q5 := (HK15.out.pq.r.cells.2.1).trans (congrArg some HU.out); clear hr hb)
                | (go_at_call 21; (with_reducible refine (same_as HRC.out HK15.out.kp.was HML.out).mono ?_); rintro e wg ⟨rfl, hb⟩; have HK16 := hid (HK15.out.next hb); have q6 := (HK16.out.pq.r.cells.2.1).trans (congrArg some HU.out); clear hb)
                | fail)
            clear hcu q1 q2 q3 q5 q6 HKT HK11 HK12 HK13 HK15 HRA HRA2 HRB HRC hnn
            go_wp2_with fail
            go_roundw
            case rel => exact ⟨i + 1, _, _, _, _, rfl, HI.out.1, HI.out.2.1, HK16.out.pq, HE9.out, HL9.out⟩
            case measure => simp [intOf]; have := HI.out.2.1; omega
          · by_cases hx1 : x = 1
            · subst hx1
              go_wp2_with fail
              have HK4 := hid (HK3.out.next (Below.refl _ _).drew)
              have y12 := (box5 HK4.out.box).2.1
              clear HK3 y0
              go_region_held3 (fun w' => w'.cell? ⟨wa.heap.size, 1, none⟩ = some (.slice p k.length ck)) (first | exact y12 | exact x4 | exact x5 | go_keep)
                (first
                  | (go_at_call 14; refine (udel HK4.out.pq k p ck (HOP.out.hk.below HK4.out.pq.a.below)).mono ?_; rintro e w8 ⟨rfl, v8, hq8, ho8, hf8⟩; have HK5 := hid (HK4.out.turnA hq8 ho8 hf8); have x4 := (box5 HK5.out.box).2.1; clear hq8 ho8 hf8)
                  | (go_at_call 15; refine (urdel HK5.out.pq k p ck (HOP.out.hk.below HK5.out.pq.a.below) HE.out).mono ?_; rintro e w9 ⟨rfl, u9, K9, he9, hq9, ho9, hf9⟩; have HE9 := hid he9; have HK6 := hid (HK5.out.turnR hq9 ho9 hf9); have x5 := (box5 HK6.out.box).2.1; clear he9 hq9 ho9 hf9)
                  | fail)
              clear y12 x4 x5 HK4 HK5
              have HL9 := hid (show (delA L k d).length ≤ i + 1 by have := HI.out.2.2; unfold delA; split; (rw [cutR_length]; split <;> omega); omega)
              generalize delA L k d = L9 at HK6 HE9 HL9
              generalize delE L k d = E9
              go_wp2_with fail
              have HKT := hid (HK6.out.next (Below.refl _ _).drew)
              obtain ⟨pu, cu, hu, _⟩ := HKT.out.pq.r.form
              rw [HE9.out.len] at hu
              have hcu := HKT.out.pq.r.cells.2.1
              rw [hu] at hcu
              have HU := hid hu
              have hnn : ((L9.length : Int) != (L9.length : Int)) = false := by simp
              have HBM := hid HKT.out.pq.a.atl.big
              clear hu HK6
              go_region_held3 (fun w' => w'.cell? ⟨c, 1, none⟩ = some (.slice pu L9.length cu)) (first | exact hcu | exact q1 | exact q2 | exact q3 | exact q4 | exact q5 | exact q6 | go_keep)
                (first
                  | (go_at_call 22; (with_reducible refine (all_ok _ HKT.out.pq.a.atl).mono ?_); rintro e wb ⟨pa, rfl, hr, hb⟩; have HK11 := hid (HKT.out.next hb); have HRA := hid (hr.less (D' := fun _ => False) (fun _ _ h => h.elim)); have q1 := (HK11.out.pq.r.cells.2.1).trans (congrArg some HU.out); clear hr hb)
                  | (go_at_call 8; (with_reducible refine (rall_as HK11.out.pq.r HE9.out).mono ?_); rintro e wc ⟨pb, cb, rfl, hr, hb⟩; have HK12 := hid (HK11.out.next hb); have HRA2 := hid (HRA.out.below hb); have HRB := hid (hr.less (D' := fun _ => False) (fun _ _ h => h.elim)); have q2 := (HK12.out.pq.r.cells.2.1).trans (congrArg some HU.out); clear hr hb)
                  | (go_at_call 21; (with_reducible refine (same_as HRA2.out HRB.out HBM.out).mono ?_); rintro e wd ⟨rfl, hb⟩; have HK13 := hid (HK12.out.next hb); have q3 := (HK13.out.pq.r.cells.2.1).trans (congrArg some HU.out); clear hb)
                  | (go_at_call 23; (with_reducible refine (len_ok _ HK13.out.pq.a.atl).mono ?_); rintro e we ⟨rfl, rfl⟩)
                  | (go_at_call 22; (with_reducible refine (all_rd _ (two_cells HK13.out.kp.head).2.1 HK13.out.kp.old HML.out).mono ?_); rintro e wf ⟨pc, rfl, hr, hb⟩; have HK15 := hid (HK13.out.next hb); have HRC := hid (hr.less (D' := fun _ => False) (fun _ _ h => h.elim)); have q5 := (HK15.out.pq.r.cells.2.1).trans (congrArg some HU.out); clear hr hb)
                  | (go_at_call 21; (with_reducible refine (same_as HRC.out HK15.out.kp.was HML.out).mono ?_); rintro e wg ⟨rfl, hb⟩; have HK16 := hid (HK15.out.next hb); have q6 := (HK16.out.pq.r.cells.2.1).trans (congrArg some HU.out); clear hb)
                  | fail)
              clear hcu q1 q2 q3 q5 q6 HKT HK11 HK12 HK13 HK15 HRA HRA2 HRB HRC hnn
              go_wp2_with fail
              go_roundw
              case rel => exact ⟨i + 1, _, _, _, _, rfl, HI.out.1, HI.out.2.1, HK16.out.pq, HE9.out, HL9.out⟩
              case measure => simp [intOf]; have := HI.out.2.1; omega
            · by_cases hx2 : x = 2
              · subst hx2
                have y1 := (box5 HK3.out.box).2.1
                have HGC := hid fun (V : World) (v : Value) (K : List Rec) (u : Value) (h : Pq w V w.heap.size v L c u K d) => uget h k p ck (HOP.out.hk.below h.a.below)
                have HGR := hid fun (V : World) (v : Value) (K : List Rec) (u : Value) (h : Pq w V w.heap.size v L c u K d) (he : EqR K L) => urget h k p ck (HOP.out.hk.below h.a.below) he
                generalize getA L k d = s9 at HGC HGR
                generalize delE L k d = E9 at HGC HGR
                go_wp2_with fail
                refine (HGC.out _ _ _ _ HK3.out.pq).mono ?_
                rintro e w8 ⟨rfl, hb⟩
                have HK5 := hid (HK3.out.next hb)
                have y1b := (box5 HK5.out.box).2.1
                clear hb y0 y1 HK3
                go_wp2_with fail
                refine (HGR.out _ _ _ _ HK5.out.pq HE.out).mono ?_
                rintro e w9 ⟨rfl, hb⟩
                have HK6 := hid (HK5.out.next hb)
                have HL9 := hid (show L.length ≤ i + 1 by have := HI.out.2.2; omega)
                clear hb y1b HK5 HGC HGR
                go_wp2_with fail
                have HKT := hid (HK6.out.next (Below.refl _ _).drew)
                obtain ⟨pu, cu, hu, _⟩ := HKT.out.pq.r.form
                rw [HE.out.len] at hu
                have hcu := HKT.out.pq.r.cells.2.1
                rw [hu] at hcu
                have HU := hid hu
                have hnn : ((L.length : Int) != (L.length : Int)) = false := by simp
                have HBM := hid HKT.out.pq.a.atl.big
                clear hu HK6
                go_region_held3 (fun w' => w'.cell? ⟨c, 1, none⟩ = some (.slice pu L.length cu)) (first | exact hcu | exact q1 | exact q2 | exact q3 | exact q4 | exact q5 | exact q6 | go_keep)
                  (first
                    | (go_at_call 22; (with_reducible refine (all_ok _ HKT.out.pq.a.atl).mono ?_); rintro e wb ⟨pa, rfl, hr, hb⟩; have HK11 := hid (HKT.out.next hb); have HRA := hid (hr.less (D' := fun _ => False) (fun _ _ h => h.elim)); have q1 := (HK11.out.pq.r.cells.2.1).trans (congrArg some HU.out); clear hr hb)
                    | (go_at_call 8; (with_reducible refine (rall_as HK11.out.pq.r HE.out).mono ?_); rintro e wc ⟨pb, cb, rfl, hr, hb⟩; have HK12 := hid (HK11.out.next hb); have HRA2 := hid (HRA.out.below hb); have HRB := hid (hr.less (D' := fun _ => False) (fun _ _ h => h.elim)); have q2 := (HK12.out.pq.r.cells.2.1).trans (congrArg some HU.out); clear hr hb)
                    | (go_at_call 21; (with_reducible refine (same_as HRA2.out HRB.out HBM.out).mono ?_); rintro e wd ⟨rfl, hb⟩; have HK13 := hid (HK12.out.next hb); have q3 := (HK13.out.pq.r.cells.2.1).trans (congrArg some HU.out); clear hb)
                    | (go_at_call 23; (with_reducible refine (len_ok _ HK13.out.pq.a.atl).mono ?_); rintro e we ⟨rfl, rfl⟩)
                    | (go_at_call 22; (with_reducible refine (all_rd _ (two_cells HK13.out.kp.head).2.1 HK13.out.kp.old HML.out).mono ?_); rintro e wf ⟨pc, rfl, hr, hb⟩; have HK15 := hid (HK13.out.next hb); have HRC := hid (hr.less (D' := fun _ => False) (fun _ _ h => h.elim)); have q5 := (HK15.out.pq.r.cells.2.1).trans (congrArg some HU.out); clear hr hb)
                    | (go_at_call 21; (with_reducible refine (same_as HRC.out HK15.out.kp.was HML.out).mono ?_); rintro e wg ⟨rfl, hb⟩; have HK16 := hid (HK15.out.next hb); have q6 := (HK16.out.pq.r.cells.2.1).trans (congrArg some HU.out); clear hb)
                    | fail)
                clear hcu q1 q2 q3 q5 q6 HKT HK11 HK12 HK13 HK15 HRA HRA2 HRB HRC hnn
                go_wp2_with fail
                go_roundw
                case rel => exact ⟨i + 1, _, _, _, _, rfl, HI.out.1, HI.out.2.1, HK16.out.pq, HE.out, HL9.out⟩
                case measure => simp [intOf]; have := HI.out.2.1; omega
              · have f0 : (x == 0) = false := by simpa using hx0
                have f1 : (x == 1) = false := by simpa using hx1
                have f2 : (x == 2) = false := by simpa using hx2
                have yb := And.intro (box5 HK3.out.box).2.2.2.1 (box5 HK3.out.box).2.2.2.2
                obtain ⟨yb1, yb2⟩ := yb
                have HWC := hid fun (V : World) (v : Value) (K : List Rec) (u : Value) (h : Pq w V w.heap.size v L c u K d) => uwin h lo hi q r c2 c3 (HOP.out.hlo.below h.a.below) (HOP.out.hhi.below h.a.below) HOP.out.fit.2.2.1
                have HWR := hid fun (V : World) (v : Value) (K : List Rec) (u : Value) (h : Pq w V w.heap.size v L c u K d) (he : EqR K L) => urwin h lo hi q r c2 c3 (HOP.out.hlo.below h.a.below) (HOP.out.hhi.below h.a.below) HOP.out.fit.2.2.1 he
                have HWN := hid fun (V : World) (v : Value) (K : List Rec) (u : Value) (h : Pq w V w.heap.size v L c u K d) => ucount h lo hi q r c2 c3 (HOP.out.hlo.below h.a.below) (HOP.out.hhi.below h.a.below) HOP.out.fit.2.2.1
                have HBW := hid (show bigR (winA L lo hi d) from by
                  unfold winA
                  split
                  · exact ⟨Nat.le_trans (List.length_filter_le _ _) HML.out.1, fun x hx => HML.out.2 x (List.mem_filter.1 hx).1⟩
                  · exact ⟨by simp, fun x hx => absurd hx (by simp)⟩)
                generalize winA L lo hi d = W9 at HWC HWR HWN HBW
                generalize err (boxB lo hi d) = E9 at HWC HWR HWN
                go_wp2_with fail
                refine (HWC.out _ _ _ _ HK3.out.pq).mono ?_
                rintro e w8 ⟨pw, rfl, hr, hb⟩
                have HK5 := hid (HK3.out.next hb)
                have HR8 := hid (hr.less (D' := fun _ => False) (fun _ _ h => h.elim))
                have z1 := (box5 HK5.out.box).2.2.2.1
                have z2 := (box5 HK5.out.box).2.2.2.2
                clear hb hr y0 yb1 yb2 HK3
                go_wp2_with fail
                refine (HWR.out _ _ _ _ HK5.out.pq HE.out).mono ?_
                rintro e w9 ⟨pv, cv, rfl, hr, hb⟩
                have HK6 := hid (HK5.out.next hb)
                have HR9 := hid (HR8.out.below hb)
                have HR10 := hid hr
                have z3 := (box5 HK6.out.box).2.2.2.1
                have z4 := (box5 HK6.out.box).2.2.2.2
                clear hb hr z1 z2 HK5 HR8
                go_wp2_with fail
                refine (HWN.out _ _ _ _ HK6.out.pq).mono ?_
                rintro e w10 ⟨rfl, hb⟩
                have HK7 := hid (HK6.out.next hb)
                have HR11 := hid (HR9.out.below hb)
                have HR12 := hid (HR10.out.below hb)
                clear hb z3 z4 HK6 HR9 HR10 HWC HWR HWN
                go_wp2_with fail
                refine (same_as HR11.out HR12.out HBW.out).mono ?_
                rintro e w11 ⟨rfl, hb⟩
                have HK8 := hid (HK7.out.next hb)
                have HL9 := hid (show L.length ≤ i + 1 by have := HI.out.2.2; omega)
                clear hb HK7 HR11 HR12 HBW f0 f1 f2
                go_wp2_with fail
                have HKT := hid (HK8.out.next (Below.refl _ _).drew)
                obtain ⟨pu, cu, hu, _⟩ := HKT.out.pq.r.form
                rw [HE.out.len] at hu
                have hcu := HKT.out.pq.r.cells.2.1
                rw [hu] at hcu
                have HU := hid hu
                have hnn : ((L.length : Int) != (L.length : Int)) = false := by simp
                have HBM := hid HKT.out.pq.a.atl.big
                clear hu HK8
                go_region_held3 (fun w' => w'.cell? ⟨c, 1, none⟩ = some (.slice pu L.length cu)) (first | exact hcu | exact q1 | exact q2 | exact q3 | exact q4 | exact q5 | exact q6 | go_keep)
                  (first
                    | (go_at_call 22; (with_reducible refine (all_ok _ HKT.out.pq.a.atl).mono ?_); rintro e wb ⟨pa, rfl, hr, hb⟩; have HK11 := hid (HKT.out.next hb); have HRA := hid (hr.less (D' := fun _ => False) (fun _ _ h => h.elim)); have q1 := (HK11.out.pq.r.cells.2.1).trans (congrArg some HU.out); clear hr hb)
                    | (go_at_call 8; (with_reducible refine (rall_as HK11.out.pq.r HE.out).mono ?_); rintro e wc ⟨pb, cb, rfl, hr, hb⟩; have HK12 := hid (HK11.out.next hb); have HRA2 := hid (HRA.out.below hb); have HRB := hid (hr.less (D' := fun _ => False) (fun _ _ h => h.elim)); have q2 := (HK12.out.pq.r.cells.2.1).trans (congrArg some HU.out); clear hr hb)
                    | (go_at_call 21; (with_reducible refine (same_as HRA2.out HRB.out HBM.out).mono ?_); rintro e wd ⟨rfl, hb⟩; have HK13 := hid (HK12.out.next hb); have q3 := (HK13.out.pq.r.cells.2.1).trans (congrArg some HU.out); clear hb)
                    | (go_at_call 23; (with_reducible refine (len_ok _ HK13.out.pq.a.atl).mono ?_); rintro e we ⟨rfl, rfl⟩)
                    | (go_at_call 22; (with_reducible refine (all_rd _ (two_cells HK13.out.kp.head).2.1 HK13.out.kp.old HML.out).mono ?_); rintro e wf ⟨pc, rfl, hr, hb⟩; have HK15 := hid (HK13.out.next hb); have HRC := hid (hr.less (D' := fun _ => False) (fun _ _ h => h.elim)); have q5 := (HK15.out.pq.r.cells.2.1).trans (congrArg some HU.out); clear hr hb)
                    | (go_at_call 21; (with_reducible refine (same_as HRC.out HK15.out.kp.was HML.out).mono ?_); rintro e wg ⟨rfl, hb⟩; have HK16 := hid (HK15.out.next hb); have q6 := (HK16.out.pq.r.cells.2.1).trans (congrArg some HU.out); clear hb)
                    | fail)
                clear hcu q1 q2 q3 q5 q6 HKT HK11 HK12 HK13 HK15 HRA HRA2 HRB HRC hnn
                go_wp2_with fail
                go_roundw
                case rel => exact ⟨i + 1, _, _, _, _, rfl, HI.out.1, HI.out.2.1, HK16.out.pq, HE.out, HL9.out⟩
                case measure => simp [intOf]; have := HI.out.2.1; omega
      · have e2 : decide ((i : Int) < 60) = false := by simp; omega
        have e2' : decide (i < 60) = false := by simpa using hl60
        have HB := hid HP.out.a.below
        clear hl60 hin h60 hl hlt
        go_wp2_with fail
        refine (At.live_any _).mono ?_
        rintro e w4 ⟨rfl, hb⟩
        have H4 := hid (HB.out.trans (hb.mono HB.out.size)); clear hb
        go_wp2_with fail
        go_ret
        exact ⟨rfl, H4.out⟩
    · have e1 : decide ((i : Int) < (n : Int)) = false := by simp; omega
      have e1' : decide (i < n) = false := by simpa using hlt
      have HB := hid HP.out.a.below
      clear hin h60 hl hlt
      go_wp2_with fail
      refine (At.live_any _).mono ?_
      rintro e w4 ⟨rfl, hb⟩
      have H4 := hid (HB.out.trans (hb.mono HB.out.size)); clear hb
      go_wp2_with fail
      go_ret
      exact ⟨rfl, H4.out⟩
theorem AtlasScripts_walk (d : Int) (v : Value) (w : World) (_ : (Lit.int .i64 d).wf = true) (h : ∃ a len cap, v = .slice a len cap ∧ IsScriptA w a len) :
    Calls Try.prog 3 #[.int .i64 d, v] w fun e w' => e = .returned (.bool true) ∧ Below w.heap.size w w' := by
  obtain ⟨a, len, cap, rfl, hs⟩ := h
  by_cases hd : 1 ≤ d ∧ d ≤ 6
  · exact scripts_ok d a len cap w hd hs
  · exact scripts_bad d a len cap w (by omega)
end Go.Proofs.Ytmniaaledplhfaa
