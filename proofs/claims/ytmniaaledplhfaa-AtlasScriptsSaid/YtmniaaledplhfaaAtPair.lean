/- The code's atlas and the reference's, apart; and what is kept aside of them. -/
import Derived.Test.YtmniaaledplhfaaAtEqv
namespace Go.Proofs.Ytmniaaledplhfaa.At
open Go.RowKit
open Go.Lib (hid)
open Go.Proofs.Ytmniaaledplhfaa.Ky Go.Proofs.Ytmniaaledplhfaa.Bk Go.Proofs.Ytmniaaledplhfaa.Pt

theorem Onl.wide {F F' : Nat → Prop} {V V' : World} (h : Onl F V V') (hf : ∀ j, F j → F' j) : Onl F' V V' := ⟨h.os, h.tape, h.output, h.size, fun k hk hn => h.block k hk fun hF => hn (hf k hF)⟩
/-- both atlases, each none of the other's -/
structure Pq (w V : World) (b : Nat) (v : Value) (L : List Rec) (c : Nat) (u : Value) (K : List Rec) (d : Int) : Prop where
  a : Aw w V (FT c u) b v d L
  r : Ra w.heap.size V (FT b v) c u d K
  ap : ∀ j, FT b v j → ¬ FT c u j
section
variable {w V V' : World} {b c : Nat} {v v' u u' : Value} {L L' K K' : List Rec} {d : Int}
theorem Pq.next (h : Pq w V b v L c u K d) (hb : Below V.heap.size V V') : Pq w V' b v L c u K d := ⟨h.a.next hb, h.r.next hb, h.ap⟩
theorem Pq.turnA (h : Pq w V b v L c u K d) (ha : Aw w V' (FT c u) b v' d L') (ho : Onl (FT b v) V V') (hf : ∀ j, j < V.heap.size → FT b v' j → FT b v j) : Pq w V' b v' L' c u K d :=
  ⟨ha, ((h.r.less (X' := fun j => FT b v j ∨ FT b v' j) (fun j hj hD => .inr (hD.elim id (hf j hj)))).other ho (fun _ hj => .inl hj) (fun j hj => h.ap j hj)).less (fun _ _ hD => .inr (.inr hD)), fun _ hj hc => ha.apart _ hc hj⟩
theorem Pq.turnR (h : Pq w V b v L c u K d) (hr : Ra w.heap.size V' (FT b v) c u' d K') (ho : Onl (FT c u) V V') (hf : ∀ j, j < V.heap.size → FT c u' j → FT c u j) (hx : ∀ j, FT b v j → ¬ FT c u' j) : Pq w V' b v L c u' K' d :=
  ⟨⟨((h.a.atl.less (X' := fun j => FT c u j ∨ FT c u' j) (fun j hj hD => .inr (hD.elim id (hf j hj)))).other ho (fun _ hj => .inl hj) (fun j hj => h.a.apart j hj)).less (fun _ _ hD => .inr (.inr hD)), fun j hj hb => hx j hb hj, fun _ hj => hr.lt _ hj, h.a.below.trans (ho.below h.a.below.size h.r.ge)⟩, hr, hx⟩
/-- the reference's Put, on the pair -/
theorem pq_rput (h : Pq w V b v L c u K d) (k : List Nat) (t : ByteArray) (q : Option Addr) (c' : Nat) (hq : Pt V q k) (hr : recB k t d = true) (hl : K.length < 1000) :
    Calls Try.prog 13 #[.pointer (some ⟨c, 0, none⟩), .agg #[.slice q k.length c', .string t]] V fun e w' => e = .returned (.int .i64 0) ∧ ∃ u' K', PutR K k t K' ∧ Pq w w' b v L c u' K' d ∧ Onl (FT c u) V w' ∧ ∀ j, j < V.heap.size → FT c u' j → FT c u j :=
  (rput_ok k t q c' V h.r (fun j hj => h.a.atl.lt j hj) (fun j hj => h.ap j hj) h.a.below.size hq hr hl).mono fun _ _ ⟨h1, u', K', h2, h3, h4, h5, h6⟩ => ⟨h1, u', K', h2, h.turnR h3 h4 h5 h6, h4, h5⟩
/-- the reference's Delete -/
theorem pq_rdel (h : Pq w V b v L c u K d) (k : List Nat) (q : Option Addr) (c' : Nat) (hq : Pt V q k) :
    Calls Try.prog 15 #[.pointer (some ⟨c, 0, none⟩), .slice q k.length c'] V fun e w' => ∃ r u' K', e = .returned (.int .i64 r) ∧ DelR K k d r K' ∧ Pq w w' b v L c u' K' d ∧ Onl (FT c u) V w' ∧ ∀ j, j < V.heap.size → FT c u' j → FT c u j :=
  (rdel_ok k q c' V h.r (fun j hj => h.a.atl.lt j hj) (fun j hj => h.ap j hj) h.a.below.size hq).mono fun _ _ ⟨r, u', K', h1, h2, h3, h4, h5, h6⟩ => ⟨r, u', K', h1, h2, h.turnR h3 h4 h5 h6, h4, h5⟩
/-- the code's Put -/
theorem pq_put (h : Pq w V b v L c u K d) (k : List Nat) (t : ByteArray) (q : Option Addr) (c' : Nat) (hq : Pt V q k) (hr : recB k t d = true) (hl : L.length < 1000) :
    Calls Try.prog 12 #[.pointer (some ⟨b, 0, none⟩), .agg #[.slice q k.length c', .string t]] V fun e w' => e = .returned (.int .i64 0) ∧ ∃ v', Pq w w' b v' (putR L (k, t)) c u K d ∧ Onl (FT b v) V w' ∧ ∀ j, j < V.heap.size → FT b v' j → FT b v j :=
  (aw_put h.a k t q c' hq hr hl).mono fun _ _ ⟨h1, v', h2, h3, h4, _⟩ => ⟨h1, v', h.turnA h2 h3 h4, h3, h4⟩
/-- the code's Delete of a record that is there -/
theorem pq_del (h : Pq w V b v L c u K d) (k : List Nat) (q : Option Addr) (c' : Nat) (hq : Pt V q k) (hr : checkB k.length d = true) (hn : hasN L k = true) :
    Calls Try.prog 14 #[.pointer (some ⟨b, 0, none⟩), .slice q k.length c'] V fun e w' => e = .returned (.int .i64 0) ∧ ∃ v', Pq w w' b v' (cutR L k) c u K d ∧ Onl (FT b v) V w' ∧ ∀ j, j < V.heap.size → FT b v' j → FT b v j :=
  (aw_del h.a k q c' hq hr hn).mono fun _ _ ⟨h1, v', h2, h3, h4, _⟩ => ⟨h1, v', h.turnA h2 h3 (fun j _ hj => h4 j hj), h3, fun j _ hj => h4 j hj⟩
end
/-- what is kept aside: the list as it was, and a copy of the code's atlas -/
structure Kp (V : World) (F : Nat → Prop) (b2 : Nat) (p1 p2 : Option Addr) (L : List Rec) (d : Int) : Prop where
  head : V.heap[b2]? = some (.cells #[.int .i64 d, .slice p2 L.length L.length] 58 (0, 0))
  nb : ¬ F b2
  was : Rs F V p1 L
  old : Rs F V p2 L
theorem Kp.turn {V V' : World} {F F' : Nat → Prop} {b2 : Nat} {p1 p2 : Option Addr} {L : List Rec} {d : Int} (h : Kp V F b2 p1 p2 L d) (ho : Onl F V V') (hf : ∀ j, j < V.heap.size → F' j → F j) : Kp V' F' b2 p1 p2 L d := by
  have hlt : b2 < V.heap.size := (Array.getElem?_eq_some_iff.1 h.head).1
  exact ⟨(ho.block b2 hlt h.nb).trans h.head, fun hF => h.nb (hf b2 hlt hF), ho.list h.was hf, ho.list h.old hf⟩
theorem Kp.next {V V' : World} {F : Nat → Prop} {b2 : Nat} {p1 p2 : Option Addr} {L : List Rec} {d : Int} (h : Kp V F b2 p1 p2 L d) (hb : Below V.heap.size V V') : Kp V' F b2 p1 p2 L d := h.turn (.ofBelow hb) (fun _ _ h => h)
end Go.Proofs.Ytmniaaledplhfaa.At
