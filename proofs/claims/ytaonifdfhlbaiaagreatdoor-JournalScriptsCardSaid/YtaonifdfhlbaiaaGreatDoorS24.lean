/- Merged out of JoBd, DkOp0, JoOpn, JoPg, DkRnew, JoScS, JoScT, JoScU. -/
import Derived.Test.YtaonifdfhlbaiaaGreatDoorS23
import Derived.Test.YtaonifdfhlbaiaaGreatDoorS05
import Derived.Lib.SmallJoins
import Derived.ProofKit
import Derived.Deep.Slices
import Derived.ChangeSlices
import Derived.Test.YtaonifdfhlbaiaaGreatDoorS18
import Derived.Test.YtaonifdfhlbaiaaGreatDoorS06
import Derived.Test.YtaonifdfhlbaiaaGreatDoorS19
import Derived.Deep.RegionHeld3
import Derived.Deep.CutBlock
import Derived.Deep.DeepCutAuto
/- Both journals on both disks: each call of each, whatever is asked. -/
namespace Go.Proofs.YtaonifdfhlbaiaaGreatDoor.Jn
open Go.RowKit
open Go.Lib (hid)
open Go.Proofs.YtaonifdfhlbaiaaGreatDoor.Dk
open Go.Proofs.YtaonifdfhlbaiaaGreatDoor.En (Lst PageT Pgs)
/-- both journals, at J and I, of one place and transaction, on both disks, apart from K's blocks but for those that they stand on -/
structure Jb (K : Nat → Prop) (D R J I : Nat) (w : World) (s u : St) (b n t : Nat) : Prop where
  bd : Bd K D R w s u
  kJ : K J
  kI : K I
  k0 : K 0
  j : JAt w J D b n t
  i : RAt w I R b n t
  lst : Lst w
section
variable {K : Nat → Prop} {D R J I b n t : Nat} {w w' : World} {s u : St}
theorem Jb.next (h : Jb K D R J I w s u b n t) (hb : Below w.heap.size w w') : Jb K D R J I w' s u b n t := ⟨h.bd.next hb, h.kJ, h.kI, h.k0, h.j.below hb, h.i.below hb, h.lst.next h.lst.pos hb⟩
theorem Jb.step {s' u' : St} (h : Jb K D R J I w s u b n t) (hc : Bd K D R w' s' u') (hk : KS K w w') : Jb K D R J I w' s' u' b n t :=
  ⟨hc, h.kJ, h.kI, h.k0, (hk.block J h.j.lt h.kJ).trans h.j, (hk.block I h.i.lt h.kI).trans h.i, lst_ks h.lst h.k0 hk⟩
theorem Jb.commit (h : Jb K D R J I w s u b n t) (ok : JOk b n t) {k : Nat} (hf : Few s k) (p : Option Addr) (L : List PageT) (c : Nat) (hk : k + L.length + 10 < 1000000) (hp : Pgs w p L) (hK : ∀ g off, p = some ⟨g, off, none⟩ → 0 < L.length → K g) :
    Calls Tryz.prog 10 #[.pointer (some ⟨J, 0, none⟩), .slice p L.length c] w fun e w' => e = .returned (.int .i64 (comT s b n t L).1) ∧ Jb K D R J I w' (comT s b n t L).2 u b n t ∧ KS K w w' := by
  obtain ⟨KB, hs, hc, hb⟩ := h.bd.code
  exact (jcom_t (J := J) ⟨hc, hs _ h.kJ, hs _ h.k0, h.j, h.lst⟩ ok hf p L c hk hp (fun g off e h0 => hs _ (hK g off e h0))).mono fun e w' ⟨h1, h2, h3⟩ => by
    obtain ⟨g1, g2⟩ := hb w' _ h2 h3
    exact ⟨h1, h.step g1 g2, g2⟩
theorem Jb.rcommit (h : Jb K D R J I w s u b n t) (ok : JOk b n t) {k : Nat} (hf : Few u k) (p : Option Addr) (L : List PageT) (c : Nat) (hk : k + L.length + 10 < 1000000) (hl9 : L.length ≤ 100000) (hp : Pgs w p L) (hK : ∀ g off, p = some ⟨g, off, none⟩ → 0 < L.length → K g) :
    Calls Tryz.prog 11 #[.pointer (some ⟨I, 0, none⟩), .slice p L.length c] w fun e w' => e = .returned (.int .i64 (comT u b n t L).1) ∧ Jb K D R J I w' s (comT u b n t L).2 b n t ∧ KS K w w' := by
  obtain ⟨KB, hs, hc, hb⟩ := h.bd.ref
  exact (rcom_t (J := I) ⟨hc, hs _ h.kI, h.i⟩ ok hf p L c hk hl9 hp (fun g off e h0 => hs _ (hK g off e h0))).mono fun e w' ⟨h1, h2, h3⟩ => by
    obtain ⟨g1, g2⟩ := hb w' _ h2 h3
    exact ⟨h1, h.step g1 g2, g2⟩
theorem Jb.abort (h : Jb K D R J I w s u b n t) (ok : JOk b n t) {k : Nat} (hf : Few s k) (hk : k + 10 < 1000000) :
    Calls Tryz.prog 12 #[.pointer (some ⟨J, 0, none⟩)] w fun e w' => e = .returned (.int .i64 0) ∧ Jb K D R J I w' (aboS s b t) u b n t ∧ KS K w w' := by
  obtain ⟨KB, hs, hc, hb⟩ := h.bd.code
  exact (jabort (J := J) ⟨hc, hs _ h.kJ, hs _ h.k0, h.j, h.lst⟩ ok hf hk).mono fun e w' ⟨h1, h2, h3⟩ => by
    obtain ⟨g1, g2⟩ := hb w' _ h2 h3
    exact ⟨h1, h.step g1 g2, g2⟩
theorem Jb.rabort (h : Jb K D R J I w s u b n t) (ok : JOk b n t) {k : Nat} (hf : Few u k) (hk : k + 10 < 1000000) :
    Calls Tryz.prog 13 #[.pointer (some ⟨I, 0, none⟩)] w fun e w' => e = .returned (.int .i64 0) ∧ Jb K D R J I w' s (aboS u b t) b n t ∧ KS K w w' := by
  obtain ⟨KB, hs, hc, hb⟩ := h.bd.ref
  exact (Jn.rabort (J := I) ⟨hc, hs _ h.kI, h.i⟩ ok hf hk).mono fun e w' ⟨h1, h2, h3⟩ => by
    obtain ⟨g1, g2⟩ := hb w' _ h2 h3
    exact ⟨h1, h.step g1 g2, g2⟩
theorem Jb.write (h : Jb K D R J I w s u b n t) {k : Nat} (hf : Few s k) (hk : k < 1000000) (m : Int) (x : ByteArray) :
    Calls Tryz.prog 16 #[.pointer (some ⟨D, 0, none⟩), .int .i64 m, .string x] w fun e w' => e = .returned (.int .i64 (wrU s m x).1) ∧ Jb K D R J I w' (wrU s m x).2 u b n t ∧ KS K w w' := by
  obtain ⟨KB, hs, hc, hb⟩ := h.bd.code
  exact (hc.write hf hk m x).mono fun e w' ⟨h1, h2, h3⟩ => by
    obtain ⟨g1, g2⟩ := hb w' _ h2 h3
    exact ⟨h1, h.step g1 g2, g2⟩
theorem Jb.rwrite (h : Jb K D R J I w s u b n t) {k : Nat} (hf : Few u k) (hk : k < 1000000) (m : Int) (x : ByteArray) :
    Calls Tryz.prog 17 #[.pointer (some ⟨R, 0, none⟩), .int .i64 m, .string x] w fun e w' => e = .returned (.int .i64 (wrU u m x).1) ∧ Jb K D R J I w' s (wrU u m x).2 b n t ∧ KS K w w' := by
  obtain ⟨KB, hs, hc, hb⟩ := h.bd.ref
  exact (hc.write hf hk m x).mono fun e w' ⟨h1, h2, h3⟩ => by
    obtain ⟨g1, g2⟩ := hb w' _ h2 h3
    exact ⟨h1, h.step g1 g2, g2⟩
theorem Jb.crash (h : Jb K D R J I w s u b n t) (q : Option Addr) (c : Nat) (ks : List Int) (hks : Dk.Kept w q ks) (hkl : ks.length ≤ 1000000) (torn a : Int) :
    Calls Tryz.prog 18 #[.pointer (some ⟨D, 0, none⟩), .slice q ks.length c, .int .i64 torn, .int .i64 a] w fun e w' => e = .returned (.int .i64 (crU s ks torn a).1) ∧ Jb K D R J I w' (crU s ks torn a).2 u b n t ∧ KS K w w' := by
  obtain ⟨KB, hs, hc, hb⟩ := h.bd.code
  exact (cd_crash hc q c ks hks hkl torn a).mono fun e w' ⟨h1, h2, h3⟩ => by
    obtain ⟨g1, g2⟩ := hb w' _ h2 h3
    exact ⟨h1, h.step g1 g2, g2⟩
theorem rc_crash {wr : World} {s : St} (h : Rc K R wr s) (q : Option Addr) (c : Nat) (ks : List Int) (hks : Dk.Kept wr q ks) (hq : ∀ b off, q = some ⟨b, off, none⟩ → 0 < ks.length → K b) (hcap : ks.length ≤ c) (hkl : ks.length ≤ 1000000) (torn a : Int) :
    Calls Tryz.prog 19 #[.pointer (some ⟨R, 0, none⟩), .slice q ks.length c, .int .i64 torn, .int .i64 a] wr fun e w' => e = .returned (.int .i64 (crU s ks torn a).1) ∧ Rc K R w' (crU s ks torn a).2 ∧ KS K wr w' := by
  obtain ⟨d0, hd0, hr0, hn0⟩ := h.ex
  have hone : ∀ d : Ptrs, d.D = R → Rk wr d s → (∀ k, Foot d k → ¬ K k) → Calls Tryz.prog 19 #[.pointer (some ⟨R, 0, none⟩), .slice q ks.length c, .int .i64 torn, .int .i64 a] wr fun e w' => e = .returned (.int .i64 (crU s ks torn a).1) ∧ ∃ a' : Ptrs, a'.D = d.D ∧ Rk w' a' (crU s ks torn a).2 ∧ Only d wr w' ∧ From d a' wr := fun d hd hk hn => by
    subst hd
    unfold crU
    refine (rcrash_any d s wr hk q c ks hks (fun b off e h0 hf => hn b hf (hq b off e h0)) hcap hkl torn a).mono ?_
    rintro e w' (⟨o, ho, rfl, v, h2, h3, h4⟩ | ⟨ho, rfl, hb⟩)
    · rw [ho]
      exact ⟨rfl, { d with wv := v }, rfl, h2, h3, h4⟩
    · rw [ho]
      exact ⟨rfl, d, rfl, hk.below hb, Only.below hb, From.refl _ _⟩
  refine (hone d0 hd0 hr0 hn0).mono fun e w' ⟨r, a', g1, g2, g3, g4⟩ => ⟨r, ⟨⟨a', g1.trans hd0, g2, fun k hf hk => ?_⟩, fun k hk => Nat.lt_of_lt_of_le (h.lt k hk) g3.size⟩, KS.only g3 hn0⟩
  rcases g4 k hf with e | e
  · exact hn0 k e hk
  · have := h.lt k hk; omega
theorem Jb.rcrash (h : Jb K D R J I w s u b n t) (q : Option Addr) (c : Nat) (ks : List Int) (hks : Dk.Kept w q ks) (hq : ∀ b off, q = some ⟨b, off, none⟩ → 0 < ks.length → K b) (hcap : ks.length ≤ c) (hkl : ks.length ≤ 1000000) (torn a : Int) :
    Calls Tryz.prog 19 #[.pointer (some ⟨R, 0, none⟩), .slice q ks.length c, .int .i64 torn, .int .i64 a] w fun e w' => e = .returned (.int .i64 (crU u ks torn a).1) ∧ Jb K D R J I w' s (crU u ks torn a).2 b n t ∧ KS K w w' := by
  obtain ⟨KB, hs, hc, hb⟩ := h.bd.ref
  exact (rc_crash hc q c ks hks (fun b off e h0 => hs _ (hq b off e h0)) hcap hkl torn a).mono fun e w' ⟨h1, h2, h3⟩ => by
    obtain ⟨g1, g2⟩ := hb w' _ h2 h3
    exact ⟨h1, h.step g1 g2, g2⟩
/-- both scan one thing -/
theorem Jb.scan (h : Jb K D R J I w s u b n t) (ok : JOk b n t) (hpg : b + n ≤ s.pages.length) {k : Nat} (hf : Few s k) (hk : k + 1010 < 1000000) :
    Calls Tryz.prog 20 #[.pointer (some ⟨J, 0, none⟩)] w fun e w' => ∃ r s' K', Scans (vw s) b n t 0 [] r ∧ ScanE r e w' K' w.heap.size ∧ (∀ j, K j → K' j) ∧ Jb K' D R J I w' s' u b n t ∧ KS K w w' ∧ Same s s' ∧ Few s' (k + n) := by
  obtain ⟨a, c, h1, h2, h3, h4, h5, h6, h7⟩ := h.bd.ex
  have hc : Cd (fun j => K j ∨ Foot c j) D w s := ⟨⟨a, h1, h3, fun k hf e => e.elim (h5 k hf) (h7 k hf)⟩, fun k e => e.elim (h.bd.lt k) (h4.lt k)⟩
  refine (jscan (J := J) ⟨hc, .inl h.kJ, .inl h.k0, h.j, h.lst⟩ ok hpg hf hk).mono fun e w' ⟨r, s', K', g1, g2, g3, g4, g5, g6, g7⟩ => ?_
  obtain ⟨a', q1, q3, q5⟩ := g4.ex
  have hkk : KS K w w' := KS.less g5 (fun j e => .inl e)
  refine ⟨r, s', (fun j => K' j ∧ ¬ Foot c j), g1, ?_, fun j e => ⟨g3 j (.inl e), fun hf => h6 j hf e⟩, ⟨⟨⟨a', c, q1, h2, q3, h4.kept fun k hf => g5.block k (h4.lt k hf) (.inr hf), fun k hf e => q5 k hf e.1, fun k hf e => e.2 hf, fun k hf e => q5 k hf (g3 k (.inr e))⟩, fun k e => g4.lt k e.1⟩, ⟨g3 _ (.inl h.kJ), fun hf => h6 _ hf h.kJ⟩, ⟨g3 _ (.inl h.kI), fun hf => h6 _ hf h.kI⟩, ⟨g3 _ (.inl h.k0), fun hf => h6 _ hf h.k0⟩, (hkk.block J h.j.lt h.kJ).trans h.j, (hkk.block I h.i.lt h.kI).trans h.i, lst_ks h.lst h.k0 hkk⟩, hkk, g6, g7⟩
  cases r with
  | none => exact g2
  | some L =>
    obtain ⟨p, c', e1, e2, e3⟩ := g2
    exact ⟨p, c', e1, e2, fun g off e => ⟨⟨(e3 g off e).1, fun hf => by have := (e3 g off e).2; have := h4.lt g hf; omega⟩, (e3 g off e).2⟩⟩
theorem Jb.rscan (h : Jb K D R J I w s u b n t) (ok : JOk b n t) (hpg : b + n ≤ u.pages.length) {k : Nat} (hf : Few u k) (hk : k + 1010 < 1000000) :
    Calls Tryz.prog 21 #[.pointer (some ⟨I, 0, none⟩)] w fun e w' => ∃ r u' K', Scans (vw u) b n t 0 [] r ∧ ScanE r e w' K' w.heap.size ∧ (∀ j, K j → K' j) ∧ Jb K' D R J I w' s u' b n t ∧ KS K w w' ∧ Same u u' ∧ Few u' (k + n) := by
  obtain ⟨a, c, h1, h2, h3, h4, h5, h6, h7⟩ := h.bd.ex
  have hc : Rc (fun j => K j ∨ Foot a j) R w u := ⟨⟨c, h2, h4, fun k hf e => e.elim (h6 k hf) (fun e => h7 k e hf)⟩, fun k e => e.elim (h.bd.lt k) (h3.lt k)⟩
  refine (Jn.rscan (J := I) ⟨hc, .inl h.kI, h.i⟩ h.lst (.inl h.k0) ok hpg hf hk).mono fun e w' ⟨r, u', K', g1, g2, g3, g4, g5, g6, g7⟩ => ?_
  obtain ⟨c2, q1, q3, q5⟩ := g4.ex
  have hkk : KS K w w' := KS.less g5 (fun j e => .inl e)
  refine ⟨r, u', (fun j => K' j ∧ ¬ Foot a j), g1, ?_, fun j e => ⟨g3 j (.inl e), fun hf => h5 j hf e⟩, ⟨⟨⟨a, c2, h1, q1, h3.kept fun k hf => g5.block k (h3.lt k hf) (.inr hf), q3, fun k hf e => e.2 hf, fun k hf e => q5 k hf e.1, fun k hf e => q5 k e (g3 k (.inr hf))⟩, fun k e => g4.lt k e.1⟩, ⟨g3 _ (.inl h.kJ), fun hf => h5 _ hf h.kJ⟩, ⟨g3 _ (.inl h.kI), fun hf => h5 _ hf h.kI⟩, ⟨g3 _ (.inl h.k0), fun hf => h5 _ hf h.k0⟩, (hkk.block J h.j.lt h.kJ).trans h.j, (hkk.block I h.i.lt h.kI).trans h.i, lst_ks h.lst h.k0 hkk⟩, hkk, g6, g7⟩
  cases r with
  | none => exact g2
  | some L =>
    obtain ⟨p, c', e1, e2, e3⟩ := g2
    exact ⟨p, c', e1, e2, fun g off e => ⟨⟨(e3 g off e).1, fun hf => by have := (e3 g off e).2; have := h3.lt g hf; omega⟩, (e3 g off e).2⟩⟩
/-- Next, of both -/
theorem Jb.turn (h : Jb K D R J I w s u b n t) (hne : J ≠ I) (hJ : 0 ≠ J) (hI : 0 ≠ I) (x : Nat) : Jb K D R J I ((w.setCell ⟨J, 3, none⟩ (.int .i64 (x : Int))).setCell ⟨I, 3, none⟩ (.int .i64 (x : Int))) s u b n x := by
  have hj := jset h.j x
  have hi0 : RAt (w.setCell ⟨J, 3, none⟩ (.int .i64 (x : Int))) I R b n t := by
    unfold RAt; rw [heap_setCell_other _ _ _ _ (fun e => hne e.symm)]; exact h.i
  have hi := rset hi0 x
  have hs : ((w.setCell ⟨J, 3, none⟩ (.int .i64 (x : Int))).setCell ⟨I, 3, none⟩ (.int .i64 (x : Int))).heap.size = w.heap.size := by simp
  have hb : ∀ k, k ≠ J → k ≠ I → ((w.setCell ⟨J, 3, none⟩ (.int .i64 (x : Int))).setCell ⟨I, 3, none⟩ (.int .i64 (x : Int))).heap[k]? = w.heap[k]? := fun k h1 h2 => by
    rw [heap_setCell_other _ _ _ _ h2, heap_setCell_other _ _ _ _ h1]
  refine ⟨h.bd.turn (Nat.le_of_eq hs.symm) (fun k _ hk => hb k (fun e => hk (e ▸ h.kJ)) (fun e => hk (e ▸ h.kI))), h.kJ, h.kI, h.k0, ?_, hi, ?_⟩
  · unfold JAt; rw [heap_setCell_other _ _ _ _ hne]; exact hj
  · have e : ∀ i, ((w.setCell ⟨J, 3, none⟩ (.int .i64 (x : Int))).setCell ⟨I, 3, none⟩ (.int .i64 (x : Int))).cell? ⟨0, i, none⟩ = w.cell? ⟨0, i, none⟩ := fun i => by
      unfold World.cell?
      rw [hb 0 hJ hI]
    exact ⟨(e 0).trans h.lst.c0, (e 1).trans h.lst.c1, (e 2).trans h.lst.c2, (e 3).trans h.lst.c3⟩
end
end Go.Proofs.YtaonifdfhlbaiaaGreatDoor.Jn

/- Lists of ints that came in, opened, with their room; bytes. -/
namespace Go.Proofs.YtaonifdfhlbaiaaGreatDoor.Dk
open Go.RowKit
open Go.Lib (hid)
open Go.ChangeShapes Go.WideShapes Go.Joins Go.Deep

/-- a slice of ints that came in -/
structure Is (w : World) (p : Option Addr) (l : List Int) : Prop where
  cells : Kept w p l
theorem Is.below {w w' : World} {p : Option Addr} {l : List Int} (h : Is w p l) (hb : Below w.heap.size w w') : Is w' p l := ⟨fun j hj => by
  obtain ⟨b, off, e, hlt, hc⟩ := h.cells j hj
  exact ⟨b, off, e, Nat.lt_of_lt_of_le hlt hb.size, (hb.cell (p := ⟨b, off + j, none⟩) hlt).trans hc⟩⟩
theorem wf_i64 {x : Int} (h : (Lit.int .i64 x).wf = true) : -9223372036854775808 ≤ x ∧ x ≤ 9223372036854775807 := by
  have h1 : IntKind.i64.min = -9223372036854775808 := rfl
  have h2 : IntKind.i64.max = 9223372036854775807 := rfl
  simp [Lit.wf] at h
  omega
theorem wf_u8 {x : Int} (h : (Lit.int .u8 x).wf = true) : 0 ≤ x ∧ x < 256 := by
  have h1 : IntKind.u8.min = 0 := rfl
  have h2 : IntKind.u8.max = 255 := rfl
  simp [Lit.wf] at h
  omega
section
variable {H : Type} {enc : TypeId × Value → H} {W : World} {base : Nat} {sp : Nat → Bool} {hd : Bool}
theorem cs_int : Tryz.prog.cellsOf 3 = 1 := by kernel_rfl
theorem addr_at {a : Addr} {k : IntKind} {zs : List Int} {len : Nat} (hl : len ≤ zs.length) (hc : ∀ i, i < zs.length → W.cell? (a.add i) = some (.int k (zs.getD i 0))) (h0 : 0 < len) :
    ∃ b off, a = ⟨b, off, none⟩ ∧ b < W.heap.size ∧ ∀ j, j < len → W.cell? ⟨b, off + j, none⟩ = some (.int k (zs.getD j 0)) := by
  obtain ⟨blk, off, spot⟩ := a
  have hfirst := hc 0 (by omega)
  have hspot : spot = none := by simpa [Addr.add] using World.cell?_spot hfirst
  subst hspot
  have hadd : ∀ i, (⟨blk, off, none⟩ : Addr).add i = ⟨blk, off + i, none⟩ := fun i => by unfold Addr.add; split <;> simp_all
  rw [hadd] at hfirst
  refine ⟨blk, off, rfl, block_lt_of_cell hfirst, fun j hj => ?_⟩
  have := hc j (by omega)
  rwa [hadd] at this
theorem ints_trod {n : Nat} {cs : List Value} {x : DataW H × List MemPlace} {v : Value} (hcs0 : cs = [v]) (hf : DataW.trod enc Tryz.prog W base sp hd n 40 cs = some x) : ∃ p l c, v = .slice p l.length c ∧ Is W p l ∧ l.length ≤ 9223372036854775807 ∧ l.length ≤ c := by
  rcases open_ints Tryz.underlying40 Tryz.underlying3 cs_int hf with ⟨hcs, _⟩ | ⟨a, len, cap, zs, hcs, _, hlc, hcm, hzl, _, hc, hw⟩
  · rw [hcs] at hcs0
    simp at hcs0
    subst hcs0
    exact ⟨none, [], 0, rfl, ⟨fun j hj => absurd hj (by simp)⟩, by simp, by simp⟩
  · rw [hcs] at hcs0
    simp at hcs0
    subst hcs0
    have hl : len ≤ zs.length := by rw [hzl]; split <;> omega
    have hlen : (zs.take len).length = len := by simp; omega
    refine ⟨some a, zs.take len, cap, by rw [hlen], ⟨fun j hj => ?_⟩, by rw [hlen]; unfold maxLen at hcm; omega, by rw [hlen]; exact hlc⟩
    have hj3 : j < len := by rw [hlen] at hj; exact hj
    have hj2 : j < zs.length := by omega
    obtain ⟨b, off, rfl, hlt, hcell⟩ := addr_at hl hc (by omega : 0 < len)
    refine ⟨b, off, rfl, hlt, ?_⟩
    rw [hcell j (by omega), List.getElem_take, List.getD_eq_getElem?_getD, List.getElem?_eq_getElem hj2, Option.getD_some]
end
end Go.Proofs.YtaonifdfhlbaiaaGreatDoor.Dk

/- Structs that come in, opened (written by a program of mine). -/
namespace Go.Proofs.YtaonifdfhlbaiaaGreatDoor.Dk
open Go.RowKit
open Go.Lib (hid)
open Go.ChangeShapes Go.WideShapes Go.Joins Go.Deep
section
variable {H : Type} {enc : TypeId × Value → H} {W : World} {base : Nat} {sp : Nat → Bool} {hd : Bool}
theorem cz_Pg_s : Tryz.prog.cellsOf 39 = 1 := by kernel_rfl
theorem cz_int : Tryz.prog.cellsOf 3 = 1 := by kernel_rfl
theorem cz_intc : Tryz.prog.cellsOf 40 = 1 := by kernel_rfl
theorem cz_string : Tryz.prog.cellsOf 9 = 1 := by kernel_rfl
theorem cz_one {l : List Value} {j c : Nat} {x : Value} (hx : l[j]? = some x) (hc : c = 1) : (l.drop j).take c = [x] := by
  subst hc
  obtain ⟨h, e⟩ := List.getElem?_eq_some_iff.1 hx
  rw [List.drop_eq_getElem_cons h, e]; rfl
theorem cz_two {l : List Value} {j c : Nat} {x y : Value} (hx : l[j]? = some x) (hy : l[j + 1]? = some y) (hc : c = 2) : (l.drop j).take c = [x, y] := by
  subst hc
  obtain ⟨h, e⟩ := List.getElem?_eq_some_iff.1 hx
  obtain ⟨h', e'⟩ := List.getElem?_eq_some_iff.1 hy
  rw [List.drop_eq_getElem_cons h, List.drop_eq_getElem_cons h', e, e']; rfl
/-- what such a struct holds -/
structure PgD where
  a0 : Int
  a1 : Int
  t2 : ByteArray
def PgD.cells (d : PgD) : List Value := [.int .i64 d.a0, .int .i64 d.a1, .string d.t2]
structure PgD.Ok (w : World) (d : PgD) : Prop where
  f0 : (-9223372036854775808 ≤ d.a0 ∧ d.a0 ≤ 9223372036854775807)
  f1 : (-9223372036854775808 ≤ d.a1 ∧ d.a1 ≤ 9223372036854775807)
  f2 : d.t2.size ≤ 9223372036854775807
theorem PgD.Ok.below {w w' : World} {d : PgD} (h : d.Ok w) (_ : Below w.heap.size w w') : d.Ok w' := ⟨h.f0, h.f1, h.f2⟩
theorem cz_Pg : Tryz.prog.cellsOf 62 = 3 := by kernel_rfl
set_option maxRecDepth 100000 in
set_option maxHeartbeats 1000000 in
theorem pg_cells {n : Nat} {l : List Value} {x : DataW H × List MemPlace} (hl : l.length = 3) (hf : DataW.trod enc Tryz.prog W base sp hd n 62 l = some x) : ∃ d : PgD, l = d.cells ∧ d.Ok W := by
  obtain ⟨x0, x1, x2, rfl⟩ : ∃ x0 x1 x2, l = [x0, x1, x2] := by
    match l, hl with
    | [x0, x1, x2], _ => exact ⟨x0, x1, x2, rfl⟩
  obtain ⟨xs, m, _, _, _, hlen, hff⟩ := DataW.trod_struct Tryz.underlying62 hf
  have hlen2 : xs.length = 3 := hlen
  have some_at : ∀ j, j < 3 → (xs[j]?).isSome = true := fun j hj => by rw [List.getElem?_eq_getElem (by omega)]; rfl
  obtain ⟨y0, hy0⟩ := Option.isSome_iff_exists.1 (some_at 0 (by omega))
  have h0 := hff 0 _ rfl
  rw [hy0] at h0
  have g0 : DataW.trod enc Tryz.prog W base sp hd m 3 [x0] = some y0 := by rw [← show (([x0, x1, x2] : List Value).drop 0).take (Tryz.prog.cellsOf 3) = [x0] from cz_one rfl cz_int]; exact h0
  obtain ⟨y1, hy1⟩ := Option.isSome_iff_exists.1 (some_at 1 (by omega))
  have h1 := hff 1 _ rfl
  rw [hy1] at h1
  have g1 : DataW.trod enc Tryz.prog W base sp hd m 3 [x1] = some y1 := by rw [← show (([x0, x1, x2] : List Value).drop 1).take (Tryz.prog.cellsOf 3) = [x1] from cz_one rfl cz_int]; exact h1
  obtain ⟨y2, hy2⟩ := Option.isSome_iff_exists.1 (some_at 2 (by omega))
  have h2 := hff 2 _ rfl
  rw [hy2] at h2
  have g2 : DataW.trod enc Tryz.prog W base sp hd m 9 [x2] = some y2 := by rw [← show (([x0, x1, x2] : List Value).drop 2).take (Tryz.prog.cellsOf 9) = [x2] from cz_one rfl cz_string]; exact h2
  obtain ⟨a0, e0, _, wf0⟩ := DataW.trod_int Tryz.underlying3 g0
  simp only [List.cons.injEq, and_true] at e0
  subst e0
  obtain ⟨a1, e1, _, wf1⟩ := DataW.trod_int Tryz.underlying3 g1
  simp only [List.cons.injEq, and_true] at e1
  subst e1
  obtain ⟨t2, e2, _, wt2⟩ := DataW.trod_string Tryz.underlying9 g2
  simp only [List.cons.injEq, and_true] at e2
  subst e2
  exact ⟨⟨a0, a1, t2⟩, rfl, ⟨wf_i64 wf0, wf_i64 wf1, (by unfold maxLen at wt2; show t2.size ≤ 9223372036854775807; omega)⟩⟩
/-- a value that is such a struct -/
def PgV (w : World) (v : Value) : Prop := ∃ d : PgD, v = .agg d.cells.toArray ∧ d.Ok w
set_option maxRecDepth 100000 in
theorem open_Pg {v : Value} {d : DataW H} {p : List MemPlace} (hv : Value.okWide Tryz.prog W .any base 62 v) (h : DataW.Trod enc Tryz.prog W 0 (fun _ => true) true 62 v d p) : PgV W v := by
  obtain ⟨cs, rfl, hsz⟩ := okWide_struct Tryz.underlying62 hv
  obtain ⟨fuel, hf⟩ := h
  rw [cz_Pg] at hsz
  obtain ⟨l⟩ := cs
  obtain ⟨d, rfl, hd⟩ := pg_cells (l := l) hsz hf
  exact ⟨d, rfl, hd⟩
/-- an element of a slice of such structs, from a cell on -/
structure PgAt (w : World) (b o : Nat) (d : PgD) : Prop where
  d0 : w.cell? ⟨b, o, none⟩ = some (.int .i64 d.a0)
  d1 : w.cell? ⟨b, o + 1, none⟩ = some (.int .i64 d.a1)
  d2 : w.cell? ⟨b, o + 2, none⟩ = some (.string d.t2)
  ok : d.Ok w
theorem PgAt.below {w w' : World} {b o : Nat} {d : PgD} (h : PgAt w b o d) (hlt : b < w.heap.size) (hb : Below w.heap.size w w') : PgAt w' b o d := ⟨(hb.cell (p := ⟨b, o, none⟩) hlt).trans h.d0, (hb.cell (p := ⟨b, o + 1, none⟩) hlt).trans h.d1, (hb.cell (p := ⟨b, o + 2, none⟩) hlt).trans h.d2, h.ok.below hb⟩
def IsPgs (w : World) (a : Option Addr) (len : Nat) : Prop :=
  len ≤ maxLen ∧ (len = 0 ∨ ∃ b off, a = some ⟨b, off, none⟩ ∧ b < w.heap.size ∧ ∀ i, i < len → ∃ d, PgAt w b (off + i * 3) d)
theorem IsPgs.below {w w' : World} {a : Option Addr} {len : Nat} (h : IsPgs w a len) (hb : Below w.heap.size w w') : IsPgs w' a len := by
  refine ⟨h.1, ?_⟩
  rcases h.2 with h0 | ⟨b, off, e, hlt, hd⟩
  · exact .inl h0
  · exact .inr ⟨b, off, e, Nat.lt_of_lt_of_le hlt hb.size, fun i hi => by obtain ⟨d, h2⟩ := hd i hi; exact ⟨d, h2.below hlt hb⟩⟩
set_option maxRecDepth 100000 in
set_option maxHeartbeats 1000000 in
theorem pgs_trod {n : Nat} {cs : List Value} {x : DataW H × List MemPlace} {v : Value} (hcs0 : cs = [v]) (hf : DataW.trod enc Tryz.prog W base sp hd n 39 cs = some x) : ∃ a len cap, v = .slice a len cap ∧ IsPgs W a len := by
  rcases open_slice Tryz.underlying39 hf with ⟨hcs, _⟩ | ⟨x, l, c, m, n, D, Pl, hcs, _, hlc, hcm, hm, _, hi⟩
  · rw [hcs] at hcs0
    simp at hcs0
    subst hcs0
    exact ⟨none, 0, 0, rfl, Nat.zero_le _, .inl rfl⟩
  · rw [hcs] at hcs0
    simp at hcs0
    subst hcs0
    refine ⟨_, _, _, rfl, ?_⟩
    by_cases h0 : l = 0
    · exact ⟨by rw [h0]; exact Nat.zero_le _, .inl h0⟩
    · have hml : l ≤ m := by rw [hm]; split <;> omega
      have cell : ∀ i, i < l → ∃ d : PgD, (∀ j y, d.cells[j]? = some y → W.cell? ((x.add (i * 3)).add j) = some y) ∧ d.Ok W := by
        intro i hil
        obtain ⟨cs', hc, ht'⟩ := hi i (by omega)
        rw [cz_Pg] at hc
        obtain ⟨_, hl6, hat⟩ := World.cells?_some hc
        obtain ⟨d, rfl, rest⟩ := pg_cells hl6 ht'
        refine ⟨d, fun j y hy => ?_, rest⟩
        rw [hat j (by have := (List.getElem?_eq_some_iff.1 hy).1; simpa [PgD.cells] using this), hy]
      obtain ⟨blk, off, spot⟩ := x
      obtain ⟨d0, hc0, _⟩ := cell 0 (by omega)
      have hfirst := hc0 0 _ rfl
      have hspot : spot = none := by simpa [Addr.add] using World.cell?_spot hfirst
      subst hspot
      have hadd : ∀ o i, (⟨blk, o, none⟩ : Addr).add i = ⟨blk, o + i, none⟩ := fun o i => by unfold Addr.add; split <;> simp_all
      refine ⟨by unfold maxLen at hcm ⊢; omega, .inr ⟨blk, off, rfl, ?_, fun i hil => ?_⟩⟩
      · rw [hadd, hadd] at hfirst; exact block_lt_of_cell hfirst
      · obtain ⟨d, hc, g⟩ := cell i hil
        have e0 := hc 0 _ rfl
        have e1 := hc 1 _ rfl
        have e2 := hc 2 _ rfl
        rw [hadd, hadd] at e0 e1 e2
        exact ⟨d, e0, e1, e2, g⟩
set_option maxRecDepth 100000 in
theorem open_Pgs {v : Value} {d : DataW H} {p : List MemPlace} (hv : Value.okWide Tryz.prog W .any base 39 v) (h : DataW.Trod enc Tryz.prog W 0 (fun _ => true) true 39 v d p) : ∃ a len cap, v = .slice a len cap ∧ IsPgs W a len := by
  obtain ⟨a, len, cap, rfl⟩ := okWide_slice Tryz.underlying39 hv
  obtain ⟨fuel, hf⟩ := h
  exact pgs_trod (cs := (Value.slice a len cap).cells.toList) (by simp [Value.cells]) hf
/-- what such a struct holds -/
structure OpD where
  a0 : Int
  p1 : Option Addr
  n1 : Nat
  c1 : Nat
  a2 : Int
  t3 : ByteArray
  p4 : Option Addr
  l4 : List Int
  c4 : Nat
  a5 : Int
  a6 : Int
def OpD.cells (d : OpD) : List Value := [.int .i64 d.a0, .slice d.p1 d.n1 d.c1, .int .i64 d.a2, .string d.t3, .slice d.p4 d.l4.length d.c4, .int .i64 d.a5, .int .i64 d.a6]
structure OpD.Ok (w : World) (d : OpD) : Prop where
  f0 : (-9223372036854775808 ≤ d.a0 ∧ d.a0 ≤ 9223372036854775807)
  f1 : IsPgs w d.p1 d.n1
  f2 : (-9223372036854775808 ≤ d.a2 ∧ d.a2 ≤ 9223372036854775807)
  f3 : d.t3.size ≤ 9223372036854775807
  f4 : (Is w d.p4 d.l4 ∧ d.l4.length ≤ 9223372036854775807 ∧ d.l4.length ≤ d.c4)
  f5 : (-9223372036854775808 ≤ d.a5 ∧ d.a5 ≤ 9223372036854775807)
  f6 : (-9223372036854775808 ≤ d.a6 ∧ d.a6 ≤ 9223372036854775807)
theorem OpD.Ok.below {w w' : World} {d : OpD} (h : d.Ok w) (hb : Below w.heap.size w w') : d.Ok w' := ⟨h.f0, h.f1.below hb, h.f2, h.f3, ⟨h.f4.1.below hb, h.f4.2⟩, h.f5, h.f6⟩
theorem cz_Op : Tryz.prog.cellsOf 42 = 7 := by kernel_rfl
set_option maxRecDepth 100000 in
set_option maxHeartbeats 1000000 in
theorem op_cells {n : Nat} {l : List Value} {x : DataW H × List MemPlace} (hl : l.length = 7) (hf : DataW.trod enc Tryz.prog W base sp hd n 42 l = some x) : ∃ d : OpD, l = d.cells ∧ d.Ok W := by
  obtain ⟨x0, x1, x2, x3, x4, x5, x6, rfl⟩ : ∃ x0 x1 x2 x3 x4 x5 x6, l = [x0, x1, x2, x3, x4, x5, x6] := by
    match l, hl with
    | [x0, x1, x2, x3, x4, x5, x6], _ => exact ⟨x0, x1, x2, x3, x4, x5, x6, rfl⟩
  obtain ⟨xs, m, _, _, _, hlen, hff⟩ := DataW.trod_struct Tryz.underlying42 hf
  have hlen2 : xs.length = 7 := hlen
  have some_at : ∀ j, j < 7 → (xs[j]?).isSome = true := fun j hj => by rw [List.getElem?_eq_getElem (by omega)]; rfl
  obtain ⟨y0, hy0⟩ := Option.isSome_iff_exists.1 (some_at 0 (by omega))
  have h0 := hff 0 _ rfl
  rw [hy0] at h0
  have g0 : DataW.trod enc Tryz.prog W base sp hd m 3 [x0] = some y0 := by rw [← show (([x0, x1, x2, x3, x4, x5, x6] : List Value).drop 0).take (Tryz.prog.cellsOf 3) = [x0] from cz_one rfl cz_int]; exact h0
  obtain ⟨y1, hy1⟩ := Option.isSome_iff_exists.1 (some_at 1 (by omega))
  have h1 := hff 1 _ rfl
  rw [hy1] at h1
  have g1 : DataW.trod enc Tryz.prog W base sp hd m 39 [x1] = some y1 := by rw [← show (([x0, x1, x2, x3, x4, x5, x6] : List Value).drop 1).take (Tryz.prog.cellsOf 39) = [x1] from cz_one rfl cz_Pg_s]; exact h1
  obtain ⟨y2, hy2⟩ := Option.isSome_iff_exists.1 (some_at 2 (by omega))
  have h2 := hff 2 _ rfl
  rw [hy2] at h2
  have g2 : DataW.trod enc Tryz.prog W base sp hd m 3 [x2] = some y2 := by rw [← show (([x0, x1, x2, x3, x4, x5, x6] : List Value).drop 2).take (Tryz.prog.cellsOf 3) = [x2] from cz_one rfl cz_int]; exact h2
  obtain ⟨y3, hy3⟩ := Option.isSome_iff_exists.1 (some_at 3 (by omega))
  have h3 := hff 3 _ rfl
  rw [hy3] at h3
  have g3 : DataW.trod enc Tryz.prog W base sp hd m 9 [x3] = some y3 := by rw [← show (([x0, x1, x2, x3, x4, x5, x6] : List Value).drop 3).take (Tryz.prog.cellsOf 9) = [x3] from cz_one rfl cz_string]; exact h3
  obtain ⟨y4, hy4⟩ := Option.isSome_iff_exists.1 (some_at 4 (by omega))
  have h4 := hff 4 _ rfl
  rw [hy4] at h4
  have g4 : DataW.trod enc Tryz.prog W base sp hd m 40 [x4] = some y4 := by rw [← show (([x0, x1, x2, x3, x4, x5, x6] : List Value).drop 4).take (Tryz.prog.cellsOf 40) = [x4] from cz_one rfl cz_intc]; exact h4
  obtain ⟨y5, hy5⟩ := Option.isSome_iff_exists.1 (some_at 5 (by omega))
  have h5 := hff 5 _ rfl
  rw [hy5] at h5
  have g5 : DataW.trod enc Tryz.prog W base sp hd m 3 [x5] = some y5 := by rw [← show (([x0, x1, x2, x3, x4, x5, x6] : List Value).drop 5).take (Tryz.prog.cellsOf 3) = [x5] from cz_one rfl cz_int]; exact h5
  obtain ⟨y6, hy6⟩ := Option.isSome_iff_exists.1 (some_at 6 (by omega))
  have h6 := hff 6 _ rfl
  rw [hy6] at h6
  have g6 : DataW.trod enc Tryz.prog W base sp hd m 3 [x6] = some y6 := by rw [← show (([x0, x1, x2, x3, x4, x5, x6] : List Value).drop 6).take (Tryz.prog.cellsOf 3) = [x6] from cz_one rfl cz_int]; exact h6
  obtain ⟨a0, e0, _, wf0⟩ := DataW.trod_int Tryz.underlying3 g0
  simp only [List.cons.injEq, and_true] at e0
  subst e0
  obtain ⟨p1, n1, c1, rfl, hp1⟩ := pgs_trod rfl g1
  obtain ⟨a2, e2, _, wf2⟩ := DataW.trod_int Tryz.underlying3 g2
  simp only [List.cons.injEq, and_true] at e2
  subst e2
  obtain ⟨t3, e3, _, wt3⟩ := DataW.trod_string Tryz.underlying9 g3
  simp only [List.cons.injEq, and_true] at e3
  subst e3
  obtain ⟨p4, l4, c4, rfl, hp4, hk4, hc4⟩ := ints_trod rfl g4
  obtain ⟨a5, e5, _, wf5⟩ := DataW.trod_int Tryz.underlying3 g5
  simp only [List.cons.injEq, and_true] at e5
  subst e5
  obtain ⟨a6, e6, _, wf6⟩ := DataW.trod_int Tryz.underlying3 g6
  simp only [List.cons.injEq, and_true] at e6
  subst e6
  exact ⟨⟨a0, p1, n1, c1, a2, t3, p4, l4, c4, a5, a6⟩, rfl, ⟨wf_i64 wf0, hp1, wf_i64 wf2, (by unfold maxLen at wt3; show t3.size ≤ 9223372036854775807; omega), ⟨hp4, hk4, hc4⟩, wf_i64 wf5, wf_i64 wf6⟩⟩
/-- a value that is such a struct -/
def OpV (w : World) (v : Value) : Prop := ∃ d : OpD, v = .agg d.cells.toArray ∧ d.Ok w
set_option maxRecDepth 100000 in
theorem open_Op {v : Value} {d : DataW H} {p : List MemPlace} (hv : Value.okWide Tryz.prog W .any base 42 v) (h : DataW.Trod enc Tryz.prog W 0 (fun _ => true) true 42 v d p) : OpV W v := by
  obtain ⟨cs, rfl, hsz⟩ := okWide_struct Tryz.underlying42 hv
  obtain ⟨fuel, hf⟩ := h
  rw [cz_Op] at hsz
  obtain ⟨l⟩ := cs
  obtain ⟨d, rfl, hd⟩ := op_cells (l := l) hsz hf
  exact ⟨d, rfl, hd⟩
/-- an element of a slice of such structs, from a cell on -/
structure OpAt (w : World) (b o : Nat) (d : OpD) : Prop where
  d0 : w.cell? ⟨b, o, none⟩ = some (.int .i64 d.a0)
  d1 : w.cell? ⟨b, o + 1, none⟩ = some (.slice d.p1 d.n1 d.c1)
  d2 : w.cell? ⟨b, o + 2, none⟩ = some (.int .i64 d.a2)
  d3 : w.cell? ⟨b, o + 3, none⟩ = some (.string d.t3)
  d4 : w.cell? ⟨b, o + 4, none⟩ = some (.slice d.p4 d.l4.length d.c4)
  d5 : w.cell? ⟨b, o + 5, none⟩ = some (.int .i64 d.a5)
  d6 : w.cell? ⟨b, o + 6, none⟩ = some (.int .i64 d.a6)
  ok : d.Ok w
theorem OpAt.below {w w' : World} {b o : Nat} {d : OpD} (h : OpAt w b o d) (hlt : b < w.heap.size) (hb : Below w.heap.size w w') : OpAt w' b o d := ⟨(hb.cell (p := ⟨b, o, none⟩) hlt).trans h.d0, (hb.cell (p := ⟨b, o + 1, none⟩) hlt).trans h.d1, (hb.cell (p := ⟨b, o + 2, none⟩) hlt).trans h.d2, (hb.cell (p := ⟨b, o + 3, none⟩) hlt).trans h.d3, (hb.cell (p := ⟨b, o + 4, none⟩) hlt).trans h.d4, (hb.cell (p := ⟨b, o + 5, none⟩) hlt).trans h.d5, (hb.cell (p := ⟨b, o + 6, none⟩) hlt).trans h.d6, h.ok.below hb⟩
def IsOps (w : World) (a : Option Addr) (len : Nat) : Prop :=
  len ≤ maxLen ∧ (len = 0 ∨ ∃ b off, a = some ⟨b, off, none⟩ ∧ b < w.heap.size ∧ ∀ i, i < len → ∃ d, OpAt w b (off + i * 7) d)
theorem IsOps.below {w w' : World} {a : Option Addr} {len : Nat} (h : IsOps w a len) (hb : Below w.heap.size w w') : IsOps w' a len := by
  refine ⟨h.1, ?_⟩
  rcases h.2 with h0 | ⟨b, off, e, hlt, hd⟩
  · exact .inl h0
  · exact .inr ⟨b, off, e, Nat.lt_of_lt_of_le hlt hb.size, fun i hi => by obtain ⟨d, h2⟩ := hd i hi; exact ⟨d, h2.below hlt hb⟩⟩
set_option maxRecDepth 100000 in
set_option maxHeartbeats 1000000 in
theorem ops_trod {n : Nat} {cs : List Value} {x : DataW H × List MemPlace} {v : Value} (hcs0 : cs = [v]) (hf : DataW.trod enc Tryz.prog W base sp hd n 24 cs = some x) : ∃ a len cap, v = .slice a len cap ∧ IsOps W a len := by
  rcases open_slice Tryz.underlying24 hf with ⟨hcs, _⟩ | ⟨x, l, c, m, n, D, Pl, hcs, _, hlc, hcm, hm, _, hi⟩
  · rw [hcs] at hcs0
    simp at hcs0
    subst hcs0
    exact ⟨none, 0, 0, rfl, Nat.zero_le _, .inl rfl⟩
  · rw [hcs] at hcs0
    simp at hcs0
    subst hcs0
    refine ⟨_, _, _, rfl, ?_⟩
    by_cases h0 : l = 0
    · exact ⟨by rw [h0]; exact Nat.zero_le _, .inl h0⟩
    · have hml : l ≤ m := by rw [hm]; split <;> omega
      have cell : ∀ i, i < l → ∃ d : OpD, (∀ j y, d.cells[j]? = some y → W.cell? ((x.add (i * 7)).add j) = some y) ∧ d.Ok W := by
        intro i hil
        obtain ⟨cs', hc, ht'⟩ := hi i (by omega)
        rw [cz_Op] at hc
        obtain ⟨_, hl6, hat⟩ := World.cells?_some hc
        obtain ⟨d, rfl, rest⟩ := op_cells hl6 ht'
        refine ⟨d, fun j y hy => ?_, rest⟩
        rw [hat j (by have := (List.getElem?_eq_some_iff.1 hy).1; simpa [OpD.cells] using this), hy]
      obtain ⟨blk, off, spot⟩ := x
      obtain ⟨d0, hc0, _⟩ := cell 0 (by omega)
      have hfirst := hc0 0 _ rfl
      have hspot : spot = none := by simpa [Addr.add] using World.cell?_spot hfirst
      subst hspot
      have hadd : ∀ o i, (⟨blk, o, none⟩ : Addr).add i = ⟨blk, o + i, none⟩ := fun o i => by unfold Addr.add; split <;> simp_all
      refine ⟨by unfold maxLen at hcm ⊢; omega, .inr ⟨blk, off, rfl, ?_, fun i hil => ?_⟩⟩
      · rw [hadd, hadd] at hfirst; exact block_lt_of_cell hfirst
      · obtain ⟨d, hc, g⟩ := cell i hil
        have e0 := hc 0 _ rfl
        have e1 := hc 1 _ rfl
        have e2 := hc 2 _ rfl
        have e3 := hc 3 _ rfl
        have e4 := hc 4 _ rfl
        have e5 := hc 5 _ rfl
        have e6 := hc 6 _ rfl
        rw [hadd, hadd] at e0 e1 e2 e3 e4 e5 e6
        exact ⟨d, e0, e1, e2, e3, e4, e5, e6, g⟩
set_option maxRecDepth 100000 in
theorem open_Ops {v : Value} {d : DataW H} {p : List MemPlace} (hv : Value.okWide Tryz.prog W .any base 24 v) (h : DataW.Trod enc Tryz.prog W 0 (fun _ => true) true 24 v d p) : ∃ a len cap, v = .slice a len cap ∧ IsOps W a len := by
  obtain ⟨a, len, cap, rfl⟩ := okWide_slice Tryz.underlying24 hv
  obtain ⟨fuel, hf⟩ := h
  exact ops_trod (cs := (Value.slice a len cap).cells.toList) (by simp [Value.cells]) hf
end
end Go.Proofs.YtaonifdfhlbaiaaGreatDoor.Dk

/- Pages that came in, in a struct. -/
namespace Go.Proofs.YtaonifdfhlbaiaaGreatDoor.Jn
open Go.RowKit
open Go.Proofs.YtaonifdfhlbaiaaGreatDoor.Dk
open Go.Proofs.YtaonifdfhlbaiaaGreatDoor.En (PageT Pgs)
/-- pages that came in -/
theorem jopgs {w : World} {a : Option Addr} {len : Nat} (h : Dk.IsPgs w a len) : ∃ L : List PageT, L.length = len ∧ Pgs w a L := by
  rcases h.2 with h0 | ⟨b, off, e, hlt, hd⟩
  · exact ⟨[], h0.symm, (fun i hi => absurd hi (by simp))⟩
  · refine ⟨(List.range len).attach.map fun i => ((hd i.1 (List.mem_range.1 i.2)).choose.a0, (hd i.1 (List.mem_range.1 i.2)).choose.a1, (hd i.1 (List.mem_range.1 i.2)).choose.t2), by simp, fun i hi => ?_⟩
    have hi' : i < len := by simpa using hi
    have hs := (hd i hi').choose_spec
    refine ⟨b, off, e, hlt, ?_, ?_, ?_⟩
    · simpa using hs.d0
    · simpa using hs.d1
    · simpa using hs.d2
end Go.Proofs.YtaonifdfhlbaiaaGreatDoor.Jn

/- The document's own disk: New. -/
namespace Go.Proofs.YtaonifdfhlbaiaaGreatDoor.Dk
open Go.RowKit
open Go.Lib (hid)
open Go.Proofs.YtaonifdfhlbaiaaGreatDoor.Bk (Owns ReadAt step_app run_app_own)

set_option maxHeartbeats 400000 in
theorem rdnew_bad (n : Int) (w : World) (h : n < 1 ∨ 1000 < n) :
    Calls Tryz.prog 6 #[.int .i64 n] w fun e w' => e = .returned (.tuple #[.pointer none, .int .i64 1]) ∧ w = w' := by
  by_cases h1 : n < 1
  · have e1 : decide (n < 1) = true := decide_eq_true h1
    clear h h1
    go_enter Tryz.func6, Tryz.ntmps6
    go_wp2_with fail
    go_ret2
    exact ⟨rfl, rfl⟩
  · have e1 : decide (n < 1) = false := decide_eq_false h1
    have e2 : decide ((1000 : Int) < n) = true := decide_eq_true (by omega)
    clear h h1
    go_enter Tryz.func6, Tryz.ntmps6
    go_wp2_with fail
    go_ret2
    exact ⟨rfl, rfl⟩
theorem fill_blank : fillL 0 256 = Pg.zs 256 := by rw [fillL_full]; rfl
set_option maxRecDepth 100000 in
set_option maxHeartbeats 1000000 in
theorem rblank_t (t : ByteArray) (h : blankB = t) (w : World) : Calls Tryz.prog 30 #[] w fun e w' => e = .returned (.string t) ∧ Below w.heap.size w w' := by
  have hm : (Instr.makeSlice 103 (.int .i64 256) (.int .i64 256)).run Tryz.prog w = .ok (.slice (some ⟨w.heap.size, 0, none⟩) 256 256) (w.alloc (.cells (Pg.zcells 256) 5)) := Pg.zmake 256 (by decide) w
  have hr : Fd.Row (w.alloc (.cells (Pg.zcells 256) 5)) w.heap.size (fillL 0 256) := by
    unfold Fd.Row; rw [heap_alloc_new, Pg.zcells_row, fill_blank]
  have hbk := fill_back hr
  rw [show filledB 0 = t from h] at hbk
  have HB := hid (show Below w.heap.size w (w.alloc (.cells (Pg.zcells 256) 5)) from (Below.refl _ _).alloc (Nat.le_refl _) _)
  clear hr h
  go_enter Tryz.func30, Tryz.ntmps30
  go_wp2_with fail
  go_ret
  exact ⟨rfl, HB.out⟩
theorem pr_done {w V : World} {g : Nat} {v : Value} {l : List ByteArray} (h : PR w V g v l) (h1 : 1 ≤ l.length) (hg : Good (newS l)) :
    ∃ d : Ptrs, d.D = g ∧ Rk V d (newS l) ∧ ∀ k, Foot d k → g ≤ k := by
  obtain ⟨hx, hy | ⟨g', cap, cur, hv, hb, hh, hle, hm, hsz, htk⟩⟩ := h.own
  · omega
  · subst hv
    rw [Nat.mul_one] at hsz htk
    refine ⟨⟨g, g', cap, .slice none 0 0⟩, rfl, ⟨h.box, ⟨cur, hh, hsz, hle, hm, htk⟩, World.ownsRow_nil _ _ _ _, by show g ≠ g'; omega, by simp [Value.ownBlock], by simp [Value.ownBlock], hg⟩, ?_⟩
    intro k hk
    rcases hk with e | e | e
    · have e : k = g := e; omega
    · have e : k = g' := e; omega
    · cases e
theorem blanks_next (k : Nat) : blanks (k + 1) = blanks k ++ [blankB] := by unfold blanks; rw [List.replicate_succ']
set_option maxRecDepth 100000 in
set_option maxHeartbeats 4000000 in
theorem rdnew_ok (n : Nat) (w : World) (h1 : 1 ≤ n) (h2 : n ≤ 1000) (hg : Good (newS (blanks n))) :
    Calls Tryz.prog 6 #[.int .i64 (n : Int)] w fun e w' => ∃ d : Ptrs, e = .returned (.tuple #[.pointer (some ⟨d.D, 0, none⟩), .int .i64 0]) ∧ Rk w' d (newS (blanks n)) ∧ Below w.heap.size w w' ∧ ∀ k, Foot d k → w.heap.size ≤ k := by
  have HG := hid hg
  clear hg
  have e1 : decide ((n : Int) < 1) = false := by simp; omega
  have e2 : decide ((1000 : Int) < (n : Int)) = false := by simp; omega
  go_enter Tryz.func6, Tryz.ntmps6
  go_wp2_with fail
  clear e1 e2
  go_loopw [5] (fun i wr => ∃ (k : Nat) (v : Value), k ≤ n ∧ i = .int .i64 k ∧ PR w wr w.heap.size v (blanks k)) (fun i _ => n - (intOf i).toNat)
  case atStart =>
    refine ⟨0, .slice none 0 0, by omega, rfl, ⟨?_, World.ownsRow_nil _ _ _ _, ?_⟩⟩
    · exact heap_alloc_new _ _
    · exact ballocS w _
  case round =>
    obtain ⟨k, v, hk, rfl, hpr⟩ := hrel
    have HK := hid hpr; clear hpr
    rename World => w0
    by_cases hlt : k < n
    · have e1 : decide ((k : Int) < (n : Int)) = true := by simpa using hlt
      have e1' : decide (k < n) = true := by simpa using hlt
      obtain ⟨t, ht⟩ : ∃ t, blankB = t := ⟨_, rfl⟩
      have HT := hid ht
      have HLEN := hid (show (blanks k).length = k by unfold blanks; simp)
      obtain ⟨c0, f0⟩ := HK.out.cell
      have HBL := hid (rblank_t t ht w0.drew)
      clear ht
      go_wp2_with fail
      go_region_law (first
        | (refine step_app (by rfl) _ _ _ (by rfl) (by rfl) (by rfl) HAP.out ?_; intro v' w4 hF; obtain ⟨pp, nn, cc, hvv⟩ := row_sliceS hF.1; subst hvv; have HM := hid (HK.out.more rfl HW.out hF); have c4 : w4.cell? ⟨w.heap.size, 0, none⟩ = some v := HM.out.2.1; have f4 : w4.frozen? ⟨w.heap.size, 0, none⟩ = false := HM.out.2.2; clear hF)
        | (go_simp; go_at_call 30; refine HBL.out.mono ?_; rintro e w5 ⟨rfl, hb⟩
           have HW := hid (show Below w0.heap.size w0 (w5.alloc (.cells #[.string t] 9)) from ((Below.refl w0.heap.size w0).drew.trans hb).trans ((ballocS w5 _).mono hb.size))
           have HAP := hid (str_own (w := w5.alloc (.cells #[.string t] 9)) 55 v (blanks k).length (sv (blanks k)) (own_belowS HK.out.own HW.out) (some ⟨w5.heap.size, 0, none⟩) 1 1 [.string t] (sread_one w5 (.string t) 9) rfl (by simp [Value.oneCell']) (by rw [HLEN.out]; omega) (by have := HK.out.lt; have := HW.out.size; omega))
           have c5 : w5.cell? ⟨w.heap.size, 0, none⟩ = some v := (((Below.refl w0.heap.size w0).drew.trans hb).cell (p := ⟨w.heap.size, 0, none⟩) HK.out.lt).trans c0
           have c6 : (w5.alloc (.cells #[.string t] 9)).cell? ⟨w.heap.size, 0, none⟩ = some v := (HW.out.cell (p := ⟨w.heap.size, 0, none⟩) HK.out.lt).trans c0
           clear hb))
      all_goals
        clear c0 f0 c4 f4 c5 c6
        go_wp2_with fail
        go_roundw
        case rel => exact ⟨k + 1, _, by omega, by go_num, by rw [blanks_next, HT.out]; exact HM.out.1⟩
        case measure => simp [intOf]; omega
    · obtain rfl : k = n := by omega
      have e1 : decide ((k : Int) < (k : Int)) = false := by simp
      have HD := hid (pr_done HK.out (by unfold blanks; simp; omega) HG.out)
      have HB := hid HK.out.below
      obtain ⟨dd, hD, hR, hF⟩ := HD.out
      have HR := hid hR; have HF := hid hF
      clear hR hF HD
      have HDD := hid hD
      go_wp2_with fail
      go_ret2
      exact ⟨dd, by rw [HDD.out]; rfl, HR.out, HB.out, HF.out⟩
end Go.Proofs.YtaonifdfhlbaiaaGreatDoor.Dk

/- JournalScripts: how it starts. -/
namespace Go.Proofs.YtaonifdfhlbaiaaGreatDoor.Jn
open Go.RowKit
open Go.Lib (hid)
open Go.Proofs.YtaonifdfhlbaiaaGreatDoor.Dk
open Go.Proofs.YtaonifdfhlbaiaaGreatDoor.En (Lst PageT Pgs)
theorem dnew_no (n : Int) (w : World) (h : n < 1 ∨ 1000 < n) : Calls Tryz.prog 5 #[.int .i64 n] w fun e w' => e = .returned (.tuple #[.pointer none, .int .i64 1]) ∧ w' = w := (new_bad n w h).mono fun _ _ ⟨h1, h2⟩ => ⟨h1, h2.symm⟩
theorem rdnew_no (n : Int) (w : World) (h : n < 1 ∨ 1000 < n) : Calls Tryz.prog 6 #[.int .i64 n] w fun e w' => e = .returned (.tuple #[.pointer none, .int .i64 1]) ∧ w' = w := (rdnew_bad n w h).mono fun _ _ ⟨h1, h2⟩ => ⟨h1, by first | exact h2 | exact h2.symm⟩
set_option maxRecDepth 100000 in
set_option maxHeartbeats 4000000 in
theorem jo_f1 (q : Option Addr) (len cap : Nat) (w : World) (hL : Lst w) (pg ba si tx : Int) (h : 30 < pg) :
    Calls Tryz.prog 3 #[.agg #[.int .i64 pg, .int .i64 ba, .int .i64 si, .int .i64 tx], .slice q len cap] w fun e w' => e = .returned (.bool true) ∧ Below w.heap.size w w' := by
  have HL := hid hL
  have HP := hid hL.pos
  have HB0 := hid ((Below.refl w.heap.size w).alloc (Nat.le_refl _) (.cells #[.int .i64 pg, .int .i64 ba, .int .i64 si, .int .i64 tx] 23))
  have HX0 := hid (heap_alloc_new w (.cells #[.int .i64 pg, .int .i64 ba, .int .i64 si, .int .i64 tx] 23))
  have c0 : (w.alloc (.cells #[.int .i64 pg, .int .i64 ba, .int .i64 si, .int .i64 tx] 23)).cell? ⟨w.heap.size, 0, none⟩ = some (.int .i64 pg) := by rw [cell_of_row _ _ _ _ _ _ HX0.out]; rfl
  have c1 : (w.alloc (.cells #[.int .i64 pg, .int .i64 ba, .int .i64 si, .int .i64 tx] 23)).cell? ⟨w.heap.size, 1, none⟩ = some (.int .i64 ba) := by rw [cell_of_row _ _ _ _ _ _ HX0.out]; rfl
  have c2 : (w.alloc (.cells #[.int .i64 pg, .int .i64 ba, .int .i64 si, .int .i64 tx] 23)).cell? ⟨w.heap.size, 2, none⟩ = some (.int .i64 si) := by rw [cell_of_row _ _ _ _ _ _ HX0.out]; rfl
  have c3 : (w.alloc (.cells #[.int .i64 pg, .int .i64 ba, .int .i64 si, .int .i64 tx] 23)).cell? ⟨w.heap.size, 3, none⟩ = some (.int .i64 tx) := by rw [cell_of_row _ _ _ _ _ _ HX0.out]; rfl
  have e0 : decide ((30 : Int) < pg) = true := by simpa using h
  clear hL h
  go_enter Tryz.func3, Tryz.ntmps3
  go_wp2_with fail
  refine (live_any _ (HL.out.next HP.out HB0.out)).mono ?_
  rintro e w99 ⟨rfl, hb⟩
  have HB9 := hid (hb.mono (HB0.out).size)
  have HB8 := hid ((HB0.out).trans HB9.out)
  clear hb
  go_wp2_with fail
  go_ret
  exact ⟨rfl, HB8.out⟩
set_option maxRecDepth 100000 in
set_option maxHeartbeats 4000000 in
theorem jo_f2 (q : Option Addr) (len cap : Nat) (w : World) (hL : Lst w) (pg ba si tx : Int) (h : pg < 1) :
    Calls Tryz.prog 3 #[.agg #[.int .i64 pg, .int .i64 ba, .int .i64 si, .int .i64 tx], .slice q len cap] w fun e w' => e = .returned (.bool true) ∧ Below w.heap.size w w' := by
  have HL := hid hL
  have HP := hid hL.pos
  have HB0 := hid ((Below.refl w.heap.size w).alloc (Nat.le_refl _) (.cells #[.int .i64 pg, .int .i64 ba, .int .i64 si, .int .i64 tx] 23))
  have HX0 := hid (heap_alloc_new w (.cells #[.int .i64 pg, .int .i64 ba, .int .i64 si, .int .i64 tx] 23))
  have c0 : (w.alloc (.cells #[.int .i64 pg, .int .i64 ba, .int .i64 si, .int .i64 tx] 23)).cell? ⟨w.heap.size, 0, none⟩ = some (.int .i64 pg) := by rw [cell_of_row _ _ _ _ _ _ HX0.out]; rfl
  have c1 : (w.alloc (.cells #[.int .i64 pg, .int .i64 ba, .int .i64 si, .int .i64 tx] 23)).cell? ⟨w.heap.size, 1, none⟩ = some (.int .i64 ba) := by rw [cell_of_row _ _ _ _ _ _ HX0.out]; rfl
  have c2 : (w.alloc (.cells #[.int .i64 pg, .int .i64 ba, .int .i64 si, .int .i64 tx] 23)).cell? ⟨w.heap.size, 2, none⟩ = some (.int .i64 si) := by rw [cell_of_row _ _ _ _ _ _ HX0.out]; rfl
  have c3 : (w.alloc (.cells #[.int .i64 pg, .int .i64 ba, .int .i64 si, .int .i64 tx] 23)).cell? ⟨w.heap.size, 3, none⟩ = some (.int .i64 tx) := by rw [cell_of_row _ _ _ _ _ _ HX0.out]; rfl
  have e0 : decide ((30 : Int) < pg) = false := by simp; omega
  have HD := hid fun (V : World) => dnew_no pg V (.inl h)
  have HR := hid fun (V : World) => rdnew_no pg V (.inl h)
  clear hL h
  go_enter Tryz.func3, Tryz.ntmps3
  go_wp2_with fail
  refine (HD.out _).mono ?_
  rintro e w' ⟨rfl, hw⟩
  obtain rfl := hw.symm
  go_wp2_with fail
  refine (HR.out _).mono ?_
  rintro e w' ⟨rfl, hw⟩
  obtain rfl := hw.symm
  go_wp2_with fail
  refine (jnew_nil _ ba si tx).mono ?_
  rintro e w' ⟨rfl, hw⟩
  obtain rfl := hw.symm
  go_wp2_with fail
  refine (rnew_nil _ ba si tx).mono ?_
  rintro e w' ⟨rfl, hw⟩
  obtain rfl := hw.symm
  go_wp2_with fail
  by_cases hl : 0 < len
  · have e1 : decide ((0 : Int) < (len : Int)) = true := by simp; omega
    have e2 : decide (0 < len) = true := by simp; omega
    have e3 : ¬ len = 0 := by omega
    go_loopw [13] (fun x wx => x = .int .i64 0 ∧ Below w.heap.size w wx) (fun _ _ => 0)
    case atStart => exact ⟨rfl, HB0.out⟩
    case round =>
      obtain ⟨rfl, hb⟩ := hrel
      have HB := hid hb
      clear hb
      go_wp2_with fail
      refine (live_any _ (HL.out.next HP.out HB.out)).mono ?_
      rintro e w99 ⟨rfl, hb⟩
      have HB9 := hid (hb.mono (HB.out).size)
      have HB8 := hid ((HB.out).trans HB9.out)
      clear hb
      go_wp2_with fail
      go_ret
      exact ⟨rfl, HB8.out⟩
  · obtain rfl : len = 0 := by omega
    clear hl
    go_loopw [13] (fun x wx => x = .int .i64 0 ∧ Below w.heap.size w wx) (fun _ _ => 0)
    case atStart => exact ⟨rfl, HB0.out⟩
    case round =>
      obtain ⟨rfl, hb⟩ := hrel
      have HB := hid hb
      clear hb
      go_wp2_with fail
      refine (live_any _ (HL.out.next HP.out HB.out)).mono ?_
      rintro e w99 ⟨rfl, hb⟩
      have HB9 := hid (hb.mono (HB.out).size)
      have HB8 := hid ((HB.out).trans HB9.out)
      clear hb
      go_wp2_with fail
      go_ret
      exact ⟨rfl, HB8.out⟩
end Go.Proofs.YtaonifdfhlbaiaaGreatDoor.Jn

/- JournalScripts walked. -/
namespace Go.Proofs.YtaonifdfhlbaiaaGreatDoor.Jn
open Go.RowKit
open Go.Lib (hid)
open Go.Proofs.YtaonifdfhlbaiaaGreatDoor.Dk
open Go.Proofs.YtaonifdfhlbaiaaGreatDoor.En (Lst PageT Pgs)
theorem Jb.more {K K' : Nat → Prop} {D R J I b n t : Nat} {w w' : World} {s u : St} (h : Jb K D R J I w s u b n t) (hb : Below w.heap.size w w') (hs : ∀ k, K k → K' k) (hK : ∀ k, K' k → K k ∨ w.heap.size ≤ k) (hl : ∀ k, K' k → k < w'.heap.size) : Jb K' D R J I w' s u b n t :=
  ⟨h.bd.more hb hK hl, hs _ h.kJ, hs _ h.kI, hs _ h.k0, h.j.below hb, h.i.below hb, h.lst.next h.lst.pos hb⟩
theorem blank_size : blankB.size = 256 := by
  show (Pg.blankL).toArray.size = 256
  rw [List.size_toArray]; simp [Pg.blankL, Pg.zs_length]
set_option maxRecDepth 100000 in
set_option maxHeartbeats 16000000 in
theorem jo_f3 (q : Option Addr) (len cap : Nat) (w : World) (hL : Lst w) (m : Nat) (ba si tx : Int) (h1 : 1 ≤ m) (h30 : m ≤ 30) (htx : tx ≤ 9223372036854775807) (hbad : ¬ (2 ≤ si ∧ si ≤ 999 ∧ 1 ≤ tx ∧ tx ≤ 4294967295 ∧ 0 ≤ ba ∧ ba + si ≤ (m : Int))) :
    Calls Tryz.prog 3 #[.agg #[.int .i64 (m : Int), .int .i64 ba, .int .i64 si, .int .i64 tx], .slice q len cap] w fun e w' => e = .returned (.bool true) ∧ Below w.heap.size w w' := by
  have HL := hid hL
  have HP := hid hL.pos
  have HB0 := hid ((Below.refl w.heap.size w).alloc (Nat.le_refl _) (.cells #[.int .i64 (m : Int), .int .i64 ba, .int .i64 si, .int .i64 tx] 23))
  have HX0 := hid (heap_alloc_new w (.cells #[.int .i64 (m : Int), .int .i64 ba, .int .i64 si, .int .i64 tx] 23))
  have c0 : (w.alloc (.cells #[.int .i64 (m : Int), .int .i64 ba, .int .i64 si, .int .i64 tx] 23)).cell? ⟨w.heap.size, 0, none⟩ = some (.int .i64 (m : Int)) := by rw [cell_of_row _ _ _ _ _ _ HX0.out]; rfl
  have c1 : (w.alloc (.cells #[.int .i64 (m : Int), .int .i64 ba, .int .i64 si, .int .i64 tx] 23)).cell? ⟨w.heap.size, 1, none⟩ = some (.int .i64 ba) := by rw [cell_of_row _ _ _ _ _ _ HX0.out]; rfl
  have c2 : (w.alloc (.cells #[.int .i64 (m : Int), .int .i64 ba, .int .i64 si, .int .i64 tx] 23)).cell? ⟨w.heap.size, 2, none⟩ = some (.int .i64 si) := by rw [cell_of_row _ _ _ _ _ _ HX0.out]; rfl
  have c3 : (w.alloc (.cells #[.int .i64 (m : Int), .int .i64 ba, .int .i64 si, .int .i64 tx] 23)).cell? ⟨w.heap.size, 3, none⟩ = some (.int .i64 tx) := by rw [cell_of_row _ _ _ _ _ _ HX0.out]; rfl
  have e0 : decide ((30 : Int) < (m : Int)) = false := by simp; omega
  have e0' : decide (30 < m) = false := by simp; omega
  have HG0 := hid (newS_good (l := blanks m) (by simp [blanks]; omega) (by simp [blanks]; omega) (fun p hp => by
    unfold blanks at hp
    rw [List.eq_of_mem_replicate hp]; exact blank_size))
  have HD := hid fun (V : World) => dnew m V h1 (by omega)
  have HR := hid fun (V : World) => rdnew_ok m V h1 (by omega) HG0.out
  have HSL := hid (show (newS (blanks m)).pages.length = m by show (blanks m).length = _; simp [blanks])
  clear hL h1 h30
  go_enter Tryz.func3, Tryz.ntmps3
  go_wp2_with fail
  generalize w.alloc (.cells #[.int .i64 (m : Int), .int .i64 ba, .int .i64 si, .int .i64 tx] 23) = X at *
  refine (HD.out X).mono ?_
  rintro e w2 ⟨D, rfl, hc, hb⟩
  have HC2 := hid hc
  have HB2 := hid (HB0.out.trans (hb.mono HB0.out.size))
  have HX2 := hid ((hb.block w.heap.size (Array.getElem?_eq_some_iff.1 HX0.out).1).trans HX0.out)
  have HWX := hid hb.size
  clear hc hb HD c0 c1 c2 c3
  have c0 : w2.cell? ⟨w.heap.size, 0, none⟩ = some (.int .i64 (m : Int)) := by rw [cell_of_row _ _ _ _ _ _ HX2.out]; rfl
  have c1 : w2.cell? ⟨w.heap.size, 1, none⟩ = some (.int .i64 ba) := by rw [cell_of_row _ _ _ _ _ _ HX2.out]; rfl
  have c2 : w2.cell? ⟨w.heap.size, 2, none⟩ = some (.int .i64 si) := by rw [cell_of_row _ _ _ _ _ _ HX2.out]; rfl
  have c3 : w2.cell? ⟨w.heap.size, 3, none⟩ = some (.int .i64 tx) := by rw [cell_of_row _ _ _ _ _ _ HX2.out]; rfl
  go_wp2_with fail
  refine (HR.out w2).mono ?_
  rintro e w3 ⟨d3, rfl, hr, hb, hf⟩
  have HBD := hid (bd_make HC2.out hb hr hf)
  have HB3 := hid (HB2.out.trans (hb.mono HB2.out.size))
  have HX3 := hid ((hb.block w.heap.size (Array.getElem?_eq_some_iff.1 HX2.out).1).trans HX2.out)
  have HW3 := hid (Nat.le_trans HWX.out hb.size)
  clear hr hb hf HR HC2 HB2 HX2 c0 c1 c2 c3
  generalize d3.D = R at *
  have c0 : w3.cell? ⟨w.heap.size, 0, none⟩ = some (.int .i64 (m : Int)) := by rw [cell_of_row _ _ _ _ _ _ HX3.out]; rfl
  have c1 : w3.cell? ⟨w.heap.size, 1, none⟩ = some (.int .i64 ba) := by rw [cell_of_row _ _ _ _ _ _ HX3.out]; rfl
  have c2 : w3.cell? ⟨w.heap.size, 2, none⟩ = some (.int .i64 si) := by rw [cell_of_row _ _ _ _ _ _ HX3.out]; rfl
  have c3 : w3.cell? ⟨w.heap.size, 3, none⟩ = some (.int .i64 tx) := by rw [cell_of_row _ _ _ _ _ _ HX3.out]; rfl
  obtain ⟨KB, _, hcd, -⟩ := HBD.out.code
  obtain ⟨KA, _, hrc, -⟩ := HBD.out.ref
  have HN := hid (jnew_bad hcd ba si tx htx (by rw [HSL.out]; exact hbad))
  have HM := hid (rnew_bad hrc ba si tx (by rw [HSL.out]; exact hbad))
  clear hcd hrc htx hbad
  go_wp2_with fail
  refine (HN.out).mono ?_
  rintro e w' ⟨rfl, hw⟩
  obtain rfl := hw.symm
  go_wp2_with fail
  refine (HM.out).mono ?_
  rintro e w' ⟨rfl, hw⟩
  obtain rfl := hw.symm
  go_wp2_with fail
  by_cases hl : 0 < len
  · have e1 : decide ((0 : Int) < (len : Int)) = true := by simp; omega
    have e2 : decide (0 < len) = true := by simp; omega
    have e3 : ¬ len = 0 := by omega
    go_loopw [13] (fun x wx => x = .int .i64 0 ∧ Below w.heap.size w wx) (fun _ _ => 0)
    case atStart => exact ⟨rfl, HB3.out⟩
    case round =>
      obtain ⟨rfl, hb⟩ := hrel
      have HB := hid hb
      clear hb
      go_wp2_with fail
      refine (live_any _ (HL.out.next HP.out HB.out)).mono ?_
      rintro e w99 ⟨rfl, hb⟩
      have HB9 := hid (hb.mono (HB.out).size)
      have HB8 := hid ((HB.out).trans HB9.out)
      clear hb
      go_wp2_with fail
      go_ret
      exact ⟨rfl, HB8.out⟩
  · obtain rfl : len = 0 := by omega
    clear hl
    go_loopw [13] (fun x wx => x = .int .i64 0 ∧ Below w.heap.size w wx) (fun _ _ => 0)
    case atStart => exact ⟨rfl, HB3.out⟩
    case round =>
      obtain ⟨rfl, hb⟩ := hrel
      have HB := hid hb
      clear hb
      go_wp2_with fail
      refine (live_any _ (HL.out.next HP.out HB.out)).mono ?_
      rintro e w99 ⟨rfl, hb⟩
      have HB9 := hid (hb.mono (HB.out).size)
      have HB8 := hid ((HB.out).trans HB9.out)
      clear hb
      go_wp2_with fail
      go_ret
      exact ⟨rfl, HB8.out⟩
end Go.Proofs.YtaonifdfhlbaiaaGreatDoor.Jn

/- What a round of JournalScripts wants behind its switch. -/
namespace Go.Proofs.YtaonifdfhlbaiaaGreatDoor.Jn
open Go.RowKit
open Go.Lib (hid)
open Go.Proofs.YtaonifdfhlbaiaaGreatDoor.Dk
open Go.Proofs.YtaonifdfhlbaiaaGreatDoor.En (Lst PageT Pgs)
theorem Scans.few {V : Nat → ByteArray} {b n t i : Nat} {acc : List PageT} {r : Option (List PageT)} (h : Scans V b n t i acc r) : ∀ L, r = some L → acc.length ≤ i → L.length ≤ n := by
  induction h with
  | stop h => intro L e; cases e
  | no h g => intro L e; cases e
  | page h g _ ih => intro L e hl; exact ih L e (by simp; omega)
  | done h g k q => intro L e hl; cases e; omega
  | other h g k q => intro L e; cases e
theorem ScanE.one {r : Option (List PageT)} {e : Ending} {w' : World} {K' : Nat → Prop} {N : Nat} (h : ScanE r e w' K' N) :
    ∃ p c, e = .returned (.tuple #[.slice p (r.getD []).length c, .bool r.isSome]) ∧ Pgs w' p (r.getD []) ∧ (∀ g off, p = some ⟨g, off, none⟩ → K' g) := by
  cases r with
  | none => exact ⟨none, 0, h, (fun i hi => absurd hi (Nat.not_lt_zero i)), (fun g off e => nomatch e)⟩
  | some L => obtain ⟨p, c, h1, h2, h3⟩ := h; exact ⟨p, c, h1, h2, fun g off e => (h3 g off e).1⟩
theorem pgs_ks2 {K : Nat → Prop} {w w' : World} {p : Option Addr} {L : List PageT} (h : Pgs w p L) (hk : KS K w w') (hK : ∀ g off, p = some ⟨g, off, none⟩ → K g) : Pgs w' p L := by
  intro i hi
  obtain ⟨b, off, e, hl, h1, h2, h3⟩ := h i hi
  have hb := hk.block b hl (hK b off e)
  have hc : ∀ j, w'.cell? ⟨b, j, none⟩ = w.cell? ⟨b, j, none⟩ := fun j => by unfold World.cell?; rw [hb]
  exact ⟨b, off, e, Nat.lt_of_lt_of_le hl hk.size, (hc _).trans h1, (hc _).trans h2, (hc _).trans h3⟩
theorem Same.sq {s u s' u' : St} (h : Same s u) (a : Same s s') (b : Same u u') : Same s' u' :=
  ⟨(b.pages.trans h.pages).trans a.pages.symm, (b.waits.trans h.waits).trans a.waits.symm, (b.fuse.trans h.fuse).trans a.fuse.symm, (b.writes.trans h.writes).trans a.writes.symm, (b.flushes.trans h.flushes).trans a.flushes.symm⟩
theorem texts_two (l : List ByteArray) (p q : Option Addr) (c c' : Nat) (w : World) (hp : CellsAt w p (sv l)) (hq : CellsAt w q (sv l)) (hl : l.length ≤ 1000000) :
    Calls Tryz.prog 25 #[.slice p l.length c, .slice q l.length c'] w fun e w' => e = .returned (.bool true) ∧ Below w.heap.size w w' :=
  (texts_ok l l p q c c' w hp hq hl).mono fun e w' ⟨h1, n, h2⟩ => ⟨by rw [h1]; simp, by rw [h2]; exact ⟨rfl, rfl, rfl, Nat.le_refl _, fun _ _ => rfl⟩⟩
theorem pages_two (L : List PageT) (p q : Option Addr) (c d : Nat) (w : World) (hp : Pgs w p L) (hq : Pgs w q L) (hl : L.length ≤ 1000000) :
    Calls Tryz.prog 22 #[.slice p L.length c, .slice q L.length d] w fun e w' => e = .returned (.bool true) ∧ Below w.heap.size w w' :=
  (pages_any L L p q c d w hp hq hl).mono fun e w' ⟨h1, h2⟩ => ⟨by rw [h1]; simp, h2⟩
theorem Bd.shows {K : Nat → Prop} {D R : Nat} {w : World} {s t : St} (h : Bd K D R w s t) : ∃ P c, ∀ X : World, Below w.heap.size w X → X.cell? ⟨R, 0, none⟩ = some (.slice (some ⟨P, 0, none⟩) t.pages.length c) ∧ CellsAt X (some ⟨P, 0, none⟩) (sv t.pages) := by
  obtain ⟨a, b, _, rfl, _, h4, _⟩ := h.ex
  refine ⟨b.P, b.cp, fun X hX => ?_⟩
  have h5 := h4.below hX
  obtain ⟨c0, _⟩ := h5.cells
  refine ⟨c0, fun j hj => ⟨b.P, 0, rfl, ?_⟩⟩
  have hj' : j < t.pages.length := by rw [sv_length] at hj; exact hj
  rw [Nat.zero_add, h5.page j hj']
  simp [sv]
theorem Bd.image {K : Nat → Prop} {D R : Nat} {w : World} {s t : St} (h : Bd K D R w s t) :
    Calls Tryz.prog 26 #[.pointer (some ⟨D, 0, none⟩)] w fun e w' => ∃ g cap, e = .returned (.slice (some ⟨g, 0, none⟩) s.pages.length cap) ∧ CellsAt w' (some ⟨g, 0, none⟩) (sv s.pages) ∧ Below w.heap.size w w' := by
  obtain ⟨KB, hs, hc, hb⟩ := h.code
  exact (cd_image hc).mono fun e w' ⟨g, cap, h1, _, h2, h3⟩ => ⟨g, cap, h1, h2, h3⟩
end Go.Proofs.YtaonifdfhlbaiaaGreatDoor.Jn
