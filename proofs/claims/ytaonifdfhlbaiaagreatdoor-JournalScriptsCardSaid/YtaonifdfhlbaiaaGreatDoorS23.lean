/- Merged out of DkROf, DkROk, JnWhL, JoSt, PgRTorn, DkRcr. -/
import Derived.Test.YtaonifdfhlbaiaaGreatDoorS06
import Derived.Test.YtaonifdfhlbaiaaGreatDoorS22
import Derived.Test.YtaonifdfhlbaiaaGreatDoorS07
import Derived.Test.YtaonifdfhlbaiaaGreatDoorS04
import Derived.Test.YtaonifdfhlbaiaaGreatDoorS21
import Derived.Test.YtaonifdfhlbaiaaGreatDoorS19
import Derived.Test.YtaonifdfhlbaiaaGreatDoorS05
import Derived.Test.YtaonifdfhlbaiaaGreatDoorS03
import Derived.Deep.RegionHeld3
/- Of of the reference: a disk of an image, or none. -/
namespace Go.Proofs.YtaonifdfhlbaiaaGreatDoor.Dk
open Go.RowKit
open Go.Lib (hid)
open Go.Proofs.YtaonifdfhlbaiaaGreatDoor.Bk (Owns ReadAt step_app run_app_own)

theorem ballocS (w : World) (o : Obj) : Below w.heap.size w (w.alloc o) := (Below.refl _ _).alloc (Nat.le_refl _) o
theorem strinfo : (Tryz.prog.info? 9).map (fun i => (i.zero, i.size, i.bytes)) = some (some (.string ⟨#[]⟩), 1, 16) := by kernel_rfl
theorem str_own {w : World} (ty : TypeId) {base : Nat} (v : Value) (n : Nat) (xs : List Value) (hown : w.ownsRow base 9 1 v n xs) (q : Option Addr) (m c : Nat) (news : List Value) (hq : ReadAt w q news) (hl : news.length = m * 1) (h1 : ∀ u ∈ news, u.oneCell' = true) (hb : n + m ≤ 1000000) (hbase : base ≤ w.heap.size) :
    ∃ v' w', (Builtin.append_ #[55, 55] ty #[v, .slice q m c]).run Tryz.prog w = .ok v' w' ∧ Owns w base 9 1 v (n + m) (xs ++ news) v' w' := by
  obtain ⟨i, hi, hz0, hz1, hz2⟩ := info_parts strinfo
  exact run_app_own (P := Tryz.prog) Tryz.underlying55 hi hz0 hz1 hz2 rfl (by decide) ty v n xs hown q m c news hq hl h1 (by unfold maxLen; omega) (by omega) hbase
theorem sread_one (W : World) (u : Value) (T : TypeId) : ReadAt (W.alloc (.cells #[u] T)) (some ⟨W.heap.size, 0, none⟩) [u] := fun j y hj => by
  refine ⟨W.heap.size, 0, rfl, by simp, ?_⟩
  rw [cell_of_row _ _ _ _ _ _ (heap_alloc_new W _), Nat.zero_add]
  match j, hj with
  | 0, hj => simpa using hj
/-- the reference's disk under way: so many pages -/
structure PR (w V : World) (g : Nat) (v : Value) (l : List ByteArray) : Prop where
  box : V.heap[g]? = some (.cells #[v, .slice none 0 0, .int .i64 0, .int .i64 0, .int .i64 0, .int .i64 (-1)] 59 (0, 0))
  own : V.ownsRow (g + 1) 9 1 v l.length (sv l)
  below : Below g w V
theorem PR.lt {w V : World} {g : Nat} {v : Value} {l : List ByteArray} (h : PR w V g v l) : g < V.heap.size := (Array.getElem?_eq_some_iff.1 h.box).1
theorem PR.cell {w V : World} {g : Nat} {v : Value} {l : List ByteArray} (h : PR w V g v l) : V.cell? ⟨g, 0, none⟩ = some v ∧ V.frozen? ⟨g, 0, none⟩ = false :=
  ⟨by rw [cell_of_row _ _ _ _ _ _ h.box]; rfl, frozen_of_row _ _ _ _ _ h.box⟩
theorem own_belowS {w w' : World} {base e size n : Nat} {v : Value} {xs : List Value} (h : w.ownsRow base e size v n xs) (hb : Below w.heap.size w w') : w'.ownsRow base e size v n xs := by
  refine ⟨h.1, ?_⟩
  rcases h.2 with hn | ⟨g, cap, cur, hv, hb0, hg, rest⟩
  · exact .inl hn
  · exact .inr ⟨g, cap, cur, hv, hb0, by rw [hb.block g (Array.getElem?_eq_some_iff.1 hg).1]; exact hg, rest⟩
theorem own_setS {w : World} {base e size n g i : Nat} {v u : Value} {xs : List Value} (h : w.ownsRow base e size v n xs) (hg : g < base) : (w.setCell ⟨g, i, none⟩ u).ownsRow base e size v n xs := by
  refine ⟨h.1, ?_⟩
  rcases h.2 with hn | ⟨g', cap, cur, hv, hb0, hh, rest⟩
  · exact .inl hn
  · exact .inr ⟨g', cap, cur, hv, hb0, by rw [heap_setCell_other _ _ _ _ (show g' ≠ g by omega)]; exact hh, rest⟩
theorem row_sliceS {w : World} {base e size n : Nat} {v : Value} {xs : List Value} (h : w.ownsRow base e size v n xs) : ∃ p m c, v = .slice p m c := by
  rcases h.2 with ⟨rfl, _⟩ | ⟨g, cap, cur, rfl, _⟩
  · exact ⟨_, _, _, rfl⟩
  · exact ⟨_, _, _, rfl⟩
/-- one more page: an array of it, the append, the store -/
theorem PR.more {w V w4 : World} {g : Nat} {v v' : Value} {l : List ByteArray} {t : ByteArray} (h : PR w V g v l) (hgw : g = w.heap.size) {W : World} (hW : Below V.heap.size V W)
    (ho : Owns W (g + 1) 9 1 v (l.length + 1) (sv l ++ [.string t]) v' w4) :
    PR w (w4.setCell ⟨g, 0, none⟩ v') g v' (l ++ [t]) ∧ w4.cell? ⟨g, 0, none⟩ = some v ∧ w4.frozen? ⟨g, 0, none⟩ = false := by
  obtain ⟨h1, h2, h3⟩ := ho
  have hlt := h.lt
  have hne : ∀ b, v.ownBlock = some b → b ≠ g := fun b hb => by have := (h.own.lt b hb).1; omega
  have hbx : w4.heap[g]? = some (.cells #[v, .slice none 0 0, .int .i64 0, .int .i64 0, .int .i64 0, .int .i64 (-1)] 59 (0, 0)) := by
    rw [h2.block g (Nat.lt_of_lt_of_le hlt hW.size) (fun e => hne g e.symm rfl), hW.block g hlt]; exact h.box
  refine ⟨⟨?_, ?_, ?_⟩, by rw [cell_of_row _ _ _ _ _ _ hbx]; rfl, frozen_of_row _ _ _ _ _ hbx⟩
  · rw [heap_setCell_same _ _ _ _ _ _ hbx]; simp
  · rw [List.length_append, show sv (l ++ [t]) = sv l ++ [.string t] by simp [sv]]
    exact own_setS h1 (Nat.lt_succ_self g)
  · have hb1 : Below g w W := h.below.trans (hW.mono (Nat.le_of_lt hlt))
    have hb2 : Below g w w4 := hb1.grown h2 (Nat.le_of_lt (Nat.lt_of_lt_of_le hlt hW.size)) (fun k hk => by have := (h.own.lt k hk).1; omega)
    exact hb2.setCell (p := ⟨g, 0, none⟩) (Nat.le_refl _) _
def OfPost (w : World) (ok : Bool) (e : Ending) (w' : World) : Prop :=
  Below w.heap.size w w' ∧ ((ok = true ∧ ∃ D, e = .returned (.tuple #[.pointer (some ⟨D, 0, none⟩), .int .i64 0])) ∨ (ok = false ∧ e = .returned (.tuple #[.pointer none, .int .i64 1])))
/-- may these texts be an image? -/
def imgOk (l : List ByteArray) : Bool := l.all fun t => t.size == 256
end Go.Proofs.YtaonifdfhlbaiaaGreatDoor.Dk

/- Of of the document's disk gives one. -/
namespace Go.Proofs.YtaonifdfhlbaiaaGreatDoor.Dk
open Go.RowKit
open Go.Lib (hid)
open Go.Proofs.YtaonifdfhlbaiaaGreatDoor.Bk (Owns ReadAt step_app run_app_own)
theorem prr_done {w V : World} {g : Nat} {v : Value} {l : List ByteArray} (h : PR w V g v l) (h1 : 1 ≤ l.length) (hg : Good (newS l)) :
    ∃ d : Ptrs, d.D = g ∧ Rk V d (newS l) ∧ ∀ k, Foot d k → g ≤ k := by
  obtain ⟨hx, hy | ⟨g', cap, cur, hv, hb, hh, hle, hm, hsz, htk⟩⟩ := h.own
  · omega
  · subst hv
    rw [Nat.mul_one] at hsz htk
    refine ⟨⟨g, g', cap, .slice none 0 0⟩, rfl, ⟨h.box, ⟨cur, hh, hsz, hle, hm, htk⟩, World.ownsRow_nil _ _ _ _, by show g ≠ g'; omega, by simp [Value.ownBlock], by simp [Value.ownBlock], hg⟩, ?_⟩
    intro k hk
    rcases hk with e | e | e
    · have e : k = g := e; omega
    · have e : k = g' := e; omega
    · cases e
end Go.Proofs.YtaonifdfhlbaiaaGreatDoor.Dk

/- What JournalWhole leans on: Crash and Image of a disk apart, the document's disk of it, old pages. -/
namespace Go.Proofs.YtaonifdfhlbaiaaGreatDoor.Jn
open Go.RowKit
open Go.Lib (hid)
open Go.Proofs.YtaonifdfhlbaiaaGreatDoor.Dk
open Go.Proofs.YtaonifdfhlbaiaaGreatDoor.En (Lst PageT Pgs pgs_list mayS)
open Go.Proofs.YtaonifdfhlbaiaaGreatDoor.Pg (openL)
open Classical in
/-- what a Commit of few pages does -/
noncomputable def comQ (s : St) (b t : Nat) (L : List PageT) : Int × St := if L.length = 0 then (1, s) else comR s b t L
theorem comQ_fuse {s : St} (hf : s.fuse = -1) (b t : Nat) (L : List PageT) : (comQ s b t L).2.fuse = -1 := by
  unfold comQ; split
  · exact hf
  · exact comR_fuse hf b t L
theorem comQ_len (s : St) (b t : Nat) (L : List PageT) : (comQ s b t L).2.pages.length = s.pages.length := by
  unfold comQ; split
  · rfl
  · exact comR_len s b t L
theorem comQ_few {s : St} {k : Nat} (h : Few s k) (b t : Nat) (L : List PageT) : Few (comQ s b t L).2 (k + L.length + 3) := by
  unfold comQ; split
  · exact few_up h (by omega)
  · exact comR_few h b t L
theorem jcom_q {K : Nat → Prop} {J D b n t : Nat} {w0 : World} {s : St} (h : Jk K J D w0 s b n t) (ok : JOk b n t) {k : Nat} (hf : Few s k) (p : Option Addr) (L : List PageT) (c : Nat) (hk : k + L.length + 10 < 1000000) (hp : Pgs w0 p L) (hK : ∀ g off, p = some ⟨g, off, none⟩ → 0 < L.length → K g) (hl : L.length < n) :
    Calls Tryz.prog 10 #[.pointer (some ⟨J, 0, none⟩), .slice p L.length c] w0 fun e w' => e = .returned (.int .i64 (comQ s b t L).1) ∧ Cd K D w' (comQ s b t L).2 ∧ KS K w0 w' := by
  unfold comQ
  by_cases h0 : L.length = 0
  · rw [if_pos h0, h0]
    refine (jcom_none h.j p c).mono ?_
    rintro e w' ⟨rfl, rfl⟩
    exact ⟨rfl, h.cd, KS.refl _ _⟩
  · rw [if_neg h0]
    exact jcom_any h ok hf p L c hk hp hK (by omega) hl
theorem fl_waits {s : St} (hf : s.fuse = -1) : (flU s).2.waits = [] := by
  unfold flU
  rw [if_neg (by omega)]; rfl
theorem com_waits {s : St} (hf : s.fuse = -1) (b t : Nat) (L : List PageT) : (comS s b t L).waits = [] := fl_waits (wr_fuse (fl_fuse (wrS_fuse hf b t L _)))
theorem comQ_waits {s : St} (hf : s.fuse = -1) (hw : s.waits = []) (b t : Nat) (L : List PageT) : (comQ s b t L).2.waits = [] := by
  unfold comQ comR; split
  · exact hw
  · split
    · exact com_waits hf b t L
    · exact hw
theorem vw_pages {s : St} (h : s.waits = []) (j : Nat) : vw s j = s.pages.getD j emptyB := by
  unfold vw; rw [h]; rfl
theorem no_empty {m i t : Nat} (kd pk pn : Int) (bo : ByteArray) (ct sm : Int) : ¬ IsJ emptyB m i t kd pk pn bo ct sm := by
  rintro ⟨S, h, -⟩
  have e : emptyB.data.toList = [] := rfl
  rw [e] at h
  unfold openL at h
  rw [if_pos (by decide)] at h
  cases h
theorem no_new (n j i t : Nat) (kd pk pn : Int) (bo : ByteArray) (ct sm : Int) : ¬ IsJ ((blanks n).getD j emptyB) j i t kd pk pn bo ct sm := by
  unfold blanks
  rw [List.getD_eq_getElem?_getD, List.getElem?_replicate]
  split
  · exact no_blank kd pk pn bo ct sm
  · exact no_empty kd pk pn bo ct sm
/-- of what another transaction left nothing is read -/
theorem old_none {n b m t t' : Nat} (ok : JOk b m t') (hne : t ≠ t') (L : List PageT) (hl : L.length < m) (hp : b + m ≤ n) (j i : Nat) (kd pk pn : Int) (bo : ByteArray) (ct sm : Int) : ¬ IsJ ((comQ (newS (blanks n)) b t' L).2.pages.getD j emptyB) j i t kd pk pn bo ct sm := by
  rw [← vw_pages (comQ_waits (s := newS (blanks n)) rfl rfl b t' L)]
  have hn : ¬ IsJ (vw (newS (blanks n)) j) j i t kd pk pn bo ct sm := by rw [vw_pages rfl]; exact no_new n j i t kd pk pn bo ct sm
  unfold comQ
  split
  · exact hn
  · rename_i h0
    unfold comR
    split
    · rename_i hs
      show ¬ IsJ (vw (comS (newS (blanks n)) b t' L) j) j i t kd pk pn bo ct sm
      rw [com_vw (s := newS (blanks n)) rfl ok (by omega) hs hl (by show b + m ≤ (blanks n).length; unfold blanks; rw [List.length_replicate]; exact hp)]
      split
      · rename_i hj
        intro h
        have hlt : j - b < L.length := by omega
        rw [stg_at hlt, show b + (j - b) = j by omega] at h
        exact hne (isJ_same h (isJ_pgJ (by decide) (by decide) (may1 t' (j - b) ok.t1 ok.t2 (by have := ok.n9; omega) (hs (j - b) hlt)) (by have := ok.bn; omega))).2.1
      · split
        · rename_i _ hj
          subst hj
          intro h
          unfold cmt at h
          exact hne (isJ_same h (isJ_pgJ (U_fit _).1 (U_fit _).2 (may2 t' L.length _ ok.t1 ok.t2 (by have := ok.n9; omega) (by omega)) (by have := ok.bn; omega))).2.1
        · exact hn
    · exact hn
section
variable {K : Nat → Prop} {D : Nat} {wr : World} {s : St}
theorem cd_crash (h : Cd K D wr s) (q : Option Addr) (c : Nat) (ks : List Int) (hks : Kept wr q ks) (hkl : ks.length ≤ 1000000) (torn a : Int) :
    Calls Tryz.prog 18 #[.pointer (some ⟨D, 0, none⟩), .slice q ks.length c, .int .i64 torn, .int .i64 a] wr fun e w' => e = .returned (.int .i64 (crU s ks torn a).1) ∧ Cd K D w' (crU s ks torn a).2 ∧ KS K wr w' := by
  refine h.code (Q := fun e => e = .returned (.int .i64 (crU s ks torn a).1)) fun d hd hk => ?_
  subst hd
  unfold crU
  cases hc : comeS s ks torn a with
  | none =>
    refine (crash_no d s wr hk q c ks hks (by unfold maxLen; omega) torn a hc).mono ?_
    rintro e w' ⟨rfl, hb⟩
    exact ⟨rfl, d, rfl, hk.below hb, Only.below hb, From.refl _ _⟩
  | some o => exact (crash_ok d s wr hk q c ks hks (by unfold maxLen; omega) torn a o hc).mono fun _ _ ⟨h1, v, h2, h3, h4⟩ => ⟨h1, { d with wv := v }, rfl, h2, h3, h4⟩
theorem cd_image (h : Cd K D wr s) :
    Calls Tryz.prog 26 #[.pointer (some ⟨D, 0, none⟩)] wr fun e w' => ∃ g cap, e = .returned (.slice (some ⟨g, 0, none⟩) s.pages.length cap) ∧ g < w'.heap.size ∧ CellsAt w' (some ⟨g, 0, none⟩) (sv s.pages) ∧ Below wr.heap.size wr w' := by
  obtain ⟨d, rfl, hd, _⟩ := h.ex
  refine (image_ok d s wr hd).mono fun e w' ⟨v, h1, h2, h3⟩ => ?_
  have hn := hd.good.n1
  rcases h2.2 with ⟨_, h0⟩ | ⟨g, cap, cur, rfl, h4, h5, h6, h7, h8, h9⟩
  · omega
  · refine ⟨g, cap, h1, (Array.getElem?_eq_some_iff.1 h5).1, fun j hj => ⟨g, 0, rfl, ?_⟩, h3⟩
    have hj' : j < s.pages.length := by simpa [sv] using hj
    rw [cell_of_row _ _ _ _ _ _ h5, Nat.zero_add]
    rw [Nat.mul_one] at h9
    have e := congrArg (·[j]?) h9
    rw [List.getElem?_take_of_lt hj'] at e
    simp [sv, hj'] at e
    simpa [sv] using e
theorem bd_make {w' : World} {t : St} {b : Ptrs} (h : Cd K D wr s) (hb : Below wr.heap.size wr w') (hr : Rk w' b t) (hf : ∀ k, Foot b k → wr.heap.size ≤ k) : Bd K D b.D w' s t := by
  obtain ⟨a, h1, h3, h5⟩ := h.ex
  exact ⟨⟨a, b, h1, rfl, h3.below hb, hr, h5, fun k hk e => by have := hf k hk; have := h.lt k e; omega, fun k hk e => by have := h3.lt k hk; have := hf k e; omega⟩, fun k hk => Nat.lt_of_lt_of_le (h.lt k hk) hb.size⟩
theorem kept_ks {w w' : World} {q : Option Addr} {ks : List Int} (h : Kept w q ks) (hk : KS K w w') (hK : ∀ j, j < w.heap.size → K j) : Kept w' q ks := fun j hj => by
  obtain ⟨b, off, e, hlt, hc⟩ := h j hj
  exact ⟨b, off, e, Nat.lt_of_lt_of_le hlt hk.size, (ks_cell hk (hK b hlt) hlt).trans hc⟩
end
end Go.Proofs.YtaonifdfhlbaiaaGreatDoor.Jn

/- Two disks that differ in their reads alone: each call leaves them so. Plain; and both journals as one. -/
namespace Go.Proofs.YtaonifdfhlbaiaaGreatDoor.Jn
open Go.RowKit
open Go.Lib (hid)
open Go.Proofs.YtaonifdfhlbaiaaGreatDoor.Dk
open Go.Proofs.YtaonifdfhlbaiaaGreatDoor.En (Lst PageT Pgs)
/-- with other reads -/
def rds (s : St) (r : Int) : St := { s with reads := r }
theorem same_rds {s t : St} (h : Same s t) : t = rds s t.reads := by
  obtain ⟨h1, h2, h3, h4, h5⟩ := h
  cases s; cases t
  simp only at h1 h2 h3 h4 h5
  subst h1 h2 h3 h4 h5; rfl
theorem rds_same (s : St) (r : Int) : Same s (rds s r) := ⟨rfl, rfl, rfl, rfl, rfl⟩
theorem wrU_rds (s : St) (r : Int) (n : Int) (u : ByteArray) : wrU (rds s r) n u = ((wrU s n u).1, rds (wrU s n u).2 r) := by
  unfold wrU
  show (if 0 ≤ n ∧ n < (s.pages.length : Int) ∧ u.size = 256 ∧ s.fuse ≠ 0 then _ else _) = _
  split <;> rfl
theorem flU_rds (s : St) (r : Int) : flU (rds s r) = ((flU s).1, rds (flU s).2 r) := by
  unfold flU
  show (if s.fuse = 0 then _ else _) = _
  split <;> rfl
theorem keep_rds (s : St) (r : Int) : ∀ (ks : List Int) (o : List ByteArray), keepL (rds s r) ks o = keepL s ks o
  | [], _ => rfl
  | x :: ks, o => by
    unfold keepL
    split
    · exact keep_rds s r ks _
    · rfl
theorem come_rds (s : St) (r : Int) (ks : List Int) (torn a : Int) : comeS (rds s r) ks torn a = comeS s ks torn a := by
  unfold comeS
  rw [keep_rds]; rfl
theorem crashP_rds (s : St) (r : Int) (o : List ByteArray) : ∀ k, crashP (rds s r) o k = crashP s o k
  | 0 => rfl
  | k + 1 => by
    unfold crashP
    rw [crashP_rds s r o k]; rfl
theorem crash_rds (s : St) (r : Int) (o : List ByteArray) : crashS (rds s r) o = rds (crashS s o) r := by
  show noFuse (noWaits ({ (rds s r) with pages := crashP (rds s r) o s.waits.length })) = _
  rw [crashP_rds]; rfl
theorem crU_rds (s : St) (r : Int) (ks : List Int) (torn a : Int) : crU (rds s r) ks torn a = ((crU s ks torn a).1, rds (crU s ks torn a).2 r) := by
  unfold crU
  rw [come_rds]
  split
  · rfl
  · rw [crash_rds]
theorem wrS_rds (s : St) (r : Int) (b t : Nat) (L : List PageT) : ∀ i, wrS (rds s r) b t L i = rds (wrS s b t L i) r
  | 0 => rfl
  | i + 1 => by
    show (wrU (wrS (rds s r) b t L i) _ _).2 = _
    rw [wrS_rds s r b t L i, wrU_rds]; rfl
theorem comS_rds (s : St) (r : Int) (b t : Nat) (L : List PageT) : comS (rds s r) b t L = rds (comS s b t L) r := by
  unfold comS
  rw [wrS_rds, flU_rds]
  show (flU (wrU (rds (flU (wrS s b t L L.length)).2 r) _ _).2).2 = _
  rw [wrU_rds]
  show (flU (rds _ r)).2 = _
  rw [flU_rds]
theorem aboS_rds (s : St) (r : Int) (b t : Nat) : aboS (rds s r) b t = rds (aboS s b t) r := by
  unfold aboS
  rw [wrU_rds]
  show (flU (rds _ r)).2 = _
  rw [flU_rds]
theorem vw_rds (s : St) (r : Int) : vw (rds s r) = vw s := rfl
theorem Same.wr {s t : St} (h : Same s t) (n : Int) (u : ByteArray) : (wrU t n u).1 = (wrU s n u).1 ∧ Same (wrU s n u).2 (wrU t n u).2 := by
  rw [same_rds h, wrU_rds]; exact ⟨rfl, rds_same _ _⟩
theorem Same.cr {s t : St} (h : Same s t) (ks : List Int) (torn a : Int) : (crU t ks torn a).1 = (crU s ks torn a).1 ∧ Same (crU s ks torn a).2 (crU t ks torn a).2 := by
  rw [same_rds h, crU_rds]; exact ⟨rfl, rds_same _ _⟩
theorem Same.com {s t : St} (h : Same s t) (b x : Nat) (L : List PageT) : Same (comS s b x L) (comS t b x L) := by
  rw [same_rds h, comS_rds]; exact rds_same _ _
theorem Same.abo {s t : St} (h : Same s t) (b x : Nat) : Same (aboS s b x) (aboS t b x) := by
  rw [same_rds h, aboS_rds]; exact rds_same _ _
open Classical in
/-- what a Commit answers and does, whatever is committed -/
noncomputable def comT (s : St) (b n t : Nat) (L : List PageT) : Int × St := if L.length = 0 ∨ ¬ AllS L then (1, s) else if n ≤ L.length then (3, s) else (0, comS s b t L)
theorem Same.comT {s t : St} (h : Same s t) (b n x : Nat) (L : List PageT) : (Jn.comT t b n x L).1 = (Jn.comT s b n x L).1 ∧ Same (Jn.comT s b n x L).2 (Jn.comT t b n x L).2 := by
  unfold Jn.comT
  split
  · exact ⟨rfl, h⟩
  · split
    · exact ⟨rfl, h⟩
    · exact ⟨rfl, h.com b x L⟩
theorem comT_few {s : St} {k : Nat} (h : Few s k) (b n t : Nat) (L : List PageT) : Few (comT s b n t L).2 (k + L.length + 3) := by
  unfold comT
  split
  · exact few_up h (by omega)
  · split
    · exact few_up h (by omega)
    · exact few_com h b t L
theorem comT_len (s : St) (b n t : Nat) (L : List PageT) : (comT s b n t L).2.pages.length = s.pages.length := by
  unfold comT
  split
  · rfl
  · split
    · rfl
    · exact com_len s b t L
theorem jcom_t {K : Nat → Prop} {J D b n t : Nat} {w0 : World} {s : St} (h : Jk K J D w0 s b n t) (ok : JOk b n t) {k : Nat} (hf : Few s k) (p : Option Addr) (L : List PageT) (c : Nat) (hk : k + L.length + 10 < 1000000) (hp : Pgs w0 p L) (hK : ∀ g off, p = some ⟨g, off, none⟩ → 0 < L.length → K g) :
    Calls Tryz.prog 10 #[.pointer (some ⟨J, 0, none⟩), .slice p L.length c] w0 fun e w' => e = .returned (.int .i64 (comT s b n t L).1) ∧ Cd K D w' (comT s b n t L).2 ∧ KS K w0 w' := by
  obtain ⟨r, hr⟩ : ∃ r, n = r + 1 := ⟨n - 1, by have := ok.n2; omega⟩
  unfold comT
  by_cases h0 : L.length = 0
  · rw [if_pos (.inl h0), h0]
    refine (jcom_none h.j p c).mono ?_
    rintro e w' ⟨rfl, rfl⟩
    exact ⟨rfl, h.cd, KS.refl _ _⟩
  · rcases Classical.em (AllS L) with hs | hs
    · rw [if_neg (fun e => e.elim h0 (fun e => e hs))]
      by_cases hl : n ≤ L.length
      · rw [if_pos hl]
        exact (jcom_full h.j h.lst ok.n9 p L c hp (by omega) (by omega) hs r hr (by omega)).mono fun _ _ ⟨e1, hb⟩ => ⟨e1, (h.next hb).cd, KS.of hb⟩
      · rw [if_neg hl]
        exact jcom_ok h ok hf p L c hk hp hK (by omega) hs r hr (by omega)
    · rw [if_pos (.inr hs)]
      exact (jcom_bad h.j h.lst p L c hp (by omega) (by omega) hs).mono fun _ _ ⟨e1, hb⟩ => ⟨e1, (h.next hb).cd, KS.of hb⟩
section
variable {K : Nat → Prop} {J R b n t : Nat} {w0 : World} {s : St}
set_option maxHeartbeats 1000000 in
theorem rcom_none (w0 : World) (p : Option Addr) (c : Nat) : Calls Tryz.prog 11 #[.pointer (some ⟨J, 0, none⟩), .slice p 0 c] w0 fun e w' => e = .returned (.int .i64 1) ∧ w' = w0 := by
  go_enter Tryz.func11, Tryz.ntmps11
  go_wp2_with fail
  go_ret
  exact ⟨rfl, rfl⟩
set_option maxRecDepth 100000 in
set_option maxHeartbeats 4000000 in
theorem rcom_full (h : Jr K J R w0 s b n t) (ok : JOk b n t) (p : Option Addr) (L : List PageT) (c : Nat) (hp : Pgs w0 p L) (h0 : 0 < L.length) (hlm : L.length ≤ 100000) (hs : AllS L) (r : Nat) (hr : n = r + 1) (hl : r < L.length) :
    Calls Tryz.prog 11 #[.pointer (some ⟨J, 0, none⟩), .slice p L.length c] w0 fun e w' => e = .returned (.int .i64 3) ∧ Below w0.heap.size w0 w' := by
  have HJ := hid h
  have HGB := hid hp
  have HCK := hid fun (i : Nat) (hi : i < L.length) (V : World) => En.refcheck_yes 1 1 0 (L[i]'hi).1 (L[i]'hi).2.1 0 0 (L[i]'hi).2.2 V (may1 1 0 (by decide) (by decide) (by decide) (hs i hi))
  obtain ⟨m, hm⟩ : ∃ m, L.length = m := ⟨_, rfl⟩
  have HN := hid hm
  rw [hm] at h0 hl hlm ⊢
  have e0 : ((m : Int) == 0) = false := by simp; omega
  have e1 : (m == 0) = false := by simp; omega
  have HKM := hid hlm
  have HR := hid (show wrap64 ((n : Int) - 1) = (r : Int) by unfold wrap64; have := ok.n9; omega)
  have HLR := hid hl
  clear h hp h0 hs hr hl hm ok hlm
  go_enter Tryz.func11, Tryz.ntmps11
  go_wp2_with fail
  clear e0 e1
  go_loopw [5] (fun x wx => ∃ i : Nat, x = .int .i64 i ∧ i ≤ m ∧ Below w0.heap.size w0 wx) (fun x _ => m - (intOf x).toNat)
  case atStart => exact ⟨0, rfl, Nat.zero_le _, Below.refl _ _⟩
  case round =>
    obtain ⟨i, rfl, hi, hb⟩ := hrel
    have HB := hid hb
    clear hb
    by_cases hlt : i < m
    · have hiL : i < L.length := by rw [HN.out]; exact hlt
      obtain ⟨g, off, rfl, hbl, d0, d1, d2⟩ := HGB.out.below HB.out i hiL
      have HI := hid hlt
      have HC := hid (HCK.out i hiL)
      obtain ⟨q0, e0⟩ : ∃ q, (L[i]'hiL) = q := ⟨_, rfl⟩
      rw [e0] at d0 d1 d2 HC
      obtain ⟨k0, m0, b0⟩ := q0
      dsimp only at d0 d1 d2 HC
      have hnn := HKM.out
      clear e0
      go_wp2_with fail
      refine (HC.out _).mono ?_
      rintro e w2 ⟨rfl, hb⟩
      have HB2 := hid (HB.out.trans (hb.mono HB.out.size))
      clear hb
      go_wp2_with fail
      go_roundw
      case rel => exact ⟨i + 1, by go_num, HI.out, HB2.out⟩
      case measure => simp [intOf]; have := HI.out; omega
    · obtain rfl : i = m := by omega
      clear hlt hi
      have HJ1 := hid (HJ.out.next HB.out)
      have HK1 := hid (KS.of (K := K) HB.out)
      obtain ⟨j0, j1, j2, j3⟩ := HJ1.out.j.cells
      clear j0 j1 j3
      have hw := HR.out
      have e2 : decide ((r : Int) < (i : Int)) = true := by simp; have := HLR.out; omega
      have e3 : decide (r < i) = true := by simp; have := HLR.out; omega
      go_wp2_with fail
      go_ret
      exact ⟨rfl, HB.out⟩
theorem rcom_t (h : Jr K J R w0 s b n t) (ok : JOk b n t) {k : Nat} (hf : Few s k) (p : Option Addr) (L : List PageT) (c : Nat) (hk : k + L.length + 10 < 1000000) (hl9 : L.length ≤ 100000) (hp : Pgs w0 p L) (hK : ∀ g off, p = some ⟨g, off, none⟩ → 0 < L.length → K g) :
    Calls Tryz.prog 11 #[.pointer (some ⟨J, 0, none⟩), .slice p L.length c] w0 fun e w' => e = .returned (.int .i64 (comT s b n t L).1) ∧ Rc K R w' (comT s b n t L).2 ∧ KS K w0 w' := by
  obtain ⟨r, hr⟩ : ∃ r, n = r + 1 := ⟨n - 1, by have := ok.n2; omega⟩
  unfold comT
  by_cases h0 : L.length = 0
  · rw [if_pos (.inl h0), h0]
    refine (rcom_none w0 p c).mono ?_
    rintro e w' ⟨rfl, rfl⟩
    exact ⟨rfl, h.cd, KS.refl _ _⟩
  · rcases Classical.em (AllS L) with hs | hs
    · rw [if_neg (fun e => e.elim h0 (fun e => e hs))]
      by_cases hl : n ≤ L.length
      · rw [if_pos hl]
        exact (rcom_full h ok p L c hp (by omega) hl9 hs r hr (by omega)).mono fun _ _ ⟨e1, hb⟩ => ⟨e1, (h.next hb).cd, KS.of hb⟩
      · rw [if_neg hl]
        exact rcom_ok h ok hf p L c hk hp hK (by omega) hs r hr (by omega)
    · rw [if_pos (.inr hs)]
      exact (rcom_bad p L c hp (by omega) (by omega) hs).mono fun _ _ ⟨e1, hb⟩ => ⟨e1, (h.next hb).cd, KS.of hb⟩
end
end Go.Proofs.YtaonifdfhlbaiaaGreatDoor.Jn

/- Torn of the document's answer. -/
namespace Go.Proofs.YtaonifdfhlbaiaaGreatDoor.Pg
open Go.RowKit
open Go.Lib (hid)

set_option maxHeartbeats 400000 in
theorem refTorn_out {s : ByteArray} {a : Int} (w : World) (h : s.size ≠ 256 ∨ a < 0 ∨ 256 < a) :
    Calls Tryz.prog 49 #[.string s, .int .i64 a] w fun e w' => e = .returned (.tuple #[.string ⟨#[]⟩, .int .i64 1]) ∧ w = w' := by
  by_cases h1 : s.size = 256
  · by_cases h2 : a < 0
    · have e1 : ((s.size : Int) != 256) = false := by simp; omega
      clear h
      have H1 := hid h1; clear h1
      go_enter Tryz.func49, Tryz.ntmps49
      go_wp2_with fail
      go_ret2
      exact ⟨rfl, rfl⟩
    · have h3 : 256 < a := by omega
      have e1 : ((s.size : Int) != 256) = false := by simp; omega
      have e2 : decide (a < 0) = false := by simp; omega
      clear h h2
      have H1 := hid h1; clear h1
      go_enter Tryz.func49, Tryz.ntmps49
      go_wp2_with fail
      go_ret2
      exact ⟨rfl, rfl⟩
  · have e1 : ((s.size : Int) != 256) = true := by simp; omega
    clear h
    have H1 := hid h1; clear h1
    go_enter Tryz.func49, Tryz.ntmps49
    go_wp2_with fail
    go_ret2
    exact ⟨rfl, rfl⟩

/-- how long a text is -/
def strLen : Value → Nat
  | .string t => t.size
  | _ => 0
/-- torn so far -/
def tornS (l : List UInt8) (a k : Nat) : Array UInt8 := (l.take a ++ ees k).toArray
theorem tornS_size (l : List UInt8) (a k : Nat) (hl : l.length = 256) (ha : a ≤ 256) : (tornS l a k).size = a + k := by
  simp [tornS, ees_length]; omega
theorem tornS_zero (s : ByteArray) (a : Nat) : s.extract 0 a = ⟨tornS s.data.toList a 0⟩ := by
  apply ByteArray.ext
  rw [ByteArray.data_extract, ← Array.toList_inj]
  simp [tornS, ees]
theorem tornS_more (l : List UInt8) (a k : Nat) : (⟨tornS l a k⟩ ++ ⟨#[238]⟩ : ByteArray) = ⟨tornS l a (k + 1)⟩ := by
  apply ByteArray.ext
  simp [tornS, ees, ByteArray.data_append, List.replicate_succ']
theorem tornS_all (l : List UInt8) (a : Nat) : tornS l a (256 - a) = (tornL l a).toArray := rfl

set_option maxRecDepth 100000 in
set_option maxHeartbeats 400000 in
theorem refTorn_yes (s : ByteArray) (a : Nat) (w : World) (hs : s.size = 256) (h : a ≤ 256) :
    Calls Tryz.prog 49 #[.string s, .int .i64 a] w fun e w' => e = .returned (.tuple #[.string ⟨(tornL s.data.toList a).toArray⟩, .int .i64 0]) ∧ w = w' := by
  have e1 : ((s.size : Int) != 256) = false := by simp; omega
  have e2 : decide ((a : Int) < 0) = false := by simp
  have h3 : (a : Int) ≤ 256 := by omega
  have e3 : decide ((256 : Int) < (a : Int)) = false := by simp; omega
  have h4 : (a : Int) ≤ (s.size : Int) := by omega
  have HS := hid hs
  have hsl : s.data.toList.length = 256 := by simp [hs]
  have HSL := hid hsl; clear hs hsl
  go_enter Tryz.func49, Tryz.ntmps49
  go_wp2_with fail
  go_loop [6] (fun x => ∃ k : Nat, a + k ≤ 256 ∧ x = .string ⟨tornS s.data.toList a k⟩) (fun x => 256 - strLen x)
  case atStart => exact ⟨0, by omega, by rw [tornS_zero]⟩
  case round =>
    obtain ⟨k, hk, rfl⟩ := hrel
    have hsz := tornS_size s.data.toList a k HSL.out h
    have hmore := tornS_more s.data.toList a k
    by_cases hlt : a + k < 256
    · have hsz1 := tornS_size s.data.toList a (k + 1) HSL.out h
      go_wp2_with fail
      go_round
      case rel => exact ⟨k + 1, by omega, rfl⟩
      case measure => show 256 - (tornS s.data.toList a (k + 1)).size < 256 - (tornS s.data.toList a k).size; omega
    · have hk2 : k = 256 - a := by omega
      have HK2 := hid hk2; clear hk2
      clear hmore
      go_wp2_with fail
      go_ret2
      exact ⟨by rw [HK2.out, tornS_all]; rfl, rfl⟩
end Go.Proofs.YtaonifdfhlbaiaaGreatDoor.Pg

/- The document's own disk: Crash. -/
namespace Go.Proofs.YtaonifdfhlbaiaaGreatDoor.Dk
open Go.RowKit
open Go.Lib (hid)

theorem kept_below {w w' : World} {q : Option Addr} {ks : List Int} (h : Kept w q ks) (hb : Below w.heap.size w w') : Kept w' q ks := fun j hj => by
  obtain ⟨b, off, e, hlt, hc⟩ := h j hj
  exact ⟨b, off, e, Nat.lt_of_lt_of_le hlt hb.size, (hb.cell (p := ⟨b, off + j, none⟩) hlt).trans hc⟩
theorem kept_cells {w : World} {q : Option Addr} {ks : List Int} (h : Kept w q ks) (k : Nat) : CellsAt w q (iv (ks.take k)) := fun j hj => by
  rw [iv_length, List.length_take] at hj
  obtain ⟨b, off, e, hlt, hc⟩ := h j (by omega)
  exact ⟨b, off, e, by rw [hc]; simp [iv]⟩
theorem kept_all {w : World} {q : Option Addr} {ks : List Int} (h : Kept w q ks) : CellsAt w q (iv ks) := by
  have := kept_cells h ks.length
  rwa [List.take_length] at this
theorem kept_only {w wr : World} {d : Ptrs} {q : Option Addr} {ks : List Int} (h : Kept w q ks) (ho : Only d w wr) (hfar : ∀ b off, q = some ⟨b, off, none⟩ → 0 < ks.length → ¬ Foot d b) : Kept wr q ks := fun j hj => by
  obtain ⟨b, off, e, hlt, hc⟩ := h j hj
  exact ⟨b, off, e, Nat.lt_of_lt_of_le hlt ho.size, by rw [World.cell?_of_block (ho.block b hlt (hfar b off e (by omega)))]; exact hc⟩
/-- what Crash of the document answers -/
def CrashPost (d : Ptrs) (s : St) (ks : List Int) (torn a : Int) (w : World) (e : Ending) (w' : World) : Prop :=
  (∃ o, comeS s ks torn a = some o ∧ e = .returned (.int .i64 0) ∧ ∃ v, Rk w' { d with wv := v } (crashS s o) ∧ Only d w w' ∧ From d { d with wv := v } w) ∨ (comeS s ks torn a = none ∧ e = .returned (.int .i64 1) ∧ Below w.heap.size w w')
/-- the i-th one may be kept, and is not the torn one -/
def kBoth (s : St) (ks : List Int) (torn : Int) (i : Nat) : Prop := kOk s ks i ∧ ∀ hi : i < ks.length, ks[i] ≠ torn
set_option maxRecDepth 100000 in
set_option maxHeartbeats 8000000 in
theorem rcrash_any (d : Ptrs) (s : St) (w : World) (h : Rk w d s) (q : Option Addr) (c : Nat) (ks : List Int) (hks : Kept w q ks) (hfar : ∀ b off, q = some ⟨b, off, none⟩ → 0 < ks.length → ¬ Foot d b) (hcap : ks.length ≤ c) (hkl : ks.length ≤ 1000000) (torn a : Int) :
    Calls Tryz.prog 19 #[.pointer (some ⟨d.D, 0, none⟩), .slice q ks.length c, .int .i64 torn, .int .i64 a] w (CrashPost d s ks torn a w) := by
  have HH := hid h
  have HK := hid hks
  have HFAR := hid hfar
  have HKL := hid hkl
  obtain ⟨p, cap, hv⟩ := h.waitsAt
  have HV := hid hv
  have hfew := h.good.few
  clear h hks hfar
  go_enter Tryz.func19, Tryz.ntmps19
  go_wp2_with fail
  go_loopw [9] (fun i wr => ∃ k : Nat, k ≤ ks.length ∧ i = .int .i64 k ∧ Below w.heap.size w wr ∧ ∀ i, i < k → kBoth s ks torn i) (fun i _ => ks.length - (intOf i).toNat)
  case atStart => exact ⟨0, by omega, rfl, Below.refl _ _, fun i hi => by omega⟩
  case round =>
    obtain ⟨k, hk, rfl, hb, hgo⟩ := hrel
    have HB := hid hb
    have HGO := hid hgo
    have c1 := (HH.out.below hb).cells.2.1
    rw [hv] at c1
    clear hb hgo hv
    by_cases hlt : k < ks.length
    · have e1 : decide ((k : Int) < (ks.length : Int)) = true := by simpa using hlt
      have e1' : decide (k < ks.length) = true := by simpa using hlt
      obtain ⟨b, off, rfl, hbl, hc⟩ := HK.out k hlt
      have d1 : wr.cell? ⟨b, off + k, none⟩ = some (.int .i64 ks[k]) := (HB.out.cell (p := ⟨b, off + k, none⟩) hbl).trans hc
      have z0 : (0 : Int) ≤ (k : Int) := by omega
      have z1 : (k : Int) < (ks.length : Int) := by omega
      have HNO := hid fun (hbad : ¬ kOk s ks k ∨ ks[k] = torn) => come_no_kept HH.out.good ks torn a k hlt hbad
      have HYES := hid fun (hg : 0 ≤ ks[k] ∧ ks[k] < (s.waits.length : Int) ∧ ks[k] ∉ ks.take k) (hn : ks[k] ≠ torn) => (show ∀ i, i < k + 1 → kBoth s ks torn i from fun i hi => by
        by_cases e : i = k
        · subst e; exact ⟨fun _ => hg, fun _ => hn⟩
        · exact HGO.out i (by omega))
      have HKO := hid (show ¬ (0 ≤ ks[k] ∧ ks[k] < (s.waits.length : Int) ∧ ks[k] ∉ ks.take k) → ¬ kOk s ks k from fun hn hk => hn (hk hlt))
      have HLT := hid hlt
      have HAS := hid (refHas_ok (ks.take k) (some ⟨b, off, none⟩) c ks[k] wr.drew (fun j hj => by
        obtain ⟨b', o', h1, h2⟩ := kept_cells (kept_below HK.out HB.out) k j hj
        exact ⟨b', o', h1, h2⟩) (by rw [List.length_take]; omega))
      rw [show (ks.take k).length = k by rw [List.length_take]; omega] at HAS
      obtain ⟨mem, hmem⟩ : ∃ m : Bool, decide (ks[k] ∈ ks.take k) = m := ⟨_, rfl⟩
      rw [hmem] at HAS
      have HMEM := hid hmem
      have hkc : (k : Int) ≤ (c : Int) := by omega
      generalize ks[k] = x at *
      clear hc hbl hlt hmem hk
      by_cases h1 : x < 0
      · have f1 : decide (x < 0) = true := decide_eq_true h1
        have HN := hid (HNO.out (.inl (HKO.out fun h => by omega)))
        clear h1 HAS
        go_wp2_with fail
        go_quiet (fail)
        have HD := hid (below_drewN HB.out nq)
        generalize wr.drewN nq = W at HD ⊢
        go_wp2_with fail
        go_ret
        exact .inr ⟨HN.out, rfl, HD.out⟩
      · have f1 : decide (x < 0) = false := decide_eq_false h1
        by_cases h2 : (s.waits.length : Int) ≤ x
        · have f2 : decide ((s.waits.length : Int) ≤ x) = true := decide_eq_true h2
          have HN := hid (HNO.out (.inl (HKO.out fun h => by omega)))
          clear h1 h2 HAS
          go_wp2_with fail
          go_quiet (fail)
          have HD := hid (below_drewN HB.out nq)
          generalize wr.drewN nq = W at HD ⊢
          go_wp2_with fail
          go_ret
          exact .inr ⟨HN.out, rfl, HD.out⟩
        · have f2 : decide ((s.waits.length : Int) ≤ x) = false := decide_eq_false h2
          by_cases h3 : x = torn
          · have f3 : (x == torn) = true := by simpa using h3
            have HN := hid (HNO.out (.inr h3))
            clear h1 h2 h3 HAS
            go_wp2_with fail
            go_quiet (fail)
            have HD := hid (below_drewN HB.out nq)
            generalize wr.drewN nq = W at HD ⊢
            go_wp2_with fail
            go_ret
            exact .inr ⟨HN.out, rfl, HD.out⟩
          · have f3 : (x == torn) = false := by simpa using h3
            have HX := hid (And.intro (Int.not_lt.1 h1) (And.intro (Int.not_le.1 h2) h3))
            clear h1 h2 h3
            cases mem with
            | true =>
              have HN := hid (HNO.out (.inl (HKO.out fun h => absurd (of_decide_eq_true HMEM.out) h.2.2)))
              go_wp2_with fail
              go_region_held3 (fun w' => w'.cell? ⟨b, off + k, none⟩ = some (.int .i64 x) ∧ w'.cell? ⟨d.D, 1, none⟩ = some (.slice p s.waits.length cap)) (first | exact ⟨d1, c1⟩ | go_keep)
                (first | (go_at_call 48; refine HAS.out.mono ?_; rintro e w5 ⟨rfl, rfl⟩) | fail)
              have HD := hid (show Below w.heap.size w wr.drew from HB.out.drew)
              generalize wr.drew = W at HD ⊢
              go_wp2_with fail
              go_ret
              exact .inr ⟨HN.out, rfl, HD.out⟩
            | false =>
              have HN := hid (HYES.out ⟨HX.out.1, HX.out.2.1, of_decide_eq_false HMEM.out⟩ HX.out.2.2)
              go_wp2_with fail
              go_region_held3 (fun w' => w'.cell? ⟨b, off + k, none⟩ = some (.int .i64 x) ∧ w'.cell? ⟨d.D, 1, none⟩ = some (.slice p s.waits.length cap)) (first | exact ⟨d1, c1⟩ | go_keep)
                (first | (go_at_call 48; refine HAS.out.mono ?_; rintro e w5 ⟨rfl, rfl⟩) | fail)
              have HD := hid (show Below w.heap.size w wr.drew from HB.out.drew)
              generalize wr.drew = W at HD ⊢
              go_wp2_with fail
              go_roundw
              case rel => exact ⟨k + 1, HLT.out, by go_num, HD.out, HN.out⟩
              case measure => have := HLT.out; simp [intOf]; omega
    · obtain rfl : k = ks.length := by omega
      clear hlt hk
      by_cases t1 : torn < -1
      · have e2 : decide (torn < -1) = true := decide_eq_true t1
        have HN := hid (come_no_torn HH.out.good ks torn a (fun i hi => (HGO.out i hi).1) (by omega))
        clear t1
        go_wp2_with fail
        go_ret
        exact .inr ⟨HN.out, rfl, HB.out⟩
      · have e2 : decide (torn < -1) = false := decide_eq_false t1
        by_cases t2 : (s.waits.length : Int) ≤ torn
        · have e3 : decide ((s.waits.length : Int) ≤ torn) = true := decide_eq_true t2
          have HN := hid (come_no_torn HH.out.good ks torn a (fun i hi => (HGO.out i hi).1) (by omega))
          clear t1 t2
          go_wp2_with fail
          go_ret
          exact .inr ⟨HN.out, rfl, HB.out⟩
        · have e3 : decide ((s.waits.length : Int) ≤ torn) = false := decide_eq_false t2
          by_cases t3 : 0 ≤ torn
          · have e4 : decide (0 ≤ torn) = true := decide_eq_true t3
            by_cases t4 : a < 0
            · have e5 : decide (a < 0) = true := decide_eq_true t4
              have HN := hid (come_no_torn HH.out.good ks torn a (fun i hi => (HGO.out i hi).1) (by omega))
              clear t1 t2 t3 t4
              go_wp2_with fail
              go_ret
              exact .inr ⟨HN.out, rfl, HB.out⟩
            · have e5 : decide (a < 0) = false := decide_eq_false t4
              by_cases t5 : 256 < a
              · have e6 : decide ((256 : Int) < a) = true := decide_eq_true t5
                have HN := hid (come_no_torn HH.out.good ks torn a (fun i hi => (HGO.out i hi).1) (by omega))
                clear t1 t2 t3 t4 t5
                go_wp2_with fail
                go_ret
                exact .inr ⟨HN.out, rfl, HB.out⟩
              · have e6 : decide ((256 : Int) < a) = false := decide_eq_false t5
                obtain ⟨o, ho1, ho2, ho3⟩ := come_yes HH.out.good ks torn a (fun i hi => HGO.out i hi) (by omega) (by omega) (by omega)
                have HO1 := hid ho1
                have HO2 := hid ho2
                have HO3 := hid ho3
                have HPG := hid (come_pages HH.out.good ks torn a o ho1)
                clear ho1 ho2 ho3
                go_wp2_with fail
                clear c1
                go_loopw [10] (fun i X => ∃ j : Nat, j ≤ s.waits.length ∧ i = .int .i64 j ∧ Rk X d (comeK s o j) ∧ Only d w X) (fun i _ => s.waits.length - (intOf i).toNat)
                case atStart => exact ⟨0, by omega, rfl, HH.out.below HB.out, Only.below HB.out⟩
                case round =>
                  obtain ⟨j, hj, rfl, hD, hO⟩ := hrel
                  have HD := hid hD
                  have HO := hid hO
                  have g0 := hD.cells.1
                  have g1 := hD.cells.2.1
                  rw [HV.out] at g1
                  change wr.cell? _ = some (Value.slice p s.waits.length cap) at g1
                  clear hD hO
                  by_cases hlt : j < s.waits.length
                  · have e1 : decide ((j : Int) < (s.waits.length : Int)) = true := by simpa using hlt
                    have e1' : decide (j < s.waits.length) = true := by simpa using hlt
                    have z0 : (0 : Int) ≤ (j : Int) := by omega
                    have z1 : (j : Int) < (s.waits.length : Int) := by omega
                    have HAS := hid (refHas_ok ks q c (j : Int) wr (kept_all (kept_only HK.out HO.out HFAR.out)) HKL.out)
                    obtain ⟨gw, rfl⟩ := HH.out.someAt HV.out (by omega)
                    obtain ⟨x, hx⟩ : ∃ x, s.waits[j].1 = x := ⟨_, rfl⟩
                    obtain ⟨t, ht⟩ : ∃ t, s.waits[j].2 = t := ⟨_, rfl⟩
                    have cw : wr.cell? ⟨gw, j * 2, none⟩ = some (.int .i64 (x : Int)) ∧ wr.cell? ⟨gw, j * 2 + 1, none⟩ = some (.string t) := by
                      have := HD.out.wait HV.out j hlt
                      rw [← hx, ← ht]; exact this
                    obtain ⟨cw1, cw2⟩ := cw
                    have hwt := HH.out.good.wait s.waits[j] (List.getElem_mem hlt)
                    rw [hx, ht] at hwt
                    have htx : textAt s j = t := by rw [textAt_of s j hlt, ht]
                    have hxl : x < (comeK s o j).pages.length := by
                      show x < (crashP s o j).length
                      rw [crashP_length]; exact hwt.1
                    have c6 := HD.out.page x hxl
                    have f6 := HD.out.pfree x
                    have hpl : (comeK s o j).pages.length ≤ 1000 := (comeK_good HH.out.good HPG.out j).n2
                    have z2 : (x : Int) < ((comeK s o j).pages.length : Int) := by omega
                    have z3 : (0 : Int) ≤ (x : Int) := by omega
                    have HSET := hid fun (u : ByteArray) (hu : o.getD j emptyB = u) (hus : u.toList.isEmpty = false) => (show (comeK s o (j + 1)).pages = (comeK s o j).pages.set x u by
                      have h := come_set HO2.out hlt hu hus
                      rw [hx] at h; exact h)
                    have HPUT := hid fun (u : ByteArray) (hp : (comeK s o (j + 1)).pages = (comeK s o j).pages.set x u) => And.intro (HD.out.putPage x u (comeK s o (j + 1)) hp rfl rfl rfl rfl rfl (comeK_good HH.out.good HPG.out (j + 1))) (HO.out.putPage x (.string u))
                    have HSKIP := hid fun (hu : o.getD j emptyB = emptyB) => come_skip HO2.out hlt hu
                    have HOUT := hid (HO3.out j hlt)
                    have HLT := hid hlt
                    have n1 : d.D ≠ d.P := HD.out.dp
                    have n2 : d.P ≠ d.D := Ne.symm HD.out.dp
                    have n3 : gw ≠ d.P := fun e => HD.out.pw (by rw [HV.out, e]; rfl)
                    have n4 : d.P ≠ gw := Ne.symm n3
                    have HTX := hid htx
                    have HWT := hid hwt
                    clear hx ht htx hwt hj
                    generalize comeK s o j = sj at *
                    generalize sj.pages[x]'hxl = old at c6
                    clear hxl
                    by_cases hm : (j : Int) ∈ ks
                    · rw [decide_eq_true hm] at HAS
                      have hjt : (j : Int) ≠ torn := fun e => by
                        obtain ⟨i, hi, h⟩ := List.getElem_of_mem hm
                        exact (HGO.out i hi).2 hi (h.trans e)
                      have e3 : ((j : Int) == torn) = false := by simpa using hjt
                      have HP := hid (HPUT.out t (HSET.out t (by rw [HOUT.out, rOut_kept hm, HTX.out]) (full_of_size t HWT.out.2)))
                      clear hm hjt hlt
                      go_wp2_with fail
                      refine HAS.out.mono ?_
                      rintro e w5 ⟨rfl, rfl⟩
                      go_wp2_with fail
                      go_region_held3 (fun w' => w'.cell? ⟨d.D, 0, none⟩ = some (.slice (some ⟨d.P, 0, none⟩) sj.pages.length d.cp) ∧ w'.cell? ⟨d.D, 1, none⟩ = some (.slice (some ⟨gw, 0, none⟩) s.waits.length cap) ∧ w'.cell? ⟨gw, j * 2, none⟩ = some (.int .i64 (x : Int)) ∧ w'.cell? ⟨gw, j * 2 + 1, none⟩ = some (.string t)) (first | exact ⟨g0, g1, cw1, cw2⟩ | go_keep) (fail)
                      go_wp2_with fail
                      go_roundw
                      case rel => exact ⟨j + 1, HLT.out, by go_num, HP.out.1.drew, HP.out.2.drew⟩
                      case measure => have := HLT.out; simp [intOf]; omega
                    · rw [decide_eq_false hm] at HAS
                      by_cases hjt : (j : Int) = torn
                      · have e3 : ((j : Int) == torn) = true := by simpa using hjt
                        obtain ⟨A, rfl⟩ : ∃ A : Nat, a = (A : Int) := ⟨a.toNat, by omega⟩
                        have hA : A ≤ 256 := by omega
                        have HP := hid (HPUT.out (tornB t A) (HSET.out (tornB t A) (by rw [HOUT.out, rOut_torn hm hjt, HTX.out]; rfl) (full_of_size _ (tornB_size t A HWT.out.2 hA))))
                        have HTO := hid (Pg.refTorn_yes t A wr HWT.out.2 hA)
                        change Hid (Calls _ _ _ _ fun e w' => e = .returned (.tuple #[.string (tornB t A), .int .i64 0]) ∧ wr = w') at HTO
                        generalize tornB t A = u at HP HTO
                        clear hm hlt hjt
                        go_wp2_with fail
                        refine HAS.out.mono ?_
                        rintro e w5 ⟨rfl, rfl⟩
                        go_wp2_with fail
                        refine HTO.out.mono ?_
                        rintro e w5 ⟨rfl, rfl⟩
                        go_wp2_with fail
                        go_region_held3 (fun w' => w'.cell? ⟨d.D, 0, none⟩ = some (.slice (some ⟨d.P, 0, none⟩) sj.pages.length d.cp) ∧ w'.cell? ⟨d.D, 1, none⟩ = some (.slice (some ⟨gw, 0, none⟩) s.waits.length cap) ∧ w'.cell? ⟨gw, j * 2, none⟩ = some (.int .i64 (x : Int))) (first | exact ⟨g0, g1, cw1⟩ | go_keep) (fail)
                        go_wp2_with fail
                        go_roundw
                        case rel => exact ⟨j + 1, HLT.out, by go_num, HP.out.1.drew, HP.out.2.drew⟩
                        case measure => have := HLT.out; simp [intOf]; omega
                      · have e3 : ((j : Int) == torn) = false := by simpa using hjt
                        have HP := hid (HSKIP.out (by rw [HOUT.out, rOut_none hm hjt]))
                        clear hm hjt hlt
                        go_wp2_with fail
                        refine HAS.out.mono ?_
                        rintro e w5 ⟨rfl, rfl⟩
                        go_wp2_with fail
                        go_roundw
                        case rel => exact ⟨j + 1, HLT.out, by go_num, by rw [HP.out]; exact HD.out, HO.out⟩
                        case measure => have := HLT.out; simp [intOf]; omega
                  · obtain rfl : j = s.waits.length := by omega
                    have e1 : decide ((s.waits.length : Int) < (s.waits.length : Int)) = false := by simp
                    have f1 := HD.out.free 1
                    have hg := HD.out.gone
                    have x5 : (wr.setCell ⟨d.D, 1, none⟩ (.slice none 0 0)).cell? ⟨d.D, 5, none⟩ = some (.int .i64 s.fuse) := hg.cells.2.2.2.2.2
                    have f5 : (wr.setCell ⟨d.D, 1, none⟩ (.slice none 0 0)).frozen? ⟨d.D, 5, none⟩ = false := hg.free 5
                    have HG4 := hid (show Rk ((wr.setCell ⟨d.D, 1, none⟩ (.slice none 0 0)).setCell ⟨d.D, 5, none⟩ (.int .i64 (-1))) { d with wv := .slice none 0 0 } (crashS s o) from
                      hg.store 5 _ (noFuse (noWaits (comeK s o s.waits.length))) rfl rfl (noFuse_good hg.good) rfl)
                    have HGO4 := hid ((HO.out.store 1 (.slice none 0 0)).store 5 (.int .i64 (-1)))
                    clear hg hj hlt
                    go_wp2_with fail
                    go_ret
                    refine .inl ⟨o, HO1.out, rfl, _, HG4.out, HGO4.out, ?_⟩
                    rintro k (rfl | rfl | hk)
                    · exact .inl (.inl rfl)
                    · exact .inl (.inr (.inl rfl))
                    · cases hk
          · have e4 : decide (0 ≤ torn) = false := decide_eq_false t3
            obtain ⟨o, ho1, ho2, ho3⟩ := come_yes HH.out.good ks torn a (fun i hi => HGO.out i hi) (by omega) (by omega) (by omega)
            have HO1 := hid ho1
            have HO2 := hid ho2
            have HO3 := hid ho3
            have HPG := hid (come_pages HH.out.good ks torn a o ho1)
            clear ho1 ho2 ho3
            go_wp2_with fail
            clear c1
            go_loopw [10] (fun i X => ∃ j : Nat, j ≤ s.waits.length ∧ i = .int .i64 j ∧ Rk X d (comeK s o j) ∧ Only d w X) (fun i _ => s.waits.length - (intOf i).toNat)
            case atStart => exact ⟨0, by omega, rfl, HH.out.below HB.out, Only.below HB.out⟩
            case round =>
              obtain ⟨j, hj, rfl, hD, hO⟩ := hrel
              have HD := hid hD
              have HO := hid hO
              have g0 := hD.cells.1
              have g1 := hD.cells.2.1
              rw [HV.out] at g1
              change wr.cell? _ = some (Value.slice p s.waits.length cap) at g1
              clear hD hO
              by_cases hlt : j < s.waits.length
              · have e1 : decide ((j : Int) < (s.waits.length : Int)) = true := by simpa using hlt
                have e1' : decide (j < s.waits.length) = true := by simpa using hlt
                have z0 : (0 : Int) ≤ (j : Int) := by omega
                have z1 : (j : Int) < (s.waits.length : Int) := by omega
                have HAS := hid (refHas_ok ks q c (j : Int) wr (kept_all (kept_only HK.out HO.out HFAR.out)) HKL.out)
                obtain ⟨gw, rfl⟩ := HH.out.someAt HV.out (by omega)
                obtain ⟨x, hx⟩ : ∃ x, s.waits[j].1 = x := ⟨_, rfl⟩
                obtain ⟨t, ht⟩ : ∃ t, s.waits[j].2 = t := ⟨_, rfl⟩
                have cw : wr.cell? ⟨gw, j * 2, none⟩ = some (.int .i64 (x : Int)) ∧ wr.cell? ⟨gw, j * 2 + 1, none⟩ = some (.string t) := by
                  have := HD.out.wait HV.out j hlt
                  rw [← hx, ← ht]; exact this
                obtain ⟨cw1, cw2⟩ := cw
                have hwt := HH.out.good.wait s.waits[j] (List.getElem_mem hlt)
                rw [hx, ht] at hwt
                have htx : textAt s j = t := by rw [textAt_of s j hlt, ht]
                have hxl : x < (comeK s o j).pages.length := by
                  show x < (crashP s o j).length
                  rw [crashP_length]; exact hwt.1
                have c6 := HD.out.page x hxl
                have f6 := HD.out.pfree x
                have hpl : (comeK s o j).pages.length ≤ 1000 := (comeK_good HH.out.good HPG.out j).n2
                have z2 : (x : Int) < ((comeK s o j).pages.length : Int) := by omega
                have z3 : (0 : Int) ≤ (x : Int) := by omega
                have HSET := hid fun (u : ByteArray) (hu : o.getD j emptyB = u) (hus : u.toList.isEmpty = false) => (show (comeK s o (j + 1)).pages = (comeK s o j).pages.set x u by
                  have h := come_set HO2.out hlt hu hus
                  rw [hx] at h; exact h)
                have HPUT := hid fun (u : ByteArray) (hp : (comeK s o (j + 1)).pages = (comeK s o j).pages.set x u) => And.intro (HD.out.putPage x u (comeK s o (j + 1)) hp rfl rfl rfl rfl rfl (comeK_good HH.out.good HPG.out (j + 1))) (HO.out.putPage x (.string u))
                have HSKIP := hid fun (hu : o.getD j emptyB = emptyB) => come_skip HO2.out hlt hu
                have HOUT := hid (HO3.out j hlt)
                have HLT := hid hlt
                have n1 : d.D ≠ d.P := HD.out.dp
                have n2 : d.P ≠ d.D := Ne.symm HD.out.dp
                have n3 : gw ≠ d.P := fun e => HD.out.pw (by rw [HV.out, e]; rfl)
                have n4 : d.P ≠ gw := Ne.symm n3
                have HTX := hid htx
                have HWT := hid hwt
                clear hx ht htx hwt hj
                generalize comeK s o j = sj at *
                generalize sj.pages[x]'hxl = old at c6
                clear hxl
                by_cases hm : (j : Int) ∈ ks
                · rw [decide_eq_true hm] at HAS
                  have hjt : (j : Int) ≠ torn := fun e => by
                    obtain ⟨i, hi, h⟩ := List.getElem_of_mem hm
                    exact (HGO.out i hi).2 hi (h.trans e)
                  have e3 : ((j : Int) == torn) = false := by simpa using hjt
                  have HP := hid (HPUT.out t (HSET.out t (by rw [HOUT.out, rOut_kept hm, HTX.out]) (full_of_size t HWT.out.2)))
                  clear hm hjt hlt
                  go_wp2_with fail
                  refine HAS.out.mono ?_
                  rintro e w5 ⟨rfl, rfl⟩
                  go_wp2_with fail
                  go_region_held3 (fun w' => w'.cell? ⟨d.D, 0, none⟩ = some (.slice (some ⟨d.P, 0, none⟩) sj.pages.length d.cp) ∧ w'.cell? ⟨d.D, 1, none⟩ = some (.slice (some ⟨gw, 0, none⟩) s.waits.length cap) ∧ w'.cell? ⟨gw, j * 2, none⟩ = some (.int .i64 (x : Int)) ∧ w'.cell? ⟨gw, j * 2 + 1, none⟩ = some (.string t)) (first | exact ⟨g0, g1, cw1, cw2⟩ | go_keep) (fail)
                  go_wp2_with fail
                  go_roundw
                  case rel => exact ⟨j + 1, HLT.out, by go_num, HP.out.1.drew, HP.out.2.drew⟩
                  case measure => have := HLT.out; simp [intOf]; omega
                · rw [decide_eq_false hm] at HAS
                  by_cases hjt : (j : Int) = torn
                  · have e3 : ((j : Int) == torn) = true := by simpa using hjt
                    exact absurd hjt (by omega)
                  · have e3 : ((j : Int) == torn) = false := by simpa using hjt
                    have HP := hid (HSKIP.out (by rw [HOUT.out, rOut_none hm hjt]))
                    clear hm hjt hlt
                    go_wp2_with fail
                    refine HAS.out.mono ?_
                    rintro e w5 ⟨rfl, rfl⟩
                    go_wp2_with fail
                    go_roundw
                    case rel => exact ⟨j + 1, HLT.out, by go_num, by rw [HP.out]; exact HD.out, HO.out⟩
                    case measure => have := HLT.out; simp [intOf]; omega
              · obtain rfl : j = s.waits.length := by omega
                have e1 : decide ((s.waits.length : Int) < (s.waits.length : Int)) = false := by simp
                have f1 := HD.out.free 1
                have hg := HD.out.gone
                have x5 : (wr.setCell ⟨d.D, 1, none⟩ (.slice none 0 0)).cell? ⟨d.D, 5, none⟩ = some (.int .i64 s.fuse) := hg.cells.2.2.2.2.2
                have f5 : (wr.setCell ⟨d.D, 1, none⟩ (.slice none 0 0)).frozen? ⟨d.D, 5, none⟩ = false := hg.free 5
                have HG4 := hid (show Rk ((wr.setCell ⟨d.D, 1, none⟩ (.slice none 0 0)).setCell ⟨d.D, 5, none⟩ (.int .i64 (-1))) { d with wv := .slice none 0 0 } (crashS s o) from
                  hg.store 5 _ (noFuse (noWaits (comeK s o s.waits.length))) rfl rfl (noFuse_good hg.good) rfl)
                have HGO4 := hid ((HO.out.store 1 (.slice none 0 0)).store 5 (.int .i64 (-1)))
                clear hg hj hlt
                go_wp2_with fail
                go_ret
                refine .inl ⟨o, HO1.out, rfl, _, HG4.out, HGO4.out, ?_⟩
                rintro k (rfl | rfl | hk)
                · exact .inl (.inl rfl)
                · exact .inl (.inr (.inl rfl))
                · cases hk
end Go.Proofs.YtaonifdfhlbaiaaGreatDoor.Dk
