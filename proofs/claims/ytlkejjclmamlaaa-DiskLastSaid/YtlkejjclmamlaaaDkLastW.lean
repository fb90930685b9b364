/- DiskLast walked. -/
import Derived.Test.YtlkejjclmamlaaaDkAllH
namespace Go.Proofs.Ytlkejjclmamlaaa
open Go.RowKit
open Go.Lib (hid)
open Go.ChangeShapes Go.WideShapes Go.Joins
open Go.Proofs.Ytlkejjclmamlaaa.Dk

theorem ballocL (w : World) (o : Obj) : Below w.heap.size w (w.alloc o) := (Below.refl _ _).alloc (Nat.le_refl _) o
theorem own_stayL {wr w' : World} {N t c : Nat} {v : Value} {n : Nat} {xs : List Value} (h : wr.ownsRow N t c v n xs) (hs : Stay (Of v) wr w') : w'.ownsRow N t c v n xs := by
  refine ⟨h.1, ?_⟩
  rcases h.2 with hn | ⟨g, cap, cur, hv, hb0, hg, rest⟩
  · exact .inl hn
  · exact .inr ⟨g, cap, cur, hv, hb0, by rw [hs g (by unfold Of; rw [hv]; rfl)]; exact hg, rest⟩
theorem sinfo9 : (Try.prog.info? 9).map (fun i => (i.zero, i.size, i.bytes)) = some (some (.string ⟨#[]⟩), 1, 16) := by kernel_rfl
/-- a disk, texts in a row of the call's own, and blocks X of others that stay -/
structure LC (w wr : World) (X : Nat → Prop) (kv : Value) (D : Nat) (s : St) (n : Nat) (l : List ByteArray) : Prop where
  lk : Lk w wr (fun k => Of kv k ∨ X k) D s
  own : wr.ownsRow w.heap.size 9 1 kv n (sv l)
  len : l.length = n
def No : Nat → Prop := fun _ => False
theorem stay_l {A B : Nat → Prop} {w w' : World} (h : Stay (fun k => A k ∨ B k) w w') : Stay A w w' := fun k hk => h k (.inl hk)
theorem stay_r {A B : Nat → Prop} {w w' : World} (h : Stay (fun k => A k ∨ B k) w w') : Stay B w w' := fun k hk => h k (.inr hk)
theorem Lk.less {w wr : World} {K K' : Nat → Prop} {D : Nat} {s : St} (h : Lk w wr K D s) (hk : ∀ k, K' k → K k) : Lk w wr K' D s := by
  obtain ⟨d, g1, g2, g3, g4⟩ := h.ex
  exact ⟨⟨d, g1, g2, g3, fun k h' => g4 k (hk k h')⟩, h.below, fun k h' => h.lt k (hk k h')⟩
section
variable {w wr w' : World} {X : Nat → Prop} {kv : Value} {D : Nat} {s : St} {n : Nat} {l : List ByteArray}
theorem LC.drop (h : LC w wr X kv D s n l) : LC w wr No kv D s n l := ⟨Lk.less h.lk fun _ hk => hk.elim .inl (fun h => h.elim), h.own, h.len⟩
theorem LC.box (h : LC w wr X kv D s n l) (o : Obj) : LC w (wr.alloc o) (fun k => k = wr.heap.size) kv D s n l := by
  refine ⟨h.lk.more (ballocL wr o) (fun k hk => ?_) (fun k hk => ?_), h.own.alloc o, h.len⟩
  · rcases hk with hk | hk
    · exact .inl (.inl hk)
    · right; omega
  · rcases hk with hk | hk
    · have := h.lk.lt k (.inl hk); simp; omega
    · simp; omega
theorem LC.next (h : LC w wr X kv D s n l) (hb : Below wr.heap.size wr w') : LC w w' X kv D s n l ∧ Stay X wr w' := ⟨⟨(h.lk.next hb).1, own_stayL h.own (stay_l (h.lk.next hb).2), h.len⟩, stay_r (h.lk.next hb).2⟩
theorem LC.drew (h : LC w wr X kv D s n l) : LC w wr.drew X kv D s n l := ⟨h.lk.drew, h.own, h.len⟩
theorem LC.drewN (h : LC w wr X kv D s n l) (m : Nat) : LC w (wr.drewN m) X kv D s n l := ⟨h.lk.drewN m, h.own, h.len⟩
theorem LC.below (h : LC w wr X kv D s n l) : Below w.heap.size w wr := h.lk.below
theorem lc_write (i : Nat) (p : ByteArray) (h : LC w wr X kv D s n l) (hn : i < s.pages.length) (ht : p.size = 256) (hfz : s.fuse ≠ 0) (hf : s.waits.length < 1000000) (hw : s.writes < 1000000) :
    Calls Try.prog 40 #[.pointer (some ⟨D, 0, none⟩), .int .i64 (i : Int), .string p] wr fun e w' => e = .returned (.int .i64 0) ∧ LC w w' X kv D (writeS s i p) n l ∧ Stay X wr w' :=
  (lk_write i p h.lk hn ht hfz hf hw).mono fun _ _ ⟨h1, h2, h3⟩ => ⟨h1, ⟨h2, own_stayL h.own (stay_l h3), h.len⟩, stay_r h3⟩
theorem lc_flush (h : LC w wr X kv D s n l) (hfz : s.fuse ≠ 0) (hfl : s.flushes < 1000000) :
    Calls Try.prog 45 #[.pointer (some ⟨D, 0, none⟩)] wr fun e w' => e = .returned (.int .i64 (s.waits.length : Int)) ∧ LC w w' X kv D (flushS s) n l :=
  (lk_flush h.lk hfz hfl).mono fun _ _ ⟨h1, h2, h3⟩ => ⟨h1, h2, own_stayL h.own (stay_l h3), h.len⟩
theorem lc_read (i : Nat) (t : ByteArray) (h : LC w wr X kv D s n l) (hi : i < s.pages.length) (hr : s.reads < 1000000) (ht : (viewS s)[i]? = some t) :
    Calls Try.prog 43 #[.pointer (some ⟨D, 0, none⟩), .int .i64 (i : Int)] wr fun e w' => e = .returned (.tuple #[.string t, .int .i64 0]) ∧ LC w w' X kv D (readS s) n l :=
  (lk_read i t h.lk hi hr ht).mono fun _ _ ⟨h1, h2, h3⟩ => ⟨h1, h2, own_stayL h.own (stay_l h3), h.len⟩
theorem lc_crash (h : LC w wr X kv D s n l) (o : List ByteArray) (hc : comeS s [] (-1) 0 = some o) :
    Calls Try.prog 48 #[.pointer (some ⟨D, 0, none⟩), .slice none 0 0, .int .i64 (-1), .int .i64 0] wr fun e w' => e = .returned (.int .i64 0) ∧ LC w w' X kv D (crashS s o) n l :=
  (lk_crash none 0 [] (-1) 0 o h.lk (fun j hj => absurd hj (by simp)) (by unfold maxLen; simp) hc).mono fun _ _ ⟨h1, h2, h3⟩ => ⟨h1, h2, own_stayL h.own (stay_l h3), h.len⟩
/-- the texts' cells -/
theorem LC.at (h : LC w wr X kv D s n l) (i : Nat) (hi : i < l.length) : ∃ g c, kv = .slice (some ⟨g, 0, none⟩) n c ∧ wr.cell? ⟨g, i, none⟩ = some (.string l[i]) ∧ wr.frozen? ⟨g, i, none⟩ = false := by
  have hn := h.len
  obtain ⟨g, c, rfl⟩ : ∃ g c, kv = .slice (some ⟨g, 0, none⟩) n c := by
    rcases h.own.2 with ⟨_, h0⟩ | ⟨g, c, _, hv, _⟩
    · omega
    · exact ⟨g, c, hv⟩
  refine ⟨g, c, rfl, ?_, h.own.frozenAt i⟩
  rw [h.own.cellAt i (by omega)]
  simp [sv, hi]
theorem LC.form (h : LC w wr X kv D s n l) (hi : 0 < n) : ∃ g c, kv = .slice (some ⟨g, 0, none⟩) n c := by
  obtain ⟨g, c, h1, _⟩ := h.at 0 (by rw [h.len]; exact hi); exact ⟨g, c, h1⟩
theorem LC.cell {g c : Nat} (h : LC w wr X (.slice (some ⟨g, 0, none⟩) n c) D s n l) (i : Nat) (hi : i < l.length) : wr.cell? ⟨g, i, none⟩ = some (.string l[i]) ∧ wr.frozen? ⟨g, i, none⟩ = false := by
  obtain ⟨g', c', h1, h2, h3⟩ := h.at i hi
  cases h1
  exact ⟨h2, h3⟩
theorem LC.cells {g c : Nat} (h : LC w wr X (.slice (some ⟨g, 0, none⟩) n c) D s n l) : CellsAt wr (some ⟨g, 0, none⟩) (sv l) := fun j hj => by
  rw [sv_length] at hj
  exact ⟨g, 0, rfl, by rw [Nat.zero_add, (h.cell j hj).1]; simp [sv]⟩
/-- a text is stored -/
theorem LC.set {g c : Nat} (h : LC w wr No (.slice (some ⟨g, 0, none⟩) n c) D s n l) (i : Nat) (t : ByteArray) : LC w (wr.setCell ⟨g, i, none⟩ (.string t)) No (.slice (some ⟨g, 0, none⟩) n c) D s n (l.set i t) := by
  have hs := h.own.stored i (.string t)
  have e : (sv l).set i (.string t) = sv (l.set i t) := by simp [sv, List.map_set]
  refine ⟨?_, by rw [← e]; exact hs.1, by rw [List.length_set]; exact h.len⟩
  refine h.lk.other rfl rfl rfl (by simp) (fun k hk hn => heap_setCell_other _ _ _ _ (fun e => hn (.inl (by simp [Of, Value.ownBlock]; exact e.symm)))) (fun k hk => ?_)
  rcases hk with hk | hk
  · exact (h.own.lt k hk).1
  · exact hk.elim
/-- a text is appended -/
theorem LC.app {v' : Value} {w2 : World} {o : Obj} {t : ByteArray} (h : LC w wr No kv D s n l) (hown : w2.ownsRow w.heap.size 9 1 v' (n + 1) (sv l ++ [.string t])) (hg : (wr.alloc o).grownBy w2 kv.ownBlock)
    (hat : v'.ownBlock = kv.ownBlock ∨ v'.ownBlock = some (wr.heap.size + 1)) : LC w w2 No v' D s (n + 1) (l ++ [t]) := by
  refine ⟨?_, by rw [show sv (l ++ [t]) = sv l ++ [.string t] by simp [sv]]; exact hown, by rw [List.length_append, h.len]; rfl⟩
  have hb := h.lk.below.size
  have hk0 : Lk w wr (Of kv) D s := Lk.less h.lk fun _ hk => .inl hk
  have h1 : Lk w (wr.alloc o) (Of kv) D s := (hk0.next (ballocL wr o)).1
  have h2 : Lk w w2 (Of kv) D s := h1.other hg.os hg.tape hg.output hg.size (fun k hk hnk => hg.block k hk (fun e => hnk e.symm)) (fun k hk => (h.own.lt k hk).1)
  obtain ⟨d0, f1, f2, f3, f4⟩ := hk0.ex
  have hnew : ∃ d : Ptrs, d.D = D ∧ Dsk w2 d s ∧ (∀ k, Foot d k → w.heap.size ≤ k) ∧ ∀ k, (Of v' k ∨ No k) → ¬ Foot d k := by
    refine ⟨d0, f1, ?_, f3, fun k hk hf => ?_⟩
    all_goals try (replace hk := hk.elim id (fun h => (h : False).elim))
    · refine f2.kept fun k hk => ?_
      have hlt := f2.lt k hk
      rw [hg.block k (by simp; omega) (fun e => f4 k e.symm hk), Below.heap_alloc _ _ _ hlt]
    · rcases hat with e | e
      · exact f4 k (show Of kv k from by unfold Of; rw [← e]; exact hk) hf
      · have : wr.heap.size + 1 = k := by have := e.symm.trans hk; injection this
        have := f2.lt k hf; omega
  exact ⟨hnew, h2.below, fun k hk => hk.elim (fun hk => (hown.lt k hk).2) (fun h => (h : False).elim)⟩
end
theorem image_textsL {w wr : World} {D : Nat} {s : St} {l : List ByteArray} (h : Lv w wr D s) (hl : s.pages = l) :
    Calls Try.prog 52 #[.pointer (some ⟨D, 0, none⟩)] wr fun e w' => ∃ g cap, e = .returned (.slice (some ⟨g, 0, none⟩) l.length cap) ∧ (∀ w2, Below w'.heap.size w' w2 → CellsAt w2 (some ⟨g, 0, none⟩) (sv l)) ∧ Below wr.heap.size wr w' := by
  subst hl
  refine (lv_image h).mono ?_
  rintro e w' ⟨g, cap, rfl, _, hg2, hg3, hb⟩
  refine ⟨g, cap, rfl, fun w2 h2 j hj => ⟨g, 0, rfl, ?_⟩, hb⟩
  rw [sv_length] at hj
  rw [Nat.zero_add, h2.cell (p := ⟨g, j, none⟩) hg2, hg3 j hj]
  simp [sv]
theorem texts_sameL (l : List ByteArray) (p q : Option Addr) (c c' : Nat) (w : World) (hp : CellsAt w p (sv l)) (hq : CellsAt w q (sv l)) (hl : l.length ≤ 1000000) :
    Calls Try.prog 51 #[.slice p l.length c, .slice q l.length c'] w fun e w' => e = .returned (.bool true) ∧ Below w.heap.size w w' :=
  (texts_ok l l p q c c' w hp hq hl).mono fun e w' ⟨h1, n, h2⟩ => ⟨by rw [h1]; simp, by rw [h2]; exact ⟨rfl, rfl, rfl, Nat.le_refl _, fun _ _ => rfl⟩⟩
/-- what is written, read and flushed: counts -/
structure MidL (s : St) (p k r : Nat) : Prop where
  pages : s.pages.length = p
  fuse : s.fuse = -1
  waits : s.waits.length ≤ k
  writes : s.writes ≤ k
  flushes : s.flushes ≤ k
  reads : s.reads ≤ r
theorem MidL.write {s : St} {p k r : Nat} (h : MidL s p k r) (n : Nat) (t : ByteArray) : MidL (writeS s n t) p (k + 1) r := by
  have h3 := h.waits
  have h4 := h.writes
  have h5 := h.flushes
  refine ⟨h.pages, ?_, by simp [writeS, burnS, countW, pushS]; omega, by show s.writes + 1 ≤ _; omega, by show s.flushes ≤ _; omega, h.reads⟩
  show burnI s.fuse = -1
  rw [h.fuse]; rfl
theorem MidL.flush {s : St} {p k r : Nat} (h : MidL s p k r) : MidL (flushS s) p (k + 1) r := by
  have h3 := h.waits
  have h4 := h.writes
  have h5 := h.flushes
  refine ⟨?_, ?_, by rw [(view_flush s).2.2]; simp, by show s.writes ≤ _; omega, by show s.flushes + 1 ≤ _; omega, h.reads⟩
  · rw [(view_flush s).2.1, view_length]; exact h.pages
  · show burnI s.fuse = -1
    rw [h.fuse]; rfl
theorem MidL.skip {s : St} {p k r : Nat} (h : MidL s p k r) : MidL s p (k + 1) r :=
  ⟨h.pages, h.fuse, by have := h.waits; omega, by have := h.writes; omega, by have := h.flushes; omega, h.reads⟩
theorem MidL.read {s : St} {p k r : Nat} (h : MidL s p k r) : MidL (readS s) p k (r + 1) :=
  ⟨h.pages, h.fuse, h.waits, h.writes, h.flushes, by have := h.reads; show s.reads + 1 ≤ _; omega⟩
theorem midL_new (p : Nat) : MidL (newS (blanks p)) p 0 0 := ⟨by show (blanks p).length = p; simp [blanks], rfl, Nat.le_refl _, Int.le_refl _, Int.le_refl _, Int.le_refl _⟩
theorem come_none (s : St) (h : s.waits = []) : ∃ o, comeS s [] (-1) 0 = some o ∧ (crashS s o).pages = s.pages := by
  refine ⟨_, by unfold comeS keepL; rfl, ?_⟩
  show crashP s _ s.waits.length = _
  rw [h]; rfl
theorem blanks_snoc (k : Nat) : blanks k ++ [blankB] = blanks (k + 1) := by
  unfold blanks; rw [List.replicate_succ']
/-- the loop's relation -/
def LR (w : World) (p m D : Nat) (kv iv' : Value) (wr : World) : Prop :=
  ∃ (k : Nat) (s : St), k ≤ m ∧ iv' = .int .i64 k ∧ MidL s p k (k * 30) ∧ LC w wr No kv D s p (viewS s)
theorem refBlank_t (t : ByteArray) (h : blankB = t) (w : World) : Calls Try.prog 59 #[] w fun e w' => e = .returned (.string t) ∧ Below w.heap.size w w' := by
  subst h; exact Pg.refBlank_any w
set_option maxRecDepth 100000 in
set_option maxHeartbeats 8000000 in
theorem Last_go (p : Nat) (a : Option Addr) (len cap : Nat) (w : World) (h1 : 1 ≤ p) (h2 : p ≤ 30) (hs : IsScript w a len) :
    Calls Try.prog 10 #[.int .i64 (p : Int), .slice a len cap] w fun e w' => e = .returned (.bool true) ∧ Below w.heap.size w w' := by
  have hlen := hs.1
  unfold maxLen at hlen
  have HS := hid hs; clear hs
  have HB := hid (Below.refl w.heap.size w)
  have e1 : decide ((30 : Int) < (p : Int)) = false := by simp; omega
  obtain ⟨i0, hi0, hz0, hz1, hz2⟩ := info_parts sinfo9
  have HP := hid (And.intro h1 h2)
  go_enter Try.func10, Try.ntmps10
  go_wp2_with fail
  refine (lv_new p w _ HB.out h1 (by omega)).mono ?_
  rintro e w1 ⟨D, rfl, hl⟩
  have HL0 : Hid (LC w w1 No (.slice none 0 0) D (newS (blanks p)) 0 []) := hid ⟨⟨by
    obtain ⟨d, g1, g2, g3⟩ := hl.ex
    exact ⟨d, g1, g2, g3, fun k hk => hk.elim (fun (hk : Of _ k) => by simp [Of, Value.ownBlock] at hk) (fun h => (h : False).elim)⟩, hl.below, fun k hk => hk.elim (fun (hk : Of _ k) => by simp [Of, Value.ownBlock] at hk) (fun h => (h : False).elim)⟩, World.ownsRow_nil _ _ _ _, rfl⟩
  clear hl HB
  obtain ⟨t0, ht0⟩ : ∃ t, blankB = t := ⟨_, rfl⟩
  have HT0 := hid ht0; clear ht0
  go_wp2_with fail
  clear e1
  go_loopw [7, 8] (fun kv i wr => ∃ k : Nat, k ≤ p ∧ i = .int .i64 k ∧ LC w wr No kv D (newS (blanks p)) k (blanks k)) (fun _ i _ => p - (intOf i).toNat)
  case atStart => exact ⟨0, by omega, rfl, HL0.out⟩
  case round =>
    obtain ⟨k, hk, rfl, hl⟩ := hrel
    have HL := hid hl; clear hl HL0
    rename World => w0
    by_cases hlt : k < p
    · have HKV : Hid (∃ q c, u7 = .slice q k c) := hid (by
        rcases HL.out.own.2 with ⟨hv, h0⟩ | ⟨g, c, _, hv, _⟩
        · exact ⟨none, 0, by rw [hv, h0]⟩
        · exact ⟨_, c, hv⟩)
      obtain ⟨q, c, rfl⟩ := HKV.out
      clear HKV
      go_wp2_with (first
        | (go_at_call 59; refine (refBlank_t t0 HT0.out _).mono ?_; rintro e w8 ⟨rfl, hb⟩; replace HL := hid (HL.out.next hb).1; clear hb)
        | (at_builtin; refine wpList_append_lies _ rfl _ _ 85 rfl w.heap.size 9 i0 (.string ⟨#[]⟩) 1 16 Try.underlying85 hi0 hz0 hz1 hz2 rfl (by decide) _ k _ rfl (HL.out.own.alloc _) ⟨w8.heap.size, 0, none⟩ 1 1 [.string t0] (by rfl) rfl ?c1 ?c2 (by decide) ?c3 (by omega) ?c5 _ rfl ?_))
      case c1 =>
        intro j u hj
        match j, hj with
        | 0, hj => simp at hj; subst hj; simp [Addr.add]
      case c2 => intro u hu; simp at hu; subst hu; rfl
      case c3 => unfold maxLen; omega
      case c5 => have := HL.out.below.size; simp; omega
      intro g' cap' w9 hown hgrow hat hlt2
      have HL2 : Hid (LC w w9 No (.slice (some ⟨g', 0, none⟩) (k + 1) cap') D (newS (blanks p)) (k + 1) (blanks (k + 1))) := hid (by
        rw [← blanks_snoc, HT0.out]
        refine HL.out.app hown hgrow ?_
        rcases hat with e | e
        · exact .inl e.symm
        · right; rw [e]; simp [Value.ownBlock])
      clear hown hgrow hat hlt2
      go_wp2_with fail
      go_roundw
      case rel => exact ⟨k + 1, by omega, by go_num, HL2.out⟩
      case measure => simp [intOf]; omega
    · obtain rfl : k = p := by omega
      go_wp2_with fail
      obtain ⟨m, hm⟩ : ∃ m, min len 50 = m := ⟨_, rfl⟩
      have HC := hid hm
      have hml : m ≤ len := by omega
      have hm5 : m ≤ 50 := by omega
      clear hm
      obtain ⟨g, c, hgc⟩ := HL.out.form (by have := HP.out; omega)
      subst hgc
      go_loopw [9] (fun i wr => LR w k m D (.slice (some ⟨g, 0, none⟩) k c) i wr) (fun i _ => m - (intOf i).toNat)
      case atStart => exact ⟨0, newS (blanks k), by omega, rfl, midL_new k, HL.out⟩
      case round =>
        obtain ⟨j, s, hj, rfl, hmid, hac⟩ := hrel
        clear HL
        have HL := hid hac; have HM := hid hmid; clear hac hmid
        rename World => w00
        by_cases hlt : j < m
        · rcases HS.out.2 with h0 | ⟨b, off, rfl, hbw, hop⟩
          · omega
          obtain ⟨x, y, cc, ka, kl, kc, tt, uu, hop'⟩ := hop j (by omega)
          have HOP := hid (And.intro hbw hop'); clear hop hop'
          have d0 : w00.cell? ⟨b, off + j * 6, none⟩ = some (.int .i64 x) := by rw [HL.out.below.cell (p := ⟨b, _, none⟩) HOP.out.1]; exact HOP.out.2.c0
          have d1 : w00.cell? ⟨b, off + j * 6 + 1, none⟩ = some (.int .i64 y) := by rw [HL.out.below.cell (p := ⟨b, _, none⟩) HOP.out.1]; exact HOP.out.2.c1
          have d2 : w00.cell? ⟨b, off + j * 6 + 2, none⟩ = some (.int .u8 (cc.toNat : Int)) := by rw [HL.out.below.cell (p := ⟨b, _, none⟩) HOP.out.1]; exact HOP.out.2.c2
          have d3 : w00.cell? ⟨b, off + j * 6 + 3, none⟩ = some (.slice ka kl kc) := by rw [HL.out.below.cell (p := ⟨b, _, none⟩) HOP.out.1]; exact HOP.out.2.c3
          have d4 : w00.cell? ⟨b, off + j * 6 + 4, none⟩ = some (.int .i64 tt) := by rw [HL.out.below.cell (p := ⟨b, _, none⟩) HOP.out.1]; exact HOP.out.2.c4
          have d5 : w00.cell? ⟨b, off + j * 6 + 5, none⟩ = some (.int .i64 uu) := by rw [HL.out.below.cell (p := ⟨b, _, none⟩) HOP.out.1]; exact HOP.out.2.c5
          have hHD : ∀ V : World, V.heap[w00.heap.size]? = some (.cells #[.int .i64 x, .int .i64 y, .int .u8 (cc.toNat : Int), .slice ka kl kc, .int .i64 tt, .int .i64 uu] 80 (0, 0)) → V.cell? ⟨w00.heap.size, 0, none⟩ = some (.int .i64 x) ∧ V.cell? ⟨w00.heap.size, 1, none⟩ = some (.int .i64 y) ∧ V.cell? ⟨w00.heap.size, 2, none⟩ = some (.int .u8 (cc.toNat : Int)) := fun V h => ⟨by rw [cell_of_row _ _ _ _ _ _ h]; rfl, by rw [cell_of_row _ _ _ _ _ _ h]; rfl, by rw [cell_of_row _ _ _ _ _ _ h]; rfl⟩
          have HD := hid hHD; clear hHD
          have HGL := hid (show g < w00.heap.size from (HL.out.own.lt g (by simp [Value.ownBlock])).2)
          have HLB := hid (HL.out.box (.cells #[.int .i64 x, .int .i64 y, .int .u8 (cc.toNat : Int), .slice ka kl kc, .int .i64 tt, .int .i64 uu] 80 (0, 0)))
          have HBX := hid (heap_alloc_new w00 (.cells #[.int .i64 x, .int .i64 y, .int .u8 (cc.toNat : Int), .slice ka kl kc, .int .i64 tt, .int .i64 uu] 80 (0, 0)))
          obtain ⟨V, hV⟩ : ∃ V, w00.alloc (.cells #[.int .i64 x, .int .i64 y, .int .u8 (cc.toNat : Int), .slice ka kl kc, .int .i64 tt, .int .i64 uu] 80 (0, 0)) = V := ⟨_, rfl⟩
          rw [hV] at HLB HBX
          obtain ⟨e0, e1, e2⟩ := HD.out _ HBX.out
          clear HL
          have HL := HLB
          clear HLB
          have HF : Hid (s.fuse ≠ 0 ∧ s.waits.length < 1000000 ∧ s.writes < 1000000 ∧ s.flushes < 1000000) := hid (by have a1 := HM.out.fuse; have a2 := HM.out.waits; have a3 := HM.out.writes; have a4 := HM.out.flushes; refine ⟨?_, ?_, ?_, ?_⟩ <;> omega)
          by_cases hx : x = 2
          · subst hx
            have HM2 := hid HM.out.flush
            have HV : Hid (viewS (flushS s) = viewS s) := hid (view_flush s).1
            go_wp2_with (go_at_call 45; refine (lc_flush HL.out HF.out.1 HF.out.2.2.2).mono ?_; rintro e w6 ⟨rfl, hl⟩; replace HL := hid hl; clear hl)
            clear d0 d1 d2 d3 d4 d5 e0 e1 e2 HF HD HM HBX
            replace HL := hid HL.out.drop
            obtain ⟨s', hs'⟩ : ∃ s', flushS s = s' := ⟨_, rfl⟩
            rw [hs'] at HL HM2 HV
            rw [← HV.out] at HL
            clear hs' HV
            go_wp2_with fail
            go_loopw [11] (fun i wq => ∃ (n : Nat) (s2 : St), n ≤ k ∧ i = .int .i64 n ∧ MidL s2 k (j + 1) (j * 30 + n) ∧ viewS s2 = viewS s' ∧ LC w wq No (.slice (some ⟨g, 0, none⟩) k c) D s2 k (viewS s')) (fun i _ => k - (intOf i).toNat)
            case atStart => exact ⟨0, s', by omega, rfl, HM2.out, rfl, HL.out⟩
            case round =>
              obtain ⟨n, s2, hn, rfl, hm2, hv2, hl2⟩ := hrel
              have HL2 := hid hl2; have HM3 := hid hm2; have HV2 := hid hv2; clear hl2 hm2 hv2 HL HM2
              by_cases hlt2 : n < k
              · have hnl : n < (viewS s').length := by rw [HL2.out.len]; exact hlt2
                have HR := hid (lc_read n (viewS s')[n] HL2.out (by rw [HM3.out.pages]; exact hlt2) (by have := HM3.out.reads; have := HP.out; omega) (by rw [HV2.out]; exact List.getElem?_eq_getElem hnl))
                have HCL := hid fun (wx : World) (s3 : St) (h : LC w wx No (.slice (some ⟨g, 0, none⟩) k c) D s3 k (viewS s')) => (h.cell n hnl).1
                have HM4 := hid HM3.out.read
                clear HM3
                generalize (viewS s')[n] = t at HR HCL
                go_wp2_with (go_at_call 43; refine HR.out.mono ?_; rintro e w7 ⟨rfl, hl⟩; have HL3 := hid hl; have c7 := HCL.out _ _ hl; clear hl)
                go_wp2_with fail
                go_roundw
                case rel => exact ⟨n + 1, readS s2, by omega, by go_num, HM4.out, by rw [view_read]; exact HV2.out, HL3.out⟩
                case measure => simp [intOf]; omega
              · obtain rfl : n = k := by omega
                go_wp2_with fail
                go_roundw
                case rel => exact ⟨j + 1, s2, by omega, by go_num, by have e : j * 30 + n ≤ (j + 1) * 30 := by (have := HP.out; omega)
                                                                      exact ⟨HM3.out.pages, HM3.out.fuse, HM3.out.waits, HM3.out.writes, HM3.out.flushes, by have := HM3.out.reads; omega⟩, by rw [HV2.out]; exact HL2.out⟩
                case measure => simp [intOf]; omega
          · have hx2 : (x == 2) = false := by simpa using hx
            clear hx
            by_cases hin : 0 ≤ y ∧ y < k
            · obtain ⟨z, rfl⟩ : ∃ z : Nat, y = (z : Int) := ⟨y.toNat, by omega⟩
              have hz : z < k := by omega
              have HZ : Hid (z < s.pages.length) := hid (by rw [HM.out.pages]; exact hz)
              have HM2 := hid (HM.out.write z (filledB cc))
              have HV : Hid ((viewS s).set z (filledB cc) = viewS (writeS s z (filledB cc))) := hid (view_write s z _).symm
              clear hin
              go_wp2_with fail
              replace HL := hid HL.out.drew
              go_region_held3 (fun w' => w'.cell? ⟨w00.heap.size, 0, none⟩ = some (.int .i64 x) ∧ w'.cell? ⟨w00.heap.size, 1, none⟩ = some (.int .i64 (z : Int)) ∧ w'.cell? ⟨w00.heap.size, 2, none⟩ = some (.int .u8 (cc.toNat : Int))) (first | exact ⟨e0, e1, e2⟩ | exact x1 | exact y1 | go_keep)
                (first
                  | (go_at_call 41; refine (filled_ok cc _).mono ?_; rintro e w5 ⟨rfl, hb⟩; replace HBX := hid (((HL.out.next hb).2 _ rfl).trans HBX.out); replace HL := hid (HL.out.next hb).1; clear hb; have x1 := HD.out _ HBX.out)
                  | (go_at_call 40; refine (lc_write z (filledB cc) HL.out HZ.out (filledB_size cc) HF.out.1 HF.out.2.1 HF.out.2.2.1).mono ?_; rintro e w6 ⟨rfl, hl, hst⟩; replace HL := hid hl; replace HBX := hid ((hst _ rfl).trans HBX.out); clear hl hst; have y1 := HD.out _ HBX.out)
                  | fail)
              clear d0 d1 d2 d3 d4 d5 e0 e1 e2 x1 y1 hV
              obtain ⟨e0, e1, e2⟩ := HD.out _ HBX.out
              have n1 : decide ((z : Int) < 0) = false := by simp
              have n2 : decide ((k : Int) ≤ (z : Int)) = false := by simp; omega
              have n3 : (0 : Int) ≤ (z : Int) := by omega
              have n4 : (z : Int) < (k : Int) := by omega
              go_wp2_with fail
              replace HL := hid HL.out.drew
              have hgl : g < w00.heap.size := HGL.out
              have hne1 : ¬ (g = w00.heap.size) := by omega
              have hne2 : ¬ (w00.heap.size = g) := by omega
              have HVL : Hid (z < (viewS s).length) := hid (by rw [HL.out.len]; exact hz)
              have c0 := (HL.out.cell z HVL.out).1
              have f0 := (HL.out.cell z HVL.out).2
              go_region_held3 (fun w' => w'.cell? ⟨w00.heap.size, 0, none⟩ = some (.int .i64 x) ∧ w'.cell? ⟨w00.heap.size, 1, none⟩ = some (.int .i64 (z : Int)) ∧ w'.cell? ⟨w00.heap.size, 2, none⟩ = some (.int .u8 (cc.toNat : Int))) (first | exact ⟨e0, e1, e2⟩ | exact x1 | go_keep)
                (first
                  | (go_at_call 41; refine (filled_ok cc _).mono ?_; rintro e w5 ⟨rfl, hb⟩; replace HBX := hid (((HL.out.next hb).2 _ rfl).trans HBX.out); replace HL := hid (HL.out.next hb).1; clear hb; have x1 := HD.out _ HBX.out; have c1 := (HL.out.cell z HVL.out).1; have f1 := (HL.out.cell z HVL.out).2)
                  | fail)
              clear c0 f0 c1 f1 x1 HVL hne1 hne2 hgl
              replace HL := hid (HL.out.drop.set z (filledB cc))
              rw [HV.out] at HL
              clear e0 e1 e2 n1 n2 n3 n4 HF HD HM HV HZ HBX
              obtain ⟨s', hs'⟩ : ∃ s', writeS s z (filledB cc) = s' := ⟨_, rfl⟩
              rw [hs'] at HL HM2
              clear hs'
              go_wp2_with fail
              go_loopw [11] (fun i wq => ∃ (n : Nat) (s2 : St), n ≤ k ∧ i = .int .i64 n ∧ MidL s2 k (j + 1) (j * 30 + n) ∧ viewS s2 = viewS s' ∧ LC w wq No (.slice (some ⟨g, 0, none⟩) k c) D s2 k (viewS s')) (fun i _ => k - (intOf i).toNat)
              case atStart => exact ⟨0, s', by omega, rfl, HM2.out, rfl, HL.out⟩
              case round =>
                obtain ⟨n, s2, hn, rfl, hm2, hv2, hl2⟩ := hrel
                have HL2 := hid hl2; have HM3 := hid hm2; have HV2 := hid hv2; clear hl2 hm2 hv2 HL HM2
                by_cases hlt2 : n < k
                · have hnl : n < (viewS s').length := by rw [HL2.out.len]; exact hlt2
                  have HR := hid (lc_read n (viewS s')[n] HL2.out (by rw [HM3.out.pages]; exact hlt2) (by have := HM3.out.reads; have := HP.out; omega) (by rw [HV2.out]; exact List.getElem?_eq_getElem hnl))
                  have HCL := hid fun (wx : World) (s3 : St) (h : LC w wx No (.slice (some ⟨g, 0, none⟩) k c) D s3 k (viewS s')) => (h.cell n hnl).1
                  have HM4 := hid HM3.out.read
                  clear HM3
                  generalize (viewS s')[n] = t at HR HCL
                  go_wp2_with (go_at_call 43; refine HR.out.mono ?_; rintro e w7 ⟨rfl, hl⟩; have HL3 := hid hl; have c7 := HCL.out _ _ hl; clear hl)
                  go_wp2_with fail
                  go_roundw
                  case rel => exact ⟨n + 1, readS s2, by omega, by go_num, HM4.out, by rw [view_read]; exact HV2.out, HL3.out⟩
                  case measure => simp [intOf]; omega
                · obtain rfl : n = k := by omega
                  go_wp2_with fail
                  go_roundw
                  case rel => exact ⟨j + 1, s2, by omega, by go_num, by have e : j * 30 + n ≤ (j + 1) * 30 := by (have := HP.out; omega)
                                                                        exact ⟨HM3.out.pages, HM3.out.fuse, HM3.out.waits, HM3.out.writes, HM3.out.flushes, by have := HM3.out.reads; omega⟩, by rw [HV2.out]; exact HL2.out⟩
                  case measure => simp [intOf]; omega
            · have HZ : Hid (y < 0 ∨ (s.pages.length : Int) ≤ y ∨ (filledB cc).size ≠ 256 ∨ s.fuse = 0) := hid (by rw [HM.out.pages]; omega)
              have HM2 := hid HM.out.skip
              clear hin
              go_wp2_with fail
              replace HL := hid HL.out.drew
              go_region_held3 (fun w' => w'.cell? ⟨w00.heap.size, 0, none⟩ = some (.int .i64 x) ∧ w'.cell? ⟨w00.heap.size, 1, none⟩ = some (.int .i64 y) ∧ w'.cell? ⟨w00.heap.size, 2, none⟩ = some (.int .u8 (cc.toNat : Int))) (first | exact ⟨e0, e1, e2⟩ | exact x1 | go_keep)
                (first
                  | (go_at_call 41; refine (filled_ok cc _).mono ?_; rintro e w5 ⟨rfl, hb⟩; replace HBX := hid (((HL.out.next hb).2 _ rfl).trans HBX.out); replace HL := hid (HL.out.next hb).1; clear hb; have x1 := HD.out _ HBX.out)
                  | (go_at_call 40; refine (lk_write_bad y (filledB cc) HL.out.lk HZ.out).mono ?_; rintro e w6 ⟨rfl, rfl⟩)
                  | fail)
              clear d0 d1 d2 d3 d4 d5 e0 e1 e2 x1 HF HD HM HZ HBX hV
              replace HL := hid HL.out.drop
              obtain ⟨s', hs'⟩ : ∃ s', s = s' := ⟨_, rfl⟩
              rw [hs'] at HL HM2
              clear hs'
              go_wp2_with fail
              go_loopw [11] (fun i wq => ∃ (n : Nat) (s2 : St), n ≤ k ∧ i = .int .i64 n ∧ MidL s2 k (j + 1) (j * 30 + n) ∧ viewS s2 = viewS s' ∧ LC w wq No (.slice (some ⟨g, 0, none⟩) k c) D s2 k (viewS s')) (fun i _ => k - (intOf i).toNat)
              case atStart => exact ⟨0, s', by omega, rfl, HM2.out, rfl, HL.out⟩
              case round =>
                obtain ⟨n, s2, hn, rfl, hm2, hv2, hl2⟩ := hrel
                have HL2 := hid hl2; have HM3 := hid hm2; have HV2 := hid hv2; clear hl2 hm2 hv2 HL HM2
                by_cases hlt2 : n < k
                · have hnl : n < (viewS s').length := by rw [HL2.out.len]; exact hlt2
                  have HR := hid (lc_read n (viewS s')[n] HL2.out (by rw [HM3.out.pages]; exact hlt2) (by have := HM3.out.reads; have := HP.out; omega) (by rw [HV2.out]; exact List.getElem?_eq_getElem hnl))
                  have HCL := hid fun (wx : World) (s3 : St) (h : LC w wx No (.slice (some ⟨g, 0, none⟩) k c) D s3 k (viewS s')) => (h.cell n hnl).1
                  have HM4 := hid HM3.out.read
                  clear HM3
                  generalize (viewS s')[n] = t at HR HCL
                  go_wp2_with (go_at_call 43; refine HR.out.mono ?_; rintro e w7 ⟨rfl, hl⟩; have HL3 := hid hl; have c7 := HCL.out _ _ hl; clear hl)
                  go_wp2_with fail
                  go_roundw
                  case rel => exact ⟨n + 1, readS s2, by omega, by go_num, HM4.out, by rw [view_read]; exact HV2.out, HL3.out⟩
                  case measure => simp [intOf]; omega
                · obtain rfl : n = k := by omega
                  go_wp2_with fail
                  go_roundw
                  case rel => exact ⟨j + 1, s2, by omega, by go_num, by have e : j * 30 + n ≤ (j + 1) * 30 := by (have := HP.out; omega)
                                                                        exact ⟨HM3.out.pages, HM3.out.fuse, HM3.out.waits, HM3.out.writes, HM3.out.flushes, by have := HM3.out.reads; omega⟩, by rw [HV2.out]; exact HL2.out⟩
                  case measure => simp [intOf]; omega
        · obtain rfl : j = m := by omega
          have HEXIT : Hid (j = len ∨ (j < len ∧ j = 50)) := hid (by have := HC.out; omega)
          clear HC hlt hj hml
          have HFL : Hid (s.fuse ≠ 0 ∧ s.flushes < 1000000) := hid (by have a1 := HM.out.fuse; have a4 := HM.out.flushes; refine ⟨?_, ?_⟩ <;> omega)
          obtain ⟨o, ho, hop⟩ := come_none (flushS s) (view_flush s).2.2
          have HO := hid ho
          have HPG : Hid ((crashS (flushS s) o).pages = viewS s) := hid (hop.trans (view_flush s).2.1)
          have HVL : Hid ((viewS s).length = k) := hid HL.out.len
          clear ho hop
          have HT := hid fun (p1 p2 : Option Addr) (c1 c2 : Nat) (wx : World) (h1 : CellsAt wx p1 (sv (viewS s))) (h2 : CellsAt wx p2 (sv (viewS s))) => texts_sameL (viewS s) p1 p2 c1 c2 wx h1 h2 (by rw [HVL.out]; omega)
          have HI2 := hid fun (wx : World) (h : Lv w wx D (crashS (flushS s) o)) => image_textsL h HPG.out
          rw [HVL.out] at HT HI2
          have key : ∀ (Q : Prop), (j = len → Q) → (j < len ∧ j = 50 → Q) → Q := fun Q h1 h2 => HEXIT.out.elim h1 h2
          refine key _ (fun hkl => ?_) (fun hkl => ?_)
          · have e1 : decide (j < len) = false := by simp; omega
            clear hkl key HEXIT
            go_wp2_with fail
            refine (lc_flush HL.out HFL.out.1 HFL.out.2).mono ?_
            rintro e w5 ⟨rfl, hl⟩
            have H5 := hid hl; clear hl
            go_wp2_with fail
            refine (lc_crash H5.out o HO.out).mono ?_
            rintro e w6 ⟨rfl, hl⟩
            have H6 := hid hl; clear hl
            go_wp2_with fail
            refine (HI2.out _ H6.out.lk.lv).mono ?_
            rintro e w7 ⟨g1, k1, rfl, hc, hb⟩
            have HC1 := hid hc
            have H7 := hid (H6.out.next hb).1; clear hc hb
            go_wp2_with fail
            refine (HT.out _ _ _ _ _ (HC1.out _ (Below.refl _ _)) H7.out.cells).mono ?_
            rintro e w9 ⟨rfl, hb⟩
            have H9 := hid (H7.out.next hb).1; clear hb
            go_wp2_with fail
            refine (live_any _).mono ?_
            rintro e wa ⟨rfl, hb⟩
            have HE := hid (H9.out.next hb).1; clear hb
            go_wp2_with fail
            go_ret
            exact ⟨rfl, HE.out.below⟩
          · clear key HEXIT
            obtain ⟨hk1, rfl⟩ := hkl
            go_wp2_with fail
            refine (lc_flush HL.out HFL.out.1 HFL.out.2).mono ?_
            rintro e w5 ⟨rfl, hl⟩
            have H5 := hid hl; clear hl
            go_wp2_with fail
            refine (lc_crash H5.out o HO.out).mono ?_
            rintro e w6 ⟨rfl, hl⟩
            have H6 := hid hl; clear hl
            go_wp2_with fail
            refine (HI2.out _ H6.out.lk.lv).mono ?_
            rintro e w7 ⟨g1, k1, rfl, hc, hb⟩
            have HC1 := hid hc
            have H7 := hid (H6.out.next hb).1; clear hc hb
            go_wp2_with fail
            refine (HT.out _ _ _ _ _ (HC1.out _ (Below.refl _ _)) H7.out.cells).mono ?_
            rintro e w9 ⟨rfl, hb⟩
            have H9 := hid (H7.out.next hb).1; clear hb
            go_wp2_with fail
            refine (live_any _).mono ?_
            rintro e wa ⟨rfl, hb⟩
            have HE := hid (H9.out.next hb).1; clear hb
            go_wp2_with fail
            go_ret
            exact ⟨rfl, HE.out.below⟩
set_option maxRecDepth 100000 in
theorem DiskLast_open1 {H : Type} {enc : TypeId × Value → H} {W : World} {base : Nat} {v : Value} {d : DataW H} {p : List MemPlace} (hv : Value.okWide Try.prog W .any base 71 v) (h : DataW.Trod enc Try.prog W 0 (fun _ => true) true 71 v d p) :
    ∃ a len cap, v = .slice a len cap ∧ IsScript W a len := open_script hv h
set_option maxRecDepth 100000 in
set_option maxHeartbeats 1000000 in
theorem DiskLast_walk (g : Int) (v : Value) (w : World) (_ : (Lit.int .i64 g).wf = true) (hv : ∃ a len cap, v = .slice a len cap ∧ IsScript w a len) :
    Calls Try.prog 10 #[.int .i64 g, v] w fun e w' => e = .returned (.bool true) ∧ Below w.heap.size w w' := by
  obtain ⟨a, len, cap, rfl, hs⟩ := hv
  by_cases hgo : 1 ≤ g ∧ g ≤ 30
  · obtain ⟨p, rfl⟩ : ∃ p : Nat, g = (p : Int) := ⟨g.toNat, by omega⟩
    exact Last_go p a len cap w (by omega) (by omega) hs
  · have HB := hid (Below.refl w.heap.size w)
    clear hs
    by_cases hbad : g < 1 ∨ 1000 < g
    · have HBD := hid hbad
      clear hbad hgo
      go_enter Try.func10, Try.ntmps10
      go_wp2_with (first
        | (go_at_call 37; refine (new_bad g _ HBD.out).mono ?_; rintro e w' ⟨rfl, rfl⟩)
        | (go_at_call 39; refine (live_any _).mono ?_; rintro e w9 ⟨rfl, hb⟩; replace HB := hid (HB.out.trans (hb.mono HB.out.size)); clear hb))
      go_ret
      exact ⟨rfl, HB.out⟩
    · obtain ⟨p, rfl⟩ : ∃ p : Nat, g = (p : Int) := ⟨g.toNat, by omega⟩
      have HP : Hid (1 ≤ p ∧ p ≤ 1000) := hid (by omega)
      have e5 : decide ((30 : Int) < (p : Int)) = true := by simp; omega
      clear hgo hbad
      go_enter Try.func10, Try.ntmps10
      go_wp2_with (first
        | (go_at_call 37; refine (lv_new p w _ HB.out HP.out.1 HP.out.2).mono ?_; rintro e w1 ⟨D, rfl, hl⟩; replace HB := hid hl.below; clear hl)
        | (go_at_call 39; refine (live_any _).mono ?_; rintro e w9 ⟨rfl, hb⟩; replace HB := hid (HB.out.trans (hb.mono HB.out.size)); clear hb))
      go_ret
      exact ⟨rfl, HB.out⟩
end Go.Proofs.Ytlkejjclmamlaaa
