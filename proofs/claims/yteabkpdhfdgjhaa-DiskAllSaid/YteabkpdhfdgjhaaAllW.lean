/- DiskAll walked. -/
import Derived.Test.YteabkpdhfdgjhaaDkAllH
namespace Go.Proofs.Yteabkpdhfdgjhaa
open Go.RowKit
open Go.Lib (hid)
open Go.ChangeShapes Go.WideShapes Go.Joins
open Go.Proofs.Yteabkpdhfdgjhaa.Dk

theorem own_stay {wr w' : World} {N t c : Nat} {v : Value} {n : Nat} {xs : List Value} (h : wr.ownsRow N t c v n xs) (hs : Stay (Of v) wr w') : w'.ownsRow N t c v n xs := by
  refine ⟨h.1, ?_⟩
  rcases h.2 with hn | ⟨g, cap, cur, hv, hb0, hg, rest⟩
  · exact .inl hn
  · exact .inr ⟨g, cap, cur, hv, hb0, by rw [hs g (by unfold Of; rw [hv]; rfl)]; exact hg, rest⟩
/-- two disks, and 'kept' with n numbers -/
structure AC (w wr : World) (kv : Value) (A B : Nat) (s t : St) (n : Nat) : Prop where
  l2 : L2 w wr (Of kv) A s B t
  own : wr.ownsRow w.heap.size 3 1 kv n (iv (upTo n))
section
variable {w wr w' : World} {kv : Value} {A B : Nat} {s t : St} {n : Nat}
theorem AC.next (h : AC w wr kv A B s t n) (hb : Below wr.heap.size wr w') : AC w w' kv A B s t n := ⟨(h.l2.next hb).1, own_stay h.own (h.l2.next hb).2⟩
theorem AC.drew (h : AC w wr kv A B s t n) : AC w wr.drew kv A B s t n := by
  obtain ⟨a, b, h1, h2, h3, h4, h5, h6, h7, h8, h9⟩ := h.l2.ex
  exact ⟨⟨⟨a, b, h1, h2, h3.drew, h4.drew, h5, h6, h7, h8, h9⟩, h.l2.below.drew, h.l2.lt⟩, h.own⟩
theorem AC.drewN (h : AC w wr kv A B s t n) (m : Nat) : AC w (wr.drewN m) kv A B s t n := by
  obtain ⟨a, b, h1, h2, h3, h4, h5, h6, h7, h8, h9⟩ := h.l2.ex
  exact ⟨⟨⟨a, b, h1, h2, h3.drewN m, h4.drewN m, h5, h6, h7, h8, h9⟩, ⟨h.l2.below.os, h.l2.below.tape, h.l2.below.output, h.l2.below.size, h.l2.below.block⟩, h.l2.lt⟩, h.own⟩
theorem AC.symm (h : AC w wr kv A B s t n) : AC w wr kv B A t s n := ⟨h.l2.symm, h.own⟩
theorem AC.below (h : AC w wr kv A B s t n) : Below w.heap.size w wr := h.l2.below
theorem AC.lv (h : AC w wr kv A B s t n) : Lv w wr A s := h.l2.first.lv
theorem ac_write (i : Nat) (p : ByteArray) (h : AC w wr kv A B s t n) (hn : i < s.pages.length) (ht : p.size = 256) (hfz : s.fuse ≠ 0) (hf : s.waits.length < 1000000) (hw : s.writes < 1000000) :
    Calls Try.prog 11 #[.pointer (some ⟨A, 0, none⟩), .int .i64 (i : Int), .string p] wr fun e w' => e = .returned (.int .i64 0) ∧ AC w w' kv A B (writeS s i p) t n :=
  (l2_write i p h.l2 hn ht hfz hf hw).mono fun _ _ ⟨h1, h2, h3⟩ => ⟨h1, h2, own_stay h.own h3⟩
theorem ac_flush (h : AC w wr kv A B s t n) (hfz : s.fuse ≠ 0) (hfl : s.flushes < 1000000) :
    Calls Try.prog 16 #[.pointer (some ⟨A, 0, none⟩)] wr fun e w' => e = .returned (.int .i64 (s.waits.length : Int)) ∧ AC w w' kv A B (flushS s) t n :=
  (l2_flush h.l2 hfz hfl).mono fun _ _ ⟨h1, h2, h3⟩ => ⟨h1, h2, own_stay h.own h3⟩
/-- a crash that keeps all -/
theorem ac_crash {q : Option Addr} {c : Nat} (h : AC w wr (.slice q n c) A B s t n) (hn : n = s.waits.length) (hm : n ≤ maxLen) :
    Calls Try.prog 19 #[.pointer (some ⟨A, 0, none⟩), .slice q n c, .int .i64 (-1), .int .i64 0] wr fun e w' => e = .returned (.int .i64 0) ∧ Lv w w' A (crashS s (firstT s s.waits.length)) ∧ Lv w w' B t := by
  obtain ⟨q', c', hv, hk⟩ := kept_own h.own
  have hl := l2_crash q' c' (upTo n) (-1) 0 (firstT s s.waits.length) h.l2 hk (by rw [upTo_length]; exact hm) (by rw [hn]; exact come_all s)
  rw [upTo_length] at hl hv
  cases hv
  exact hl.mono fun e w' ⟨h1, h2, _⟩ => ⟨h1, h2.first.lv, h2.symm.first.lv⟩
end
/-- the loop's relation -/
def AR2 (w : World) (p m A B : Nat) (kv iv' : Value) (wr : World) : Prop :=
  ∃ (k : Nat) (s : St), k ≤ m ∧ iv' = .int .i64 k ∧ MidA s (blanks p) k ∧ AC w wr kv A B s s s.waits.length
theorem image_texts {w wr : World} {D : Nat} {s : St} {l : List ByteArray} (h : Lv w wr D s) (hl : s.pages = l) :
    Calls Try.prog 23 #[.pointer (some ⟨D, 0, none⟩)] wr fun e w' => ∃ g cap, e = .returned (.slice (some ⟨g, 0, none⟩) l.length cap) ∧ (∀ w2, Below w'.heap.size w' w2 → CellsAt w2 (some ⟨g, 0, none⟩) (sv l)) ∧ Below wr.heap.size wr w' := by
  subst hl
  refine (lv_image h).mono ?_
  rintro e w' ⟨g, cap, rfl, _, hg2, hg3, hb⟩
  refine ⟨g, cap, rfl, fun w2 h2 j hj => ⟨g, 0, rfl, ?_⟩, hb⟩
  rw [sv_length] at hj
  rw [Nat.zero_add, h2.cell (p := ⟨g, j, none⟩) hg2, hg3 j hj]
  simp [sv]
theorem texts_same (l : List ByteArray) (p q : Option Addr) (c c' : Nat) (w : World) (hp : CellsAt w p (sv l)) (hq : CellsAt w q (sv l)) (hl : l.length ≤ 1000000) :
    Calls Try.prog 22 #[.slice p l.length c, .slice q l.length c'] w fun e w' => e = .returned (.bool true) ∧ Below w.heap.size w w' :=
  (texts_ok l l p q c c' w hp hq hl).mono fun e w' ⟨h1, n, h2⟩ => ⟨by rw [h1]; simp, by rw [h2]; exact ⟨rfl, rfl, rfl, Nat.le_refl _, fun _ _ => rfl⟩⟩
set_option maxRecDepth 100000 in
set_option maxHeartbeats 4000000 in
theorem All_go (p : Nat) (a : Option Addr) (len cap : Nat) (w : World) (h1 : 1 ≤ p) (h2 : p ≤ 30) (hs : IsScript w a len) :
    Calls Try.prog 6 #[.int .i64 (p : Int), .slice a len cap] w fun e w' => e = .returned (.bool true) ∧ Below w.heap.size w w' := by
  have hlen := hs.1
  unfold maxLen at hlen
  have HS := hid hs; clear hs
  have HB := hid (Below.refl w.heap.size w)
  have e1 : decide ((30 : Int) < (p : Int)) = false := by simp; omega
  obtain ⟨i0, hi0, hz0, hz1, hz2⟩ := info_parts info3
  go_enter Try.func6, Try.ntmps6
  go_wp2_with fail
  refine (lv_new p w _ HB.out h1 (by omega)).mono ?_
  rintro e w1 ⟨A, rfl, hl⟩
  have HL := hid hl; clear hl
  go_wp2_with fail
  refine (l2_new p HL.out h1 (by omega)).mono ?_
  rintro e w2 ⟨B, rfl, hl⟩
  have H2 := hid (l2_none hl); clear hl HL HB
  go_wp2_with fail
  obtain ⟨m, hm⟩ : ∃ m, min len 50 = m := ⟨_, rfl⟩
  have HC := hid hm
  have hml : m ≤ len := by omega
  have hm5 : m ≤ 50 := by omega
  clear hm e1
  go_loopw [9, 10] (fun kv i wr => AR2 w p m A B kv i wr) (fun _ i _ => m - (intOf i).toNat)
  case atStart => exact ⟨0, newS (blanks p), by omega, rfl, mid_new p, H2.out, World.ownsRow_nil _ _ _ _⟩
  case round =>
    obtain ⟨k, s, hk, rfl, hmid, hac⟩ := hrel
    have HL := hid hac; have HM := hid hmid; clear hac hmid H2
    by_cases hlt : k < m
    · rcases HS.out.2 with h0 | ⟨b, off, rfl, hbw, hop⟩
      · omega
      obtain ⟨x, y, cc, ka, kl, kc, tt, uu, hop'⟩ := hop k (by omega)
      have HOP := hid (And.intro hbw hop'); clear hop hop'
      have HD : Hid (∀ w' : World, Below w.heap.size w w' → w'.cell? ⟨b, off + k * 6 + 1, none⟩ = some (.int .i64 y) ∧ w'.cell? ⟨b, off + k * 6 + 2, none⟩ = some (.int .u8 (cc.toNat : Int))) := hid fun w' hb => ⟨by rw [hb.cell (p := ⟨b, _, none⟩) HOP.out.1]; exact HOP.out.2.c1, by rw [hb.cell (p := ⟨b, _, none⟩) HOP.out.1]; exact HOP.out.2.c2⟩
      have d0 := HD.out _ HL.out.below
      by_cases hin : 0 ≤ y ∧ y < p
      · obtain ⟨z, rfl⟩ : ∃ z : Nat, y = (z : Int) := ⟨y.toNat, by omega⟩
        have HZ : Hid (z < s.pages.length) := hid (by rw [HM.out.pages]; simp [blanks]; omega)
        have HF : Hid (s.fuse ≠ 0 ∧ s.waits.length < 1000000 ∧ s.writes < 1000000) := hid (by have a1 := HM.out.fuse; have a2 := HM.out.waits; have a3 := HM.out.writes; refine ⟨?_, ?_, ?_⟩ <;> omega)
        have HMK := hid (HM.out.write z (filledB cc))
        have HWL := hid (waits_write s z (filledB cc))
        have hwl : s.waits.length ≤ k := HM.out.waits
        clear hin
        obtain ⟨d1, d2⟩ := d0
        go_wp2_with fail
        replace HL := hid HL.out.drew
        go_region_held3 (fun w' => w'.cell? ⟨b, off + k * 6 + 1, none⟩ = some (.int .i64 (z : Int)) ∧ w'.cell? ⟨b, off + k * 6 + 2, none⟩ = some (.int .u8 (cc.toNat : Int))) (first | exact ⟨d1, d2⟩ | exact x1 | exact y1 | go_keep)
          (first
            | (go_at_call 12; refine (filled_ok cc _).mono ?_; rintro e w5 ⟨rfl, hb⟩; replace HL := hid (HL.out.next hb); clear hb; have x1 := HD.out _ HL.out.below)
            | (go_at_call 11; refine (ac_write z (filledB cc) HL.out HZ.out (filledB_size cc) HF.out.1 HF.out.2.1 HF.out.2.2).mono ?_; rintro e w6 ⟨rfl, hl⟩; replace HL := hid hl; clear hl; have y1 := HD.out _ HL.out.below)
            | fail)
        clear d1 d2 x1 y1
        have d0 := HD.out _ HL.out.below
        obtain ⟨d1, d2⟩ := d0
        go_wp2_with fail
        replace HL := hid HL.out.symm.drew
        go_region_held3 (fun w' => w'.cell? ⟨b, off + k * 6 + 1, none⟩ = some (.int .i64 (z : Int)) ∧ w'.cell? ⟨b, off + k * 6 + 2, none⟩ = some (.int .u8 (cc.toNat : Int))) (first | exact ⟨d1, d2⟩ | exact x1 | exact y1 | go_keep)
          (first
            | (go_at_call 12; refine (filled_ok cc _).mono ?_; rintro e w7 ⟨rfl, hb⟩; replace HL := hid (HL.out.next hb); clear hb; have x1 := HD.out _ HL.out.below)
            | (go_at_call 11; refine (ac_write z (filledB cc) HL.out HZ.out (filledB_size cc) HF.out.1 HF.out.2.1 HF.out.2.2).mono ?_; rintro e w8 ⟨rfl, hl⟩; replace HL := hid hl; clear hl; have y1 := HD.out _ HL.out.below)
            | fail)
        clear d1 d2 x1 y1
        replace HL := hid HL.out.symm
        obtain ⟨g, hg⟩ : ∃ g, s.waits.length = g := ⟨_, rfl⟩
        have HG := hid hg
        rw [hg] at HL HWL
        rw [hg] at hwl
        clear hg
        have HKV : Hid (∃ q c, u9 = .slice q g c) := hid (by
          obtain ⟨q, c, hv, _⟩ := kept_own HL.out.own
          rw [upTo_length] at hv; exact ⟨q, c, hv⟩)
        obtain ⟨q, c, rfl⟩ := HKV.out
        clear HKV
        go_wp2_with (at_builtin; refine wpList_append_lies _ rfl _ _ 31 rfl w.heap.size 3 i0 (.int .i64 0) 1 8 Try.underlying31 hi0 hz0 hz1 hz2 rfl (by decide) _ g _ rfl (HL.out.own.alloc _) ⟨w8.heap.size, 0, none⟩ 1 1 [.int .i64 (g : Int)] (by rfl) rfl ?c1 ?c2 (by decide) ?c3 (by omega) ?c5 _ rfl ?_)
        case c1 =>
          intro j u hj
          match j, hj with
          | 0, hj => simp at hj; subst hj; simp [Addr.add]
        case c2 => intro u hu; simp at hu; subst hu; rfl
        case c3 => unfold maxLen; omega
        case c5 => have := HL.out.below.size; simp; omega
        intro g' cap' w9 hown hgrow hat hlt
        have HL2 : Hid (AC w w9 (.slice (some ⟨g', 0, none⟩) (g + 1) cap') A B (writeS s z (filledB cc)) (writeS s z (filledB cc)) (writeS s z (filledB cc)).waits.length) := hid (by
          rw [HWL.out]
          refine ⟨l2_app HL.out.l2 HL.out.own hgrow ?_ ?_, by rw [← iv_upTo]; exact hown⟩
          · rcases hat with e | e
            · exact .inl e.symm
            · right; rw [e]; simp [Value.ownBlock]
          · intro k hk; simp [Value.ownBlock] at hk; omega)
        clear hown hgrow hat hlt
        go_wp2_with fail
        go_roundw
        case rel => exact ⟨k + 1, writeS s z (filledB cc), by omega, by go_num, HMK.out, HL2.out⟩
        case measure => simp [intOf]; omega
      · have HZ : Hid (y < 0 ∨ (s.pages.length : Int) ≤ y ∨ (filledB cc).size ≠ 256 ∨ s.fuse = 0) := hid (by rw [HM.out.pages]; simp [blanks]; omega)
        have HMK := hid HM.out.skip
        clear hin
        obtain ⟨d1, d2⟩ := d0
        go_wp2_with fail
        replace HL := hid HL.out.drew
        go_region_held3 (fun w' => w'.cell? ⟨b, off + k * 6 + 1, none⟩ = some (.int .i64 y) ∧ w'.cell? ⟨b, off + k * 6 + 2, none⟩ = some (.int .u8 (cc.toNat : Int))) (first | exact ⟨d1, d2⟩ | exact x1 | go_keep)
          (first
            | (go_at_call 12; refine (filled_ok cc _).mono ?_; rintro e w5 ⟨rfl, hb⟩; replace HL := hid (HL.out.next hb); clear hb; have x1 := HD.out _ HL.out.below)
            | (go_at_call 11; refine (lv_write_bad y (filledB cc) HL.out.lv HZ.out).mono ?_; rintro e w6 ⟨rfl, rfl⟩)
            | fail)
        clear d1 d2 x1
        have d0 := HD.out _ HL.out.below
        obtain ⟨d1, d2⟩ := d0
        go_wp2_with fail
        replace HL := hid HL.out.symm.drew
        go_region_held3 (fun w' => w'.cell? ⟨b, off + k * 6 + 1, none⟩ = some (.int .i64 y) ∧ w'.cell? ⟨b, off + k * 6 + 2, none⟩ = some (.int .u8 (cc.toNat : Int))) (first | exact ⟨d1, d2⟩ | exact x1 | go_keep)
          (first
            | (go_at_call 12; refine (filled_ok cc _).mono ?_; rintro e w7 ⟨rfl, hb⟩; replace HL := hid (HL.out.next hb); clear hb; have x1 := HD.out _ HL.out.below)
            | (go_at_call 11; refine (lv_write_bad y (filledB cc) HL.out.lv HZ.out).mono ?_; rintro e w8 ⟨rfl, rfl⟩)
            | fail)
        clear d1 d2 x1
        replace HL := hid HL.out.symm
        go_wp2_with fail
        go_roundw
        case rel => exact ⟨k + 1, s, by omega, by go_num, HMK.out, HL.out⟩
        case measure => simp [intOf]; omega
    · obtain rfl : k = m := by omega
      have HEXIT : Hid (k = len ∨ (k < len ∧ k = 50)) := hid (by have := HC.out; omega)
      clear HC hlt hk hml
      have hwl := HM.out.waits
      have HFL : Hid (s.fuse ≠ 0 ∧ s.flushes < 1000000) := hid (by rw [HM.out.fuse, HM.out.flushes]; decide)
      have HSZ : Hid (∀ x ∈ s.waits, x.2.size = 256) := hid fun x hx => (HL.out.lv.good.wait x hx).2
      have HPG := hid (crash_all_pages s HSZ.out)
      have HPF := hid (view_flush s).2.1
      have HVL : Hid ((viewS s).length = p) := hid (by rw [view_length, HM.out.pages]; simp [blanks])
      clear HSZ
      obtain ⟨n, hn⟩ : ∃ n, s.waits.length = n := ⟨_, rfl⟩
      have HN := hid hn
      rw [hn] at HL hwl
      clear hn
      have HKV : Hid (∃ q c, u9 = .slice q n c) := hid (by
        obtain ⟨q, c, hv, _⟩ := kept_own HL.out.own
        rw [upTo_length] at hv; exact ⟨q, c, hv⟩)
      obtain ⟨q, c, rfl⟩ := HKV.out
      clear HKV
      have eg : ((n : Int) == (n : Int)) = true := by simp
      have HNM : Hid (n ≤ maxLen) := hid (by unfold maxLen; omega)
      have HF1 := hid fun (wx : World) (h : AC w wx (.slice q n c) A B s s n) => ac_flush h HFL.out.1 HFL.out.2
      rw [HN.out] at HF1
      have HT := hid fun (p1 p2 : Option Addr) (c1 c2 : Nat) (wx : World) (h1 : CellsAt wx p1 (sv (viewS s))) (h2 : CellsAt wx p2 (sv (viewS s))) => texts_same (viewS s) p1 p2 c1 c2 wx h1 h2 (by rw [HVL.out]; omega)
      have HI1 := hid fun (wx : World) (h : Lv w wx A (flushS s)) => image_texts h HPF.out
      have HI2 := hid fun (wx : World) (h : Lv w wx B (crashS s (firstT s s.waits.length))) => image_texts h HPG.out
      rw [HVL.out] at HT HI1 HI2
      have key : ∀ (Q : Prop), (k = len → Q) → (k < len ∧ k = 50 → Q) → Q := fun Q h1 h2 => HEXIT.out.elim h1 h2
      refine key _ (fun hkl => ?_) (fun hkl => ?_)
      · have e1 : decide (k < len) = false := by simp; omega
        clear hkl key HEXIT
        go_wp2_with fail
        refine (HF1.out _ HL.out).mono ?_
        rintro e w5 ⟨rfl, hl⟩
        have H5 := hid hl; clear hl
        go_wp2_with fail
        refine (ac_crash H5.out.symm HN.out.symm HNM.out).mono ?_
        rintro e w6 ⟨rfl, hl1, hl2⟩
        have H6 := hid (And.intro hl1 hl2); clear hl1 hl2
        go_wp2_with fail
        refine (HI1.out _ H6.out.2).mono ?_
        rintro e w7 ⟨g1, k1, rfl, hc, hb⟩
        have HC1 := hid hc
        have H7 := hid (H6.out.1.next hb); clear hc hb
        go_wp2_with fail
        refine (HI2.out _ H7.out).mono ?_
        rintro e w8 ⟨g2, k2, rfl, hc, hb⟩
        have HC2 := hid hc
        have H8 := hid (H7.out.next hb)
        have HC3 := hid (HC1.out _ hb); clear hc hb
        go_wp2_with fail
        refine (HT.out _ _ _ _ _ HC3.out (HC2.out _ (Below.refl _ _))).mono ?_
        rintro e w9 ⟨rfl, hb⟩
        have H9 := hid (H8.out.next hb); clear hb
        go_wp2_with fail
        refine (live_any _).mono ?_
        rintro e wa ⟨rfl, hb⟩
        have HE := hid (H9.out.next hb); clear hb
        go_wp2_with fail
        go_ret
        exact ⟨rfl, HE.out.below⟩
      · clear key HEXIT
        obtain ⟨hk1, rfl⟩ := hkl
        go_wp2_with fail
        refine (HF1.out _ HL.out).mono ?_
        rintro e w5 ⟨rfl, hl⟩
        have H5 := hid hl; clear hl
        go_wp2_with fail
        refine (ac_crash H5.out.symm HN.out.symm HNM.out).mono ?_
        rintro e w6 ⟨rfl, hl1, hl2⟩
        have H6 := hid (And.intro hl1 hl2); clear hl1 hl2
        go_wp2_with fail
        refine (HI1.out _ H6.out.2).mono ?_
        rintro e w7 ⟨g1, k1, rfl, hc, hb⟩
        have HC1 := hid hc
        have H7 := hid (H6.out.1.next hb); clear hc hb
        go_wp2_with fail
        refine (HI2.out _ H7.out).mono ?_
        rintro e w8 ⟨g2, k2, rfl, hc, hb⟩
        have HC2 := hid hc
        have H8 := hid (H7.out.next hb)
        have HC3 := hid (HC1.out _ hb); clear hc hb
        go_wp2_with fail
        refine (HT.out _ _ _ _ _ HC3.out (HC2.out _ (Below.refl _ _))).mono ?_
        rintro e w9 ⟨rfl, hb⟩
        have H9 := hid (H8.out.next hb); clear hb
        go_wp2_with fail
        refine (live_any _).mono ?_
        rintro e wa ⟨rfl, hb⟩
        have HE := hid (H9.out.next hb); clear hb
        go_wp2_with fail
        go_ret
        exact ⟨rfl, HE.out.below⟩
set_option maxRecDepth 100000 in
theorem DiskAll_open1 {H : Type} {enc : TypeId × Value → H} {W : World} {base : Nat} {v : Value} {d : DataW H} {p : List MemPlace} (hv : Value.okWide Try.prog W .any base 22 v) (h : DataW.Trod enc Try.prog W 0 (fun _ => true) true 22 v d p) :
    ∃ a len cap, v = .slice a len cap ∧ IsScript W a len := open_script hv h
set_option maxRecDepth 100000 in
set_option maxHeartbeats 1000000 in
theorem DiskAll_walk (g : Int) (v : Value) (w : World) (_ : (Lit.int .i64 g).wf = true) (hv : ∃ a len cap, v = .slice a len cap ∧ IsScript w a len) :
    Calls Try.prog 6 #[.int .i64 g, v] w fun e w' => e = .returned (.bool true) ∧ Below w.heap.size w w' := by
  obtain ⟨a, len, cap, rfl, hs⟩ := hv
  by_cases hgo : 1 ≤ g ∧ g ≤ 30
  · obtain ⟨p, rfl⟩ : ∃ p : Nat, g = (p : Int) := ⟨g.toNat, by omega⟩
    exact All_go p a len cap w (by omega) (by omega) hs
  · have HB := hid (Below.refl w.heap.size w)
    clear hs
    by_cases hbad : g < 1 ∨ 1000 < g
    · have HBD := hid hbad
      clear hbad hgo
      go_enter Try.func6, Try.ntmps6
      go_wp2_with (first
        | (go_at_call 8; refine (new_bad g _ HBD.out).mono ?_; rintro e w' ⟨rfl, rfl⟩)
        | (go_at_call 10; refine (live_any _).mono ?_; rintro e w9 ⟨rfl, hb⟩; replace HB := hid (HB.out.trans (hb.mono HB.out.size)); clear hb))
      go_ret
      exact ⟨rfl, HB.out⟩
    · obtain ⟨p, rfl⟩ : ∃ p : Nat, g = (p : Int) := ⟨g.toNat, by omega⟩
      have HP : Hid (1 ≤ p ∧ p ≤ 1000) := hid (by omega)
      have e5 : decide ((30 : Int) < (p : Int)) = true := by simp; omega
      clear hgo hbad
      go_enter Try.func6, Try.ntmps6
      go_wp2_with (first
        | (go_at_call 8; refine (lv_new p w _ HB.out HP.out.1 HP.out.2).mono ?_; rintro e w1 ⟨D, rfl, hl⟩; replace HB := hid hl.below; clear hl)
        | (go_at_call 10; refine (live_any _).mono ?_; rintro e w9 ⟨rfl, hb⟩; replace HB := hid (HB.out.trans (hb.mono HB.out.size)); clear hb))
      go_ret
      exact ⟨rfl, HB.out⟩
end Go.Proofs.Yteabkpdhfdgjhaa
