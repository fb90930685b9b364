/- DiskNil walked. -/
import Derived.Test.YtlkejjclmamlaaaDkOpen
import Derived.Test.YtlkejjclmamlaaaDkROf
import Derived.Deep.RegionHeld3
namespace Go.Proofs.Ytlkejjclmamlaaa
open Go.RowKit
open Go.Lib (hid)
open Go.ChangeShapes Go.WideShapes Go.Joins Go.Deep
open Go.Proofs.Ytlkejjclmamlaaa.Dk

set_option maxHeartbeats 400000 in
theorem write_nil (n : Int) (t : ByteArray) (w : World) :
    Calls Try.prog 40 #[.pointer none, .int .i64 n, .string t] w fun e w' => e = .returned (.int .i64 1) ∧ w = w' := by
  go_enter Try.func40, Try.ntmps40
  go_wp2_with (go_at_call 75; refine (has_nil n _).mono ?_; rintro e w' ⟨rfl, rfl⟩)
  go_ret
  exact ⟨rfl, rfl⟩
set_option maxHeartbeats 400000 in
theorem flush_nil (w : World) :
    Calls Try.prog 45 #[.pointer none] w fun e w' => e = .returned (.int .i64 0) ∧ w = w' := by
  go_enter Try.func45, Try.ntmps45
  go_wp2_with fail
  go_ret
  exact ⟨rfl, rfl⟩
/-- a value that is a list of texts -/
def TextsV (w : World) (v : Value) : Prop := ∃ p l c, v = .slice p l.length c ∧ CellsAt w p (sv l) ∧ (∀ b off, p = some ⟨b, off, none⟩ → 0 < l.length → b < w.heap.size) ∧ (p = none → l = [] ∧ c = 0) ∧ l.length ≤ maxLen ∧ ∀ t ∈ l, t.size ≤ maxLen
theorem texts_of {W : World} (b off n : Nat) (h : ∀ i, i < n → ∃ t : ByteArray, W.cell? ⟨b, off + i, none⟩ = some (.string t) ∧ t.size ≤ maxLen) : ∃ l : List ByteArray, l.length = n ∧ CellsAt W (some ⟨b, off, none⟩) (sv l) ∧ ∀ t ∈ l, t.size ≤ maxLen := by
  induction n with
  | zero => exact ⟨[], rfl, fun j hj => absurd hj (by simp [sv]), fun t ht => absurd ht (by simp)⟩
  | succ n ih =>
    obtain ⟨l, h1, h2, h3⟩ := ih fun i hi => h i (by omega)
    obtain ⟨t, h4, h5⟩ := h n (by omega)
    refine ⟨l ++ [t], by simp [h1], fun j hj => ?_, fun u hu => ?_⟩
    · rw [sv_length, List.length_append] at hj
      by_cases hl : j < l.length
      · obtain ⟨b', o', e, hc⟩ := h2 j (by rw [sv_length]; exact hl)
        refine ⟨b', o', e, hc.trans ?_⟩
        simp [sv, List.getElem_append_left, hl]
      · have : j = n := by simp at hj; omega
        subst this
        refine ⟨b, off, rfl, h4.trans ?_⟩
        simp [sv, h1]
    · rcases List.mem_append.1 hu with hu | hu
      · exact h3 u hu
      · simp at hu; subst hu; exact h5
set_option maxRecDepth 100000 in
theorem open_texts {H : Type} {enc : TypeId × Value → H} {W : World} {base : Nat} {v : Value} {d : DataW H} {p : List MemPlace} (hv : Value.okWide Try.prog W .any base 85 v) (h : DataW.Trod enc Try.prog W 0 (fun _ => true) true 85 v d p) : TextsV W v := by
  obtain ⟨a, len, cap, rfl⟩ := okWide_slice Try.underlying85 hv
  obtain ⟨fuel, hf⟩ := h
  have hcs0 : (Value.slice a len cap).cells.toList = [.slice a len cap] := by simp [Value.cells]
  rcases open_slice1 Try.underlying85 (by kernel_rfl) hf with ⟨hcs, _⟩ | ⟨x, l, c, m, n, V, D, Pl, hcs, _, hlc, hcm, hm, _, hi⟩
  · rw [hcs] at hcs0
    simp at hcs0
    obtain ⟨rfl, rfl, rfl⟩ := hcs0
    exact ⟨none, [], 0, rfl, fun j hj => absurd hj (by simp [sv]), nofun, fun _ => ⟨rfl, rfl⟩, by simp, fun t ht => absurd ht (by simp)⟩
  · rw [hcs] at hcs0
    simp at hcs0
    obtain ⟨rfl, rfl, rfl⟩ := hcs0
    have hml : l ≤ m := by rw [hm]; split <;> omega
    by_cases h0 : l = 0
    · subst h0
      exact ⟨some x, [], c, rfl, fun j hj => absurd hj (by simp [sv]), fun _ _ _ h => absurd h (by simp), nofun, by simp, fun t ht => absurd ht (by simp)⟩
    · have cell : ∀ i, i < l → ∃ t : ByteArray, W.cell? (x.add i) = some (.string t) ∧ t.size ≤ maxLen := by
        intro i hil
        obtain ⟨hc, ht⟩ := hi i (by omega)
        obtain ⟨t, e, _, wt⟩ := DataW.trod_string Try.underlying9 ht
        simp at e
        exact ⟨t, by rw [hc, e], wt⟩
      obtain ⟨blk, off, spot⟩ := x
      obtain ⟨t0, hfirst, _⟩ := cell 0 (by omega)
      have hspot : spot = none := by simpa [Addr.add] using World.cell?_spot hfirst
      subst hspot
      have hadd : ∀ o i, (⟨blk, o, none⟩ : Addr).add i = ⟨blk, o + i, none⟩ := fun o i => by unfold Addr.add; split <;> simp_all
      obtain ⟨L, h1, h2, h3⟩ := texts_of blk off l (fun i hi => by
        obtain ⟨t, hc, ht⟩ := cell i hi
        rw [hadd] at hc
        exact ⟨t, hc, ht⟩)
      rw [hadd] at hfirst
      refine ⟨_, L, c, by rw [h1], h2, fun b o e _ => ?_, nofun, by rw [h1]; unfold maxLen at hcm ⊢; omega, h3⟩
      cases e
      exact block_lt_of_cell hfirst
/-- a value that is an Op -/
def OpV (v : Value) : Prop := ∃ (a b : Int) (c : UInt8) (ka : Option Addr) (kl kc : Nat) (t u : Int), v = .agg #[.int .i64 a, .int .i64 b, .int .u8 (c.toNat : Int), .slice ka kl kc, .int .i64 t, .int .i64 u]
set_option maxRecDepth 100000 in
theorem open_op {H : Type} {enc : TypeId × Value → H} {W : World} {base : Nat} {v : Value} {d : DataW H} {p : List MemPlace} (hv : Value.okWide Try.prog W .any base 80 v) (h : DataW.Trod enc Try.prog W 0 (fun _ => true) true 80 v d p) : OpV v := by
  obtain ⟨cs, rfl, hsz⟩ := okWide_struct Try.underlying80 hv
  obtain ⟨fuel, hf⟩ := h
  rw [c33] at hsz
  obtain ⟨l⟩ := cs
  obtain ⟨a, b, c, ka, kl, kc, t, u, e, _⟩ := op_cells (show l.length = 6 from hsz) hf
  exact ⟨a, b, c, ka, kl, kc, t, u, by rw [show l = _ from e]⟩
theorem take_all {l : List ByteArray} {k : Nat} (hk : k < l.length) (h : ∀ t ∈ l.take k, t.size ≤ 300) (hs : l[k].size ≤ 300) : ∀ t ∈ l.take (k + 1), t.size ≤ 300 := fun t ht => by
  rw [List.take_succ_eq_append_getElem hk, List.mem_append, List.mem_singleton] at ht
  rcases ht with ht | rfl
  · exact h t ht
  · exact hs
set_option maxRecDepth 100000 in
theorem DiskNil_open0 {H : Type} {enc : TypeId × Value → H} {W : World} {base : Nat} {v : Value} {d : DataW H} {p : List MemPlace} (hv : Value.okWide Try.prog W .any base 80 v) (h : DataW.Trod enc Try.prog W 0 (fun _ => true) true 80 v d p) : OpV v := open_op hv h
set_option maxRecDepth 100000 in
theorem DiskNil_open1 {H : Type} {enc : TypeId × Value → H} {W : World} {base : Nat} {v : Value} {d : DataW H} {p : List MemPlace} (hv : Value.okWide Try.prog W .any base 85 v) (h : DataW.Trod enc Try.prog W 0 (fun _ => true) true 85 v d p) : TextsV W v := open_texts hv h
set_option maxRecDepth 100000 in
set_option maxHeartbeats 8000000 in
theorem DiskNil_walk (vo v : Value) (w : World) (ho : OpV vo) (hv : TextsV w v) :
    Calls Try.prog 9 #[vo, v] w fun e w' => e = .returned (.bool true) ∧ Below w.heap.size w w' := by
  obtain ⟨x, y, cc, ka, kl, kc, tt, uu, rfl⟩ := ho
  obtain ⟨p, L, c, rfl, hp, hpl, hpn, hlm, hsz⟩ := hv
  unfold maxLen at hlm
  have hHD : ∀ V : World, V.heap[w.heap.size]? = some (.cells #[.int .i64 x, .int .i64 y, .int .u8 (cc.toNat : Int), .slice ka kl kc, .int .i64 tt, .int .i64 uu] 80 (0, 0)) → (V.cell? ⟨w.heap.size, 1, none⟩ = some (.int .i64 y) ∧ V.cell? ⟨w.heap.size, 2, none⟩ = some (.int .u8 (cc.toNat : Int)) ∧ V.cell? ⟨w.heap.size, 3, none⟩ = some (.slice ka kl kc)) ∧ V.cell? ⟨w.heap.size, 4, none⟩ = some (.int .i64 tt) ∧ V.cell? ⟨w.heap.size, 5, none⟩ = some (.int .i64 uu) := fun V h => ⟨⟨by rw [cell_of_row _ _ _ _ _ _ h]; rfl, by rw [cell_of_row _ _ _ _ _ _ h]; rfl, by rw [cell_of_row _ _ _ _ _ _ h]; rfl⟩, by rw [cell_of_row _ _ _ _ _ _ h]; rfl, by rw [cell_of_row _ _ _ _ _ _ h]; rfl⟩
  have HD := hid hHD; clear hHD
  have HP := hid hp; have HPL := hid hpl; have HPN := hid hpn; have HSZ := hid hsz; clear hp hpl hpn hsz
  obtain ⟨V, hV⟩ : ∃ V, w.alloc (.cells #[.int .i64 x, .int .i64 y, .int .u8 (cc.toNat : Int), .slice ka kl kc, .int .i64 tt, .int .i64 uu] 80 (0, 0)) = V := ⟨_, rfl⟩
  have HB := hid (hV ▸ ballocS w (.cells #[.int .i64 x, .int .i64 y, .int .u8 (cc.toNat : Int), .slice ka kl kc, .int .i64 tt, .int .i64 uu] 80 (0, 0)))
  have HBX := hid (hV ▸ heap_alloc_new w (.cells #[.int .i64 x, .int .i64 y, .int .u8 (cc.toNat : Int), .slice ka kl kc, .int .i64 tt, .int .i64 uu] 80 (0, 0)))
  have HBL := hid (show w.heap.size < V.heap.size by rw [← hV]; simp)
  obtain ⟨⟨b1, b2, b3⟩, b4, b5⟩ := HD.out _ HBX.out
  by_cases hgo : L.length ≤ 30 ∧ kl ≤ 60
  · obtain ⟨g1, g2⟩ := hgo
    have e1 : decide ((30 : Int) < (L.length : Int)) = false := by simp; omega
    have e2 : decide ((60 : Int) < (kl : Int)) = false := by simp; omega
    go_enter Try.func9, Try.ntmps9
    go_wp2_with fail
    clear e1 e2
    go_loopw [5] (fun i wr => ∃ k : Nat, k ≤ L.length ∧ i = .int .i64 k ∧ (∀ t ∈ L.take k, t.size ≤ 300) ∧ V = wr) (fun i _ => L.length - (intOf i).toNat)
    case atStart => exact ⟨0, by omega, rfl, fun t ht => absurd ht (by simp), rfl⟩
    case round =>
      obtain ⟨k, hk, rfl, hall, rfl⟩ := hrel
      have HA := hid hall; clear hall
      by_cases hlt : k < L.length
      · obtain ⟨b, off, rfl, hc⟩ := HP.out k (by rw [sv_length]; exact hlt)
        have hbw := HPL.out b off rfl (by omega)
        have hc1 : V.cell? ⟨b, off + k, none⟩ = some (.string L[k]) := by rw [HB.out.cell (p := ⟨b, off + k, none⟩) hbw]; have := hc; simp [sv] at this; exact this
        have HMORE := hid fun (h : L[k].size ≤ 300) => take_all hlt HA.out h
        have hsz := HSZ.out _ (List.getElem_mem hlt)
        unfold maxLen at hsz
        clear hc
        by_cases hn : L[k].size ≤ 300
        · have HA2 := hid (HMORE.out hn)
          clear HMORE
          generalize L[k] = t at hc1 hn hsz
          have e3 : decide ((300 : Int) < (t.size : Int)) = false := by simp; omega
          clear hn
          go_wp2_with fail
          go_roundw
          case rel => exact ⟨k + 1, by omega, by go_num, HA2.out, by first | rfl | trivial⟩
          case measure => simp [intOf]; omega
        · clear HMORE
          generalize L[k] = t at hc1 hn hsz
          have e3 : decide ((300 : Int) < (t.size : Int)) = true := by simp; omega
          clear hn
          go_wp2_with (go_at_call 39; refine (live_any _).mono ?_; rintro e w9 ⟨rfl, hb⟩; replace HB := hid (HB.out.trans (hb.mono HB.out.size)); clear hb)
          go_ret
          exact ⟨rfl, HB.out⟩
      · obtain rfl : k = L.length := by omega
        have HSM : Hid (∀ t ∈ L, t.size ≤ 300) := hid (by have := HA.out; rwa [List.take_length] at this)
        have HSM2 : Hid (∀ t ∈ L, t.size ≤ 100000) := hid fun t ht => Nat.le_trans (HSM.out t ht) (by decide)
        clear HA hlt hk
        go_wp2_with (first
          | (go_at_call 43; refine (read_nil y _).mono ?_; rintro e w1 ⟨rfl, hb⟩; replace HBX := hid ((hb.block _ HBL.out).trans HBX.out); replace HB := hid (HB.out.trans (hb.mono HB.out.size)); clear hb b1 b2 b3 b4 b5; obtain ⟨⟨b1, b2, b3⟩, b4, b5⟩ := HD.out _ HBX.out)
          | (go_at_call 47; refine (fuse_nil y _).mono ?_; rintro e w' ⟨rfl, rfl⟩)
          | (go_at_call 50; refine (counts_nil _).mono ?_; rintro e w' ⟨rfl, rfl⟩))
        replace HBL := hid (show w.heap.size < w1.drew.heap.size from (Array.getElem?_eq_some_iff.1 HBX.out).1)
        replace HB := hid HB.out.drew
        replace HBX := hid (show w1.drew.heap[w.heap.size]? = _ from HBX.out)
        go_region_held3 (fun w' => (w'.cell? ⟨w.heap.size, 1, none⟩ = some (.int .i64 y) ∧ w'.cell? ⟨w.heap.size, 2, none⟩ = some (.int .u8 (cc.toNat : Int)) ∧ w'.cell? ⟨w.heap.size, 3, none⟩ = some (.slice ka kl kc)) ∧ w'.cell? ⟨w.heap.size, 4, none⟩ = some (.int .i64 tt) ∧ w'.cell? ⟨w.heap.size, 5, none⟩ = some (.int .i64 uu)) (first | exact ⟨⟨b1, b2, b3⟩, b4, b5⟩ | exact x5 | go_keep)
          (first
            | (go_at_call 41; refine (filled_ok cc _).mono ?_; rintro e w5 ⟨rfl, hb⟩; replace HBX := hid ((hb.block _ HBL.out).trans HBX.out); replace HB := hid (HB.out.trans (hb.mono HB.out.size)); clear hb; have x5 := HD.out _ HBX.out)
            | (go_at_call 40; refine (write_nil y (filledB cc) _).mono ?_; rintro e w' ⟨rfl, rfl⟩)
            | (go_at_call 45; refine (flush_nil _).mono ?_; rintro e w' ⟨rfl, rfl⟩)
            | (go_at_call 48; refine (crash_nil _ tt uu _).mono ?_; rintro e w' ⟨rfl, rfl⟩)
            | (go_at_call 52; refine (image_nil _).mono ?_; rintro e w' ⟨rfl, rfl⟩)
            | (go_at_call 54; refine (waits_nil _).mono ?_; rintro e w' ⟨rfl, rfl⟩)
            | (go_at_call 56; refine (size_nil _).mono ?_; rintro e w' ⟨rfl, rfl⟩)
            | fail)
        clear b1 b2 b3 b4 b5 x5
        go_wp2_with fail
        have HPB := hid fun (X : World) (hb : Below w.heap.size w X) => (show CellsAt X p (sv L) from fun j hj => by
          obtain ⟨b, off, e, hc⟩ := HP.out j hj
          exact ⟨b, off, e, (hb.cell (p := ⟨b, off + j, none⟩) (HPL.out b off e (by rw [sv_length] at hj; omega))).trans hc⟩)
        by_cases h0 : L.length = 0
        · obtain rfl : L = [] := List.length_eq_zero_iff.1 h0
          refine (of_few (.slice p 0 c) 0 c _ ?_ (Or.inl (by decide)) (by unfold maxLen; omega)).mono ?_
          · cases p with
            | none => left; exact ⟨by rw [(HPN.out rfl).2], rfl⟩
            | some a => right; exact ⟨a, rfl⟩
          rintro e w' ⟨rfl, rfl⟩
          go_wp2_with (first
            | (go_at_call 58; refine (refOf_few p c _).mono ?_; rintro e w' ⟨rfl, rfl⟩)
            | (go_at_call 39; refine (live_any _).mono ?_; rintro e w9 ⟨rfl, hb⟩; replace HB := hid (HB.out.trans (hb.mono HB.out.size)); clear hb))
          go_ret
          exact ⟨rfl, HB.out⟩
        · obtain ⟨b, off, hpe, hx0⟩ := HP.out 0 (by rw [sv_length]; omega)
          clear hx0
          subst hpe
          have hbw := HPL.out b off rfl (by omega)
          have HCL := hid fun (X : World) (hb : Below w.heap.size w X) => (show ∀ j, j < L.length → X.cell? ⟨b, off + j, none⟩ = some (.string (L.getD j ByteArray.empty)) from fun j hj => by
            obtain ⟨b', off', e, hc⟩ := HPB.out X hb j (by rw [sv_length]; exact hj)
            cases e
            rw [hc]; simp [sv, hj, List.getD])
          have HRO := hid fun (X : World) (hb : Below w.heap.size w X) => refOf_ok L (some ⟨b, off, none⟩) c X (by omega) (by omega) HSM2.out (HPB.out X hb) (fun b' off' e => by cases e; exact Nat.lt_of_lt_of_le hbw hb.size)
          have HL1 : Hid (1 ≤ L.length ∧ L.length ≤ 1000) := hid (by omega)
          by_cases hok : imgOk L = true
          · have H256 : Hid (∀ t ∈ L, t.size = 256) := hid fun t ht => by
              unfold imgOk at hok
              rw [List.all_eq_true] at hok
              simpa using hok t ht
            rw [hok] at HRO
            have HTX := hid fun (X : World) (p1 : Option Addr) (c1 : Nat) (h1 : CellsAt X p1 (sv L)) (h2 : CellsAt X (some ⟨b, off, none⟩) (sv L)) => texts_ok L L p1 (some ⟨b, off, none⟩) c1 c X h1 h2 (by omega)
            have HDE : Hid (decide (L = L) = true) := hid (by simp)
            rw [HDE.out] at HTX
            clear hok hbw h0
            refine (of_ok b off L.length c L _ rfl HL1.out.1 HL1.out.2 H256.out (HCL.out _ HB.out)).mono ?_
            rintro e w6 ⟨d, rfl, hd, hb, hf⟩
            have HL : Hid (Lv w w6 d.D (newS L)) := hid ⟨⟨d, rfl, hd, fun k hk => Nat.le_trans HB.out.size (hf k hk)⟩, HB.out.trans (hb.mono HB.out.size)⟩
            clear hd hb hf HB
            go_wp2_with fail
            refine (HRO.out _ HL.out.below).mono ?_
            rintro e w7 ⟨hb, hres⟩
            rcases hres with ⟨_, D', rfl⟩ | ⟨h, _⟩
            · have HL2 := hid (HL.out.next hb); clear hb HL
              go_wp2_with fail
              refine (lv_image HL2.out).mono ?_
              rintro e w8 ⟨g, cap, rfl, _, hg2, hg3, hb⟩
              have HL3 := hid (HL2.out.next hb)
              have HI : Hid (CellsAt w8 (some ⟨g, 0, none⟩) (sv L)) := hid fun j hj => ⟨g, 0, rfl, by
                rw [sv_length] at hj
                rw [Nat.zero_add, hg3 j hj]
                simp [sv, newS]⟩
              clear hb hg2 hg3 HL2
              go_wp2_with fail
              refine (HTX.out _ _ _ HI.out (HPB.out _ HL3.out.below)).mono ?_
              rintro e w9 ⟨rfl, n9, rfl⟩
              have HL4 := hid (HL3.out.drewN n9); clear HL3
              go_wp2_with fail
              refine (live_any _).mono ?_
              rintro e wa ⟨rfl, hb⟩
              have HE := hid (HL4.out.next hb); clear hb
              go_wp2_with fail
              go_ret
              exact ⟨rfl, HE.out.below⟩
            · cases h
          · have HBD : Hid (∃ t ∈ L, t.size ≠ 256) := hid (by
              have h2 : imgOk L = false := by simpa using hok
              unfold imgOk at h2
              rw [List.all_eq_false] at h2
              obtain ⟨t, ht, h3⟩ := h2
              exact ⟨t, ht, by simpa using h3⟩)
            have hok2 : imgOk L = false := by simpa using hok
            rw [hok2] at HRO
            clear hok hok2 hbw h0
            refine (of_bad b off L.length c L _ rfl HL1.out.1 HL1.out.2 HBD.out (HCL.out _ HB.out)).mono ?_
            rintro e w6 ⟨rfl, hb⟩
            replace HB := hid (HB.out.trans (hb.mono HB.out.size)); clear hb
            go_wp2_with fail
            refine (HRO.out _ HB.out).mono ?_
            rintro e w7 ⟨hb, hres⟩
            rcases hres with ⟨h, _⟩ | ⟨_, rfl⟩
            · cases h
            · replace HB := hid (HB.out.trans (hb.mono HB.out.size)); clear hb
              go_wp2_with (go_at_call 39; refine (live_any _).mono ?_; rintro e w9 ⟨rfl, hb⟩; replace HB := hid (HB.out.trans (hb.mono HB.out.size)); clear hb)
              go_ret
              exact ⟨rfl, HB.out⟩
  · have HGO := hid hgo
    clear hgo
    by_cases h1 : 30 < L.length
    · have e1 : decide ((30 : Int) < (L.length : Int)) = true := by simp; omega
      go_enter Try.func9, Try.ntmps9
      go_wp2_with (go_at_call 39; refine (live_any _).mono ?_; rintro e w9 ⟨rfl, hb⟩; replace HB := hid (HB.out.trans (hb.mono HB.out.size)); clear hb)
      go_ret
      exact ⟨rfl, HB.out⟩
    · have e1 : decide ((30 : Int) < (L.length : Int)) = false := by simp; omega
      have e2 : decide ((60 : Int) < (kl : Int)) = true := by simp; have := HGO.out; omega
      clear h1
      go_enter Try.func9, Try.ntmps9
      go_wp2_with (go_at_call 39; refine (live_any _).mono ?_; rintro e w9 ⟨rfl, hb⟩; replace HB := hid (HB.out.trans (hb.mono HB.out.size)); clear hb)
      go_ret
      exact ⟨rfl, HB.out⟩
end Go.Proofs.Ytlkejjclmamlaaa
