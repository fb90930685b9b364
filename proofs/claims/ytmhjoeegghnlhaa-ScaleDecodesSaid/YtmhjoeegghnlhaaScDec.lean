/- Decode. -/
import Derived.Test.YtmhjoeegghnlhaaScMay2
import Derived.Test.YtmhjoeegghnlhaaScPut
namespace Go.Proofs.Ytmhjoeegghnlhaa.Sc
open Go.RowKit
open Go.Lib (hid)
open Go.Proofs.Ytmhjoeegghnlhaa.Ky Go.Proofs.Ytmhjoeegghnlhaa.Bk
open Go.Proofs.Ytmhjoeegghnlhaa

/-- one coordinate is read off the front -/
def rdR (s : ByteArray) : Option (List Nat × ByteArray) :=
  if h : 0 < s.size then
    if 1 + 4 * s[0].toNat ≤ s.size then some ((List.range s[0].toNat).map (rdF s (1 + 4 * s[0].toNat)), s.extract (1 + 4 * s[0].toNat) s.size) else none
  else none
def decN : Nat → ByteArray → Option (List (List Nat) × ByteArray)
  | 0, s => some ([], s)
  | n + 1, s => match rdR s with
    | none => none
    | some (l, r) => (decN n r).map fun x => (l :: x.1, x.2)
theorem rdF_fit (s : ByteArray) (E i : Nat) : rdF s E i < 4294967296 := by
  unfold rdF
  have h1 := Fd.num_lt (Fd.getAt (s.extract 0 E).data.toList (1 + 4 * i) 4)
  have h2 : (Fd.getAt (s.extract 0 E).data.toList (1 + 4 * i) 4).length ≤ 4 := List.length_take_le _ _
  have h3 := Nat.pow_le_pow_right (show 0 < 256 by omega) h2
  omega
def RdPost (s : ByteArray) (w : World) (e : Ending) (w' : World) : Prop :=
  match rdR s with
  | none => e = .returned (.tuple #[.slice none 0 0, .string ⟨#[]⟩, .bool false]) ∧ Below w.heap.size w w'
  | some (l, r) => e = .returned (.tuple #[.slice (some ⟨w.heap.size, 0, none⟩) l.length l.length, .string r, .bool true]) ∧ Own w' w.heap.size l ∧ Below w.heap.size w w' ∧ ((∀ x ∈ l, x < 4294967296) ∧ l.length ≤ 255) ∧ r.size ≤ s.size
theorem read_any (s : ByteArray) (w : World) (hms : s.size ≤ 9223372036854775807) : Calls Try.prog 55 #[.string s] w (RdPost s w) := by
  by_cases h0 : 0 < s.size
  · by_cases h1 : 1 + 4 * s[0].toNat ≤ s.size
    · have hr : rdR s = some ((List.range s[0].toNat).map (rdF s (1 + 4 * s[0].toNat)), s.extract (1 + 4 * s[0].toNat) s.size) := by unfold rdR; rw [dif_pos h0, if_pos h1]
      refine (read_yes s s[0].toNat _ w hms h0 rfl rfl h1).mono fun e w' hh => ?_
      unfold RdPost
      rw [hr]
      refine ⟨by rw [hh.1]; simp, hh.2.1, hh.2.2, ⟨fun x hx => ?_, by have := s[0].toNat_lt; simp; omega⟩, by rw [ByteArray.size_extract]; omega⟩
      obtain ⟨i, _, rfl⟩ := List.mem_map.1 hx
      exact rdF_fit _ _ _
    · have hr : rdR s = none := by unfold rdR; rw [dif_pos h0, if_neg h1]
      refine (read_cut s s[0].toNat w h0 rfl (by omega)).mono fun e w' hh => ?_
      unfold RdPost
      rw [hr]; exact hh
  · have hr : rdR s = none := by unfold rdR; rw [dif_neg h0]
    refine (read_none s w (by omega)).mono fun e w' hh => ?_
    unfold RdPost
    rw [hr]; exact hh
theorem all_range (got : List (List Nat)) (n : Nat) (hn : got.length = n) (f : List Nat → Bool) : ((List.range n).all fun j => f (got.getD j [])) = got.all f := by
  rw [Bool.eq_iff_iff, List.all_eq_true, List.all_eq_true]
  constructor
  · intro h x hx
    obtain ⟨j, hj, rfl⟩ := List.getElem_of_mem hx
    have := h j (List.mem_range.2 (by omega))
    rwa [List.getD_eq_getElem?_getD, List.getElem?_eq_getElem hj] at this
  · intro h j hj
    have hj := List.mem_range.1 hj
    rw [List.getD_eq_getElem?_getD, List.getElem?_eq_getElem (by omega)]
    exact h _ (List.getElem_mem _)
theorem own_row {N g : Nat} {w : World} {l : List Nat} (h : Own w g l) (hN : N ≤ g) (hl : l.length ≤ 255) : w.ownsRow N 30 1 (.slice (some ⟨g, 0, none⟩) l.length l.length) l.length (Ky.kl l) :=
  ⟨by simp [Ky.kl], .inr ⟨g, l.length, _, rfl, hN, h, Nat.le_refl _, by unfold maxLen; omega, by simp [Ky.kcs], by simp only [Ky.kl, Ky.kcs, Nat.mul_one]; exact List.take_of_length_le (by simp)⟩⟩
theorem grown_of {w w' : World} (h : Below w.heap.size w w') : w.grownBy w' none := ⟨h.os, h.tape, h.output, h.size, fun k hk _ => h.block k hk⟩
def DecPost (n : Nat) (s : ByteArray) (w : World) (e : Ending) (w' : World) : Prop :=
  Below w.heap.size w w' ∧ match decN n s with
  | none => e = .returned (.tuple #[.pointer none, .int .i64 9])
  | some (bs, r) => if r.size = 0 ∧ bs.all mayL = true then ∃ b R vs, e = .returned (.tuple #[.pointer (some ⟨b, 0, none⟩), .int .i64 0]) ∧ Sc w.heap.size w' b R vs bs else e = .returned (.tuple #[.pointer none, .int .i64 6])
/-- the loop's relation -/
def DeR (w : World) (b R g6 n : Nat) (s : ByteArray) (sv iv : Value) (wr : World) : Prop :=
  ∃ (i : Nat) (si : ByteArray) (got : List (List Nat)) (vs : List Value), sv = .string si ∧ iv = .int .i64 i ∧ i ≤ n ∧ got.length = i ∧ si.size ≤ 9223372036854775807 ∧ Sc w.heap.size wr b R vs (got ++ List.replicate (n - i) []) ∧ (∀ j, i ≤ j → j < n → vs[j]? = some (.slice none 0 0)) ∧
    wr.heap[g6]? = some (.cells #[.pointer (some ⟨b, 0, none⟩)] 23 (0, 0)) ∧ Below w.heap.size w wr ∧ decN n s = (decN (n - i) si).map fun x => (got ++ x.1, x.2)
theorem DeR.step {w wr w2 : World} {b R g6 n i : Nat} {s si r : ByteArray} {l : List Nat} {got : List (List Nat)} {vs : List Value} (hin : i < n) (hgl : got.length = i) (hsi : si.size ≤ 9223372036854775807) (hs : Sc w.heap.size wr b R vs (got ++ List.replicate (n - i) [])) (hnil : ∀ j, i ≤ j → j < n → vs[j]? = some (.slice none 0 0))
    (h6 : wr.heap[g6]? = some (.cells #[.pointer (some ⟨b, 0, none⟩)] 23 (0, 0))) (hb : Below w.heap.size w wr) (hd : decN n s = (decN (n - i) si).map fun x => (got ++ x.1, x.2)) (hr : rdR si = some (l, r)) (ho : Own w2 wr.heap.size l) (hb2 : Below wr.heap.size wr w2) (hf : (∀ x ∈ l, x < 4294967296) ∧ l.length ≤ 255) (hrs : r.size ≤ si.size) (hR : w.heap.size ≤ R) (h6R : g6 ≠ R) :
    DeR w b R g6 n s (.string r) (.int .i64 ((i + 1 : Nat) : Int)) (w2.setCell ⟨R, i, none⟩ (.slice (some ⟨wr.heap.size, 0, none⟩) l.length l.length)) := by
  have hbi : (got ++ List.replicate (n - i) ([] : List Nat))[i]? = some [] := by
    rw [List.getElem?_append_right (by omega), hgl, Nat.sub_self, List.getElem?_replicate, if_pos (by omega)]
  have hp := (hs.put (Below.refl _ _) (grown_of hb2) (hnil i (Nat.le_refl _) hin) hbi (own_row ho hb.size hf.2) (.inr rfl) hf).1
  have he : (got ++ List.replicate (n - i) ([] : List Nat)).set i l = (got ++ [l]) ++ List.replicate (n - (i + 1)) [] := by
    rw [List.set_append_right _ _ (by omega), hgl, Nat.sub_self, show n - i = (n - (i + 1)) + 1 by omega, List.replicate_succ, List.set_cons_zero, List.append_assoc]; rfl
  rw [he] at hp
  refine ⟨i + 1, r, got ++ [l], _, rfl, rfl, hin, by simp [hgl], by omega, hp, fun j h1 h2 => ?_, ?_, (hb.trans (hb2.mono hb.size)).setCell (p := ⟨R, i, none⟩) hR _, ?_⟩
  · rw [List.getElem?_set_ne (by omega)]; exact hnil j (by omega) h2
  · rw [Below.heap_setCell _ ⟨R, i, none⟩ _ _ h6R, hb2.block _ (lt_of h6)]; exact h6
  · rw [hd, show n - i = (n - (i + 1)) + 1 by omega, decN, hr, Option.map_map]
    congr 1
    funext x
    simp
set_option maxRecDepth 100000 in
set_option maxHeartbeats 4000000 in
theorem decode_ok (n : Nat) (s : ByteArray) (w : World) (hn : 1 ≤ n ∧ n ≤ 6) (hms : s.size ≤ 9223372036854775807) :
    Calls Try.prog 30 #[.int .i64 (n : Int), .string s] w (DecPost n s w) := by
  have HNW := hid (new_ok n w hn)
  have HS0 := hid (sc_new n w w.heap.size (Nat.le_refl _) hn)
  have HB0 := hid (show Below w.heap.size w ((w.alloc (.cells (List.replicate n (Value.slice none 0 0)).toArray 31)).alloc (.cells #[.slice (some ⟨w.heap.size, 0, none⟩) n n] 71)) from (below_alloc _ _).alloc (below_alloc _ _).size _)
  have HD := hid hn
  have HMS := hid hms
  clear hn hms
  go_enter Try.func30, Try.ntmps30
  go_wp2_with fail
  refine HNW.out.mono ?_
  rintro e w1 ⟨rfl, hw1⟩
  rw [← hw1] at HS0 HB0
  clear hw1 HNW
  obtain ⟨V, hV⟩ : ∃ V, w1.alloc (.cells #[.pointer (some ⟨w.heap.size + 1, 0, none⟩)] 23) = V := ⟨_, rfl⟩
  have HX := hid (show Sc w.heap.size V (w.heap.size + 1) w.heap.size (List.replicate n (.slice none 0 0)) (List.replicate n []) ∧ V.heap[w1.heap.size]? = some (.cells #[.pointer (some ⟨w.heap.size + 1, 0, none⟩)] 23 (0, 0)) ∧ Below w.heap.size w V by
    rw [← hV]; exact ⟨HS0.out.next (below_alloc _ _), heap_alloc_new _ _, HB0.out.alloc HB0.out.size _⟩)
  have H6 := hid (show w1.heap.size ≠ w.heap.size by have := HS0.out.ltR; omega)
  have c0 := HX.out.1.cell.1
  rw [List.length_replicate] at c0
  have y0 : V.cell? ⟨w1.heap.size, 0, none⟩ = some (.pointer (some ⟨w.heap.size + 1, 0, none⟩)) := by rw [cell_of_row _ _ _ _ _ _ HX.out.2.1]; rfl
  go_wp2_with fail
  clear hV y0 c0 HS0 HB0
  generalize w1.heap.size = g6 at *
  generalize w.heap.size + 1 = b at *
  go_loopw [1, 25] (fun sv iv wr => DeR w b w.heap.size g6 n s sv iv wr) (fun _ iv _ => n - (intOf iv).toNat)
  case atStart => exact ⟨0, s, [], _, rfl, rfl, Nat.zero_le _, rfl, HMS.out, HX.out.1, fun j _ hj => by rw [List.getElem?_replicate, if_pos hj], HX.out.2.1, HX.out.2.2, by simp⟩
  case round =>
    obtain ⟨i, si, got, vs, rfl, rfl, hi, hgl, hsi, hs, hnil, h6, hb, hd⟩ := hrel
    have HGL := hid hgl; have HSI := hid hsi; have HS := hid hs; have HNI := hid hnil; have H6C := hid h6; have HB := hid hb; have HDD := hid hd
    have y0 : wr.cell? ⟨g6, 0, none⟩ = some (.pointer (some ⟨b, 0, none⟩)) := by rw [cell_of_row _ _ _ _ _ _ h6]; rfl
    have hlen : (got ++ List.replicate (n - i) ([] : List Nat)).length = n := by simp; omega
    have HLN := hid hlen
    clear hgl hnil h6 hd hs
    by_cases hlt : i < n
    · have e1 : decide ((i : Int) < (n : Int)) = true := by simpa using hlt
      have e1' : decide (i < n) = true := by simpa using hlt
      have HI := hid hlt
      have hd6 := HD.out
      have s1 : IntKind.i64.wrap ((i : Int) + 1) = ((i + 1 : Nat) : Int) := Go.IntWalk.i64_in _ (by omega)
      have q1 : (0 : Int) ≤ (i : Int) := by omega
      have q2 : (i : Int) < (n : Int) := by omega
      have HRD := hid (read_any si wr hsi)
      unfold RdPost at HRD
      cases hr : rdR si with
      | none =>
        rw [hr] at HRD
        have HN := hid (show decN n s = none by rw [HDD.out, show n - i = (n - (i + 1)) + 1 by omega, decN, hr]; rfl)
        clear hr hi hlt hb hsi hlen y0
        go_wp2_with fail
        refine HRD.out.mono ?_
        rintro e w2 ⟨rfl, hb2⟩
        have HB2 := hid (HB.out.trans (hb2.mono HB.out.size))
        clear hb2
        go_wp2_with fail
        go_ret2
        exact ⟨HB2.out, by rw [HN.out]; rfl⟩
      | some lr =>
        obtain ⟨l, r⟩ := lr
        rw [hr] at HRD
        have HR := hid hr
        clear hr hi hlt hb hsi hlen y0
        go_wp2_with fail
        refine HRD.out.mono ?_
        rintro e w2 ⟨rfl, ho, hb2, hf, hrs⟩
        have HSt := hid (DeR.step HI.out HGL.out HSI.out HS.out HNI.out H6C.out HB.out HDD.out HR.out ho hb2 hf hrs (Nat.le_refl _) H6.out.symm.symm)
        have hS2 := HS.out.next hb2
        have c0 := hS2.cell.1
        rw [HLN.out] at c0
        have y0 : w2.cell? ⟨g6, 0, none⟩ = some (.pointer (some ⟨b, 0, none⟩)) := by rw [cell_of_row _ _ _ _ _ _ ((hb2.block _ (lt_of H6C.out)).trans H6C.out)]; rfl
        obtain ⟨l0, hl0⟩ : ∃ l0, (got ++ List.replicate (n - i) ([] : List Nat))[i]? = some l0 := ⟨_, List.getElem?_eq_getElem (by have := HLN.out; have := HI.out; omega)⟩
        obtain ⟨v, p, c, hv, hvp, hcl, hfr, _⟩ := hS2.at hl0
        clear ho hb2 hf hrs hS2 hl0 hv
        go_wp2_with fail
        go_roundw
        case rel => exact HSt.out
        case measure => simp [intOf]; have := HI.out; omega
    · obtain rfl : i = n := by omega
      have e1 : decide ((i : Int) < (i : Int)) = false := by simp
      have e1' : decide (i < i) = false := by simp
      have HE := hid (show decN i s = some (got, si) by rw [HDD.out, Nat.sub_self]; simp [decN])
      have HGS := hid (show Sc w.heap.size wr b w.heap.size vs got by have := HS.out; rwa [Nat.sub_self, List.replicate_zero, List.append_nil] at this)
      have HAL := hid (allDec_ok i (fun j => mayL (got.getD j [])) (.pointer (some ⟨g6, 0, none⟩)) wr (by have := HD.out; omega) fun V j hV hj => dec1_ok w.heap.size b w.heap.size vs got g6 i j V (HGS.out.next hV) HGL.out hj (by rw [cell_of_row _ _ _ _ _ _ ((hV.block _ (lt_of H6C.out)).trans H6C.out)]; rfl))
      rw [all_range got i HGL.out] at HAL
      by_cases hz : si.toList = []
      · have hs0 : si = ⟨#[]⟩ := ByteArray.ext (by rw [Go.ByteArray.toList_eq] at hz; exact Array.toList_eq_nil_iff.1 hz)
        have HZ := hid (show si.size = 0 by rw [hs0]; rfl)
        clear hlt hi hb hsi hlen
        cases hal : got.all mayL with
        | false =>
          rw [hal] at HAL
          have HP := hid (show ¬ (si.size = 0 ∧ got.all mayL = true) from fun h => by rw [hal] at h; exact absurd h.2 (by simp))
          clear hal
          go_wp2_with fail
          refine HAL.out.mono ?_
          rintro e w2 ⟨rfl, hb2⟩
          have HB2 := hid (HB.out.trans (hb2.mono HB.out.size))
          clear hb2
          go_wp2_with fail
          go_ret2
          exact ⟨HB2.out, by rw [HE.out]; show (if _ then _ else _); rw [if_neg HP.out]; rfl⟩
        | true =>
          rw [hal] at HAL
          have HP := hid (And.intro HZ.out hal)
          clear hal
          go_wp2_with fail
          refine HAL.out.mono ?_
          rintro e w2 ⟨rfl, hb2⟩
          have HB2 := hid (HB.out.trans (hb2.mono HB.out.size))
          have HS2 := hid (HGS.out.next hb2)
          have y9 : w2.cell? ⟨g6, 0, none⟩ = some (.pointer (some ⟨b, 0, none⟩)) := by rw [cell_of_row _ _ _ _ _ _ ((hb2.block _ (lt_of H6C.out)).trans H6C.out)]; rfl
          clear hb2
          go_wp2_with fail
          go_ret2
          exact ⟨HB2.out, by rw [HE.out]; show (if _ then _ else _); rw [if_pos HP.out]; exact ⟨b, w.heap.size, vs, rfl, HS2.out⟩⟩
      · have hs0 : ¬ si = ⟨#[]⟩ := fun h => hz (by rw [Go.ByteArray.toList_eq, h])
        have HP := hid (show ¬ (si.size = 0 ∧ got.all mayL = true) from fun h => hs0 (ByteArray.ext (Array.eq_empty_of_size_eq_zero h.1)))
        clear hlt hi hb hsi hlen hs0
        go_wp2_with fail
        go_ret2
        exact ⟨HB.out, by rw [HE.out]; show (if _ then _ else _); rw [if_neg HP.out]; rfl⟩
end Go.Proofs.Ytmhjoeegghnlhaa.Sc
