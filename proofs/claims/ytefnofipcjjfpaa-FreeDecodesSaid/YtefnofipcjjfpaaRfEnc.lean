/- The reference's Encode of free. -/
import Derived.Test.YtefnofipcjjfpaaRfSmall
namespace Go.Proofs.Ytefnofipcjjfpaa.Fr
open Go.RowKit
open Go.Lib (hid)

/-- bytes as cells -/
def byv (l : List UInt8) : List Value := l.map fun b => .int .u8 (b.toNat : Int)
theorem info5 : (Try.prog.info? 5).map (fun i => (i.zero, i.size, i.bytes)) = some (some (.int .u8 0), 1, 1) := by kernel_rfl
theorem enc_take (B : List Bool) (k : Nat) (h : k < nb B) : byv ((encB B).take k) ++ [.int .u8 (byteN B k : Int)] = byv ((encB B).take (k + 1)) := by
  have hl : k < (encB B).length := by rw [encB_length]; exact h
  rw [List.take_succ_eq_append_getElem hl, encB_at B k h]
  have hlt := byteN_lt B k
  have e : (UInt8.ofNat (byteN B k)).toNat = byteN B k := by simp; omega
  simp only [byv, List.map_append, List.map_cons, List.map_nil, e]
theorem own_string {w : World} {N t : Nat} {v : Value} {l : List UInt8} (h : w.ownsRow N 5 1 v t (byv l)) (ht : 0 < t) (hl : l.length = t) :
    ∃ g cap, v = .slice (some ⟨g, 0, none⟩) t cap ∧ (convert 54 9 (.slice (some ⟨g, 0, none⟩) t cap)).run Try.prog w = .ok (.string ⟨l.toArray⟩) w := by
  rcases h.2 with ⟨_, h0⟩ | ⟨g, cap, cur, rfl, h3, h4, h5, h6, h7, h8⟩
  · omega
  · refine ⟨g, cap, rfl, ?_⟩
    have hc := h.cells (g := g) rfl
    have := run_convert_bytes_back (P := Try.prog) w 54 9 5 ⟨g, 0, none⟩ cap l Try.underlying54 Try.underlying5 Try.underlying9 (fun j hj => by
      exact hc j _ (by simp [byv, hj]))
    rwa [hl] at this
set_option maxRecDepth 100000 in
set_option maxHeartbeats 2000000 in
theorem refEncode_ok (r : RPtrs) (B : List Bool) (w : World) (h : Rf w r B) :
    Calls Try.prog 10 #[.pointer (some ⟨r.M, 0, none⟩)] w fun e w' => e = .returned (.string ⟨(encB B).toArray⟩) ∧ Below w.heap.size w w' := by
  obtain ⟨i0, hi0, hz0, hz1, hz2⟩ := info_parts info5
  have h2 := h.n2
  have h1 := h.n1
  have hnb : nb B ≤ 125 := by unfold nb; omega
  have HNB : Hid (nb B = (B.length + 7) / 8) := hid rfl
  have H := hid h; clear h
  go_enter Try.func10, Try.ntmps10
  go_wp2_with fail
  go_loopw [3, 4] (fun v i wr => ∃ t : Nat, t ≤ nb B ∧ i = .int .i64 (8 * t : Nat) ∧ wr.ownsRow w.heap.size 5 1 v t (byv ((encB B).take t)) ∧ Below w.heap.size w wr) (fun _ i _ => 8 * nb B - (intOf i).toNat)
  case atStart => exact ⟨0, by omega, rfl, ⟨rfl, .inl ⟨rfl, rfl⟩⟩, Below.refl _ _⟩
  case round =>
    obtain ⟨t, ht, rfl, hown, hb⟩ := hrel
    have HO := hid hown; have HB := hid hb; clear hown hb
    have HR := hid (H.out.below HB.out)
    have c := HR.out.cells
    by_cases hlt : t < nb B
    · have hti : ((8 * t : Nat) : Int) < (B.length : Int) := by have := HNB.out; omega
      have ht8 : 8 * t ≤ 1000 := by omega
      obtain ⟨x, hx⟩ : ∃ x, 8 * t = x := ⟨_, rfl⟩
      rw [hx] at hti ht8 ⊢
      have HX := hid hx; clear hx
      go_wp2_with fail
      go_loopw [5, 6] (fun a b wq => ∃ q : Nat, q ≤ 8 ∧ b = .int .i64 q ∧ a = .int .u8 (wordN (fun j => bitAt B (8 * t + j)) q : Int) ∧ wq = wr) (fun _ b _ => 8 - (intOf b).toNat)
      case atStart => exact ⟨0, by omega, rfl, rfl, rfl⟩
      case round =>
        obtain ⟨q, hq, rfl, rfl, rfl⟩ := hrel
        by_cases hq8 : q < 8
        · obtain ⟨p, hp⟩ : ∃ p, x + q = p := ⟨_, rfl⟩
          have e1 : (x : Int) + (q : Int) = (p : Int) := by omega
          have hz := wordN_lt (fun j => bitAt B (8 * t + j)) q
          have hz2 : wordN (fun j => bitAt B (8 * t + j)) q < 128 := Nat.lt_of_lt_of_le hz (Nat.pow_le_pow_right (n := 2) (by omega) (show q ≤ 7 by omega))
          have HN : Hid (wordN (fun j => bitAt B (8 * t + j)) (q + 1) = 2 * wordN (fun j => bitAt B (8 * t + j)) q + (bitAt B p).toNat) := hid (by rw [← hp, ← HX.out]; rfl)
          generalize wordN (fun j => bitAt B (8 * t + j)) q = z at hz2 HN
          clear hz hp
          by_cases hpl : p < B.length
          · have cp := HR.out.page p hpl
            have e2 : decide ((p : Int) < (B.length : Int)) = true := by simpa using hpl
            cases hb : bitAt B p with
            | true =>
              rw [hb] at cp HN
              clear hb
              go_wp2_with fail
              go_roundw
              case rel => exact ⟨q + 1, by omega, by go_num, by rw [HN.out]; simp, trivial⟩
              case measure => simp [intOf]; omega
            | false =>
              rw [hb] at cp HN
              clear hb
              go_wp2_with fail
              go_roundw
              case rel => exact ⟨q + 1, by omega, by go_num, by rw [HN.out]; simp, trivial⟩
              case measure => simp [intOf]; omega
          · have e2 : decide (p < B.length) = false := by simpa using hpl
            rw [bitAt_out B p (by omega)] at HN
            clear hpl
            go_wp2_with fail
            go_roundw
            case rel => exact ⟨q + 1, by omega, by go_num, by rw [HN.out]; simp, trivial⟩
            case measure => simp [intOf]; omega
        · obtain rfl : q = 8 := by omega
          have hbt : wordN (fun j => bitAt B (8 * t + j)) 8 = byteN B t := rfl
          rw [hbt]
          have hmax : t + 1 ≤ maxLen := by unfold maxLen; omega
          have hby : (t + 1) * 1 ≤ 140737488355328 := by omega
          have HOWN := hid (HO.out.alloc (.cells #[.int .u8 (byteN B t : Int)] 5))
          have hbase : w.heap.size ≤ wr.heap.size := HB.out.size
          go_wp2_with (at_builtin; refine wpList_append_own _ rfl _ _ 54 rfl w.heap.size 5 i0 (.int .u8 0) 1 1 Try.underlying54 hi0 hz0 hz1 hz2 rfl (by decide) _ _ _ rfl HOWN.out ⟨wr.heap.size, 0, none⟩ 1 1 [.int .u8 (byteN B t : Int)] (by rfl) rfl ?c1 ?c2 ?c3 ?c4 ?c5 ?_)
          case c1 => exact World.news_of_block (cs := #[.int .u8 (byteN B t : Int)]) (t := 5) (fr := (0, 0)) (heap_alloc_new wr _)
          case c2 => simp [Value.oneCell']
          case c3 => exact hmax
          case c4 => exact hby
          case c5 => simp; omega
          intro v' w2 hown hgrow hiff
          have hB2 : Below w.heap.size w w2 := (HB.out.alloc hbase _).grown hgrow (by simp; omega) (fun j hj => (HOWN.out.lt j hj).1)
          have HB2 := hid hB2
          have HO2 : Hid (w2.ownsRow w.heap.size 5 1 v' (t + 1) (byv ((encB B).take (t + 1)))) := hid (by rw [← enc_take B t hlt]; exact hown)
          clear hown hgrow hiff hB2
          go_wp2_with fail
          go_roundw
          case rel => exact ⟨t + 1, by omega, by have := HX.out; go_num, HO2.out, HB2.out⟩
          case measure => have := HX.out; simp [intOf]; omega
    · obtain rfl : t = nb B := by omega
      have hge : (B.length : Int) ≤ ((8 * nb B : Nat) : Int) := by have := HNB.out; omega
      obtain ⟨g, cap, rfl, hs⟩ := own_string HO.out (by have := HNB.out; omega) (by rw [List.length_take, encB_length]; omega)
      rw [List.take_of_length_le (by rw [encB_length]; exact Nat.le_refl _)] at hs
      obtain ⟨x, hx⟩ : ∃ x, 8 * nb B = x := ⟨_, rfl⟩
      rw [hx] at hge ⊢
      clear hx
      go_wp2_with fail
      go_ret
      exact ⟨rfl, HB.out⟩
end Go.Proofs.Ytefnofipcjjfpaa.Fr
