/- RequestChecks, walked. -/
import Derived.Test.YtolnbamdddiifaaRqLawB
namespace Go.Proofs.Ytolnbamdddiifaa.Rq
open Go.RowKit
open Go.Lib (hid)
open Go.Proofs.Ytolnbamdddiifaa.Ky
open Go.Proofs.Ytolnbamdddiifaa.Bk
theorem part_len (d : Int) (a : List Int) (k : List Nat) : (partLo d a k).length ≤ 1000000 ∧ (partHi d a k).length ≤ 1000000 := by
  cases h : partOk d a k with
  | false => simp [partLo, partHi, h]
  | true =>
    have hd : 1 ≤ d ∧ d ≤ 6 := by unfold partOk at h; simp at h; omega
    simp only [partLo, partHi, h, if_true, puts_length, lowW, highW, List.length_replicate]
    omega
theorem box_len {r : Rq} {w : World} (h : r.At w) (d : Int) : (r.bLo d).length ≤ 1000000 ∧ (r.bHi d).length ≤ 1000000 := by
  have := part_len d r.at_ r.kl
  have := h.nl
  have := h.nh
  unfold Rq.bLo Rq.bHi
  constructor <;> (split <;> (try split) <;> first | omega | simp)
set_option maxRecDepth 100000 in
set_option maxHeartbeats 8000000 in
theorem checks_big (r : Rq) (d : Int) (op ins : Bool) (w : World) (h : r.Raw w) (hs : r.small = false) : Calls Try.prog 3 #[.agg (r.cells ++ #[Value.int .i64 d, .bool op, .bool ins])] w fun e w' => e = .returned (.bool true) ∧ Below w.heap.size w w' := by
  have HSM := hid fun (V : World) (hV : Below w.heap.size w V) => small_ok r V (h.below hV)
  obtain ⟨what, kp, kl, kc, data, lp, lo, lc, hp, hi, hc, ap, at_, ac, most, rp, rs, rc⟩ := r
  dsimp only [Rq.cells] at *
  have hx := heap_alloc_new w (.cells #[.int .i64 what, .slice kp kl.length kc, .string data, .slice lp lo.length lc, .slice hp hi.length hc, .slice ap at_.length ac, .int .i64 most, .slice rp rs.length rc, .int .i64 d, .bool op, .bool ins] 31)
  have u8 : (w.alloc (.cells #[.int .i64 what, .slice kp kl.length kc, .string data, .slice lp lo.length lc, .slice hp hi.length hc, .slice ap at_.length ac, .int .i64 most, .slice rp rs.length rc, .int .i64 d, .bool op, .bool ins] 31)).cell? ⟨w.heap.size, 8, none⟩ = some (.int .i64 d) := by rw [cell_of_row _ _ _ _ _ _ hx]; rfl
  have u9 : (w.alloc (.cells #[.int .i64 what, .slice kp kl.length kc, .string data, .slice lp lo.length lc, .slice hp hi.length hc, .slice ap at_.length ac, .int .i64 most, .slice rp rs.length rc, .int .i64 d, .bool op, .bool ins] 31)).cell? ⟨w.heap.size, 9, none⟩ = some (.bool op) := by rw [cell_of_row _ _ _ _ _ _ hx]; rfl
  have u10 : (w.alloc (.cells #[.int .i64 what, .slice kp kl.length kc, .string data, .slice lp lo.length lc, .slice hp hi.length hc, .slice ap at_.length ac, .int .i64 most, .slice rp rs.length rc, .int .i64 d, .bool op, .bool ins] 31)).cell? ⟨w.heap.size, 10, none⟩ = some (.bool ins) := by rw [cell_of_row _ _ _ _ _ _ hx]; rfl
  have u0 : (w.alloc (.cells #[.int .i64 what, .slice kp kl.length kc, .string data, .slice lp lo.length lc, .slice hp hi.length hc, .slice ap at_.length ac, .int .i64 most, .slice rp rs.length rc, .int .i64 d, .bool op, .bool ins] 31)).cell? ⟨w.heap.size, 0, none⟩ = some (.int .i64 what) := by rw [cell_of_row _ _ _ _ _ _ hx]; rfl
  have u1 : (w.alloc (.cells #[.int .i64 what, .slice kp kl.length kc, .string data, .slice lp lo.length lc, .slice hp hi.length hc, .slice ap at_.length ac, .int .i64 most, .slice rp rs.length rc, .int .i64 d, .bool op, .bool ins] 31)).cell? ⟨w.heap.size, 1, none⟩ = some (.slice kp kl.length kc) := by rw [cell_of_row _ _ _ _ _ _ hx]; rfl
  have u2 : (w.alloc (.cells #[.int .i64 what, .slice kp kl.length kc, .string data, .slice lp lo.length lc, .slice hp hi.length hc, .slice ap at_.length ac, .int .i64 most, .slice rp rs.length rc, .int .i64 d, .bool op, .bool ins] 31)).cell? ⟨w.heap.size, 2, none⟩ = some (.string data) := by rw [cell_of_row _ _ _ _ _ _ hx]; rfl
  have u3 : (w.alloc (.cells #[.int .i64 what, .slice kp kl.length kc, .string data, .slice lp lo.length lc, .slice hp hi.length hc, .slice ap at_.length ac, .int .i64 most, .slice rp rs.length rc, .int .i64 d, .bool op, .bool ins] 31)).cell? ⟨w.heap.size, 3, none⟩ = some (.slice lp lo.length lc) := by rw [cell_of_row _ _ _ _ _ _ hx]; rfl
  have u4 : (w.alloc (.cells #[.int .i64 what, .slice kp kl.length kc, .string data, .slice lp lo.length lc, .slice hp hi.length hc, .slice ap at_.length ac, .int .i64 most, .slice rp rs.length rc, .int .i64 d, .bool op, .bool ins] 31)).cell? ⟨w.heap.size, 4, none⟩ = some (.slice hp hi.length hc) := by rw [cell_of_row _ _ _ _ _ _ hx]; rfl
  have u5 : (w.alloc (.cells #[.int .i64 what, .slice kp kl.length kc, .string data, .slice lp lo.length lc, .slice hp hi.length hc, .slice ap at_.length ac, .int .i64 most, .slice rp rs.length rc, .int .i64 d, .bool op, .bool ins] 31)).cell? ⟨w.heap.size, 5, none⟩ = some (.slice ap at_.length ac) := by rw [cell_of_row _ _ _ _ _ _ hx]; rfl
  have u6 : (w.alloc (.cells #[.int .i64 what, .slice kp kl.length kc, .string data, .slice lp lo.length lc, .slice hp hi.length hc, .slice ap at_.length ac, .int .i64 most, .slice rp rs.length rc, .int .i64 d, .bool op, .bool ins] 31)).cell? ⟨w.heap.size, 6, none⟩ = some (.int .i64 most) := by rw [cell_of_row _ _ _ _ _ _ hx]; rfl
  have u7 : (w.alloc (.cells #[.int .i64 what, .slice kp kl.length kc, .string data, .slice lp lo.length lc, .slice hp hi.length hc, .slice ap at_.length ac, .int .i64 most, .slice rp rs.length rc, .int .i64 d, .bool op, .bool ins] 31)).cell? ⟨w.heap.size, 7, none⟩ = some (.slice rp rs.length rc) := by rw [cell_of_row _ _ _ _ _ _ hx]; rfl
  have HB0 := hid (show Below w.heap.size w (((w.alloc (.cells #[.int .i64 what, .slice kp kl.length kc, .string data, .slice lp lo.length lc, .slice hp hi.length hc, .slice ap at_.length ac, .int .i64 most, .slice rp rs.length rc, .int .i64 d, .bool op, .bool ins] 31)).alloc (.cells #[.int .i64 what, .slice kp kl.length kc, .string data, .slice lp lo.length lc, .slice hp hi.length hc, .slice ap at_.length ac, .int .i64 most, .slice rp rs.length rc] 29)).drew) from ((below_alloc w _).alloc (below_alloc w _).size _).drew)
  have HX0 := hid (show Rc8 (((w.alloc (.cells #[.int .i64 what, .slice kp kl.length kc, .string data, .slice lp lo.length lc, .slice hp hi.length hc, .slice ap at_.length ac, .int .i64 most, .slice rp rs.length rc, .int .i64 d, .bool op, .bool ins] 31)).alloc (.cells #[.int .i64 what, .slice kp kl.length kc, .string data, .slice lp lo.length lc, .slice hp hi.length hc, .slice ap at_.length ac, .int .i64 most, .slice rp rs.length rc] 29)).drew) (w.heap.size + 1) ⟨what, kp, kl, kc, data, lp, lo, lc, hp, hi, hc, ap, at_, ac, most, rp, rs, rc⟩ from ⟨by have h := heap_alloc_new (w.alloc (.cells #[.int .i64 what, .slice kp kl.length kc, .string data, .slice lp lo.length lc, .slice hp hi.length hc, .slice ap at_.length ac, .int .i64 most, .slice rp rs.length rc, .int .i64 d, .bool op, .bool ins] 31)) (.cells #[.int .i64 what, .slice kp kl.length kc, .string data, .slice lp lo.length lc, .slice hp hi.length hc, .slice ap at_.length ac, .int .i64 most, .slice rp rs.length rc] 29); rw [World.size_alloc] at h; exact h⟩)
  have HGE := hid (show w.heap.size ≤ w.heap.size + 1 by omega)
  clear h
  rw [hs] at HSM
  clear hs
  have U := (And.intro u0 (And.intro u1 (And.intro u2 (And.intro u3 (And.intro u4 (And.intro u5 (And.intro u6 (And.intro u7 (And.intro u8 (And.intro u9 u10))))))))))
  clear u0 u1 u2 u3 u4 u5 u6 u7 u8 u9 u10 hx
  go_enter Try.func3, Try.ntmps3
  go_wp2_with fail
  go_region_held3 (fun w' => w'.cell? ⟨w.heap.size, 0, none⟩ = some (.int .i64 what) ∧ w'.cell? ⟨w.heap.size, 1, none⟩ = some (.slice kp kl.length kc) ∧ w'.cell? ⟨w.heap.size, 2, none⟩ = some (.string data) ∧ w'.cell? ⟨w.heap.size, 3, none⟩ = some (.slice lp lo.length lc) ∧ w'.cell? ⟨w.heap.size, 4, none⟩ = some (.slice hp hi.length hc) ∧ w'.cell? ⟨w.heap.size, 5, none⟩ = some (.slice ap at_.length ac) ∧ w'.cell? ⟨w.heap.size, 6, none⟩ = some (.int .i64 most) ∧ w'.cell? ⟨w.heap.size, 7, none⟩ = some (.slice rp rs.length rc) ∧ w'.cell? ⟨w.heap.size, 8, none⟩ = some (.int .i64 d) ∧ w'.cell? ⟨w.heap.size, 9, none⟩ = some (.bool op) ∧ w'.cell? ⟨w.heap.size, 10, none⟩ = some (.bool ins)) (first | exact U | go_keep)
    (first | fail)
  clear U
  generalize ((w.alloc (.cells #[.int .i64 what, .slice kp kl.length kc, .string data, .slice lp lo.length lc, .slice hp hi.length hc, .slice ap at_.length ac, .int .i64 most, .slice rp rs.length rc, .int .i64 d, .bool op, .bool ins] 31)).alloc (.cells #[.int .i64 what, .slice kp kl.length kc, .string data, .slice lp lo.length lc, .slice hp hi.length hc, .slice ap at_.length ac, .int .i64 most, .slice rp rs.length rc] 29)).drew = V1 at *
  generalize w.heap.size + 1 = G at *
  obtain ⟨y0, y1, y2, y3, y4, y5, y6, y7⟩ := HX0.out.cells
  go_wp2_with fail
  refine (HSM.out _ HB0.out).mono ?_
  rintro e w1 ⟨rfl, hb⟩
  have HB1 := hid (HB0.out.trans (hb.mono HB0.out.size))
  have HX1 := hid (HX0.out.below hb)
  clear hb y0 y1 y2 y3 y4 y5 y6 y7
  obtain ⟨y0, y1, y2, y3, y4, y5, y6, y7⟩ := HX1.out.cells
  go_wp2_with fail
  refine (live_any _).mono ?_
  rintro e w99 ⟨rfl, hb⟩
  have HB99 := hid (HB1.out.trans (hb.mono HB1.out.size))
  clear hb
  go_wp2_with fail
  go_ret
  exact ⟨rfl, HB99.out⟩
theorem box_two (l h : List Nat) (p q r s : Option Addr) (c1 c2 c3 c4 : Nat) (w : World) (h1 : Pt w p l) (h2 : Pt w q h) (h3 : Pt w r l) (h4 : Pt w s h) (g : l.length ≤ 1000000 ∧ h.length ≤ 1000000) :
    Calls Try.prog 13 #[.agg #[.slice p l.length c1, .slice q h.length c2], .agg #[.slice r l.length c3, .slice s h.length c4]] w fun e w' => e = .returned (.bool true) ∧ Below w.heap.size w w' :=
  (sameBox_ok l h l h p q r s c1 c2 c3 c4 w h1 h2 h3 h4 g.1 g.2).mono fun e w' ⟨e1, e2⟩ => ⟨by rw [e1]; simp [sameBoxB, sameB], e2⟩
set_option maxRecDepth 100000 in
set_option maxHeartbeats 8000000 in
theorem checks_small (r : Rq) (d : Int) (op ins : Bool) (w : World) (h : r.Raw w) (hs : r.small = true) : Calls Try.prog 3 #[.agg (r.cells ++ #[Value.int .i64 d, .bool op, .bool ins])] w fun e w' => e = .returned (.bool true) ∧ Below w.heap.size w w' := by
  have HSM := hid fun (V : World) (hV : Below w.heap.size w V) => small_ok r V (h.below hV)
  have hat := h.at hs
  have HBL := hid (box_len hat d)
  have HOW := hid fun (V : World) => own_ok r V
  have HPB := hid fun (V : World) (hV : Below w.heap.size w V) => pbox_any r d V (hat.below hV)
  have HRB := hid fun (V : World) (hV : Below w.heap.size w V) => rbox_any r d V (hat.below hV)
  have HPC := hid fun (V : World) (hV : Below w.heap.size w V) => check_any r d op ins V (hat.below hV)
  have HRC := hid fun (V : World) (hV : Below w.heap.size w V) => rcheck_any r d op ins V (hat.below hV)
  clear hat h
  generalize r.bLo d = bl at *
  generalize r.bHi d = bh at *
  generalize err (r.bok d) = be at *
  generalize err (r.may d op ins) = ce at *
  rw [hs] at HSM
  clear hs
  obtain ⟨what, kp, kl, kc, data, lp, lo, lc, hp, hi, hc, ap, at_, ac, most, rp, rs, rc⟩ := r
  dsimp only [Rq.cells] at *
  have hx := heap_alloc_new w (.cells #[.int .i64 what, .slice kp kl.length kc, .string data, .slice lp lo.length lc, .slice hp hi.length hc, .slice ap at_.length ac, .int .i64 most, .slice rp rs.length rc, .int .i64 d, .bool op, .bool ins] 31)
  have u8 : (w.alloc (.cells #[.int .i64 what, .slice kp kl.length kc, .string data, .slice lp lo.length lc, .slice hp hi.length hc, .slice ap at_.length ac, .int .i64 most, .slice rp rs.length rc, .int .i64 d, .bool op, .bool ins] 31)).cell? ⟨w.heap.size, 8, none⟩ = some (.int .i64 d) := by rw [cell_of_row _ _ _ _ _ _ hx]; rfl
  have u9 : (w.alloc (.cells #[.int .i64 what, .slice kp kl.length kc, .string data, .slice lp lo.length lc, .slice hp hi.length hc, .slice ap at_.length ac, .int .i64 most, .slice rp rs.length rc, .int .i64 d, .bool op, .bool ins] 31)).cell? ⟨w.heap.size, 9, none⟩ = some (.bool op) := by rw [cell_of_row _ _ _ _ _ _ hx]; rfl
  have u10 : (w.alloc (.cells #[.int .i64 what, .slice kp kl.length kc, .string data, .slice lp lo.length lc, .slice hp hi.length hc, .slice ap at_.length ac, .int .i64 most, .slice rp rs.length rc, .int .i64 d, .bool op, .bool ins] 31)).cell? ⟨w.heap.size, 10, none⟩ = some (.bool ins) := by rw [cell_of_row _ _ _ _ _ _ hx]; rfl
  have u0 : (w.alloc (.cells #[.int .i64 what, .slice kp kl.length kc, .string data, .slice lp lo.length lc, .slice hp hi.length hc, .slice ap at_.length ac, .int .i64 most, .slice rp rs.length rc, .int .i64 d, .bool op, .bool ins] 31)).cell? ⟨w.heap.size, 0, none⟩ = some (.int .i64 what) := by rw [cell_of_row _ _ _ _ _ _ hx]; rfl
  have u1 : (w.alloc (.cells #[.int .i64 what, .slice kp kl.length kc, .string data, .slice lp lo.length lc, .slice hp hi.length hc, .slice ap at_.length ac, .int .i64 most, .slice rp rs.length rc, .int .i64 d, .bool op, .bool ins] 31)).cell? ⟨w.heap.size, 1, none⟩ = some (.slice kp kl.length kc) := by rw [cell_of_row _ _ _ _ _ _ hx]; rfl
  have u2 : (w.alloc (.cells #[.int .i64 what, .slice kp kl.length kc, .string data, .slice lp lo.length lc, .slice hp hi.length hc, .slice ap at_.length ac, .int .i64 most, .slice rp rs.length rc, .int .i64 d, .bool op, .bool ins] 31)).cell? ⟨w.heap.size, 2, none⟩ = some (.string data) := by rw [cell_of_row _ _ _ _ _ _ hx]; rfl
  have u3 : (w.alloc (.cells #[.int .i64 what, .slice kp kl.length kc, .string data, .slice lp lo.length lc, .slice hp hi.length hc, .slice ap at_.length ac, .int .i64 most, .slice rp rs.length rc, .int .i64 d, .bool op, .bool ins] 31)).cell? ⟨w.heap.size, 3, none⟩ = some (.slice lp lo.length lc) := by rw [cell_of_row _ _ _ _ _ _ hx]; rfl
  have u4 : (w.alloc (.cells #[.int .i64 what, .slice kp kl.length kc, .string data, .slice lp lo.length lc, .slice hp hi.length hc, .slice ap at_.length ac, .int .i64 most, .slice rp rs.length rc, .int .i64 d, .bool op, .bool ins] 31)).cell? ⟨w.heap.size, 4, none⟩ = some (.slice hp hi.length hc) := by rw [cell_of_row _ _ _ _ _ _ hx]; rfl
  have u5 : (w.alloc (.cells #[.int .i64 what, .slice kp kl.length kc, .string data, .slice lp lo.length lc, .slice hp hi.length hc, .slice ap at_.length ac, .int .i64 most, .slice rp rs.length rc, .int .i64 d, .bool op, .bool ins] 31)).cell? ⟨w.heap.size, 5, none⟩ = some (.slice ap at_.length ac) := by rw [cell_of_row _ _ _ _ _ _ hx]; rfl
  have u6 : (w.alloc (.cells #[.int .i64 what, .slice kp kl.length kc, .string data, .slice lp lo.length lc, .slice hp hi.length hc, .slice ap at_.length ac, .int .i64 most, .slice rp rs.length rc, .int .i64 d, .bool op, .bool ins] 31)).cell? ⟨w.heap.size, 6, none⟩ = some (.int .i64 most) := by rw [cell_of_row _ _ _ _ _ _ hx]; rfl
  have u7 : (w.alloc (.cells #[.int .i64 what, .slice kp kl.length kc, .string data, .slice lp lo.length lc, .slice hp hi.length hc, .slice ap at_.length ac, .int .i64 most, .slice rp rs.length rc, .int .i64 d, .bool op, .bool ins] 31)).cell? ⟨w.heap.size, 7, none⟩ = some (.slice rp rs.length rc) := by rw [cell_of_row _ _ _ _ _ _ hx]; rfl
  have HB0 := hid (show Below w.heap.size w (((w.alloc (.cells #[.int .i64 what, .slice kp kl.length kc, .string data, .slice lp lo.length lc, .slice hp hi.length hc, .slice ap at_.length ac, .int .i64 most, .slice rp rs.length rc, .int .i64 d, .bool op, .bool ins] 31)).alloc (.cells #[.int .i64 what, .slice kp kl.length kc, .string data, .slice lp lo.length lc, .slice hp hi.length hc, .slice ap at_.length ac, .int .i64 most, .slice rp rs.length rc] 29)).drew) from ((below_alloc w _).alloc (below_alloc w _).size _).drew)
  have HX0 := hid (show Rc8 (((w.alloc (.cells #[.int .i64 what, .slice kp kl.length kc, .string data, .slice lp lo.length lc, .slice hp hi.length hc, .slice ap at_.length ac, .int .i64 most, .slice rp rs.length rc, .int .i64 d, .bool op, .bool ins] 31)).alloc (.cells #[.int .i64 what, .slice kp kl.length kc, .string data, .slice lp lo.length lc, .slice hp hi.length hc, .slice ap at_.length ac, .int .i64 most, .slice rp rs.length rc] 29)).drew) (w.heap.size + 1) ⟨what, kp, kl, kc, data, lp, lo, lc, hp, hi, hc, ap, at_, ac, most, rp, rs, rc⟩ from ⟨by have h := heap_alloc_new (w.alloc (.cells #[.int .i64 what, .slice kp kl.length kc, .string data, .slice lp lo.length lc, .slice hp hi.length hc, .slice ap at_.length ac, .int .i64 most, .slice rp rs.length rc, .int .i64 d, .bool op, .bool ins] 31)) (.cells #[.int .i64 what, .slice kp kl.length kc, .string data, .slice lp lo.length lc, .slice hp hi.length hc, .slice ap at_.length ac, .int .i64 most, .slice rp rs.length rc] 29); rw [World.size_alloc] at h; exact h⟩)
  have HGE := hid (show w.heap.size ≤ w.heap.size + 1 by omega)
  have U := (And.intro u0 (And.intro u1 (And.intro u2 (And.intro u3 (And.intro u4 (And.intro u5 (And.intro u6 (And.intro u7 (And.intro u8 (And.intro u9 u10))))))))))
  clear u0 u1 u2 u3 u4 u5 u6 u7 u8 u9 u10 hx
  go_enter Try.func3, Try.ntmps3
  go_wp2_with fail
  go_region_held3 (fun w' => w'.cell? ⟨w.heap.size, 0, none⟩ = some (.int .i64 what) ∧ w'.cell? ⟨w.heap.size, 1, none⟩ = some (.slice kp kl.length kc) ∧ w'.cell? ⟨w.heap.size, 2, none⟩ = some (.string data) ∧ w'.cell? ⟨w.heap.size, 3, none⟩ = some (.slice lp lo.length lc) ∧ w'.cell? ⟨w.heap.size, 4, none⟩ = some (.slice hp hi.length hc) ∧ w'.cell? ⟨w.heap.size, 5, none⟩ = some (.slice ap at_.length ac) ∧ w'.cell? ⟨w.heap.size, 6, none⟩ = some (.int .i64 most) ∧ w'.cell? ⟨w.heap.size, 7, none⟩ = some (.slice rp rs.length rc) ∧ w'.cell? ⟨w.heap.size, 8, none⟩ = some (.int .i64 d) ∧ w'.cell? ⟨w.heap.size, 9, none⟩ = some (.bool op) ∧ w'.cell? ⟨w.heap.size, 10, none⟩ = some (.bool ins)) (first | exact U | go_keep)
    (first | fail)
  clear U
  generalize ((w.alloc (.cells #[.int .i64 what, .slice kp kl.length kc, .string data, .slice lp lo.length lc, .slice hp hi.length hc, .slice ap at_.length ac, .int .i64 most, .slice rp rs.length rc, .int .i64 d, .bool op, .bool ins] 31)).alloc (.cells #[.int .i64 what, .slice kp kl.length kc, .string data, .slice lp lo.length lc, .slice hp hi.length hc, .slice ap at_.length ac, .int .i64 most, .slice rp rs.length rc] 29)).drew = V1 at *
  generalize w.heap.size + 1 = G at *
  obtain ⟨y0, y1, y2, y3, y4, y5, y6, y7⟩ := HX0.out.cells
  go_wp2_with fail
  refine (HSM.out _ HB0.out).mono ?_
  rintro e w1 ⟨rfl, hb⟩
  have HB1 := hid (HB0.out.trans (hb.mono HB0.out.size))
  have HX1 := hid (HX0.out.below hb)
  clear hb y0 y1 y2 y3 y4 y5 y6 y7
  obtain ⟨y0, y1, y2, y3, y4, y5, y6, y7⟩ := HX1.out.cells
  go_wp2_with fail
  refine (HOW.out _).mono ?_
  rintro e w2 ⟨rfl, hb⟩
  have HB2 := hid (HB1.out.trans (hb.mono HB1.out.size))
  have HX2 := hid (HX1.out.below hb)
  clear hb y0 y1 y2 y3 y4 y5 y6 y7
  obtain ⟨y0, y1, y2, y3, y4, y5, y6, y7⟩ := HX2.out.cells
  go_wp2_with fail
  refine (HPB.out _ HB2.out).mono ?_
  rintro e w3 ⟨a3, c3, a3', c3', rfl, p1, p2, hb⟩
  have HP3 := hid (And.intro p1 p2)
  have HB3 := hid (HB2.out.trans (hb.mono HB2.out.size))
  have HX3 := hid (HX2.out.below hb)
  have HN3 := hid hb
  clear hb p1 p2 y0 y1 y2 y3 y4 y5 y6 y7
  obtain ⟨y0, y1, y2, y3, y4, y5, y6, y7⟩ := HX3.out.cells
  have HB4 := hid (HB3.out.alloc HB3.out.size (.cells #[.slice a3 bl.length c3, .slice a3' bh.length c3'] 25))
  have HQ4 := hid (show (w3.alloc (.cells #[.slice a3 bl.length c3, .slice a3' bh.length c3'] 25)).heap[w3.heap.size]? = some (.cells #[.slice a3 bl.length c3, .slice a3' bh.length c3'] 25 (0, 0)) from heap_alloc_new _ _)
  have HX4 := hid (HX3.out.below (below_alloc w3 (.cells #[.slice a3 bl.length c3, .slice a3' bh.length c3'] 25)))
  have HP4 := hid (And.intro (HP3.out.1.below (below_alloc w3 (.cells #[.slice a3 bl.length c3, .slice a3' bh.length c3'] 25))) (HP3.out.2.below (below_alloc w3 (.cells #[.slice a3 bl.length c3, .slice a3' bh.length c3'] 25))))
  clear HP3 HX3 y0 y1 y2 y3 y4 y5 y6 y7
  obtain ⟨y0, y1, y2, y3, y4, y5, y6, y7⟩ := HX4.out.cells
  go_wp2_with fail
  refine (HRB.out _ HB4.out).mono ?_
  rintro e w5 ⟨a5, c5, a5', c5', rfl, p1, p2, hb⟩
  have HP5 := hid (And.intro p1 p2)
  have HB5 := hid (HB4.out.trans (hb.mono HB4.out.size))
  have HX5 := hid (HX4.out.below hb)
  have HN5 := hid hb
  clear hb p1 p2 y0 y1 y2 y3 y4 y5 y6 y7
  obtain ⟨y0, y1, y2, y3, y4, y5, y6, y7⟩ := HX5.out.cells
  have hq5 := (HN5.out.block _ (Array.getElem?_eq_some_iff.1 HQ4.out).1).trans HQ4.out
  have HQ5 := hid hq5
  have HP5' := hid (And.intro (HP4.out.1.below HN5.out) (HP4.out.2.below HN5.out))
  clear hq5 HP4 HQ4 HX4
  obtain ⟨X, hX⟩ : ∃ X, w5.alloc (.cells #[.slice a5 bl.length c5, .slice a5' bh.length c5'] 25) = X := ⟨_, rfl⟩
  have HBX := hid (show Below w5.heap.size w5 X by rw [← hX]; exact below_alloc _ _)
  have HB6 := hid (HB5.out.trans (HBX.out.mono HB5.out.size))
  have HQ6 := hid ((HBX.out.block _ (Array.getElem?_eq_some_iff.1 HQ5.out).1).trans HQ5.out)
  have HR6 := hid (show X.heap[w5.heap.size]? = some (.cells #[.slice a5 bl.length c5, .slice a5' bh.length c5'] 25 (0, 0)) by rw [← hX]; exact heap_alloc_new _ _)
  have HX6 := hid (HX5.out.below HBX.out)
  have HP6 := hid (And.intro (And.intro (HP5'.out.1.below HBX.out) (HP5'.out.2.below HBX.out)) (And.intro (HP5.out.1.below HBX.out) (HP5.out.2.below HBX.out)))
  clear HP5 HP5' HQ5 HX5
  have HALL := hid fun (Y : World) (hY : Below X.heap.size X Y) => And.intro (HX6.out.below hY).cells (show Y.cell? ⟨w3.heap.size, 0, none⟩ = some (.slice a3 bl.length c3) ∧ Y.cell? ⟨w3.heap.size, 1, none⟩ = some (.slice a3' bh.length c3') ∧ Y.cell? ⟨w5.heap.size, 0, none⟩ = some (.slice a5 bl.length c5) ∧ Y.cell? ⟨w5.heap.size, 1, none⟩ = some (.slice a5' bh.length c5') from by
    have h1 := (hY.block _ (Array.getElem?_eq_some_iff.1 HQ6.out).1).trans HQ6.out
    have h2 := (hY.block _ (Array.getElem?_eq_some_iff.1 HR6.out).1).trans HR6.out
    exact ⟨by rw [cell_of_row _ _ _ _ _ _ h1]; rfl, by rw [cell_of_row _ _ _ _ _ _ h1]; rfl, by rw [cell_of_row _ _ _ _ _ _ h2]; rfl, by rw [cell_of_row _ _ _ _ _ _ h2]; rfl⟩)
  have q0 := HALL.out _ (Below.refl _ _)
  go_wp2_with fail
  clear hX
  go_region_held3 (fun w' => (w'.cell? ⟨G, 0, none⟩ = some (.int .i64 what) ∧ w'.cell? ⟨G, 1, none⟩ = some (.slice kp kl.length kc) ∧ w'.cell? ⟨G, 2, none⟩ = some (.string data) ∧ w'.cell? ⟨G, 3, none⟩ = some (.slice lp lo.length lc) ∧ w'.cell? ⟨G, 4, none⟩ = some (.slice hp hi.length hc) ∧ w'.cell? ⟨G, 5, none⟩ = some (.slice ap at_.length ac) ∧ w'.cell? ⟨G, 6, none⟩ = some (.int .i64 most) ∧ w'.cell? ⟨G, 7, none⟩ = some (.slice rp rs.length rc)) ∧ w'.cell? ⟨w3.heap.size, 0, none⟩ = some (.slice a3 bl.length c3) ∧ w'.cell? ⟨w3.heap.size, 1, none⟩ = some (.slice a3' bh.length c3') ∧ w'.cell? ⟨w5.heap.size, 0, none⟩ = some (.slice a5 bl.length c5) ∧ w'.cell? ⟨w5.heap.size, 1, none⟩ = some (.slice a5' bh.length c5')) (first | exact q0 | exact q1 | exact q2 | exact q3 | exact q4 | exact q5 | go_keep)
    (first
      | (go_at_call 9; refine (HOW.out _).mono ?_; rintro e wA ⟨rfl, hb⟩; have HA := hid (show Below X.heap.size X wA from (Below.refl _ X).drew.trans hb); have HBA := hid (HB6.out.trans (HA.out.mono HB6.out.size)); have q1 := HALL.out _ HA.out; clear hb)
      | (go_at_call 11; refine (HPC.out _ HBA.out).mono ?_; rintro e wC ⟨rfl, hb⟩; have HC := hid (HA.out.trans (hb.mono HA.out.size)); have HBC := hid (HB6.out.trans (HC.out.mono HB6.out.size)); have q2 := HALL.out _ HC.out; clear hb)
      | (go_at_call 12; refine (HRC.out _ HBC.out).mono ?_; rintro e wE ⟨rfl, hb⟩; have HE := hid (HC.out.trans (hb.mono HC.out.size)); have q3 := HALL.out _ HE.out; clear hb)
      | (go_at_call 13; refine (box_two bl bh a3 a3' a5 a5' c3 c3' c5 c5' _ (HP6.out.1.1.below HE.out) (HP6.out.1.2.below HE.out) (HP6.out.2.1.below HE.out) (HP6.out.2.2.below HE.out) HBL.out).mono ?_; rintro e wG ⟨rfl, hb⟩; have HG := hid (HE.out.trans (hb.mono HE.out.size)); have q4 := HALL.out _ HG.out; clear hb)
      | (go_at_call 7; refine (live_any _).mono ?_; rintro e wI ⟨rfl, hb⟩; have HI := hid (HG.out.trans (hb.mono HG.out.size)); have q5 := HALL.out _ HI.out; clear hb)
      | fail)
  have HZ := hid (HB6.out.trans (HI.out.mono HB6.out.size))
  go_wp2_with fail
  go_ret
  exact ⟨rfl, HZ.out⟩
theorem checks_any (r : Rq) (d : Int) (op ins : Bool) (w : World) (h : r.Raw w) : Calls Try.prog 3 #[.agg (r.cells ++ #[Value.int .i64 d, .bool op, .bool ins])] w fun e w' => e = .returned (.bool true) ∧ Below w.heap.size w w' := by
  cases hs : r.small with
  | false => exact checks_big r d op ins w h hs
  | true => exact checks_small r d op ins w h hs
end Go.Proofs.Ytolnbamdddiifaa.Rq
