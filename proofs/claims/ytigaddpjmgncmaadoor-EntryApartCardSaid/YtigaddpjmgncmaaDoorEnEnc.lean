/- Encode of entry. The package's table stands in block 0. -/
import Derived.Test.YtigaddpjmgncmaaDoorEnMath
import Derived.Test.YtigaddpjmgncmaaDoorEnCut
import Derived.Test.YtigaddpjmgncmaaDoorFdOf
import Derived.Deep.RegionHeld3
namespace Go.Proofs.YtigaddpjmgncmaaDoor.En
open Go.RowKit
open Go.Lib (hid)
open Go.Proofs.YtigaddpjmgncmaaDoor.Fd (Area Row Upd rowOf be be_length num getAt putAt putAt_length on_below on_upd)
open Go.Proofs.YtigaddpjmgncmaaDoor.Pg (zs zs_length)

theorem Lst.below {w w' : World} (h : Lst w) (hb : Below w.heap.size w w') : Lst w' := by
  have h0 : 0 < w.heap.size := block_lt_of_cell h.c0
  exact ⟨(hb.cell (p := ⟨0, 0, none⟩) h0).trans h.c0, (hb.cell (p := ⟨0, 1, none⟩) h0).trans h.c1, (hb.cell (p := ⟨0, 2, none⟩) h0).trans h.c2, (hb.cell (p := ⟨0, 3, none⟩) h0).trans h.c3⟩
/-- an entry's cells -/
abbrev entC (kd tx ix pk pn : Int) (b : ByteArray) (ct sm : Int) : Array Value := #[.int .i64 kd, .int .i64 tx, .int .i64 ix, .int .i64 pk, .int .i64 pn, .string b, .int .i64 ct, .int .u32 sm]
theorem new_area (n : Nat) (x : Int) (hx : x = n) (hn : n ≤ 4096) (w : World) :
    Calls Tryd.prog 19 #[.int .i64 x] w fun e w' => e = .returned (.tuple #[.pointer (some ⟨w.heap.size + 1, 0, none⟩), .int .i64 0]) ∧ Area 73 w' (w.heap.size + 1) w.heap.size (zs n) ∧ Below w.heap.size w w' := by
  subst hx
  refine (Fd.new_ok n w hn).mono ?_
  rintro e w' ⟨rfl, rfl⟩
  exact ⟨rfl, Fd.madeArea_area 73 n w hn, Fd.madeArea_below 73 n w⟩
/-- what Encode has laid so far -/
structure EM (w : World) (P : Nat) (cs : Array Value) (B n : Nat) (l : List UInt8) (wr : World) : Prop where
  ent : wr.heap[P]? = some (.cells cs 32 (0, 0))
  below : Below w.heap.size w wr
  area : Area 73 wr (B + 1) B l
  lo : w.heap.size ≤ P
  lt : P < B
  len : l.length = n
theorem EM.upd {w wr w' : World} {P : Nat} {cs : Array Value} {B n : Nat} {l l' : List UInt8} (h : EM w P cs B n l wr) (hu : Upd B l' wr w') (hl : l'.length = n) : EM w P cs B n l' w' :=
  ⟨(hu.block P (Array.getElem?_eq_some_iff.1 h.ent).1 (Nat.ne_of_lt h.lt)).trans h.ent, (on_upd (hid h.below) hu (Nat.le_trans h.lo (Nat.le_of_lt h.lt))).out, h.area.upd hu (by rw [hl, h.len]), h.lo, h.lt, hl⟩
theorem EM.put {w wr : World} {P : Nat} {cs : Array Value} {B n : Nat} {l : List UInt8} (h : EM w P cs B n l wr) (o wd x : Nat) (o' x' w' : Int) (ho : o' = o) (hx : x' = x) (hw : w' = wd) (hwd : wd = 1 ∨ wd = 2 ∨ wd = 4) (hle : o + wd ≤ n) (hlt : x < 256 ^ wd) :
    Calls Tryd.prog 20 #[.pointer (some ⟨B + 1, 0, none⟩), .int .i64 o', .int .i64 w', .int .u32 x'] wr fun e w2 => e = .returned (.int .i64 0) ∧ EM w P cs B n (putAt l o (be wd x)) w2 := by
  subst ho hx hw
  have hlen := h.len
  have hl : (putAt l o (be wd x)).length = n := by rw [putAt_length _ _ _ (by rw [be_length]; omega), hlen]
  rcases hwd with rfl | rfl | rfl
  · exact (Fd.put_1 (B + 1) B l o x wr h.area (by omega) hlt).mono fun e w2 ⟨h1, h2⟩ => ⟨h1, h.upd h2 hl⟩
  · exact (Fd.put_2 (B + 1) B l o x wr h.area (by omega) hlt).mono fun e w2 ⟨h1, h2⟩ => ⟨h1, h.upd h2 hl⟩
  · exact (Fd.put_4 (B + 1) B l o x wr h.area (by omega) hlt).mono fun e w2 ⟨h1, h2⟩ => ⟨h1, h.upd h2 hl⟩
theorem EM.text {w wr : World} {P : Nat} {cs : Array Value} {B n : Nat} {l : List UInt8} (h : EM w P cs B n l wr) (o : Nat) (o' : Int) (ho : o' = o) (s : ByteArray) (hle : o + s.size ≤ n) :
    Calls Tryd.prog 21 #[.pointer (some ⟨B + 1, 0, none⟩), .int .i64 o', .string s] wr fun e w2 => e = .returned (.int .i64 0) ∧ EM w P cs B n (putAt l o s.data.toList) w2 := by
  subst ho
  have hlen := h.len
  have hl : (putAt l o s.data.toList).length = n := by rw [putAt_length _ _ _ (by rw [Fd.size_list]; omega), hlen]
  exact (Fd.putText_ok (B + 1) B l o s wr h.area (by omega)).mono fun e w2 ⟨h1, h2⟩ => ⟨h1, h.upd h2 hl⟩
theorem EM.bytes {w wr : World} {P : Nat} {cs : Array Value} {B n : Nat} {l m : List UInt8} (h : EM w P cs B n l wr) (hm : l = m) :
    Calls Tryd.prog 22 #[.pointer (some ⟨B + 1, 0, none⟩)] wr fun e w2 => e = .returned (.string ⟨m.toArray⟩) ∧ EM w P cs B n m w2 := by
  subst hm
  refine (Fd.bytes_ok (B + 1) B l wr h.area).mono ?_
  rintro e w2 ⟨rfl, rfl⟩
  exact ⟨rfl, h⟩
theorem em_new {w w1 w2 : World} {n : Nat} {cs : Array Value} (hb : Below w.heap.size w w1) (he : w1.heap[w.heap.size]? = some (.cells cs 32 (0, 0))) (ha : Area 73 w2 (w1.drew.heap.size + 1) w1.drew.heap.size (zs n)) (h2 : Below w1.drew.heap.size w1.drew w2) : EM w w.heap.size cs w1.heap.size n (zs n) w2 :=
  ⟨(h2.block _ (Array.getElem?_eq_some_iff.1 he).1).trans he, hb.trans (((Below.refl w1.heap.size w1).drew.trans h2).mono hb.size), ha, Nat.le_refl _, (Array.getElem?_eq_some_iff.1 he).1, zs_length _⟩
section
variable {w wr : World} {P B n : Nat} {kd tx ix pk pn ct sm : Int} {b : ByteArray} {l : List UInt8}
theorem EM.at0 (h : EM w P (entC kd tx ix pk pn b ct sm) B n l wr) : wr.cell? ⟨P, 0, none⟩ = some (.int .i64 kd) := by rw [cell_of_row _ _ _ _ _ _ h.ent]; rfl
theorem EM.at1 (h : EM w P (entC kd tx ix pk pn b ct sm) B n l wr) : wr.cell? ⟨P, 1, none⟩ = some (.int .i64 tx) := by rw [cell_of_row _ _ _ _ _ _ h.ent]; rfl
theorem EM.at2 (h : EM w P (entC kd tx ix pk pn b ct sm) B n l wr) : wr.cell? ⟨P, 2, none⟩ = some (.int .i64 ix) := by rw [cell_of_row _ _ _ _ _ _ h.ent]; rfl
theorem EM.at3 (h : EM w P (entC kd tx ix pk pn b ct sm) B n l wr) : wr.cell? ⟨P, 3, none⟩ = some (.int .i64 pk) := by rw [cell_of_row _ _ _ _ _ _ h.ent]; rfl
theorem EM.at4 (h : EM w P (entC kd tx ix pk pn b ct sm) B n l wr) : wr.cell? ⟨P, 4, none⟩ = some (.int .i64 pn) := by rw [cell_of_row _ _ _ _ _ _ h.ent]; rfl
theorem EM.at5 (h : EM w P (entC kd tx ix pk pn b ct sm) B n l wr) : wr.cell? ⟨P, 5, none⟩ = some (.string b) := by rw [cell_of_row _ _ _ _ _ _ h.ent]; rfl
theorem EM.at6 (h : EM w P (entC kd tx ix pk pn b ct sm) B n l wr) : wr.cell? ⟨P, 6, none⟩ = some (.int .i64 ct) := by rw [cell_of_row _ _ _ _ _ _ h.ent]; rfl
theorem EM.at7 (h : EM w P (entC kd tx ix pk pn b ct sm) B n l wr) : wr.cell? ⟨P, 7, none⟩ = some (.int .u32 sm) := by rw [cell_of_row _ _ _ _ _ _ h.ent]; rfl
theorem em_cells (hL : Lst w) (h : EM w P (entC kd tx ix pk pn b ct sm) B n l wr) : wr.cell? ⟨P, 0, none⟩ = some (.int .i64 kd) ∧ wr.cell? ⟨P, 5, none⟩ = some (.string b) ∧ wr.cell? ⟨0, 1, none⟩ = some (.int .i64 10) := ⟨h.at0, h.at5, (hL.below h.below).c1⟩
theorem em_cells2 (hL : Lst w) (h : EM w P (entC kd tx ix pk pn b ct sm) B n l wr) : wr.cell? ⟨P, 0, none⟩ = some (.int .i64 kd) ∧ wr.cell? ⟨P, 5, none⟩ = some (.string b) ∧ wr.cell? ⟨0, 2, none⟩ = some (.int .i64 13) := ⟨h.at0, h.at5, (hL.below h.below).c2⟩
theorem em_cells3 (hL : Lst w) (h : EM w P (entC kd tx ix pk pn b ct sm) B n l wr) : wr.cell? ⟨P, 0, none⟩ = some (.int .i64 kd) ∧ wr.cell? ⟨P, 5, none⟩ = some (.string b) ∧ wr.cell? ⟨0, 3, none⟩ = some (.int .i64 7) := ⟨h.at0, h.at5, (hL.below h.below).c3⟩
end
set_option maxRecDepth 100000 in
set_option maxHeartbeats 1000000 in
theorem encode_no (kd tx ix pk pn ct sm : Int) (b : ByteArray) (w : World) (hx : tx ≤ 9223372036854775807) (h : ¬ mayE kd tx ix pk pn b ct sm) :
    Calls Tryd.prog 9 #[.agg (entC kd tx ix pk pn b ct sm)] w fun e w' => e = .returned (.tuple #[.string ⟨#[]⟩, .int .i64 1]) ∧ Below w.heap.size w w' := by
  have HC := hid fun (V : World) => check_no kd tx ix pk pn ct sm b V hx h
  clear h hx
  go_enter Tryd.func9, Tryd.ntmps9
  go_wp2_with fail
  refine (HC.out _).mono ?_
  rintro e w1 ⟨rfl, hb⟩
  have HB := hid (((Below.refl w.heap.size w).alloc (Nat.le_refl _) _).trans (hb.mono (by simp)))
  clear hb
  go_wp2_with fail
  go_ret2
  exact ⟨rfl, HB.out⟩
set_option maxRecDepth 100000 in
set_option maxHeartbeats 2000000 in
theorem encode_stage (tx ix pk pn : Nat) (b : ByteArray) (w : World) (hL : Lst w) (h : mayE 1 tx ix pk pn b 0 0) :
    Calls Tryd.prog 9 #[.agg (entC 1 tx ix pk pn b 0 0)] w fun e w' => e = .returned (.tuple #[.string ⟨(encE 1 tx ix pk pn b.data.toList 0 0).toArray⟩, .int .i64 0]) ∧ Below w.heap.size w w' := by
  have HC := hid fun (V : World) => check_yes 1 tx ix pk pn 0 0 b V h
  obtain ⟨h1, h2, h3, h4, hr⟩ := h
  have hst : mayS pk pn b := by rcases hr with hr | hr | hr; exact hr.2.1; exact absurd hr.1 (by decide); exact absurd hr.1 (by decide)
  obtain ⟨-, -, hk5, -, hn9, hb2⟩ := hst
  have hbl := Fd.size_list b
  have HEQ := hid (puts_stage tx ix pk pn b.data.toList 0 0)
  rw [hbl] at HEQ
  have HL := hid hL
  have HN := hid fun (V : World) => new_area (10 + b.size) (IntKind.i64.wrap (10 + (b.size : Int))) (by rw [Go.IntWalk.i64_in _ (by omega)]; omega) (by omega) V
  clear hL hr
  go_enter Tryd.func9, Tryd.ntmps9
  go_wp2_with fail
  refine (HC.out _).mono ?_
  rintro e w1 ⟨rfl, hb⟩
  have HB := hid (((Below.refl w.heap.size w).alloc (Nat.le_refl _) _).trans (hb.mono (by simp)))
  have HE := hid (show w1.heap[w.heap.size]? = some (.cells (entC 1 tx ix pk pn b 0 0) 32 (0, 0)) from (hb.block _ (by simp)).trans (heap_alloc_new _ _))
  have HL1 := hid (HL.out.below HB.out)
  have c0 : w1.cell? ⟨w.heap.size, 0, none⟩ = some (.int .i64 1) := by rw [cell_of_row _ _ _ _ _ _ HE.out]; rfl
  have c5 : w1.cell? ⟨w.heap.size, 5, none⟩ = some (.string b) := by rw [cell_of_row _ _ _ _ _ _ HE.out]; rfl
  have g1 := HL1.out.c1
  clear hb
  go_wp2_with fail
  go_region_held3 (fun w' => w'.cell? ⟨w.heap.size, 0, none⟩ = some (.int .i64 1) ∧ w'.cell? ⟨w.heap.size, 5, none⟩ = some (.string b) ∧ w'.cell? ⟨0, 1, none⟩ = some (.int .i64 10)) (first | exact ⟨c0, c5, g1⟩ | exact q1 | go_keep)
    (first
      | (go_at_call 19; refine (HN.out _).mono ?_; rintro e w2 ⟨rfl, ha, hb⟩; have HM := hid (em_new HB.out HE.out ha hb); have q1 := em_cells HL.out HM.out; clear ha hb)
      | fail)
  clear q1 c0 c5 g1 HN HL1 HE HB
  generalize w1.heap.size = B at HM ⊢
  have c0 := HM.out.at0
  go_wp2_with fail
  refine (HM.out.put 0 1 1 _ _ _ rfl (rfl) rfl (by decide) (by omega) (by omega)).mono ?_
  rintro e w3 ⟨rfl, hm⟩
  replace HM := hid hm
  clear hm c0
  have c1 := HM.out.at1
  go_wp2_with fail
  refine (HM.out.put 1 4 tx _ _ _ rfl (rfl) rfl (by decide) (by omega) (by omega)).mono ?_
  rintro e w4 ⟨rfl, hm⟩
  replace HM := hid hm
  clear hm c1
  have c2 := HM.out.at2
  go_wp2_with fail
  refine (HM.out.put 5 2 ix _ _ _ rfl (rfl) rfl (by decide) (by omega) (by omega)).mono ?_
  rintro e w5 ⟨rfl, hm⟩
  replace HM := hid hm
  clear hm c2
  rw [puts_head] at HM
  have c0 := HM.out.at0
  have c3 := HM.out.at3
  go_wp2_with fail
  clear c0
  refine (HM.out.put 7 1 pk _ _ _ rfl (rfl) rfl (by decide) (by omega) (by omega)).mono ?_
  rintro e w6 ⟨rfl, hm⟩
  replace HM := hid hm
  clear hm c3
  have c4 := HM.out.at4
  go_wp2_with fail
  refine (HM.out.put 8 2 pn _ _ _ rfl (rfl) rfl (by decide) (by omega) (by omega)).mono ?_
  rintro e w7 ⟨rfl, hm⟩
  replace HM := hid hm
  clear hm c4
  have c5 := HM.out.at5
  go_wp2_with fail
  refine (HM.out.text 10 _ rfl b (by omega)).mono ?_
  rintro e w8 ⟨rfl, hm⟩
  replace HM := hid hm
  clear hm c5
  go_wp2_with fail
  refine (HM.out.bytes HEQ.out).mono ?_
  rintro e w9 ⟨rfl, hm⟩
  replace HM := hid hm
  clear hm
  go_wp2_with fail
  go_ret2
  exact ⟨rfl, HM.out.below⟩
set_option maxRecDepth 100000 in
set_option maxHeartbeats 2000000 in
theorem encode_commit (tx ix sm : Nat) (hsm : sm < 4294967296) (w : World) (hL : Lst w) (h : mayE 2 tx ix 0 0 ⟨#[]⟩ ix sm) :
    Calls Tryd.prog 9 #[.agg (entC 2 tx ix 0 0 ⟨#[]⟩ ix sm)] w fun e w' => e = .returned (.tuple #[.string ⟨(encE 2 tx ix 0 0 [] ix sm).toArray⟩, .int .i64 0]) ∧ Below w.heap.size w w' := by
  have HC := hid fun (V : World) => check_yes 2 tx ix 0 0 ix sm ⟨#[]⟩ V h
  obtain ⟨h1, h2, h3, h4, hr⟩ := h
  have HEQ := hid (puts_commit tx ix 0 0 [] ix sm)
  have HL := hid hL
  have HN := hid fun (V : World) => new_area (13) (13) (rfl) (by omega) V
  clear hL hr
  go_enter Tryd.func9, Tryd.ntmps9
  go_wp2_with fail
  refine (HC.out _).mono ?_
  rintro e w1 ⟨rfl, hb⟩
  have HB := hid (((Below.refl w.heap.size w).alloc (Nat.le_refl _) _).trans (hb.mono (by simp)))
  have HE := hid (show w1.heap[w.heap.size]? = some (.cells (entC 2 tx ix 0 0 ⟨#[]⟩ ix sm) 32 (0, 0)) from (hb.block _ (by simp)).trans (heap_alloc_new _ _))
  have HL1 := hid (HL.out.below HB.out)
  have c0 : w1.cell? ⟨w.heap.size, 0, none⟩ = some (.int .i64 2) := by rw [cell_of_row _ _ _ _ _ _ HE.out]; rfl
  have c5 : w1.cell? ⟨w.heap.size, 5, none⟩ = some (.string (⟨#[]⟩ : ByteArray)) := by rw [cell_of_row _ _ _ _ _ _ HE.out]; rfl
  have g1 := HL1.out.c2
  clear hb
  go_wp2_with fail
  go_region_held3 (fun w' => w'.cell? ⟨w.heap.size, 0, none⟩ = some (.int .i64 2) ∧ w'.cell? ⟨w.heap.size, 5, none⟩ = some (.string (⟨#[]⟩ : ByteArray)) ∧ w'.cell? ⟨0, 2, none⟩ = some (.int .i64 13)) (first | exact ⟨c0, c5, g1⟩ | exact q1 | go_keep)
    (first
      | (go_at_call 19; refine (HN.out _).mono ?_; rintro e w2 ⟨rfl, ha, hb⟩; have HM := hid (em_new HB.out HE.out ha hb); have q1 := em_cells2 HL.out HM.out; clear ha hb)
      | fail)
  clear q1 c0 c5 g1 HN HL1 HE HB
  generalize w1.heap.size = B at HM ⊢
  have c0 := HM.out.at0
  go_wp2_with fail
  refine (HM.out.put 0 1 2 _ _ _ rfl (rfl) rfl (by decide) (by omega) (by omega)).mono ?_
  rintro e w3 ⟨rfl, hm⟩
  replace HM := hid hm
  clear hm c0
  have c1 := HM.out.at1
  go_wp2_with fail
  refine (HM.out.put 1 4 tx _ _ _ rfl (rfl) rfl (by decide) (by omega) (by omega)).mono ?_
  rintro e w4 ⟨rfl, hm⟩
  replace HM := hid hm
  clear hm c1
  have c2 := HM.out.at2
  go_wp2_with fail
  refine (HM.out.put 5 2 ix _ _ _ rfl (rfl) rfl (by decide) (by omega) (by omega)).mono ?_
  rintro e w5 ⟨rfl, hm⟩
  replace HM := hid hm
  clear hm c2
  rw [puts_head] at HM
  have c0 := HM.out.at0
  have c6 := HM.out.at6
  go_wp2_with fail
  clear c0
  refine (HM.out.put 7 2 ix _ _ _ rfl (rfl) rfl (by decide) (by omega) (by omega)).mono ?_
  rintro e w6 ⟨rfl, hm⟩
  replace HM := hid hm
  clear hm c6
  have c7 := HM.out.at7
  go_wp2_with fail
  refine (HM.out.put 9 4 sm _ _ _ rfl (rfl) rfl (by decide) (by omega) (by omega)).mono ?_
  rintro e w7 ⟨rfl, hm⟩
  replace HM := hid hm
  clear hm c7
  go_wp2_with fail
  refine (HM.out.bytes HEQ.out).mono ?_
  rintro e w9 ⟨rfl, hm⟩
  replace HM := hid hm
  clear hm
  go_wp2_with fail
  go_ret2
  exact ⟨rfl, HM.out.below⟩
set_option maxRecDepth 100000 in
set_option maxHeartbeats 2000000 in
theorem encode_abort (tx ix : Nat) (w : World) (hL : Lst w) (h : mayE 3 tx ix 0 0 ⟨#[]⟩ 0 0) :
    Calls Tryd.prog 9 #[.agg (entC 3 tx ix 0 0 ⟨#[]⟩ 0 0)] w fun e w' => e = .returned (.tuple #[.string ⟨(encE 3 tx ix 0 0 [] 0 0).toArray⟩, .int .i64 0]) ∧ Below w.heap.size w w' := by
  have HC := hid fun (V : World) => check_yes 3 tx ix 0 0 0 0 ⟨#[]⟩ V h
  obtain ⟨h1, h2, h3, h4, hr⟩ := h
  have HEQ := hid (puts_abort tx ix 0 0 [] 0 0)
  have HL := hid hL
  have HN := hid fun (V : World) => new_area (7) (7) (rfl) (by omega) V
  clear hL hr
  go_enter Tryd.func9, Tryd.ntmps9
  go_wp2_with fail
  refine (HC.out _).mono ?_
  rintro e w1 ⟨rfl, hb⟩
  have HB := hid (((Below.refl w.heap.size w).alloc (Nat.le_refl _) _).trans (hb.mono (by simp)))
  have HE := hid (show w1.heap[w.heap.size]? = some (.cells (entC 3 tx ix 0 0 ⟨#[]⟩ 0 0) 32 (0, 0)) from (hb.block _ (by simp)).trans (heap_alloc_new _ _))
  have HL1 := hid (HL.out.below HB.out)
  have c0 : w1.cell? ⟨w.heap.size, 0, none⟩ = some (.int .i64 3) := by rw [cell_of_row _ _ _ _ _ _ HE.out]; rfl
  have c5 : w1.cell? ⟨w.heap.size, 5, none⟩ = some (.string (⟨#[]⟩ : ByteArray)) := by rw [cell_of_row _ _ _ _ _ _ HE.out]; rfl
  have g1 := HL1.out.c3
  clear hb
  go_wp2_with fail
  go_region_held3 (fun w' => w'.cell? ⟨w.heap.size, 0, none⟩ = some (.int .i64 3) ∧ w'.cell? ⟨w.heap.size, 5, none⟩ = some (.string (⟨#[]⟩ : ByteArray)) ∧ w'.cell? ⟨0, 3, none⟩ = some (.int .i64 7)) (first | exact ⟨c0, c5, g1⟩ | exact q1 | go_keep)
    (first
      | (go_at_call 19; refine (HN.out _).mono ?_; rintro e w2 ⟨rfl, ha, hb⟩; have HM := hid (em_new HB.out HE.out ha hb); have q1 := em_cells3 HL.out HM.out; clear ha hb)
      | fail)
  clear q1 c0 c5 g1 HN HL1 HE HB
  generalize w1.heap.size = B at HM ⊢
  have c0 := HM.out.at0
  go_wp2_with fail
  refine (HM.out.put 0 1 3 _ _ _ rfl (rfl) rfl (by decide) (by omega) (by omega)).mono ?_
  rintro e w3 ⟨rfl, hm⟩
  replace HM := hid hm
  clear hm c0
  have c1 := HM.out.at1
  go_wp2_with fail
  refine (HM.out.put 1 4 tx _ _ _ rfl (rfl) rfl (by decide) (by omega) (by omega)).mono ?_
  rintro e w4 ⟨rfl, hm⟩
  replace HM := hid hm
  clear hm c1
  have c2 := HM.out.at2
  go_wp2_with fail
  refine (HM.out.put 5 2 ix _ _ _ rfl (rfl) rfl (by decide) (by omega) (by omega)).mono ?_
  rintro e w5 ⟨rfl, hm⟩
  replace HM := hid hm
  clear hm c2
  rw [puts_head] at HM
  have c0 := HM.out.at0
  go_wp2_with fail
  clear c0
  refine (HM.out.bytes HEQ.out).mono ?_
  rintro e w9 ⟨rfl, hm⟩
  replace HM := hid hm
  clear hm
  go_wp2_with fail
  go_ret2
  exact ⟨rfl, HM.out.below⟩
end Go.Proofs.YtigaddpjmgncmaaDoor.En
