/- Merged out of PgRef, PpSmall. -/
import Derived.Test.YtgihpdhkjneimaaGreatDoorP04
import Derived.Deep.RegionHeld3
import Derived.IntWalk
import Derived.Test.YtgihpdhkjneimaaGreatDoorP01
/- Seal of the document's answer: what it returns, whatever page it is called with. -/
namespace Go.Proofs.YtgihpdhkjneimaaGreatDoor.Pg
open Go.RowKit
open Go.Lib (hid)
open Go.Proofs.YtgihpdhkjneimaaGreatDoor.Fd (Area Row Upd back_run rowOf be be_length be_at beB num getAt putAt on_below on_upd)
open Go.Proofs.YtgihpdhkjneimaaGreatDoor.Sm (U B32 sumB U_lo U_hi)

/-- a number in so many bytes, as the document's answer makes it -/
def wideS (x y : Int) : Array UInt8 := (be y.toNat x.toNat).toArray
theorem wideS_size (x y : Int) : (wideS x y).size = y.toNat := by simp [wideS, be_length]
theorem wide_z (x y : Int) (w : World) (h0 : 0 ≤ x) (h1 : x ≤ 4611686018427387904) (h2 : 0 ≤ y) (h3 : y ≤ 8) :
    Calls Tryz.prog 84 #[.int .i64 x, .int .i64 y] w fun e w' => e = .returned (.string ⟨wideS x y⟩) ∧ Below w.heap.size w w' := by
  have hx : ((x.toNat : Nat) : Int) = x := by omega
  have hy : ((y.toNat : Nat) : Int) = y := by omega
  have := wide_any x.toNat y.toNat w (by omega) (by omega)
  rw [hx, hy] at this
  exact this

theorem Box.drew {w : World} {P : Nat} {k n : Int} {b : ByteArray} (h : Box w P k n b) : Box w.drew P k n b := ⟨h.c0, h.c1, h.c2, h.lt⟩
/-- what stays behind a call, whether a draw stands ahead of it or not -/
structure Stay (w wr : World) (k n : Int) (b : ByteArray) : Prop where
  box : Box wr w.heap.size k n b
  below : Below w.heap.size w wr
theorem Stay.on {w wr w' : World} {k n : Int} {b : ByteArray} (h : Stay w wr k n b) (hb : Below wr.heap.size wr w') : Stay w w' k n b :=
  ⟨h.box.below hb, (on_below (hid h.below) hb).out⟩
theorem Stay.drew {w wr : World} {k n : Int} {b : ByteArray} (h : Stay w wr k n b) : Stay w wr.drew k n b := ⟨h.box.drew, h.below.drew⟩
theorem Stay.made {w wr : World} {k n : Int} {b : ByteArray} (h : Stay w wr k n b) (x : Array Value) (t : TypeId) : Stay w (wr.alloc (.cells x t)) k n b :=
  h.on ((Below.refl _ _).alloc (Nat.le_refl _) _)

theorem row_made (n : Nat) (w : World) : Row (w.alloc (.cells (zcells n) 5)) w.heap.size (zs n) := by
  unfold Row; rw [heap_alloc_new, zcells_row]
theorem row_made_d (n : Nat) (w : World) : Row (w.alloc (.cells (zcells n) 5)).drew w.heap.size (zs n) := row_made n w
set_option maxRecDepth 100000 in
theorem row_conv {w : World} {B n : Nat} (h : Row w B (zs n)) :
    (convert 121 9 (.slice (some ⟨B, 0, none⟩) n n)).run Tryz.prog w = .ok (.string ⟨(zs n).toArray⟩) w := by
  have := back_run h 0 n n (by rw [zs_length]; omega)
  have e : getAt (zs n) 0 n = zs n := by
    have := Fd.getAt_all (zs n); rwa [zs_length] at this
  rwa [e] at this

theorem wpAnyH_more {P : Program} {md : Region.Mode} {ops : Array Oper} {Q : Exit → Act → World → Prop} {S S' : World → Prop} (h : ∀ w, S' w → S w) :
    ∀ (fuel : Nat) (listed : Array Bool) (a : Act) (w : World), wpAnyH P md ops Q S' fuel listed a w → wpAnyH P md ops Q S fuel listed a w
  | 0, _, _, _, g => g
  | fuel + 1, _, _, _, g => ⟨g.1, fun i hi => wpOp_mono (fun _ _ g' => ⟨h _ g'.1, wpAnyH_more h fuel _ _ _ g'.2⟩) (g.2 i hi)⟩

/-- the region's operations, one by one -/
def rop0 : Oper := { dst := some 8, op := Op.fieldAddr 69 (Operand.tmp 1) 0, type := 0, pos := "ref.go:46", after := #[], guard := none }
def rop1 : Oper := { dst := some 9, op := Op.load 3 (Operand.tmp 8), type := 3, pos := "ref.go:46", after := #[{ on := 0, ground := Ground.data }], guard := none }
def rop2 : Oper := { dst := some 10, op := Op.call { callee := Callee.value (Operand.func 84), args := #[Operand.tmp 9, Operand.const (Value.int IntKind.i64 1)], argTypes := #[3, 3] }, type := 9, pos := "ref.go:46", after := #[{ on := 1, ground := Ground.data }], guard := none }
def rop3 : Oper := { dst := some 11, op := Op.call { callee := Callee.value (Operand.func 84), args := #[Operand.const (Value.int IntKind.i64 0), Operand.const (Value.int IntKind.i64 1)], argTypes := #[3, 3] }, type := 9, pos := "ref.go:46", after := #[{ on := 2, ground := Ground.chain }], guard := none }
def rop4 : Oper := { dst := some 12, op := Op.binOp BinOp.add 9 (Operand.tmp 10) (Operand.tmp 11) 9, type := 9, pos := "ref.go:46", after := #[{ on := 2, ground := Ground.data }, { on := 3, ground := Ground.data }], guard := none }
def rop5 : Oper := { dst := some 13, op := Op.fieldAddr 69 (Operand.tmp 1) 2, type := 0, pos := "ref.go:46", after := #[], guard := none }
def rop6 : Oper := { dst := some 14, op := Op.load 9 (Operand.tmp 13), type := 9, pos := "ref.go:46", after := #[{ on := 5, ground := Ground.data }], guard := none }
def rop7 : Oper := { dst := some 15, op := Op.call { callee := Callee.builtin Builtin.len, args := #[Operand.tmp 14], argTypes := #[9] }, type := 3, pos := "ref.go:46", after := #[{ on := 6, ground := Ground.data }], guard := none }
def rop8 : Oper := { dst := some 16, op := Op.call { callee := Callee.value (Operand.func 84), args := #[Operand.tmp 15, Operand.const (Value.int IntKind.i64 2)], argTypes := #[3, 3] }, type := 9, pos := "ref.go:46", after := #[{ on := 7, ground := Ground.data }, { on := 3, ground := Ground.chain }], guard := none }
def rop9 : Oper := { dst := some 17, op := Op.binOp BinOp.add 9 (Operand.tmp 12) (Operand.tmp 16) 9, type := 9, pos := "ref.go:46", after := #[{ on := 4, ground := Ground.data }, { on := 8, ground := Ground.data }], guard := none }
def rop10 : Oper := { dst := some 18, op := Op.fieldAddr 69 (Operand.tmp 1) 1, type := 0, pos := "ref.go:46", after := #[], guard := none }
def rop11 : Oper := { dst := some 19, op := Op.load 3 (Operand.tmp 18), type := 3, pos := "ref.go:46", after := #[{ on := 10, ground := Ground.data }], guard := none }
def rop12 : Oper := { dst := some 20, op := Op.call { callee := Callee.value (Operand.func 84), args := #[Operand.tmp 19, Operand.const (Value.int IntKind.i64 4)], argTypes := #[3, 3] }, type := 9, pos := "ref.go:46", after := #[{ on := 11, ground := Ground.data }, { on := 8, ground := Ground.chain }], guard := none }
def rop13 : Oper := { dst := some 21, op := Op.binOp BinOp.add 9 (Operand.tmp 17) (Operand.tmp 20) 9, type := 9, pos := "ref.go:46", after := #[{ on := 9, ground := Ground.data }, { on := 12, ground := Ground.data }], guard := none }
def rop14 : Oper := { dst := some 22, op := Op.fieldAddr 69 (Operand.tmp 1) 2, type := 0, pos := "ref.go:46", after := #[], guard := none }
def rop15 : Oper := { dst := some 23, op := Op.load 9 (Operand.tmp 22), type := 9, pos := "ref.go:46", after := #[{ on := 14, ground := Ground.data }], guard := none }
def rop16 : Oper := { dst := some 24, op := Op.binOp BinOp.add 9 (Operand.tmp 21) (Operand.tmp 23) 9, type := 9, pos := "ref.go:46", after := #[{ on := 13, ground := Ground.data }, { on := 15, ground := Ground.data }], guard := none }
def rop17 : Oper := { dst := some 25, op := Op.fieldAddr 69 (Operand.tmp 1) 2, type := 0, pos := "ref.go:46", after := #[], guard := none }
def rop18 : Oper := { dst := some 26, op := Op.load 9 (Operand.tmp 25), type := 9, pos := "ref.go:46", after := #[{ on := 17, ground := Ground.data }], guard := none }
def rop19 : Oper := { dst := some 27, op := Op.call { callee := Callee.builtin Builtin.len, args := #[Operand.tmp 26], argTypes := #[9] }, type := 3, pos := "ref.go:46", after := #[{ on := 18, ground := Ground.data }], guard := none }
def rop20 : Oper := { dst := some 28, op := Op.binOp BinOp.sub 3 (Operand.const (Value.int IntKind.i64 244)) (Operand.tmp 27) 3, type := 3, pos := "ref.go:46", after := #[{ on := 19, ground := Ground.data }], guard := none }
def rop21 : Oper := { dst := some 29, op := Op.makeSlice 121 (Operand.tmp 28) (Operand.tmp 28), type := 121, pos := "ref.go:46", after := #[{ on := 20, ground := Ground.data }, { on := 20, ground := Ground.data }], guard := none }
def rop22 : Oper := { dst := some 30, op := Op.convert 121 9 (Operand.tmp 29), type := 9, pos := "ref.go:46", after := #[{ on := 21, ground := Ground.data }], guard := none }
def rop23 : Oper := { dst := some 31, op := Op.binOp BinOp.add 9 (Operand.tmp 24) (Operand.tmp 30) 9, type := 9, pos := "ref.go:46", after := #[{ on := 16, ground := Ground.data }, { on := 22, ground := Ground.data }], guard := none }
def rop24 : Oper := { dst := some 4, op := Op.assign (Operand.tmp 31), type := 9, pos := "ref.go:46", after := #[{ on := 23, ground := Ground.data }, { on := 12, ground := Ground.chain }, { on := 0, ground := Ground.phase }, { on := 1, ground := Ground.phase }, { on := 2, ground := Ground.phase }, { on := 3, ground := Ground.phase }, { on := 4, ground := Ground.phase }, { on := 5, ground := Ground.phase }, { on := 6, ground := Ground.phase }, { on := 7, ground := Ground.phase }, { on := 8, ground := Ground.phase }, { on := 9, ground := Ground.phase }, { on := 10, ground := Ground.phase }, { on := 11, ground := Ground.phase }, { on := 12, ground := Ground.phase }, { on := 13, ground := Ground.phase }, { on := 14, ground := Ground.phase }, { on := 15, ground := Ground.phase }, { on := 16, ground := Ground.phase }, { on := 17, ground := Ground.phase }, { on := 18, ground := Ground.phase }, { on := 19, ground := Ground.phase }, { on := 20, ground := Ground.phase }, { on := 21, ground := Ground.phase }, { on := 22, ground := Ground.phase }, { on := 23, ground := Ground.phase }], guard := none }
/-- what the region keeps: the page's cells -/
def KeepS (w : World) (k n : Int) (b : ByteArray) (w' : World) : Prop :=
  w'.cell? ⟨w.heap.size, 0, none⟩ = some (.int .i64 k) ∧ w'.cell? ⟨w.heap.size, 1, none⟩ = some (.int .i64 n) ∧ w'.cell? ⟨w.heap.size, 2, none⟩ = some (.string b)

/-- .. and the bytes 0 that were made -/
def KeepR (w : World) (k n : Int) (b : ByteArray) (B m : Nat) (w' : World) : Prop := KeepS w k n b w' ∧ Row w' B (zs m)
theorem head_str (k n : Nat) (b : ByteArray) : ((⟨wideS (k : Int) 1⟩ ++ ⟨wideS 0 1⟩ ++ ⟨wideS (b.size : Int) 2⟩ ++ ⟨wideS (n : Int) 4⟩ ++ b ++ ⟨(zs (244 - b.size)).toArray⟩ : ByteArray)) = ⟨(headL k n b.data.toList).toArray⟩ := by
  apply ByteArray.ext
  simp [ByteArray.data_append, wideS, headL]
theorem refSum_l (l : List UInt8) (w : World) (h : l.length ≤ 256) :
    Calls Tryz.prog 108 #[.string ⟨l.toArray⟩] w fun e w' => e = .returned (.int .u32 (U (sumB l))) ∧ w = w' :=
  Sm.refSum_any ⟨l.toArray⟩ w (by unfold maxLen; show l.toArray.size ≤ _; rw [List.size_toArray]; omega)
theorem low_sum (l : List UInt8) (w : World) :
    Calls Tryz.prog 107 #[.int .u32 (U (sumB l))] w fun e w' => e = .returned (.string ⟨(lowL (sumN l)).toArray⟩) ∧ Below w.heap.size w w' := low_any (sumB l) w
theorem seal_str (l m : List UInt8) : ((⟨l.toArray⟩ ++ ⟨m.toArray⟩ : ByteArray)) = ⟨(l ++ m).toArray⟩ := by
  apply ByteArray.ext
  simp [ByteArray.data_append]

theorem zmake_z (s : Nat) (hs : s ≤ 244) (w : World) :
    (Instr.makeSlice 121 (.int .i64 (244 - (s : Int))) (.int .i64 (244 - (s : Int)))).run Tryz.prog w = .ok (.slice (some ⟨w.heap.size, 0, none⟩) (244 - s) (244 - s)) (w.alloc (.cells (zcells (244 - s)) 5)) := by
  have := zmake (244 - s) (by omega) w
  rwa [show ((244 - s : Nat) : Int) = 244 - (s : Int) by omega] at this

set_option maxRecDepth 100000 in
set_option maxHeartbeats 4000000 in
theorem refSeal_yes (k n : Nat) (b : ByteArray) (w : World) (h : mayP k n b.size) :
    Calls Tryz.prog 82 #[.agg #[.int .i64 k, .int .i64 n, .string b]] w fun e w' => e = .returned (.tuple #[.string ⟨(sealL k n b.data.toList).toArray⟩, .int .i64 0]) ∧ Below w.heap.size w w' := by
  have H := hid h
  unfold mayP at h
  obtain ⟨h1, h2, h3, h4, h5⟩ := h
  have hm := zmake_z b.size h5
  have s1 : (wideS (k : Int) 1).size = 1 := wideS_size _ _
  have s2 : (wideS 0 1).size = 1 := wideS_size _ _
  have s3 : (wideS (b.size : Int) 2).size = 2 := wideS_size _ _
  have s4 : (wideS (n : Int) 4).size = 4 := wideS_size _ _
  have s5 : (zs (244 - b.size)).length = 244 - b.size := zs_length _
  have h6 : (b.size : Int) ≤ 244 := by omega
  have h7 : (0 : Int) ≤ (b.size : Int) := by omega
  have hz := fun w => zback (244 - b.size) w
  have hw : IntKind.i64.wrap (244 - (b.size : Int)) = 244 - (b.size : Int) := IntWalk.i64_in _ (by omega)
  have q1 : (9223372036854775807 < 1 + 1 + 2 + 4 + b.size) = False := by simp; omega
  have q2 : (9223372036854775807 < 8 + b.size) = False := by simp; omega
  have q3 : (9223372036854775807 < 1 + 1 + 2 + 4 + b.size + (244 - b.size)) = False := by simp; omega
  have q4 : (9223372036854775807 < 8 + b.size + (244 - b.size)) = False := by simp; omega
  go_enter Tryz.func82, Tryz.ntmps82
  go_wp2_with (first
    | (go_at_call 126; refine (refMay_yes k n b _ H.out).mono ?_; rintro e w1 ⟨rfl, hb⟩; have HP := hid (Stay.mk ((Box.made w k n b).below hb) (((Below.refl w.heap.size w).alloc (Nat.le_refl _) (.cells #[.int .i64 k, .int .i64 n, .string b] 69)).trans (hb.mono (by simp)))); clear hb; have c0 := HP.out.box.c0; have c1 := HP.out.box.c1; have c2 := HP.out.box.c2; have c3 := HP.out.box.lt))
  have HD := hid (head_str k n b)
  have HL : Hid ((headL k n b.data.toList).length = 252) := hid (headL_length k n _ (by simp; omega))
  have HZL := hid (lowL_length (sumN (headL k n b.data.toList)))
  clear c0 c1 c2 c3 hz
  refine wp_region_held_drew (S := KeepS w k n b) (by kernel_rfl) (by exact ⟨HP.out.box.c0, HP.out.box.c1, HP.out.box.c2⟩) (fun hHeld => ?_)
  refine wpAnyH_take (i := 0) (oi := rop0) (v := ?v0) rfl (by kernel_rfl) (by kernel_rfl) (by kernel_rfl) (fun _ _ _ h => h) (Or.inl ⟨by rfl, ?y0⟩) (by assumption) ?r0
  case y0 => (intro w hSw; obtain ⟨s0, s1, s2⟩ := hSw; unfold rop0; go_simp; try with_reducible rfl)
  simp only [rop0, Act.put, List.setIfInBounds_toArray, List.set_cons_zero, List.set_cons_succ]
  refine wpAnyH_take (i := 1) (oi := rop1) (v := ?v1) rfl (by kernel_rfl) (by kernel_rfl) (by kernel_rfl) (fun _ _ _ h => h) (Or.inl ⟨by rfl, ?y1⟩) (by assumption) ?r1
  case y1 => (intro w hSw; obtain ⟨s0, s1, s2⟩ := hSw; unfold rop1; go_simp; try with_reducible rfl)
  simp only [rop1, Act.put, List.setIfInBounds_toArray, List.set_cons_zero, List.set_cons_succ]
  refine wpAnyH_take (i := 5) (oi := rop5) (v := ?v5) rfl (by kernel_rfl) (by kernel_rfl) (by kernel_rfl) (fun _ _ _ h => h) (Or.inl ⟨by rfl, ?y5⟩) (by assumption) ?r5
  case y5 => (intro w hSw; obtain ⟨s0, s1, s2⟩ := hSw; unfold rop5; go_simp; try with_reducible rfl)
  simp only [rop5, Act.put, List.setIfInBounds_toArray, List.set_cons_zero, List.set_cons_succ]
  refine wpAnyH_take (i := 6) (oi := rop6) (v := ?v6) rfl (by kernel_rfl) (by kernel_rfl) (by kernel_rfl) (fun _ _ _ h => h) (Or.inl ⟨by rfl, ?y6⟩) (by assumption) ?r6
  case y6 => (intro w hSw; obtain ⟨s0, s1, s2⟩ := hSw; unfold rop6; go_simp; try with_reducible rfl)
  simp only [rop6, Act.put, List.setIfInBounds_toArray, List.set_cons_zero, List.set_cons_succ]
  refine wpAnyH_take (i := 7) (oi := rop7) (v := ?v7) rfl (by kernel_rfl) (by kernel_rfl) (by kernel_rfl) (fun _ _ _ h => h) (Or.inl ⟨by rfl, ?y7⟩) (by assumption) ?r7
  case y7 => (intro w hSw; obtain ⟨s0, s1, s2⟩ := hSw; unfold rop7; go_simp; try with_reducible rfl)
  simp only [rop7, Act.put, List.setIfInBounds_toArray, List.set_cons_zero, List.set_cons_succ]
  refine wpAnyH_take (i := 10) (oi := rop10) (v := ?v10) rfl (by kernel_rfl) (by kernel_rfl) (by kernel_rfl) (fun _ _ _ h => h) (Or.inl ⟨by rfl, ?y10⟩) (by assumption) ?r10
  case y10 => (intro w hSw; obtain ⟨s0, s1, s2⟩ := hSw; unfold rop10; go_simp; try with_reducible rfl)
  simp only [rop10, Act.put, List.setIfInBounds_toArray, List.set_cons_zero, List.set_cons_succ]
  refine wpAnyH_take (i := 11) (oi := rop11) (v := ?v11) rfl (by kernel_rfl) (by kernel_rfl) (by kernel_rfl) (fun _ _ _ h => h) (Or.inl ⟨by rfl, ?y11⟩) (by assumption) ?r11
  case y11 => (intro w hSw; obtain ⟨s0, s1, s2⟩ := hSw; unfold rop11; go_simp; try with_reducible rfl)
  simp only [rop11, Act.put, List.setIfInBounds_toArray, List.set_cons_zero, List.set_cons_succ]
  refine wpAnyH_take (i := 14) (oi := rop14) (v := ?v14) rfl (by kernel_rfl) (by kernel_rfl) (by kernel_rfl) (fun _ _ _ h => h) (Or.inl ⟨by rfl, ?y14⟩) (by assumption) ?r14
  case y14 => (intro w hSw; obtain ⟨s0, s1, s2⟩ := hSw; unfold rop14; go_simp; try with_reducible rfl)
  simp only [rop14, Act.put, List.setIfInBounds_toArray, List.set_cons_zero, List.set_cons_succ]
  refine wpAnyH_take (i := 15) (oi := rop15) (v := ?v15) rfl (by kernel_rfl) (by kernel_rfl) (by kernel_rfl) (fun _ _ _ h => h) (Or.inl ⟨by rfl, ?y15⟩) (by assumption) ?r15
  case y15 => (intro w hSw; obtain ⟨s0, s1, s2⟩ := hSw; unfold rop15; go_simp; try with_reducible rfl)
  simp only [rop15, Act.put, List.setIfInBounds_toArray, List.set_cons_zero, List.set_cons_succ]
  refine wpAnyH_take (i := 17) (oi := rop17) (v := ?v17) rfl (by kernel_rfl) (by kernel_rfl) (by kernel_rfl) (fun _ _ _ h => h) (Or.inl ⟨by rfl, ?y17⟩) (by assumption) ?r17
  case y17 => (intro w hSw; obtain ⟨s0, s1, s2⟩ := hSw; unfold rop17; go_simp; try with_reducible rfl)
  simp only [rop17, Act.put, List.setIfInBounds_toArray, List.set_cons_zero, List.set_cons_succ]
  refine wpAnyH_take (i := 18) (oi := rop18) (v := ?v18) rfl (by kernel_rfl) (by kernel_rfl) (by kernel_rfl) (fun _ _ _ h => h) (Or.inl ⟨by rfl, ?y18⟩) (by assumption) ?r18
  case y18 => (intro w hSw; obtain ⟨s0, s1, s2⟩ := hSw; unfold rop18; go_simp; try with_reducible rfl)
  simp only [rop18, Act.put, List.setIfInBounds_toArray, List.set_cons_zero, List.set_cons_succ]
  refine wpAnyH_take (i := 19) (oi := rop19) (v := ?v19) rfl (by kernel_rfl) (by kernel_rfl) (by kernel_rfl) (fun _ _ _ h => h) (Or.inl ⟨by rfl, ?y19⟩) (by assumption) ?r19
  case y19 => (intro w hSw; obtain ⟨s0, s1, s2⟩ := hSw; unfold rop19; go_simp; try with_reducible rfl)
  simp only [rop19, Act.put, List.setIfInBounds_toArray, List.set_cons_zero, List.set_cons_succ]
  refine wpAnyH_take (i := 20) (oi := rop20) (v := ?v20) rfl (by kernel_rfl) (by kernel_rfl) (by kernel_rfl) (fun _ _ _ h => h) (Or.inl ⟨by rfl, ?y20⟩) (by assumption) ?r20
  case y20 => (intro w hSw; obtain ⟨s0, s1, s2⟩ := hSw; unfold rop20; go_simp; try with_reducible rfl)
  simp only [rop20, Act.put, List.setIfInBounds_toArray, List.set_cons_zero, List.set_cons_succ]
  refine wpAnyH_ready (rs := [2, 21]) (by kernel_rfl) (by simp) ?_
  refine AllReadyH.cons (o := rop2) rfl (fun K hK => ?_) ?_
  · skip
    unfold rop2
    go_simp
    (go_at_call 84; refine (wide_z _ _ _ (by omega) (by omega) (by omega) (by omega)).mono ?_; rintro e w5 ⟨rfl, hb⟩)
    (first | replace HP := hid (HP.out.on hb) | replace HP := hid (HP.out.drew.on hb))
    clear hb
    skip
    refine hK.out _ _ ?_ (fun hHeld => ?_)
    · exact ⟨HP.out.box.c0, HP.out.box.c1, HP.out.box.c2⟩
    clear hK K
    try simp only [Act.put, List.setIfInBounds_toArray, List.set_cons_zero, List.set_cons_succ]
    refine wpAnyH_ready (rs := [3, 21]) (by kernel_rfl) (by simp) ?_
    refine AllReadyH.cons (o := rop3) rfl (fun K hK => ?_) ?_
    · skip
      unfold rop3
      go_simp
      (go_at_call 84; refine (wide_z _ _ _ (by omega) (by omega) (by omega) (by omega)).mono ?_; rintro e w5 ⟨rfl, hb⟩)
      (first | replace HP := hid (HP.out.on hb) | replace HP := hid (HP.out.drew.on hb))
      clear hb
      skip
      refine hK.out _ _ ?_ (fun hHeld => ?_)
      · exact ⟨HP.out.box.c0, HP.out.box.c1, HP.out.box.c2⟩
      clear hK K
      try simp only [Act.put, List.setIfInBounds_toArray, List.set_cons_zero, List.set_cons_succ]
      refine wpAnyH_take (i := 4) (oi := rop4) (v := ?v4) rfl (by kernel_rfl) (by kernel_rfl) (by kernel_rfl) (fun _ _ _ h => h) (Or.inl ⟨by rfl, ?y4⟩) (by assumption) ?r4
      case y4 => (intro w hSw; obtain ⟨s0, s1, s2⟩ := hSw; unfold rop4; go_simp; try with_reducible rfl)
      simp only [rop4, Act.put, List.setIfInBounds_toArray, List.set_cons_zero, List.set_cons_succ]
      refine wpAnyH_ready (rs := [8, 21]) (by kernel_rfl) (by simp) ?_
      refine AllReadyH.cons (o := rop8) rfl (fun K hK => ?_) ?_
      · skip
        unfold rop8
        go_simp
        (go_at_call 84; refine (wide_z _ _ _ (by omega) (by omega) (by omega) (by omega)).mono ?_; rintro e w5 ⟨rfl, hb⟩)
        (first | replace HP := hid (HP.out.on hb) | replace HP := hid (HP.out.drew.on hb))
        clear hb
        skip
        refine hK.out _ _ ?_ (fun hHeld => ?_)
        · exact ⟨HP.out.box.c0, HP.out.box.c1, HP.out.box.c2⟩
        clear hK K
        try simp only [Act.put, List.setIfInBounds_toArray, List.set_cons_zero, List.set_cons_succ]
        refine wpAnyH_take (i := 9) (oi := rop9) (v := ?v9) rfl (by kernel_rfl) (by kernel_rfl) (by kernel_rfl) (fun _ _ _ h => h) (Or.inl ⟨by rfl, ?y9⟩) (by assumption) ?r9
        case y9 => (intro w hSw; obtain ⟨s0, s1, s2⟩ := hSw; unfold rop9; go_simp; try with_reducible rfl)
        simp only [rop9, Act.put, List.setIfInBounds_toArray, List.set_cons_zero, List.set_cons_succ]
        refine wpAnyH_ready (rs := [12, 21]) (by kernel_rfl) (by simp) ?_
        refine AllReadyH.cons (o := rop12) rfl (fun K hK => ?_) ?_
        · skip
          unfold rop12
          go_simp
          (go_at_call 84; refine (wide_z _ _ _ (by omega) (by omega) (by omega) (by omega)).mono ?_; rintro e w5 ⟨rfl, hb⟩)
          (first | replace HP := hid (HP.out.on hb) | replace HP := hid (HP.out.drew.on hb))
          clear hb
          skip
          refine hK.out _ _ ?_ (fun hHeld => ?_)
          · exact ⟨HP.out.box.c0, HP.out.box.c1, HP.out.box.c2⟩
          clear hK K
          try simp only [Act.put, List.setIfInBounds_toArray, List.set_cons_zero, List.set_cons_succ]
          refine wpAnyH_take (i := 13) (oi := rop13) (v := ?v13) rfl (by kernel_rfl) (by kernel_rfl) (by kernel_rfl) (fun _ _ _ h => h) (Or.inl ⟨by rfl, ?y13⟩) (by assumption) ?r13
          case y13 => (intro w hSw; obtain ⟨s0, s1, s2⟩ := hSw; unfold rop13; go_simp; try with_reducible rfl)
          simp only [rop13, Act.put, List.setIfInBounds_toArray, List.set_cons_zero, List.set_cons_succ]
          refine wpAnyH_take (i := 16) (oi := rop16) (v := ?v16) rfl (by kernel_rfl) (by kernel_rfl) (by kernel_rfl) (fun _ _ _ h => h) (Or.inl ⟨by rfl, ?y16⟩) (by assumption) ?r16
          case y16 => (intro w hSw; obtain ⟨s0, s1, s2⟩ := hSw; unfold rop16; go_simp; try with_reducible rfl)
          simp only [rop16, Act.put, List.setIfInBounds_toArray, List.set_cons_zero, List.set_cons_succ]
          refine wpAnyH_ready (rs := [21]) (by kernel_rfl) (by simp) ?_
          refine AllReadyH.cons (o := rop21) rfl (fun K hK => ?_) (by exact AllReadyH.nil)
          unfold rop21
          go_simp
          refine hK.out _ _ ?_ (fun hHeld => ?_)
          · exact ⟨(HP.out.made _ _).box.c0, (HP.out.made _ _).box.c1, (HP.out.made _ _).box.c2⟩
          clear hK K
          try simp only [Act.put, List.setIfInBounds_toArray, List.set_cons_zero, List.set_cons_succ]
          have HR := hid (row_made (244 - b.size) w5)
          replace HP := hid (HP.out.made (zcells (244 - b.size)) 5)
          have hHeld2 : KeepR w k n b w5.heap.size (244 - b.size) _ := ⟨hHeld, HR.out⟩
          refine wpAnyH_more (S' := KeepR w k n b w5.heap.size (244 - b.size)) (fun _ h => h.1) _ _ _ _ ?_
          refine wpAnyH_take (i := 22) (oi := rop22) (v := ?v22_1) rfl (by kernel_rfl) (by kernel_rfl) (by kernel_rfl) (fun _ _ _ h => h) (Or.inl ⟨by rfl, ?y22_1⟩) (by assumption) ?r22_1
          case y22_1 => (intro w hSw; obtain ⟨⟨s0, s1, s2⟩, sr⟩ := hSw; have hcv := row_conv sr; unfold rop22; go_simp; try with_reducible rfl)
          simp only [rop22, Act.put, List.setIfInBounds_toArray, List.set_cons_zero, List.set_cons_succ]
          refine wpAnyH_take (i := 23) (oi := rop23) (v := ?v23_2) rfl (by kernel_rfl) (by kernel_rfl) (by kernel_rfl) (fun _ _ _ h => h) (Or.inl ⟨by rfl, ?y23_2⟩) (by assumption) ?r23_2
          case y23_2 => (intro w hSw; obtain ⟨⟨s0, s1, s2⟩, sr⟩ := hSw; have hcv := row_conv sr; unfold rop23; go_simp; try with_reducible rfl)
          simp only [rop23, Act.put, List.setIfInBounds_toArray, List.set_cons_zero, List.set_cons_succ]
          refine wpAnyH_take (i := 24) (oi := rop24) (v := ?v24_3) rfl (by kernel_rfl) (by kernel_rfl) (by kernel_rfl) (fun _ _ _ h => h) (Or.inl ⟨by rfl, ?y24_3⟩) (by assumption) ?r24_3
          case y24_3 => (intro w hSw; obtain ⟨⟨s0, s1, s2⟩, sr⟩ := hSw; have hcv := row_conv sr; unfold rop24; go_simp; try with_reducible rfl)
          simp only [rop24, Act.put, List.setIfInBounds_toArray, List.set_cons_zero, List.set_cons_succ]
          refine wpAnyH_done (by kernel_rfl) ?_ _
          rw [HD.out]
          have h252 := HL.out; have hl4 := HZL.out
          go_wp2_with (first | (go_at_call 108; refine (refSum_l (headL k n b.data.toList) _ (by have := HL.out; omega)).mono ?_; rintro e w6 ⟨rfl, rfl⟩) | (go_at_call 107; refine (low_sum (headL k n b.data.toList) _).mono ?_; rintro e w6 ⟨rfl, hb⟩; replace HP := hid (HP.out.on hb); clear hb))
          go_ret2
          exact ⟨by rw [seal_str]; rfl, HP.out.below⟩
        · skip
          refine AllReadyH.cons (o := rop21) rfl (fun K hK => ?_) (by exact AllReadyH.nil)
          unfold rop21
          go_simp
          refine hK.out _ _ ?_ (fun hHeld => ?_)
          · exact ⟨(HP.out.made _ _).box.c0, (HP.out.made _ _).box.c1, (HP.out.made _ _).box.c2⟩
          clear hK K
          try simp only [Act.put, List.setIfInBounds_toArray, List.set_cons_zero, List.set_cons_succ]
          have HR := hid (row_made (244 - b.size) w5)
          replace HP := hid (HP.out.made (zcells (244 - b.size)) 5)
          have hHeld2 : KeepR w k n b w5.heap.size (244 - b.size) _ := ⟨hHeld, HR.out⟩
          refine wpAnyH_more (S' := KeepR w k n b w5.heap.size (244 - b.size)) (fun _ h => h.1) _ _ _ _ ?_
          refine wpAnyH_take (i := 22) (oi := rop22) (v := ?v22_4) rfl (by kernel_rfl) (by kernel_rfl) (by kernel_rfl) (fun _ _ _ h => h) (Or.inl ⟨by rfl, ?y22_4⟩) (by assumption) ?r22_4
          case y22_4 => (intro w hSw; obtain ⟨⟨s0, s1, s2⟩, sr⟩ := hSw; have hcv := row_conv sr; unfold rop22; go_simp; try with_reducible rfl)
          simp only [rop22, Act.put, List.setIfInBounds_toArray, List.set_cons_zero, List.set_cons_succ]
          refine wpAnyH_ready (rs := [12]) (by kernel_rfl) (by simp) ?_
          refine AllReadyH.cons (o := rop12) rfl (fun K hK => ?_) (by exact AllReadyH.nil)
          unfold rop12
          go_simp
          (go_at_call 84; refine (wide_z _ _ _ (by omega) (by omega) (by omega) (by omega)).mono ?_; rintro e w5 ⟨rfl, hb⟩)
          (first | (replace HR := hid (HR.out.below hb); replace HP := hid (HP.out.on hb)) | (replace HR : Hid (Row _ _ (zs (244 - b.size))) := hid (Row.below (by exact HR.out) hb); replace HP := hid (HP.out.drew.on hb)))
          clear hb
          skip
          refine hK.out _ _ ?_ (fun hHeld => ?_)
          · exact ⟨⟨HP.out.box.c0, HP.out.box.c1, HP.out.box.c2⟩, HR.out⟩
          clear hK K
          try simp only [Act.put, List.setIfInBounds_toArray, List.set_cons_zero, List.set_cons_succ]
          refine wpAnyH_take (i := 13) (oi := rop13) (v := ?v13_5) rfl (by kernel_rfl) (by kernel_rfl) (by kernel_rfl) (fun _ _ _ h => h) (Or.inl ⟨by rfl, ?y13_5⟩) (by assumption) ?r13_5
          case y13_5 => (intro w hSw; obtain ⟨⟨s0, s1, s2⟩, sr⟩ := hSw; have hcv := row_conv sr; unfold rop13; go_simp; try with_reducible rfl)
          simp only [rop13, Act.put, List.setIfInBounds_toArray, List.set_cons_zero, List.set_cons_succ]
          refine wpAnyH_take (i := 16) (oi := rop16) (v := ?v16_6) rfl (by kernel_rfl) (by kernel_rfl) (by kernel_rfl) (fun _ _ _ h => h) (Or.inl ⟨by rfl, ?y16_6⟩) (by assumption) ?r16_6
          case y16_6 => (intro w hSw; obtain ⟨⟨s0, s1, s2⟩, sr⟩ := hSw; have hcv := row_conv sr; unfold rop16; go_simp; try with_reducible rfl)
          simp only [rop16, Act.put, List.setIfInBounds_toArray, List.set_cons_zero, List.set_cons_succ]
          refine wpAnyH_take (i := 23) (oi := rop23) (v := ?v23_7) rfl (by kernel_rfl) (by kernel_rfl) (by kernel_rfl) (fun _ _ _ h => h) (Or.inl ⟨by rfl, ?y23_7⟩) (by assumption) ?r23_7
          case y23_7 => (intro w hSw; obtain ⟨⟨s0, s1, s2⟩, sr⟩ := hSw; have hcv := row_conv sr; unfold rop23; go_simp; try with_reducible rfl)
          simp only [rop23, Act.put, List.setIfInBounds_toArray, List.set_cons_zero, List.set_cons_succ]
          refine wpAnyH_take (i := 24) (oi := rop24) (v := ?v24_8) rfl (by kernel_rfl) (by kernel_rfl) (by kernel_rfl) (fun _ _ _ h => h) (Or.inl ⟨by rfl, ?y24_8⟩) (by assumption) ?r24_8
          case y24_8 => (intro w hSw; obtain ⟨⟨s0, s1, s2⟩, sr⟩ := hSw; have hcv := row_conv sr; unfold rop24; go_simp; try with_reducible rfl)
          simp only [rop24, Act.put, List.setIfInBounds_toArray, List.set_cons_zero, List.set_cons_succ]
          refine wpAnyH_done (by kernel_rfl) ?_ _
          rw [HD.out]
          have h252 := HL.out; have hl4 := HZL.out
          go_wp2_with (first | (go_at_call 108; refine (refSum_l (headL k n b.data.toList) _ (by have := HL.out; omega)).mono ?_; rintro e w6 ⟨rfl, rfl⟩) | (go_at_call 107; refine (low_sum (headL k n b.data.toList) _).mono ?_; rintro e w6 ⟨rfl, hb⟩; replace HP := hid (HP.out.on hb); clear hb))
          go_ret2
          exact ⟨by rw [seal_str]; rfl, HP.out.below⟩
      · skip
        refine AllReadyH.cons (o := rop21) rfl (fun K hK => ?_) (by exact AllReadyH.nil)
        unfold rop21
        go_simp
        refine hK.out _ _ ?_ (fun hHeld => ?_)
        · exact ⟨(HP.out.made _ _).box.c0, (HP.out.made _ _).box.c1, (HP.out.made _ _).box.c2⟩
        clear hK K
        try simp only [Act.put, List.setIfInBounds_toArray, List.set_cons_zero, List.set_cons_succ]
        have HR := hid (row_made (244 - b.size) w5)
        replace HP := hid (HP.out.made (zcells (244 - b.size)) 5)
        have hHeld2 : KeepR w k n b w5.heap.size (244 - b.size) _ := ⟨hHeld, HR.out⟩
        refine wpAnyH_more (S' := KeepR w k n b w5.heap.size (244 - b.size)) (fun _ h => h.1) _ _ _ _ ?_
        refine wpAnyH_take (i := 22) (oi := rop22) (v := ?v22_9) rfl (by kernel_rfl) (by kernel_rfl) (by kernel_rfl) (fun _ _ _ h => h) (Or.inl ⟨by rfl, ?y22_9⟩) (by assumption) ?r22_9
        case y22_9 => (intro w hSw; obtain ⟨⟨s0, s1, s2⟩, sr⟩ := hSw; have hcv := row_conv sr; unfold rop22; go_simp; try with_reducible rfl)
        simp only [rop22, Act.put, List.setIfInBounds_toArray, List.set_cons_zero, List.set_cons_succ]
        refine wpAnyH_ready (rs := [8]) (by kernel_rfl) (by simp) ?_
        refine AllReadyH.cons (o := rop8) rfl (fun K hK => ?_) (by exact AllReadyH.nil)
        unfold rop8
        go_simp
        (go_at_call 84; refine (wide_z _ _ _ (by omega) (by omega) (by omega) (by omega)).mono ?_; rintro e w5 ⟨rfl, hb⟩)
        (first | (replace HR := hid (HR.out.below hb); replace HP := hid (HP.out.on hb)) | (replace HR : Hid (Row _ _ (zs (244 - b.size))) := hid (Row.below (by exact HR.out) hb); replace HP := hid (HP.out.drew.on hb)))
        clear hb
        skip
        refine hK.out _ _ ?_ (fun hHeld => ?_)
        · exact ⟨⟨HP.out.box.c0, HP.out.box.c1, HP.out.box.c2⟩, HR.out⟩
        clear hK K
        try simp only [Act.put, List.setIfInBounds_toArray, List.set_cons_zero, List.set_cons_succ]
        refine wpAnyH_take (i := 9) (oi := rop9) (v := ?v9_10) rfl (by kernel_rfl) (by kernel_rfl) (by kernel_rfl) (fun _ _ _ h => h) (Or.inl ⟨by rfl, ?y9_10⟩) (by assumption) ?r9_10
        case y9_10 => (intro w hSw; obtain ⟨⟨s0, s1, s2⟩, sr⟩ := hSw; have hcv := row_conv sr; unfold rop9; go_simp; try with_reducible rfl)
        simp only [rop9, Act.put, List.setIfInBounds_toArray, List.set_cons_zero, List.set_cons_succ]
        refine wpAnyH_ready (rs := [12]) (by kernel_rfl) (by simp) ?_
        refine AllReadyH.cons (o := rop12) rfl (fun K hK => ?_) (by exact AllReadyH.nil)
        unfold rop12
        go_simp
        (go_at_call 84; refine (wide_z _ _ _ (by omega) (by omega) (by omega) (by omega)).mono ?_; rintro e w5 ⟨rfl, hb⟩)
        (first | (replace HR := hid (HR.out.below hb); replace HP := hid (HP.out.on hb)) | (replace HR : Hid (Row _ _ (zs (244 - b.size))) := hid (Row.below (by exact HR.out) hb); replace HP := hid (HP.out.drew.on hb)))
        clear hb
        skip
        refine hK.out _ _ ?_ (fun hHeld => ?_)
        · exact ⟨⟨HP.out.box.c0, HP.out.box.c1, HP.out.box.c2⟩, HR.out⟩
        clear hK K
        try simp only [Act.put, List.setIfInBounds_toArray, List.set_cons_zero, List.set_cons_succ]
        refine wpAnyH_take (i := 13) (oi := rop13) (v := ?v13_11) rfl (by kernel_rfl) (by kernel_rfl) (by kernel_rfl) (fun _ _ _ h => h) (Or.inl ⟨by rfl, ?y13_11⟩) (by assumption) ?r13_11
        case y13_11 => (intro w hSw; obtain ⟨⟨s0, s1, s2⟩, sr⟩ := hSw; have hcv := row_conv sr; unfold rop13; go_simp; try with_reducible rfl)
        simp only [rop13, Act.put, List.setIfInBounds_toArray, List.set_cons_zero, List.set_cons_succ]
        refine wpAnyH_take (i := 16) (oi := rop16) (v := ?v16_12) rfl (by kernel_rfl) (by kernel_rfl) (by kernel_rfl) (fun _ _ _ h => h) (Or.inl ⟨by rfl, ?y16_12⟩) (by assumption) ?r16_12
        case y16_12 => (intro w hSw; obtain ⟨⟨s0, s1, s2⟩, sr⟩ := hSw; have hcv := row_conv sr; unfold rop16; go_simp; try with_reducible rfl)
        simp only [rop16, Act.put, List.setIfInBounds_toArray, List.set_cons_zero, List.set_cons_succ]
        refine wpAnyH_take (i := 23) (oi := rop23) (v := ?v23_13) rfl (by kernel_rfl) (by kernel_rfl) (by kernel_rfl) (fun _ _ _ h => h) (Or.inl ⟨by rfl, ?y23_13⟩) (by assumption) ?r23_13
        case y23_13 => (intro w hSw; obtain ⟨⟨s0, s1, s2⟩, sr⟩ := hSw; have hcv := row_conv sr; unfold rop23; go_simp; try with_reducible rfl)
        simp only [rop23, Act.put, List.setIfInBounds_toArray, List.set_cons_zero, List.set_cons_succ]
        refine wpAnyH_take (i := 24) (oi := rop24) (v := ?v24_14) rfl (by kernel_rfl) (by kernel_rfl) (by kernel_rfl) (fun _ _ _ h => h) (Or.inl ⟨by rfl, ?y24_14⟩) (by assumption) ?r24_14
        case y24_14 => (intro w hSw; obtain ⟨⟨s0, s1, s2⟩, sr⟩ := hSw; have hcv := row_conv sr; unfold rop24; go_simp; try with_reducible rfl)
        simp only [rop24, Act.put, List.setIfInBounds_toArray, List.set_cons_zero, List.set_cons_succ]
        refine wpAnyH_done (by kernel_rfl) ?_ _
        rw [HD.out]
        have h252 := HL.out; have hl4 := HZL.out
        go_wp2_with (first | (go_at_call 108; refine (refSum_l (headL k n b.data.toList) _ (by have := HL.out; omega)).mono ?_; rintro e w6 ⟨rfl, rfl⟩) | (go_at_call 107; refine (low_sum (headL k n b.data.toList) _).mono ?_; rintro e w6 ⟨rfl, hb⟩; replace HP := hid (HP.out.on hb); clear hb))
        go_ret2
        exact ⟨by rw [seal_str]; rfl, HP.out.below⟩
    · skip
      refine AllReadyH.cons (o := rop21) rfl (fun K hK => ?_) (by exact AllReadyH.nil)
      unfold rop21
      go_simp
      refine hK.out _ _ ?_ (fun hHeld => ?_)
      · exact ⟨(HP.out.made _ _).box.c0, (HP.out.made _ _).box.c1, (HP.out.made _ _).box.c2⟩
      clear hK K
      try simp only [Act.put, List.setIfInBounds_toArray, List.set_cons_zero, List.set_cons_succ]
      have HR := hid (row_made (244 - b.size) w5)
      replace HP := hid (HP.out.made (zcells (244 - b.size)) 5)
      have hHeld2 : KeepR w k n b w5.heap.size (244 - b.size) _ := ⟨hHeld, HR.out⟩
      refine wpAnyH_more (S' := KeepR w k n b w5.heap.size (244 - b.size)) (fun _ h => h.1) _ _ _ _ ?_
      refine wpAnyH_take (i := 22) (oi := rop22) (v := ?v22_15) rfl (by kernel_rfl) (by kernel_rfl) (by kernel_rfl) (fun _ _ _ h => h) (Or.inl ⟨by rfl, ?y22_15⟩) (by assumption) ?r22_15
      case y22_15 => (intro w hSw; obtain ⟨⟨s0, s1, s2⟩, sr⟩ := hSw; have hcv := row_conv sr; unfold rop22; go_simp; try with_reducible rfl)
      simp only [rop22, Act.put, List.setIfInBounds_toArray, List.set_cons_zero, List.set_cons_succ]
      refine wpAnyH_ready (rs := [3]) (by kernel_rfl) (by simp) ?_
      refine AllReadyH.cons (o := rop3) rfl (fun K hK => ?_) (by exact AllReadyH.nil)
      unfold rop3
      go_simp
      (go_at_call 84; refine (wide_z _ _ _ (by omega) (by omega) (by omega) (by omega)).mono ?_; rintro e w5 ⟨rfl, hb⟩)
      (first | (replace HR := hid (HR.out.below hb); replace HP := hid (HP.out.on hb)) | (replace HR : Hid (Row _ _ (zs (244 - b.size))) := hid (Row.below (by exact HR.out) hb); replace HP := hid (HP.out.drew.on hb)))
      clear hb
      skip
      refine hK.out _ _ ?_ (fun hHeld => ?_)
      · exact ⟨⟨HP.out.box.c0, HP.out.box.c1, HP.out.box.c2⟩, HR.out⟩
      clear hK K
      try simp only [Act.put, List.setIfInBounds_toArray, List.set_cons_zero, List.set_cons_succ]
      refine wpAnyH_take (i := 4) (oi := rop4) (v := ?v4_16) rfl (by kernel_rfl) (by kernel_rfl) (by kernel_rfl) (fun _ _ _ h => h) (Or.inl ⟨by rfl, ?y4_16⟩) (by assumption) ?r4_16
      case y4_16 => (intro w hSw; obtain ⟨⟨s0, s1, s2⟩, sr⟩ := hSw; have hcv := row_conv sr; unfold rop4; go_simp; try with_reducible rfl)
      simp only [rop4, Act.put, List.setIfInBounds_toArray, List.set_cons_zero, List.set_cons_succ]
      refine wpAnyH_ready (rs := [8]) (by kernel_rfl) (by simp) ?_
      refine AllReadyH.cons (o := rop8) rfl (fun K hK => ?_) (by exact AllReadyH.nil)
      unfold rop8
      go_simp
      (go_at_call 84; refine (wide_z _ _ _ (by omega) (by omega) (by omega) (by omega)).mono ?_; rintro e w5 ⟨rfl, hb⟩)
      (first | (replace HR := hid (HR.out.below hb); replace HP := hid (HP.out.on hb)) | (replace HR : Hid (Row _ _ (zs (244 - b.size))) := hid (Row.below (by exact HR.out) hb); replace HP := hid (HP.out.drew.on hb)))
      clear hb
      skip
      refine hK.out _ _ ?_ (fun hHeld => ?_)
      · exact ⟨⟨HP.out.box.c0, HP.out.box.c1, HP.out.box.c2⟩, HR.out⟩
      clear hK K
      try simp only [Act.put, List.setIfInBounds_toArray, List.set_cons_zero, List.set_cons_succ]
      refine wpAnyH_take (i := 9) (oi := rop9) (v := ?v9_17) rfl (by kernel_rfl) (by kernel_rfl) (by kernel_rfl) (fun _ _ _ h => h) (Or.inl ⟨by rfl, ?y9_17⟩) (by assumption) ?r9_17
      case y9_17 => (intro w hSw; obtain ⟨⟨s0, s1, s2⟩, sr⟩ := hSw; have hcv := row_conv sr; unfold rop9; go_simp; try with_reducible rfl)
      simp only [rop9, Act.put, List.setIfInBounds_toArray, List.set_cons_zero, List.set_cons_succ]
      refine wpAnyH_ready (rs := [12]) (by kernel_rfl) (by simp) ?_
      refine AllReadyH.cons (o := rop12) rfl (fun K hK => ?_) (by exact AllReadyH.nil)
      unfold rop12
      go_simp
      (go_at_call 84; refine (wide_z _ _ _ (by omega) (by omega) (by omega) (by omega)).mono ?_; rintro e w5 ⟨rfl, hb⟩)
      (first | (replace HR := hid (HR.out.below hb); replace HP := hid (HP.out.on hb)) | (replace HR : Hid (Row _ _ (zs (244 - b.size))) := hid (Row.below (by exact HR.out) hb); replace HP := hid (HP.out.drew.on hb)))
      clear hb
      skip
      refine hK.out _ _ ?_ (fun hHeld => ?_)
      · exact ⟨⟨HP.out.box.c0, HP.out.box.c1, HP.out.box.c2⟩, HR.out⟩
      clear hK K
      try simp only [Act.put, List.setIfInBounds_toArray, List.set_cons_zero, List.set_cons_succ]
      refine wpAnyH_take (i := 13) (oi := rop13) (v := ?v13_18) rfl (by kernel_rfl) (by kernel_rfl) (by kernel_rfl) (fun _ _ _ h => h) (Or.inl ⟨by rfl, ?y13_18⟩) (by assumption) ?r13_18
      case y13_18 => (intro w hSw; obtain ⟨⟨s0, s1, s2⟩, sr⟩ := hSw; have hcv := row_conv sr; unfold rop13; go_simp; try with_reducible rfl)
      simp only [rop13, Act.put, List.setIfInBounds_toArray, List.set_cons_zero, List.set_cons_succ]
      refine wpAnyH_take (i := 16) (oi := rop16) (v := ?v16_19) rfl (by kernel_rfl) (by kernel_rfl) (by kernel_rfl) (fun _ _ _ h => h) (Or.inl ⟨by rfl, ?y16_19⟩) (by assumption) ?r16_19
      case y16_19 => (intro w hSw; obtain ⟨⟨s0, s1, s2⟩, sr⟩ := hSw; have hcv := row_conv sr; unfold rop16; go_simp; try with_reducible rfl)
      simp only [rop16, Act.put, List.setIfInBounds_toArray, List.set_cons_zero, List.set_cons_succ]
      refine wpAnyH_take (i := 23) (oi := rop23) (v := ?v23_20) rfl (by kernel_rfl) (by kernel_rfl) (by kernel_rfl) (fun _ _ _ h => h) (Or.inl ⟨by rfl, ?y23_20⟩) (by assumption) ?r23_20
      case y23_20 => (intro w hSw; obtain ⟨⟨s0, s1, s2⟩, sr⟩ := hSw; have hcv := row_conv sr; unfold rop23; go_simp; try with_reducible rfl)
      simp only [rop23, Act.put, List.setIfInBounds_toArray, List.set_cons_zero, List.set_cons_succ]
      refine wpAnyH_take (i := 24) (oi := rop24) (v := ?v24_21) rfl (by kernel_rfl) (by kernel_rfl) (by kernel_rfl) (fun _ _ _ h => h) (Or.inl ⟨by rfl, ?y24_21⟩) (by assumption) ?r24_21
      case y24_21 => (intro w hSw; obtain ⟨⟨s0, s1, s2⟩, sr⟩ := hSw; have hcv := row_conv sr; unfold rop24; go_simp; try with_reducible rfl)
      simp only [rop24, Act.put, List.setIfInBounds_toArray, List.set_cons_zero, List.set_cons_succ]
      refine wpAnyH_done (by kernel_rfl) ?_ _
      rw [HD.out]
      have h252 := HL.out; have hl4 := HZL.out
      go_wp2_with (first | (go_at_call 108; refine (refSum_l (headL k n b.data.toList) _ (by have := HL.out; omega)).mono ?_; rintro e w6 ⟨rfl, rfl⟩) | (go_at_call 107; refine (low_sum (headL k n b.data.toList) _).mono ?_; rintro e w6 ⟨rfl, hb⟩; replace HP := hid (HP.out.on hb); clear hb))
      go_ret2
      exact ⟨by rw [seal_str]; rfl, HP.out.below⟩
  · skip
    refine AllReadyH.cons (o := rop21) rfl (fun K hK => ?_) (by exact AllReadyH.nil)
    unfold rop21
    go_simp
    refine hK.out _ _ ?_ (fun hHeld => ?_)
    · exact ⟨(HP.out.made _ _).box.c0, (HP.out.made _ _).box.c1, (HP.out.made _ _).box.c2⟩
    clear hK K
    try simp only [Act.put, List.setIfInBounds_toArray, List.set_cons_zero, List.set_cons_succ]
    have HR := hid (row_made (244 - b.size) w1)
    replace HP := hid (HP.out.made (zcells (244 - b.size)) 5)
    replace HP := hid HP.out.drew; replace HR := hid (row_made_d (244 - b.size) w1)
    have hHeld2 : KeepR w k n b w1.heap.size (244 - b.size) _ := ⟨hHeld, HR.out⟩
    refine wpAnyH_more (S' := KeepR w k n b w1.heap.size (244 - b.size)) (fun _ h => h.1) _ _ _ _ ?_
    refine wpAnyH_take (i := 22) (oi := rop22) (v := ?v22_22) rfl (by kernel_rfl) (by kernel_rfl) (by kernel_rfl) (fun _ _ _ h => h) (Or.inl ⟨by rfl, ?y22_22⟩) (by assumption) ?r22_22
    case y22_22 => (intro w hSw; obtain ⟨⟨s0, s1, s2⟩, sr⟩ := hSw; have hcv := row_conv sr; unfold rop22; go_simp; try with_reducible rfl)
    simp only [rop22, Act.put, List.setIfInBounds_toArray, List.set_cons_zero, List.set_cons_succ]
    refine wpAnyH_ready (rs := [2]) (by kernel_rfl) (by simp) ?_
    refine AllReadyH.cons (o := rop2) rfl (fun K hK => ?_) (by exact AllReadyH.nil)
    unfold rop2
    go_simp
    (go_at_call 84; refine (wide_z _ _ _ (by omega) (by omega) (by omega) (by omega)).mono ?_; rintro e w5 ⟨rfl, hb⟩)
    (first | (replace HR := hid (HR.out.below hb); replace HP := hid (HP.out.on hb)) | (replace HR : Hid (Row _ _ (zs (244 - b.size))) := hid (Row.below (by exact HR.out) hb); replace HP := hid (HP.out.drew.on hb)))
    clear hb
    skip
    refine hK.out _ _ ?_ (fun hHeld => ?_)
    · exact ⟨⟨HP.out.box.c0, HP.out.box.c1, HP.out.box.c2⟩, HR.out⟩
    clear hK K
    try simp only [Act.put, List.setIfInBounds_toArray, List.set_cons_zero, List.set_cons_succ]
    refine wpAnyH_ready (rs := [3]) (by kernel_rfl) (by simp) ?_
    refine AllReadyH.cons (o := rop3) rfl (fun K hK => ?_) (by exact AllReadyH.nil)
    unfold rop3
    go_simp
    (go_at_call 84; refine (wide_z _ _ _ (by omega) (by omega) (by omega) (by omega)).mono ?_; rintro e w5 ⟨rfl, hb⟩)
    (first | (replace HR := hid (HR.out.below hb); replace HP := hid (HP.out.on hb)) | (replace HR : Hid (Row _ _ (zs (244 - b.size))) := hid (Row.below (by exact HR.out) hb); replace HP := hid (HP.out.drew.on hb)))
    clear hb
    skip
    refine hK.out _ _ ?_ (fun hHeld => ?_)
    · exact ⟨⟨HP.out.box.c0, HP.out.box.c1, HP.out.box.c2⟩, HR.out⟩
    clear hK K
    try simp only [Act.put, List.setIfInBounds_toArray, List.set_cons_zero, List.set_cons_succ]
    refine wpAnyH_take (i := 4) (oi := rop4) (v := ?v4_23) rfl (by kernel_rfl) (by kernel_rfl) (by kernel_rfl) (fun _ _ _ h => h) (Or.inl ⟨by rfl, ?y4_23⟩) (by assumption) ?r4_23
    case y4_23 => (intro w hSw; obtain ⟨⟨s0, s1, s2⟩, sr⟩ := hSw; have hcv := row_conv sr; unfold rop4; go_simp; try with_reducible rfl)
    simp only [rop4, Act.put, List.setIfInBounds_toArray, List.set_cons_zero, List.set_cons_succ]
    refine wpAnyH_ready (rs := [8]) (by kernel_rfl) (by simp) ?_
    refine AllReadyH.cons (o := rop8) rfl (fun K hK => ?_) (by exact AllReadyH.nil)
    unfold rop8
    go_simp
    (go_at_call 84; refine (wide_z _ _ _ (by omega) (by omega) (by omega) (by omega)).mono ?_; rintro e w5 ⟨rfl, hb⟩)
    (first | (replace HR := hid (HR.out.below hb); replace HP := hid (HP.out.on hb)) | (replace HR : Hid (Row _ _ (zs (244 - b.size))) := hid (Row.below (by exact HR.out) hb); replace HP := hid (HP.out.drew.on hb)))
    clear hb
    skip
    refine hK.out _ _ ?_ (fun hHeld => ?_)
    · exact ⟨⟨HP.out.box.c0, HP.out.box.c1, HP.out.box.c2⟩, HR.out⟩
    clear hK K
    try simp only [Act.put, List.setIfInBounds_toArray, List.set_cons_zero, List.set_cons_succ]
    refine wpAnyH_take (i := 9) (oi := rop9) (v := ?v9_24) rfl (by kernel_rfl) (by kernel_rfl) (by kernel_rfl) (fun _ _ _ h => h) (Or.inl ⟨by rfl, ?y9_24⟩) (by assumption) ?r9_24
    case y9_24 => (intro w hSw; obtain ⟨⟨s0, s1, s2⟩, sr⟩ := hSw; have hcv := row_conv sr; unfold rop9; go_simp; try with_reducible rfl)
    simp only [rop9, Act.put, List.setIfInBounds_toArray, List.set_cons_zero, List.set_cons_succ]
    refine wpAnyH_ready (rs := [12]) (by kernel_rfl) (by simp) ?_
    refine AllReadyH.cons (o := rop12) rfl (fun K hK => ?_) (by exact AllReadyH.nil)
    unfold rop12
    go_simp
    (go_at_call 84; refine (wide_z _ _ _ (by omega) (by omega) (by omega) (by omega)).mono ?_; rintro e w5 ⟨rfl, hb⟩)
    (first | (replace HR := hid (HR.out.below hb); replace HP := hid (HP.out.on hb)) | (replace HR : Hid (Row _ _ (zs (244 - b.size))) := hid (Row.below (by exact HR.out) hb); replace HP := hid (HP.out.drew.on hb)))
    clear hb
    skip
    refine hK.out _ _ ?_ (fun hHeld => ?_)
    · exact ⟨⟨HP.out.box.c0, HP.out.box.c1, HP.out.box.c2⟩, HR.out⟩
    clear hK K
    try simp only [Act.put, List.setIfInBounds_toArray, List.set_cons_zero, List.set_cons_succ]
    refine wpAnyH_take (i := 13) (oi := rop13) (v := ?v13_25) rfl (by kernel_rfl) (by kernel_rfl) (by kernel_rfl) (fun _ _ _ h => h) (Or.inl ⟨by rfl, ?y13_25⟩) (by assumption) ?r13_25
    case y13_25 => (intro w hSw; obtain ⟨⟨s0, s1, s2⟩, sr⟩ := hSw; have hcv := row_conv sr; unfold rop13; go_simp; try with_reducible rfl)
    simp only [rop13, Act.put, List.setIfInBounds_toArray, List.set_cons_zero, List.set_cons_succ]
    refine wpAnyH_take (i := 16) (oi := rop16) (v := ?v16_26) rfl (by kernel_rfl) (by kernel_rfl) (by kernel_rfl) (fun _ _ _ h => h) (Or.inl ⟨by rfl, ?y16_26⟩) (by assumption) ?r16_26
    case y16_26 => (intro w hSw; obtain ⟨⟨s0, s1, s2⟩, sr⟩ := hSw; have hcv := row_conv sr; unfold rop16; go_simp; try with_reducible rfl)
    simp only [rop16, Act.put, List.setIfInBounds_toArray, List.set_cons_zero, List.set_cons_succ]
    refine wpAnyH_take (i := 23) (oi := rop23) (v := ?v23_27) rfl (by kernel_rfl) (by kernel_rfl) (by kernel_rfl) (fun _ _ _ h => h) (Or.inl ⟨by rfl, ?y23_27⟩) (by assumption) ?r23_27
    case y23_27 => (intro w hSw; obtain ⟨⟨s0, s1, s2⟩, sr⟩ := hSw; have hcv := row_conv sr; unfold rop23; go_simp; try with_reducible rfl)
    simp only [rop23, Act.put, List.setIfInBounds_toArray, List.set_cons_zero, List.set_cons_succ]
    refine wpAnyH_take (i := 24) (oi := rop24) (v := ?v24_28) rfl (by kernel_rfl) (by kernel_rfl) (by kernel_rfl) (fun _ _ _ h => h) (Or.inl ⟨by rfl, ?y24_28⟩) (by assumption) ?r24_28
    case y24_28 => (intro w hSw; obtain ⟨⟨s0, s1, s2⟩, sr⟩ := hSw; have hcv := row_conv sr; unfold rop24; go_simp; try with_reducible rfl)
    simp only [rop24, Act.put, List.setIfInBounds_toArray, List.set_cons_zero, List.set_cons_succ]
    refine wpAnyH_done (by kernel_rfl) ?_ _
    rw [HD.out]
    have h252 := HL.out; have hl4 := HZL.out
    go_wp2_with (first | (go_at_call 108; refine (refSum_l (headL k n b.data.toList) _ (by have := HL.out; omega)).mono ?_; rintro e w6 ⟨rfl, rfl⟩) | (go_at_call 107; refine (low_sum (headL k n b.data.toList) _).mono ?_; rintro e w6 ⟨rfl, hb⟩; replace HP := hid (HP.out.on hb); clear hb))
    go_ret2
    exact ⟨by rw [seal_str]; rfl, HP.out.below⟩
end Go.Proofs.YtgihpdhkjneimaaGreatDoor.Pg

/- Small calls of the pager: bytes of a number, a number of bytes. -/
namespace Go.Proofs.YtgihpdhkjneimaaGreatDoor.Pp
open Go.RowKit
open Go.Lib (hid)
open Go.Proofs.YtgihpdhkjneimaaGreatDoor.Fd (Row Upd back_run rowOf be be_length be_at beB num getAt putAt on_below on_upd num_snoc num_lt)
open Go.Proofs.YtgihpdhkjneimaaGreatDoor.Pg (zs zs_length row_made zcells)
theorem or_64 (x : Nat) (b : UInt8) (h : x < 16777216) : bits .or .i64 ((x : Int) * 256) (b.toNat : Int) = ((256 * x + b.toNat : Nat) : Int) := by
  have hb := b.toNat_lt
  have e : ((x : Int) * 256) = ((256 * x : Nat) : Int) := by omega
  rw [e]
  have := bits_join .i64 62 (by decide) (fun n h0 h1 => by rw [IntKind.wrap_i64]; omega) 8 ((256 * x : Nat) : Int) (b.toNat : Int) (by omega) (by omega) (by omega) (by omega) (by omega) (by omega)
  rw [this]
  omega
set_option maxHeartbeats 400000 in
theorem number_any (s : ByteArray) (w : World) (hs : s.size ≤ 4) :
    Calls Tryz.prog 103 #[.string s] w fun e w' => e = .returned (.int .i64 (num s.data.toList : Int)) ∧ w = w' := by
  go_enter Tryz.func103, Tryz.ntmps103
  go_wp2_with fail
  go_loop [3, 7] (fun x i => ∃ k m : Nat, k ≤ s.size ∧ m < 4294967296 ∧ m = num (s.data.toList.take k) ∧ i = .int .i64 k ∧ x = .int .i64 (m : Int)) (fun _ i => s.size - (intOf i).toNat)
  case atStart => exact ⟨0, 0, by omega, by omega, by simp [num], rfl, rfl⟩
  case round =>
    obtain ⟨k, m, hk, hm, hmv, rfl, rfl⟩ := hrel
    have HM := hid hmv; clear hmv
    by_cases hlt : k < s.size
    · have hb := (s[k]).toNat_lt
      have hk3 : k ≤ 3 := by omega
      have hm3 : m < 16777216 := by rw [HM.out]; exact Fd.num_small _ _ hk3
      have HO := hid (or_64 m s[k] hm3)
      go_wp2_with fail
      go_round
      case rel =>
        have hsn : s.data.toList.take (k + 1) = s.data.toList.take k ++ [s[k]] := Sm.take_snoc s k hlt
        have hv : num (s.data.toList.take (k + 1)) = 256 * m + (s[k]).toNat := by rw [hsn, num_snoc, HM.out]
        have hl := num_lt (s.data.toList.take (k + 1))
        have hlen : (s.data.toList.take (k + 1)).length ≤ 4 := by simp; omega
        have h4 : num (s.data.toList.take (k + 1)) < 4294967296 := Nat.lt_of_lt_of_le hl (Nat.pow_le_pow_right (by decide) hlen)
        exact ⟨k + 1, 256 * m + (s[k]).toNat, by omega, by omega, hv.symm, by go_num, by first | (rw [HO.out]) | (show Value.int .i64 _ = _; congr 1; exact HO.out)⟩
      case measure => simp [intOf]; omega
    · obtain rfl : k = s.size := by omega
      go_wp2_with fail
      go_ret
      refine ⟨?_, rfl⟩
      have := HM.out
      rw [List.take_of_length_le (by simp)] at this
      rw [this]; rfl
set_option maxRecDepth 100000 in
set_option maxHeartbeats 1000000 in
theorem bytes_4 (n : Nat) (w : World) (hn : n < 9223372036854775807) :
    Calls Tryz.prog 79 #[.int .i64 (n : Int), .int .i64 4] w fun e w' => e = .returned (.string ⟨(be 4 n).toArray⟩) ∧ Below w.heap.size w w' := by
  have hm : (Instr.makeSlice 121 (.int .i64 4) (.int .i64 4)).run Tryz.prog w = .ok (.slice (some ⟨w.heap.size, 0, none⟩) 4 4) (w.alloc (.cells (zcells 4) 5)) := Pg.zmake 4 (by decide) w
  have HR := hid (row_made 4 w)
  have HB0 := hid ((Below.refl w.heap.size w).alloc (Nat.le_refl _) (.cells (zcells 4) 5))
  go_enter Tryz.func79, Tryz.ntmps79
  go_wp2_with fail
  clear hm
  have HN := hid hn; clear hn
  generalize w.alloc (.cells (zcells 4) 5) = V at *
  go_loopw [11] (fun i wr => ∃ k : Nat, k ≤ 4 ∧ i = .int .i64 k ∧ Upd w.heap.size (putAt (zs 4) 0 ((be 4 n).take k)) V wr) (fun i _ => 4 - (intOf i).toNat)
  case atStart => exact ⟨0, by omega, rfl, by rw [List.take_zero, Fd.putAt_none]; exact Upd.refl HR.out⟩
  case round =>
    obtain ⟨k, hk, rfl, hU⟩ := hrel
    have HU := hid hU; clear hU
    by_cases hlt : k < 4
    · have hlen : k < (putAt (zs 4) 0 ((be 4 n).take k)).length := by
        rw [Fd.putAt_length _ _ _ (by rw [List.length_take, be_length, zs_length]; omega), zs_length]; omega
      have hc := HU.out.row.cell k hlen
      have hf := HU.out.row.free k
      have hv := Fd.beB_val 4 n k
      go_wp2_with fail
      go_roundw
      case rel =>
        refine ⟨k + 1, by omega, by go_num, ?_⟩
        have hkl : k < (be 4 n).length := by rw [be_length]; exact hlt
        have hs := Fd.putAt_step (zs 4) (be 4 n) 0 k (by rw [be_length, zs_length]; omega) hkl
        rw [Fd.be_get] at hs
        have := HU.out.setCell (0 + k) (beB 4 n k)
        rw [hs, Nat.zero_add] at this
        exact this
      case measure => simp [intOf]; omega
    · obtain rfl : k = 4 := by omega
      have hr : Row wr w.heap.size (be 4 n) := by
        have h := HU.out.row
        rw [List.take_of_length_le (by rw [be_length]; omega)] at h
        have e : putAt (zs 4) 0 (be 4 n) = be 4 n := by
          unfold putAt; rw [List.take_zero, List.drop_of_length_le (by rw [zs_length, be_length]; omega)]; simp
        rwa [e] at h
      have hcv : (convert 121 9 (.slice (some ⟨w.heap.size, 0, none⟩) 4 4)).run Tryz.prog wr = .ok (.string ⟨(be 4 n).toArray⟩) wr := by
        have h := back_run hr 0 4 4 (by rw [be_length]; omega)
        have e : getAt (be 4 n) 0 4 = be 4 n := by
          have := Fd.getAt_all (be 4 n); rwa [be_length] at this
        rwa [e] at h
      have HB := hid (show Below w.heap.size w wr from HB0.out.trans ⟨HU.out.os, HU.out.tape, HU.out.output, HU.out.size, fun j hj => HU.out.block j (Nat.lt_of_lt_of_le hj HB0.out.size) (by omega)⟩)
      clear hr
      go_wp2_with fail
      go_ret
      exact ⟨rfl, HB.out⟩
set_option maxRecDepth 100000 in
set_option maxHeartbeats 1000000 in
theorem bytes_2 (n : Nat) (w : World) (hn : n < 9223372036854775807) :
    Calls Tryz.prog 79 #[.int .i64 (n : Int), .int .i64 2] w fun e w' => e = .returned (.string ⟨(be 2 n).toArray⟩) ∧ Below w.heap.size w w' := by
  have hm : (Instr.makeSlice 121 (.int .i64 2) (.int .i64 2)).run Tryz.prog w = .ok (.slice (some ⟨w.heap.size, 0, none⟩) 2 2) (w.alloc (.cells (zcells 2) 5)) := Pg.zmake 2 (by decide) w
  have HR := hid (row_made 2 w)
  have HB0 := hid ((Below.refl w.heap.size w).alloc (Nat.le_refl _) (.cells (zcells 2) 5))
  go_enter Tryz.func79, Tryz.ntmps79
  go_wp2_with fail
  clear hm
  have HN := hid hn; clear hn
  generalize w.alloc (.cells (zcells 2) 5) = V at *
  go_loopw [11] (fun i wr => ∃ k : Nat, k ≤ 2 ∧ i = .int .i64 k ∧ Upd w.heap.size (putAt (zs 2) 0 ((be 2 n).take k)) V wr) (fun i _ => 2 - (intOf i).toNat)
  case atStart => exact ⟨0, by omega, rfl, by rw [List.take_zero, Fd.putAt_none]; exact Upd.refl HR.out⟩
  case round =>
    obtain ⟨k, hk, rfl, hU⟩ := hrel
    have HU := hid hU; clear hU
    by_cases hlt : k < 2
    · have hlen : k < (putAt (zs 2) 0 ((be 2 n).take k)).length := by
        rw [Fd.putAt_length _ _ _ (by rw [List.length_take, be_length, zs_length]; omega), zs_length]; omega
      have hc := HU.out.row.cell k hlen
      have hf := HU.out.row.free k
      have hv := Fd.beB_val 2 n k
      go_wp2_with fail
      go_roundw
      case rel =>
        refine ⟨k + 1, by omega, by go_num, ?_⟩
        have hkl : k < (be 2 n).length := by rw [be_length]; exact hlt
        have hs := Fd.putAt_step (zs 2) (be 2 n) 0 k (by rw [be_length, zs_length]; omega) hkl
        rw [Fd.be_get] at hs
        have := HU.out.setCell (0 + k) (beB 2 n k)
        rw [hs, Nat.zero_add] at this
        exact this
      case measure => simp [intOf]; omega
    · obtain rfl : k = 2 := by omega
      have hr : Row wr w.heap.size (be 2 n) := by
        have h := HU.out.row
        rw [List.take_of_length_le (by rw [be_length]; omega)] at h
        have e : putAt (zs 2) 0 (be 2 n) = be 2 n := by
          unfold putAt; rw [List.take_zero, List.drop_of_length_le (by rw [zs_length, be_length]; omega)]; simp
        rwa [e] at h
      have hcv : (convert 121 9 (.slice (some ⟨w.heap.size, 0, none⟩) 2 2)).run Tryz.prog wr = .ok (.string ⟨(be 2 n).toArray⟩) wr := by
        have h := back_run hr 0 2 2 (by rw [be_length]; omega)
        have e : getAt (be 2 n) 0 2 = be 2 n := by
          have := Fd.getAt_all (be 2 n); rwa [be_length] at this
        rwa [e] at h
      have HB := hid (show Below w.heap.size w wr from HB0.out.trans ⟨HU.out.os, HU.out.tape, HU.out.output, HU.out.size, fun j hj => HU.out.block j (Nat.lt_of_lt_of_le hj HB0.out.size) (by omega)⟩)
      clear hr
      go_wp2_with fail
      go_ret
      exact ⟨rfl, HB.out⟩
end Go.Proofs.YtgihpdhkjneimaaGreatDoor.Pp
