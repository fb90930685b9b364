/- The small calls of page and of its document's answer: what each returns, whatever it is called with. -/
import Derived.Test.YtjjplkfgihogkaaPgBits
import Derived.Test.YtjjplkfgihogkaaFdOf
import Derived.Test.YtjjplkfgihogkaaSmWords
import Derived.Test.YtjjplkfgihogkaaShelf
namespace Go.Proofs.Ytjjplkfgihogkaa.Pg
open Go.RowKit
open Go.Lib
open Go.Proofs.Ytjjplkfgihogkaa.Fd (Area Row Upd rowOf be be_length be_at beB num getAt putAt make_run back_run on_below rowOf_zeros madeBytes size5 info5)
open Go.Proofs.Ytjjplkfgihogkaa.Sm (U B32 sumB)

theorem repeat_one (c : UInt8) (n : Nat) : repeatL [c] n = List.replicate n c := by
  induction n with
  | zero => rfl
  | succ n ih => show [c] ++ repeatL [c] n = _; rw [ih]; rfl

set_option maxHeartbeats 400000 in
theorem blank_any (w : World) :
    Calls Try.prog 26 #[] w fun e w' => e = .returned (.string ⟨blankL.toArray⟩) ∧ Below w.heap.size w w' := by
  go_enter Try.func26, Try.ntmps26
  go_wp2_with (go_at_call 40; refine (Try.strings_Repeat_main ⟨#[0]⟩ 256 _ (by decide) (by decide) (by decide) (by decide)).mono ?_; rintro e w' ⟨rfl, hb⟩; have HB := hid hb; clear hb)
  go_ret
  exact ⟨by rw [repeat_one]; rfl, HB.out⟩

theorem mask_U : (16711935 : Int) = U 16711935#32 := rfl
theorem ret_rev {a b : Int} (h : a = b) : Ending.returned (.int .u32 a) = .returned (.int .u32 b) := by rw [h]

/-- so many cells 0 -/
def zcells (n : Nat) : Array Value := Array.replicate n (.int .u8 0)
theorem zcells_row (n : Nat) : zcells n = rowOf (zs n) := (rowOf_zeros n).symm
theorem zmake (n : Nat) (h : n ≤ 1000000) (w : World) :
    (Instr.makeSlice 64 (.int .i64 (n : Int)) (.int .i64 (n : Int))).run Try.prog w = .ok (.slice (some ⟨w.heap.size, 0, none⟩) n n) (w.alloc (.cells (zcells n) 5)) := make_run n h w
theorem zback (n : Nat) (w : World) :
    (convert 64 9 (.slice (some ⟨w.heap.size, 0, none⟩) n n)).run Try.prog (w.alloc (.cells (zcells n) 5)) = .ok (.string ⟨(zs n).toArray⟩) (w.alloc (.cells (zcells n) 5)) := by
  have hr : Row (w.alloc (.cells (zcells n) 5)) w.heap.size (zs n) := by
    unfold Row; rw [heap_alloc_new, zcells_row]
  have := back_run hr 0 n n (by rw [zs_length]; omega)
  have e : getAt (zs n) 0 n = zs n := by
    have := Fd.getAt_all (zs n); rwa [zs_length] at this
  rw [e] at this
  exact this

set_option maxRecDepth 100000 in
set_option maxHeartbeats 400000 in
theorem refBlank_any (w : World) :
    Calls Try.prog 27 #[] w fun e w' => e = .returned (.string ⟨blankL.toArray⟩) ∧ Below w.heap.size w w' := by
  have hm : (Instr.makeSlice 64 (.int .i64 256) (.int .i64 256)).run Try.prog w = .ok (.slice (some ⟨w.heap.size, 0, none⟩) 256 256) (w.alloc (.cells (zcells 256) 5)) := zmake 256 (by decide) w
  have hb := zback 256 w
  go_enter Try.func27, Try.ntmps27
  go_wp2_with fail
  go_ret
  exact ⟨rfl, (Below.refl _ _).alloc (Nat.le_refl _) _⟩

theorem beB_mod (w n i : Nat) : ((beB w n i).toNat : Int) = (n : Int) / ((256 ^ (w - 1 - i) : Nat) : Int) % 256 := by
  unfold beB; rw [UInt8.toNat_ofNat']; simp

/-- what stands in a block of so many bytes -/
theorem row_four (b0 b1 b2 b3 : UInt8) (x0 x1 x2 x3 : Int) (h0 : x0 = b0.toNat) (h1 : x1 = b1.toNat) (h2 : x2 = b2.toNat) (h3 : x3 = b3.toNat) :
    (#[.int .u8 x0, .int .u8 x1, .int .u8 x2, .int .u8 x3] : Array Value) = rowOf [b0, b1, b2, b3] := by
  subst h0 h1 h2 h3; rfl

end Go.Proofs.Ytjjplkfgihogkaa.Pg
