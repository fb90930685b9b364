/- JournalScripts walked: all cases. -/
import Derived.Test.YtaonifdfhlbaiaaGreatDoorS25
import Derived.Test.YtaonifdfhlbaiaaGreatDoorS19
import Derived.Test.YtaonifdfhlbaiaaGreatDoorS24
namespace Go.Proofs.YtaonifdfhlbaiaaGreatDoor.Jn
open Go.RowKit
open Go.Lib (hid)
open Go.Proofs.YtaonifdfhlbaiaaGreatDoor.Dk
open Go.Proofs.YtaonifdfhlbaiaaGreatDoor.En (Lst PageT Pgs)
theorem JournalScripts_walk (v v' : Value) (w : World) (h : PlV w v) (h' : ∃ a len cap, v' = .slice a len cap ∧ Dk.IsOps w a len) (hL : Lst w) :
    Calls Tryz.prog 3 #[v, v'] w fun e w' => e = .returned (.bool true) ∧ Below w.heap.size w w' := by
  obtain ⟨⟨pg, ba, si, tx⟩, rfl, hd⟩ := h
  obtain ⟨q, len, cap, rfl, hq⟩ := h'
  by_cases h30 : 30 < pg
  · exact jo_f1 q len cap w hL pg ba si tx h30
  · by_cases h1 : pg < 1
    · exact jo_f2 q len cap w hL pg ba si tx h1
    · obtain ⟨m, rfl⟩ : ∃ m : Nat, pg = (m : Int) := ⟨pg.toNat, by omega⟩
      by_cases hbad : 2 ≤ si ∧ si ≤ 999 ∧ 1 ≤ tx ∧ tx ≤ 4294967295 ∧ 0 ≤ ba ∧ ba + si ≤ (m : Int)
      · obtain ⟨b1, b2, b3, b4, b5, b6⟩ := hbad
        obtain ⟨n0, rfl⟩ : ∃ m : Nat, si = (m : Int) := ⟨si.toNat, by omega⟩
        obtain ⟨t, rfl⟩ : ∃ m : Nat, tx = (m : Int) := ⟨tx.toNat, by omega⟩
        obtain ⟨b, rfl⟩ : ∃ m : Nat, ba = (m : Int) := ⟨ba.toNat, by omega⟩
        exact jo_go q len cap w hL m b n0 t hq (by omega) (by omega) ⟨by omega, by omega, by omega, by omega, by omega⟩ (by omega)
      · exact jo_f3 q len cap w hL m ba si tx (by omega) (by omega) hd.f3.2 hbad
set_option maxRecDepth 100000 in
theorem JournalScripts_open0 {H : Type} {enc : TypeId × Value → H} {W : World} {base : Nat} {v : Value} {d : DataW H} {p : List MemPlace} (hv : Value.okWide Tryz.prog W .any base 23 v) (h : DataW.Trod enc Tryz.prog W 0 (fun _ => true) true 23 v d p) : PlV W v := open_Pl hv h
set_option maxRecDepth 100000 in
theorem JournalScripts_open1 {H : Type} {enc : TypeId × Value → H} {W : World} {base : Nat} {v : Value} {d : DataW H} {p : List MemPlace} (hv : Value.okWide Tryz.prog W .any base 24 v) (h : DataW.Trod enc Tryz.prog W 0 (fun _ => true) true 24 v d p) : ∃ a len cap, v = .slice a len cap ∧ Dk.IsOps W a len := Dk.open_Ops hv h
end Go.Proofs.YtaonifdfhlbaiaaGreatDoor.Jn
