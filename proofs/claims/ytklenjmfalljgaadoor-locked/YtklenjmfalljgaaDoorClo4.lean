/- Walks of the closures that the machine's instructions are: what each does to the state's block. -/
import Derived.Test.YtklenjmfalljgaaDoorRows
import Derived.Test.YtklenjmfalljgaaDoorReg
import Derived.WalkKit
import Derived.WalkSpells
import Derived.WalkLawsBesides
import Derived.RegionTactic
import Derived.BigRegion
import Derived.ChangeAlike
import Derived.BigQuiet
import Derived.Deep.QuietTactic
import Derived.Deep.RegionHeld3
namespace Go.Proofs.YtklenjmfalljgaaDoor
open Go.RowKit

set_option maxHeartbeats 400000 in
theorem div_clo_no (t a c : Nat) (ht : t < 4) (hr : a < 4) (hv : c < 4) (b bt ba bc : Nat) (w : World)
    (htc : w.cell? ⟨bt, 0, none⟩ = some (.int .i64 t)) (_hac : w.cell? ⟨ba, 0, none⟩ = some (.int .i64 a)) (hcc : w.cell? ⟨bc, 0, none⟩ = some (.int .i64 c))
    (hy : w.cell? ⟨b, 10 + t * 4 + c, none⟩ = some (.int .i64 0)) :
    Calls Tryd.prog 187 #[.pointer (some ⟨b, 0, none⟩), .pointer (some ⟨bt, 0, none⟩), .pointer (some ⟨bc, 0, none⟩), .pointer (some ⟨ba, 0, none⟩)] w
      fun e w' => e = .returned (.bool false) ∧ Like w' w := by
  have h1 : (0 : Int) ≤ (t : Int) := by omega
  have h2 : (t : Int) < 4 := by omega
  have h3 : (0 : Int) ≤ (a : Int) := by omega
  have h4 : (a : Int) < 4 := by omega
  have h5 : (0 : Int) ≤ (c : Int) := by omega
  have h6 : (c : Int) < 4 := by omega
  go_enter Tryd.func187, Tryd.ntmps187
  go_wp2
  go_region
  all_goals (go_wp2; go_ret; exact ⟨rfl, rfl, rfl, rfl, rfl⟩)

set_option maxHeartbeats 1000000 in
theorem div_clo_yes (t a c : Nat) (ht : t < 4) (hr : a < 4) (hv : c < 4) (x y : Int) (hy0 : (y == 0) = false) (b bt ba bc : Nat) (w : World)
    (htc : w.cell? ⟨bt, 0, none⟩ = some (.int .i64 t)) (hac : w.cell? ⟨ba, 0, none⟩ = some (.int .i64 a)) (hcc : w.cell? ⟨bc, 0, none⟩ = some (.int .i64 c))
    (hx : w.cell? ⟨b, 10 + t * 4 + a, none⟩ = some (.int .i64 x)) (hy : w.cell? ⟨b, 10 + t * 4 + c, none⟩ = some (.int .i64 y)) (hf : w.frozen? ⟨b, 10 + t * 4 + a, none⟩ = false) :
    Calls Tryd.prog 187 #[.pointer (some ⟨b, 0, none⟩), .pointer (some ⟨bt, 0, none⟩), .pointer (some ⟨bc, 0, none⟩), .pointer (some ⟨ba, 0, none⟩)] w
      fun e w' => e = .returned (.bool true) ∧ Like w' (w.setCell ⟨b, 10 + t * 4 + a, none⟩ (.int .i64 (wrap64 (x.tdiv y)))) := by
  have h1 : (0 : Int) ≤ (t : Int) := by omega
  have h2 : (t : Int) < 4 := by omega
  have h3 : (0 : Int) ≤ (a : Int) := by omega
  have h4 : (a : Int) < 4 := by omega
  have h5 : (0 : Int) ≤ (c : Int) := by omega
  have h6 : (c : Int) < 4 := by omega
  have h7 : ¬ y = 0 := by simpa using hy0
  go_enter Tryd.func187, Tryd.ntmps187
  go_wp2
  go_region
  all_goals (go_wp2; go_region)
  all_goals (go_wp2; go_ret; exact ⟨rfl, rfl, rfl, rfl, rfl⟩)

end Go.Proofs.YtklenjmfalljgaaDoor
