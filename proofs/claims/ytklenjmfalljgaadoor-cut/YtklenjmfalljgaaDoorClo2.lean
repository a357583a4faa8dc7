/- Walks of the closures that the machine's instructions are: what each does to the state's block. -/
import Derived.Test.YtklenjmfalljgaaDoorRows
import Derived.Test.YtklenjmfalljgaaDoorReg
import Derived.WalkKit
import Derived.WalkSpells
import Derived.WalkLawsBesides
import Derived.RegionTactic
import Derived.BigRegion
import Derived.ChangeAlike
import Derived.BigQuiet
import Derived.Deep.QuietTactic
import Derived.Deep.RegionHeld3
namespace Go.Proofs.YtklenjmfalljgaaDoor
open Go.RowKit

set_option maxHeartbeats 400000 in
theorem take_clo (t l : Nat) (hl : l < 3) (b bt bl : Nat) (w : World) (x y : Value)
    (htc : w.cell? ⟨bt, 0, none⟩ = some (.int .i64 t)) (hlc : w.cell? ⟨bl, 0, none⟩ = some (.int .i64 l))
    (hx : w.cell? ⟨b, 4 + l * 2, none⟩ = some x) (hf : w.frozen? ⟨b, 4 + l * 2, none⟩ = false)
    (hy : w.cell? ⟨b, 4 + l * 2 + 1, none⟩ = some y) (hf2 : w.frozen? ⟨b, 4 + l * 2 + 1, none⟩ = false) :
    Calls Tryd.prog 189 #[.pointer (some ⟨b, 0, none⟩), .pointer (some ⟨bt, 0, none⟩), .pointer (some ⟨bl, 0, none⟩)] w
      fun e w' => e = .returned (.bool true) ∧ Like w' ((w.setCell ⟨b, 4 + l * 2, none⟩ (.bool true)).setCell ⟨b, 4 + l * 2 + 1, none⟩ (.int .i64 t)) := by
  have h3 : (0 : Int) ≤ (l : Int) := by omega
  have h4 : (l : Int) < 3 := by omega
  go_enter Tryd.func189, Tryd.ntmps189
  go_wp2
  go_region
  all_goals (go_wp2; go_ret; exact ⟨rfl, rfl, rfl, rfl, rfl⟩)

set_option maxHeartbeats 400000 in
theorem release_clo_yes (t l : Nat) (hl : l < 3) (b bm bl : Nat) (w : World)
    (hmc : w.cell? ⟨bm, 0, none⟩ = some (.bool true)) (hmc2 : w.cell? ⟨bm, 1, none⟩ = some (.int .i64 t)) (hlc : w.cell? ⟨bl, 0, none⟩ = some (.int .i64 l))
    (hx : w.cell? ⟨b, 4 + l * 2, none⟩ = some (.bool true)) (hf : w.frozen? ⟨b, 4 + l * 2, none⟩ = false)
    (hy : w.cell? ⟨b, 4 + l * 2 + 1, none⟩ = some (.int .i64 t)) (hf2 : w.frozen? ⟨b, 4 + l * 2 + 1, none⟩ = false) :
    Calls Tryd.prog 190 #[.pointer (some ⟨b, 0, none⟩), .pointer (some ⟨bl, 0, none⟩), .pointer (some ⟨bm, 0, none⟩)] w
      fun e w' => e = .returned (.bool true) ∧ Like w' ((w.setCell ⟨b, 4 + l * 2, none⟩ (.bool false)).setCell ⟨b, 4 + l * 2 + 1, none⟩ (.int .i64 0)) := by
  have h3 : (0 : Int) ≤ (l : Int) := by omega
  have h4 : (l : Int) < 3 := by omega
  go_enter Tryd.func190, Tryd.ntmps190
  go_wp2
  go_region
  all_goals (go_wp2; go_region)
  all_goals (go_wp2; go_ret; exact ⟨rfl, rfl, rfl, rfl, rfl⟩)

set_option maxHeartbeats 400000 in
theorem release_clo_free (t l : Nat) (hl : l < 3) (b bm bl : Nat) (w : World) (o : Int)
    (hmc : w.cell? ⟨bm, 0, none⟩ = some (.bool true)) (hmc2 : w.cell? ⟨bm, 1, none⟩ = some (.int .i64 t)) (hlc : w.cell? ⟨bl, 0, none⟩ = some (.int .i64 l))
    (hx : w.cell? ⟨b, 4 + l * 2, none⟩ = some (.bool false))
    (hy : w.cell? ⟨b, 4 + l * 2 + 1, none⟩ = some (.int .i64 o)) :
    Calls Tryd.prog 190 #[.pointer (some ⟨b, 0, none⟩), .pointer (some ⟨bl, 0, none⟩), .pointer (some ⟨bm, 0, none⟩)] w
      fun e w' => e = .returned (.bool false) ∧ Like w' w := by
  have h3 : (0 : Int) ≤ (l : Int) := by omega
  have h4 : (l : Int) < 3 := by omega
  go_enter Tryd.func190, Tryd.ntmps190
  go_wp2
  go_region
  all_goals (go_wp2; go_ret; exact ⟨rfl, rfl, rfl, rfl, rfl⟩)

set_option maxHeartbeats 400000 in
theorem release_clo_no (t l : Nat) (hl : l < 3) (b bm bl : Nat) (w : World) (o : Int) (ho : ¬ o = t)
    (hmc : w.cell? ⟨bm, 0, none⟩ = some (.bool true)) (hmc2 : w.cell? ⟨bm, 1, none⟩ = some (.int .i64 t)) (hlc : w.cell? ⟨bl, 0, none⟩ = some (.int .i64 l))
    (hx : w.cell? ⟨b, 4 + l * 2, none⟩ = some (.bool true))
    (hy : w.cell? ⟨b, 4 + l * 2 + 1, none⟩ = some (.int .i64 o)) :
    Calls Tryd.prog 190 #[.pointer (some ⟨b, 0, none⟩), .pointer (some ⟨bl, 0, none⟩), .pointer (some ⟨bm, 0, none⟩)] w
      fun e w' => e = .returned (.bool false) ∧ Like w' w := by
  have h3 : (0 : Int) ≤ (l : Int) := by omega
  have h4 : (l : Int) < 3 := by omega
  go_enter Tryd.func190, Tryd.ntmps190
  go_wp2
  go_region
  all_goals (go_wp2; go_ret; exact ⟨rfl, rfl, rfl, rfl, rfl⟩)

end Go.Proofs.YtklenjmfalljgaaDoor
