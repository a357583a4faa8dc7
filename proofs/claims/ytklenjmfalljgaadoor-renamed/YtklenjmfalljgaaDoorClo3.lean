/- Walks of the closures that the machine's instructions are: what each does to the state's block. -/
import Derived.Test.YtklenjmfalljgaaDoorRows
import Derived.Test.YtklenjmfalljgaaDoorReg
import Derived.WalkKit
import Derived.WalkSpells
import Derived.WalkLawsBesides
import Derived.RegionTactic
import Derived.BigRegion
import Derived.ChangeAlike
import Derived.BigQuiet
import Derived.Deep.QuietTactic
import Derived.StillTailTactics
namespace Go.Proofs.YtklenjmfalljgaaDoor
open Go.RowKit

set_option maxHeartbeats 400000 in
set_option maxRecDepth 100000 in
theorem add_fun (x y : Int) (w : World) : Calls Tryd.prog 148 #[.int .i64 x, .int .i64 y] w fun e w' => e = .returned (.int .i64 (wrap64 (x + y))) ∧ w' = w := by
  go_enter Tryd.func148, Tryd.ntmps148
  go_wp2
  go_ret
  exact ⟨rfl, rfl⟩

set_option maxHeartbeats 400000 in
set_option maxRecDepth 100000 in
theorem add_clo (t a c : Nat) (ht : t < 4) (hr : a < 4) (hv : c < 4) (x y : Int) (b bf bt ba bc : Nat) (w : World)
    (hfc : w.cell? ⟨bf, 0, none⟩ = some (.func (.func 148) #[] #[]))
    (htc : w.cell? ⟨bt, 0, none⟩ = some (.int .i64 t)) (hac : w.cell? ⟨ba, 0, none⟩ = some (.int .i64 a)) (hcc : w.cell? ⟨bc, 0, none⟩ = some (.int .i64 c))
    (hx : w.cell? ⟨b, 10 + t * 4 + a, none⟩ = some (.int .i64 x)) (hy : w.cell? ⟨b, 10 + t * 4 + c, none⟩ = some (.int .i64 y)) (hf : w.frozen? ⟨b, 10 + t * 4 + a, none⟩ = false) :
    Calls Tryd.prog 186 #[.pointer (some ⟨b, 0, none⟩), .pointer (some ⟨bf, 0, none⟩), .pointer (some ⟨bt, 0, none⟩), .pointer (some ⟨ba, 0, none⟩), .pointer (some ⟨bc, 0, none⟩)] w
      fun e w' => e = .returned (.bool true) ∧ Like w' (w.setCell ⟨b, 10 + t * 4 + a, none⟩ (.int .i64 (wrap64 (x + y)))) := by
  have h1 : (0 : Int) ≤ (t : Int) := by omega
  have h2 : (t : Int) < 4 := by omega
  have h3 : (0 : Int) ≤ (a : Int) := by omega
  have h4 : (a : Int) < 4 := by omega
  have h5 : (0 : Int) ≤ (c : Int) := by omega
  have h6 : (c : Int) < 4 := by omega
  go_enter Tryd.func186, Tryd.ntmps186
  go_wp2
  refine wp_region_still_tail 25 (by kernel_rfl) (by kernel_rfl) ?_
  simp only [List.take_succ_cons, List.take_zero, List.drop_succ_cons, List.drop_zero]
  iterate 20 still_step
  still_call (add_fun _ _ _)
  iterate 4 still_step
  refine wpStill_nil ?_
  all_goals (go_wp2; go_ret; exact ⟨rfl, rfl, rfl, rfl, rfl⟩)

set_option maxHeartbeats 400000 in
set_option maxRecDepth 100000 in
theorem sub_fun (x y : Int) (w : World) : Calls Tryd.prog 149 #[.int .i64 x, .int .i64 y] w fun e w' => e = .returned (.int .i64 (wrap64 (x - y))) ∧ w' = w := by
  go_enter Tryd.func149, Tryd.ntmps149
  go_wp2
  go_ret
  exact ⟨rfl, rfl⟩

set_option maxHeartbeats 400000 in
set_option maxRecDepth 100000 in
theorem sub_clo (t a c : Nat) (ht : t < 4) (hr : a < 4) (hv : c < 4) (x y : Int) (b bf bt ba bc : Nat) (w : World)
    (hfc : w.cell? ⟨bf, 0, none⟩ = some (.func (.func 149) #[] #[]))
    (htc : w.cell? ⟨bt, 0, none⟩ = some (.int .i64 t)) (hac : w.cell? ⟨ba, 0, none⟩ = some (.int .i64 a)) (hcc : w.cell? ⟨bc, 0, none⟩ = some (.int .i64 c))
    (hx : w.cell? ⟨b, 10 + t * 4 + a, none⟩ = some (.int .i64 x)) (hy : w.cell? ⟨b, 10 + t * 4 + c, none⟩ = some (.int .i64 y)) (hf : w.frozen? ⟨b, 10 + t * 4 + a, none⟩ = false) :
    Calls Tryd.prog 186 #[.pointer (some ⟨b, 0, none⟩), .pointer (some ⟨bf, 0, none⟩), .pointer (some ⟨bt, 0, none⟩), .pointer (some ⟨ba, 0, none⟩), .pointer (some ⟨bc, 0, none⟩)] w
      fun e w' => e = .returned (.bool true) ∧ Like w' (w.setCell ⟨b, 10 + t * 4 + a, none⟩ (.int .i64 (wrap64 (x - y)))) := by
  have h1 : (0 : Int) ≤ (t : Int) := by omega
  have h2 : (t : Int) < 4 := by omega
  have h3 : (0 : Int) ≤ (a : Int) := by omega
  have h4 : (a : Int) < 4 := by omega
  have h5 : (0 : Int) ≤ (c : Int) := by omega
  have h6 : (c : Int) < 4 := by omega
  go_enter Tryd.func186, Tryd.ntmps186
  go_wp2
  refine wp_region_still_tail 25 (by kernel_rfl) (by kernel_rfl) ?_
  simp only [List.take_succ_cons, List.take_zero, List.drop_succ_cons, List.drop_zero]
  iterate 20 still_step
  still_call (sub_fun _ _ _)
  iterate 4 still_step
  refine wpStill_nil ?_
  all_goals (go_wp2; go_ret; exact ⟨rfl, rfl, rfl, rfl, rfl⟩)

set_option maxHeartbeats 400000 in
set_option maxRecDepth 100000 in
theorem mul_fun (x y : Int) (w : World) : Calls Tryd.prog 150 #[.int .i64 x, .int .i64 y] w fun e w' => e = .returned (.int .i64 (wrap64 (x * y))) ∧ w' = w := by
  go_enter Tryd.func150, Tryd.ntmps150
  go_wp2
  go_ret
  exact ⟨rfl, rfl⟩

set_option maxHeartbeats 400000 in
set_option maxRecDepth 100000 in
theorem mul_clo (t a c : Nat) (ht : t < 4) (hr : a < 4) (hv : c < 4) (x y : Int) (b bf bt ba bc : Nat) (w : World)
    (hfc : w.cell? ⟨bf, 0, none⟩ = some (.func (.func 150) #[] #[]))
    (htc : w.cell? ⟨bt, 0, none⟩ = some (.int .i64 t)) (hac : w.cell? ⟨ba, 0, none⟩ = some (.int .i64 a)) (hcc : w.cell? ⟨bc, 0, none⟩ = some (.int .i64 c))
    (hx : w.cell? ⟨b, 10 + t * 4 + a, none⟩ = some (.int .i64 x)) (hy : w.cell? ⟨b, 10 + t * 4 + c, none⟩ = some (.int .i64 y)) (hf : w.frozen? ⟨b, 10 + t * 4 + a, none⟩ = false) :
    Calls Tryd.prog 186 #[.pointer (some ⟨b, 0, none⟩), .pointer (some ⟨bf, 0, none⟩), .pointer (some ⟨bt, 0, none⟩), .pointer (some ⟨ba, 0, none⟩), .pointer (some ⟨bc, 0, none⟩)] w
      fun e w' => e = .returned (.bool true) ∧ Like w' (w.setCell ⟨b, 10 + t * 4 + a, none⟩ (.int .i64 (wrap64 (x * y)))) := by
  have h1 : (0 : Int) ≤ (t : Int) := by omega
  have h2 : (t : Int) < 4 := by omega
  have h3 : (0 : Int) ≤ (a : Int) := by omega
  have h4 : (a : Int) < 4 := by omega
  have h5 : (0 : Int) ≤ (c : Int) := by omega
  have h6 : (c : Int) < 4 := by omega
  go_enter Tryd.func186, Tryd.ntmps186
  go_wp2
  refine wp_region_still_tail 25 (by kernel_rfl) (by kernel_rfl) ?_
  simp only [List.take_succ_cons, List.take_zero, List.drop_succ_cons, List.drop_zero]
  iterate 20 still_step
  still_call (mul_fun _ _ _)
  iterate 4 still_step
  refine wpStill_nil ?_
  all_goals (go_wp2; go_ret; exact ⟨rfl, rfl, rfl, rfl, rfl⟩)

end Go.Proofs.YtklenjmfalljgaaDoor
