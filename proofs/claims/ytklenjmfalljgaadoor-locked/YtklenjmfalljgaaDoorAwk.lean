/- The walks of pick and awake. -/
import Derived.Test.YtklenjmfalljgaaDoorRep
namespace Go.Proofs.YtklenjmfalljgaaDoor
open Go.RowKit
attribute [local go_sem] Go.World.cell?_alloc_some

def pickN (c n : Int) : Int := (if c < 0 then -(c + 1) else c) % n

theorem pickN_range (c n : Int) (hn : 0 < n) : 0 ≤ pickN c n ∧ pickN c n < n := ⟨Int.emod_nonneg _ (by omega), Int.emod_lt_of_pos _ hn⟩

set_option maxHeartbeats 400000 in
theorem pick_m (c n : Int) (hn : 0 < n) (hn2 : n ≤ 1099511627776) (hc : -9223372036854775808 ≤ c) (hc2 : c ≤ 9223372036854775807) (w : World) :
    Calls Tryd.prog 12 #[.int .i64 c, .int .i64 n] w fun e w' => e = .returned (.int .i64 (pickN c n)) ∧ w' = w := by
  by_cases h0 : c < 0
  · have HP : Hid (pickN c n = -(c + 1).tmod n) := by
      unfold Hid pickN
      rw [if_pos h0, ← Int.neg_tmod, Int.tmod_eq_emod_of_nonneg (by omega)]
    go_enter Tryd.func12, Tryd.ntmps12
    go_wp2
    go_ret
    exact ⟨by rw [HP.out]; rfl, rfl⟩
  · have HP : Hid (pickN c n = c % n) := by unfold Hid pickN; rw [if_neg h0]
    have h1 : 0 ≤ c := by omega
    go_enter Tryd.func12, Tryd.ntmps12
    go_wp2
    go_ret
    exact ⟨by rw [HP.out]; rfl, rfl⟩

def growC : List Ins := [⟨2, 0, 0, 0⟩, ⟨1, 1, 0, 1⟩, ⟨4, 0, 1, 0⟩, ⟨3, 0, 0, 0⟩]
def growP : List (List Ins) := [growC, growC]
def growS : List Int := [0, 0, 0, 0, 1, 1, 1, 1]

theorem grow_check : checkRunN growP growS = 0 := by decide +kernel
theorem grow_kind : (runS growP growS).kind = 3 ∧ (runS growP growS).thread = 0 ∧ (runS growP growS).at_ = 0 ∧ (runS growP growS).st.vars 0 = 2 := by decide +kernel
theorem grow_steps : (runS growP growS).steps = [(0, 0), (0, 1), (0, 2), (0, 3), (1, 0), (1, 1), (1, 2), (1, 3)] := by decide +kernel

theorem codeAt_grow {w : World} {g : Nat} (h : w.heap[g]? = some (.cells #[.int .i64 2, .int .i64 0, .int .i64 0, .int .i64 0, .int .i64 1, .int .i64 1, .int .i64 0, .int .i64 1, .int .i64 4, .int .i64 0, .int .i64 1, .int .i64 0, .int .i64 3, .int .i64 0, .int .i64 0, .int .i64 0] 28 (0, 0))) :
    CodeAt w (.slice (some ⟨g, 0, none⟩) 4 4) growC := by
  refine ⟨_, 4, rfl, fun k hk => ⟨g, 0, rfl, ?_⟩⟩
  have hk4 : k < 4 := hk
  rcases lt4 hk4 with rfl | rfl | rfl | rfl <;> simp [World.cell?, h, growC]

set_option maxHeartbeats 1000000 in
set_option maxRecDepth 100000 in
theorem awake_m (w : World) (hS : ShpAt w) : Calls Tryd.prog 13 #[] w fun e w' => e = .returned (.bool true) ∧ w.grownBy w' none := by
  have HSh := hide hS
  clear hS
  go_enter Tryd.func13, Tryd.ntmps13
  go_wp2_with fail
  generalize hA : Obj.cells #[Value.int IntKind.i64 2, Value.int IntKind.i64 0, Value.int IntKind.i64 0, Value.int IntKind.i64 0, Value.int IntKind.i64 1, Value.int IntKind.i64 1, Value.int IntKind.i64 0, Value.int IntKind.i64 1, Value.int IntKind.i64 4, Value.int IntKind.i64 0, Value.int IntKind.i64 1, Value.int IntKind.i64 0, Value.int IntKind.i64 3, Value.int IntKind.i64 0, Value.int IntKind.i64 0, Value.int IntKind.i64 0] 28 = OA
  generalize hB : Obj.cells #[Value.slice (some ⟨w.heap.size, 0, none⟩) 4 4, Value.slice (some ⟨w.heap.size, 0, none⟩) 4 4] 29 = OB
  generalize hC : Obj.cells #[Value.int IntKind.i64 0, Value.int IntKind.i64 0, Value.int IntKind.i64 0, Value.int IntKind.i64 0, Value.int IntKind.i64 1, Value.int IntKind.i64 1, Value.int IntKind.i64 1, Value.int IntKind.i64 1] 3 = OC
  have e0 : (((w.alloc OA).alloc OB).alloc OC).heap[w.heap.size]? = some OA := by
    rw [Below.heap_alloc _ _ _ (by simp; omega), Below.heap_alloc _ _ _ (by simp)]; exact heap_alloc_new w _
  have e1 : (((w.alloc OA).alloc OB).alloc OC).heap[w.heap.size + 1]? = some OB := by
    rw [Below.heap_alloc _ _ _ (by simp)]
    have := heap_alloc_new (w.alloc OA) OB
    simpa using this
  have e2 : (((w.alloc OA).alloc OB).alloc OC).heap[w.heap.size + 2]? = some OC := by
    have := heap_alloc_new ((w.alloc OA).alloc OB) OC
    simpa using this
  have HG0 : Hid (w.grownBy (((w.alloc OA).alloc OB).alloc OC) none) := grown_alloc (grown_alloc (grown_alloc (grown_refl _ _)))
  have hp : ProgAt (((w.alloc OA).alloc OB).alloc OC) (.agg #[.slice (some ⟨w.heap.size + 1, 0, none⟩) 2 2]) growP := by
    refine ⟨_, 2, rfl, fun t ht => ⟨w.heap.size + 1, 0, rfl, .slice (some ⟨w.heap.size, 0, none⟩) 4 4, ?_, ?_⟩⟩
    · have h2 : t = 0 ∨ t = 1 := by have : t < 2 := ht; omega
      have c1 := fun j => cell_of_row _ (w.heap.size + 1) j _ _ _ (e1.trans (congrArg some hB.symm))
      rcases h2 with rfl | rfl <;> rw [c1] <;> rfl
    · have h2 : growP[t] = growC := by
        have h2 : t = 0 ∨ t = 1 := by have : t < 2 := ht; omega
        rcases h2 with rfl | rfl <;> rfl
      rw [h2]
      exact codeAt_grow (by rw [e0, hA])
  have hi : IntsAt (((w.alloc OA).alloc OB).alloc OC).heap.size (((w.alloc OA).alloc OB).alloc OC) (.slice (some ⟨w.heap.size + 1 + 1, 0, none⟩) 8 8) growS := by
    refine ⟨_, 8, rfl, Nat.le_refl _, fun k hk => ⟨w.heap.size + 1 + 1, 0, rfl, by simp, ?_⟩⟩
    have h8 : k = 0 ∨ k = 1 ∨ k = 2 ∨ k = 3 ∨ k = 4 ∨ k = 5 ∨ k = 6 ∨ k = 7 := by have : k < 8 := hk; omega
    have c2 := fun j => cell_of_row _ (w.heap.size + 1 + 1) j _ _ _ (e2.trans (congrArg some hC.symm))
    rcases h8 with rfl | rfl | rfl | rfl | rfl | rfl | rfl | rfl <;> rw [c2] <;> rfl
  refine (replay_m growP growS _ _ _ (HSh.out.pres (pres_grown HG0.out)) hp hi).mono ?_
  clear hp hi e0 e1 e2 hA hB hC
  rintro e w1 ⟨hg1, h⟩
  rcases h with ⟨_, rv, rfl, sv, gv, rfl, ho1, ho2⟩ | ⟨h, _⟩
  · have HG1 : Hid (w.grownBy w1 none) := grown_trans HG0.out hg1
    obtain ⟨k1, k2, k3, k4⟩ := grow_kind
    rw [grow_steps] at ho1
    obtain ⟨g, cp, rfl, _, _⟩ := ho1.form (by decide)
    obtain ⟨y1, y2, y3, rfl⟩ := owns_form ho2
    have q14 : w1.cell? ⟨g, 14, none⟩ = some (.int .i64 1) := by rw [ho1.cellAt 14 (by decide)]; rfl
    have q15 : w1.cell? ⟨g, 15, none⟩ = some (.int .i64 3) := by rw [ho1.cellAt 15 (by decide)]; rfl
    rw [k1, k2, k3, k4]
    clear hg1 ho1 ho2 k1 k2 k3 k4
    generalize (runS growP growS).st.vars 1 = x1
    generalize (runS growP growS).st.vars 2 = x2
    generalize (runS growP growS).st.vars 3 = x3
    simp only [List.length_cons, List.length_nil]
    go_wp2_with fail
    go_ret
    exact ⟨rfl, grown_alloc HG1.out⟩
  · exact absurd grow_check h

end Go.Proofs.YtklenjmfalljgaaDoor
