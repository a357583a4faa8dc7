/- The walks of the makers of closures and of makeAction. -/
import Derived.Test.YtklenjmfalljgaaDoorVal
namespace Go.Proofs.YtklenjmfalljgaaDoor
open Go.RowKit
attribute [local go_sem] Go.World.cell?_alloc_some

/-- A closure was made. -/
def Made (w : World) (t : Nat) (i : Ins) (e : Ending) (w' : World) : Prop := ∃ v, e = .returned v ∧ (∀ w'' : World, (∀ k, w.heap.size ≤ k → k < w'.heap.size → w''.heap[k]? = w'.heap[k]?) → ActIs w'.heap.size w'' v t i) ∧ w.grownBy w' none

theorem cell_a1 (w : World) (x : Value) (t : TypeId) : (w.alloc (.cells #[x] t)).cell? ⟨w.heap.size, 0, none⟩ = some x := by simp
theorem cell_a2 (w : World) (o : Obj) (a : Addr) (x : Value) (h : w.cell? a = some x) : (w.alloc o).cell? a = some x := by
  rw [World.cell?_alloc_lt _ _ _ (World.block_lt_of_cell? w a h)]; exact h

set_option maxHeartbeats 400000 in
theorem set_mk (t : Nat) (i : Ins) (h : i.op = 1) (w : World) : Calls Tryd.prog 144 #[.int .i64 t, .int .i64 i.a, .int .i64 i.n] w (Made w t i) := by
  have hmf : ∀ (fn : Fn) (first cap : Array Value) (w : World), (Instr.makeFunc fn first cap).run Tryd.prog w = .ok (.func fn first cap) w := fun _ _ _ _ => rfl
  have H : Hid (i.op = 1) := h
  clear h
  go_enter Tryd.func144, Tryd.ntmps144
  go_wp2
  go_ret
  have h := H.out
  refine ⟨_, rfl, fun w2 hw2 => ⟨w.heap.size + 2, w.heap.size, w.heap.size + 1, 0, by (simp <;> omega), by (simp <;> omega), by (simp <;> omega), by simp, Or.inl ⟨h, rfl, ?_, ?_, ?_⟩⟩, grown_alloc (grown_alloc (grown_alloc (grown_refl _ _)))⟩
  all_goals (rw [World.cell?_of_block (hw2 _ (by (simp <;> omega)) (by (simp <;> omega)))]; simp [go_sem])

set_option maxHeartbeats 400000 in
theorem load_mk (t : Nat) (i : Ins) (h : i.op = 2) (w : World) : Calls Tryd.prog 145 #[.int .i64 t, .int .i64 i.a, .int .i64 i.b] w (Made w t i) := by
  have hmf : ∀ (fn : Fn) (first cap : Array Value) (w : World), (Instr.makeFunc fn first cap).run Tryd.prog w = .ok (.func fn first cap) w := fun _ _ _ _ => rfl
  have H : Hid (i.op = 2) := h
  clear h
  go_enter Tryd.func145, Tryd.ntmps145
  go_wp2
  go_ret
  have h := H.out
  refine ⟨_, rfl, fun w2 hw2 => ⟨w.heap.size + 2, w.heap.size, w.heap.size + 1, 0, by (simp <;> omega), by (simp <;> omega), by (simp <;> omega), by simp, Or.inr (Or.inl ⟨h, rfl, ?_, ?_, ?_⟩)⟩, grown_alloc (grown_alloc (grown_alloc (grown_refl _ _)))⟩
  all_goals (rw [World.cell?_of_block (hw2 _ (by (simp <;> omega)) (by (simp <;> omega)))]; simp [go_sem])

set_option maxHeartbeats 400000 in
theorem store_mk (t : Nat) (i : Ins) (h : i.op = 3) (w : World) : Calls Tryd.prog 146 #[.int .i64 t, .int .i64 i.a, .int .i64 i.b] w (Made w t i) := by
  have hmf : ∀ (fn : Fn) (first cap : Array Value) (w : World), (Instr.makeFunc fn first cap).run Tryd.prog w = .ok (.func fn first cap) w := fun _ _ _ _ => rfl
  have H : Hid (i.op = 3) := h
  clear h
  go_enter Tryd.func146, Tryd.ntmps146
  go_wp2
  go_ret
  have h := H.out
  refine ⟨_, rfl, fun w2 hw2 => ⟨w.heap.size, w.heap.size + 2, w.heap.size + 1, 0, by (simp <;> omega), by (simp <;> omega), by (simp <;> omega), by simp, Or.inr (Or.inr (Or.inl ⟨h, rfl, ?_, ?_, ?_⟩))⟩, grown_alloc (grown_alloc (grown_alloc (grown_refl _ _)))⟩
  all_goals (rw [World.cell?_of_block (hw2 _ (by (simp <;> omega)) (by (simp <;> omega)))]; simp [go_sem])

set_option maxHeartbeats 400000 in
theorem divide_mk (t : Nat) (i : Ins) (h : i.op = 7) (w : World) : Calls Tryd.prog 151 #[.int .i64 t, .int .i64 i.a, .int .i64 i.b] w (Made w t i) := by
  have hmf : ∀ (fn : Fn) (first cap : Array Value) (w : World), (Instr.makeFunc fn first cap).run Tryd.prog w = .ok (.func fn first cap) w := fun _ _ _ _ => rfl
  have H : Hid (i.op = 7) := h
  clear h
  go_enter Tryd.func151, Tryd.ntmps151
  go_wp2
  go_ret
  have h := H.out
  refine ⟨_, rfl, fun w2 hw2 => ⟨w.heap.size, w.heap.size + 2, w.heap.size + 1, 0, by (simp <;> omega), by (simp <;> omega), by (simp <;> omega), by simp, Or.inr (Or.inr (Or.inr (Or.inr (Or.inl ⟨h, rfl, ?_, ?_, ?_⟩))))⟩, grown_alloc (grown_alloc (grown_alloc (grown_refl _ _)))⟩
  all_goals (rw [World.cell?_of_block (hw2 _ (by (simp <;> omega)) (by (simp <;> omega)))]; simp [go_sem])

set_option maxHeartbeats 400000 in
theorem jump_mk (t : Nat) (i : Ins) (h : i.op = 8) (w : World) : Calls Tryd.prog 152 #[.int .i64 t, .int .i64 i.a, .int .i64 i.n] w (Made w t i) := by
  have hmf : ∀ (fn : Fn) (first cap : Array Value) (w : World), (Instr.makeFunc fn first cap).run Tryd.prog w = .ok (.func fn first cap) w := fun _ _ _ _ => rfl
  have H : Hid (i.op = 8) := h
  clear h
  go_enter Tryd.func152, Tryd.ntmps152
  go_wp2
  go_ret
  have h := H.out
  refine ⟨_, rfl, fun w2 hw2 => ⟨w.heap.size, w.heap.size + 1, w.heap.size + 2, 0, by (simp <;> omega), by (simp <;> omega), by (simp <;> omega), by simp, Or.inr (Or.inr (Or.inr (Or.inr (Or.inr (Or.inl ⟨h, rfl, ?_, ?_, ?_⟩)))))⟩, grown_alloc (grown_alloc (grown_alloc (grown_refl _ _)))⟩
  all_goals (rw [World.cell?_of_block (hw2 _ (by (simp <;> omega)) (by (simp <;> omega)))]; simp [go_sem])

set_option maxHeartbeats 400000 in
theorem take_mk (t : Nat) (i : Ins) (h : i.op = 9) (w : World) : Calls Tryd.prog 153 #[.int .i64 t, .int .i64 i.a] w (Made w t i) := by
  have hmf : ∀ (fn : Fn) (first cap : Array Value) (w : World), (Instr.makeFunc fn first cap).run Tryd.prog w = .ok (.func fn first cap) w := fun _ _ _ _ => rfl
  have H : Hid (i.op = 9) := h
  clear h
  go_enter Tryd.func153, Tryd.ntmps153
  go_wp2
  go_ret
  have h := H.out
  refine ⟨_, rfl, fun w2 hw2 => ⟨w.heap.size, w.heap.size + 1, 0, 0, by (simp <;> omega), by simp, by simp, by simp, Or.inr (Or.inr (Or.inr (Or.inr (Or.inr (Or.inr (Or.inl ⟨h, rfl, ?_, ?_⟩))))))⟩, grown_alloc (grown_alloc (grown_refl _ _))⟩
  all_goals (rw [World.cell?_of_block (hw2 _ (by (simp <;> omega)) (by (simp <;> omega)))]; simp [go_sem])

set_option maxHeartbeats 400000 in
theorem assert_mk (t : Nat) (i : Ins) (h : i.op = 11) (w : World) : Calls Tryd.prog 155 #[.int .i64 t, .int .i64 i.a] w (Made w t i) := by
  have hmf : ∀ (fn : Fn) (first cap : Array Value) (w : World), (Instr.makeFunc fn first cap).run Tryd.prog w = .ok (.func fn first cap) w := fun _ _ _ _ => rfl
  have H : Hid (i.op = 11) := h
  clear h
  go_enter Tryd.func155, Tryd.ntmps155
  go_wp2
  go_ret
  have h := H.out
  refine ⟨_, rfl, fun w2 hw2 => ⟨w.heap.size, w.heap.size + 1, 0, 0, by (simp <;> omega), by simp, by simp, by simp, Or.inr (Or.inr (Or.inr (Or.inr (Or.inr (Or.inr (Or.inr (Or.inr (⟨h, rfl, ?_, ?_⟩))))))))⟩, grown_alloc (grown_alloc (grown_refl _ _))⟩
  all_goals (rw [World.cell?_of_block (hw2 _ (by (simp <;> omega)) (by (simp <;> omega)))]; simp [go_sem])

set_option maxHeartbeats 400000 in
theorem release_mk (t : Nat) (i : Ins) (h : i.op = 10) (w : World) : Calls Tryd.prog 154 #[.int .i64 t, .int .i64 i.a] w (Made w t i) := by
  have hmf : ∀ (fn : Fn) (first cap : Array Value) (w : World), (Instr.makeFunc fn first cap).run Tryd.prog w = .ok (.func fn first cap) w := fun _ _ _ _ => rfl
  have H : Hid (i.op = 10) := h
  clear h
  go_enter Tryd.func154, Tryd.ntmps154
  go_wp2
  go_ret
  have h := H.out
  refine ⟨_, rfl, fun w2 hw2 => ⟨w.heap.size, w.heap.size + 1, 0, 0, by (simp <;> omega), by simp, by simp, by simp, Or.inr (Or.inr (Or.inr (Or.inr (Or.inr (Or.inr (Or.inr (Or.inl ⟨h, rfl, ?_, ?_, ?_⟩)))))))⟩, grown_alloc (grown_alloc (grown_refl _ _))⟩
  all_goals (rw [World.cell?_of_block (hw2 _ (by (simp <;> omega)) (by (simp <;> omega)))]; simp [go_sem])

set_option maxHeartbeats 400000 in
theorem add_mk (t : Nat) (i : Ins) (h : i.op = 4) (w : World) : Calls Tryd.prog 147 #[.int .i64 t, .int .i64 i.a, .int .i64 i.b, .func (.func 148) #[] #[]] w (Made w t i) := by
  have hmf : ∀ (fn : Fn) (first cap : Array Value) (w : World), (Instr.makeFunc fn first cap).run Tryd.prog w = .ok (.func fn first cap) w := fun _ _ _ _ => rfl
  have H : Hid (i.op = 4) := h
  clear h
  go_enter Tryd.func147, Tryd.ntmps147
  go_wp2
  go_ret
  have h := H.out
  refine ⟨_, rfl, fun w2 hw2 => ⟨w.heap.size + 3, w.heap.size, w.heap.size + 1, w.heap.size + 2, by (simp <;> omega), by (simp <;> omega), by (simp <;> omega), by (simp <;> omega), Or.inr (Or.inr (Or.inr (Or.inl ⟨_, Or.inl ⟨h, rfl⟩, rfl, ?_, ?_, ?_, ?_⟩)))⟩, grown_alloc (grown_alloc (grown_alloc (grown_alloc (grown_refl _ _))))⟩
  all_goals (rw [World.cell?_of_block (hw2 _ (by (simp <;> omega)) (by (simp <;> omega)))]; simp [go_sem])

set_option maxHeartbeats 400000 in
theorem sub_mk (t : Nat) (i : Ins) (h : i.op = 5) (w : World) : Calls Tryd.prog 147 #[.int .i64 t, .int .i64 i.a, .int .i64 i.b, .func (.func 149) #[] #[]] w (Made w t i) := by
  have hmf : ∀ (fn : Fn) (first cap : Array Value) (w : World), (Instr.makeFunc fn first cap).run Tryd.prog w = .ok (.func fn first cap) w := fun _ _ _ _ => rfl
  have H : Hid (i.op = 5) := h
  clear h
  go_enter Tryd.func147, Tryd.ntmps147
  go_wp2
  go_ret
  have h := H.out
  refine ⟨_, rfl, fun w2 hw2 => ⟨w.heap.size + 3, w.heap.size, w.heap.size + 1, w.heap.size + 2, by (simp <;> omega), by (simp <;> omega), by (simp <;> omega), by (simp <;> omega), Or.inr (Or.inr (Or.inr (Or.inl ⟨_, Or.inr (Or.inl ⟨h, rfl⟩), rfl, ?_, ?_, ?_, ?_⟩)))⟩, grown_alloc (grown_alloc (grown_alloc (grown_alloc (grown_refl _ _))))⟩
  all_goals (rw [World.cell?_of_block (hw2 _ (by (simp <;> omega)) (by (simp <;> omega)))]; simp [go_sem])

set_option maxHeartbeats 400000 in
theorem mul_mk (t : Nat) (i : Ins) (h : i.op = 6) (w : World) : Calls Tryd.prog 147 #[.int .i64 t, .int .i64 i.a, .int .i64 i.b, .func (.func 150) #[] #[]] w (Made w t i) := by
  have hmf : ∀ (fn : Fn) (first cap : Array Value) (w : World), (Instr.makeFunc fn first cap).run Tryd.prog w = .ok (.func fn first cap) w := fun _ _ _ _ => rfl
  have H : Hid (i.op = 6) := h
  clear h
  go_enter Tryd.func147, Tryd.ntmps147
  go_wp2
  go_ret
  have h := H.out
  refine ⟨_, rfl, fun w2 hw2 => ⟨w.heap.size + 3, w.heap.size, w.heap.size + 1, w.heap.size + 2, by (simp <;> omega), by (simp <;> omega), by (simp <;> omega), by (simp <;> omega), Or.inr (Or.inr (Or.inr (Or.inl ⟨_, Or.inr (Or.inr ⟨h, rfl⟩), rfl, ?_, ?_, ?_, ?_⟩)))⟩, grown_alloc (grown_alloc (grown_alloc (grown_alloc (grown_refl _ _))))⟩
  all_goals (rw [World.cell?_of_block (hw2 _ (by (simp <;> omega)) (by (simp <;> omega)))]; simp [go_sem])

end Go.Proofs.YtklenjmfalljgaaDoor
