/- The walks of makeAction and makeMove. -/
import Derived.Test.YtklenjmfalljgaaDoorMk
namespace Go.Proofs.YtklenjmfalljgaaDoor
open Go.RowKit
attribute [local go_sem] Go.World.cell?_alloc_some

theorem Made.grow {w0 w w' : World} {t : Nat} {i : Ins} {e : Ending} (h : Made w t i e w') (hg : w0.grownBy w none) : Made w0 t i e w' := by
  obtain ⟨v, h1, h2, h3⟩ := h
  exact ⟨v, h1, fun w2 hw2 => h2 w2 fun k hk hk2 => hw2 k (Nat.le_trans hg.size hk) hk2, grown_trans hg h3⟩

set_option maxHeartbeats 1000000 in
set_option maxRecDepth 100000 in
theorem makeAction_1 (t : Nat) (i : Ins) (h : i.op = 1) (w : World) : Calls Tryd.prog 104 #[.int .i64 t, .agg #[.int .i64 1, .int .i64 i.a, .int .i64 i.b, .int .i64 i.n]] w (Made w t i) := by
  have H : Hid (i.op = 1) := h
  clear h
  go_enter Tryd.func104, Tryd.ntmps104
  go_wp2_with fail
  go_quiet (fail)
  go_wp2_with fail
  refine (set_mk t i H.out _).mono ?_
  rintro e w1 ⟨v, rfl, ha, hg⟩
  have HA := hide ha
  have HG := hide hg
  clear ha hg
  go_wp2_with fail
  go_ret
  exact Made.grow (w := _) ⟨v, rfl, HA.out, HG.out⟩ (grown_drewN _ (grown_alloc (grown_refl _ _)))

set_option maxHeartbeats 1000000 in
set_option maxRecDepth 100000 in
theorem makeAction_2 (t : Nat) (i : Ins) (h : i.op = 2) (w : World) : Calls Tryd.prog 104 #[.int .i64 t, .agg #[.int .i64 2, .int .i64 i.a, .int .i64 i.b, .int .i64 i.n]] w (Made w t i) := by
  have H : Hid (i.op = 2) := h
  clear h
  go_enter Tryd.func104, Tryd.ntmps104
  go_wp2_with fail
  go_quiet (fail)
  go_wp2_with fail
  refine (load_mk t i H.out _).mono ?_
  rintro e w1 ⟨v, rfl, ha, hg⟩
  have HA := hide ha
  have HG := hide hg
  clear ha hg
  go_wp2_with fail
  go_ret
  exact Made.grow (w := _) ⟨v, rfl, HA.out, HG.out⟩ (grown_drewN _ (grown_alloc (grown_refl _ _)))

set_option maxHeartbeats 1000000 in
set_option maxRecDepth 100000 in
theorem makeAction_3 (t : Nat) (i : Ins) (h : i.op = 3) (w : World) : Calls Tryd.prog 104 #[.int .i64 t, .agg #[.int .i64 3, .int .i64 i.a, .int .i64 i.b, .int .i64 i.n]] w (Made w t i) := by
  have H : Hid (i.op = 3) := h
  clear h
  go_enter Tryd.func104, Tryd.ntmps104
  go_wp2_with fail
  go_quiet (fail)
  go_wp2_with fail
  refine (store_mk t i H.out _).mono ?_
  rintro e w1 ⟨v, rfl, ha, hg⟩
  have HA := hide ha
  have HG := hide hg
  clear ha hg
  go_wp2_with fail
  go_ret
  exact Made.grow (w := _) ⟨v, rfl, HA.out, HG.out⟩ (grown_drewN _ (grown_alloc (grown_refl _ _)))

set_option maxHeartbeats 1000000 in
set_option maxRecDepth 100000 in
theorem makeAction_4 (t : Nat) (i : Ins) (h : i.op = 4) (w : World) : Calls Tryd.prog 104 #[.int .i64 t, .agg #[.int .i64 4, .int .i64 i.a, .int .i64 i.b, .int .i64 i.n]] w (Made w t i) := by
  have H : Hid (i.op = 4) := h
  clear h
  go_enter Tryd.func104, Tryd.ntmps104
  go_wp2_with fail
  go_quiet (fail)
  go_wp2_with fail
  refine (add_mk t i H.out _).mono ?_
  rintro e w1 ⟨v, rfl, ha, hg⟩
  have HA := hide ha
  have HG := hide hg
  clear ha hg
  go_wp2_with fail
  go_ret
  exact Made.grow (w := _) ⟨v, rfl, HA.out, HG.out⟩ (grown_drewN _ (grown_alloc (grown_refl _ _)))

set_option maxHeartbeats 1000000 in
set_option maxRecDepth 100000 in
theorem makeAction_5 (t : Nat) (i : Ins) (h : i.op = 5) (w : World) : Calls Tryd.prog 104 #[.int .i64 t, .agg #[.int .i64 5, .int .i64 i.a, .int .i64 i.b, .int .i64 i.n]] w (Made w t i) := by
  have H : Hid (i.op = 5) := h
  clear h
  go_enter Tryd.func104, Tryd.ntmps104
  go_wp2_with fail
  go_quiet (fail)
  go_wp2_with fail
  refine (sub_mk t i H.out _).mono ?_
  rintro e w1 ⟨v, rfl, ha, hg⟩
  have HA := hide ha
  have HG := hide hg
  clear ha hg
  go_wp2_with fail
  go_ret
  exact Made.grow (w := _) ⟨v, rfl, HA.out, HG.out⟩ (grown_drewN _ (grown_alloc (grown_refl _ _)))

set_option maxHeartbeats 1000000 in
set_option maxRecDepth 100000 in
theorem makeAction_6 (t : Nat) (i : Ins) (h : i.op = 6) (w : World) : Calls Tryd.prog 104 #[.int .i64 t, .agg #[.int .i64 6, .int .i64 i.a, .int .i64 i.b, .int .i64 i.n]] w (Made w t i) := by
  have H : Hid (i.op = 6) := h
  clear h
  go_enter Tryd.func104, Tryd.ntmps104
  go_wp2_with fail
  go_quiet (fail)
  go_wp2_with fail
  refine (mul_mk t i H.out _).mono ?_
  rintro e w1 ⟨v, rfl, ha, hg⟩
  have HA := hide ha
  have HG := hide hg
  clear ha hg
  go_wp2_with fail
  go_ret
  exact Made.grow (w := _) ⟨v, rfl, HA.out, HG.out⟩ (grown_drewN _ (grown_alloc (grown_refl _ _)))

set_option maxHeartbeats 1000000 in
set_option maxRecDepth 100000 in
theorem makeAction_7 (t : Nat) (i : Ins) (h : i.op = 7) (w : World) : Calls Tryd.prog 104 #[.int .i64 t, .agg #[.int .i64 7, .int .i64 i.a, .int .i64 i.b, .int .i64 i.n]] w (Made w t i) := by
  have H : Hid (i.op = 7) := h
  clear h
  go_enter Tryd.func104, Tryd.ntmps104
  go_wp2_with fail
  go_quiet (fail)
  go_wp2_with fail
  refine (divide_mk t i H.out _).mono ?_
  rintro e w1 ⟨v, rfl, ha, hg⟩
  have HA := hide ha
  have HG := hide hg
  clear ha hg
  go_wp2_with fail
  go_ret
  exact Made.grow (w := _) ⟨v, rfl, HA.out, HG.out⟩ (grown_drewN _ (grown_alloc (grown_refl _ _)))

set_option maxHeartbeats 1000000 in
set_option maxRecDepth 100000 in
theorem makeAction_8 (t : Nat) (i : Ins) (h : i.op = 8) (w : World) : Calls Tryd.prog 104 #[.int .i64 t, .agg #[.int .i64 8, .int .i64 i.a, .int .i64 i.b, .int .i64 i.n]] w (Made w t i) := by
  have H : Hid (i.op = 8) := h
  clear h
  go_enter Tryd.func104, Tryd.ntmps104
  go_wp2_with fail
  go_quiet (fail)
  go_wp2_with fail
  refine (jump_mk t i H.out _).mono ?_
  rintro e w1 ⟨v, rfl, ha, hg⟩
  have HA := hide ha
  have HG := hide hg
  clear ha hg
  go_wp2_with fail
  go_ret
  exact Made.grow (w := _) ⟨v, rfl, HA.out, HG.out⟩ (grown_drewN _ (grown_alloc (grown_refl _ _)))

set_option maxHeartbeats 1000000 in
set_option maxRecDepth 100000 in
theorem makeAction_9 (t : Nat) (i : Ins) (h : i.op = 9) (w : World) : Calls Tryd.prog 104 #[.int .i64 t, .agg #[.int .i64 9, .int .i64 i.a, .int .i64 i.b, .int .i64 i.n]] w (Made w t i) := by
  have H : Hid (i.op = 9) := h
  clear h
  go_enter Tryd.func104, Tryd.ntmps104
  go_wp2_with fail
  go_quiet (fail)
  go_wp2_with fail
  refine (take_mk t i H.out _).mono ?_
  rintro e w1 ⟨v, rfl, ha, hg⟩
  have HA := hide ha
  have HG := hide hg
  clear ha hg
  go_wp2_with fail
  go_ret
  exact Made.grow (w := _) ⟨v, rfl, HA.out, HG.out⟩ (grown_drewN _ (grown_alloc (grown_refl _ _)))

set_option maxHeartbeats 1000000 in
set_option maxRecDepth 100000 in
theorem makeAction_10 (t : Nat) (i : Ins) (h : i.op = 10) (w : World) : Calls Tryd.prog 104 #[.int .i64 t, .agg #[.int .i64 10, .int .i64 i.a, .int .i64 i.b, .int .i64 i.n]] w (Made w t i) := by
  have H : Hid (i.op = 10) := h
  clear h
  go_enter Tryd.func104, Tryd.ntmps104
  go_wp2_with fail
  go_quiet (fail)
  go_wp2_with fail
  refine (release_mk t i H.out _).mono ?_
  rintro e w1 ⟨v, rfl, ha, hg⟩
  have HA := hide ha
  have HG := hide hg
  clear ha hg
  go_wp2_with fail
  go_ret
  exact Made.grow (w := _) ⟨v, rfl, HA.out, HG.out⟩ (grown_drewN _ (grown_alloc (grown_refl _ _)))

set_option maxHeartbeats 1000000 in
set_option maxRecDepth 100000 in
theorem makeAction_11 (t : Nat) (i : Ins) (h : i.op = 11) (w : World) : Calls Tryd.prog 104 #[.int .i64 t, .agg #[.int .i64 11, .int .i64 i.a, .int .i64 i.b, .int .i64 i.n]] w (Made w t i) := by
  have H : Hid (i.op = 11) := h
  clear h
  go_enter Tryd.func104, Tryd.ntmps104
  go_wp2_with fail
  go_quiet (fail)
  go_wp2_with fail
  refine (assert_mk t i H.out _).mono ?_
  rintro e w1 ⟨v, rfl, ha, hg⟩
  have HA := hide ha
  have HG := hide hg
  clear ha hg
  go_wp2_with fail
  go_ret
  exact Made.grow (w := _) ⟨v, rfl, HA.out, HG.out⟩ (grown_drewN _ (grown_alloc (grown_refl _ _)))

theorem makeAction_m (t : Nat) (i : Ins) (h1 : 1 ≤ i.op) (h2 : i.op ≤ 11) (w : World) : Calls Tryd.prog 104 #[.int .i64 t, .agg #[.int .i64 i.op, .int .i64 i.a, .int .i64 i.b, .int .i64 i.n]] w (Made w t i) := by
  have hc : i.op = 1 ∨ i.op = 2 ∨ i.op = 3 ∨ i.op = 4 ∨ i.op = 5 ∨ i.op = 6 ∨ i.op = 7 ∨ i.op = 8 ∨ i.op = 9 ∨ i.op = 10 ∨ i.op = 11 := by omega
  rcases hc with e | e | e | e | e | e | e | e | e | e | e
  · rw [e]; exact makeAction_1 t i e w
  · rw [e]; exact makeAction_2 t i e w
  · rw [e]; exact makeAction_3 t i e w
  · rw [e]; exact makeAction_4 t i e w
  · rw [e]; exact makeAction_5 t i e w
  · rw [e]; exact makeAction_6 t i e w
  · rw [e]; exact makeAction_7 t i e w
  · rw [e]; exact makeAction_8 t i e w
  · rw [e]; exact makeAction_9 t i e w
  · rw [e]; exact makeAction_10 t i e w
  · rw [e]; exact makeAction_11 t i e w

theorem four_cells {w : World} {g : Nat} {x0 x1 x2 x3 : Value} {t : TypeId} (h : w.heap[g]? = some (.cells #[x0, x1, x2, x3] t (0, 0))) :
    w.cell? ⟨g, 0, none⟩ = some x0 ∧ w.cell? ⟨g, 1, none⟩ = some x1 ∧ w.cell? ⟨g, 2, none⟩ = some x2 ∧ w.cell? ⟨g, 3, none⟩ = some x3 ∧ (∀ o, w.frozen? ⟨g, o, none⟩ = false) := by
  simp [World.cell?, World.frozen?, h]

/-- A move was made: its three cells. -/
def MoveMade (w : World) (t : Nat) (i : Ins) (e : Ending) (w' : World) : Prop :=
  ∃ kf caps, e = .returned (.agg #[.func (.func kf) #[] caps, .bool (i.op == 9), .int .i64 (if i.op = 9 then i.a else 0)]) ∧ (∀ w2 : World, (∀ k, w.heap.size ≤ k → k < w'.heap.size → w2.heap[k]? = w'.heap[k]?) → ActIs w'.heap.size w2 (.func (.func kf) #[] caps) t i) ∧ w.grownBy w' none

theorem ActIs.form {B : Nat} {w : World} {v : Value} {t : Nat} {i : Ins} (h : ActIs B w v t i) : ∃ kf caps, v = .func (.func kf) #[] caps := by
  obtain ⟨x, y, z, u, _, _, _, _, h⟩ := h
  rcases h with ⟨_, e, _⟩ | ⟨_, e, _⟩ | ⟨_, e, _⟩ | ⟨_, _, e, _⟩ | ⟨_, e, _⟩ | ⟨_, e, _⟩ | ⟨_, e, _⟩ | ⟨_, e, _⟩ | ⟨_, e, _⟩ <;> exact ⟨_, _, e⟩

set_option maxHeartbeats 1000000 in
set_option maxRecDepth 100000 in
theorem makeMove_m (t : Nat) (i : Ins) (h1 : 1 ≤ i.op) (h2 : i.op ≤ 11) (w : World) : Calls Tryd.prog 72 #[.int .i64 t, .agg #[.int .i64 i.op, .int .i64 i.a, .int .i64 i.b, .int .i64 i.n]] w (MoveMade w t i) := by
  go_enter Tryd.func72, Tryd.ntmps72
  go_wp2_with fail
  refine (makeAction_m t i h1 h2 _).mono ?_
  rintro e w1 ⟨v, rfl, ha, hg⟩
  obtain ⟨kf, caps, rfl⟩ := (ha w1 fun _ _ _ => rfl).form
  have HA := hide ha
  have HG := hide hg
  have hsz : w.heap.size + 2 ≤ w1.heap.size := by have := hg.size; simpa using this
  have hb0 : w1.heap[w.heap.size]? = some (.cells #[.int .i64 i.op, .int .i64 i.a, .int .i64 i.b, .int .i64 i.n] 28 (0, 0)) := by
    rw [hg.block _ (by simp; omega) (by simp), Below.heap_alloc _ _ _ (by simp)]; exact heap_alloc_new w _
  have hb1 : w1.heap[w.heap.size + 1]? = some (.cells #[.nilFunc, .bool false, .int .i64 0] 130 (0, 0)) := by
    rw [hg.block _ (by simp) (by simp)]
    have := heap_alloc_new (w.alloc (.cells #[.int .i64 i.op, .int .i64 i.a, .int .i64 i.b, .int .i64 i.n] 28)) (.cells #[.nilFunc, .bool false, .int .i64 0] 130)
    simpa using this
  clear ha hg
  obtain ⟨c0, c1, c2, c3, _⟩ := four_cells hb0
  obtain ⟨d0, d1, d2, df⟩ := three_cells hb1
  have dfa : ∀ (o : Obj) (k : Nat), (w1.alloc o).frozen? ⟨w.heap.size + 1, k, none⟩ = false := fun o k => by
    rw [World.frozen?_alloc_old _ _ _ (by simp; omega)]; exact df k
  clear df hb0 hb1 c2 c3
  have HG0 : Hid (w.grownBy w1 none) := grown_trans (grown_alloc (grown_alloc (grown_refl _ _))) HG.out
  by_cases h9 : i.op = 9
  · have H9 := hide h9
    have hq : (i.op == 9) = true := by simpa using h9
    clear h9
    go_wp2_with fail
    refine bodyPost_ret (v := .agg #[.func (.func kf) #[] caps, .bool true, .int .i64 i.a]) ?_ rfl ⟨kf, caps, ?_, ?_, ?_⟩
    · simp [results, Tryd.results72, go_sem, d0, d1, d2]
    · rw [hq, if_pos H9.out]
    · intro w2 hw2
      refine (HA.out _ fun k hk hk2 => ?_).mono (by simp)
      rw [hw2 k (by simp at hk; omega) (by simp; omega)]
      have hk3 : w.heap.size + 2 ≤ k := by simpa using hk
      rw [Below.heap_setCell _ _ _ _ (by simp; omega), Below.heap_setCell _ _ _ _ (by simp; omega), Below.heap_setCell _ _ _ _ (by simp; omega), Below.heap_alloc _ _ _ hk2]
    · iterate 3 refine grown_setNew ?_ (by omega)
      exact grown_alloc HG0.out
  · have H9 := hide h9
    have hq : (i.op == 9) = false := by simpa using h9
    clear h9
    go_wp2_with fail
    refine bodyPost_ret (v := .agg #[.func (.func kf) #[] caps, .bool false, .int .i64 0]) ?_ rfl ⟨kf, caps, ?_, ?_, ?_⟩
    · simp [results, Tryd.results72, go_sem, d0, d1, d2]
    · rw [hq, if_neg H9.out]
    · intro w2 hw2
      refine (HA.out _ fun k hk hk2 => ?_).mono (by simp)
      rw [hw2 k (by simp at hk; omega) (by simp; omega)]
      have hk3 : w.heap.size + 2 ≤ k := by simpa using hk
      rw [Below.heap_setCell _ _ _ _ (by simp; omega), Below.heap_setCell _ _ _ _ (by simp; omega), Below.heap_setCell _ _ _ _ (by simp; omega), Below.heap_alloc _ _ _ hk2]
    · iterate 3 refine grown_setNew ?_ (by omega)
      exact grown_alloc HG0.out

end Go.Proofs.YtklenjmfalljgaaDoor
