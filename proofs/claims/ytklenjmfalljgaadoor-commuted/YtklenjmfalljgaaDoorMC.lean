/- The texts Val Mk Mk2 New New2 Rep Fha Fhb Fhc. -/
import Derived.Test.YtklenjmfalljgaaDoorMB
import Derived.Maps.Own
import Derived.Maps.OwnOps
import Derived.Maps.Views
import Derived.DeepKeys4
import Derived.Deep.DeepCutAuto

/- The walks of fits and validIns. -/
namespace Go.Proofs.YtklenjmfalljgaaDoor
open Go.RowKit
attribute [local go_sem] Go.World.cell?_alloc_some

set_option maxHeartbeats 1000000 in
theorem fits_m (k x len : Int) (h0 : 0 ≤ len) (h16 : len ≤ 16) (w : World) : Calls Tryd.prog 192 #[.int .i64 k, .int .i64 x, .int .i64 len] w fun e w' => e = .returned (.bool (fitsB k x len)) ∧ w' = w := by
  by_cases e1 : k = 1
  · subst e1
    go_enter Tryd.func192, Tryd.ntmps192
    go_wp2_with (go_at_call 105; refine (below_m _ _ _).mono ?_; rintro e w' ⟨rfl, rfl⟩)
    go_ret
    exact ⟨rfl, rfl⟩
  by_cases e2 : k = 2
  · subst e2
    go_enter Tryd.func192, Tryd.ntmps192
    go_wp2_with (go_at_call 105; refine (below_m _ _ _).mono ?_; rintro e w' ⟨rfl, rfl⟩)
    go_ret
    exact ⟨rfl, rfl⟩
  by_cases e3 : k = 3
  · subst e3
    go_enter Tryd.func192, Tryd.ntmps192
    go_wp2_with (go_at_call 105; refine (below_m _ _ _).mono ?_; rintro e w' ⟨rfl, rfl⟩)
    go_ret
    exact ⟨rfl, rfl⟩
  by_cases e4 : k = 4
  · subst e4
    go_enter Tryd.func192, Tryd.ntmps192
    go_wp2_with (go_at_call 105; refine (below_m _ _ _).mono ?_; rintro e w' ⟨rfl, rfl⟩)
    go_ret
    exact ⟨rfl, rfl⟩
  by_cases e5 : k = 5
  · subst e5
    go_enter Tryd.func192, Tryd.ntmps192
    go_wp2_with fail
    go_ret
    exact ⟨rfl, rfl⟩
  have HB : Hid (fitsB k x len = (x == 0)) := by unfold Hid; simp [fitsB, e1, e2, e3, e4, e5]
  have f1 : (k == 1) = false := by simpa using e1
  have f2 : (k == 2) = false := by simpa using e2
  have f3 : (k == 3) = false := by simpa using e3
  have f4 : (k == 4) = false := by simpa using e4
  have f5 : (k == 5) = false := by simpa using e5
  go_enter Tryd.func192, Tryd.ntmps192
  go_wp2_with fail
  go_ret
  exact ⟨by rw [HB.out]; rfl, rfl⟩

/-- The table of shapes, as it lies in memory. -/
def ShpAt (w : World) : Prop := ∀ o j, o < 12 → j < 3 → w.cell? ⟨0, o * 3 + j, none⟩ = some (.int .i64 (shp o j))

set_option maxHeartbeats 1000000 in
set_option maxRecDepth 100000 in
theorem validIns_m (i : Ins) (len : Int) (h0 : 0 ≤ len) (h16 : len ≤ 16) (w : World) (hS : ShpAt w) :
    Calls Tryd.prog 157 #[.agg #[.int .i64 i.op, .int .i64 i.a, .int .i64 i.b, .int .i64 i.n], .int .i64 len] w fun e w' => e = .returned (.bool (vIns i len)) ∧ w.grownBy w' none := by
  have HSh : Hid (ShpAt w) := hS
  clear hS
  by_cases h1 : 1 ≤ i.op
  · by_cases h2 : i.op ≤ 11
    · have eo : ((i.op.toNat : Nat) : Int) = i.op := by omega
      have c0 := HSh.out i.op.toNat 0 (by omega) (by omega)
      have c1 := HSh.out i.op.toNat 1 (by omega) (by omega)
      have c2 := HSh.out i.op.toNat 2 (by omega) (by omega)
      simp only [Nat.add_zero] at c0
      have HV : Hid (vIns i len = (fitsB (shp i.op.toNat 0) i.a len && (fitsB (shp i.op.toNat 1) i.b len && fitsB (shp i.op.toNat 2) i.n len))) := by unfold Hid; simp [vIns, h1, h2]
      generalize shp i.op.toNat 0 = k0 at *
      generalize shp i.op.toNat 1 = k1 at *
      generalize shp i.op.toNat 2 = k2 at *
      go_enter Tryd.func157, Tryd.ntmps157
      go_wp2_with fail
      refine (fits_m _ _ _ h0 h16 _).mono ?_
      rintro e w' ⟨rfl, rfl⟩
      cases hf0 : fitsB k0 i.a len
      · go_wp2_with fail
        go_ret
        exact ⟨by rw [HV.out, hf0]; rfl, grown_alloc (grown_alloc (grown_refl _ _))⟩
      · go_wp2_with fail
        refine (fits_m _ _ _ h0 h16 _).mono ?_
        rintro e w' ⟨rfl, rfl⟩
        cases hf1 : fitsB k1 i.b len
        · go_wp2_with fail
          go_ret
          exact ⟨by rw [HV.out, hf0, hf1]; rfl, grown_alloc (grown_alloc (grown_refl _ _))⟩
        · go_wp2_with fail
          refine (fits_m _ _ _ h0 h16 _).mono ?_
          rintro e w' ⟨rfl, rfl⟩
          go_wp2_with fail
          go_ret
          exact ⟨by rw [HV.out, hf0, hf1]; simp, grown_alloc (grown_alloc (grown_refl _ _))⟩
    · have HV : Hid (vIns i len = false) := by unfold Hid; simp [vIns, h2]
      have h3 : 11 < i.op := by omega
      go_enter Tryd.func157, Tryd.ntmps157
      go_wp2_with fail
      go_ret
      exact ⟨by rw [HV.out]; rfl, grown_alloc (grown_refl _ _)⟩
  · have HV : Hid (vIns i len = false) := by unfold Hid; simp [vIns, h1]
    have h3 : i.op < 1 := by omega
    go_enter Tryd.func157, Tryd.ntmps157
    go_wp2_with fail
    go_ret
    exact ⟨by rw [HV.out]; rfl, grown_alloc (grown_refl _ _)⟩

/-- A thread's code in memory. -/
def CodeAt (w : World) (v : Value) (c : List Ins) : Prop :=
  ∃ ao cap, v = .slice ao c.length cap ∧ ∀ k (hk : k < c.length), ∃ g o, ao = some ⟨g, o, none⟩ ∧ w.cell? ⟨g, o + k * 4, none⟩ = some (.int .i64 c[k].op) ∧
    w.cell? ⟨g, o + k * 4 + 1, none⟩ = some (.int .i64 c[k].a) ∧ w.cell? ⟨g, o + k * 4 + 2, none⟩ = some (.int .i64 c[k].b) ∧ w.cell? ⟨g, o + k * 4 + 3, none⟩ = some (.int .i64 c[k].n)

/-- A program in memory. -/
def ProgAt (w : World) (v : Value) (p : List (List Ins)) : Prop :=
  ∃ ao cap, v = .agg #[.slice ao p.length cap] ∧ ∀ t (ht : t < p.length), ∃ g o, ao = some ⟨g, o, none⟩ ∧ ∃ rv, w.cell? ⟨g, o + t, none⟩ = some rv ∧ CodeAt w rv p[t]

/-- Cells that are there are as they were. -/
def Pres (w w' : World) : Prop := ∀ a v, w.cell? a = some v → w'.cell? a = some v
theorem Pres.refl (w : World) : Pres w w := fun _ _ h => h
theorem Pres.trans {a b c : World} (h : Pres a b) (h' : Pres b c) : Pres a c := fun x v hx => h' x v (h x v hx)
theorem pres_grown {w w' : World} (h : w.grownBy w' none) : Pres w w' := fun a v ha => by
  rw [h.cell_far a (World.block_lt_of_cell? w a ha) (by simp)]; exact ha
theorem CodeAt.pres {w w' : World} {v : Value} {c : List Ins} (h : CodeAt w v c) (hp : Pres w w') : CodeAt w' v c := by
  obtain ⟨ao, cap, e, h⟩ := h
  refine ⟨ao, cap, e, fun k hk => ?_⟩
  obtain ⟨g, o, e1, e2, e3, e4, e5⟩ := h k hk
  exact ⟨g, o, e1, hp _ _ e2, hp _ _ e3, hp _ _ e4, hp _ _ e5⟩
theorem ProgAt.pres {w w' : World} {v : Value} {p : List (List Ins)} (h : ProgAt w v p) (hp : Pres w w') : ProgAt w' v p := by
  obtain ⟨ao, cap, e, h⟩ := h
  refine ⟨ao, cap, e, fun k hk => ?_⟩
  obtain ⟨g, o, e1, rv, e2, e3⟩ := h k hk
  exact ⟨g, o, e1, rv, hp _ _ e2, e3.pres hp⟩
theorem ShpAt.pres {w w' : World} (h : ShpAt w) (hp : Pres w w') : ShpAt w' := fun o j h1 h2 => hp _ _ (h o j h1 h2)

theorem all_take_succ {α : Type} (l : List α) (f : α → Bool) (k : Nat) (h : k < l.length) : (l.take (k + 1)).all f = ((l.take k).all f && f l[k]) := by
  rw [List.take_succ_eq_append_getElem h, List.all_append]; simp

set_option maxHeartbeats 1000000 in
set_option maxRecDepth 100000 in
theorem validThread_m (c : List Ins) (v : Value) (w : World) (hS : ShpAt w) (hc : CodeAt w v c) :
    Calls Tryd.prog 109 #[v] w fun e w' => e = .returned (.bool (vCode c)) ∧ w.grownBy w' none := by
  obtain ⟨ao, cap, rfl, hc⟩ := hc
  have HSh : Hid (ShpAt w) := hS
  have HC := hide hc
  clear hS hc
  by_cases h16 : c.length ≤ 16
  · have h2 : (c.length : Int) ≤ 16 := by omega
    have HV : Hid (vCode c = c.all fun i => vIns i c.length) := by unfold Hid; simp [vCode, h16]
    go_enter Tryd.func109, Tryd.ntmps109
    go_wp2
    go_loopw [10] (fun i w' => ∃ k : Nat, k ≤ c.length ∧ i = .int .i64 k ∧ Hid (w.grownBy w' none) ∧ Hid ((c.take k).all (fun i => vIns i c.length) = true)) (fun i _ => c.length - (intOf i).toNat)
    case atStart => exact ⟨0, Nat.zero_le _, rfl, grown_refl _ _, rfl⟩
    case round =>
      obtain ⟨k, hk, rfl, HG, HA⟩ := hrel
      by_cases hlt : k < c.length
      · obtain ⟨g, o, rfl, c0, c1, c2, c3⟩ := HC.out k hlt
        have hpr := pres_grown HG.out
        have d0 := hpr _ _ c0
        have d1 := hpr _ _ c1
        have d2 := hpr _ _ c2
        have d3 := hpr _ _ c3
        have HAs := hide (all_take_succ c (fun i => vIns i c.length) k hlt)
        clear c0 c1 c2 c3 hpr
        have hk0 : (0 : Int) ≤ (k : Int) := by omega
        have hk1 : (k : Int) < c.length := by omega
        have HSh' : Hid (ShpAt wr) := HSh.out.pres (pres_grown HG.out)
        generalize c[k] = i at *
        go_wp2_with fail
        refine (validIns_m i c.length (by omega) (by omega) _ (HSh'.out.pres (pres_grown (grown_alloc (grown_refl _ _))))).mono ?_
        rintro e w1 ⟨rfl, hg1⟩
        have HG1 : Hid (w.grownBy w1 none) := grown_trans (grown_alloc HG.out) hg1
        clear hg1
        cases hv : vIns i c.length
        · have HE : Hid (vCode c = false) := by
            unfold Hid
            rw [HV.out]
            have : (c.take (k + 1)).all (fun i => vIns i c.length) = false := by rw [HAs.out, hv]; simp
            rw [← List.take_append_drop (k + 1) c, List.all_append, List.take_append_drop, this]; rfl
          go_wp2_with fail
          go_ret
          exact ⟨by rw [HE.out]; rfl, HG1⟩
        · have HA1 : Hid ((c.take (k + 1)).all (fun i => vIns i c.length) = true) := by unfold Hid; rw [HAs.out, hv, HA.out]; rfl
          clear HAs hv
          go_wp2
          go_roundw
          case rel => exact ⟨k + 1, by omega, by go_num, HG1, HA1⟩
          case measure => simp [intOf]; omega
      · have HE : Hid (vCode c = true) := by
          unfold Hid
          rw [HV.out]
          have := HA.out
          rw [List.take_of_length_le (by omega)] at this
          exact this
        go_wp2
        go_ret
        exact ⟨by rw [HE.out]; rfl, HG⟩
  · have HV : Hid (vCode c = false) := by unfold Hid; simp [vCode, h16]
    have h2 : (16 : Int) < c.length := by omega
    go_enter Tryd.func109, Tryd.ntmps109
    go_wp2
    go_ret
    exact ⟨by rw [HV.out]; rfl, grown_refl _ _⟩

end Go.Proofs.YtklenjmfalljgaaDoor

/- The walks of the makers of closures and of makeAction. -/
namespace Go.Proofs.YtklenjmfalljgaaDoor
open Go.RowKit
attribute [local go_sem] Go.World.cell?_alloc_some

/-- A closure was made. -/
def Made (w : World) (t : Nat) (i : Ins) (e : Ending) (w' : World) : Prop := ∃ v, e = .returned v ∧ (∀ w'' : World, (∀ k, w.heap.size ≤ k → k < w'.heap.size → w''.heap[k]? = w'.heap[k]?) → ActIs w'.heap.size w'' v t i) ∧ w.grownBy w' none

theorem cell_a1 (w : World) (x : Value) (t : TypeId) : (w.alloc (.cells #[x] t)).cell? ⟨w.heap.size, 0, none⟩ = some x := by simp
theorem cell_a2 (w : World) (o : Obj) (a : Addr) (x : Value) (h : w.cell? a = some x) : (w.alloc o).cell? a = some x := by
  rw [World.cell?_alloc_lt _ _ _ (World.block_lt_of_cell? w a h)]; exact h

set_option maxHeartbeats 400000 in
theorem set_mk (t : Nat) (i : Ins) (h : i.op = 1) (w : World) : Calls Tryd.prog 144 #[.int .i64 t, .int .i64 i.a, .int .i64 i.n] w (Made w t i) := by
  have hmf : ∀ (fn : Fn) (first cap : Array Value) (w : World), (Instr.makeFunc fn first cap).run Tryd.prog w = .ok (.func fn first cap) w := fun _ _ _ _ => rfl
  have H : Hid (i.op = 1) := h
  clear h
  go_enter Tryd.func144, Tryd.ntmps144
  go_wp2
  go_ret
  have h := H.out
  refine ⟨_, rfl, fun w2 hw2 => ⟨w.heap.size + 2, w.heap.size, w.heap.size + 1, 0, by (simp <;> omega), by (simp <;> omega), by (simp <;> omega), by simp, Or.inl ⟨h, rfl, ?_, ?_, ?_⟩⟩, grown_alloc (grown_alloc (grown_alloc (grown_refl _ _)))⟩
  all_goals (rw [World.cell?_of_block (hw2 _ (by (simp <;> omega)) (by (simp <;> omega)))]; simp [go_sem])

set_option maxHeartbeats 400000 in
theorem load_mk (t : Nat) (i : Ins) (h : i.op = 2) (w : World) : Calls Tryd.prog 145 #[.int .i64 t, .int .i64 i.a, .int .i64 i.b] w (Made w t i) := by
  have hmf : ∀ (fn : Fn) (first cap : Array Value) (w : World), (Instr.makeFunc fn first cap).run Tryd.prog w = .ok (.func fn first cap) w := fun _ _ _ _ => rfl
  have H : Hid (i.op = 2) := h
  clear h
  go_enter Tryd.func145, Tryd.ntmps145
  go_wp2
  go_ret
  have h := H.out
  refine ⟨_, rfl, fun w2 hw2 => ⟨w.heap.size + 2, w.heap.size, w.heap.size + 1, 0, by (simp <;> omega), by (simp <;> omega), by (simp <;> omega), by simp, Or.inr (Or.inl ⟨h, rfl, ?_, ?_, ?_⟩)⟩, grown_alloc (grown_alloc (grown_alloc (grown_refl _ _)))⟩
  all_goals (rw [World.cell?_of_block (hw2 _ (by (simp <;> omega)) (by (simp <;> omega)))]; simp [go_sem])

set_option maxHeartbeats 400000 in
theorem store_mk (t : Nat) (i : Ins) (h : i.op = 3) (w : World) : Calls Tryd.prog 146 #[.int .i64 t, .int .i64 i.a, .int .i64 i.b] w (Made w t i) := by
  have hmf : ∀ (fn : Fn) (first cap : Array Value) (w : World), (Instr.makeFunc fn first cap).run Tryd.prog w = .ok (.func fn first cap) w := fun _ _ _ _ => rfl
  have H : Hid (i.op = 3) := h
  clear h
  go_enter Tryd.func146, Tryd.ntmps146
  go_wp2
  go_ret
  have h := H.out
  refine ⟨_, rfl, fun w2 hw2 => ⟨w.heap.size, w.heap.size + 2, w.heap.size + 1, 0, by (simp <;> omega), by (simp <;> omega), by (simp <;> omega), by simp, Or.inr (Or.inr (Or.inl ⟨h, rfl, ?_, ?_, ?_⟩))⟩, grown_alloc (grown_alloc (grown_alloc (grown_refl _ _)))⟩
  all_goals (rw [World.cell?_of_block (hw2 _ (by (simp <;> omega)) (by (simp <;> omega)))]; simp [go_sem])

set_option maxHeartbeats 400000 in
theorem divide_mk (t : Nat) (i : Ins) (h : i.op = 7) (w : World) : Calls Tryd.prog 151 #[.int .i64 t, .int .i64 i.a, .int .i64 i.b] w (Made w t i) := by
  have hmf : ∀ (fn : Fn) (first cap : Array Value) (w : World), (Instr.makeFunc fn first cap).run Tryd.prog w = .ok (.func fn first cap) w := fun _ _ _ _ => rfl
  have H : Hid (i.op = 7) := h
  clear h
  go_enter Tryd.func151, Tryd.ntmps151
  go_wp2
  go_ret
  have h := H.out
  refine ⟨_, rfl, fun w2 hw2 => ⟨w.heap.size, w.heap.size + 2, w.heap.size + 1, 0, by (simp <;> omega), by (simp <;> omega), by (simp <;> omega), by simp, Or.inr (Or.inr (Or.inr (Or.inr (Or.inl ⟨h, rfl, ?_, ?_, ?_⟩))))⟩, grown_alloc (grown_alloc (grown_alloc (grown_refl _ _)))⟩
  all_goals (rw [World.cell?_of_block (hw2 _ (by (simp <;> omega)) (by (simp <;> omega)))]; simp [go_sem])

set_option maxHeartbeats 400000 in
theorem jump_mk (t : Nat) (i : Ins) (h : i.op = 8) (w : World) : Calls Tryd.prog 152 #[.int .i64 t, .int .i64 i.a, .int .i64 i.n] w (Made w t i) := by
  have hmf : ∀ (fn : Fn) (first cap : Array Value) (w : World), (Instr.makeFunc fn first cap).run Tryd.prog w = .ok (.func fn first cap) w := fun _ _ _ _ => rfl
  have H : Hid (i.op = 8) := h
  clear h
  go_enter Tryd.func152, Tryd.ntmps152
  go_wp2
  go_ret
  have h := H.out
  refine ⟨_, rfl, fun w2 hw2 => ⟨w.heap.size, w.heap.size + 1, w.heap.size + 2, 0, by (simp <;> omega), by (simp <;> omega), by (simp <;> omega), by simp, Or.inr (Or.inr (Or.inr (Or.inr (Or.inr (Or.inl ⟨h, rfl, ?_, ?_, ?_⟩)))))⟩, grown_alloc (grown_alloc (grown_alloc (grown_refl _ _)))⟩
  all_goals (rw [World.cell?_of_block (hw2 _ (by (simp <;> omega)) (by (simp <;> omega)))]; simp [go_sem])

set_option maxHeartbeats 400000 in
theorem take_mk (t : Nat) (i : Ins) (h : i.op = 9) (w : World) : Calls Tryd.prog 153 #[.int .i64 t, .int .i64 i.a] w (Made w t i) := by
  have hmf : ∀ (fn : Fn) (first cap : Array Value) (w : World), (Instr.makeFunc fn first cap).run Tryd.prog w = .ok (.func fn first cap) w := fun _ _ _ _ => rfl
  have H : Hid (i.op = 9) := h
  clear h
  go_enter Tryd.func153, Tryd.ntmps153
  go_wp2
  go_ret
  have h := H.out
  refine ⟨_, rfl, fun w2 hw2 => ⟨w.heap.size, w.heap.size + 1, 0, 0, by (simp <;> omega), by simp, by simp, by simp, Or.inr (Or.inr (Or.inr (Or.inr (Or.inr (Or.inr (Or.inl ⟨h, rfl, ?_, ?_⟩))))))⟩, grown_alloc (grown_alloc (grown_refl _ _))⟩
  all_goals (rw [World.cell?_of_block (hw2 _ (by (simp <;> omega)) (by (simp <;> omega)))]; simp [go_sem])

set_option maxHeartbeats 400000 in
theorem assert_mk (t : Nat) (i : Ins) (h : i.op = 11) (w : World) : Calls Tryd.prog 155 #[.int .i64 t, .int .i64 i.a] w (Made w t i) := by
  have hmf : ∀ (fn : Fn) (first cap : Array Value) (w : World), (Instr.makeFunc fn first cap).run Tryd.prog w = .ok (.func fn first cap) w := fun _ _ _ _ => rfl
  have H : Hid (i.op = 11) := h
  clear h
  go_enter Tryd.func155, Tryd.ntmps155
  go_wp2
  go_ret
  have h := H.out
  refine ⟨_, rfl, fun w2 hw2 => ⟨w.heap.size, w.heap.size + 1, 0, 0, by (simp <;> omega), by simp, by simp, by simp, Or.inr (Or.inr (Or.inr (Or.inr (Or.inr (Or.inr (Or.inr (Or.inr (⟨h, rfl, ?_, ?_⟩))))))))⟩, grown_alloc (grown_alloc (grown_refl _ _))⟩
  all_goals (rw [World.cell?_of_block (hw2 _ (by (simp <;> omega)) (by (simp <;> omega)))]; simp [go_sem])

set_option maxHeartbeats 400000 in
theorem release_mk (t : Nat) (i : Ins) (h : i.op = 10) (w : World) : Calls Tryd.prog 154 #[.int .i64 t, .int .i64 i.a] w (Made w t i) := by
  have hmf : ∀ (fn : Fn) (first cap : Array Value) (w : World), (Instr.makeFunc fn first cap).run Tryd.prog w = .ok (.func fn first cap) w := fun _ _ _ _ => rfl
  have H : Hid (i.op = 10) := h
  clear h
  go_enter Tryd.func154, Tryd.ntmps154
  go_wp2
  go_ret
  have h := H.out
  refine ⟨_, rfl, fun w2 hw2 => ⟨w.heap.size, w.heap.size + 1, 0, 0, by (simp <;> omega), by simp, by simp, by simp, Or.inr (Or.inr (Or.inr (Or.inr (Or.inr (Or.inr (Or.inr (Or.inl ⟨h, rfl, ?_, ?_, ?_⟩)))))))⟩, grown_alloc (grown_alloc (grown_refl _ _))⟩
  all_goals (rw [World.cell?_of_block (hw2 _ (by (simp <;> omega)) (by (simp <;> omega)))]; simp [go_sem])

set_option maxHeartbeats 400000 in
theorem add_mk (t : Nat) (i : Ins) (h : i.op = 4) (w : World) : Calls Tryd.prog 147 #[.int .i64 t, .int .i64 i.a, .int .i64 i.b, .func (.func 148) #[] #[]] w (Made w t i) := by
  have hmf : ∀ (fn : Fn) (first cap : Array Value) (w : World), (Instr.makeFunc fn first cap).run Tryd.prog w = .ok (.func fn first cap) w := fun _ _ _ _ => rfl
  have H : Hid (i.op = 4) := h
  clear h
  go_enter Tryd.func147, Tryd.ntmps147
  go_wp2
  go_ret
  have h := H.out
  refine ⟨_, rfl, fun w2 hw2 => ⟨w.heap.size + 3, w.heap.size, w.heap.size + 1, w.heap.size + 2, by (simp <;> omega), by (simp <;> omega), by (simp <;> omega), by (simp <;> omega), Or.inr (Or.inr (Or.inr (Or.inl ⟨_, Or.inl ⟨h, rfl⟩, rfl, ?_, ?_, ?_, ?_⟩)))⟩, grown_alloc (grown_alloc (grown_alloc (grown_alloc (grown_refl _ _))))⟩
  all_goals (rw [World.cell?_of_block (hw2 _ (by (simp <;> omega)) (by (simp <;> omega)))]; simp [go_sem])

set_option maxHeartbeats 400000 in
theorem sub_mk (t : Nat) (i : Ins) (h : i.op = 5) (w : World) : Calls Tryd.prog 147 #[.int .i64 t, .int .i64 i.a, .int .i64 i.b, .func (.func 149) #[] #[]] w (Made w t i) := by
  have hmf : ∀ (fn : Fn) (first cap : Array Value) (w : World), (Instr.makeFunc fn first cap).run Tryd.prog w = .ok (.func fn first cap) w := fun _ _ _ _ => rfl
  have H : Hid (i.op = 5) := h
  clear h
  go_enter Tryd.func147, Tryd.ntmps147
  go_wp2
  go_ret
  have h := H.out
  refine ⟨_, rfl, fun w2 hw2 => ⟨w.heap.size + 3, w.heap.size, w.heap.size + 1, w.heap.size + 2, by (simp <;> omega), by (simp <;> omega), by (simp <;> omega), by (simp <;> omega), Or.inr (Or.inr (Or.inr (Or.inl ⟨_, Or.inr (Or.inl ⟨h, rfl⟩), rfl, ?_, ?_, ?_, ?_⟩)))⟩, grown_alloc (grown_alloc (grown_alloc (grown_alloc (grown_refl _ _))))⟩
  all_goals (rw [World.cell?_of_block (hw2 _ (by (simp <;> omega)) (by (simp <;> omega)))]; simp [go_sem])

set_option maxHeartbeats 400000 in
theorem mul_mk (t : Nat) (i : Ins) (h : i.op = 6) (w : World) : Calls Tryd.prog 147 #[.int .i64 t, .int .i64 i.a, .int .i64 i.b, .func (.func 150) #[] #[]] w (Made w t i) := by
  have hmf : ∀ (fn : Fn) (first cap : Array Value) (w : World), (Instr.makeFunc fn first cap).run Tryd.prog w = .ok (.func fn first cap) w := fun _ _ _ _ => rfl
  have H : Hid (i.op = 6) := h
  clear h
  go_enter Tryd.func147, Tryd.ntmps147
  go_wp2
  go_ret
  have h := H.out
  refine ⟨_, rfl, fun w2 hw2 => ⟨w.heap.size + 3, w.heap.size, w.heap.size + 1, w.heap.size + 2, by (simp <;> omega), by (simp <;> omega), by (simp <;> omega), by (simp <;> omega), Or.inr (Or.inr (Or.inr (Or.inl ⟨_, Or.inr (Or.inr ⟨h, rfl⟩), rfl, ?_, ?_, ?_, ?_⟩)))⟩, grown_alloc (grown_alloc (grown_alloc (grown_alloc (grown_refl _ _))))⟩
  all_goals (rw [World.cell?_of_block (hw2 _ (by (simp <;> omega)) (by (simp <;> omega)))]; simp [go_sem])

end Go.Proofs.YtklenjmfalljgaaDoor

/- The walks of makeAction and makeMove. -/
namespace Go.Proofs.YtklenjmfalljgaaDoor
open Go.RowKit
attribute [local go_sem] Go.World.cell?_alloc_some

theorem Made.grow {w0 w w' : World} {t : Nat} {i : Ins} {e : Ending} (h : Made w t i e w') (hg : w0.grownBy w none) : Made w0 t i e w' := by
  obtain ⟨v, h1, h2, h3⟩ := h
  exact ⟨v, h1, fun w2 hw2 => h2 w2 fun k hk hk2 => hw2 k (Nat.le_trans hg.size hk) hk2, grown_trans hg h3⟩

set_option maxHeartbeats 1000000 in
set_option maxRecDepth 100000 in
theorem makeAction_1 (t : Nat) (i : Ins) (h : i.op = 1) (w : World) : Calls Tryd.prog 104 #[.int .i64 t, .agg #[.int .i64 1, .int .i64 i.a, .int .i64 i.b, .int .i64 i.n]] w (Made w t i) := by
  have H : Hid (i.op = 1) := h
  clear h
  go_enter Tryd.func104, Tryd.ntmps104
  go_wp2_with fail
  go_quiet (fail)
  go_wp2_with fail
  refine (set_mk t i H.out _).mono ?_
  rintro e w1 ⟨v, rfl, ha, hg⟩
  have HA := hide ha
  have HG := hide hg
  clear ha hg
  go_wp2_with fail
  go_ret
  exact Made.grow (w := _) ⟨v, rfl, HA.out, HG.out⟩ (grown_drewN _ (grown_alloc (grown_refl _ _)))

set_option maxHeartbeats 1000000 in
set_option maxRecDepth 100000 in
theorem makeAction_2 (t : Nat) (i : Ins) (h : i.op = 2) (w : World) : Calls Tryd.prog 104 #[.int .i64 t, .agg #[.int .i64 2, .int .i64 i.a, .int .i64 i.b, .int .i64 i.n]] w (Made w t i) := by
  have H : Hid (i.op = 2) := h
  clear h
  go_enter Tryd.func104, Tryd.ntmps104
  go_wp2_with fail
  go_quiet (fail)
  go_wp2_with fail
  refine (load_mk t i H.out _).mono ?_
  rintro e w1 ⟨v, rfl, ha, hg⟩
  have HA := hide ha
  have HG := hide hg
  clear ha hg
  go_wp2_with fail
  go_ret
  exact Made.grow (w := _) ⟨v, rfl, HA.out, HG.out⟩ (grown_drewN _ (grown_alloc (grown_refl _ _)))

set_option maxHeartbeats 1000000 in
set_option maxRecDepth 100000 in
theorem makeAction_3 (t : Nat) (i : Ins) (h : i.op = 3) (w : World) : Calls Tryd.prog 104 #[.int .i64 t, .agg #[.int .i64 3, .int .i64 i.a, .int .i64 i.b, .int .i64 i.n]] w (Made w t i) := by
  have H : Hid (i.op = 3) := h
  clear h
  go_enter Tryd.func104, Tryd.ntmps104
  go_wp2_with fail
  go_quiet (fail)
  go_wp2_with fail
  refine (store_mk t i H.out _).mono ?_
  rintro e w1 ⟨v, rfl, ha, hg⟩
  have HA := hide ha
  have HG := hide hg
  clear ha hg
  go_wp2_with fail
  go_ret
  exact Made.grow (w := _) ⟨v, rfl, HA.out, HG.out⟩ (grown_drewN _ (grown_alloc (grown_refl _ _)))

set_option maxHeartbeats 1000000 in
set_option maxRecDepth 100000 in
theorem makeAction_4 (t : Nat) (i : Ins) (h : i.op = 4) (w : World) : Calls Tryd.prog 104 #[.int .i64 t, .agg #[.int .i64 4, .int .i64 i.a, .int .i64 i.b, .int .i64 i.n]] w (Made w t i) := by
  have H : Hid (i.op = 4) := h
  clear h
  go_enter Tryd.func104, Tryd.ntmps104
  go_wp2_with fail
  go_quiet (fail)
  go_wp2_with fail
  refine (add_mk t i H.out _).mono ?_
  rintro e w1 ⟨v, rfl, ha, hg⟩
  have HA := hide ha
  have HG := hide hg
  clear ha hg
  go_wp2_with fail
  go_ret
  exact Made.grow (w := _) ⟨v, rfl, HA.out, HG.out⟩ (grown_drewN _ (grown_alloc (grown_refl _ _)))

set_option maxHeartbeats 1000000 in
set_option maxRecDepth 100000 in
theorem makeAction_5 (t : Nat) (i : Ins) (h : i.op = 5) (w : World) : Calls Tryd.prog 104 #[.int .i64 t, .agg #[.int .i64 5, .int .i64 i.a, .int .i64 i.b, .int .i64 i.n]] w (Made w t i) := by
  have H : Hid (i.op = 5) := h
  clear h
  go_enter Tryd.func104, Tryd.ntmps104
  go_wp2_with fail
  go_quiet (fail)
  go_wp2_with fail
  refine (sub_mk t i H.out _).mono ?_
  rintro e w1 ⟨v, rfl, ha, hg⟩
  have HA := hide ha
  have HG := hide hg
  clear ha hg
  go_wp2_with fail
  go_ret
  exact Made.grow (w := _) ⟨v, rfl, HA.out, HG.out⟩ (grown_drewN _ (grown_alloc (grown_refl _ _)))

set_option maxHeartbeats 1000000 in
set_option maxRecDepth 100000 in
theorem makeAction_6 (t : Nat) (i : Ins) (h : i.op = 6) (w : World) : Calls Tryd.prog 104 #[.int .i64 t, .agg #[.int .i64 6, .int .i64 i.a, .int .i64 i.b, .int .i64 i.n]] w (Made w t i) := by
  have H : Hid (i.op = 6) := h
  clear h
  go_enter Tryd.func104, Tryd.ntmps104
  go_wp2_with fail
  go_quiet (fail)
  go_wp2_with fail
  refine (mul_mk t i H.out _).mono ?_
  rintro e w1 ⟨v, rfl, ha, hg⟩
  have HA := hide ha
  have HG := hide hg
  clear ha hg
  go_wp2_with fail
  go_ret
  exact Made.grow (w := _) ⟨v, rfl, HA.out, HG.out⟩ (grown_drewN _ (grown_alloc (grown_refl _ _)))

set_option maxHeartbeats 1000000 in
set_option maxRecDepth 100000 in
theorem makeAction_7 (t : Nat) (i : Ins) (h : i.op = 7) (w : World) : Calls Tryd.prog 104 #[.int .i64 t, .agg #[.int .i64 7, .int .i64 i.a, .int .i64 i.b, .int .i64 i.n]] w (Made w t i) := by
  have H : Hid (i.op = 7) := h
  clear h
  go_enter Tryd.func104, Tryd.ntmps104
  go_wp2_with fail
  go_quiet (fail)
  go_wp2_with fail
  refine (divide_mk t i H.out _).mono ?_
  rintro e w1 ⟨v, rfl, ha, hg⟩
  have HA := hide ha
  have HG := hide hg
  clear ha hg
  go_wp2_with fail
  go_ret
  exact Made.grow (w := _) ⟨v, rfl, HA.out, HG.out⟩ (grown_drewN _ (grown_alloc (grown_refl _ _)))

set_option maxHeartbeats 1000000 in
set_option maxRecDepth 100000 in
theorem makeAction_8 (t : Nat) (i : Ins) (h : i.op = 8) (w : World) : Calls Tryd.prog 104 #[.int .i64 t, .agg #[.int .i64 8, .int .i64 i.a, .int .i64 i.b, .int .i64 i.n]] w (Made w t i) := by
  have H : Hid (i.op = 8) := h
  clear h
  go_enter Tryd.func104, Tryd.ntmps104
  go_wp2_with fail
  go_quiet (fail)
  go_wp2_with fail
  refine (jump_mk t i H.out _).mono ?_
  rintro e w1 ⟨v, rfl, ha, hg⟩
  have HA := hide ha
  have HG := hide hg
  clear ha hg
  go_wp2_with fail
  go_ret
  exact Made.grow (w := _) ⟨v, rfl, HA.out, HG.out⟩ (grown_drewN _ (grown_alloc (grown_refl _ _)))

set_option maxHeartbeats 1000000 in
set_option maxRecDepth 100000 in
theorem makeAction_9 (t : Nat) (i : Ins) (h : i.op = 9) (w : World) : Calls Tryd.prog 104 #[.int .i64 t, .agg #[.int .i64 9, .int .i64 i.a, .int .i64 i.b, .int .i64 i.n]] w (Made w t i) := by
  have H : Hid (i.op = 9) := h
  clear h
  go_enter Tryd.func104, Tryd.ntmps104
  go_wp2_with fail
  go_quiet (fail)
  go_wp2_with fail
  refine (take_mk t i H.out _).mono ?_
  rintro e w1 ⟨v, rfl, ha, hg⟩
  have HA := hide ha
  have HG := hide hg
  clear ha hg
  go_wp2_with fail
  go_ret
  exact Made.grow (w := _) ⟨v, rfl, HA.out, HG.out⟩ (grown_drewN _ (grown_alloc (grown_refl _ _)))

set_option maxHeartbeats 1000000 in
set_option maxRecDepth 100000 in
theorem makeAction_10 (t : Nat) (i : Ins) (h : i.op = 10) (w : World) : Calls Tryd.prog 104 #[.int .i64 t, .agg #[.int .i64 10, .int .i64 i.a, .int .i64 i.b, .int .i64 i.n]] w (Made w t i) := by
  have H : Hid (i.op = 10) := h
  clear h
  go_enter Tryd.func104, Tryd.ntmps104
  go_wp2_with fail
  go_quiet (fail)
  go_wp2_with fail
  refine (release_mk t i H.out _).mono ?_
  rintro e w1 ⟨v, rfl, ha, hg⟩
  have HA := hide ha
  have HG := hide hg
  clear ha hg
  go_wp2_with fail
  go_ret
  exact Made.grow (w := _) ⟨v, rfl, HA.out, HG.out⟩ (grown_drewN _ (grown_alloc (grown_refl _ _)))

set_option maxHeartbeats 1000000 in
set_option maxRecDepth 100000 in
theorem makeAction_11 (t : Nat) (i : Ins) (h : i.op = 11) (w : World) : Calls Tryd.prog 104 #[.int .i64 t, .agg #[.int .i64 11, .int .i64 i.a, .int .i64 i.b, .int .i64 i.n]] w (Made w t i) := by
  have H : Hid (i.op = 11) := h
  clear h
  go_enter Tryd.func104, Tryd.ntmps104
  go_wp2_with fail
  go_quiet (fail)
  go_wp2_with fail
  refine (assert_mk t i H.out _).mono ?_
  rintro e w1 ⟨v, rfl, ha, hg⟩
  have HA := hide ha
  have HG := hide hg
  clear ha hg
  go_wp2_with fail
  go_ret
  exact Made.grow (w := _) ⟨v, rfl, HA.out, HG.out⟩ (grown_drewN _ (grown_alloc (grown_refl _ _)))

theorem makeAction_m (t : Nat) (i : Ins) (h1 : 1 ≤ i.op) (h2 : i.op ≤ 11) (w : World) : Calls Tryd.prog 104 #[.int .i64 t, .agg #[.int .i64 i.op, .int .i64 i.a, .int .i64 i.b, .int .i64 i.n]] w (Made w t i) := by
  have hc : i.op = 1 ∨ i.op = 2 ∨ i.op = 3 ∨ i.op = 4 ∨ i.op = 5 ∨ i.op = 6 ∨ i.op = 7 ∨ i.op = 8 ∨ i.op = 9 ∨ i.op = 10 ∨ i.op = 11 := by omega
  rcases hc with e | e | e | e | e | e | e | e | e | e | e
  · rw [e]; exact makeAction_1 t i e w
  · rw [e]; exact makeAction_2 t i e w
  · rw [e]; exact makeAction_3 t i e w
  · rw [e]; exact makeAction_4 t i e w
  · rw [e]; exact makeAction_5 t i e w
  · rw [e]; exact makeAction_6 t i e w
  · rw [e]; exact makeAction_7 t i e w
  · rw [e]; exact makeAction_8 t i e w
  · rw [e]; exact makeAction_9 t i e w
  · rw [e]; exact makeAction_10 t i e w
  · rw [e]; exact makeAction_11 t i e w

theorem four_cells {w : World} {g : Nat} {x0 x1 x2 x3 : Value} {t : TypeId} (h : w.heap[g]? = some (.cells #[x0, x1, x2, x3] t (0, 0))) :
    w.cell? ⟨g, 0, none⟩ = some x0 ∧ w.cell? ⟨g, 1, none⟩ = some x1 ∧ w.cell? ⟨g, 2, none⟩ = some x2 ∧ w.cell? ⟨g, 3, none⟩ = some x3 ∧ (∀ o, w.frozen? ⟨g, o, none⟩ = false) := by
  simp [World.cell?, World.frozen?, h]

/-- A move was made: its three cells. -/
def MoveMade (w : World) (t : Nat) (i : Ins) (e : Ending) (w' : World) : Prop :=
  ∃ kf caps, e = .returned (.agg #[.func (.func kf) #[] caps, .bool (i.op == 9), .int .i64 (if i.op = 9 then i.a else 0)]) ∧ (∀ w2 : World, (∀ k, w.heap.size ≤ k → k < w'.heap.size → w2.heap[k]? = w'.heap[k]?) → ActIs w'.heap.size w2 (.func (.func kf) #[] caps) t i) ∧ w.grownBy w' none

theorem ActIs.form {B : Nat} {w : World} {v : Value} {t : Nat} {i : Ins} (h : ActIs B w v t i) : ∃ kf caps, v = .func (.func kf) #[] caps := by
  obtain ⟨x, y, z, u, _, _, _, _, h⟩ := h
  rcases h with ⟨_, e, _⟩ | ⟨_, e, _⟩ | ⟨_, e, _⟩ | ⟨_, _, e, _⟩ | ⟨_, e, _⟩ | ⟨_, e, _⟩ | ⟨_, e, _⟩ | ⟨_, e, _⟩ | ⟨_, e, _⟩ <;> exact ⟨_, _, e⟩

set_option maxHeartbeats 1000000 in
set_option maxRecDepth 100000 in
theorem makeMove_m (t : Nat) (i : Ins) (h1 : 1 ≤ i.op) (h2 : i.op ≤ 11) (w : World) : Calls Tryd.prog 72 #[.int .i64 t, .agg #[.int .i64 i.op, .int .i64 i.a, .int .i64 i.b, .int .i64 i.n]] w (MoveMade w t i) := by
  go_enter Tryd.func72, Tryd.ntmps72
  go_wp2_with fail
  refine (makeAction_m t i h1 h2 _).mono ?_
  rintro e w1 ⟨v, rfl, ha, hg⟩
  obtain ⟨kf, caps, rfl⟩ := (ha w1 fun _ _ _ => rfl).form
  have HA := hide ha
  have HG := hide hg
  have hsz : w.heap.size + 2 ≤ w1.heap.size := by have := hg.size; simpa using this
  have hb0 : w1.heap[w.heap.size]? = some (.cells #[.int .i64 i.op, .int .i64 i.a, .int .i64 i.b, .int .i64 i.n] 28 (0, 0)) := by
    rw [hg.block _ (by simp; omega) (by simp), Below.heap_alloc _ _ _ (by simp)]; exact heap_alloc_new w _
  have hb1 : w1.heap[w.heap.size + 1]? = some (.cells #[.nilFunc, .bool false, .int .i64 0] 130 (0, 0)) := by
    rw [hg.block _ (by simp) (by simp)]
    have := heap_alloc_new (w.alloc (.cells #[.int .i64 i.op, .int .i64 i.a, .int .i64 i.b, .int .i64 i.n] 28)) (.cells #[.nilFunc, .bool false, .int .i64 0] 130)
    simpa using this
  clear ha hg
  obtain ⟨c0, c1, c2, c3, _⟩ := four_cells hb0
  obtain ⟨d0, d1, d2, df⟩ := three_cells hb1
  have dfa : ∀ (o : Obj) (k : Nat), (w1.alloc o).frozen? ⟨w.heap.size + 1, k, none⟩ = false := fun o k => by
    rw [World.frozen?_alloc_old _ _ _ (by simp; omega)]; exact df k
  clear df hb0 hb1 c2 c3
  have HG0 : Hid (w.grownBy w1 none) := grown_trans (grown_alloc (grown_alloc (grown_refl _ _))) HG.out
  by_cases h9 : i.op = 9
  · have H9 := hide h9
    have hq : (i.op == 9) = true := by simpa using h9
    clear h9
    go_wp2_with fail
    refine bodyPost_ret (v := .agg #[.func (.func kf) #[] caps, .bool true, .int .i64 i.a]) ?_ rfl ⟨kf, caps, ?_, ?_, ?_⟩
    · simp [results, Tryd.results72, go_sem, d0, d1, d2]
    · rw [hq, if_pos H9.out]
    · intro w2 hw2
      refine (HA.out _ fun k hk hk2 => ?_).mono (by simp)
      rw [hw2 k (by simp at hk; omega) (by simp; omega)]
      have hk3 : w.heap.size + 2 ≤ k := by simpa using hk
      rw [Below.heap_setCell _ _ _ _ (by simp; omega), Below.heap_setCell _ _ _ _ (by simp; omega), Below.heap_setCell _ _ _ _ (by simp; omega), Below.heap_alloc _ _ _ hk2]
    · iterate 3 refine grown_setNew ?_ (by omega)
      exact grown_alloc HG0.out
  · have H9 := hide h9
    have hq : (i.op == 9) = false := by simpa using h9
    clear h9
    go_wp2_with fail
    refine bodyPost_ret (v := .agg #[.func (.func kf) #[] caps, .bool false, .int .i64 0]) ?_ rfl ⟨kf, caps, ?_, ?_, ?_⟩
    · simp [results, Tryd.results72, go_sem, d0, d1, d2]
    · rw [hq, if_neg H9.out]
    · intro w2 hw2
      refine (HA.out _ fun k hk hk2 => ?_).mono (by simp)
      rw [hw2 k (by simp at hk; omega) (by simp; omega)]
      have hk3 : w.heap.size + 2 ≤ k := by simpa using hk
      rw [Below.heap_setCell _ _ _ _ (by simp; omega), Below.heap_setCell _ _ _ _ (by simp; omega), Below.heap_setCell _ _ _ _ (by simp; omega), Below.heap_alloc _ _ _ hk2]
    · iterate 3 refine grown_setNew ?_ (by omega)
      exact grown_alloc HG0.out

end Go.Proofs.YtklenjmfalljgaaDoor

/- The walk of New. -/
namespace Go.Proofs.YtklenjmfalljgaaDoor
open Go.RowKit
attribute [local go_sem] Go.World.cell?_alloc_some

/-- The three cells of a move. -/
def moveV (kf : Nat) (caps : Array Value) (i : Ins) : List Value := [.func (.func kf) #[] caps, .bool (i.op == 9), .int .i64 (if i.op = 9 then i.a else 0)]

/-- The closure's boxes lie in the blocks from a on, below b. -/
def ActSt (a b : Nat) (w : World) (v : Value) (t : Nat) (i : Ins) : Prop := ∀ w' : World, (∀ k, a ≤ k → k < b → w'.heap[k]? = w.heap[k]?) → ActIs b w' v t i

/-- A row of moves, as a list of cells; the boxes lie from L on, below B, and not in the row's own block. -/
def MovesIn (L B : Nat) (w : World) (own : Option Nat) (xs : List Value) (t : Nat) (c : List Ins) : Prop :=
  ∀ k (hk : k < c.length), ∃ kf caps a b, xs[k * 3]? = some (.func (.func kf) #[] caps) ∧ xs[k * 3 + 1]? = some (.bool (c[k].op == 9)) ∧ xs[k * 3 + 2]? = some (.int .i64 (if c[k].op = 9 then c[k].a else 0)) ∧
    L ≤ a ∧ b ≤ B ∧ (∀ h, own = some h → h < a ∨ b ≤ h) ∧ ActSt a b w (.func (.func kf) #[] caps) t c[k]

theorem MovesIn.step {L B : Nat} {w w' : World} {own r : Option Nat} {xs : List Value} {t : Nat} {c : List Ins} (h : MovesIn L B w own xs t c) (hB : B ≤ w.heap.size) (hg : w.grownBy w' r) (hr : ∀ q, r = some q → own = some q ∨ q < L ∨ B ≤ q) : MovesIn L B w' own xs t c := by
  intro k hk
  obtain ⟨kf, caps, a, b, h1, h2, h3, h4, h5, h6, h7⟩ := h k hk
  refine ⟨kf, caps, a, b, h1, h2, h3, h4, h5, h6, fun w2 hw2 => h7 w2 fun q hq hq2 => ?_⟩
  rw [hw2 q hq hq2, hg.block q (by omega) (fun e => by
    rcases hr q e.symm with e2 | e2 | e2
    · rcases h6 q e2 with e3 | e3 <;> omega
    · omega
    · omega)]

theorem MovesIn.mono {L B B' : Nat} {w : World} {own : Option Nat} {xs : List Value} {t : Nat} {c : List Ins} (h : MovesIn L B w own xs t c) (hB : B ≤ B') : MovesIn L B' w own xs t c := by
  intro k hk
  obtain ⟨kf, caps, a, b, h1, h2, h3, h4, h5, h6, h7⟩ := h k hk
  exact ⟨kf, caps, a, b, h1, h2, h3, h4, by omega, h6, h7⟩

theorem MovesIn.reown {L B g : Nat} {w : World} {own : Option Nat} {xs : List Value} {t : Nat} {c : List Ins} (h : MovesIn L B w own xs t c) (hat : own = some g ∨ B ≤ g) : MovesIn L B w (some g) xs t c := by
  intro k hk
  obtain ⟨kf, caps, a, b, h1, h2, h3, h4, h5, h6, h7⟩ := h k hk
  refine ⟨kf, caps, a, b, h1, h2, h3, h4, h5, fun q e => ?_, h7⟩
  cases e
  rcases hat with e | e
  · exact h6 _ e
  · exact Or.inr (by omega)

theorem MovesIn.snoc {L B : Nat} {w : World} {own : Option Nat} {xs : List Value} {t : Nat} {c : List Ins} {i : Ins} {kf : Nat} {caps : Array Value} {a b : Nat} (h : MovesIn L B w own xs t c) (hl : xs.length = c.length * 3)
    (ha : L ≤ a) (hb : b ≤ B) (ho : ∀ h, own = some h → h < a ∨ b ≤ h) (hA : ActSt a b w (.func (.func kf) #[] caps) t i) :
    MovesIn L B w own (xs ++ moveV kf caps i) t (c ++ [i]) := by
  intro k hk
  by_cases hlt : k < c.length
  · obtain ⟨kf', caps', a', b', h1, h2, h3, h4⟩ := h k hlt
    have e : (c ++ [i])[k] = c[k] := List.getElem_append_left hlt
    refine ⟨kf', caps', a', b', ?_, ?_, ?_, ?_⟩
    · rw [List.getElem?_append_left (by omega)]; exact h1
    · rw [List.getElem?_append_left (by omega), e]; exact h2
    · rw [List.getElem?_append_left (by omega), e]; exact h3
    · rw [e]; exact h4
  · have ek : k = c.length := by simp at hk; omega
    subst ek
    have e : (c ++ [i])[c.length] = i := by simp
    refine ⟨kf, caps, a, b, ?_, ?_, ?_, ha, hb, ho, ?_⟩
    · rw [List.getElem?_append_right (by omega), hl]; simp [moveV]
    · rw [List.getElem?_append_right (by omega), hl, e]
      have : c.length * 3 + 1 - c.length * 3 = 1 := by omega
      rw [this]; rfl
    · rw [List.getElem?_append_right (by omega), hl, e]
      have : c.length * 3 + 2 - c.length * 3 = 2 := by omega
      rw [this]; rfl
    · rw [e]; exact hA

/-- The rows of the threads ahead of t are done; their blocks lie from L on, below B. -/
def Fin (L B : Nat) (w : World) (rows : Array Value) (t : Nat) (p : List (List Ins)) : Prop :=
  ∀ j, j < t → ∃ v xs, rows[j]? = some v ∧ w.ownsRow L 130 3 v (codeOf p j).length xs ∧ (∀ h, v.ownBlock = some h → h < B) ∧ MovesIn L B w v.ownBlock xs j (codeOf p j)

theorem Fin.step {L B : Nat} {w w' : World} {rows : Array Value} {t : Nat} {p : List (List Ins)} {r : Option Nat} (h : Fin L B w rows t p) (hBs : B ≤ w.heap.size) (hg : w.grownBy w' r) (hr : ∀ k, r = some k → k < L ∨ B ≤ k) : Fin L B w' rows t p := by
  intro j hj
  obtain ⟨v, xs, h1, h2, h3, h4⟩ := h j hj
  refine ⟨v, xs, h1, ?_, h3, h4.step hBs hg (fun q e => Or.inr (hr q e))⟩
  obtain ⟨q1, q2⟩ := h2
  refine ⟨q1, ?_⟩
  rcases q2 with q2 | ⟨g, cap, cur, hv, hb, hh, rest⟩
  · exact Or.inl q2
  · have hlt : g < w.heap.size := (Array.getElem?_eq_some_iff.1 hh).1
    have hB := h3 g (by rw [hv]; rfl)
    refine Or.inr ⟨g, cap, cur, hv, hb, ?_, rest⟩
    rw [hg.block g hlt (fun e => by have := hr g e.symm; omega)]; exact hh

theorem Fin.rows {L B : Nat} {w : World} {rows : Array Value} {t u : Nat} {x : Value} {p : List (List Ins)} (h : Fin L B w rows t p) (hu : t ≤ u) : Fin L B w (rows.setIfInBounds u x) t p := by
  intro j hj
  obtain ⟨v, xs, h1, h2, h3, h4⟩ := h j hj
  exact ⟨v, xs, by rw [Array.getElem?_setIfInBounds_ne (by omega)]; exact h1, h2, h3, h4⟩
theorem Fin.mono {L B B' : Nat} {w : World} {rows : Array Value} {t : Nat} {p : List (List Ins)} (h : Fin L B w rows t p) (hb : B ≤ B') : Fin L B' w rows t p := by
  intro j hj
  obtain ⟨v, xs, h1, h2, h3, h4⟩ := h j hj
  exact ⟨v, xs, h1, h2, fun h e => Nat.lt_of_lt_of_le (h3 h e) hb, h4.mono hb⟩
theorem Fin.succ {L B : Nat} {w : World} {rows : Array Value} {t : Nat} {p : List (List Ins)} {v : Value} {xs : List Value} (h : Fin L B w rows t p) (h1 : rows[t]? = some v) (h2 : w.ownsRow L 130 3 v (codeOf p t).length xs)
    (h3 : ∀ h, v.ownBlock = some h → h < B) (h4 : MovesIn L B w v.ownBlock xs t (codeOf p t)) : Fin L B w rows (t + 1) p := by
  intro j hj
  by_cases e : j = t
  · subst e; exact ⟨v, xs, h1, h2, h3, h4⟩
  · exact h j (by omega)

theorem Fin.rowIs {L B : Nat} {w : World} {rows : Array Value} {t : Nat} {p : List (List Ins)} (h : Fin L B w rows t p) {j : Nat} (hj : j < t) : ∃ v, rows[j]? = some v ∧ RowIs B w v j (codeOf p j) := by
  obtain ⟨v, xs, h1, h2, h3, h4⟩ := h j hj
  refine ⟨v, h1, ?_⟩
  rcases h2.2 with ⟨e, e0⟩ | ⟨g, cap, cur, hv, hb, hh, hrest⟩
  · exact Or.inl ⟨List.length_eq_zero_iff.1 e0, e⟩
  · refine Or.inr ⟨g, cap, hv, h3 g (by rw [hv]; rfl), fun k hk => ?_⟩
    obtain ⟨kf, caps, a, b, q1, q2, q3, q4, q5, q6, q7⟩ := h4 k hk
    rw [hv] at h2
    have hc := fun j hj => h2.cellAt j hj
    exact ⟨kf, caps, by rw [hc _ (by omega)]; exact q1, (q7 w fun _ _ _ => rfl).mono q5, by rw [hc _ (by omega)]; exact q2, by rw [hc _ (by omega)]; exact q3⟩

theorem info_move : ((Tryd.prog.info? 130).map fun i => (i.zero, i.size, i.bytes)) = some (some (.agg #[.nilFunc, .bool false, .int .i64 0]), 3, 24) := by kernel_rfl
theorem info_row : ((Tryd.prog.info? 126).map fun i => (i.zero, i.size, i.bytes)) = some (some (.slice none 0 0), 1, 24) := by kernel_rfl

end Go.Proofs.YtklenjmfalljgaaDoor

/- The walk of New. -/
namespace Go.Proofs.YtklenjmfalljgaaDoor
open Go.RowKit
attribute [local go_sem] Go.World.cell?_alloc_some

/-- In the midst of New: the threads ahead of t are done, and k instructions of t. -/
def Inner (w0 : World) (L Bt g m n t k : Nat) (p : List (List Ins)) (w : World) : Prop :=
  ∃ rows v xs, w.heap[g]? = some (.cells rows 126 (0, 0)) ∧ rows.size = n ∧ rows[t]? = some v ∧ w.ownsRow Bt 130 3 v k xs ∧ MovesIn L w.heap.size w v.ownBlock xs t ((codeOf p t).take k) ∧
    Fin L Bt w rows t p ∧ (∀ j, t < j → j < n → rows[j]? = some (.slice none 0 0)) ∧ w.cell? ⟨m, 0, none⟩ = some (.slice (some ⟨g, 0, none⟩) n n) ∧ w0.grownBy w none ∧ L ≤ Bt ∧ Bt ≤ w.heap.size ∧ g < L ∧ m < L ∧ g ≠ m ∧ w0.heap.size ≤ g

theorem inner_step {w0 : World} {L Bt g m n t k : Nat} {p : List (List Ins)} {wr w4 w5 : World} {rows : Array Value} {v : Value} {xs : List Value} {kf : Nat} {caps : Array Value} {i : Ins} {E : Obj} {g2 cap2 : Nat}
    (j1 : wr.heap[g]? = some (.cells rows 126 (0, 0))) (j2 : rows.size = n) (j4 : wr.ownsRow Bt 130 3 v k xs) (j5 : MovesIn L wr.heap.size wr v.ownBlock xs t ((codeOf p t).take k))
    (j6 : Fin L Bt wr rows t p) (j7 : ∀ j, t < j → j < n → rows[j]? = some (.slice none 0 0)) (j9 : w0.grownBy wr none) (j10 : L ≤ Bt) (j11 : Bt ≤ wr.heap.size) (j12 : g < L) (j13 : m < L) (j14 : g ≠ m) (j15 : w0.heap.size ≤ g)
    (ht : t < n) (hk : k < (codeOf p t).length) (hi : (codeOf p t)[k] = i)
    (hact : ∀ u : World, (∀ q, wr.heap.size + 1 ≤ q → q < w4.heap.size → u.heap[q]? = w4.heap[q]?) → ActIs w4.heap.size u (.func (.func kf) #[] caps) t i) (hg4 : wr.grownBy w4 none) (hsz4 : wr.heap.size + 1 ≤ w4.heap.size)
    (hown5 : w5.ownsRow Bt 130 3 (.slice (some ⟨g2, 0, none⟩) (k + 1) cap2) (k + 1) (xs ++ moveV kf caps i)) (hgr : (w4.alloc E).grownBy w5 v.ownBlock) (hat : v.ownBlock = some g2 ∨ g2 = w4.heap.size + 1)
    (s1 : w5.cell? ⟨m, 0, none⟩ = some (.slice (some ⟨g, 0, none⟩) n n)) :
    Inner w0 L Bt g m n t (k + 1) p (w5.setCell ⟨g, t, none⟩ (.slice (some ⟨g2, 0, none⟩) (k + 1) cap2)) := by
  have hob : ∀ q, v.ownBlock = some q → Bt ≤ q ∧ q < wr.heap.size := fun q e => ⟨owns_block j4 q e, by
    rcases j4.2 with ⟨e1, _⟩ | ⟨g', _, _, hv, _, hh, _⟩
    · rw [e1] at e; cases e
    · rw [hv] at e
      have := (Array.getElem?_eq_some_iff.1 hh).1
      simp [Value.ownBlock] at e
      omega⟩
  have hgE : wr.grownBy (w4.alloc E) none := grown_alloc hg4
  have hz5 := hgr.size
  simp only [World.size_alloc] at hz5
  have hgl : g < wr.heap.size := by omega
  have hb5 : w5.heap[g]? = some (.cells rows 126 (0, 0)) := by
    rw [hgr.block g (by simp; omega) (fun e => by have := hob g e.symm; omega), hgE.block g hgl (by simp)]; exact j1
  have hset : w5.grownBy (w5.setCell ⟨g, t, none⟩ (.slice (some ⟨g2, 0, none⟩) (k + 1) cap2)) (some g) := grown_set
  have hin : ∀ q, wr.heap.size + 1 ≤ q → q < w4.heap.size → (w5.setCell ⟨g, t, none⟩ (.slice (some ⟨g2, 0, none⟩) (k + 1) cap2)).heap[q]? = w4.heap[q]? := fun q h1 h2 => by
    rw [Below.heap_setCell _ _ _ _ (by simp; omega), hgr.block q (by simp; omega) (fun e => by have := hob q e.symm; omega), Below.heap_alloc _ _ _ h2]
  have hm1 : MovesIn L wr.heap.size w5 v.ownBlock xs t ((codeOf p t).take k) := (j5.step (Nat.le_refl _) hgE (fun q e => by cases e)).step (by simp; omega) hgr (fun q e => Or.inl e)
  have hm2 := (hm1.reown (g := g2) (hat.imp id (fun e => by omega))).step (by omega) hset (fun q e => by cases e; exact Or.inr (Or.inl j12))
  refine ⟨rows.setIfInBounds t (.slice (some ⟨g2, 0, none⟩) (k + 1) cap2), .slice (some ⟨g2, 0, none⟩) (k + 1) cap2, xs ++ moveV kf caps i, heap_setCell_same w5 g t rows _ _ hb5, by simp [j2], by simp [j2, ht], ownsRow_setCell_below hown5 (by simp; omega) _, ?_, ?_, ?_, ?_, ?_, j10, by simp; omega, j12, j13, j14, j15⟩
  · rw [List.take_succ_eq_append_getElem hk, hi]
    refine MovesIn.snoc (a := wr.heap.size + 1) (b := w4.heap.size) (hm2.mono (by simp; omega)) (by rw [j4.1]; simp; omega) (by omega) (by simp; omega) (fun h e => ?_) (fun u hu => hact u fun q h1 h2 => by rw [hu q h1 h2, hin q h1 h2])
    have e' : h = g2 := by simp [Value.ownBlock] at e; omega
    subst e'
    rcases hat with e2 | e2
    · have := hob _ e2; omega
    · omega
  · exact (((j6.step j11 hgE (fun q e => by cases e)).step (by simp; omega) hgr (fun q e => Or.inr (hob q e).1)).step (by omega) hset (fun q e => by cases e; exact Or.inl j12)).rows (Nat.le_refl _)
  · intro j h1 h2
    rw [Array.getElem?_setIfInBounds_ne (by omega)]; exact j7 j h1 h2
  · rw [World.cell?_setCell_far _ _ _ _ (by simpa using j14)]; exact s1
  · exact grown_setNew (grown_row (grown_trans j9 hgE) hgr (fun q e => by have := hob q e; omega)) j15

set_option maxHeartbeats 4000000 in
set_option maxRecDepth 100000 in
theorem new_m {p : List (List Ins)} {pv : Value} {w : World} (hp : vProg p = true) (hP : ProgAt w pv p) :
    Calls Tryd.prog 39 #[pv] w fun e w' => ∃ m, e = .returned (.pointer (some ⟨m, 0, none⟩)) ∧ MachAt w'.heap.size w' m p ∧ w.grownBy w' none := by
  obtain ⟨i0, hi0, hz0, hz1, hz2⟩ := info_parts info_row
  obtain ⟨i1, hi1, hy0, hy1, hy2⟩ := info_parts info_move
  obtain ⟨ao, cap, rfl, hP⟩ := hP
  have hlen := vProg_len hp
  have HP := hide hP
  have HV := hide hp
  clear hp hP
  have h4 : (p.length : Int) ≤ 4 := by omega
  go_enter Tryd.func39, Tryd.ntmps39
  go_wp2_with (at_make; refine wpList_make_full _ rfl _ _ _ rfl (w.heap.size + 1) 126 i0 _ 1 Tryd.underlying123 hi0 hz0 hz1 .i64 .i64 _ _ p.length rfl rfl rfl rfl (by rw [hz2]; omega) (by unfold maxLen; omega) (by simp) ?_; intro w2 hown2 hg2; have hc2 : w2.cell? ⟨w.heap.size, 0, none⟩ = some (.slice ao p.length cap) := (by rw [hg2.cell_far _ (by simp) (by simp)]; simp))
  have HG2 : Hid (w.grownBy w2 none) := grown_trans (grown_alloc (grown_refl _ _)) hg2
  have hsz2 : w.heap.size + 2 ≤ w2.heap.size := by
    obtain ⟨cur, hcur, _⟩ := owns_cells hown2
    have := (Array.getElem?_eq_some_iff.1 hcur).1
    simp at this; omega
  have HR : Hid (∃ rows : Array Value, w2.heap[w.heap.size + 1]? = some (.cells rows 126 (0, 0)) ∧ rows.size = p.length ∧ ∀ j, j < p.length → rows[j]? = some (.slice none 0 0)) := by
    rcases hown2.2 with ⟨e, _⟩ | ⟨g, c, cur, hv, _, hh, _, _, hs, ht⟩
    · cases e
    · simp at hv
      obtain ⟨e1, e2⟩ := hv
      subst e1; subst e2
      refine ⟨cur, hh, by omega, fun j hj => ?_⟩
      have e : cur.toList = (madeCells #[Value.slice none 0 0] p.length).toList := by
        rw [List.take_of_length_le (by simp; omega)] at ht
        simpa [Value.cells] using ht
      rw [← Array.getElem?_toList, e, toList_madeCells_one]
      simp [hj]
  clear hown2 hg2 hc2
  go_loopw [17] (fun i w' => ∃ t : Nat, t ≤ p.length ∧ i = .int .i64 t ∧ Hid (∃ rows, w'.heap[w.heap.size + 1]? = some (.cells rows 126 (0, 0)) ∧ rows.size = p.length ∧ Fin (w2.heap.size + 1) w'.heap.size w' rows t p ∧ (∀ j, t ≤ j → j < p.length → rows[j]? = some (.slice none 0 0)) ∧
      w'.cell? ⟨w2.heap.size, 0, none⟩ = some (.slice (some ⟨w.heap.size + 1, 0, none⟩) p.length p.length) ∧ w.grownBy w' none ∧ w2.heap.size + 1 ≤ w'.heap.size)) (fun i _ => p.length - (intOf i).toNat)
  case atStart =>
    obtain ⟨rows, h1, h2, h3⟩ := HR.out
    refine ⟨0, Nat.zero_le _, rfl, rows, ?_, h2, fun j hj => by omega, fun j _ hj => h3 j hj, ?_, grown_alloc HG2.out, by simp⟩
    · rw [Below.heap_alloc _ _ _ (by omega)]; exact h1
    · simp
  case round =>
    obtain ⟨t, ht, rfl, HI⟩ := hrel
    obtain ⟨w3, hw3⟩ : ∃ w3, w3 = wr := ⟨_, rfl⟩
    subst hw3
    by_cases hlt : t < p.length
    · obtain ⟨pg, po, rfl, rv, hrv, hcode⟩ := HP.out t hlt
      obtain ⟨ca, ccap, rfl, hcode⟩ := hcode
      have hcl : p[t].length ≤ 16 := by have := vCode_len (vProg_code HV.out hlt); rwa [codeOf_get hlt] at this
      have hcl2 : (p[t].length : Int) ≤ 16 := by omega
      have HC := hide hcode
      clear hcode
      have hrv' : w3.cell? ⟨pg, po + t, none⟩ = some (.slice ca p[t].length ccap) := by
        obtain ⟨rows, _, _, _, _, _, hg, _⟩ := HI.out
        exact pres_grown hg _ _ hrv
      have ht0 : (0 : Int) ≤ (t : Int) := by omega
      have ht1 : (t : Int) < p.length := by omega
      have HT : Hid (codeOf p t = p[t]) := codeOf_get hlt
      generalize hcd : p[t] = c at *
      clear hcd
      go_wp2_with fail
      go_loopw [24] (fun i w' => ∃ k : Nat, k ≤ c.length ∧ i = .int .i64 k ∧ Hid (Inner w (w2.heap.size + 1) w3.heap.size (w.heap.size + 1) w2.heap.size p.length t k p w')) (fun i _ => c.length - (intOf i).toNat)
      case atStart =>
        obtain ⟨rows, h1, h2, h3, h4, h5, h6, h7⟩ := HI.out
        exact ⟨0, Nat.zero_le _, rfl, rows, _, [], h1, h2, h4 t (Nat.le_refl _) hlt, ⟨rfl, Or.inl ⟨rfl, rfl⟩⟩, fun k hk => by simp at hk, h3, fun j hj hj2 => h4 j (by omega) hj2, h5, h6, h7, Nat.le_refl _, by omega, by omega, by omega, by omega⟩
      case round =>
        obtain ⟨k, hk, rfl, HIn⟩ := hrel
        by_cases hkl : k < c.length
        · obtain ⟨cg, co, rfl, c0, c1, c2, c3⟩ := HC.out k hkl
          have hpr : Pres w wr := by
            obtain ⟨rows, v, xs, _, _, _, _, _, _, _, _, hg, _⟩ := HIn.out
            exact pres_grown hg
          have d0 := hpr _ _ c0
          have d1 := hpr _ _ c1
          have d2 := hpr _ _ c2
          have d3 := hpr _ _ c3
          clear c0 c1 c2 c3 hpr
          have hk0 : (0 : Int) ≤ (k : Int) := by omega
          have hk1 : (k : Int) < c.length := by omega
          obtain ⟨rows, v, xs, j1, j2, j3, j4, j5, j6, j7, j8, j9, j10, j11, j12, j13, j14, j15⟩ := HIn.out
          have hgt : wr.cell? ⟨w.heap.size + 1, t, none⟩ = some v := by simp [World.cell?, j1, j3]
          have hgf : wr.frozen? ⟨w.heap.size + 1, t, none⟩ = false := by simp [World.frozen?, j1]
          have J4 := hide j4
          have J5 := hide j5
          have J1 := hide j1
          have J2 := hide j2
          have J6 := hide j6
          have J7 := hide j7
          have J9 := hide j9
          clear j1 j2 j3 j4 j5 j6 j7 j9
          go_wp2_with fail
          refine wp_region_head (fun u => u.cell? ⟨w2.heap.size, 0, none⟩ = some (.slice (some ⟨w.heap.size + 1, 0, none⟩) p.length p.length) ∧ u.cell? ⟨w.heap.size + 1, t, none⟩ = some v ∧ u.cell? ⟨wr.heap.size, 0, none⟩ = some (.int .i64 c[k].op) ∧ u.cell? ⟨wr.heap.size, 1, none⟩ = some (.int .i64 c[k].a) ∧ u.cell? ⟨wr.heap.size, 2, none⟩ = some (.int .i64 c[k].b) ∧ u.cell? ⟨wr.heap.size, 3, none⟩ = some (.int .i64 c[k].n)) 18 (by kernel_rfl) (by kernel_rfl) ?_ ?_
          · refine ⟨?_, ?_, ?_, ?_, ?_, ?_⟩ <;> simp [go_sem, j8, hgt]
          intro hHeld
          refine wpHead_take (i := 0) (v := ?vv0) rfl (by kernel_rfl) (fun _ _ _ h => h) (Or.inl ⟨by rfl, ?hy0⟩) (by assumption) ?rest0
          case hy0 => (intro u hu; obtain ⟨g1, g2, g3, g4, g5, g6⟩ := hu; go_simp; try with_reducible rfl)
          simp only [Act.put, List.setIfInBounds_toArray]
          refine wpHead_take (i := 1) (v := ?vv1) rfl (by kernel_rfl) (fun _ _ _ h => h) (Or.inl ⟨by rfl, ?hy1⟩) (by assumption) ?rest1
          case hy1 => (intro u hu; obtain ⟨g1, g2, g3, g4, g5, g6⟩ := hu; go_simp; try with_reducible rfl)
          simp only [Act.put]
          refine wpHead_take (i := 2) (v := ?vv2) rfl (by kernel_rfl) (fun _ _ _ h => h) (Or.inl ⟨by rfl, ?hy2⟩) (by assumption) ?rest2
          case hy2 => (intro u hu; obtain ⟨g1, g2, g3, g4, g5, g6⟩ := hu; go_simp; try with_reducible rfl)
          simp only [Act.put]
          refine wpHead_take (i := 3) (v := ?vv3) rfl (by kernel_rfl) (fun _ _ _ h => h) (Or.inl ⟨by rfl, ?hy3⟩) (by assumption) ?rest3
          case hy3 => (intro u hu; obtain ⟨g1, g2, g3, g4, g5, g6⟩ := hu; go_simp; try with_reducible rfl)
          simp only [Act.put]
          refine wpHead_take (i := 4) (v := ?vv4) rfl (by kernel_rfl) (fun _ _ _ h => h) (Or.inl ⟨by rfl, ?hy4⟩) (by assumption) ?rest4
          case hy4 => (intro u hu; obtain ⟨g1, g2, g3, g4, g5, g6⟩ := hu; go_simp; try with_reducible rfl)
          simp only [Act.put]
          refine wpHead_take (i := 5) (v := ?vv5) rfl (by kernel_rfl) (fun _ _ _ h => h) (Or.inl ⟨by rfl, ?hy5⟩) (by assumption) ?rest5
          case hy5 => (intro u hu; obtain ⟨g1, g2, g3, g4, g5, g6⟩ := hu; go_simp; try with_reducible rfl)
          simp only [Act.put]
          refine wpHead_take (i := 6) (v := ?vv6) rfl (by kernel_rfl) (fun _ _ _ h => h) (Or.inl ⟨by rfl, ?hy6⟩) (by assumption) ?rest6
          case hy6 => (intro u hu; obtain ⟨g1, g2, g3, g4, g5, g6⟩ := hu; go_simp; try with_reducible rfl)
          simp only [Act.put]
          refine wpHead_take (i := 7) (v := ?vv7) rfl (by kernel_rfl) (fun _ _ _ h => h) (Or.inl ⟨by rfl, ?hy7⟩) (by assumption) ?rest7
          case hy7 => (intro u hu; obtain ⟨g1, g2, g3, g4, g5, g6⟩ := hu; go_simp; try with_reducible rfl)
          simp only [Act.put]
          refine wpHead_take (i := 8) (v := ?vv8) rfl (by kernel_rfl) (fun _ _ _ h => h) (Or.inl ⟨by rfl, ?hy8⟩) (by assumption) ?rest8
          case hy8 => (intro u hu; obtain ⟨g1, g2, g3, g4, g5, g6⟩ := hu; go_simp; try with_reducible rfl)
          simp only [Act.put]
          refine wpHead_take (i := 9) (v := ?vv9) rfl (by kernel_rfl) (fun _ _ _ h => h) (Or.inl ⟨by rfl, ?hy9⟩) (by assumption) ?rest9
          case hy9 => (intro u hu; obtain ⟨g1, g2, g3, g4, g5, g6⟩ := hu; go_simp; try with_reducible rfl)
          simp only [Act.put]
          refine wpHead_take (i := 10) (v := ?vv10) rfl (by kernel_rfl) (fun _ _ _ h => h) (Or.inl ⟨by rfl, ?hy10⟩) (by assumption) ?rest10
          case hy10 => (intro u hu; obtain ⟨g1, g2, g3, g4, g5, g6⟩ := hu; go_simp; try with_reducible rfl)
          simp only [Act.put]
          refine wpHead_take (i := 11) (v := ?vv11) rfl (by kernel_rfl) (fun _ _ _ h => h) (Or.inl ⟨by rfl, ?hy11⟩) (by assumption) ?rest11
          case hy11 => (intro u hu; obtain ⟨g1, g2, g3, g4, g5, g6⟩ := hu; go_simp; try with_reducible rfl)
          simp only [Act.put]
          refine wpHead_take (i := 12) (v := ?vv12) rfl (by kernel_rfl) (fun _ _ _ h => h) (Or.inl ⟨by rfl, ?hy12⟩) (by assumption) ?rest12
          case hy12 => (intro u hu; obtain ⟨g1, g2, g3, g4, g5, g6⟩ := hu; go_simp; try with_reducible rfl)
          simp only [Act.put]
          refine wpHead_take (i := 13) (v := ?vv13) rfl (by kernel_rfl) (fun _ _ _ h => h) (Or.inl ⟨by rfl, ?hy13⟩) (by assumption) ?rest13
          case hy13 => (intro u hu; obtain ⟨g1, g2, g3, g4, g5, g6⟩ := hu; go_simp; try with_reducible rfl)
          simp only [Act.put]
          have hv1 := vIns_op (vCode_ins (by have := vProg_code HV.out hlt; rw [HT.out] at this; exact this) hkl)
          refine wpHead_alone (i := 14) rfl (by kernel_rfl) (by kernel_rfl) (by rfl) ?_
          intro K14 hK14
          have HK14 := hide hK14
          clear hK14
          go_simp
          refine (makeMove_m t c[k] hv1.1 hv1.2 _).mono ?_
          rintro e w4 ⟨kf, caps, rfl, hact, hg4⟩
          simp only []
          have HACT := hide hact
          have HG4 := hide hg4
          have hsz4 : wr.heap.size + 1 ≤ w4.heap.size := by have := hg4.size; simpa using this
          have hS4 : w4.cell? ⟨w2.heap.size, 0, none⟩ = some (.slice (some ⟨w.heap.size + 1, 0, none⟩) p.length p.length) ∧ w4.cell? ⟨w.heap.size + 1, t, none⟩ = some v ∧ w4.cell? ⟨wr.heap.size, 0, none⟩ = some (.int .i64 c[k].op) ∧ w4.cell? ⟨wr.heap.size, 1, none⟩ = some (.int .i64 c[k].a) ∧ w4.cell? ⟨wr.heap.size, 2, none⟩ = some (.int .i64 c[k].b) ∧ w4.cell? ⟨wr.heap.size, 3, none⟩ = some (.int .i64 c[k].n) := by
            obtain ⟨q1, q2, q3, q4, q5, q6⟩ := hHeld
            have hpr := pres_grown hg4
            exact ⟨hpr _ _ q1, hpr _ _ q2, hpr _ _ q3, hpr _ _ q4, hpr _ _ q5, hpr _ _ q6⟩
          clear hact hg4 hHeld
          refine HK14.out _ _ hS4 ?_
          clear HK14
          refine wpHead_alone (i := 15) rfl (by kernel_rfl) (by kernel_rfl) (by rfl) ?_
          intro K15 hK15
          have HK15 := hide hK15
          clear hK15
          go_simp
          have hS5 : (w4.alloc (.cells #[.func (.func kf) #[] caps, .bool (c[k].op == 9), .int .i64 (if c[k].op = 9 then c[k].a else 0)] 130)).cell? ⟨w2.heap.size, 0, none⟩ = some (.slice (some ⟨w.heap.size + 1, 0, none⟩) p.length p.length) ∧ (w4.alloc (.cells #[.func (.func kf) #[] caps, .bool (c[k].op == 9), .int .i64 (if c[k].op = 9 then c[k].a else 0)] 130)).cell? ⟨w.heap.size + 1, t, none⟩ = some v ∧ (w4.alloc (.cells #[.func (.func kf) #[] caps, .bool (c[k].op == 9), .int .i64 (if c[k].op = 9 then c[k].a else 0)] 130)).cell? ⟨wr.heap.size, 0, none⟩ = some (.int .i64 c[k].op) ∧ (w4.alloc (.cells #[.func (.func kf) #[] caps, .bool (c[k].op == 9), .int .i64 (if c[k].op = 9 then c[k].a else 0)] 130)).cell? ⟨wr.heap.size, 1, none⟩ = some (.int .i64 c[k].a) ∧ (w4.alloc (.cells #[.func (.func kf) #[] caps, .bool (c[k].op == 9), .int .i64 (if c[k].op = 9 then c[k].a else 0)] 130)).cell? ⟨wr.heap.size, 2, none⟩ = some (.int .i64 c[k].b) ∧ (w4.alloc (.cells #[.func (.func kf) #[] caps, .bool (c[k].op == 9), .int .i64 (if c[k].op = 9 then c[k].a else 0)] 130)).cell? ⟨wr.heap.size, 3, none⟩ = some (.int .i64 c[k].n) := by
            obtain ⟨q1, q2, q3, q4, q5, q6⟩ := hS4
            have hpr := pres_grown (grown_alloc (o := .cells #[.func (.func kf) #[] caps, .bool (c[k].op == 9), .int .i64 (if c[k].op = 9 then c[k].a else 0)] 130) (grown_refl w4 none))
            exact ⟨hpr _ _ q1, hpr _ _ q2, hpr _ _ q3, hpr _ _ q4, hpr _ _ q5, hpr _ _ q6⟩
          refine HK15.out _ _ hS5 ?_
          clear HK15
          have HGw : Hid (wr.grownBy (w4.alloc (.cells #[.func (.func kf) #[] caps, .bool (c[k].op == 9), .int .i64 (if c[k].op = 9 then c[k].a else 0)] 130)) none) := grown_alloc (grown_trans (grown_drew (grown_alloc (grown_refl _ _))) HG4.out)
          have h63 : k + 1 ≤ maxLen := by unfold maxLen; omega
          have hby : (k + 1) * 24 ≤ 140737488355328 := by omega
          refine wpHead_alone (i := 16) rfl (by kernel_rfl) (by kernel_rfl) (by rfl) ?_
          intro K16 hK16
          have HK16 := hide hK16
          clear hK16
          refine wp_append_lies _ (.tmp 39) (.tmp 43) 126 (by rfl) w3.heap.size 130 i1 _ 3 24 Tryd.underlying126 hi1 hy0 hy1 hy2 rfl (by omega) v k xs (by rfl) (owns_grown J4.out HGw.out (fun _ e => by cases e)) ⟨w4.heap.size, 0, none⟩ 1 1 (moveV kf caps c[k]) (by rfl) (by rfl) (World.news_of_block (cs := #[.func (.func kf) #[] caps, .bool (c[k].op == 9), .int .i64 (if c[k].op = 9 then c[k].a else 0)]) (t := 130) (fr := (0, 0)) (heap_alloc_new w4 _)) (by simp [moveV, Value.oneCell']) (by omega) h63 hby (by simp; omega) (w4.heap.size + 1) (by simp) ?_
          intro g2 cap2 w5 hown5 hgrow hat hlt5
          have hob : ∀ q, v.ownBlock = some q → w3.heap.size ≤ q ∧ q < wr.heap.size := fun q e => ⟨owns_block J4.out q e, by
            rcases J4.out.2 with ⟨e1, _⟩ | ⟨g', _, _, hv, _, hh, _⟩
            · rw [e1] at e; cases e
            · rw [hv] at e
              have := (Array.getElem?_eq_some_iff.1 hh).1
              simp [Value.ownBlock] at e
              omega⟩
          have hfar : ∀ q o x, (q < w3.heap.size ∨ wr.heap.size ≤ q) → (w4.alloc (.cells #[.func (.func kf) #[] caps, .bool (c[k].op == 9), .int .i64 (if c[k].op = 9 then c[k].a else 0)] 130)).cell? ⟨q, o, none⟩ = some x → w5.cell? ⟨q, o, none⟩ = some x := fun q o x hq hx => by
            rw [hgrow.cell_far _ (World.block_lt_of_cell? _ _ hx) (fun e => by have := hob q e.symm; omega)]; exact hx
          have hS6 : w5.cell? ⟨w2.heap.size, 0, none⟩ = some (.slice (some ⟨w.heap.size + 1, 0, none⟩) p.length p.length) ∧ w5.cell? ⟨w.heap.size + 1, t, none⟩ = some v ∧ w5.cell? ⟨wr.heap.size, 0, none⟩ = some (.int .i64 c[k].op) ∧ w5.cell? ⟨wr.heap.size, 1, none⟩ = some (.int .i64 c[k].a) ∧ w5.cell? ⟨wr.heap.size, 2, none⟩ = some (.int .i64 c[k].b) ∧ w5.cell? ⟨wr.heap.size, 3, none⟩ = some (.int .i64 c[k].n) := by
            obtain ⟨q1, q2, q3, q4, q5, q6⟩ := hS5
            exact ⟨hfar _ _ _ (by omega) q1, hfar _ _ _ (by omega) q2, hfar _ _ _ (by omega) q3, hfar _ _ _ (by omega) q4, hfar _ _ _ (by omega) q5, hfar _ _ _ (by omega) q6⟩
          have HOW5 := hide hown5
          have HGR := hide hgrow
          have HAT := hide hat
          clear hown5 hgrow hat hS4 hS5 hfar
          refine HK16.out _ _ hS6 ?_
          clear HK16
          simp only [Act.put, List.setIfInBounds_toArray]
          refine wpHead_take (i := 17) (v := ?vv17) rfl (by kernel_rfl) (fun _ _ _ h => h) (Or.inl ⟨by rfl, ?hy17⟩) (by assumption) ?rest17
          case hy17 => (intro u hu; obtain ⟨g1, g2, g3, g4, g5, g6⟩ := hu; go_simp; try with_reducible rfl)
          simp only [Act.put]
          refine wpHead_last rfl (by kernel_rfl) (by kernel_rfl) (by rfl) ?_
          obtain ⟨s1, s2, _⟩ := hS6
          have s2f : w5.frozen? ⟨w.heap.size + 1, t, none⟩ = false := by
            rw [HGR.out.frozen_far _ (by simp; omega) (fun e => by have := hob _ e.symm; simp at this; omega), HGw.out.frozen_far _ (by simp; omega) (by simp)]
            exact hgf
          have HNX : Hid (Inner w (w2.heap.size + 1) w3.heap.size (w.heap.size + 1) w2.heap.size p.length t (k + 1) p (w5.setCell ⟨w.heap.size + 1, t, none⟩ (.slice (some ⟨g2, 0, none⟩) (k + 1) cap2))) :=
            inner_step J1.out J2.out J4.out J5.out J6.out J7.out J9.out j10 j11 j12 j13 j14 j15 hlt (by rw [HT.out]; exact hkl) (i := c[k]) (by simp [HT.out]) (fun u hu => HACT.out u (fun q h1 h2 => hu q (by simpa using h1) h2)) (grown_trans (grown_drew (grown_alloc (grown_refl _ _))) HG4.out) hsz4 HOW5.out HGR.out HAT.out s1
          clear J1 J2 J4 J5 J6 J7 J9 HACT HG4 HOW5 HGR HAT HGw
          go_simp
          go_wp2
          go_roundw
          case rel => exact ⟨k + 1, by omega, by go_num, HNX⟩
          case measure => simp [intOf]; omega
        · have ek : k = c.length := by omega
          have HNX : Hid (∃ rows, wr.heap[w.heap.size + 1]? = some (.cells rows 126 (0, 0)) ∧ rows.size = p.length ∧ Fin (w2.heap.size + 1) wr.heap.size wr rows (t + 1) p ∧ (∀ j, t + 1 ≤ j → j < p.length → rows[j]? = some (.slice none 0 0)) ∧
              wr.cell? ⟨w2.heap.size, 0, none⟩ = some (.slice (some ⟨w.heap.size + 1, 0, none⟩) p.length p.length) ∧ w.grownBy wr none ∧ w2.heap.size + 1 ≤ wr.heap.size) := by
            obtain ⟨rows, v, xs, j1, j2, j3, j4, j5, j6, j7, j8, j9, j10, j11, j12, j13, j14, j15⟩ := HIn.out
            have hlc : (codeOf p t).length = k := by rw [HT.out]; omega
            rw [List.take_of_length_le (by omega)] at j5
            have hbl : ∀ h, v.ownBlock = some h → h < wr.heap.size := fun q e => by
              rcases j4.2 with ⟨e1, _⟩ | ⟨g', _, _, hv, _, hh, _⟩
              · rw [e1] at e; cases e
              · rw [hv] at e
                have := (Array.getElem?_eq_some_iff.1 hh).1
                simp [Value.ownBlock] at e
                omega
            refine ⟨rows, j1, j2, (j6.mono j11).succ j3 (by rw [hlc]; exact owns_mono j4 (by omega)) hbl j5, fun j h1 h2 => j7 j (by omega) h2, j8, j9, by omega⟩
          clear ek
          go_wp2
          go_roundw
          case rel => exact ⟨t + 1, by omega, by go_num, HNX⟩
          case measure => simp [intOf]; omega
    · have et : t = p.length := by omega
      have HNX : Hid (MachAt w3.heap.size w3 w2.heap.size p ∧ w.grownBy w3 none) := by
        obtain ⟨rows, j1, j2, j3, j4, j5, j6, j7⟩ := HI.out
        refine ⟨⟨w.heap.size + 1, p.length, by omega, by omega, j5, fun j hj => ?_⟩, j6⟩
        obtain ⟨v, e1, e2⟩ := j3.rowIs (j := j) (by omega)
        exact ⟨v, by simp [World.cell?, j1, e1], e2⟩
      clear et
      go_wp2
      go_ret
      exact ⟨w2.heap.size, rfl, HNX.out.1, HNX.out.2⟩

end Go.Proofs.YtklenjmfalljgaaDoor

/- The walks of Valid, Check, checkRun and Replay. -/
namespace Go.Proofs.YtklenjmfalljgaaDoor
open Go.RowKit
attribute [local go_sem] Go.World.cell?_alloc_some

set_option maxHeartbeats 1000000 in
set_option maxRecDepth 100000 in
theorem valid_m (p : List (List Ins)) (pv : Value) (w : World) (hS : ShpAt w) (hP : ProgAt w pv p) :
    Calls Tryd.prog 74 #[pv] w fun e w' => e = .returned (.bool (vProg p)) ∧ w.grownBy w' none := by
  obtain ⟨ao, cap, rfl, hP⟩ := hP
  have HSh := hide hS
  have HP := hide hP
  clear hS hP
  by_cases h1 : 1 ≤ p.length
  · by_cases h4 : p.length ≤ 4
    · have g1 : (1 : Int) ≤ p.length := by omega
      have g4 : (p.length : Int) ≤ 4 := by omega
      have HV : Hid (vProg p = p.all vCode) := by unfold Hid; simp [vProg, h1, h4]
      go_enter Tryd.func74, Tryd.ntmps74
      go_wp2
      go_loopw [18] (fun i w' => ∃ k : Nat, k ≤ p.length ∧ i = .int .i64 k ∧ Hid (w.grownBy w' none) ∧ Hid ((p.take k).all vCode = true)) (fun i _ => p.length - (intOf i).toNat)
      case atStart => exact ⟨0, Nat.zero_le _, rfl, grown_alloc (grown_refl _ _), rfl⟩
      case round =>
        obtain ⟨k, hk, rfl, HG, HA⟩ := hrel
        by_cases hlt : k < p.length
        · obtain ⟨g, o, rfl, rv, c0, c1⟩ := HP.out k hlt
          have hpr := pres_grown HG.out
          have d0 := hpr _ _ c0
          have D1 := hide (c1.pres hpr)
          have HAs := hide (all_take_succ p vCode k hlt)
          have HSh' : Hid (ShpAt wr) := HSh.out.pres hpr
          clear c0 c1 hpr
          have hk0 : (0 : Int) ≤ (k : Int) := by omega
          have hk1 : (k : Int) < p.length := by omega
          generalize p[k] = c at *
          go_wp2_with fail
          refine (validThread_m c rv _ HSh'.out D1.out).mono ?_
          rintro e w1 ⟨rfl, hg1⟩
          have HG1 : Hid (w.grownBy w1 none) := grown_trans HG.out hg1
          clear hg1
          cases hv : vCode c
          · have HE : Hid (vProg p = false) := by
              unfold Hid
              rw [HV.out]
              have : (p.take (k + 1)).all vCode = false := by rw [HAs.out, hv]; simp
              rw [← List.take_append_drop (k + 1) p, List.all_append, this]; rfl
            go_wp2_with fail
            go_ret
            exact ⟨by rw [HE.out]; rfl, HG1⟩
          · have HA1 : Hid ((p.take (k + 1)).all vCode = true) := by unfold Hid; rw [HAs.out, hv, HA.out]; rfl
            clear HAs hv
            go_wp2
            go_roundw
            case rel => exact ⟨k + 1, by omega, by go_num, HG1, HA1⟩
            case measure => simp [intOf]; omega
        · have HE : Hid (vProg p = true) := by
            unfold Hid
            rw [HV.out]
            have := HA.out
            rw [List.take_of_length_le (by omega)] at this
            exact this
          go_wp2
          go_ret
          exact ⟨by rw [HE.out]; rfl, HG⟩
    · have HV : Hid (vProg p = false) := by unfold Hid; simp [vProg, h4]
      have g4 : (4 : Int) < p.length := by omega
      go_enter Tryd.func74, Tryd.ntmps74
      go_wp2
      go_ret
      exact ⟨by rw [HV.out]; rfl, grown_alloc (grown_refl _ _)⟩
  · have HV : Hid (vProg p = false) := by unfold Hid; simp [vProg, h1]
    have g1 : (p.length : Int) < 1 := by omega
    go_enter Tryd.func74, Tryd.ntmps74
    go_wp2
    go_ret
    exact ⟨by rw [HV.out]; rfl, grown_alloc (grown_refl _ _)⟩

theorem ProgAt.form {w : World} {pv : Value} {p : List (List Ins)} (h : ProgAt w pv p) : ∃ ao cap, pv = .agg #[.slice ao p.length cap] := by
  obtain ⟨ao, cap, e, _⟩ := h; exact ⟨ao, cap, e⟩

def checkN (p : List (List Ins)) : Int := if vProg p = true then 0 else 1
def checkRunN (p : List (List Ins)) (s : List Int) : Int := if vProg p = true then (if s.length ≤ 500 then 0 else 2) else 1

set_option maxHeartbeats 1000000 in
theorem check_m (p : List (List Ins)) (pv : Value) (w : World) (hS : ShpAt w) (hP : ProgAt w pv p) :
    Calls Tryd.prog 71 #[pv] w fun e w' => e = .returned (.int .i64 (checkN p)) ∧ w.grownBy w' none := by
  have HSh := hide hS
  have HP := hide hP
  obtain ⟨ao, cap, rfl⟩ := hP.form
  clear hS hP
  go_enter Tryd.func71, Tryd.ntmps71
  go_wp2_with fail
  refine (valid_m p _ _ (HSh.out.pres (pres_grown (grown_alloc (grown_refl _ _)))) (HP.out.pres (pres_grown (grown_alloc (grown_refl _ _))))).mono ?_
  rintro e w1 ⟨rfl, hg1⟩
  have HG1 : Hid (w.grownBy w1 none) := grown_trans (grown_alloc (grown_refl _ _)) hg1
  clear hg1
  cases hv : vProg p
  · have HE : Hid (checkN p = 1) := by unfold Hid checkN; simp [hv]
    go_wp2_with fail
    go_ret
    exact ⟨by rw [HE.out]; rfl, HG1⟩
  · have HE : Hid (checkN p = 0) := by unfold Hid checkN; simp [hv]
    go_wp2_with fail
    go_ret
    exact ⟨by rw [HE.out]; rfl, HG1⟩

/-- Lists of numbers in a row, by their lengths. -/
def ListsAt (w : World) (v : Value) (ss : List (List Int)) : Prop :=
  ∃ g o cap, v = .slice (some ⟨g, o, none⟩) ss.length cap ∧ ∀ k (hk : k < ss.length), ∃ so sc, w.cell? ⟨g, o + k, none⟩ = some (.slice so ss[k].length sc)
theorem lists_one {W : World} {so : Option Addr} {s : List Int} {sc : Nat} {t : TypeId} {g : Nat} (hg : W.heap.size = g) : ListsAt (W.alloc (.cells #[.slice so s.length sc] t)) (.slice (some ⟨g, 0, none⟩) 1 1) [s] := by
  subst hg
  refine ⟨W.heap.size, 0, 1, rfl, fun k hk => ⟨so, sc, ?_⟩⟩
  have hk0 : k = 0 := by simp at hk; omega
  subst hk0
  have h := heap_alloc_new W (.cells #[.slice so s.length sc] t)
  simp only [World.cell?, h]
  rfl
def checkRunsN (p : List (List Ins)) (ss : List (List Int)) : Int := if vProg p = true then (if ss.all (fun s => decide (s.length ≤ 500)) = true then 0 else 2) else 1
theorem checkRuns_one (p : List (List Ins)) (s : List Int) : checkRunsN p [s] = checkRunN p s := by simp [checkRunsN, checkRunN]

set_option maxHeartbeats 1000000 in
theorem checkRun_m (p : List (List Ins)) (ss : List (List Int)) (pv sv : Value) (w : World) (hS : ShpAt w) (hP : ProgAt w pv p) (hL : ListsAt w sv ss) (hn : ss.length ≤ 1000) :
    Calls Tryd.prog 38 #[pv, sv] w fun e w' => e = .returned (.int .i64 (checkRunsN p ss)) ∧ w.grownBy w' none := by
  have HSh := hide hS
  have HP := hide hP
  obtain ⟨ao, cap, rfl⟩ := hP.form
  obtain ⟨g, o, scap, rfl, hc⟩ := hL
  have HC := hide hc
  clear hS hP hc
  go_enter Tryd.func38, Tryd.ntmps38
  go_wp2_with fail
  refine (check_m p _ _ (HSh.out.pres (pres_grown (grown_alloc (grown_refl _ _)))) (HP.out.pres (pres_grown (grown_alloc (grown_refl _ _))))).mono ?_
  rintro e w1 ⟨rfl, hg1⟩
  have HG1 : Hid (w.grownBy w1 none) := grown_trans (grown_alloc (grown_refl _ _)) hg1
  clear hg1
  cases hv : vProg p
  · have HE : Hid (checkRunsN p ss = 1) := by unfold Hid checkRunsN; simp [hv]
    have e1 : checkN p = 1 := by unfold checkN; simp [hv]
    rw [e1]
    clear e1
    go_wp2_with fail
    go_ret
    exact ⟨by rw [HE.out]; rfl, HG1⟩
  · have e1 : checkN p = 0 := by unfold checkN; simp [hv]
    rw [e1]
    have HV : Hid (checkRunsN p ss = if ss.all (fun s => decide (s.length ≤ 500)) = true then 0 else 2) := by unfold Hid checkRunsN; rw [if_pos hv]
    clear e1 hv
    have hn' : (ss.length : Int) ≤ 1000 := by omega
    go_wp2_with fail
    go_loopw [15] (fun i w' => ∃ k : Nat, k ≤ ss.length ∧ i = .int .i64 k ∧ Hid (w.grownBy w' none) ∧ Hid ((ss.take k).all (fun s => decide (s.length ≤ 500)) = true)) (fun i _ => ss.length - (intOf i).toNat)
    case atStart => exact ⟨0, Nat.zero_le _, rfl, HG1, rfl⟩
    case round =>
      clear HG1
      obtain ⟨k, hk, rfl, HG, HA⟩ := hrel
      obtain ⟨w5, hw5⟩ : ∃ w5, w5 = wr := ⟨_, rfl⟩
      rw [← hw5] at HG ⊢
      clear hw5
      by_cases hlt : k < ss.length
      · obtain ⟨so, sc, c0⟩ := HC.out k hlt
        have d0 := pres_grown HG.out _ _ c0
        have HAs := hide (all_take_succ ss (fun s => decide (s.length ≤ 500)) k hlt)
        have HEx : Hid (ss[k].length ≤ 500 ∨ (ss.all (fun s => decide (s.length ≤ 500)) = false)) := by
          unfold Hid
          by_cases h5 : ss[k].length ≤ 500
          · exact Or.inl h5
          · right
            cases ha : ss.all (fun s => decide (s.length ≤ 500)) with
            | false => rfl
            | true =>
              rw [List.all_eq_true] at ha
              have := ha _ (List.getElem_mem hlt)
              simp at this; omega
        clear c0
        have hk0 : (0 : Int) ≤ (k : Int) := by omega
        have hk1 : (k : Int) < ss.length := by omega
        generalize ss[k] = s at *
        by_cases h5 : s.length ≤ 500
        · have h6 : (s.length : Int) ≤ 500 := by omega
          have HA1 : Hid ((ss.take (k + 1)).all (fun s => decide (s.length ≤ 500)) = true) := by unfold Hid; rw [HAs.out, HA.out]; simp [h5]
          clear HAs HEx
          go_wp2_with fail
          go_roundw
          case rel => exact ⟨k + 1, by omega, by go_num, HG, HA1⟩
          case measure => simp [intOf]; omega
        · have h6 : (500 : Int) < s.length := by omega
          have HE : Hid (checkRunsN p ss = 2) := by
            unfold Hid; rw [HV.out, if_neg]
            rw [HEx.out.resolve_left h5]; simp
          clear HAs HEx
          go_wp2_with fail
          go_ret
          exact ⟨by rw [HE.out]; rfl, HG⟩
      · have HE : Hid (checkRunsN p ss = 0) := by
          unfold Hid; rw [HV.out, if_pos]
          have := HA.out
          rwa [List.take_of_length_le (by omega)] at this
        go_wp2_with fail
        go_ret
        exact ⟨by rw [HE.out]; rfl, HG⟩

theorem IntsAt.mono {B B' : Nat} {w : World} {v : Value} {l : List Int} (h : IntsAt B w v l) (hb : B ≤ B') : IntsAt B' w v l := by
  obtain ⟨ao, cap, e, h1, h2⟩ := h
  refine ⟨ao, cap, e, h1, fun k hk => ?_⟩
  obtain ⟨g, o, e1, e2, e3⟩ := h2 k hk
  exact ⟨g, o, e1, by omega, e3⟩
theorem IntsAt.pres {B : Nat} {w w' : World} {v : Value} {l : List Int} (h : IntsAt B w v l) (hp : Pres w w') : IntsAt B w' v l := by
  obtain ⟨ao, cap, e, h1, h2⟩ := h
  refine ⟨ao, cap, e, h1, fun k hk => ?_⟩
  obtain ⟨g, o, e1, e2, e3⟩ := h2 k hk
  exact ⟨g, o, e1, e2, hp _ _ e3⟩
theorem IntsAt.form {B : Nat} {w : World} {v : Value} {l : List Int} (h : IntsAt B w v l) : ∃ ao cap, v = .slice ao l.length cap := by
  obtain ⟨ao, cap, e, _⟩ := h; exact ⟨ao, cap, e⟩

/-- What Replay answers. -/
def Replayed (p : List (List Ins)) (s : List Int) (w : World) (e : Ending) (w' : World) : Prop :=
  w.grownBy w' none ∧
  ((checkRunN p s = 0 ∧ ∃ rv, e = .returned (.tuple #[rv, .int .i64 0]) ∧ ResAt w.heap.size w' (runS p s) p.length rv) ∨
   (checkRunN p s ≠ 0 ∧ e = .returned (.tuple #[.agg #[.int .i64 0, .int .i64 0, .int .i64 0, .slice none 0 0, .int .i64 0, .int .i64 0, .int .i64 0, .int .i64 0, .slice none 0 0], .int .i64 (checkRunN p s)])))

set_option maxHeartbeats 4000000 in
set_option maxRecDepth 100000 in
theorem replay_m (p : List (List Ins)) (s : List Int) (pv sv : Value) (w : World) (hS : ShpAt w) (hP : ProgAt w pv p) (hI : IntsAt w.heap.size w sv s) :
    Calls Tryd.prog 16 #[pv, sv] w (Replayed p s w) := by
  have HSh := hide hS
  have HP := hide hP
  have HI := hide hI
  obtain ⟨ao, cap, rfl⟩ := hP.form
  obtain ⟨so, sc, rfl⟩ := hI.form
  clear hS hP hI
  go_enter Tryd.func16, Tryd.ntmps16
  go_wp2_with fail
  have hg0 : ∀ a b c, w.grownBy (((w.alloc a).alloc b).alloc c) none := fun a b c => grown_alloc (grown_alloc (grown_alloc (grown_refl _ _)))
  refine (checkRun_m p [s] _ _ _ (HSh.out.pres (pres_grown (hg0 _ _ _))) (HP.out.pres (pres_grown (hg0 _ _ _))) (lists_one (by simp)) (by simp)).mono ?_
  rw [checkRuns_one]
  rintro e w1 ⟨rfl, hg1⟩
  have HG1 : Hid (w.grownBy w1 none) := grown_trans (hg0 _ _ _) hg1
  have hsz1 : w.heap.size + 2 ≤ w1.heap.size := by have := hg1.size; simp at this; omega
  have hb0 : w1.heap[w.heap.size]? = some (.cells #[.slice ao p.length cap] 25 (0, 0)) := by
    rw [hg1.block w.heap.size (by simp; omega) (by simp), Below.heap_alloc _ _ _ (by simp; omega), Below.heap_alloc _ _ _ (by simp)]; exact heap_alloc_new w _
  have hb1 : w1.heap[w.heap.size + 1]? = some (.cells #[.int .i64 0, .int .i64 0, .int .i64 0, .slice none 0 0, .int .i64 0, .int .i64 0, .int .i64 0, .int .i64 0, .slice none 0 0] 37 (0, 0)) := by
    rw [hg1.block (w.heap.size + 1) (by simp) (by simp), Below.heap_alloc _ _ _ (by simp)]
    have := heap_alloc_new (w.alloc (.cells #[.slice ao p.length cap] 25)) (.cells #[.int .i64 0, .int .i64 0, .int .i64 0, .slice none 0 0, .int .i64 0, .int .i64 0, .int .i64 0, .int .i64 0, .slice none 0 0] 37)
    simpa using this
  have HB1 := hide hb1
  have c0 : w1.cell? ⟨w.heap.size, 0, none⟩ = some (.slice ao p.length cap) := by simp [World.cell?, hb0]
  clear hb0 hg1
  by_cases h0 : checkRunN p s = 0
  · have H0 := hide h0
    have hv : vProg p = true := by
      unfold checkRunN at h0
      by_cases hv : vProg p = true
      · exact hv
      · simp [hv] at h0
    have h5 : s.length ≤ 500 := by
      unfold checkRunN at h0
      by_cases h5 : s.length ≤ 500
      · exact h5
      · simp [hv, h5] at h0
    have HV := hide hv
    rw [h0]
    clear h0 hv hb1
    go_wp2_with fail
    refine (new_m HV.out (HP.out.pres (pres_grown HG1.out))).mono ?_
    rintro e w2 ⟨m, rfl, hM, hg2⟩
    have HM := hide hM
    have HG2 : Hid (w.grownBy w2 none) := grown_trans HG1.out hg2
    have hsz2 : w.heap.size + 2 ≤ w2.heap.size := by have := hg2.size; omega
    have HB2 : Hid (w2.heap[w.heap.size + 1]? = some (.cells #[.int .i64 0, .int .i64 0, .int .i64 0, .slice none 0 0, .int .i64 0, .int .i64 0, .int .i64 0, .int .i64 0, .slice none 0 0] 37 (0, 0))) := by
      unfold Hid; rw [hg2.block _ (by omega) (by simp)]; exact HB1.out
    clear hM hg2 c0
    go_wp2_with fail
    refine (run_m HV.out HM.out (Nat.le_refl _) ((HI.out.pres (pres_grown HG2.out)).mono (by omega)) h5).mono ?_
    rintro e w3 ⟨rv, rfl, ⟨sv, gv, rfl, ho1, ho2⟩, hg3⟩
    obtain ⟨x1, x2, x3, rfl⟩ := owns_form ho1
    obtain ⟨y1, y2, y3, rfl⟩ := owns_form ho2
    have HO1 := hide ho1
    have HO2 := hide ho2
    have HG3 : Hid (w.grownBy w3 none) := grown_trans HG2.out hg3
    have hrb : w3.heap[w.heap.size + 1]? = some (.cells #[.int .i64 0, .int .i64 0, .int .i64 0, .slice none 0 0, .int .i64 0, .int .i64 0, .int .i64 0, .int .i64 0, .slice none 0 0] 37 (0, 0)) := by
      rw [hg3.block _ (by omega) (by simp)]; exact HB2.out
    obtain ⟨r0, r1, r2, r3, r4, r5, r6, r7, r8, rf⟩ := nine_cells hrb
    have f0 := rf 0
    have f1 := rf 1
    have f2 := rf 2
    have f3 := rf 3
    have f4 := rf 4
    have f5 := rf 5
    have f6 := rf 6
    have f7 := rf 7
    have f8 := rf 8
    clear rf hrb ho1 ho2 hg3
    generalize hO : runS p s = o at *
    have HOe := hide hO
    clear hO
    go_wp2_with fail
    refine bodyPost_ret (v := .tuple #[.agg #[.int .i64 o.kind, .int .i64 o.thread, .int .i64 o.at_, .slice x1 x2 x3, .int .i64 (o.st.vars 0), .int .i64 (o.st.vars 1), .int .i64 (o.st.vars 2), .int .i64 (o.st.vars 3), .slice y1 y2 y3], .int .i64 0]) ?_ rfl ⟨?_, Or.inl ⟨H0.out, _, rfl, ?_⟩⟩
    · simp [results, Tryd.results16, go_sem, r0, r1, r2, r3, r4, r5, r6, r7, r8]
    · iterate 9 refine grown_setNew ?_ (by omega)
      exact HG3.out
    · rw [HOe.out]
      refine ⟨_, _, rfl, ?_, ?_⟩
      · refine owns_mono (base := w2.heap.size) ?_ (by omega)
        iterate 9 refine ownsRow_setCell_below ?_ (by simp; omega) _
        exact HO1.out
      · refine owns_mono (base := w2.heap.size) ?_ (by omega)
        iterate 9 refine ownsRow_setCell_below ?_ (by simp; omega) _
        exact HO2.out
  · have H0 := hide h0
    obtain ⟨r0, r1, r2, r3, r4, r5, r6, r7, r8, rf⟩ := nine_cells hb1
    have f0 := rf 0
    have f1 := rf 1
    have f2 := rf 2
    have f3 := rf 3
    have f4 := rf 4
    have f5 := rf 5
    have f6 := rf 6
    have f7 := rf 7
    have f8 := rf 8
    have hne : (checkRunN p s != 0) = true := by simpa using h0
    clear rf hb1 h0
    generalize hE : checkRunN p s = e at *
    have HE := hide hE
    clear hE
    go_wp2_with fail
    refine bodyPost_ret (v := .tuple #[.agg #[.int .i64 0, .int .i64 0, .int .i64 0, .slice none 0 0, .int .i64 0, .int .i64 0, .int .i64 0, .int .i64 0, .slice none 0 0], .int .i64 e]) ?_ rfl ⟨?_, Or.inr ⟨by rw [HE.out]; exact H0.out, by rw [HE.out]⟩⟩
    · simp [results, Tryd.results16, go_sem, r0, r1, r2, r3, r4, r5, r6, r7, r8]
    · iterate 9 refine grown_setNew ?_ (by omega)
      exact HG1.out

end Go.Proofs.YtklenjmfalljgaaDoor

/- A history of uses in memory: a map whose keys are structs. -/
namespace Go.Proofs.YtklenjmfalljgaaDoor
open Go.RowKit Go.Maps

abbrev Use := Nat × Nat × Bool
def useV (u : Use) : Value := .agg #[.int .i64 u.1, .int .i64 u.2.1, .bool u.2.2]
def useL (u : Use) : Lit := .string (keyBytes [.int .i64 u.1, .int .i64 u.2.1, .bool u.2.2])
def smallU (u : Use) : Prop := u.1 ≤ 1000 ∧ u.2.1 ≤ 1000

theorem law_use : Keyed Tryd.prog 250 := Keyed.of_law (deep_law_laid (by kernel_rfl) (m := Tryd.prog.types.size + 1) (of_decide_eq_true (by kernel_rfl)) (of_decide_eq_true (by kernel_rfl)) (by kernel_rfl) (by kernel_rfl))
theorem zero_int (w : World) : (zeroValue 3).run Tryd.prog w = .ok (.int .i64 0) w := by kernel_rfl

theorem wf_small {n : Nat} (h : n ≤ 1000000) : (Lit.int .i64 (n : Int)).wf = true := WalkArith.wf_i64 (by omega)

set_option maxRecDepth 100000 in
theorem use_key {u : Use} (h : smallU u) : keyOf Tryd.prog 250 (useV u) = some (useL u) := by
  have k1 : Tryd.prog.keyType 250 = true := by kernel_rfl
  have hw1 := wf_small (n := u.1) (by have := h.1; omega)
  have hw2 := wf_small (n := u.2.1) (by have := h.2; omega)
  obtain ⟨m, hm⟩ : ∃ m, Tryd.prog.types.size + 1 = m + 2 := ⟨Tryd.prog.types.size - 1, by have : 2 ≤ Tryd.prog.types.size := of_decide_eq_true (by kernel_rfl); omega⟩
  have c1 : Tryd.prog.cellsOf 250 = 3 := by kernel_rfl
  have c2 : Tryd.prog.cellsOf 248 = 1 := by kernel_rfl
  have c3 : Tryd.prog.cellsOf 3 = 1 := by kernel_rfl
  have c4 : Tryd.prog.cellsOf 4 = 1 := by kernel_rfl
  have l1 : Tryd.prog.keyLits (m + 1) 248 [.int .i64 (u.1 : Int)] = some [.int .i64 (u.1 : Int)] := by
    unfold Program.keyLits; rw [Tryd.underlying248]; simp only [hw1, and_self, if_true]
  have l2 : Tryd.prog.keyLits (m + 1) 3 [.int .i64 (u.2.1 : Int)] = some [.int .i64 (u.2.1 : Int)] := by
    unfold Program.keyLits; rw [Tryd.underlying3]; simp only [hw2, and_self, if_true]
  have l3 : Tryd.prog.keyLits (m + 1) 4 [.bool u.2.2] = some [.bool u.2.2] := by
    unfold Program.keyLits; rw [Tryd.underlying4]
  have top : Tryd.prog.keyLits (m + 2) 250 [.int .i64 (u.1 : Int), .int .i64 (u.2.1 : Int), .bool u.2.2] = some [.int .i64 (u.1 : Int), .int .i64 (u.2.1 : Int), .bool u.2.2] := by
    unfold Program.keyLits; rw [Tryd.underlying250]
    simp only
    rw [if_pos ⟨by rw [c1]; rfl, by simp⟩]
    simp only [List.mapM_cons, List.mapM_nil, c2, c3, c4, List.drop_zero, List.drop_succ_cons, List.take_succ_cons, List.take_zero, l1, l2, l3]
    rfl
  have hf : (useV u).formed Tryd.prog 250 = true := by
    unfold Value.formed useV
    rw [Tryd.underlying250]
    simp only [c1]
    rfl
  unfold keyOf
  rw [Tryd.underlying250]
  simp only [k1, hf, Bool.and_self, if_true, hm]
  have hc : (useV u).cells.toList = [.int .i64 (u.1 : Int), .int .i64 (u.2.1 : Int), .bool u.2.2] := rfl
  rw [hc, top]
  rfl

theorem useL_inj {u v : Use} (hu : smallU u) (hv : smallU v) (h : useL u = useL v) : u = v := by
  have h1 := use_key hu
  have h2 := use_key hv
  rw [← h] at h2
  have := law_use.inj h1 h2
  unfold useV at this
  simp at this
  obtain ⟨u1, u2, u3⟩ := u
  obtain ⟨v1, v2, v3⟩ := v
  simp at this ⊢
  exact ⟨by omega, by omega, this.2.2⟩

/-- The block b is a map that tells F. -/
def HistAt (w : World) (b n : Nat) (F : Use → Nat) : Prop :=
  ∃ D : DataW Unit, w.ownsMap Tryd.prog 250 (plainElem Tryd.prog 3) b n D ∧ ∀ u, smallU u → D.atKey (useL u) (.lit (.int .i64 0)) = .lit (.int .i64 (F u))

theorem HistAt.made (w : World) : HistAt (w.alloc (.map #[] 0)) w.heap.size 0 (fun _ => 0) := ⟨.map [], World.ownsMap_made _ _ _ _, fun _ _ => rfl⟩
theorem HistAt.kept {w w' : World} {b n : Nat} {F : Use → Nat} (h : HistAt w b n F) (hg : w.grownBy w' none) : HistAt w' b n F := by
  obtain ⟨D, h1, h2⟩ := h
  exact ⟨D, h1.kept hg (by simp), h2⟩
theorem HistAt.lt {w : World} {b n : Nat} {F : Use → Nat} (h : HistAt w b n F) : b < w.heap.size := by
  obtain ⟨D, h1, h2⟩ := h
  exact h1.lt
theorem HistAt.look {w : World} {b n : Nat} {F : Use → Nat} (h : HistAt w b n F) {u : Use} (hu : smallU u) :
    (Instr.lookup 226 (.map (some b)) (useV u) false).run Tryd.prog w = .ok (.int .i64 (F u)) w := by
  obtain ⟨D, h1, h2⟩ := h
  obtain ⟨c, hr, hat, _⟩ := h1.lookup_int law_use Tryd.underlying226 Tryd.underlying3 (zero_int w) (use_key hu)
  rw [h2 u hu] at hat
  simp at hat
  rw [hr, ← hat]
def putF (F : Use → Nat) (u : Use) (x : Nat) : Use → Nat := fun v => if v = u then x else F v
theorem HistAt.put {w : World} {b n : Nat} {F : Use → Nat} (h : HistAt w b n F) {u : Use} (hu : smallU u) {x : Nat} (hx : x ≤ 1000000) (hn : n ≤ 1000000) :
    ∃ w', (Instr.mapUpdate 226 (.map (some b)) (useV u) (.int .i64 (x : Int))).run Tryd.prog w = .ok () w' ∧ HistAt w' b (n + 1) (putF F u x) ∧ w.grownBy w' (some b) := by
  obtain ⟨D, h1, h2⟩ := h
  obtain ⟨w', hr, ho, hg⟩ := h1.update law_use Tryd.underlying226 (by unfold maxLen; omega) (use_key hu) (plainElem_int Tryd.underlying3 (wf_small hx))
  refine ⟨w', hr, ⟨_, ho, fun v hv => ?_⟩, hg⟩
  unfold putF
  by_cases e : v = u
  · subst e
    rw [if_pos rfl]
    refine atKey_put_same ?_ ?_ _ _
    · obtain ⟨es, _, _, _, _, rfl⟩ := h1; exact ⟨_, rfl⟩
    · exact trivial
  · rw [if_neg e, atKey_put_other (fun e2 => e (useL_inj hv hu e2))]
    exact h2 v hv

end Go.Proofs.YtklenjmfalljgaaDoor

/- The walks of usesOf, ahead and enter. -/
namespace Go.Proofs.YtklenjmfalljgaaDoor
open Go.RowKit Go.Maps
attribute [local go_sem] Go.World.cell?_alloc_some

/-- Uses in a row. -/
def UsesAt (w : World) (v : Value) (us : List Use) : Prop :=
  ∃ g cap, v = .slice (some ⟨g, 0, none⟩) us.length cap ∧ g < w.heap.size ∧ ∀ k (hk : k < us.length), w.cell? ⟨g, k * 3, none⟩ = some (.int .i64 (us[k].1 : Int)) ∧ w.cell? ⟨g, k * 3 + 1, none⟩ = some (.int .i64 (us[k].2.1 : Int)) ∧ w.cell? ⟨g, k * 3 + 2, none⟩ = some (.bool us[k].2.2)
theorem UsesAt.grown {w w' : World} {v : Value} {us : List Use} (h : UsesAt w v us) (hg : w.grownBy w' none) : UsesAt w' v us := by
  obtain ⟨g, cap, e, hl, h2⟩ := h
  refine ⟨g, cap, e, Nat.lt_of_lt_of_le hl hg.size, fun k hk => ?_⟩
  obtain ⟨a, b, c⟩ := h2 k hk
  exact ⟨pres_grown hg _ _ a, pres_grown hg _ _ b, pres_grown hg _ _ c⟩
theorem uses_one {W : World} {t : TypeId} {g : Nat} {u : Use} (hg : W.heap.size = g) : UsesAt (W.alloc (.cells #[.int .i64 (u.1 : Int), .int .i64 (u.2.1 : Int), .bool u.2.2] t)) (.slice (some ⟨g, 0, none⟩) 1 1) [u] := by
  subst hg
  have h := heap_alloc_new W (.cells #[.int .i64 (u.1 : Int), .int .i64 (u.2.1 : Int), .bool u.2.2] t)
  refine ⟨W.heap.size, 1, rfl, by simp, fun k hk => ?_⟩
  have hk0 : k = 0 := by simp at hk; omega
  subst hk0
  simp only [World.cell?, h]
  exact ⟨rfl, rfl, rfl⟩
theorem uses_two {W : World} {t : TypeId} {g : Nat} {u v : Use} (hg : W.heap.size = g) : UsesAt (W.alloc (.cells #[.int .i64 (u.1 : Int), .int .i64 (u.2.1 : Int), .bool u.2.2, .int .i64 (v.1 : Int), .int .i64 (v.2.1 : Int), .bool v.2.2] t)) (.slice (some ⟨g, 0, none⟩) 2 2) [u, v] := by
  subst hg
  have h := heap_alloc_new W (.cells #[.int .i64 (u.1 : Int), .int .i64 (u.2.1 : Int), .bool u.2.2, .int .i64 (v.1 : Int), .int .i64 (v.2.1 : Int), .bool v.2.2] t)
  refine ⟨W.heap.size, 2, rfl, by simp, fun k hk => ?_⟩
  have hk0 : k = 0 ∨ k = 1 := by simp at hk; omega
  rcases hk0 with rfl | rfl
  · simp only [World.cell?, h]
    exact ⟨rfl, rfl, rfl⟩
  · simp only [World.cell?, h]
    exact ⟨rfl, rfl, rfl⟩

set_option maxHeartbeats 1000000 in
set_option maxRecDepth 100000 in
theorem usesOf_m (t : Nat) (i : Ins) (w : World) (ha : 0 ≤ i.a) (hb : 0 ≤ i.b) :
    Calls Tryd.prog 137 #[.int .i64 (t : Int), .agg #[.int .i64 i.op, .int .i64 i.a, .int .i64 i.b, .int .i64 i.n]] w fun e w' => ∃ v, e = .returned v ∧ UsesAt w' v (usesI t i) ∧ w.grownBy w' none := by
  obtain ⟨op, a, b, n⟩ := i
  obtain ⟨a, rfl⟩ := Int.eq_ofNat_of_zero_le ha
  obtain ⟨b, rfl⟩ := Int.eq_ofNat_of_zero_le hb
  simp only
  have HG : Hid (∀ x y z, w.grownBy (((w.alloc x).alloc y).alloc z) none) := fun x y z => grown_alloc (grown_alloc (grown_alloc (grown_refl _ _)))
  by_cases h9 : op = 9 ∨ op = 10
  · have HU : Hid (usesI t ⟨op, a, b, n⟩ = [(0, t, true), (2, a, true)]) := by unfold Hid usesI; simp [h9]
    rcases h9 with rfl | rfl
    · go_enter Tryd.func137, Tryd.ntmps137
      go_wp2_with fail
      go_ret
      exact ⟨_, rfl, by rw [HU.out]; exact uses_two (u := (0, t, true)) (v := (2, a, true)) (by simp), HG.out _ _ _⟩
    · go_enter Tryd.func137, Tryd.ntmps137
      go_wp2_with fail
      go_ret
      exact ⟨_, rfl, by rw [HU.out]; exact uses_two (u := (0, t, true)) (v := (2, a, true)) (by simp), HG.out _ _ _⟩
  · by_cases h2 : op = 2
    · have HU : Hid (usesI t ⟨op, a, b, n⟩ = [(0, t, true), (1, b, false)]) := by unfold Hid usesI; simp [h2]
      subst h2
      go_enter Tryd.func137, Tryd.ntmps137
      go_wp2_with fail
      go_ret
      exact ⟨_, rfl, by rw [HU.out]; exact uses_two (u := (0, t, true)) (v := (1, b, false)) (by simp), HG.out _ _ _⟩
    · by_cases h3 : op = 3
      · have HU : Hid (usesI t ⟨op, a, b, n⟩ = [(0, t, true), (1, a, true)]) := by unfold Hid usesI; simp [h3]
        subst h3
        go_enter Tryd.func137, Tryd.ntmps137
        go_wp2_with fail
        go_ret
        exact ⟨_, rfl, by rw [HU.out]; exact uses_two (u := (0, t, true)) (v := (1, a, true)) (by simp), HG.out _ _ _⟩
      · have HU : Hid (usesI t ⟨op, a, b, n⟩ = [(0, t, true)]) := by unfold Hid usesI; simp [h9, h2, h3]
        have e2 : (op == 2) = false := by simpa using h2
        have e3 : (op == 3) = false := by simpa using h3
        have e9 : (op == 9) = false := by simp; omega
        have e10 : (op == 10) = false := by simp; omega
        clear h9 h2 h3
        go_enter Tryd.func137, Tryd.ntmps137
        go_wp2_with fail
        go_ret
        exact ⟨_, rfl, by rw [HU.out]; exact uses_one (u := (0, t, true)) (by simp), HG.out _ _ _⟩

theorem aheadS_small (F : Use → Nat) (hF : ∀ u, F u ≤ 1000) : ∀ (us : List Use) (n : Nat), n ≤ 1000 → aheadS F us n ≤ 1000
  | [], n, h => h
  | u :: r, n, h => by
    unfold aheadS
    have h1 := hF (u.1, u.2.1, true)
    have h2 := hF (u.1, u.2.1, false)
    exact aheadS_small F hF r _ (by split <;> omega)

set_option maxHeartbeats 2000000 in
set_option maxRecDepth 100000 in
theorem ahead_m {w : World} {b n : Nat} {F : Use → Nat} (hH : HistAt w b n F) (hF : ∀ u, F u ≤ 1000) (us : List Use) (hus : ∀ u ∈ us, smallU u) (v : Value) (hU : UsesAt w v us) (hl : us.length ≤ 10) :
    Calls Tryd.prog 138 #[.map (some b), v] w fun e w' => e = .returned (.int .i64 (aheadS F us 0 : Nat)) ∧ w.grownBy w' none := by
  obtain ⟨g, cap, rfl, hg, hc⟩ := hU
  have HH := hide hH
  have HF := hide hF
  have HS := hide hus
  have HC := hide hc
  have hl' : (us.length : Int) ≤ 10 := by omega
  clear hH hF hus hc
  go_enter Tryd.func138, Tryd.ntmps138
  go_wp2_with fail
  go_loopw [5, 10] (fun x i w' => ∃ k m : Nat, k ≤ us.length ∧ i = .int .i64 k ∧ x = .int .i64 m ∧ m ≤ 1000 ∧ Hid (w.grownBy w' none) ∧ Hid (aheadS F us 0 = aheadS F (us.drop k) m)) (fun _ i _ => us.length - (intOf i).toNat)
  case atStart => exact ⟨0, 0, Nat.zero_le _, rfl, rfl, by omega, grown_refl _ _, rfl⟩
  case round =>
    obtain ⟨k, m, hk, rfl, rfl, hm, HG, HA⟩ := hrel
    obtain ⟨w5, hw5⟩ : ∃ w5, w5 = wr := ⟨_, rfl⟩
    rw [← hw5] at HG ⊢
    clear hw5
    by_cases hlt : k < us.length
    · obtain ⟨c0, c1, c2⟩ := HC.out k hlt
      have d0 := pres_grown HG.out _ _ c0
      have d1 := pres_grown HG.out _ _ c1
      have d2 := pres_grown HG.out _ _ c2
      have HST : Hid (aheadS F us 0 = aheadS F (us.drop (k + 1)) (if us[k].2.2 = true then max (max m (F (us[k].1, us[k].2.1, true))) (F (us[k].1, us[k].2.1, false)) else max m (F (us[k].1, us[k].2.1, true)))) := by
        unfold Hid
        rw [HA.out, List.drop_eq_getElem_cons hlt, aheadS]
      have hsm := HS.out _ (List.getElem_mem hlt)
      have HLT : Hid (∀ u, w5.grownBy u none → (Instr.lookup 226 (.map (some b)) (.agg #[.int .i64 (us[k].1 : Int), .int .i64 (us[k].2.1 : Int), .bool true]) false).run Tryd.prog u = .ok (.int .i64 (F (us[k].1, us[k].2.1, true))) u) := fun u hu => ((HH.out.kept HG.out).kept hu).look (u := (us[k].1, us[k].2.1, true)) hsm
      have HLF : Hid (∀ u, w5.grownBy u none → (Instr.lookup 226 (.map (some b)) (.agg #[.int .i64 (us[k].1 : Int), .int .i64 (us[k].2.1 : Int), .bool false]) false).run Tryd.prog u = .ok (.int .i64 (F (us[k].1, us[k].2.1, false))) u) := fun u hu => ((HH.out.kept HG.out).kept hu).look (u := (us[k].1, us[k].2.1, false)) hsm
      have hft := HF.out (us[k].1, us[k].2.1, true)
      have hff := HF.out (us[k].1, us[k].2.1, false)
      clear c0 c1 c2 hsm HA
      generalize us[k] = u at *
      obtain ⟨u1, u2, u3⟩ := u
      simp only at *
      generalize F (u1, u2, true) = ft at *
      generalize F (u1, u2, false) = ff at *
      have k0 : (0 : Int) ≤ (k : Int) := by omega
      have k1 : (k : Int) < us.length := by omega
      have rt := HLT.out (w5.alloc (.cells #[.int .i64 (u1 : Int), .int .i64 (u2 : Int), .bool u3] 250)) (grown_alloc (grown_refl _ _))
      have rf := HLF.out (w5.alloc (.cells #[.int .i64 (u1 : Int), .int .i64 (u2 : Int), .bool u3] 250)) (grown_alloc (grown_refl _ _))
      clear HLT HLF
      cases u3
      · simp only [Bool.false_eq_true, if_false] at HST
        go_wp2_with fail
        go_roundw
        case rel => exact ⟨k + 1, max m ft, by omega, by go_num, by congr 1; (repeat' split) <;> omega, by omega, grown_alloc HG.out, HST⟩
        case measure => simp [intOf]; omega
      · simp only [if_true] at HST
        go_wp2_with fail
        go_roundw
        case rel => exact ⟨k + 1, max (max m ft) ff, by omega, by go_num, by congr 1; (repeat' split) <;> omega, by omega, grown_alloc HG.out, HST⟩
        case measure => simp [intOf]; omega
    · have k1 : (us.length : Int) ≤ (k : Int) := by omega
      have HE : Hid (aheadS F us 0 = m) := by
        unfold Hid; rw [HA.out, List.drop_of_length_le (by omega)]; rfl
      go_wp2_with fail
      go_ret
      exact ⟨by rw [HE.out]; rfl, HG.out⟩

end Go.Proofs.YtklenjmfalljgaaDoor

/- The walk of enter. -/
namespace Go.Proofs.YtklenjmfalljgaaDoor
open Go.RowKit Go.Maps
attribute [local go_sem] Go.World.cell?_alloc_some

theorem HistAt.nocell {w : World} {b n : Nat} {F : Use → Nat} (h : HistAt w b n F) (o : Nat) : w.cell? ⟨b, o, none⟩ = none := by
  obtain ⟨D, ⟨es, cl, hb, _⟩, _⟩ := h
  simp [World.cell?, hb]

def enterF (x : Nat) : List Use → (Use → Nat) → Use → Nat
  | [], F => F
  | u :: r, F => enterF x r (putF F u (max (F u) x))
theorem enterF_eq (x : Nat) : ∀ (us : List Use) (F : Use → Nat) (v : Use), enterF x us F v = if v ∈ us then max (F v) x else F v
  | [], F, v => by simp [enterF]
  | u :: r, F, v => by
    unfold enterF
    rw [enterF_eq x r]
    unfold putF
    by_cases e : v = u
    · subst e
      simp
    · simp [e]
theorem enterF_snoc (x : Nat) (us : List Use) (u : Use) (F : Use → Nat) : enterF x (us ++ [u]) F = putF (enterF x us F) u (max (enterF x us F u) x) := by
  induction us generalizing F with
  | nil => rfl
  | cons a r ih => simp only [List.cons_append, enterF]; exact ih _

theorem grown_somes {w w' w'' : World} {b : Nat} (h : w.grownBy w' (some b)) (h' : w'.grownBy w'' (some b)) : w.grownBy w'' (some b) := grown_trans h h'

set_option maxHeartbeats 2000000 in
set_option maxRecDepth 100000 in
theorem enter_m {w : World} {b n : Nat} {F : Use → Nat} (hH : HistAt w b n F) (hF : ∀ u, F u ≤ 1000) (hn : n ≤ 100000) (us : List Use) (hus : ∀ u ∈ us, smallU u) (v : Value) (hU : UsesAt w v us) (hl : us.length ≤ 10) (layer : Nat) (hla : layer ≤ 900) :
    Calls Tryd.prog 139 #[.map (some b), v, .int .i64 (layer : Int)] w fun e w' => (∃ v, e = .returned v) ∧ HistAt w' b (n + us.length) (enterF (layer + 1) us F) ∧ w.grownBy w' (some b) := by
  obtain ⟨g, cap, rfl, hg, hc⟩ := hU
  have HH := hide hH
  have HF := hide hF
  have HS := hide hus
  have HC := hide hc
  have hl' : (us.length : Int) ≤ 10 := by omega
  have hla' : (layer : Int) ≤ 900 := by omega
  have hla0 : (0 : Int) ≤ (layer : Int) := by omega
  have hbw := hH.lt
  clear hH hF hus hc
  go_enter Tryd.func139, Tryd.ntmps139
  go_wp2_with fail
  go_loopw [10] (fun i w' => ∃ k : Nat, k ≤ us.length ∧ i = .int .i64 k ∧ Hid (HistAt w' b (n + k) (enterF (layer + 1) (us.take k) F)) ∧ Hid (w.grownBy w' (some b))) (fun i _ => us.length - (intOf i).toNat)
  case atStart => exact ⟨0, Nat.zero_le _, rfl, HH, grown_refl _ _⟩
  case round =>
    obtain ⟨k, hk, rfl, HI, HG⟩ := hrel
    obtain ⟨w5, hw5⟩ : ∃ w5, w5 = wr := ⟨_, rfl⟩
    rw [← hw5] at HI HG ⊢
    clear hw5
    by_cases hlt : k < us.length
    · obtain ⟨c0, c1, c2⟩ := HC.out k hlt
      have hgb : g ≠ b := fun e => by
        have := HH.out.nocell (k * 3)
        rw [← e, c0] at this; cases this
      have hblk := HG.out.block g hg (by simpa using hgb)
      have d0 : w5.cell? ⟨g, k * 3, none⟩ = some (.int .i64 (us[k].1 : Int)) := by rw [World.cell?_of_block hblk]; exact c0
      have d1 : w5.cell? ⟨g, k * 3 + 1, none⟩ = some (.int .i64 (us[k].2.1 : Int)) := by rw [World.cell?_of_block hblk]; exact c1
      have d2 : w5.cell? ⟨g, k * 3 + 2, none⟩ = some (.bool us[k].2.2) := by rw [World.cell?_of_block hblk]; exact c2
      have hsm := HS.out _ (List.getElem_mem hlt)
      have HNX : Hid (enterF (layer + 1) (us.take (k + 1)) F = putF (enterF (layer + 1) (us.take k) F) us[k] (max (enterF (layer + 1) (us.take k) F us[k]) (layer + 1))) := by
        unfold Hid; rw [List.take_succ_eq_append_getElem hlt, enterF_snoc]
      have hfx : enterF (layer + 1) (us.take k) F us[k] ≤ 1000 := by
        rw [enterF_eq]
        have := HF.out us[k]
        split <;> omega
      have hbw5 := HI.out.lt
      clear c0 c1 c2 hblk
      generalize us[k] = u at *
      obtain ⟨u1, u2, u3⟩ := u
      simp only at d0 d1 d2
      generalize enterF (layer + 1) (us.take k) F = G at *
      generalize hfv : G (u1, u2, u3) = fv at *
      have HFV := hide hfv
      clear hfv
      have k0 : (0 : Int) ≤ (k : Int) := by omega
      have k1 : (k : Int) < us.length := by omega
      have HI6 : Hid (HistAt (w5.alloc (.cells #[.int .i64 (u1 : Int), .int .i64 (u2 : Int), .bool u3] 250)).drew b (n + k) G) := HI.out.kept (grown_drew (grown_alloc (grown_refl _ _)))
      obtain ⟨w7, hup, hH7, hg7⟩ := HI6.out.put (u := (u1, u2, u3)) hsm (x := max fv (layer + 1)) (by omega) (by omega)
      have HH7 : Hid (HistAt w7 b (n + (k + 1)) (enterF (layer + 1) (us.take (k + 1)) F)) := by
        unfold Hid; rw [HNX.out]; exact hH7
      have HG7 : Hid (w.grownBy w7 (some b)) := grown_trans HG.out (grown_trans (grown_drew (grown_alloc (grown_refl _ _))) hg7)
      have hmx : (if (fv : Int) < (layer : Int) + 1 then ((layer : Int) + 1) else (fv : Int)) = ((max fv (layer + 1) : Nat) : Int) := by split <;> omega
      clear hH7 hg7 HNX
      have hX : (w5.alloc (.cells #[.int .i64 (u1 : Int), .int .i64 (u2 : Int), .bool u3] 250)).drew.heap[w5.heap.size]? = some (.cells #[.int .i64 (u1 : Int), .int .i64 (u2 : Int), .bool u3] 250) := heap_alloc_new w5 _
      go_upto_region 3 with fail
      refine wp_region_head (fun u => (u.cell? ⟨w5.heap.size, 0, none⟩ = some (.int .i64 (u1 : Int)) ∧ u.cell? ⟨w5.heap.size, 1, none⟩ = some (.int .i64 (u2 : Int)) ∧ u.cell? ⟨w5.heap.size, 2, none⟩ = some (.bool u3)) ∧ HistAt u b (n + k) G) 8 (by kernel_rfl) (by kernel_rfl) ⟨⟨by simp only [World.cell?, hX]; rfl, by simp only [World.cell?, hX]; rfl, by simp only [World.cell?, hX]; rfl⟩, HI6.out⟩ ?_
      intro hHeld
      have hwr : IntKind.i64.wrap ((layer : Int) + 1) = (layer : Int) + 1 := by rw [IntKind.wrap_i64]; omega
      refine wpHead_take (i := 0) (v := ?vva0) rfl (by kernel_rfl) (fun _ _ _ h => h) (Or.inl ⟨by rfl, ?hya0⟩) hHeld ?resta0
      case hya0 => (rintro u ⟨⟨hu0, hu1, hu2⟩, hu3⟩; go_simp; try with_reducible rfl)
      simp only [Act.put, List.setIfInBounds_toArray]
      refine wpHead_take (i := 1) (v := ?vva1) rfl (by kernel_rfl) (fun _ _ _ h => h) (Or.inl ⟨by rfl, ?hya1⟩) hHeld ?resta1
      case hya1 => (rintro u ⟨⟨hu0, hu1, hu2⟩, hu3⟩; go_simp; try with_reducible rfl)
      simp only [Act.put]
      refine wpHead_take (i := 2) (v := ?vva2) rfl (by kernel_rfl) (fun _ _ _ h => h) (Or.inl ⟨by rfl, ?hya2⟩) hHeld ?resta2
      case hya2 => (rintro u ⟨⟨hu0, hu1, hu2⟩, hu3⟩; go_simp; try with_reducible rfl)
      simp only [Act.put]
      refine wpHead_take (i := 3) (v := ?vva3) rfl (by kernel_rfl) (fun _ _ _ h => h) (Or.inl ⟨by rfl, ?hya3⟩) hHeld ?resta3
      case hya3 => (rintro u ⟨⟨hu0, hu1, hu2⟩, hu3⟩; go_simp; try with_reducible rfl)
      simp only [Act.put]
      refine wpHead_take (i := 4) (v := .int .i64 (fv : Int)) rfl (by kernel_rfl) (fun _ _ _ h => h) (Or.inl ⟨by rfl, ?hya4⟩) hHeld ?resta4
      case hya4 => (rintro u ⟨⟨hu0, hu1, hu2⟩, hu3⟩; have hr := hu3.look (u := (u1, u2, u3)) hsm; rw [HFV.out] at hr; unfold useV at hr; clear hu3; go_simp)
      simp only [Act.put]
      refine wpHead_take (i := 5) (v := ?vva5) rfl (by kernel_rfl) (fun _ _ _ h => h) (Or.inl ⟨by rfl, ?hya5⟩) hHeld ?resta5
      case hya5 => (rintro u ⟨⟨hu0, hu1, hu2⟩, hu3⟩; go_simp; try with_reducible rfl)
      simp only [Act.put]
      refine wpHead_take (i := 6) (v := .int .i64 ((layer : Int) + 1)) rfl (by kernel_rfl) (fun _ _ _ h => h) (Or.inl ⟨by rfl, ?hya6⟩) hHeld ?resta6
      case hya6 => (rintro u ⟨⟨hu0, hu1, hu2⟩, hu3⟩; go_simp; try rw [hwr])
      simp only [Act.put]
      refine wpHead_take (i := 7) (v := .int .i64 ((max fv (layer + 1) : Nat) : Int)) rfl (by kernel_rfl) (fun _ _ _ h => h) (Or.inl ⟨by rfl, ?hya7⟩) hHeld ?resta7
      case hya7 => (rintro u ⟨⟨hu0, hu1, hu2⟩, hu3⟩; clear hu3; go_simp; try rw [hmx])
      simp only [Act.put]
      refine wpHead_last rfl (by kernel_rfl) (by kernel_rfl) (by rfl) ?_
      unfold useV at hup
      go_simp
      clear hHeld hup HI6 hwr hmx hX
      go_wp2_with fail
      go_roundw
      case rel => exact ⟨k + 1, by omega, by go_num, HH7, HG7⟩
      case measure => simp [intOf]; omega
    · have k1 : (us.length : Int) ≤ (k : Int) := by omega
      have ek : k = us.length := by omega
      have HE : Hid (HistAt w5 b (n + us.length) (enterF (layer + 1) us F)) := by
        have := HI.out
        rwa [List.take_of_length_le (by omega), ek] at this
      go_wp2_with fail
      go_end0
      exact ⟨⟨_, rfl⟩, HE.out, HG.out⟩

end Go.Proofs.YtklenjmfalljgaaDoor
