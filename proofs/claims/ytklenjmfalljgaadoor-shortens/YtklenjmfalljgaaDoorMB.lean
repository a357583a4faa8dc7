/- The texts Val Mk Mk2 New New2 Rep Awk PureB Sch Sch2 Bas Hnd Hnd2 Hnd3. -/
import Derived.Test.YtklenjmfalljgaaDoorMA
import Derived.WalkSpells
import Derived.WalkLawsBesides
import Derived.Deep.Light
import Derived.Lib.QuietBelow
import Derived.BigQuiet
import Derived.Deep.QuietTactic
import Derived.Laws.CopyOwn

/- The walks of fits and validIns. -/
namespace Go.Proofs.YtklenjmfalljgaaDoor
open Go.RowKit
attribute [local go_sem] Go.World.cell?_alloc_some

set_option maxHeartbeats 1000000 in
theorem fits_m (k x len : Int) (h0 : 0 ≤ len) (h16 : len ≤ 16) (w : World) : Calls Tryd.prog 192 #[.int .i64 k, .int .i64 x, .int .i64 len] w fun e w' => e = .returned (.bool (fitsB k x len)) ∧ w' = w := by
  by_cases e1 : k = 1
  · subst e1
    go_enter Tryd.func192, Tryd.ntmps192
    go_wp2_with (go_at_call 105; refine (below_m _ _ _).mono ?_; rintro e w' ⟨rfl, rfl⟩)
    go_ret
    exact ⟨rfl, rfl⟩
  by_cases e2 : k = 2
  · subst e2
    go_enter Tryd.func192, Tryd.ntmps192
    go_wp2_with (go_at_call 105; refine (below_m _ _ _).mono ?_; rintro e w' ⟨rfl, rfl⟩)
    go_ret
    exact ⟨rfl, rfl⟩
  by_cases e3 : k = 3
  · subst e3
    go_enter Tryd.func192, Tryd.ntmps192
    go_wp2_with (go_at_call 105; refine (below_m _ _ _).mono ?_; rintro e w' ⟨rfl, rfl⟩)
    go_ret
    exact ⟨rfl, rfl⟩
  by_cases e4 : k = 4
  · subst e4
    go_enter Tryd.func192, Tryd.ntmps192
    go_wp2_with (go_at_call 105; refine (below_m _ _ _).mono ?_; rintro e w' ⟨rfl, rfl⟩)
    go_ret
    exact ⟨rfl, rfl⟩
  by_cases e5 : k = 5
  · subst e5
    go_enter Tryd.func192, Tryd.ntmps192
    go_wp2_with fail
    go_ret
    exact ⟨rfl, rfl⟩
  have HB : Hid (fitsB k x len = (x == 0)) := by unfold Hid; simp [fitsB, e1, e2, e3, e4, e5]
  have f1 : (k == 1) = false := by simpa using e1
  have f2 : (k == 2) = false := by simpa using e2
  have f3 : (k == 3) = false := by simpa using e3
  have f4 : (k == 4) = false := by simpa using e4
  have f5 : (k == 5) = false := by simpa using e5
  go_enter Tryd.func192, Tryd.ntmps192
  go_wp2_with fail
  go_ret
  exact ⟨by rw [HB.out]; rfl, rfl⟩

/-- The table of shapes, as it lies in memory. -/
def ShpAt (w : World) : Prop := ∀ o j, o < 12 → j < 3 → w.cell? ⟨0, o * 3 + j, none⟩ = some (.int .i64 (shp o j))

set_option maxHeartbeats 1000000 in
set_option maxRecDepth 100000 in
theorem validIns_m (i : Ins) (len : Int) (h0 : 0 ≤ len) (h16 : len ≤ 16) (w : World) (hS : ShpAt w) :
    Calls Tryd.prog 157 #[.agg #[.int .i64 i.op, .int .i64 i.a, .int .i64 i.b, .int .i64 i.n], .int .i64 len] w fun e w' => e = .returned (.bool (vIns i len)) ∧ w.grownBy w' none := by
  have HSh : Hid (ShpAt w) := hS
  clear hS
  by_cases h1 : 1 ≤ i.op
  · by_cases h2 : i.op ≤ 11
    · have eo : ((i.op.toNat : Nat) : Int) = i.op := by omega
      have c0 := HSh.out i.op.toNat 0 (by omega) (by omega)
      have c1 := HSh.out i.op.toNat 1 (by omega) (by omega)
      have c2 := HSh.out i.op.toNat 2 (by omega) (by omega)
      simp only [Nat.add_zero] at c0
      have HV : Hid (vIns i len = (fitsB (shp i.op.toNat 0) i.a len && (fitsB (shp i.op.toNat 1) i.b len && fitsB (shp i.op.toNat 2) i.n len))) := by unfold Hid; simp [vIns, h1, h2]
      generalize shp i.op.toNat 0 = k0 at *
      generalize shp i.op.toNat 1 = k1 at *
      generalize shp i.op.toNat 2 = k2 at *
      go_enter Tryd.func157, Tryd.ntmps157
      go_wp2_with fail
      refine (fits_m _ _ _ h0 h16 _).mono ?_
      rintro e w' ⟨rfl, rfl⟩
      cases hf0 : fitsB k0 i.a len
      · go_wp2_with fail
        go_ret
        exact ⟨by rw [HV.out, hf0]; rfl, grown_alloc (grown_alloc (grown_refl _ _))⟩
      · go_wp2_with fail
        refine (fits_m _ _ _ h0 h16 _).mono ?_
        rintro e w' ⟨rfl, rfl⟩
        cases hf1 : fitsB k1 i.b len
        · go_wp2_with fail
          go_ret
          exact ⟨by rw [HV.out, hf0, hf1]; rfl, grown_alloc (grown_alloc (grown_refl _ _))⟩
        · go_wp2_with fail
          refine (fits_m _ _ _ h0 h16 _).mono ?_
          rintro e w' ⟨rfl, rfl⟩
          go_wp2_with fail
          go_ret
          exact ⟨by rw [HV.out, hf0, hf1]; simp, grown_alloc (grown_alloc (grown_refl _ _))⟩
    · have HV : Hid (vIns i len = false) := by unfold Hid; simp [vIns, h2]
      have h3 : 11 < i.op := by omega
      go_enter Tryd.func157, Tryd.ntmps157
      go_wp2_with fail
      go_ret
      exact ⟨by rw [HV.out]; rfl, grown_alloc (grown_refl _ _)⟩
  · have HV : Hid (vIns i len = false) := by unfold Hid; simp [vIns, h1]
    have h3 : i.op < 1 := by omega
    go_enter Tryd.func157, Tryd.ntmps157
    go_wp2_with fail
    go_ret
    exact ⟨by rw [HV.out]; rfl, grown_alloc (grown_refl _ _)⟩

/-- A thread's code in memory. -/
def CodeAt (w : World) (v : Value) (c : List Ins) : Prop :=
  ∃ ao cap, v = .slice ao c.length cap ∧ ∀ k (hk : k < c.length), ∃ g o, ao = some ⟨g, o, none⟩ ∧ w.cell? ⟨g, o + k * 4, none⟩ = some (.int .i64 c[k].op) ∧
    w.cell? ⟨g, o + k * 4 + 1, none⟩ = some (.int .i64 c[k].a) ∧ w.cell? ⟨g, o + k * 4 + 2, none⟩ = some (.int .i64 c[k].b) ∧ w.cell? ⟨g, o + k * 4 + 3, none⟩ = some (.int .i64 c[k].n)

/-- A program in memory. -/
def ProgAt (w : World) (v : Value) (p : List (List Ins)) : Prop :=
  ∃ ao cap, v = .agg #[.slice ao p.length cap] ∧ ∀ t (ht : t < p.length), ∃ g o, ao = some ⟨g, o, none⟩ ∧ ∃ rv, w.cell? ⟨g, o + t, none⟩ = some rv ∧ CodeAt w rv p[t]

/-- Cells that are there are as they were. -/
def Pres (w w' : World) : Prop := ∀ a v, w.cell? a = some v → w'.cell? a = some v
theorem Pres.refl (w : World) : Pres w w := fun _ _ h => h
theorem Pres.trans {a b c : World} (h : Pres a b) (h' : Pres b c) : Pres a c := fun x v hx => h' x v (h x v hx)
theorem pres_grown {w w' : World} (h : w.grownBy w' none) : Pres w w' := fun a v ha => by
  rw [h.cell_far a (World.block_lt_of_cell? w a ha) (by simp)]; exact ha
theorem CodeAt.pres {w w' : World} {v : Value} {c : List Ins} (h : CodeAt w v c) (hp : Pres w w') : CodeAt w' v c := by
  obtain ⟨ao, cap, e, h⟩ := h
  refine ⟨ao, cap, e, fun k hk => ?_⟩
  obtain ⟨g, o, e1, e2, e3, e4, e5⟩ := h k hk
  exact ⟨g, o, e1, hp _ _ e2, hp _ _ e3, hp _ _ e4, hp _ _ e5⟩
theorem ProgAt.pres {w w' : World} {v : Value} {p : List (List Ins)} (h : ProgAt w v p) (hp : Pres w w') : ProgAt w' v p := by
  obtain ⟨ao, cap, e, h⟩ := h
  refine ⟨ao, cap, e, fun k hk => ?_⟩
  obtain ⟨g, o, e1, rv, e2, e3⟩ := h k hk
  exact ⟨g, o, e1, rv, hp _ _ e2, e3.pres hp⟩
theorem ShpAt.pres {w w' : World} (h : ShpAt w) (hp : Pres w w') : ShpAt w' := fun o j h1 h2 => hp _ _ (h o j h1 h2)

theorem all_take_succ {α : Type} (l : List α) (f : α → Bool) (k : Nat) (h : k < l.length) : (l.take (k + 1)).all f = ((l.take k).all f && f l[k]) := by
  rw [List.take_succ_eq_append_getElem h, List.all_append]; simp

set_option maxHeartbeats 1000000 in
set_option maxRecDepth 100000 in
theorem validThread_m (c : List Ins) (v : Value) (w : World) (hS : ShpAt w) (hc : CodeAt w v c) :
    Calls Tryd.prog 109 #[v] w fun e w' => e = .returned (.bool (vCode c)) ∧ w.grownBy w' none := by
  obtain ⟨ao, cap, rfl, hc⟩ := hc
  have HSh : Hid (ShpAt w) := hS
  have HC := hide hc
  clear hS hc
  by_cases h16 : c.length ≤ 16
  · have h2 : (c.length : Int) ≤ 16 := by omega
    have HV : Hid (vCode c = c.all fun i => vIns i c.length) := by unfold Hid; simp [vCode, h16]
    go_enter Tryd.func109, Tryd.ntmps109
    go_wp2
    go_loopw [10] (fun i w' => ∃ k : Nat, k ≤ c.length ∧ i = .int .i64 k ∧ Hid (w.grownBy w' none) ∧ Hid ((c.take k).all (fun i => vIns i c.length) = true)) (fun i _ => c.length - (intOf i).toNat)
    case atStart => exact ⟨0, Nat.zero_le _, rfl, grown_refl _ _, rfl⟩
    case round =>
      obtain ⟨k, hk, rfl, HG, HA⟩ := hrel
      by_cases hlt : k < c.length
      · obtain ⟨g, o, rfl, c0, c1, c2, c3⟩ := HC.out k hlt
        have hpr := pres_grown HG.out
        have d0 := hpr _ _ c0
        have d1 := hpr _ _ c1
        have d2 := hpr _ _ c2
        have d3 := hpr _ _ c3
        have HAs := hide (all_take_succ c (fun i => vIns i c.length) k hlt)
        clear c0 c1 c2 c3 hpr
        have hk0 : (0 : Int) ≤ (k : Int) := by omega
        have hk1 : (k : Int) < c.length := by omega
        have HSh' : Hid (ShpAt wr) := HSh.out.pres (pres_grown HG.out)
        generalize c[k] = i at *
        go_wp2_with fail
        refine (validIns_m i c.length (by omega) (by omega) _ (HSh'.out.pres (pres_grown (grown_alloc (grown_refl _ _))))).mono ?_
        rintro e w1 ⟨rfl, hg1⟩
        have HG1 : Hid (w.grownBy w1 none) := grown_trans (grown_alloc HG.out) hg1
        clear hg1
        cases hv : vIns i c.length
        · have HE : Hid (vCode c = false) := by
            unfold Hid
            rw [HV.out]
            have : (c.take (k + 1)).all (fun i => vIns i c.length) = false := by rw [HAs.out, hv]; simp
            rw [← List.take_append_drop (k + 1) c, List.all_append, List.take_append_drop, this]; rfl
          go_wp2_with fail
          go_ret
          exact ⟨by rw [HE.out]; rfl, HG1⟩
        · have HA1 : Hid ((c.take (k + 1)).all (fun i => vIns i c.length) = true) := by unfold Hid; rw [HAs.out, hv, HA.out]; rfl
          clear HAs hv
          go_wp2
          go_roundw
          case rel => exact ⟨k + 1, by omega, by go_num, HG1, HA1⟩
          case measure => simp [intOf]; omega
      · have HE : Hid (vCode c = true) := by
          unfold Hid
          rw [HV.out]
          have := HA.out
          rw [List.take_of_length_le (by omega)] at this
          exact this
        go_wp2
        go_ret
        exact ⟨by rw [HE.out]; rfl, HG⟩
  · have HV : Hid (vCode c = false) := by unfold Hid; simp [vCode, h16]
    have h2 : (16 : Int) < c.length := by omega
    go_enter Tryd.func109, Tryd.ntmps109
    go_wp2
    go_ret
    exact ⟨by rw [HV.out]; rfl, grown_refl _ _⟩

end Go.Proofs.YtklenjmfalljgaaDoor

/- The walks of the makers of closures and of makeAction. -/
namespace Go.Proofs.YtklenjmfalljgaaDoor
open Go.RowKit
attribute [local go_sem] Go.World.cell?_alloc_some

/-- A closure was made. -/
def Made (w : World) (t : Nat) (i : Ins) (e : Ending) (w' : World) : Prop := ∃ v, e = .returned v ∧ (∀ w'' : World, (∀ k, w.heap.size ≤ k → k < w'.heap.size → w''.heap[k]? = w'.heap[k]?) → ActIs w'.heap.size w'' v t i) ∧ w.grownBy w' none

set_option maxHeartbeats 400000 in
theorem set_mk (t : Nat) (i : Ins) (h : i.op = 1) (w : World) : Calls Tryd.prog 144 #[.int .i64 t, .int .i64 i.a, .int .i64 i.n] w (Made w t i) := by
  have hmf : ∀ (fn : Fn) (first cap : Array Value) (w : World), (Instr.makeFunc fn first cap).run Tryd.prog w = .ok (.func fn first cap) w := fun _ _ _ _ => rfl
  have H : Hid (i.op = 1) := h
  clear h
  go_enter Tryd.func144, Tryd.ntmps144
  go_wp2
  go_ret
  have h := H.out
  refine ⟨_, rfl, fun w2 hw2 => ⟨w.heap.size + 2, w.heap.size, w.heap.size + 1, 0, by (simp <;> omega), by (simp <;> omega), by (simp <;> omega), by simp, Or.inl ⟨h, rfl, ?_, ?_, ?_⟩⟩, grown_alloc (grown_alloc (grown_alloc (grown_refl _ _)))⟩
  all_goals (rw [World.cell?_of_block (hw2 _ (by (simp <;> omega)) (by (simp <;> omega)))]; simp [go_sem])

set_option maxHeartbeats 400000 in
theorem load_mk (t : Nat) (i : Ins) (h : i.op = 2) (w : World) : Calls Tryd.prog 145 #[.int .i64 t, .int .i64 i.a, .int .i64 i.b] w (Made w t i) := by
  have hmf : ∀ (fn : Fn) (first cap : Array Value) (w : World), (Instr.makeFunc fn first cap).run Tryd.prog w = .ok (.func fn first cap) w := fun _ _ _ _ => rfl
  have H : Hid (i.op = 2) := h
  clear h
  go_enter Tryd.func145, Tryd.ntmps145
  go_wp2
  go_ret
  have h := H.out
  refine ⟨_, rfl, fun w2 hw2 => ⟨w.heap.size + 2, w.heap.size, w.heap.size + 1, 0, by (simp <;> omega), by (simp <;> omega), by (simp <;> omega), by simp, Or.inr (Or.inl ⟨h, rfl, ?_, ?_, ?_⟩)⟩, grown_alloc (grown_alloc (grown_alloc (grown_refl _ _)))⟩
  all_goals (rw [World.cell?_of_block (hw2 _ (by (simp <;> omega)) (by (simp <;> omega)))]; simp [go_sem])

set_option maxHeartbeats 400000 in
theorem store_mk (t : Nat) (i : Ins) (h : i.op = 3) (w : World) : Calls Tryd.prog 146 #[.int .i64 t, .int .i64 i.a, .int .i64 i.b] w (Made w t i) := by
  have hmf : ∀ (fn : Fn) (first cap : Array Value) (w : World), (Instr.makeFunc fn first cap).run Tryd.prog w = .ok (.func fn first cap) w := fun _ _ _ _ => rfl
  have H : Hid (i.op = 3) := h
  clear h
  go_enter Tryd.func146, Tryd.ntmps146
  go_wp2
  go_ret
  have h := H.out
  refine ⟨_, rfl, fun w2 hw2 => ⟨w.heap.size, w.heap.size + 2, w.heap.size + 1, 0, by (simp <;> omega), by (simp <;> omega), by (simp <;> omega), by simp, Or.inr (Or.inr (Or.inl ⟨h, rfl, ?_, ?_, ?_⟩))⟩, grown_alloc (grown_alloc (grown_alloc (grown_refl _ _)))⟩
  all_goals (rw [World.cell?_of_block (hw2 _ (by (simp <;> omega)) (by (simp <;> omega)))]; simp [go_sem])

set_option maxHeartbeats 400000 in
theorem divide_mk (t : Nat) (i : Ins) (h : i.op = 7) (w : World) : Calls Tryd.prog 151 #[.int .i64 t, .int .i64 i.a, .int .i64 i.b] w (Made w t i) := by
  have hmf : ∀ (fn : Fn) (first cap : Array Value) (w : World), (Instr.makeFunc fn first cap).run Tryd.prog w = .ok (.func fn first cap) w := fun _ _ _ _ => rfl
  have H : Hid (i.op = 7) := h
  clear h
  go_enter Tryd.func151, Tryd.ntmps151
  go_wp2
  go_ret
  have h := H.out
  refine ⟨_, rfl, fun w2 hw2 => ⟨w.heap.size, w.heap.size + 2, w.heap.size + 1, 0, by (simp <;> omega), by (simp <;> omega), by (simp <;> omega), by simp, Or.inr (Or.inr (Or.inr (Or.inr (Or.inl ⟨h, rfl, ?_, ?_, ?_⟩))))⟩, grown_alloc (grown_alloc (grown_alloc (grown_refl _ _)))⟩
  all_goals (rw [World.cell?_of_block (hw2 _ (by (simp <;> omega)) (by (simp <;> omega)))]; simp [go_sem])

set_option maxHeartbeats 400000 in
theorem jump_mk (t : Nat) (i : Ins) (h : i.op = 8) (w : World) : Calls Tryd.prog 152 #[.int .i64 t, .int .i64 i.a, .int .i64 i.n] w (Made w t i) := by
  have hmf : ∀ (fn : Fn) (first cap : Array Value) (w : World), (Instr.makeFunc fn first cap).run Tryd.prog w = .ok (.func fn first cap) w := fun _ _ _ _ => rfl
  have H : Hid (i.op = 8) := h
  clear h
  go_enter Tryd.func152, Tryd.ntmps152
  go_wp2
  go_ret
  have h := H.out
  refine ⟨_, rfl, fun w2 hw2 => ⟨w.heap.size, w.heap.size + 1, w.heap.size + 2, 0, by (simp <;> omega), by (simp <;> omega), by (simp <;> omega), by simp, Or.inr (Or.inr (Or.inr (Or.inr (Or.inr (Or.inl ⟨h, rfl, ?_, ?_, ?_⟩)))))⟩, grown_alloc (grown_alloc (grown_alloc (grown_refl _ _)))⟩
  all_goals (rw [World.cell?_of_block (hw2 _ (by (simp <;> omega)) (by (simp <;> omega)))]; simp [go_sem])

set_option maxHeartbeats 400000 in
theorem take_mk (t : Nat) (i : Ins) (h : i.op = 9) (w : World) : Calls Tryd.prog 153 #[.int .i64 t, .int .i64 i.a] w (Made w t i) := by
  have hmf : ∀ (fn : Fn) (first cap : Array Value) (w : World), (Instr.makeFunc fn first cap).run Tryd.prog w = .ok (.func fn first cap) w := fun _ _ _ _ => rfl
  have H : Hid (i.op = 9) := h
  clear h
  go_enter Tryd.func153, Tryd.ntmps153
  go_wp2
  go_ret
  have h := H.out
  refine ⟨_, rfl, fun w2 hw2 => ⟨w.heap.size, w.heap.size + 1, 0, 0, by (simp <;> omega), by simp, by simp, by simp, Or.inr (Or.inr (Or.inr (Or.inr (Or.inr (Or.inr (Or.inl ⟨h, rfl, ?_, ?_⟩))))))⟩, grown_alloc (grown_alloc (grown_refl _ _))⟩
  all_goals (rw [World.cell?_of_block (hw2 _ (by (simp <;> omega)) (by (simp <;> omega)))]; simp [go_sem])

set_option maxHeartbeats 400000 in
theorem assert_mk (t : Nat) (i : Ins) (h : i.op = 11) (w : World) : Calls Tryd.prog 155 #[.int .i64 t, .int .i64 i.a] w (Made w t i) := by
  have hmf : ∀ (fn : Fn) (first cap : Array Value) (w : World), (Instr.makeFunc fn first cap).run Tryd.prog w = .ok (.func fn first cap) w := fun _ _ _ _ => rfl
  have H : Hid (i.op = 11) := h
  clear h
  go_enter Tryd.func155, Tryd.ntmps155
  go_wp2
  go_ret
  have h := H.out
  refine ⟨_, rfl, fun w2 hw2 => ⟨w.heap.size, w.heap.size + 1, 0, 0, by (simp <;> omega), by simp, by simp, by simp, Or.inr (Or.inr (Or.inr (Or.inr (Or.inr (Or.inr (Or.inr (Or.inr (⟨h, rfl, ?_, ?_⟩))))))))⟩, grown_alloc (grown_alloc (grown_refl _ _))⟩
  all_goals (rw [World.cell?_of_block (hw2 _ (by (simp <;> omega)) (by (simp <;> omega)))]; simp [go_sem])

set_option maxHeartbeats 400000 in
theorem release_mk (t : Nat) (i : Ins) (h : i.op = 10) (w : World) : Calls Tryd.prog 154 #[.int .i64 t, .int .i64 i.a] w (Made w t i) := by
  have hmf : ∀ (fn : Fn) (first cap : Array Value) (w : World), (Instr.makeFunc fn first cap).run Tryd.prog w = .ok (.func fn first cap) w := fun _ _ _ _ => rfl
  have H : Hid (i.op = 10) := h
  clear h
  go_enter Tryd.func154, Tryd.ntmps154
  go_wp2
  go_ret
  have h := H.out
  refine ⟨_, rfl, fun w2 hw2 => ⟨w.heap.size, w.heap.size + 1, 0, 0, by (simp <;> omega), by simp, by simp, by simp, Or.inr (Or.inr (Or.inr (Or.inr (Or.inr (Or.inr (Or.inr (Or.inl ⟨h, rfl, ?_, ?_, ?_⟩)))))))⟩, grown_alloc (grown_alloc (grown_refl _ _))⟩
  all_goals (rw [World.cell?_of_block (hw2 _ (by (simp <;> omega)) (by (simp <;> omega)))]; simp [go_sem])

set_option maxHeartbeats 400000 in
theorem add_mk (t : Nat) (i : Ins) (h : i.op = 4) (w : World) : Calls Tryd.prog 147 #[.int .i64 t, .int .i64 i.a, .int .i64 i.b, .func (.func 148) #[] #[]] w (Made w t i) := by
  have hmf : ∀ (fn : Fn) (first cap : Array Value) (w : World), (Instr.makeFunc fn first cap).run Tryd.prog w = .ok (.func fn first cap) w := fun _ _ _ _ => rfl
  have H : Hid (i.op = 4) := h
  clear h
  go_enter Tryd.func147, Tryd.ntmps147
  go_wp2
  go_ret
  have h := H.out
  refine ⟨_, rfl, fun w2 hw2 => ⟨w.heap.size + 3, w.heap.size, w.heap.size + 1, w.heap.size + 2, by (simp <;> omega), by (simp <;> omega), by (simp <;> omega), by (simp <;> omega), Or.inr (Or.inr (Or.inr (Or.inl ⟨_, Or.inl ⟨h, rfl⟩, rfl, ?_, ?_, ?_, ?_⟩)))⟩, grown_alloc (grown_alloc (grown_alloc (grown_alloc (grown_refl _ _))))⟩
  all_goals (rw [World.cell?_of_block (hw2 _ (by (simp <;> omega)) (by (simp <;> omega)))]; simp [go_sem])

set_option maxHeartbeats 400000 in
theorem sub_mk (t : Nat) (i : Ins) (h : i.op = 5) (w : World) : Calls Tryd.prog 147 #[.int .i64 t, .int .i64 i.a, .int .i64 i.b, .func (.func 149) #[] #[]] w (Made w t i) := by
  have hmf : ∀ (fn : Fn) (first cap : Array Value) (w : World), (Instr.makeFunc fn first cap).run Tryd.prog w = .ok (.func fn first cap) w := fun _ _ _ _ => rfl
  have H : Hid (i.op = 5) := h
  clear h
  go_enter Tryd.func147, Tryd.ntmps147
  go_wp2
  go_ret
  have h := H.out
  refine ⟨_, rfl, fun w2 hw2 => ⟨w.heap.size + 3, w.heap.size, w.heap.size + 1, w.heap.size + 2, by (simp <;> omega), by (simp <;> omega), by (simp <;> omega), by (simp <;> omega), Or.inr (Or.inr (Or.inr (Or.inl ⟨_, Or.inr (Or.inl ⟨h, rfl⟩), rfl, ?_, ?_, ?_, ?_⟩)))⟩, grown_alloc (grown_alloc (grown_alloc (grown_alloc (grown_refl _ _))))⟩
  all_goals (rw [World.cell?_of_block (hw2 _ (by (simp <;> omega)) (by (simp <;> omega)))]; simp [go_sem])

set_option maxHeartbeats 400000 in
theorem mul_mk (t : Nat) (i : Ins) (h : i.op = 6) (w : World) : Calls Tryd.prog 147 #[.int .i64 t, .int .i64 i.a, .int .i64 i.b, .func (.func 150) #[] #[]] w (Made w t i) := by
  have hmf : ∀ (fn : Fn) (first cap : Array Value) (w : World), (Instr.makeFunc fn first cap).run Tryd.prog w = .ok (.func fn first cap) w := fun _ _ _ _ => rfl
  have H : Hid (i.op = 6) := h
  clear h
  go_enter Tryd.func147, Tryd.ntmps147
  go_wp2
  go_ret
  have h := H.out
  refine ⟨_, rfl, fun w2 hw2 => ⟨w.heap.size + 3, w.heap.size, w.heap.size + 1, w.heap.size + 2, by (simp <;> omega), by (simp <;> omega), by (simp <;> omega), by (simp <;> omega), Or.inr (Or.inr (Or.inr (Or.inl ⟨_, Or.inr (Or.inr ⟨h, rfl⟩), rfl, ?_, ?_, ?_, ?_⟩)))⟩, grown_alloc (grown_alloc (grown_alloc (grown_alloc (grown_refl _ _))))⟩
  all_goals (rw [World.cell?_of_block (hw2 _ (by (simp <;> omega)) (by (simp <;> omega)))]; simp [go_sem])

end Go.Proofs.YtklenjmfalljgaaDoor

/- The walks of makeAction and makeMove. -/
namespace Go.Proofs.YtklenjmfalljgaaDoor
open Go.RowKit
attribute [local go_sem] Go.World.cell?_alloc_some

theorem Made.grow {w0 w w' : World} {t : Nat} {i : Ins} {e : Ending} (h : Made w t i e w') (hg : w0.grownBy w none) : Made w0 t i e w' := by
  obtain ⟨v, h1, h2, h3⟩ := h
  exact ⟨v, h1, fun w2 hw2 => h2 w2 fun k hk hk2 => hw2 k (Nat.le_trans hg.size hk) hk2, grown_trans hg h3⟩

set_option maxHeartbeats 1000000 in
set_option maxRecDepth 100000 in
theorem makeAction_1 (t : Nat) (i : Ins) (h : i.op = 1) (w : World) : Calls Tryd.prog 104 #[.int .i64 t, .agg #[.int .i64 1, .int .i64 i.a, .int .i64 i.b, .int .i64 i.n]] w (Made w t i) := by
  have H : Hid (i.op = 1) := h
  clear h
  go_enter Tryd.func104, Tryd.ntmps104
  go_wp2_with fail
  go_quiet (fail)
  go_wp2_with fail
  refine (set_mk t i H.out _).mono ?_
  rintro e w1 ⟨v, rfl, ha, hg⟩
  have HA := hide ha
  have HG := hide hg
  clear ha hg
  go_wp2_with fail
  go_ret
  exact Made.grow (w := _) ⟨v, rfl, HA.out, HG.out⟩ (grown_drewN _ (grown_alloc (grown_refl _ _)))

set_option maxHeartbeats 1000000 in
set_option maxRecDepth 100000 in
theorem makeAction_2 (t : Nat) (i : Ins) (h : i.op = 2) (w : World) : Calls Tryd.prog 104 #[.int .i64 t, .agg #[.int .i64 2, .int .i64 i.a, .int .i64 i.b, .int .i64 i.n]] w (Made w t i) := by
  have H : Hid (i.op = 2) := h
  clear h
  go_enter Tryd.func104, Tryd.ntmps104
  go_wp2_with fail
  go_quiet (fail)
  go_wp2_with fail
  refine (load_mk t i H.out _).mono ?_
  rintro e w1 ⟨v, rfl, ha, hg⟩
  have HA := hide ha
  have HG := hide hg
  clear ha hg
  go_wp2_with fail
  go_ret
  exact Made.grow (w := _) ⟨v, rfl, HA.out, HG.out⟩ (grown_drewN _ (grown_alloc (grown_refl _ _)))

set_option maxHeartbeats 1000000 in
set_option maxRecDepth 100000 in
theorem makeAction_3 (t : Nat) (i : Ins) (h : i.op = 3) (w : World) : Calls Tryd.prog 104 #[.int .i64 t, .agg #[.int .i64 3, .int .i64 i.a, .int .i64 i.b, .int .i64 i.n]] w (Made w t i) := by
  have H : Hid (i.op = 3) := h
  clear h
  go_enter Tryd.func104, Tryd.ntmps104
  go_wp2_with fail
  go_quiet (fail)
  go_wp2_with fail
  refine (store_mk t i H.out _).mono ?_
  rintro e w1 ⟨v, rfl, ha, hg⟩
  have HA := hide ha
  have HG := hide hg
  clear ha hg
  go_wp2_with fail
  go_ret
  exact Made.grow (w := _) ⟨v, rfl, HA.out, HG.out⟩ (grown_drewN _ (grown_alloc (grown_refl _ _)))

set_option maxHeartbeats 1000000 in
set_option maxRecDepth 100000 in
theorem makeAction_4 (t : Nat) (i : Ins) (h : i.op = 4) (w : World) : Calls Tryd.prog 104 #[.int .i64 t, .agg #[.int .i64 4, .int .i64 i.a, .int .i64 i.b, .int .i64 i.n]] w (Made w t i) := by
  have H : Hid (i.op = 4) := h
  clear h
  go_enter Tryd.func104, Tryd.ntmps104
  go_wp2_with fail
  go_quiet (fail)
  go_wp2_with fail
  refine (add_mk t i H.out _).mono ?_
  rintro e w1 ⟨v, rfl, ha, hg⟩
  have HA := hide ha
  have HG := hide hg
  clear ha hg
  go_wp2_with fail
  go_ret
  exact Made.grow (w := _) ⟨v, rfl, HA.out, HG.out⟩ (grown_drewN _ (grown_alloc (grown_refl _ _)))

set_option maxHeartbeats 1000000 in
set_option maxRecDepth 100000 in
theorem makeAction_5 (t : Nat) (i : Ins) (h : i.op = 5) (w : World) : Calls Tryd.prog 104 #[.int .i64 t, .agg #[.int .i64 5, .int .i64 i.a, .int .i64 i.b, .int .i64 i.n]] w (Made w t i) := by
  have H : Hid (i.op = 5) := h
  clear h
  go_enter Tryd.func104, Tryd.ntmps104
  go_wp2_with fail
  go_quiet (fail)
  go_wp2_with fail
  refine (sub_mk t i H.out _).mono ?_
  rintro e w1 ⟨v, rfl, ha, hg⟩
  have HA := hide ha
  have HG := hide hg
  clear ha hg
  go_wp2_with fail
  go_ret
  exact Made.grow (w := _) ⟨v, rfl, HA.out, HG.out⟩ (grown_drewN _ (grown_alloc (grown_refl _ _)))

set_option maxHeartbeats 1000000 in
set_option maxRecDepth 100000 in
theorem makeAction_6 (t : Nat) (i : Ins) (h : i.op = 6) (w : World) : Calls Tryd.prog 104 #[.int .i64 t, .agg #[.int .i64 6, .int .i64 i.a, .int .i64 i.b, .int .i64 i.n]] w (Made w t i) := by
  have H : Hid (i.op = 6) := h
  clear h
  go_enter Tryd.func104, Tryd.ntmps104
  go_wp2_with fail
  go_quiet (fail)
  go_wp2_with fail
  refine (mul_mk t i H.out _).mono ?_
  rintro e w1 ⟨v, rfl, ha, hg⟩
  have HA := hide ha
  have HG := hide hg
  clear ha hg
  go_wp2_with fail
  go_ret
  exact Made.grow (w := _) ⟨v, rfl, HA.out, HG.out⟩ (grown_drewN _ (grown_alloc (grown_refl _ _)))

set_option maxHeartbeats 1000000 in
set_option maxRecDepth 100000 in
theorem makeAction_7 (t : Nat) (i : Ins) (h : i.op = 7) (w : World) : Calls Tryd.prog 104 #[.int .i64 t, .agg #[.int .i64 7, .int .i64 i.a, .int .i64 i.b, .int .i64 i.n]] w (Made w t i) := by
  have H : Hid (i.op = 7) := h
  clear h
  go_enter Tryd.func104, Tryd.ntmps104
  go_wp2_with fail
  go_quiet (fail)
  go_wp2_with fail
  refine (divide_mk t i H.out _).mono ?_
  rintro e w1 ⟨v, rfl, ha, hg⟩
  have HA := hide ha
  have HG := hide hg
  clear ha hg
  go_wp2_with fail
  go_ret
  exact Made.grow (w := _) ⟨v, rfl, HA.out, HG.out⟩ (grown_drewN _ (grown_alloc (grown_refl _ _)))

set_option maxHeartbeats 1000000 in
set_option maxRecDepth 100000 in
theorem makeAction_8 (t : Nat) (i : Ins) (h : i.op = 8) (w : World) : Calls Tryd.prog 104 #[.int .i64 t, .agg #[.int .i64 8, .int .i64 i.a, .int .i64 i.b, .int .i64 i.n]] w (Made w t i) := by
  have H : Hid (i.op = 8) := h
  clear h
  go_enter Tryd.func104, Tryd.ntmps104
  go_wp2_with fail
  go_quiet (fail)
  go_wp2_with fail
  refine (jump_mk t i H.out _).mono ?_
  rintro e w1 ⟨v, rfl, ha, hg⟩
  have HA := hide ha
  have HG := hide hg
  clear ha hg
  go_wp2_with fail
  go_ret
  exact Made.grow (w := _) ⟨v, rfl, HA.out, HG.out⟩ (grown_drewN _ (grown_alloc (grown_refl _ _)))

set_option maxHeartbeats 1000000 in
set_option maxRecDepth 100000 in
theorem makeAction_9 (t : Nat) (i : Ins) (h : i.op = 9) (w : World) : Calls Tryd.prog 104 #[.int .i64 t, .agg #[.int .i64 9, .int .i64 i.a, .int .i64 i.b, .int .i64 i.n]] w (Made w t i) := by
  have H : Hid (i.op = 9) := h
  clear h
  go_enter Tryd.func104, Tryd.ntmps104
  go_wp2_with fail
  go_quiet (fail)
  go_wp2_with fail
  refine (take_mk t i H.out _).mono ?_
  rintro e w1 ⟨v, rfl, ha, hg⟩
  have HA := hide ha
  have HG := hide hg
  clear ha hg
  go_wp2_with fail
  go_ret
  exact Made.grow (w := _) ⟨v, rfl, HA.out, HG.out⟩ (grown_drewN _ (grown_alloc (grown_refl _ _)))

set_option maxHeartbeats 1000000 in
set_option maxRecDepth 100000 in
theorem makeAction_10 (t : Nat) (i : Ins) (h : i.op = 10) (w : World) : Calls Tryd.prog 104 #[.int .i64 t, .agg #[.int .i64 10, .int .i64 i.a, .int .i64 i.b, .int .i64 i.n]] w (Made w t i) := by
  have H : Hid (i.op = 10) := h
  clear h
  go_enter Tryd.func104, Tryd.ntmps104
  go_wp2_with fail
  go_quiet (fail)
  go_wp2_with fail
  refine (release_mk t i H.out _).mono ?_
  rintro e w1 ⟨v, rfl, ha, hg⟩
  have HA := hide ha
  have HG := hide hg
  clear ha hg
  go_wp2_with fail
  go_ret
  exact Made.grow (w := _) ⟨v, rfl, HA.out, HG.out⟩ (grown_drewN _ (grown_alloc (grown_refl _ _)))

set_option maxHeartbeats 1000000 in
set_option maxRecDepth 100000 in
theorem makeAction_11 (t : Nat) (i : Ins) (h : i.op = 11) (w : World) : Calls Tryd.prog 104 #[.int .i64 t, .agg #[.int .i64 11, .int .i64 i.a, .int .i64 i.b, .int .i64 i.n]] w (Made w t i) := by
  have H : Hid (i.op = 11) := h
  clear h
  go_enter Tryd.func104, Tryd.ntmps104
  go_wp2_with fail
  go_quiet (fail)
  go_wp2_with fail
  refine (assert_mk t i H.out _).mono ?_
  rintro e w1 ⟨v, rfl, ha, hg⟩
  have HA := hide ha
  have HG := hide hg
  clear ha hg
  go_wp2_with fail
  go_ret
  exact Made.grow (w := _) ⟨v, rfl, HA.out, HG.out⟩ (grown_drewN _ (grown_alloc (grown_refl _ _)))

theorem makeAction_m (t : Nat) (i : Ins) (h1 : 1 ≤ i.op) (h2 : i.op ≤ 11) (w : World) : Calls Tryd.prog 104 #[.int .i64 t, .agg #[.int .i64 i.op, .int .i64 i.a, .int .i64 i.b, .int .i64 i.n]] w (Made w t i) := by
  have hc : i.op = 1 ∨ i.op = 2 ∨ i.op = 3 ∨ i.op = 4 ∨ i.op = 5 ∨ i.op = 6 ∨ i.op = 7 ∨ i.op = 8 ∨ i.op = 9 ∨ i.op = 10 ∨ i.op = 11 := by omega
  rcases hc with e | e | e | e | e | e | e | e | e | e | e
  · rw [e]; exact makeAction_1 t i e w
  · rw [e]; exact makeAction_2 t i e w
  · rw [e]; exact makeAction_3 t i e w
  · rw [e]; exact makeAction_4 t i e w
  · rw [e]; exact makeAction_5 t i e w
  · rw [e]; exact makeAction_6 t i e w
  · rw [e]; exact makeAction_7 t i e w
  · rw [e]; exact makeAction_8 t i e w
  · rw [e]; exact makeAction_9 t i e w
  · rw [e]; exact makeAction_10 t i e w
  · rw [e]; exact makeAction_11 t i e w

theorem four_cells {w : World} {g : Nat} {x0 x1 x2 x3 : Value} {t : TypeId} (h : w.heap[g]? = some (.cells #[x0, x1, x2, x3] t (0, 0))) :
    w.cell? ⟨g, 0, none⟩ = some x0 ∧ w.cell? ⟨g, 1, none⟩ = some x1 ∧ w.cell? ⟨g, 2, none⟩ = some x2 ∧ w.cell? ⟨g, 3, none⟩ = some x3 ∧ (∀ o, w.frozen? ⟨g, o, none⟩ = false) := by
  simp [World.cell?, World.frozen?, h]

/-- A move was made: its three cells. -/
def MoveMade (w : World) (t : Nat) (i : Ins) (e : Ending) (w' : World) : Prop :=
  ∃ kf caps, e = .returned (.agg #[.func (.func kf) #[] caps, .bool (i.op == 9), .int .i64 (if i.op = 9 then i.a else 0)]) ∧ (∀ w2 : World, (∀ k, w.heap.size ≤ k → k < w'.heap.size → w2.heap[k]? = w'.heap[k]?) → ActIs w'.heap.size w2 (.func (.func kf) #[] caps) t i) ∧ w.grownBy w' none

theorem ActIs.form {B : Nat} {w : World} {v : Value} {t : Nat} {i : Ins} (h : ActIs B w v t i) : ∃ kf caps, v = .func (.func kf) #[] caps := by
  obtain ⟨x, y, z, u, _, _, _, _, h⟩ := h
  rcases h with ⟨_, e, _⟩ | ⟨_, e, _⟩ | ⟨_, e, _⟩ | ⟨_, _, e, _⟩ | ⟨_, e, _⟩ | ⟨_, e, _⟩ | ⟨_, e, _⟩ | ⟨_, e, _⟩ | ⟨_, e, _⟩ <;> exact ⟨_, _, e⟩

set_option maxHeartbeats 1000000 in
set_option maxRecDepth 100000 in
theorem makeMove_m (t : Nat) (i : Ins) (h1 : 1 ≤ i.op) (h2 : i.op ≤ 11) (w : World) : Calls Tryd.prog 72 #[.int .i64 t, .agg #[.int .i64 i.op, .int .i64 i.a, .int .i64 i.b, .int .i64 i.n]] w (MoveMade w t i) := by
  go_enter Tryd.func72, Tryd.ntmps72
  go_wp2_with fail
  refine (makeAction_m t i h1 h2 _).mono ?_
  rintro e w1 ⟨v, rfl, ha, hg⟩
  obtain ⟨kf, caps, rfl⟩ := (ha w1 fun _ _ _ => rfl).form
  have HA := hide ha
  have HG := hide hg
  have hsz : w.heap.size + 2 ≤ w1.heap.size := by have := hg.size; simpa using this
  have hb0 : w1.heap[w.heap.size]? = some (.cells #[.int .i64 i.op, .int .i64 i.a, .int .i64 i.b, .int .i64 i.n] 28 (0, 0)) := by
    rw [hg.block _ (by simp; omega) (by simp), Below.heap_alloc _ _ _ (by simp)]; exact heap_alloc_new w _
  have hb1 : w1.heap[w.heap.size + 1]? = some (.cells #[.nilFunc, .bool false, .int .i64 0] 130 (0, 0)) := by
    rw [hg.block _ (by simp) (by simp)]
    have := heap_alloc_new (w.alloc (.cells #[.int .i64 i.op, .int .i64 i.a, .int .i64 i.b, .int .i64 i.n] 28)) (.cells #[.nilFunc, .bool false, .int .i64 0] 130)
    simpa using this
  clear ha hg
  obtain ⟨c0, c1, c2, c3, _⟩ := four_cells hb0
  obtain ⟨d0, d1, d2, df⟩ := three_cells hb1
  have dfa : ∀ (o : Obj) (k : Nat), (w1.alloc o).frozen? ⟨w.heap.size + 1, k, none⟩ = false := fun o k => by
    rw [World.frozen?_alloc_old _ _ _ (by simp; omega)]; exact df k
  clear df hb0 hb1 c2 c3
  have HG0 : Hid (w.grownBy w1 none) := grown_trans (grown_alloc (grown_alloc (grown_refl _ _))) HG.out
  by_cases h9 : i.op = 9
  · have H9 := hide h9
    have hq : (i.op == 9) = true := by simpa using h9
    clear h9
    go_wp2_with fail
    refine bodyPost_ret (v := .agg #[.func (.func kf) #[] caps, .bool true, .int .i64 i.a]) ?_ rfl ⟨kf, caps, ?_, ?_, ?_⟩
    · simp [results, Tryd.results72, go_sem, d0, d1, d2]
    · rw [hq, if_pos H9.out]
    · intro w2 hw2
      refine (HA.out _ fun k hk hk2 => ?_).mono (by simp)
      rw [hw2 k (by simp at hk; omega) (by simp; omega)]
      have hk3 : w.heap.size + 2 ≤ k := by simpa using hk
      rw [Below.heap_setCell _ _ _ _ (by simp; omega), Below.heap_setCell _ _ _ _ (by simp; omega), Below.heap_setCell _ _ _ _ (by simp; omega), Below.heap_alloc _ _ _ hk2]
    · iterate 3 refine grown_setNew ?_ (by omega)
      exact grown_alloc HG0.out
  · have H9 := hide h9
    have hq : (i.op == 9) = false := by simpa using h9
    clear h9
    go_wp2_with fail
    refine bodyPost_ret (v := .agg #[.func (.func kf) #[] caps, .bool false, .int .i64 0]) ?_ rfl ⟨kf, caps, ?_, ?_, ?_⟩
    · simp [results, Tryd.results72, go_sem, d0, d1, d2]
    · rw [hq, if_neg H9.out]
    · intro w2 hw2
      refine (HA.out _ fun k hk hk2 => ?_).mono (by simp)
      rw [hw2 k (by simp at hk; omega) (by simp; omega)]
      have hk3 : w.heap.size + 2 ≤ k := by simpa using hk
      rw [Below.heap_setCell _ _ _ _ (by simp; omega), Below.heap_setCell _ _ _ _ (by simp; omega), Below.heap_setCell _ _ _ _ (by simp; omega), Below.heap_alloc _ _ _ hk2]
    · iterate 3 refine grown_setNew ?_ (by omega)
      exact grown_alloc HG0.out

end Go.Proofs.YtklenjmfalljgaaDoor

/- The walk of New. -/
namespace Go.Proofs.YtklenjmfalljgaaDoor
open Go.RowKit
attribute [local go_sem] Go.World.cell?_alloc_some

/-- The three cells of a move. -/
def moveV (kf : Nat) (caps : Array Value) (i : Ins) : List Value := [.func (.func kf) #[] caps, .bool (i.op == 9), .int .i64 (if i.op = 9 then i.a else 0)]

/-- The closure's boxes lie in the blocks from a on, below b. -/
def ActSt (a b : Nat) (w : World) (v : Value) (t : Nat) (i : Ins) : Prop := ∀ w' : World, (∀ k, a ≤ k → k < b → w'.heap[k]? = w.heap[k]?) → ActIs b w' v t i

/-- A row of moves, as a list of cells; the boxes lie from L on, below B, and not in the row's own block. -/
def MovesIn (L B : Nat) (w : World) (own : Option Nat) (xs : List Value) (t : Nat) (c : List Ins) : Prop :=
  ∀ k (hk : k < c.length), ∃ kf caps a b, xs[k * 3]? = some (.func (.func kf) #[] caps) ∧ xs[k * 3 + 1]? = some (.bool (c[k].op == 9)) ∧ xs[k * 3 + 2]? = some (.int .i64 (if c[k].op = 9 then c[k].a else 0)) ∧
    L ≤ a ∧ b ≤ B ∧ (∀ h, own = some h → h < a ∨ b ≤ h) ∧ ActSt a b w (.func (.func kf) #[] caps) t c[k]

theorem MovesIn.step {L B : Nat} {w w' : World} {own r : Option Nat} {xs : List Value} {t : Nat} {c : List Ins} (h : MovesIn L B w own xs t c) (hB : B ≤ w.heap.size) (hg : w.grownBy w' r) (hr : ∀ q, r = some q → own = some q ∨ q < L ∨ B ≤ q) : MovesIn L B w' own xs t c := by
  intro k hk
  obtain ⟨kf, caps, a, b, h1, h2, h3, h4, h5, h6, h7⟩ := h k hk
  refine ⟨kf, caps, a, b, h1, h2, h3, h4, h5, h6, fun w2 hw2 => h7 w2 fun q hq hq2 => ?_⟩
  rw [hw2 q hq hq2, hg.block q (by omega) (fun e => by
    rcases hr q e.symm with e2 | e2 | e2
    · rcases h6 q e2 with e3 | e3 <;> omega
    · omega
    · omega)]

theorem MovesIn.mono {L B B' : Nat} {w : World} {own : Option Nat} {xs : List Value} {t : Nat} {c : List Ins} (h : MovesIn L B w own xs t c) (hB : B ≤ B') : MovesIn L B' w own xs t c := by
  intro k hk
  obtain ⟨kf, caps, a, b, h1, h2, h3, h4, h5, h6, h7⟩ := h k hk
  exact ⟨kf, caps, a, b, h1, h2, h3, h4, by omega, h6, h7⟩

theorem MovesIn.reown {L B g : Nat} {w : World} {own : Option Nat} {xs : List Value} {t : Nat} {c : List Ins} (h : MovesIn L B w own xs t c) (hat : own = some g ∨ B ≤ g) : MovesIn L B w (some g) xs t c := by
  intro k hk
  obtain ⟨kf, caps, a, b, h1, h2, h3, h4, h5, h6, h7⟩ := h k hk
  refine ⟨kf, caps, a, b, h1, h2, h3, h4, h5, fun q e => ?_, h7⟩
  cases e
  rcases hat with e | e
  · exact h6 _ e
  · exact Or.inr (by omega)

theorem MovesIn.snoc {L B : Nat} {w : World} {own : Option Nat} {xs : List Value} {t : Nat} {c : List Ins} {i : Ins} {kf : Nat} {caps : Array Value} {a b : Nat} (h : MovesIn L B w own xs t c) (hl : xs.length = c.length * 3)
    (ha : L ≤ a) (hb : b ≤ B) (ho : ∀ h, own = some h → h < a ∨ b ≤ h) (hA : ActSt a b w (.func (.func kf) #[] caps) t i) :
    MovesIn L B w own (xs ++ moveV kf caps i) t (c ++ [i]) := by
  intro k hk
  by_cases hlt : k < c.length
  · obtain ⟨kf', caps', a', b', h1, h2, h3, h4⟩ := h k hlt
    have e : (c ++ [i])[k] = c[k] := List.getElem_append_left hlt
    refine ⟨kf', caps', a', b', ?_, ?_, ?_, ?_⟩
    · rw [List.getElem?_append_left (by omega)]; exact h1
    · rw [List.getElem?_append_left (by omega), e]; exact h2
    · rw [List.getElem?_append_left (by omega), e]; exact h3
    · rw [e]; exact h4
  · have ek : k = c.length := by simp at hk; omega
    subst ek
    have e : (c ++ [i])[c.length] = i := by simp
    refine ⟨kf, caps, a, b, ?_, ?_, ?_, ha, hb, ho, ?_⟩
    · rw [List.getElem?_append_right (by omega), hl]; simp [moveV]
    · rw [List.getElem?_append_right (by omega), hl, e]
      have : c.length * 3 + 1 - c.length * 3 = 1 := by omega
      rw [this]; rfl
    · rw [List.getElem?_append_right (by omega), hl, e]
      have : c.length * 3 + 2 - c.length * 3 = 2 := by omega
      rw [this]; rfl
    · rw [e]; exact hA

/-- The rows of the threads ahead of t are done; their blocks lie from L on, below B. -/
def Fin (L B : Nat) (w : World) (rows : Array Value) (t : Nat) (p : List (List Ins)) : Prop :=
  ∀ j, j < t → ∃ v xs, rows[j]? = some v ∧ w.ownsRow L 130 3 v (codeOf p j).length xs ∧ (∀ h, v.ownBlock = some h → h < B) ∧ MovesIn L B w v.ownBlock xs j (codeOf p j)

theorem Fin.step {L B : Nat} {w w' : World} {rows : Array Value} {t : Nat} {p : List (List Ins)} {r : Option Nat} (h : Fin L B w rows t p) (hBs : B ≤ w.heap.size) (hg : w.grownBy w' r) (hr : ∀ k, r = some k → k < L ∨ B ≤ k) : Fin L B w' rows t p := by
  intro j hj
  obtain ⟨v, xs, h1, h2, h3, h4⟩ := h j hj
  refine ⟨v, xs, h1, ?_, h3, h4.step hBs hg (fun q e => Or.inr (hr q e))⟩
  obtain ⟨q1, q2⟩ := h2
  refine ⟨q1, ?_⟩
  rcases q2 with q2 | ⟨g, cap, cur, hv, hb, hh, rest⟩
  · exact Or.inl q2
  · have hlt : g < w.heap.size := (Array.getElem?_eq_some_iff.1 hh).1
    have hB := h3 g (by rw [hv]; rfl)
    refine Or.inr ⟨g, cap, cur, hv, hb, ?_, rest⟩
    rw [hg.block g hlt (fun e => by have := hr g e.symm; omega)]; exact hh

theorem Fin.rows {L B : Nat} {w : World} {rows : Array Value} {t u : Nat} {x : Value} {p : List (List Ins)} (h : Fin L B w rows t p) (hu : t ≤ u) : Fin L B w (rows.setIfInBounds u x) t p := by
  intro j hj
  obtain ⟨v, xs, h1, h2, h3, h4⟩ := h j hj
  exact ⟨v, xs, by rw [Array.getElem?_setIfInBounds_ne (by omega)]; exact h1, h2, h3, h4⟩
theorem Fin.mono {L B B' : Nat} {w : World} {rows : Array Value} {t : Nat} {p : List (List Ins)} (h : Fin L B w rows t p) (hb : B ≤ B') : Fin L B' w rows t p := by
  intro j hj
  obtain ⟨v, xs, h1, h2, h3, h4⟩ := h j hj
  exact ⟨v, xs, h1, h2, fun h e => Nat.lt_of_lt_of_le (h3 h e) hb, h4.mono hb⟩
theorem Fin.succ {L B : Nat} {w : World} {rows : Array Value} {t : Nat} {p : List (List Ins)} {v : Value} {xs : List Value} (h : Fin L B w rows t p) (h1 : rows[t]? = some v) (h2 : w.ownsRow L 130 3 v (codeOf p t).length xs)
    (h3 : ∀ h, v.ownBlock = some h → h < B) (h4 : MovesIn L B w v.ownBlock xs t (codeOf p t)) : Fin L B w rows (t + 1) p := by
  intro j hj
  by_cases e : j = t
  · subst e; exact ⟨v, xs, h1, h2, h3, h4⟩
  · exact h j (by omega)

theorem Fin.rowIs {L B : Nat} {w : World} {rows : Array Value} {t : Nat} {p : List (List Ins)} (h : Fin L B w rows t p) {j : Nat} (hj : j < t) : ∃ v, rows[j]? = some v ∧ RowIs B w v j (codeOf p j) := by
  obtain ⟨v, xs, h1, h2, h3, h4⟩ := h j hj
  refine ⟨v, h1, ?_⟩
  rcases h2.2 with ⟨e, e0⟩ | ⟨g, cap, cur, hv, hb, hh, hrest⟩
  · exact Or.inl ⟨List.length_eq_zero_iff.1 e0, e⟩
  · refine Or.inr ⟨g, cap, hv, h3 g (by rw [hv]; rfl), fun k hk => ?_⟩
    obtain ⟨kf, caps, a, b, q1, q2, q3, q4, q5, q6, q7⟩ := h4 k hk
    rw [hv] at h2
    have hc := fun j hj => h2.cellAt j hj
    exact ⟨kf, caps, by rw [hc _ (by omega)]; exact q1, (q7 w fun _ _ _ => rfl).mono q5, by rw [hc _ (by omega)]; exact q2, by rw [hc _ (by omega)]; exact q3⟩

theorem info_move : ((Tryd.prog.info? 130).map fun i => (i.zero, i.size, i.bytes)) = some (some (.agg #[.nilFunc, .bool false, .int .i64 0]), 3, 24) := by kernel_rfl
theorem info_row : ((Tryd.prog.info? 126).map fun i => (i.zero, i.size, i.bytes)) = some (some (.slice none 0 0), 1, 24) := by kernel_rfl

end Go.Proofs.YtklenjmfalljgaaDoor

/- The walk of New. -/
namespace Go.Proofs.YtklenjmfalljgaaDoor
open Go.RowKit
attribute [local go_sem] Go.World.cell?_alloc_some

/-- In the midst of New: the threads ahead of t are done, and k instructions of t. -/
def Inner (w0 : World) (L Bt g m n t k : Nat) (p : List (List Ins)) (w : World) : Prop :=
  ∃ rows v xs, w.heap[g]? = some (.cells rows 126 (0, 0)) ∧ rows.size = n ∧ rows[t]? = some v ∧ w.ownsRow Bt 130 3 v k xs ∧ MovesIn L w.heap.size w v.ownBlock xs t ((codeOf p t).take k) ∧
    Fin L Bt w rows t p ∧ (∀ j, t < j → j < n → rows[j]? = some (.slice none 0 0)) ∧ w.cell? ⟨m, 0, none⟩ = some (.slice (some ⟨g, 0, none⟩) n n) ∧ w0.grownBy w none ∧ L ≤ Bt ∧ Bt ≤ w.heap.size ∧ g < L ∧ m < L ∧ g ≠ m ∧ w0.heap.size ≤ g

theorem inner_step {w0 : World} {L Bt g m n t k : Nat} {p : List (List Ins)} {wr w4 w5 : World} {rows : Array Value} {v : Value} {xs : List Value} {kf : Nat} {caps : Array Value} {i : Ins} {E : Obj} {g2 cap2 : Nat}
    (j1 : wr.heap[g]? = some (.cells rows 126 (0, 0))) (j2 : rows.size = n) (j4 : wr.ownsRow Bt 130 3 v k xs) (j5 : MovesIn L wr.heap.size wr v.ownBlock xs t ((codeOf p t).take k))
    (j6 : Fin L Bt wr rows t p) (j7 : ∀ j, t < j → j < n → rows[j]? = some (.slice none 0 0)) (j9 : w0.grownBy wr none) (j10 : L ≤ Bt) (j11 : Bt ≤ wr.heap.size) (j12 : g < L) (j13 : m < L) (j14 : g ≠ m) (j15 : w0.heap.size ≤ g)
    (ht : t < n) (hk : k < (codeOf p t).length) (hi : (codeOf p t)[k] = i)
    (hact : ∀ u : World, (∀ q, wr.heap.size + 1 ≤ q → q < w4.heap.size → u.heap[q]? = w4.heap[q]?) → ActIs w4.heap.size u (.func (.func kf) #[] caps) t i) (hg4 : wr.grownBy w4 none) (hsz4 : wr.heap.size + 1 ≤ w4.heap.size)
    (hown5 : w5.ownsRow Bt 130 3 (.slice (some ⟨g2, 0, none⟩) (k + 1) cap2) (k + 1) (xs ++ moveV kf caps i)) (hgr : (w4.alloc E).grownBy w5 v.ownBlock) (hat : v.ownBlock = some g2 ∨ g2 = w4.heap.size + 1)
    (s1 : w5.cell? ⟨m, 0, none⟩ = some (.slice (some ⟨g, 0, none⟩) n n)) :
    Inner w0 L Bt g m n t (k + 1) p (w5.setCell ⟨g, t, none⟩ (.slice (some ⟨g2, 0, none⟩) (k + 1) cap2)) := by
  have hob : ∀ q, v.ownBlock = some q → Bt ≤ q ∧ q < wr.heap.size := fun q e => ⟨owns_block j4 q e, by
    rcases j4.2 with ⟨e1, _⟩ | ⟨g', _, _, hv, _, hh, _⟩
    · rw [e1] at e; cases e
    · rw [hv] at e
      have := (Array.getElem?_eq_some_iff.1 hh).1
      simp [Value.ownBlock] at e
      omega⟩
  have hgE : wr.grownBy (w4.alloc E) none := grown_alloc hg4
  have hz5 := hgr.size
  simp only [World.size_alloc] at hz5
  have hgl : g < wr.heap.size := by omega
  have hb5 : w5.heap[g]? = some (.cells rows 126 (0, 0)) := by
    rw [hgr.block g (by simp; omega) (fun e => by have := hob g e.symm; omega), hgE.block g hgl (by simp)]; exact j1
  have hset : w5.grownBy (w5.setCell ⟨g, t, none⟩ (.slice (some ⟨g2, 0, none⟩) (k + 1) cap2)) (some g) := grown_set
  have hin : ∀ q, wr.heap.size + 1 ≤ q → q < w4.heap.size → (w5.setCell ⟨g, t, none⟩ (.slice (some ⟨g2, 0, none⟩) (k + 1) cap2)).heap[q]? = w4.heap[q]? := fun q h1 h2 => by
    rw [Below.heap_setCell _ _ _ _ (by simp; omega), hgr.block q (by simp; omega) (fun e => by have := hob q e.symm; omega), Below.heap_alloc _ _ _ h2]
  have hm1 : MovesIn L wr.heap.size w5 v.ownBlock xs t ((codeOf p t).take k) := (j5.step (Nat.le_refl _) hgE (fun q e => by cases e)).step (by simp; omega) hgr (fun q e => Or.inl e)
  have hm2 := (hm1.reown (g := g2) (hat.imp id (fun e => by omega))).step (by omega) hset (fun q e => by cases e; exact Or.inr (Or.inl j12))
  refine ⟨rows.setIfInBounds t (.slice (some ⟨g2, 0, none⟩) (k + 1) cap2), .slice (some ⟨g2, 0, none⟩) (k + 1) cap2, xs ++ moveV kf caps i, heap_setCell_same w5 g t rows _ _ hb5, by simp [j2], by simp [j2, ht], ownsRow_setCell_below hown5 (by simp; omega) _, ?_, ?_, ?_, ?_, ?_, j10, by simp; omega, j12, j13, j14, j15⟩
  · rw [List.take_succ_eq_append_getElem hk, hi]
    refine MovesIn.snoc (a := wr.heap.size + 1) (b := w4.heap.size) (hm2.mono (by simp; omega)) (by rw [j4.1]; simp; omega) (by omega) (by simp; omega) (fun h e => ?_) (fun u hu => hact u fun q h1 h2 => by rw [hu q h1 h2, hin q h1 h2])
    have e' : h = g2 := by simp [Value.ownBlock] at e; omega
    subst e'
    rcases hat with e2 | e2
    · have := hob _ e2; omega
    · omega
  · exact (((j6.step j11 hgE (fun q e => by cases e)).step (by simp; omega) hgr (fun q e => Or.inr (hob q e).1)).step (by omega) hset (fun q e => by cases e; exact Or.inl j12)).rows (Nat.le_refl _)
  · intro j h1 h2
    rw [Array.getElem?_setIfInBounds_ne (by omega)]; exact j7 j h1 h2
  · rw [World.cell?_setCell_far _ _ _ _ (by simpa using j14)]; exact s1
  · exact grown_setNew (grown_row (grown_trans j9 hgE) hgr (fun q e => by have := hob q e; omega)) j15

set_option maxHeartbeats 4000000 in
set_option maxRecDepth 100000 in
theorem new_m {p : List (List Ins)} {pv : Value} {w : World} (hp : vProg p = true) (hP : ProgAt w pv p) :
    Calls Tryd.prog 39 #[pv] w fun e w' => ∃ m, e = .returned (.pointer (some ⟨m, 0, none⟩)) ∧ MachAt w'.heap.size w' m p ∧ w.grownBy w' none := by
  obtain ⟨i0, hi0, hz0, hz1, hz2⟩ := info_parts info_row
  obtain ⟨i1, hi1, hy0, hy1, hy2⟩ := info_parts info_move
  obtain ⟨ao, cap, rfl, hP⟩ := hP
  have hlen := vProg_len hp
  have HP := hide hP
  have HV := hide hp
  clear hp hP
  have h4 : (p.length : Int) ≤ 4 := by omega
  go_enter Tryd.func39, Tryd.ntmps39
  go_wp2_with (at_make; refine wpList_make_full _ rfl _ _ _ rfl (w.heap.size + 1) 126 i0 _ 1 Tryd.underlying123 hi0 hz0 hz1 .i64 .i64 _ _ p.length rfl rfl rfl rfl (by rw [hz2]; omega) (by unfold maxLen; omega) (by simp) ?_; intro w2 hown2 hg2; have hc2 : w2.cell? ⟨w.heap.size, 0, none⟩ = some (.slice ao p.length cap) := (by rw [hg2.cell_far _ (by simp) (by simp)]; simp))
  have HG2 : Hid (w.grownBy w2 none) := grown_trans (grown_alloc (grown_refl _ _)) hg2
  have hsz2 : w.heap.size + 2 ≤ w2.heap.size := by
    obtain ⟨cur, hcur, _⟩ := owns_cells hown2
    have := (Array.getElem?_eq_some_iff.1 hcur).1
    simp at this; omega
  have HR : Hid (∃ rows : Array Value, w2.heap[w.heap.size + 1]? = some (.cells rows 126 (0, 0)) ∧ rows.size = p.length ∧ ∀ j, j < p.length → rows[j]? = some (.slice none 0 0)) := by
    rcases hown2.2 with ⟨e, _⟩ | ⟨g, c, cur, hv, _, hh, _, _, hs, ht⟩
    · cases e
    · simp at hv
      obtain ⟨e1, e2⟩ := hv
      subst e1; subst e2
      refine ⟨cur, hh, by omega, fun j hj => ?_⟩
      have e : cur.toList = (madeCells #[Value.slice none 0 0] p.length).toList := by
        rw [List.take_of_length_le (by simp; omega)] at ht
        simpa [Value.cells] using ht
      rw [← Array.getElem?_toList, e, toList_madeCells_one]
      simp [hj]
  clear hown2 hg2 hc2
  go_loopw [17] (fun i w' => ∃ t : Nat, t ≤ p.length ∧ i = .int .i64 t ∧ Hid (∃ rows, w'.heap[w.heap.size + 1]? = some (.cells rows 126 (0, 0)) ∧ rows.size = p.length ∧ Fin (w2.heap.size + 1) w'.heap.size w' rows t p ∧ (∀ j, t ≤ j → j < p.length → rows[j]? = some (.slice none 0 0)) ∧
      w'.cell? ⟨w2.heap.size, 0, none⟩ = some (.slice (some ⟨w.heap.size + 1, 0, none⟩) p.length p.length) ∧ w.grownBy w' none ∧ w2.heap.size + 1 ≤ w'.heap.size)) (fun i _ => p.length - (intOf i).toNat)
  case atStart =>
    obtain ⟨rows, h1, h2, h3⟩ := HR.out
    refine ⟨0, Nat.zero_le _, rfl, rows, ?_, h2, fun j hj => by omega, fun j _ hj => h3 j hj, ?_, grown_alloc HG2.out, by simp⟩
    · rw [Below.heap_alloc _ _ _ (by omega)]; exact h1
    · simp
  case round =>
    obtain ⟨t, ht, rfl, HI⟩ := hrel
    obtain ⟨w3, hw3⟩ : ∃ w3, w3 = wr := ⟨_, rfl⟩
    subst hw3
    by_cases hlt : t < p.length
    · obtain ⟨pg, po, rfl, rv, hrv, hcode⟩ := HP.out t hlt
      obtain ⟨ca, ccap, rfl, hcode⟩ := hcode
      have hcl : p[t].length ≤ 16 := by have := vCode_len (vProg_code HV.out hlt); rwa [codeOf_get hlt] at this
      have hcl2 : (p[t].length : Int) ≤ 16 := by omega
      have HC := hide hcode
      clear hcode
      have hrv' : w3.cell? ⟨pg, po + t, none⟩ = some (.slice ca p[t].length ccap) := by
        obtain ⟨rows, _, _, _, _, _, hg, _⟩ := HI.out
        exact pres_grown hg _ _ hrv
      have ht0 : (0 : Int) ≤ (t : Int) := by omega
      have ht1 : (t : Int) < p.length := by omega
      have HT : Hid (codeOf p t = p[t]) := codeOf_get hlt
      generalize hcd : p[t] = c at *
      clear hcd
      go_wp2_with fail
      go_loopw [24] (fun i w' => ∃ k : Nat, k ≤ c.length ∧ i = .int .i64 k ∧ Hid (Inner w (w2.heap.size + 1) w3.heap.size (w.heap.size + 1) w2.heap.size p.length t k p w')) (fun i _ => c.length - (intOf i).toNat)
      case atStart =>
        obtain ⟨rows, h1, h2, h3, h4, h5, h6, h7⟩ := HI.out
        exact ⟨0, Nat.zero_le _, rfl, rows, _, [], h1, h2, h4 t (Nat.le_refl _) hlt, ⟨rfl, Or.inl ⟨rfl, rfl⟩⟩, fun k hk => by simp at hk, h3, fun j hj hj2 => h4 j (by omega) hj2, h5, h6, h7, Nat.le_refl _, by omega, by omega, by omega, by omega⟩
      case round =>
        obtain ⟨k, hk, rfl, HIn⟩ := hrel
        by_cases hkl : k < c.length
        · obtain ⟨cg, co, rfl, c0, c1, c2, c3⟩ := HC.out k hkl
          have hpr : Pres w wr := by
            obtain ⟨rows, v, xs, _, _, _, _, _, _, _, _, hg, _⟩ := HIn.out
            exact pres_grown hg
          have d0 := hpr _ _ c0
          have d1 := hpr _ _ c1
          have d2 := hpr _ _ c2
          have d3 := hpr _ _ c3
          clear c0 c1 c2 c3 hpr
          have hk0 : (0 : Int) ≤ (k : Int) := by omega
          have hk1 : (k : Int) < c.length := by omega
          obtain ⟨rows, v, xs, j1, j2, j3, j4, j5, j6, j7, j8, j9, j10, j11, j12, j13, j14, j15⟩ := HIn.out
          have hgt : wr.cell? ⟨w.heap.size + 1, t, none⟩ = some v := by simp [World.cell?, j1, j3]
          have hgf : wr.frozen? ⟨w.heap.size + 1, t, none⟩ = false := by simp [World.frozen?, j1]
          have J4 := hide j4
          have J5 := hide j5
          have J1 := hide j1
          have J2 := hide j2
          have J6 := hide j6
          have J7 := hide j7
          have J9 := hide j9
          clear j1 j2 j3 j4 j5 j6 j7 j9
          go_wp2_with fail
          refine wp_region_head (fun u => u.cell? ⟨w2.heap.size, 0, none⟩ = some (.slice (some ⟨w.heap.size + 1, 0, none⟩) p.length p.length) ∧ u.cell? ⟨w.heap.size + 1, t, none⟩ = some v ∧ u.cell? ⟨wr.heap.size, 0, none⟩ = some (.int .i64 c[k].op) ∧ u.cell? ⟨wr.heap.size, 1, none⟩ = some (.int .i64 c[k].a) ∧ u.cell? ⟨wr.heap.size, 2, none⟩ = some (.int .i64 c[k].b) ∧ u.cell? ⟨wr.heap.size, 3, none⟩ = some (.int .i64 c[k].n)) 18 (by kernel_rfl) (by kernel_rfl) ?_ ?_
          · refine ⟨?_, ?_, ?_, ?_, ?_, ?_⟩ <;> simp [go_sem, j8, hgt]
          intro hHeld
          refine wpHead_take (i := 0) (v := ?vv0) rfl (by kernel_rfl) (fun _ _ _ h => h) (Or.inl ⟨by rfl, ?hy0⟩) (by assumption) ?rest0
          case hy0 => (intro u hu; obtain ⟨g1, g2, g3, g4, g5, g6⟩ := hu; go_simp; try with_reducible rfl)
          simp only [Act.put, List.setIfInBounds_toArray]
          refine wpHead_take (i := 1) (v := ?vv1) rfl (by kernel_rfl) (fun _ _ _ h => h) (Or.inl ⟨by rfl, ?hy1⟩) (by assumption) ?rest1
          case hy1 => (intro u hu; obtain ⟨g1, g2, g3, g4, g5, g6⟩ := hu; go_simp; try with_reducible rfl)
          simp only [Act.put]
          refine wpHead_take (i := 2) (v := ?vv2) rfl (by kernel_rfl) (fun _ _ _ h => h) (Or.inl ⟨by rfl, ?hy2⟩) (by assumption) ?rest2
          case hy2 => (intro u hu; obtain ⟨g1, g2, g3, g4, g5, g6⟩ := hu; go_simp; try with_reducible rfl)
          simp only [Act.put]
          refine wpHead_take (i := 3) (v := ?vv3) rfl (by kernel_rfl) (fun _ _ _ h => h) (Or.inl ⟨by rfl, ?hy3⟩) (by assumption) ?rest3
          case hy3 => (intro u hu; obtain ⟨g1, g2, g3, g4, g5, g6⟩ := hu; go_simp; try with_reducible rfl)
          simp only [Act.put]
          refine wpHead_take (i := 4) (v := ?vv4) rfl (by kernel_rfl) (fun _ _ _ h => h) (Or.inl ⟨by rfl, ?hy4⟩) (by assumption) ?rest4
          case hy4 => (intro u hu; obtain ⟨g1, g2, g3, g4, g5, g6⟩ := hu; go_simp; try with_reducible rfl)
          simp only [Act.put]
          refine wpHead_take (i := 5) (v := ?vv5) rfl (by kernel_rfl) (fun _ _ _ h => h) (Or.inl ⟨by rfl, ?hy5⟩) (by assumption) ?rest5
          case hy5 => (intro u hu; obtain ⟨g1, g2, g3, g4, g5, g6⟩ := hu; go_simp; try with_reducible rfl)
          simp only [Act.put]
          refine wpHead_take (i := 6) (v := ?vv6) rfl (by kernel_rfl) (fun _ _ _ h => h) (Or.inl ⟨by rfl, ?hy6⟩) (by assumption) ?rest6
          case hy6 => (intro u hu; obtain ⟨g1, g2, g3, g4, g5, g6⟩ := hu; go_simp; try with_reducible rfl)
          simp only [Act.put]
          refine wpHead_take (i := 7) (v := ?vv7) rfl (by kernel_rfl) (fun _ _ _ h => h) (Or.inl ⟨by rfl, ?hy7⟩) (by assumption) ?rest7
          case hy7 => (intro u hu; obtain ⟨g1, g2, g3, g4, g5, g6⟩ := hu; go_simp; try with_reducible rfl)
          simp only [Act.put]
          refine wpHead_take (i := 8) (v := ?vv8) rfl (by kernel_rfl) (fun _ _ _ h => h) (Or.inl ⟨by rfl, ?hy8⟩) (by assumption) ?rest8
          case hy8 => (intro u hu; obtain ⟨g1, g2, g3, g4, g5, g6⟩ := hu; go_simp; try with_reducible rfl)
          simp only [Act.put]
          refine wpHead_take (i := 9) (v := ?vv9) rfl (by kernel_rfl) (fun _ _ _ h => h) (Or.inl ⟨by rfl, ?hy9⟩) (by assumption) ?rest9
          case hy9 => (intro u hu; obtain ⟨g1, g2, g3, g4, g5, g6⟩ := hu; go_simp; try with_reducible rfl)
          simp only [Act.put]
          refine wpHead_take (i := 10) (v := ?vv10) rfl (by kernel_rfl) (fun _ _ _ h => h) (Or.inl ⟨by rfl, ?hy10⟩) (by assumption) ?rest10
          case hy10 => (intro u hu; obtain ⟨g1, g2, g3, g4, g5, g6⟩ := hu; go_simp; try with_reducible rfl)
          simp only [Act.put]
          refine wpHead_take (i := 11) (v := ?vv11) rfl (by kernel_rfl) (fun _ _ _ h => h) (Or.inl ⟨by rfl, ?hy11⟩) (by assumption) ?rest11
          case hy11 => (intro u hu; obtain ⟨g1, g2, g3, g4, g5, g6⟩ := hu; go_simp; try with_reducible rfl)
          simp only [Act.put]
          refine wpHead_take (i := 12) (v := ?vv12) rfl (by kernel_rfl) (fun _ _ _ h => h) (Or.inl ⟨by rfl, ?hy12⟩) (by assumption) ?rest12
          case hy12 => (intro u hu; obtain ⟨g1, g2, g3, g4, g5, g6⟩ := hu; go_simp; try with_reducible rfl)
          simp only [Act.put]
          refine wpHead_take (i := 13) (v := ?vv13) rfl (by kernel_rfl) (fun _ _ _ h => h) (Or.inl ⟨by rfl, ?hy13⟩) (by assumption) ?rest13
          case hy13 => (intro u hu; obtain ⟨g1, g2, g3, g4, g5, g6⟩ := hu; go_simp; try with_reducible rfl)
          simp only [Act.put]
          have hv1 := vIns_op (vCode_ins (by have := vProg_code HV.out hlt; rw [HT.out] at this; exact this) hkl)
          refine wpHead_alone (i := 14) rfl (by kernel_rfl) (by kernel_rfl) (by rfl) ?_
          intro K14 hK14
          have HK14 := hide hK14
          clear hK14
          go_simp
          refine (makeMove_m t c[k] hv1.1 hv1.2 _).mono ?_
          rintro e w4 ⟨kf, caps, rfl, hact, hg4⟩
          simp only []
          have HACT := hide hact
          have HG4 := hide hg4
          have hsz4 : wr.heap.size + 1 ≤ w4.heap.size := by have := hg4.size; simpa using this
          have hS4 : w4.cell? ⟨w2.heap.size, 0, none⟩ = some (.slice (some ⟨w.heap.size + 1, 0, none⟩) p.length p.length) ∧ w4.cell? ⟨w.heap.size + 1, t, none⟩ = some v ∧ w4.cell? ⟨wr.heap.size, 0, none⟩ = some (.int .i64 c[k].op) ∧ w4.cell? ⟨wr.heap.size, 1, none⟩ = some (.int .i64 c[k].a) ∧ w4.cell? ⟨wr.heap.size, 2, none⟩ = some (.int .i64 c[k].b) ∧ w4.cell? ⟨wr.heap.size, 3, none⟩ = some (.int .i64 c[k].n) := by
            obtain ⟨q1, q2, q3, q4, q5, q6⟩ := hHeld
            have hpr := pres_grown hg4
            exact ⟨hpr _ _ q1, hpr _ _ q2, hpr _ _ q3, hpr _ _ q4, hpr _ _ q5, hpr _ _ q6⟩
          clear hact hg4 hHeld
          refine HK14.out _ _ hS4 ?_
          clear HK14
          refine wpHead_alone (i := 15) rfl (by kernel_rfl) (by kernel_rfl) (by rfl) ?_
          intro K15 hK15
          have HK15 := hide hK15
          clear hK15
          go_simp
          have hS5 : (w4.alloc (.cells #[.func (.func kf) #[] caps, .bool (c[k].op == 9), .int .i64 (if c[k].op = 9 then c[k].a else 0)] 130)).cell? ⟨w2.heap.size, 0, none⟩ = some (.slice (some ⟨w.heap.size + 1, 0, none⟩) p.length p.length) ∧ (w4.alloc (.cells #[.func (.func kf) #[] caps, .bool (c[k].op == 9), .int .i64 (if c[k].op = 9 then c[k].a else 0)] 130)).cell? ⟨w.heap.size + 1, t, none⟩ = some v ∧ (w4.alloc (.cells #[.func (.func kf) #[] caps, .bool (c[k].op == 9), .int .i64 (if c[k].op = 9 then c[k].a else 0)] 130)).cell? ⟨wr.heap.size, 0, none⟩ = some (.int .i64 c[k].op) ∧ (w4.alloc (.cells #[.func (.func kf) #[] caps, .bool (c[k].op == 9), .int .i64 (if c[k].op = 9 then c[k].a else 0)] 130)).cell? ⟨wr.heap.size, 1, none⟩ = some (.int .i64 c[k].a) ∧ (w4.alloc (.cells #[.func (.func kf) #[] caps, .bool (c[k].op == 9), .int .i64 (if c[k].op = 9 then c[k].a else 0)] 130)).cell? ⟨wr.heap.size, 2, none⟩ = some (.int .i64 c[k].b) ∧ (w4.alloc (.cells #[.func (.func kf) #[] caps, .bool (c[k].op == 9), .int .i64 (if c[k].op = 9 then c[k].a else 0)] 130)).cell? ⟨wr.heap.size, 3, none⟩ = some (.int .i64 c[k].n) := by
            obtain ⟨q1, q2, q3, q4, q5, q6⟩ := hS4
            have hpr := pres_grown (grown_alloc (o := .cells #[.func (.func kf) #[] caps, .bool (c[k].op == 9), .int .i64 (if c[k].op = 9 then c[k].a else 0)] 130) (grown_refl w4 none))
            exact ⟨hpr _ _ q1, hpr _ _ q2, hpr _ _ q3, hpr _ _ q4, hpr _ _ q5, hpr _ _ q6⟩
          refine HK15.out _ _ hS5 ?_
          clear HK15
          have HGw : Hid (wr.grownBy (w4.alloc (.cells #[.func (.func kf) #[] caps, .bool (c[k].op == 9), .int .i64 (if c[k].op = 9 then c[k].a else 0)] 130)) none) := grown_alloc (grown_trans (grown_drew (grown_alloc (grown_refl _ _))) HG4.out)
          have h63 : k + 1 ≤ maxLen := by unfold maxLen; omega
          have hby : (k + 1) * 24 ≤ 140737488355328 := by omega
          refine wpHead_alone (i := 16) rfl (by kernel_rfl) (by kernel_rfl) (by rfl) ?_
          intro K16 hK16
          have HK16 := hide hK16
          clear hK16
          refine wp_append_lies _ (.tmp 39) (.tmp 43) 126 (by rfl) w3.heap.size 130 i1 _ 3 24 Tryd.underlying126 hi1 hy0 hy1 hy2 rfl (by omega) v k xs (by rfl) (owns_grown J4.out HGw.out (fun _ e => by cases e)) ⟨w4.heap.size, 0, none⟩ 1 1 (moveV kf caps c[k]) (by rfl) (by rfl) (World.news_of_block (cs := #[.func (.func kf) #[] caps, .bool (c[k].op == 9), .int .i64 (if c[k].op = 9 then c[k].a else 0)]) (t := 130) (fr := (0, 0)) (heap_alloc_new w4 _)) (by simp [moveV, Value.oneCell']) (by omega) h63 hby (by simp; omega) (w4.heap.size + 1) (by simp) ?_
          intro g2 cap2 w5 hown5 hgrow hat hlt5
          have hob : ∀ q, v.ownBlock = some q → w3.heap.size ≤ q ∧ q < wr.heap.size := fun q e => ⟨owns_block J4.out q e, by
            rcases J4.out.2 with ⟨e1, _⟩ | ⟨g', _, _, hv, _, hh, _⟩
            · rw [e1] at e; cases e
            · rw [hv] at e
              have := (Array.getElem?_eq_some_iff.1 hh).1
              simp [Value.ownBlock] at e
              omega⟩
          have hfar : ∀ q o x, (q < w3.heap.size ∨ wr.heap.size ≤ q) → (w4.alloc (.cells #[.func (.func kf) #[] caps, .bool (c[k].op == 9), .int .i64 (if c[k].op = 9 then c[k].a else 0)] 130)).cell? ⟨q, o, none⟩ = some x → w5.cell? ⟨q, o, none⟩ = some x := fun q o x hq hx => by
            rw [hgrow.cell_far _ (World.block_lt_of_cell? _ _ hx) (fun e => by have := hob q e.symm; omega)]; exact hx
          have hS6 : w5.cell? ⟨w2.heap.size, 0, none⟩ = some (.slice (some ⟨w.heap.size + 1, 0, none⟩) p.length p.length) ∧ w5.cell? ⟨w.heap.size + 1, t, none⟩ = some v ∧ w5.cell? ⟨wr.heap.size, 0, none⟩ = some (.int .i64 c[k].op) ∧ w5.cell? ⟨wr.heap.size, 1, none⟩ = some (.int .i64 c[k].a) ∧ w5.cell? ⟨wr.heap.size, 2, none⟩ = some (.int .i64 c[k].b) ∧ w5.cell? ⟨wr.heap.size, 3, none⟩ = some (.int .i64 c[k].n) := by
            obtain ⟨q1, q2, q3, q4, q5, q6⟩ := hS5
            exact ⟨hfar _ _ _ (by omega) q1, hfar _ _ _ (by omega) q2, hfar _ _ _ (by omega) q3, hfar _ _ _ (by omega) q4, hfar _ _ _ (by omega) q5, hfar _ _ _ (by omega) q6⟩
          have HOW5 := hide hown5
          have HGR := hide hgrow
          have HAT := hide hat
          clear hown5 hgrow hat hS4 hS5 hfar
          refine HK16.out _ _ hS6 ?_
          clear HK16
          simp only [Act.put, List.setIfInBounds_toArray]
          refine wpHead_take (i := 17) (v := ?vv17) rfl (by kernel_rfl) (fun _ _ _ h => h) (Or.inl ⟨by rfl, ?hy17⟩) (by assumption) ?rest17
          case hy17 => (intro u hu; obtain ⟨g1, g2, g3, g4, g5, g6⟩ := hu; go_simp; try with_reducible rfl)
          simp only [Act.put]
          refine wpHead_last rfl (by kernel_rfl) (by kernel_rfl) (by rfl) ?_
          obtain ⟨s1, s2, _⟩ := hS6
          have s2f : w5.frozen? ⟨w.heap.size + 1, t, none⟩ = false := by
            rw [HGR.out.frozen_far _ (by simp; omega) (fun e => by have := hob _ e.symm; simp at this; omega), HGw.out.frozen_far _ (by simp; omega) (by simp)]
            exact hgf
          have HNX : Hid (Inner w (w2.heap.size + 1) w3.heap.size (w.heap.size + 1) w2.heap.size p.length t (k + 1) p (w5.setCell ⟨w.heap.size + 1, t, none⟩ (.slice (some ⟨g2, 0, none⟩) (k + 1) cap2))) :=
            inner_step J1.out J2.out J4.out J5.out J6.out J7.out J9.out j10 j11 j12 j13 j14 j15 hlt (by rw [HT.out]; exact hkl) (i := c[k]) (by simp [HT.out]) (fun u hu => HACT.out u (fun q h1 h2 => hu q (by simpa using h1) h2)) (grown_trans (grown_drew (grown_alloc (grown_refl _ _))) HG4.out) hsz4 HOW5.out HGR.out HAT.out s1
          clear J1 J2 J4 J5 J6 J7 J9 HACT HG4 HOW5 HGR HAT HGw
          go_simp
          go_wp2
          go_roundw
          case rel => exact ⟨k + 1, by omega, by go_num, HNX⟩
          case measure => simp [intOf]; omega
        · have ek : k = c.length := by omega
          have HNX : Hid (∃ rows, wr.heap[w.heap.size + 1]? = some (.cells rows 126 (0, 0)) ∧ rows.size = p.length ∧ Fin (w2.heap.size + 1) wr.heap.size wr rows (t + 1) p ∧ (∀ j, t + 1 ≤ j → j < p.length → rows[j]? = some (.slice none 0 0)) ∧
              wr.cell? ⟨w2.heap.size, 0, none⟩ = some (.slice (some ⟨w.heap.size + 1, 0, none⟩) p.length p.length) ∧ w.grownBy wr none ∧ w2.heap.size + 1 ≤ wr.heap.size) := by
            obtain ⟨rows, v, xs, j1, j2, j3, j4, j5, j6, j7, j8, j9, j10, j11, j12, j13, j14, j15⟩ := HIn.out
            have hlc : (codeOf p t).length = k := by rw [HT.out]; omega
            rw [List.take_of_length_le (by omega)] at j5
            have hbl : ∀ h, v.ownBlock = some h → h < wr.heap.size := fun q e => by
              rcases j4.2 with ⟨e1, _⟩ | ⟨g', _, _, hv, _, hh, _⟩
              · rw [e1] at e; cases e
              · rw [hv] at e
                have := (Array.getElem?_eq_some_iff.1 hh).1
                simp [Value.ownBlock] at e
                omega
            refine ⟨rows, j1, j2, (j6.mono j11).succ j3 (by rw [hlc]; exact owns_mono j4 (by omega)) hbl j5, fun j h1 h2 => j7 j (by omega) h2, j8, j9, by omega⟩
          clear ek
          go_wp2
          go_roundw
          case rel => exact ⟨t + 1, by omega, by go_num, HNX⟩
          case measure => simp [intOf]; omega
    · have et : t = p.length := by omega
      have HNX : Hid (MachAt w3.heap.size w3 w2.heap.size p ∧ w.grownBy w3 none) := by
        obtain ⟨rows, j1, j2, j3, j4, j5, j6, j7⟩ := HI.out
        refine ⟨⟨w.heap.size + 1, p.length, by omega, by omega, j5, fun j hj => ?_⟩, j6⟩
        obtain ⟨v, e1, e2⟩ := j3.rowIs (j := j) (by omega)
        exact ⟨v, by simp [World.cell?, j1, e1], e2⟩
      clear et
      go_wp2
      go_ret
      exact ⟨w2.heap.size, rfl, HNX.out.1, HNX.out.2⟩

end Go.Proofs.YtklenjmfalljgaaDoor

/- The walks of Valid, Check, checkRun and Replay. -/
namespace Go.Proofs.YtklenjmfalljgaaDoor
open Go.RowKit
attribute [local go_sem] Go.World.cell?_alloc_some

set_option maxHeartbeats 1000000 in
set_option maxRecDepth 100000 in
theorem valid_m (p : List (List Ins)) (pv : Value) (w : World) (hS : ShpAt w) (hP : ProgAt w pv p) :
    Calls Tryd.prog 74 #[pv] w fun e w' => e = .returned (.bool (vProg p)) ∧ w.grownBy w' none := by
  obtain ⟨ao, cap, rfl, hP⟩ := hP
  have HSh := hide hS
  have HP := hide hP
  clear hS hP
  by_cases h1 : 1 ≤ p.length
  · by_cases h4 : p.length ≤ 4
    · have g1 : (1 : Int) ≤ p.length := by omega
      have g4 : (p.length : Int) ≤ 4 := by omega
      have HV : Hid (vProg p = p.all vCode) := by unfold Hid; simp [vProg, h1, h4]
      go_enter Tryd.func74, Tryd.ntmps74
      go_wp2
      go_loopw [18] (fun i w' => ∃ k : Nat, k ≤ p.length ∧ i = .int .i64 k ∧ Hid (w.grownBy w' none) ∧ Hid ((p.take k).all vCode = true)) (fun i _ => p.length - (intOf i).toNat)
      case atStart => exact ⟨0, Nat.zero_le _, rfl, grown_alloc (grown_refl _ _), rfl⟩
      case round =>
        obtain ⟨k, hk, rfl, HG, HA⟩ := hrel
        by_cases hlt : k < p.length
        · obtain ⟨g, o, rfl, rv, c0, c1⟩ := HP.out k hlt
          have hpr := pres_grown HG.out
          have d0 := hpr _ _ c0
          have D1 := hide (c1.pres hpr)
          have HAs := hide (all_take_succ p vCode k hlt)
          have HSh' : Hid (ShpAt wr) := HSh.out.pres hpr
          clear c0 c1 hpr
          have hk0 : (0 : Int) ≤ (k : Int) := by omega
          have hk1 : (k : Int) < p.length := by omega
          generalize p[k] = c at *
          go_wp2_with fail
          refine (validThread_m c rv _ HSh'.out D1.out).mono ?_
          rintro e w1 ⟨rfl, hg1⟩
          have HG1 : Hid (w.grownBy w1 none) := grown_trans HG.out hg1
          clear hg1
          cases hv : vCode c
          · have HE : Hid (vProg p = false) := by
              unfold Hid
              rw [HV.out]
              have : (p.take (k + 1)).all vCode = false := by rw [HAs.out, hv]; simp
              rw [← List.take_append_drop (k + 1) p, List.all_append, this]; rfl
            go_wp2_with fail
            go_ret
            exact ⟨by rw [HE.out]; rfl, HG1⟩
          · have HA1 : Hid ((p.take (k + 1)).all vCode = true) := by unfold Hid; rw [HAs.out, hv, HA.out]; rfl
            clear HAs hv
            go_wp2
            go_roundw
            case rel => exact ⟨k + 1, by omega, by go_num, HG1, HA1⟩
            case measure => simp [intOf]; omega
        · have HE : Hid (vProg p = true) := by
            unfold Hid
            rw [HV.out]
            have := HA.out
            rw [List.take_of_length_le (by omega)] at this
            exact this
          go_wp2
          go_ret
          exact ⟨by rw [HE.out]; rfl, HG⟩
    · have HV : Hid (vProg p = false) := by unfold Hid; simp [vProg, h4]
      have g4 : (4 : Int) < p.length := by omega
      go_enter Tryd.func74, Tryd.ntmps74
      go_wp2
      go_ret
      exact ⟨by rw [HV.out]; rfl, grown_alloc (grown_refl _ _)⟩
  · have HV : Hid (vProg p = false) := by unfold Hid; simp [vProg, h1]
    have g1 : (p.length : Int) < 1 := by omega
    go_enter Tryd.func74, Tryd.ntmps74
    go_wp2
    go_ret
    exact ⟨by rw [HV.out]; rfl, grown_alloc (grown_refl _ _)⟩

theorem ProgAt.form {w : World} {pv : Value} {p : List (List Ins)} (h : ProgAt w pv p) : ∃ ao cap, pv = .agg #[.slice ao p.length cap] := by
  obtain ⟨ao, cap, e, _⟩ := h; exact ⟨ao, cap, e⟩

def checkN (p : List (List Ins)) : Int := if vProg p = true then 0 else 1
def checkRunN (p : List (List Ins)) (s : List Int) : Int := if vProg p = true then (if s.length ≤ 500 then 0 else 2) else 1

set_option maxHeartbeats 1000000 in
theorem check_m (p : List (List Ins)) (pv : Value) (w : World) (hS : ShpAt w) (hP : ProgAt w pv p) :
    Calls Tryd.prog 71 #[pv] w fun e w' => e = .returned (.int .i64 (checkN p)) ∧ w.grownBy w' none := by
  have HSh := hide hS
  have HP := hide hP
  obtain ⟨ao, cap, rfl⟩ := hP.form
  clear hS hP
  go_enter Tryd.func71, Tryd.ntmps71
  go_wp2_with fail
  refine (valid_m p _ _ (HSh.out.pres (pres_grown (grown_alloc (grown_refl _ _)))) (HP.out.pres (pres_grown (grown_alloc (grown_refl _ _))))).mono ?_
  rintro e w1 ⟨rfl, hg1⟩
  have HG1 : Hid (w.grownBy w1 none) := grown_trans (grown_alloc (grown_refl _ _)) hg1
  clear hg1
  cases hv : vProg p
  · have HE : Hid (checkN p = 1) := by unfold Hid checkN; simp [hv]
    go_wp2_with fail
    go_ret
    exact ⟨by rw [HE.out]; rfl, HG1⟩
  · have HE : Hid (checkN p = 0) := by unfold Hid checkN; simp [hv]
    go_wp2_with fail
    go_ret
    exact ⟨by rw [HE.out]; rfl, HG1⟩

/-- Lists of numbers in a row, by their lengths. -/
def ListsAt (w : World) (v : Value) (ss : List (List Int)) : Prop :=
  ∃ g o cap, v = .slice (some ⟨g, o, none⟩) ss.length cap ∧ ∀ k (hk : k < ss.length), ∃ so sc, w.cell? ⟨g, o + k, none⟩ = some (.slice so ss[k].length sc)
theorem lists_one {W : World} {so : Option Addr} {s : List Int} {sc : Nat} {t : TypeId} {g : Nat} (hg : W.heap.size = g) : ListsAt (W.alloc (.cells #[.slice so s.length sc] t)) (.slice (some ⟨g, 0, none⟩) 1 1) [s] := by
  subst hg
  refine ⟨W.heap.size, 0, 1, rfl, fun k hk => ⟨so, sc, ?_⟩⟩
  have hk0 : k = 0 := by simp at hk; omega
  subst hk0
  have h := heap_alloc_new W (.cells #[.slice so s.length sc] t)
  simp only [World.cell?, h]
  rfl
def checkRunsN (p : List (List Ins)) (ss : List (List Int)) : Int := if vProg p = true then (if ss.all (fun s => decide (s.length ≤ 500)) = true then 0 else 2) else 1
theorem checkRuns_one (p : List (List Ins)) (s : List Int) : checkRunsN p [s] = checkRunN p s := by simp [checkRunsN, checkRunN]

set_option maxHeartbeats 1000000 in
theorem checkRun_m (p : List (List Ins)) (ss : List (List Int)) (pv sv : Value) (w : World) (hS : ShpAt w) (hP : ProgAt w pv p) (hL : ListsAt w sv ss) (hn : ss.length ≤ 1000) :
    Calls Tryd.prog 38 #[pv, sv] w fun e w' => e = .returned (.int .i64 (checkRunsN p ss)) ∧ w.grownBy w' none := by
  have HSh := hide hS
  have HP := hide hP
  obtain ⟨ao, cap, rfl⟩ := hP.form
  obtain ⟨g, o, scap, rfl, hc⟩ := hL
  have HC := hide hc
  clear hS hP hc
  go_enter Tryd.func38, Tryd.ntmps38
  go_wp2_with fail
  refine (check_m p _ _ (HSh.out.pres (pres_grown (grown_alloc (grown_refl _ _)))) (HP.out.pres (pres_grown (grown_alloc (grown_refl _ _))))).mono ?_
  rintro e w1 ⟨rfl, hg1⟩
  have HG1 : Hid (w.grownBy w1 none) := grown_trans (grown_alloc (grown_refl _ _)) hg1
  clear hg1
  cases hv : vProg p
  · have HE : Hid (checkRunsN p ss = 1) := by unfold Hid checkRunsN; simp [hv]
    have e1 : checkN p = 1 := by unfold checkN; simp [hv]
    rw [e1]
    clear e1
    go_wp2_with fail
    go_ret
    exact ⟨by rw [HE.out]; rfl, HG1⟩
  · have e1 : checkN p = 0 := by unfold checkN; simp [hv]
    rw [e1]
    have HV : Hid (checkRunsN p ss = if ss.all (fun s => decide (s.length ≤ 500)) = true then 0 else 2) := by unfold Hid checkRunsN; rw [if_pos hv]
    clear e1 hv
    have hn' : (ss.length : Int) ≤ 1000 := by omega
    go_wp2_with fail
    go_loopw [15] (fun i w' => ∃ k : Nat, k ≤ ss.length ∧ i = .int .i64 k ∧ Hid (w.grownBy w' none) ∧ Hid ((ss.take k).all (fun s => decide (s.length ≤ 500)) = true)) (fun i _ => ss.length - (intOf i).toNat)
    case atStart => exact ⟨0, Nat.zero_le _, rfl, HG1, rfl⟩
    case round =>
      clear HG1
      obtain ⟨k, hk, rfl, HG, HA⟩ := hrel
      obtain ⟨w5, hw5⟩ : ∃ w5, w5 = wr := ⟨_, rfl⟩
      rw [← hw5] at HG ⊢
      clear hw5
      by_cases hlt : k < ss.length
      · obtain ⟨so, sc, c0⟩ := HC.out k hlt
        have d0 := pres_grown HG.out _ _ c0
        have HAs := hide (all_take_succ ss (fun s => decide (s.length ≤ 500)) k hlt)
        have HEx : Hid (ss[k].length ≤ 500 ∨ (ss.all (fun s => decide (s.length ≤ 500)) = false)) := by
          unfold Hid
          by_cases h5 : ss[k].length ≤ 500
          · exact Or.inl h5
          · right
            cases ha : ss.all (fun s => decide (s.length ≤ 500)) with
            | false => rfl
            | true =>
              rw [List.all_eq_true] at ha
              have := ha _ (List.getElem_mem hlt)
              simp at this; omega
        clear c0
        have hk0 : (0 : Int) ≤ (k : Int) := by omega
        have hk1 : (k : Int) < ss.length := by omega
        generalize ss[k] = s at *
        by_cases h5 : s.length ≤ 500
        · have h6 : (s.length : Int) ≤ 500 := by omega
          have HA1 : Hid ((ss.take (k + 1)).all (fun s => decide (s.length ≤ 500)) = true) := by unfold Hid; rw [HAs.out, HA.out]; simp [h5]
          clear HAs HEx
          go_wp2_with fail
          go_roundw
          case rel => exact ⟨k + 1, by omega, by go_num, HG, HA1⟩
          case measure => simp [intOf]; omega
        · have h6 : (500 : Int) < s.length := by omega
          have HE : Hid (checkRunsN p ss = 2) := by
            unfold Hid; rw [HV.out, if_neg]
            rw [HEx.out.resolve_left h5]; simp
          clear HAs HEx
          go_wp2_with fail
          go_ret
          exact ⟨by rw [HE.out]; rfl, HG⟩
      · have HE : Hid (checkRunsN p ss = 0) := by
          unfold Hid; rw [HV.out, if_pos]
          have := HA.out
          rwa [List.take_of_length_le (by omega)] at this
        go_wp2_with fail
        go_ret
        exact ⟨by rw [HE.out]; rfl, HG⟩

theorem IntsAt.mono {B B' : Nat} {w : World} {v : Value} {l : List Int} (h : IntsAt B w v l) (hb : B ≤ B') : IntsAt B' w v l := by
  obtain ⟨ao, cap, e, h1, h2⟩ := h
  refine ⟨ao, cap, e, h1, fun k hk => ?_⟩
  obtain ⟨g, o, e1, e2, e3⟩ := h2 k hk
  exact ⟨g, o, e1, by omega, e3⟩
theorem IntsAt.pres {B : Nat} {w w' : World} {v : Value} {l : List Int} (h : IntsAt B w v l) (hp : Pres w w') : IntsAt B w' v l := by
  obtain ⟨ao, cap, e, h1, h2⟩ := h
  refine ⟨ao, cap, e, h1, fun k hk => ?_⟩
  obtain ⟨g, o, e1, e2, e3⟩ := h2 k hk
  exact ⟨g, o, e1, e2, hp _ _ e3⟩
theorem IntsAt.form {B : Nat} {w : World} {v : Value} {l : List Int} (h : IntsAt B w v l) : ∃ ao cap, v = .slice ao l.length cap := by
  obtain ⟨ao, cap, e, _⟩ := h; exact ⟨ao, cap, e⟩

/-- What Replay answers. -/
def Replayed (p : List (List Ins)) (s : List Int) (w : World) (e : Ending) (w' : World) : Prop :=
  w.grownBy w' none ∧
  ((checkRunN p s = 0 ∧ ∃ rv, e = .returned (.tuple #[rv, .int .i64 0]) ∧ ResAt w.heap.size w' (runS p s) p.length rv) ∨
   (checkRunN p s ≠ 0 ∧ e = .returned (.tuple #[.agg #[.int .i64 0, .int .i64 0, .int .i64 0, .slice none 0 0, .int .i64 0, .int .i64 0, .int .i64 0, .int .i64 0, .slice none 0 0], .int .i64 (checkRunN p s)])))

end Go.Proofs.YtklenjmfalljgaaDoor

/- The walks of pick and awake. -/
namespace Go.Proofs.YtklenjmfalljgaaDoor
open Go.RowKit
attribute [local go_sem] Go.World.cell?_alloc_some

end Go.Proofs.YtklenjmfalljgaaDoor

/- On runs: a run of a list and one number more; schedules that are made so. -/
namespace Go.Proofs.YtklenjmfalljgaaDoor

theorem endingS_range (p : List (List Ins)) (s : St) : 3 ≤ endingS p s ∧ endingS p s ≤ 5 := by
  unfold endingS
  split
  · omega
  · split <;> omega

/-- A schedule that was made number by number: all its numbers were done; so long as it was open it grew. -/
def Sched (p : List (List Ins)) (a : List Int) : Prop := (runS p a).kind ≠ 2 ∧ (runS p a).steps.length = a.length

end Go.Proofs.YtklenjmfalljgaaDoor

/- The walk of schedule. -/
namespace Go.Proofs.YtklenjmfalljgaaDoor
open Go.RowKit
attribute [local go_sem] Go.World.cell?_alloc_some

def ints (a : List Int) : List Value := a.map fun x => .int .i64 x
theorem ints_len (a : List Int) : (ints a).length = a.length := by simp [ints]
theorem ints_one (a : List Int) : ∀ v ∈ ints a, v.oneCell' = true := by
  intro v hv
  simp only [ints, List.mem_map] at hv
  obtain ⟨x, _, rfl⟩ := hv; rfl
theorem owns_ints {w : World} {base : Nat} {v : Value} {a : List Int} (h : w.ownsRow base 3 1 v a.length (ints a)) : IntsAt w.heap.size w v a := by
  rcases h.2 with ⟨e, e0⟩ | ⟨g, cap, cur, hv, hb, hh, hc, _⟩
  · refine ⟨none, 0, by rw [e, e0], by omega, fun k hk => by omega⟩
  · refine ⟨some ⟨g, 0, none⟩, cap, hv, hc, fun k hk => ⟨g, 0, rfl, (Array.getElem?_eq_some_iff.1 hh).1, ?_⟩⟩
    rw [hv] at h
    rw [Nat.zero_add, h.cellAt k (by omega)]
    simp [ints, hk]

def resCells (o : Out) (s1 g1 : Value) : Array Value := #[.int .i64 o.kind, .int .i64 o.thread, .int .i64 o.at_, s1, .int .i64 (o.st.vars 0), .int .i64 (o.st.vars 1), .int .i64 (o.st.vars 2), .int .i64 (o.st.vars 3), g1]
def zeroRes : Array Value := #[.int .i64 0, .int .i64 0, .int .i64 0, .slice none 0 0, .int .i64 0, .int .i64 0, .int .i64 0, .int .i64 0, .slice none 0 0]

/-- In the midst of schedule: s is a, r its run. -/
structure SchAt (w : World) (p : List (List Ins)) (pb : Value) (rb : Nat) (a : List Int) (sv : Value) (w' : World) : Prop where
  grown : w.grownBy w' none
  row : w'.ownsRow w.heap.size 3 1 sv a.length (ints a)
  nil : a = [] → sv = .slice none 0 0
  apart : sv.ownBlock ≠ some rb
  res : ∃ s1 g1, w'.heap[rb]? = some (.cells (resCells (runS p a) s1 g1) 37 (0, 0)) ∧ w'.ownsRow w.heap.size 48 2 s1 (runS p a).steps.length (flatS (runS p a).steps) ∧ w'.ownsRow w.heap.size 34 4 g1 p.length (regsF p.length (runS p a).st) ∧ s1.ownBlock ≠ some rb ∧ g1.ownBlock ≠ some rb
  box : w'.heap[w.heap.size]? = some (.cells #[pb] 25 (0, 0))
  out : w'.heap[w.heap.size + 1]? = some (.cells zeroRes 37 (0, 0))
  lo : w.heap.size + 2 ≤ rb
  hi : rb < w'.heap.size
  good : Sched p a

theorem SchAt.step {w : World} {p : List (List Ins)} {pb : Value} {rb : Nat} {a : List Int} {sv : Value} {w' w'' : World} (h : SchAt w p pb rb a sv w') (hg : w'.grownBy w'' none) : SchAt w p pb rb a sv w'' := by
  obtain ⟨s1, g1, h1, h2, h3, h4, h5⟩ := h.res
  exact ⟨grown_trans h.grown hg, owns_grown h.row hg (fun _ e => by cases e), h.nil, h.apart, ⟨s1, g1, by rw [hg.block _ h.hi (by simp)]; exact h1, owns_grown h2 hg (fun _ e => by cases e), owns_grown h3 hg (fun _ e => by cases e), h4, h5⟩,
    by rw [hg.block _ (by have := h.lo; have := h.hi; omega) (by simp)]; exact h.box, by rw [hg.block _ (by have := h.lo; have := h.hi; omega) (by simp)]; exact h.out, h.lo, Nat.lt_of_lt_of_le h.hi hg.size, h.good⟩

theorem owns_setCell_ne {w : World} {base : Nat} {e : TypeId} {size : Nat} {v : Value} {n : Nat} {xs : List Value} {g o : Nat} {u : Value} (h : w.ownsRow base e size v n xs) (hne : v.ownBlock ≠ some g) : (w.setCell ⟨g, o, none⟩ u).ownsRow base e size v n xs := by
  obtain ⟨h1, h2⟩ := h
  refine ⟨h1, ?_⟩
  rcases h2 with h2 | ⟨b, cap, cur, hv, hb, hh, rest⟩
  · exact Or.inl h2
  · refine Or.inr ⟨b, cap, cur, hv, hb, ?_, rest⟩
    rw [Below.heap_setCell _ _ _ _ (fun e => hne (by rw [hv]; simp [Value.ownBlock, e]))]; exact hh

theorem set9 {w : World} {g : Nat} {x0 x1 x2 x3 x4 x5 x6 x7 x8 y0 y1 y2 y3 y4 y5 y6 y7 y8 : Value} {t : TypeId} (h : w.heap[g]? = some (.cells #[x0, x1, x2, x3, x4, x5, x6, x7, x8] t (0, 0))) :
    (((((((((w.setCell ⟨g, 0, none⟩ y0).setCell ⟨g, 1, none⟩ y1).setCell ⟨g, 2, none⟩ y2).setCell ⟨g, 3, none⟩ y3).setCell ⟨g, 4, none⟩ y4).setCell ⟨g, 5, none⟩ y5).setCell ⟨g, 6, none⟩ y6).setCell ⟨g, 7, none⟩ y7).setCell ⟨g, 8, none⟩ y8).heap[g]? = some (.cells #[y0, y1, y2, y3, y4, y5, y6, y7, y8] t (0, 0)) := by
  have h0 := heap_setCell_same w g 0 _ t y0 h
  have h1 := heap_setCell_same _ g 1 _ t y1 h0
  have h2 := heap_setCell_same _ g 2 _ t y2 h1
  have h3 := heap_setCell_same _ g 3 _ t y3 h2
  have h4 := heap_setCell_same _ g 4 _ t y4 h3
  have h5 := heap_setCell_same _ g 5 _ t y5 h4
  have h6 := heap_setCell_same _ g 6 _ t y6 h5
  have h7 := heap_setCell_same _ g 7 _ t y7 h6
  have h8 := heap_setCell_same _ g 8 _ t y8 h7
  simpa using h8

/-- r = x, s = t. -/
theorem SchAt.set {w : World} {p : List (List Ins)} {pb : Value} {rb : Nat} {a b : List Int} {sv tv : Value} {w' : World} (h : SchAt w p pb rb a sv w') (hb : b ≠ []) (ht : w'.ownsRow w.heap.size 3 1 tv b.length (ints b)) (hta : tv.ownBlock ≠ some rb) {s1 g1 : Value}
    (hs : w'.ownsRow w.heap.size 48 2 s1 (runS p b).steps.length (flatS (runS p b).steps)) (hg : w'.ownsRow w.heap.size 34 4 g1 p.length (regsF p.length (runS p b).st)) (hsa : s1.ownBlock ≠ some rb) (hga : g1.ownBlock ≠ some rb) (hok : Sched p b) :
    SchAt w p pb rb b tv (((((((((w'.setCell ⟨rb, 0, none⟩ (.int .i64 (runS p b).kind)).setCell ⟨rb, 1, none⟩ (.int .i64 (runS p b).thread)).setCell ⟨rb, 2, none⟩ (.int .i64 (runS p b).at_)).setCell ⟨rb, 3, none⟩ s1).setCell ⟨rb, 4, none⟩ (.int .i64 ((runS p b).st.vars 0))).setCell ⟨rb, 5, none⟩ (.int .i64 ((runS p b).st.vars 1))).setCell ⟨rb, 6, none⟩ (.int .i64 ((runS p b).st.vars 2))).setCell ⟨rb, 7, none⟩ (.int .i64 ((runS p b).st.vars 3))).setCell ⟨rb, 8, none⟩ g1) := by
  obtain ⟨s0, g0, h1, _⟩ := h.res
  have hlo := h.lo
  have hhi := h.hi
  have hother : ∀ k, k ≠ rb → (((((((((w'.setCell ⟨rb, 0, none⟩ (.int .i64 (runS p b).kind)).setCell ⟨rb, 1, none⟩ (.int .i64 (runS p b).thread)).setCell ⟨rb, 2, none⟩ (.int .i64 (runS p b).at_)).setCell ⟨rb, 3, none⟩ s1).setCell ⟨rb, 4, none⟩ (.int .i64 ((runS p b).st.vars 0))).setCell ⟨rb, 5, none⟩ (.int .i64 ((runS p b).st.vars 1))).setCell ⟨rb, 6, none⟩ (.int .i64 ((runS p b).st.vars 2))).setCell ⟨rb, 7, none⟩ (.int .i64 ((runS p b).st.vars 3))).setCell ⟨rb, 8, none⟩ g1).heap[k]? = w'.heap[k]? := fun k hk => by
    iterate 9 rw [Below.heap_setCell _ _ _ _ (by simpa using hk)]
  refine ⟨?_, ?_, fun e => absurd e hb, hta, ⟨s1, g1, set9 h1, ?_, ?_, hsa, hga⟩, ?_, ?_, hlo, by simp; omega, hok⟩
  · iterate 9 refine grown_setNew ?_ (by omega)
    exact h.grown
  · iterate 9 refine owns_setCell_ne ?_ hta
    exact ht
  · iterate 9 refine owns_setCell_ne ?_ hsa
    exact hs
  · iterate 9 refine owns_setCell_ne ?_ hga
    exact hg
  · rw [hother _ (by omega)]; exact h.box
  · rw [hother _ (by omega)]; exact h.out


section
variable {P : Program} {w : World} {ops : Array Oper} {rest : List Oper} {o : Oper} {a : Act} {Q : Exit → Act → World → Prop}
end

end Go.Proofs.YtklenjmfalljgaaDoor

/- The walk of schedule. -/
namespace Go.Proofs.YtklenjmfalljgaaDoor
open Go.RowKit
attribute [local go_sem] Go.World.cell?_alloc_some

theorem info_int : ((Tryd.prog.info? 3).map fun i => (i.zero, i.size, i.bytes)) = some (some (.int .i64 0), 1, 8) := by kernel_rfl

theorem owns_lenq {w : World} {base e size : Nat} {ao : Option Addr} {n c m : Nat} {xs : List Value} (h : w.ownsRow base e size (.slice ao n c) m xs) : n = m := by
  rcases h.2 with ⟨e, e0⟩ | ⟨g, cap, cur, hv, _⟩
  · simp at e; omega
  · simp at hv; omega

end Go.Proofs.YtklenjmfalljgaaDoor

/- Small laws on worlds that are alike, and on rows. -/
namespace Go.Proofs.YtklenjmfalljgaaDoor
open Go.RowKit

theorem like_refl (w : World) : Like w w := ⟨rfl, rfl, rfl, rfl⟩
theorem like_dn {w' w : World} (h : Like w' w) (n : Nat) : Like (w'.drewN n) w := by
  have := like_drewN w' n
  exact ⟨this.1.trans h.1, this.2.1.trans h.2.1, this.2.2.1.trans h.2.2.1, this.2.2.2.trans h.2.2.2⟩
theorem owns_setCell {w : World} {base : Nat} {e : TypeId} {size g n cap : Nat} {xs : List Value} (h : w.ownsRow base e size (.slice (some ⟨g, 0, none⟩) n cap) n xs) (j : Nat) (u : Value) :
    (w.setCell ⟨g, j, none⟩ u).ownsRow base e size (.slice (some ⟨g, 0, none⟩) n cap) n (xs.set j u) := by
  obtain ⟨h1, h2⟩ := h
  refine ⟨by simpa using h1, ?_⟩
  rcases h2 with ⟨e1, _⟩ | ⟨g', cap', cur, hv, hb, hh, h3, h4, h5, h6⟩
  · cases e1
  · simp only [Value.slice.injEq, Option.some.injEq, Addr.mk.injEq, true_and, and_true] at hv
    obtain ⟨rfl, rfl⟩ := hv
    exact Or.inr ⟨g, cap, cur.setIfInBounds j u, rfl, hb, heap_setCell_same w g j cur e u hh, h3, h4, by simpa using h5, by rw [← h6, Array.toList_setIfInBounds, List.take_set]⟩
theorem grown_below' {w w' : World} (h : Below w.heap.size w w') : w.grownBy w' none := ⟨h.os, h.tape, h.output, h.size, fun k hk _ => h.block k hk⟩

end Go.Proofs.YtklenjmfalljgaaDoor

/- The walks of the owner's hands: same, mark, schedule. -/
namespace Go.Proofs.YtklenjmfalljgaaDoor
open Go.RowKit
attribute [local go_sem] Go.World.cell?_alloc_some

def hc (iv wv : Value) (n : Int) (ov mv : Value) : Array Value := #[iv, wv, .slice none 0 0, .slice none 0 0, .slice none 0 0, .int .i64 n, ov, mv, .slice none 0 0, .slice none 0 0, .slice none 0 0, .slice none 0 0, .slice none 0 0, .slice none 0 0, .slice none 0 0, .slice none 0 0]

def HAt (w : World) (b : Nat) (iv wv : Value) (n : Int) (ov mv : Value) : Prop := w.heap[b]? = some (.cells (hc iv wv n ov mv) 62 (0, 0))
theorem HAt.cell {w : World} {b : Nat} {iv wv : Value} {n : Int} {ov mv : Value} (h : HAt w b iv wv n ov mv) (o : Nat) : w.cell? ⟨b, o, none⟩ = (hc iv wv n ov mv)[o]? := by
  unfold HAt at h; simp [World.cell?, h]
theorem HAt.frozen {w : World} {b : Nat} {iv wv : Value} {n : Int} {ov mv : Value} (h : HAt w b iv wv n ov mv) (o : Nat) : w.frozen? ⟨b, o, none⟩ = false := by
  unfold HAt at h; simp [World.frozen?, h]
theorem HAt.lt {w : World} {b : Nat} {iv wv : Value} {n : Int} {ov mv : Value} (h : HAt w b iv wv n ov mv) : b < w.heap.size := (Array.getElem?_eq_some_iff.1 h).1
theorem HAt.grown {w w' : World} {b : Nat} {iv wv : Value} {n : Int} {ov mv : Value} {r : Option Nat} (h : HAt w b iv wv n ov mv) (hg : w.grownBy w' r) (hr : r ≠ some b) : HAt w' b iv wv n ov mv := by
  have hl := h.lt
  unfold HAt at *; rw [hg.block b hl (fun e => hr e.symm)]; exact h
theorem HAt.setOther {w : World} {b g o : Nat} {u : Value} {iv wv : Value} {n : Int} {ov mv : Value} (h : HAt w b iv wv n ov mv) (hg : b ≠ g) : HAt (w.setCell ⟨g, o, none⟩ u) b iv wv n ov mv := by
  unfold HAt at *; rw [Below.heap_setCell _ _ _ _ (by simpa using hg)]; exact h
theorem HAt.set6 {w : World} {b : Nat} {iv wv : Value} {n : Int} {ov mv : Value} (h : HAt w b iv wv n ov mv) (u : Value) : HAt (w.setCell ⟨b, 6, none⟩ u) b iv wv n u mv := by
  unfold HAt at *; rw [heap_setCell_same w b 6 _ _ _ h]; rfl
theorem HAt.set7 {w : World} {b : Nat} {iv wv : Value} {n : Int} {ov mv : Value} (h : HAt w b iv wv n ov mv) (u : Value) : HAt (w.setCell ⟨b, 7, none⟩ u) b iv wv n ov u := by
  unfold HAt at *; rw [heap_setCell_same w b 7 _ _ _ h]; rfl

set_option maxRecDepth 100000 in
set_option maxHeartbeats 1000000 in
theorem same_m (l m : List Int) (v u : Value) (w : World) (hI : IntsAt w.heap.size w v l) (hJ : IntsAt w.heap.size w u m) (hln : l.length ≤ 9223372036854775806) :
    Calls Tryd.prog 56 #[v, u] w fun e w' => e = .returned (.bool (l == m)) ∧ Like w' w := by
  obtain ⟨ao, cap, rfl, hcap, hc⟩ := hI
  obtain ⟨bo, dap, rfl, hdap, hd⟩ := hJ
  by_cases hlen : l.length = m.length
  · have HC := hide hc
    have HD := hide hd
    clear hc hd
    have hl2 : (l.length : Int) = m.length := by omega
    have hl3 : ((l.length : Int) != (m.length : Int)) = false := by simp; omega
    have HLN := hide hlen
    go_enter Tryd.func56, Tryd.ntmps56
    clear hlen hl2
    go_wp2_with fail
    go_loopw [5] (fun i w' => ∃ k : Nat, k ≤ l.length ∧ i = .int .i64 k ∧ Hid (Like w' w) ∧ Hid (l.take k = m.take k)) (fun i _ => l.length - (intOf i).toNat)
    case atStart => exact ⟨0, Nat.zero_le _, rfl, hide (like_refl _), by simp [Hid]⟩
    case round =>
      obtain ⟨k, hk, rfl, HK, HA⟩ := hrel
      obtain ⟨w5, hw5⟩ : ∃ w5, w5 = wr := ⟨_, rfl⟩
      subst hw5
      by_cases hlt : k < l.length
      · have hlt2 : k < m.length := by have := HLN.out; omega
        obtain ⟨g, o, rfl, _, c0⟩ := HC.out k hlt
        obtain ⟨g2, o2, rfl, _, c1⟩ := HD.out k hlt2
        have cL : ∀ a, w5.cell? a = w.cell? a := fun a => by simp [World.cell?, HK.out.1]
        have d0 : w5.cell? ⟨g, o + k, none⟩ = some (.int .i64 l[k]) := by rw [cL]; exact c0
        have d1 : w5.cell? ⟨g2, o2 + k, none⟩ = some (.int .i64 m[k]) := by rw [cL]; exact c1
        have hk0 : (0 : Int) ≤ (k : Int) := by omega
        have hk1 : (k : Int) < l.length := by omega
        have hk2 : (k : Int) < m.length := by omega
        have HT1 : Hid (l.take (k + 1) = l.take k ++ [l[k]]) := List.take_succ_eq_append_getElem hlt
        have HT2 : Hid (m.take (k + 1) = m.take k ++ [m[k]]) := List.take_succ_eq_append_getElem hlt2
        clear cL c0 c1
        by_cases heq : l[k] = m[k]
        · have hq : (l[k] != m[k]) = false := by simpa using heq
          have HA1 : Hid (l.take (k + 1) = m.take (k + 1)) := by unfold Hid; rw [HT1.out, HT2.out, HA.out, heq]
          clear heq HT1 HT2
          generalize l[k] = x at *
          generalize m[k] = y at *
          go_wp2_with fail
          go_quiet (fail)
          go_wp2_with fail
          go_roundw
          case rel => exact ⟨k + 1, by omega, by go_num, hide (like_dn HK.out _), HA1⟩
          case measure => simp [intOf]; omega
        · have hq : (l[k] != m[k]) = true := by simpa using heq
          have HE : Hid ((l == m) = false) := by
            unfold Hid
            simp only [beq_eq_false_iff_ne]
            intro e
            apply heq
            simp [e]
          clear heq HT1 HT2
          generalize l[k] = x at *
          generalize m[k] = y at *
          go_wp2_with fail
          go_quiet (fail)
          go_wp2_with fail
          go_ret
          exact ⟨by rw [HE.out]; rfl, like_dn HK.out _⟩
      · have HE : Hid ((l == m) = true) := by
          unfold Hid
          have h1 := HA.out
          rw [List.take_of_length_le (by omega), List.take_of_length_le (by have := HLN.out; omega)] at h1
          simpa using h1
        have q2 : (l.length : Int) ≤ (k : Int) := by omega
        go_wp2_with fail
        go_ret
        exact ⟨by rw [HE.out]; rfl, HK.out⟩
  · have HE : Hid ((l == m) = false) := by
      unfold Hid
      simp only [beq_eq_false_iff_ne]
      intro e; exact hlen (by rw [e])
    have hl3 : ((l.length : Int) != (m.length : Int)) = true := by simp; omega
    clear hc hd
    go_enter Tryd.func56, Tryd.ntmps56
    go_wp2_with fail
    go_ret
    exact ⟨by rw [HE.out]; rfl, like_refl _⟩

end Go.Proofs.YtklenjmfalljgaaDoor

/- The walk of the hands' schedule. -/
namespace Go.Proofs.YtklenjmfalljgaaDoor
open Go.RowKit
attribute [local go_sem] Go.World.cell?_alloc_some

/-- copy of a list of numbers onto a row of one's own. -/
theorem run_copy_ints {P : Program} (w : World) (t ty elem : TypeId) (hu : P.underlying t = some (.slice elem)) (hsz : (P.info? elem).map (·.size) = some 1) (g dLen dCap : Nat) (sv : Value) (B : Nat) (l : List Int) (hI : IntsAt B w sv l) (cur : Array Value) (ct : TypeId) (hg : w.heap[g]? = some (.cells cur ct (0, 0))) (hln : l.length ≤ dLen) (hfit : l.length ≤ cur.size) :
    ∃ w', (Builtin.copy_ #[t, t] ty #[.slice (some ⟨g, 0, none⟩) dLen dCap, sv]).run P w = .ok (goInt l.length) w' ∧ w'.heap[g]? = some (.cells (ints l ++ cur.toList.drop l.length).toArray ct (0, 0)) ∧ w.grownBy w' (some g) := by
  obtain ⟨ao, cap, e, hcap, hc⟩ := hI
  subst e
  by_cases h0 : l.length = 0
  · have hl : l = [] := List.length_eq_zero_iff.1 h0
    subst hl
    refine ⟨w, run_copy_none (P := P) w t t ty elem _ _ dLen dCap _ cap hu hsz (by simp), ?_, grown_refl _ _⟩
    rw [hg]; simp [ints]
  · obtain ⟨g', o', e', _, _⟩ := hc 0 (by omega)
    subst e'
    have hcc : ∀ k (hk : k < l.length), w.cell? ⟨g', o' + k, none⟩ = some (.int .i64 l[k]) := by
      intro k hk
      obtain ⟨g2, o2, e2, _, c⟩ := hc k hk
      simp only [Option.some.injEq, Addr.mk.injEq, and_true] at e2
      obtain ⟨rfl, rfl⟩ := e2
      exact c
    have hmin : Nat.min l.length dLen = l.length := Nat.min_eq_left hln
    have hr := run_copy_row (P := P) w t t ty elem g 0 dLen dCap ⟨g', o', none⟩ l.length cap cur ct (ints l) hu hsz hg (by rw [ints_len, hmin]) (fun j v hj => by
      have hjl : j < l.length := by have := (List.getElem?_eq_some_iff.1 hj).1; rwa [ints_len] at this
      have hadd : (⟨g', o', none⟩ : Addr).add j = ⟨g', o' + j, none⟩ := by unfold Addr.add; split <;> simp_all
      rw [hadd, hcc j hjl, ← hj]
      simp [ints, hjl]) (by rw [ints_len]; omega) (ints_one l)
    rw [ints_len] at hr
    simp only [List.take_zero, List.nil_append, Nat.zero_add] at hr
    exact ⟨_, hr, setRow_heap w g cur _ ct (0, 0) hg, ⟨rfl, rfl, rfl, by simp, fun k hk hr => setRow_other w g k _ (fun e => hr (by rw [e]))⟩⟩

def ink : Value := .int .i64 (-77000000)
def lentRow (l : List Int) : Array Value := (ints l ++ [ink, ink]).toArray

theorem info_ints : ((Tryd.prog.info? 22).map fun i => (i.zero, i.size, i.bytes)) = some (some (.slice none 0 0), 1, 24) := by kernel_rfl

theorem row_ink (l : List Int) (cur : Array Value) (hc : cur.size = l.length + 2) : ((ints l ++ cur.toList.drop l.length).toArray.setIfInBounds l.length ink).setIfInBounds (l.length + 1) ink = lentRow l := by
  obtain ⟨c⟩ := cur
  simp at hc
  obtain ⟨x, y, h1⟩ : ∃ x y, c.drop l.length = [x, y] := ⟨c[l.length]'(by omega), c[l.length + 1]'(by omega), by
    rw [List.drop_eq_getElem_cons (by omega), List.drop_eq_getElem_cons (by omega), List.drop_eq_nil_of_le (by omega)]⟩
  have e1 : ∀ (a : List Value) (x y z : Value) (k : Nat), k = a.length → (a ++ [x, y]).set k z = a ++ [z, y] := by
    intro a x y z k hk; subst hk; rw [List.set_append]; simp
  have e2 : ∀ (a : List Value) (x y z : Value) (k : Nat), k = a.length → (a ++ [x, y]).set (k + 1) z = a ++ [x, z] := by
    intro a x y z k hk; subst hk; rw [List.set_append, if_neg (by omega)]; simp
  have el := (ints_len l).symm
  simp only [h1, List.setIfInBounds_toArray, lentRow]
  rw [e1 _ _ _ _ _ el, e2 _ _ _ _ _ el]

end Go.Proofs.YtklenjmfalljgaaDoor

/- The walk of the hands' back. -/
namespace Go.Proofs.YtklenjmfalljgaaDoor
open Go.RowKit
attribute [local go_sem] Go.World.cell?_alloc_some

theorem lentRow_len (l : List Int) : (lentRow l).size = l.length + 2 := by simp [lentRow, ints_len]
theorem lentRow_at (l : List Int) (k : Nat) (hk : k < l.length) : (lentRow l)[k]? = some (.int .i64 l[k]) := by
  simp [lentRow, ints, List.getElem?_append, hk]
theorem lentRow_ink0 (l : List Int) : (lentRow l)[l.length]? = some ink := by
  simp [lentRow, ints_len]
theorem lentRow_ink1 (l : List Int) : (lentRow l)[l.length + 1]? = some ink := by
  simp [lentRow, ints_len]

theorem lent_ints {w : World} {g : Nat} {l : List Int} (h : w.heap[g]? = some (.cells (lentRow l) 3 (0, 0))) : IntsAt w.heap.size w (.slice (some ⟨g, 0, none⟩) l.length (l.length + 2)) l := by
  refine ⟨some ⟨g, 0, none⟩, l.length + 2, rfl, by omega, fun k hk => ⟨g, 0, rfl, (Array.getElem?_eq_some_iff.1 h).1, ?_⟩⟩
  rw [Nat.zero_add]
  simp only [World.cell?, h]
  exact lentRow_at l k hk

def Turned (w : World) (b g : Nat) (w' : World) : Prop := w'.os = w.os ∧ w'.tape = w.tape ∧ w'.output = w.output ∧ w.heap.size ≤ w'.heap.size ∧ ∀ k, k < w.heap.size → k ≠ b → k ≠ g → w'.heap[k]? = w.heap[k]?
theorem Turned.refl (w : World) (b g : Nat) : Turned w b g w := ⟨rfl, rfl, rfl, Nat.le_refl _, fun _ _ _ _ => rfl⟩
theorem Turned.below {w w1 w2 : World} {b g : Nat} (h : Turned w b g w1) (hb : Below w1.heap.size w1 w2) : Turned w b g w2 :=
  ⟨hb.os.trans h.1, hb.tape.trans h.2.1, hb.output.trans h.2.2.1, Nat.le_trans h.2.2.2.1 hb.size, fun k hk h1 h2 => by rw [hb.block k (Nat.lt_of_lt_of_le hk h.2.2.2.1)]; exact h.2.2.2.2 k hk h1 h2⟩
theorem Turned.set {w w1 : World} {b g c o : Nat} {v : Value} (h : Turned w b g w1) (hc : c = b ∨ c = g) : Turned w b g (w1.setCell ⟨c, o, none⟩ v) :=
  ⟨h.1, h.2.1, h.2.2.1, by simpa using h.2.2.2.1, fun k hk h1 h2 => by rw [Below.heap_setCell _ _ _ _ (by rcases hc with rfl | rfl <;> simpa using by assumption)]; exact h.2.2.2.2 k hk h1 h2⟩
theorem Turned.like {w w1 w2 : World} {b g : Nat} (h : Turned w b g w1) (hl : Like w2 w1) : Turned w b g w2 :=
  ⟨hl.2.1.trans h.1, hl.2.2.2.trans h.2.1, hl.2.2.1.trans h.2.2.1, by rw [hl.1]; exact h.2.2.2.1, fun k hk h1 h2 => by rw [hl.1]; exact h.2.2.2.2 k hk h1 h2⟩

end Go.Proofs.YtklenjmfalljgaaDoor
