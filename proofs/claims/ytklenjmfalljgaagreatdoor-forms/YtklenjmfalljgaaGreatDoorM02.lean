/- The texts Val Mk Mk2 New. -/
import Derived.Test.YtklenjmfalljgaaGreatDoorM01

/- The walks of fits and validIns. -/
namespace Go.Proofs.YtklenjmfalljgaaGreatDoor
open Go.RowKit
attribute [local go_sem] Go.World.cell?_alloc_some

set_option maxHeartbeats 1000000 in
theorem fits_m (k x len : Int) (h0 : 0 ≤ len) (h16 : len ≤ 16) (w : World) : Calls Tryz.prog 163 #[.int .i64 k, .int .i64 x, .int .i64 len] w fun e w' => e = .returned (.bool (fitsB k x len)) ∧ w' = w := by
  by_cases e1 : k = 1
  · subst e1
    go_enter Tryz.func163, Tryz.ntmps163
    go_wp2_with (go_at_call 85; refine (below_m _ _ _).mono ?_; rintro e w' ⟨rfl, rfl⟩)
    go_ret
    exact ⟨rfl, rfl⟩
  by_cases e2 : k = 2
  · subst e2
    go_enter Tryz.func163, Tryz.ntmps163
    go_wp2_with (go_at_call 85; refine (below_m _ _ _).mono ?_; rintro e w' ⟨rfl, rfl⟩)
    go_ret
    exact ⟨rfl, rfl⟩
  by_cases e3 : k = 3
  · subst e3
    go_enter Tryz.func163, Tryz.ntmps163
    go_wp2_with (go_at_call 85; refine (below_m _ _ _).mono ?_; rintro e w' ⟨rfl, rfl⟩)
    go_ret
    exact ⟨rfl, rfl⟩
  by_cases e4 : k = 4
  · subst e4
    go_enter Tryz.func163, Tryz.ntmps163
    go_wp2_with (go_at_call 85; refine (below_m _ _ _).mono ?_; rintro e w' ⟨rfl, rfl⟩)
    go_ret
    exact ⟨rfl, rfl⟩
  by_cases e5 : k = 5
  · subst e5
    go_enter Tryz.func163, Tryz.ntmps163
    go_wp2_with fail
    go_ret
    exact ⟨rfl, rfl⟩
  have HB : Hid (fitsB k x len = (x == 0)) := by unfold Hid; simp [fitsB, e1, e2, e3, e4, e5]
  have f1 : (k == 1) = false := by simpa using e1
  have f2 : (k == 2) = false := by simpa using e2
  have f3 : (k == 3) = false := by simpa using e3
  have f4 : (k == 4) = false := by simpa using e4
  have f5 : (k == 5) = false := by simpa using e5
  go_enter Tryz.func163, Tryz.ntmps163
  go_wp2_with fail
  go_ret
  exact ⟨by rw [HB.out]; rfl, rfl⟩

/-- The table of shapes, as it lies in memory. -/
def ShpAt (w : World) : Prop := ∀ o j, o < 12 → j < 3 → w.cell? ⟨0, o * 3 + j, none⟩ = some (.int .i64 (shp o j))

set_option maxHeartbeats 1000000 in
set_option maxRecDepth 100000 in
theorem validIns_m (i : Ins) (len : Int) (h0 : 0 ≤ len) (h16 : len ≤ 16) (w : World) (hS : ShpAt w) :
    Calls Tryz.prog 128 #[.agg #[.int .i64 i.op, .int .i64 i.a, .int .i64 i.b, .int .i64 i.n], .int .i64 len] w fun e w' => e = .returned (.bool (vIns i len)) ∧ w.grownBy w' none := by
  have HSh : Hid (ShpAt w) := hS
  clear hS
  by_cases h1 : 1 ≤ i.op
  · by_cases h2 : i.op ≤ 11
    · have eo : ((i.op.toNat : Nat) : Int) = i.op := by omega
      have c0 := HSh.out i.op.toNat 0 (by omega) (by omega)
      have c1 := HSh.out i.op.toNat 1 (by omega) (by omega)
      have c2 := HSh.out i.op.toNat 2 (by omega) (by omega)
      simp only [Nat.add_zero] at c0
      have HV : Hid (vIns i len = (fitsB (shp i.op.toNat 0) i.a len && (fitsB (shp i.op.toNat 1) i.b len && fitsB (shp i.op.toNat 2) i.n len))) := by unfold Hid; simp [vIns, h1, h2]
      generalize shp i.op.toNat 0 = k0 at *
      generalize shp i.op.toNat 1 = k1 at *
      generalize shp i.op.toNat 2 = k2 at *
      go_enter Tryz.func128, Tryz.ntmps128
      go_wp2_with fail
      refine (fits_m _ _ _ h0 h16 _).mono ?_
      rintro e w' ⟨rfl, rfl⟩
      cases hf0 : fitsB k0 i.a len
      · go_wp2_with fail
        go_ret
        exact ⟨by rw [HV.out, hf0]; rfl, grown_alloc (grown_alloc (grown_refl _ _))⟩
      · go_wp2_with fail
        refine (fits_m _ _ _ h0 h16 _).mono ?_
        rintro e w' ⟨rfl, rfl⟩
        cases hf1 : fitsB k1 i.b len
        · go_wp2_with fail
          go_ret
          exact ⟨by rw [HV.out, hf0, hf1]; rfl, grown_alloc (grown_alloc (grown_refl _ _))⟩
        · go_wp2_with fail
          refine (fits_m _ _ _ h0 h16 _).mono ?_
          rintro e w' ⟨rfl, rfl⟩
          go_wp2_with fail
          go_ret
          exact ⟨by rw [HV.out, hf0, hf1]; simp, grown_alloc (grown_alloc (grown_refl _ _))⟩
    · have HV : Hid (vIns i len = false) := by unfold Hid; simp [vIns, h2]
      have h3 : 11 < i.op := by omega
      go_enter Tryz.func128, Tryz.ntmps128
      go_wp2_with fail
      go_ret
      exact ⟨by rw [HV.out]; rfl, grown_alloc (grown_refl _ _)⟩
  · have HV : Hid (vIns i len = false) := by unfold Hid; simp [vIns, h1]
    have h3 : i.op < 1 := by omega
    go_enter Tryz.func128, Tryz.ntmps128
    go_wp2_with fail
    go_ret
    exact ⟨by rw [HV.out]; rfl, grown_alloc (grown_refl _ _)⟩

/-- A thread's code in memory. -/
def CodeAt (w : World) (v : Value) (c : List Ins) : Prop :=
  ∃ ao cap, v = .slice ao c.length cap ∧ ∀ k (hk : k < c.length), ∃ g o, ao = some ⟨g, o, none⟩ ∧ w.cell? ⟨g, o + k * 4, none⟩ = some (.int .i64 c[k].op) ∧
    w.cell? ⟨g, o + k * 4 + 1, none⟩ = some (.int .i64 c[k].a) ∧ w.cell? ⟨g, o + k * 4 + 2, none⟩ = some (.int .i64 c[k].b) ∧ w.cell? ⟨g, o + k * 4 + 3, none⟩ = some (.int .i64 c[k].n)

/-- A program in memory. -/
def ProgAt (w : World) (v : Value) (p : List (List Ins)) : Prop :=
  ∃ ao cap, v = .agg #[.slice ao p.length cap] ∧ ∀ t (ht : t < p.length), ∃ g o, ao = some ⟨g, o, none⟩ ∧ ∃ rv, w.cell? ⟨g, o + t, none⟩ = some rv ∧ CodeAt w rv p[t]

/-- Cells that are there are as they were. -/
def Pres (w w' : World) : Prop := ∀ a v, w.cell? a = some v → w'.cell? a = some v
theorem Pres.refl (w : World) : Pres w w := fun _ _ h => h
theorem Pres.trans {a b c : World} (h : Pres a b) (h' : Pres b c) : Pres a c := fun x v hx => h' x v (h x v hx)
theorem pres_grown {w w' : World} (h : w.grownBy w' none) : Pres w w' := fun a v ha => by
  rw [h.cell_far a (World.block_lt_of_cell? w a ha) (by simp)]; exact ha
theorem CodeAt.pres {w w' : World} {v : Value} {c : List Ins} (h : CodeAt w v c) (hp : Pres w w') : CodeAt w' v c := by
  obtain ⟨ao, cap, e, h⟩ := h
  refine ⟨ao, cap, e, fun k hk => ?_⟩
  obtain ⟨g, o, e1, e2, e3, e4, e5⟩ := h k hk
  exact ⟨g, o, e1, hp _ _ e2, hp _ _ e3, hp _ _ e4, hp _ _ e5⟩
theorem ProgAt.pres {w w' : World} {v : Value} {p : List (List Ins)} (h : ProgAt w v p) (hp : Pres w w') : ProgAt w' v p := by
  obtain ⟨ao, cap, e, h⟩ := h
  refine ⟨ao, cap, e, fun k hk => ?_⟩
  obtain ⟨g, o, e1, rv, e2, e3⟩ := h k hk
  exact ⟨g, o, e1, rv, hp _ _ e2, e3.pres hp⟩
theorem ShpAt.pres {w w' : World} (h : ShpAt w) (hp : Pres w w') : ShpAt w' := fun o j h1 h2 => hp _ _ (h o j h1 h2)

theorem all_take_succ {α : Type} (l : List α) (f : α → Bool) (k : Nat) (h : k < l.length) : (l.take (k + 1)).all f = ((l.take k).all f && f l[k]) := by
  rw [List.take_succ_eq_append_getElem h, List.all_append]; simp

set_option maxHeartbeats 1000000 in
set_option maxRecDepth 100000 in
theorem validThread_m (c : List Ins) (v : Value) (w : World) (hS : ShpAt w) (hc : CodeAt w v c) :
    Calls Tryz.prog 89 #[v] w fun e w' => e = .returned (.bool (vCode c)) ∧ w.grownBy w' none := by
  obtain ⟨ao, cap, rfl, hc⟩ := hc
  have HSh : Hid (ShpAt w) := hS
  have HC := hide hc
  clear hS hc
  by_cases h16 : c.length ≤ 16
  · have h2 : (c.length : Int) ≤ 16 := by omega
    have HV : Hid (vCode c = c.all fun i => vIns i c.length) := by unfold Hid; simp [vCode, h16]
    go_enter Tryz.func89, Tryz.ntmps89
    go_wp2
    go_loopw [10] (fun i w' => ∃ k : Nat, k ≤ c.length ∧ i = .int .i64 k ∧ Hid (w.grownBy w' none) ∧ Hid ((c.take k).all (fun i => vIns i c.length) = true)) (fun i _ => c.length - (intOf i).toNat)
    case atStart => exact ⟨0, Nat.zero_le _, rfl, grown_refl _ _, rfl⟩
    case round =>
      obtain ⟨k, hk, rfl, HG, HA⟩ := hrel
      by_cases hlt : k < c.length
      · obtain ⟨g, o, rfl, c0, c1, c2, c3⟩ := HC.out k hlt
        have hpr := pres_grown HG.out
        have d0 := hpr _ _ c0
        have d1 := hpr _ _ c1
        have d2 := hpr _ _ c2
        have d3 := hpr _ _ c3
        have HAs := hide (all_take_succ c (fun i => vIns i c.length) k hlt)
        clear c0 c1 c2 c3 hpr
        have hk0 : (0 : Int) ≤ (k : Int) := by omega
        have hk1 : (k : Int) < c.length := by omega
        have HSh' : Hid (ShpAt wr) := HSh.out.pres (pres_grown HG.out)
        generalize c[k] = i at *
        go_wp2_with fail
        refine (validIns_m i c.length (by omega) (by omega) _ (HSh'.out.pres (pres_grown (grown_alloc (grown_refl _ _))))).mono ?_
        rintro e w1 ⟨rfl, hg1⟩
        have HG1 : Hid (w.grownBy w1 none) := grown_trans (grown_alloc HG.out) hg1
        clear hg1
        cases hv : vIns i c.length
        · have HE : Hid (vCode c = false) := by
            unfold Hid
            rw [HV.out]
            have : (c.take (k + 1)).all (fun i => vIns i c.length) = false := by rw [HAs.out, hv]; simp
            rw [← List.take_append_drop (k + 1) c, List.all_append, List.take_append_drop, this]; rfl
          go_wp2_with fail
          go_ret
          exact ⟨by rw [HE.out]; rfl, HG1⟩
        · have HA1 : Hid ((c.take (k + 1)).all (fun i => vIns i c.length) = true) := by unfold Hid; rw [HAs.out, hv, HA.out]; rfl
          clear HAs hv
          go_wp2
          go_roundw
          case rel => exact ⟨k + 1, by omega, by go_num, HG1, HA1⟩
          case measure => simp [intOf]; omega
      · have HE : Hid (vCode c = true) := by
          unfold Hid
          rw [HV.out]
          have := HA.out
          rw [List.take_of_length_le (by omega)] at this
          exact this
        go_wp2
        go_ret
        exact ⟨by rw [HE.out]; rfl, HG⟩
  · have HV : Hid (vCode c = false) := by unfold Hid; simp [vCode, h16]
    have h2 : (16 : Int) < c.length := by omega
    go_enter Tryz.func89, Tryz.ntmps89
    go_wp2
    go_ret
    exact ⟨by rw [HV.out]; rfl, grown_refl _ _⟩

end Go.Proofs.YtklenjmfalljgaaGreatDoor

/- The walks of the makers of closures and of makeAction. -/
namespace Go.Proofs.YtklenjmfalljgaaGreatDoor
open Go.RowKit
attribute [local go_sem] Go.World.cell?_alloc_some

/-- A closure was made. -/
def Made (w : World) (t : Nat) (i : Ins) (e : Ending) (w' : World) : Prop := ∃ v, e = .returned v ∧ (∀ w'' : World, (∀ k, w.heap.size ≤ k → k < w'.heap.size → w''.heap[k]? = w'.heap[k]?) → ActIs w'.heap.size w'' v t i) ∧ w.grownBy w' none

set_option maxHeartbeats 400000 in
theorem set_mk (t : Nat) (i : Ins) (h : i.op = 1) (w : World) : Calls Tryz.prog 115 #[.int .i64 t, .int .i64 i.a, .int .i64 i.n] w (Made w t i) := by
  have hmf : ∀ (fn : Fn) (first cap : Array Value) (w : World), (Instr.makeFunc fn first cap).run Tryz.prog w = .ok (.func fn first cap) w := fun _ _ _ _ => rfl
  have H : Hid (i.op = 1) := h
  clear h
  go_enter Tryz.func115, Tryz.ntmps115
  go_wp2
  go_ret
  have h := H.out
  refine ⟨_, rfl, fun w2 hw2 => ⟨w.heap.size + 2, w.heap.size, w.heap.size + 1, 0, by (simp <;> omega), by (simp <;> omega), by (simp <;> omega), by simp, Or.inl ⟨h, rfl, ?_, ?_, ?_⟩⟩, grown_alloc (grown_alloc (grown_alloc (grown_refl _ _)))⟩
  all_goals (rw [World.cell?_of_block (hw2 _ (by (simp <;> omega)) (by (simp <;> omega)))]; simp [go_sem])

set_option maxHeartbeats 400000 in
theorem load_mk (t : Nat) (i : Ins) (h : i.op = 2) (w : World) : Calls Tryz.prog 116 #[.int .i64 t, .int .i64 i.a, .int .i64 i.b] w (Made w t i) := by
  have hmf : ∀ (fn : Fn) (first cap : Array Value) (w : World), (Instr.makeFunc fn first cap).run Tryz.prog w = .ok (.func fn first cap) w := fun _ _ _ _ => rfl
  have H : Hid (i.op = 2) := h
  clear h
  go_enter Tryz.func116, Tryz.ntmps116
  go_wp2
  go_ret
  have h := H.out
  refine ⟨_, rfl, fun w2 hw2 => ⟨w.heap.size + 2, w.heap.size, w.heap.size + 1, 0, by (simp <;> omega), by (simp <;> omega), by (simp <;> omega), by simp, Or.inr (Or.inl ⟨h, rfl, ?_, ?_, ?_⟩)⟩, grown_alloc (grown_alloc (grown_alloc (grown_refl _ _)))⟩
  all_goals (rw [World.cell?_of_block (hw2 _ (by (simp <;> omega)) (by (simp <;> omega)))]; simp [go_sem])

set_option maxHeartbeats 400000 in
theorem store_mk (t : Nat) (i : Ins) (h : i.op = 3) (w : World) : Calls Tryz.prog 117 #[.int .i64 t, .int .i64 i.a, .int .i64 i.b] w (Made w t i) := by
  have hmf : ∀ (fn : Fn) (first cap : Array Value) (w : World), (Instr.makeFunc fn first cap).run Tryz.prog w = .ok (.func fn first cap) w := fun _ _ _ _ => rfl
  have H : Hid (i.op = 3) := h
  clear h
  go_enter Tryz.func117, Tryz.ntmps117
  go_wp2
  go_ret
  have h := H.out
  refine ⟨_, rfl, fun w2 hw2 => ⟨w.heap.size, w.heap.size + 2, w.heap.size + 1, 0, by (simp <;> omega), by (simp <;> omega), by (simp <;> omega), by simp, Or.inr (Or.inr (Or.inl ⟨h, rfl, ?_, ?_, ?_⟩))⟩, grown_alloc (grown_alloc (grown_alloc (grown_refl _ _)))⟩
  all_goals (rw [World.cell?_of_block (hw2 _ (by (simp <;> omega)) (by (simp <;> omega)))]; simp [go_sem])

set_option maxHeartbeats 400000 in
theorem divide_mk (t : Nat) (i : Ins) (h : i.op = 7) (w : World) : Calls Tryz.prog 122 #[.int .i64 t, .int .i64 i.a, .int .i64 i.b] w (Made w t i) := by
  have hmf : ∀ (fn : Fn) (first cap : Array Value) (w : World), (Instr.makeFunc fn first cap).run Tryz.prog w = .ok (.func fn first cap) w := fun _ _ _ _ => rfl
  have H : Hid (i.op = 7) := h
  clear h
  go_enter Tryz.func122, Tryz.ntmps122
  go_wp2
  go_ret
  have h := H.out
  refine ⟨_, rfl, fun w2 hw2 => ⟨w.heap.size, w.heap.size + 2, w.heap.size + 1, 0, by (simp <;> omega), by (simp <;> omega), by (simp <;> omega), by simp, Or.inr (Or.inr (Or.inr (Or.inr (Or.inl ⟨h, rfl, ?_, ?_, ?_⟩))))⟩, grown_alloc (grown_alloc (grown_alloc (grown_refl _ _)))⟩
  all_goals (rw [World.cell?_of_block (hw2 _ (by (simp <;> omega)) (by (simp <;> omega)))]; simp [go_sem])

set_option maxHeartbeats 400000 in
theorem jump_mk (t : Nat) (i : Ins) (h : i.op = 8) (w : World) : Calls Tryz.prog 123 #[.int .i64 t, .int .i64 i.a, .int .i64 i.n] w (Made w t i) := by
  have hmf : ∀ (fn : Fn) (first cap : Array Value) (w : World), (Instr.makeFunc fn first cap).run Tryz.prog w = .ok (.func fn first cap) w := fun _ _ _ _ => rfl
  have H : Hid (i.op = 8) := h
  clear h
  go_enter Tryz.func123, Tryz.ntmps123
  go_wp2
  go_ret
  have h := H.out
  refine ⟨_, rfl, fun w2 hw2 => ⟨w.heap.size, w.heap.size + 1, w.heap.size + 2, 0, by (simp <;> omega), by (simp <;> omega), by (simp <;> omega), by simp, Or.inr (Or.inr (Or.inr (Or.inr (Or.inr (Or.inl ⟨h, rfl, ?_, ?_, ?_⟩)))))⟩, grown_alloc (grown_alloc (grown_alloc (grown_refl _ _)))⟩
  all_goals (rw [World.cell?_of_block (hw2 _ (by (simp <;> omega)) (by (simp <;> omega)))]; simp [go_sem])

set_option maxHeartbeats 400000 in
theorem take_mk (t : Nat) (i : Ins) (h : i.op = 9) (w : World) : Calls Tryz.prog 124 #[.int .i64 t, .int .i64 i.a] w (Made w t i) := by
  have hmf : ∀ (fn : Fn) (first cap : Array Value) (w : World), (Instr.makeFunc fn first cap).run Tryz.prog w = .ok (.func fn first cap) w := fun _ _ _ _ => rfl
  have H : Hid (i.op = 9) := h
  clear h
  go_enter Tryz.func124, Tryz.ntmps124
  go_wp2
  go_ret
  have h := H.out
  refine ⟨_, rfl, fun w2 hw2 => ⟨w.heap.size, w.heap.size + 1, 0, 0, by (simp <;> omega), by simp, by simp, by simp, Or.inr (Or.inr (Or.inr (Or.inr (Or.inr (Or.inr (Or.inl ⟨h, rfl, ?_, ?_⟩))))))⟩, grown_alloc (grown_alloc (grown_refl _ _))⟩
  all_goals (rw [World.cell?_of_block (hw2 _ (by (simp <;> omega)) (by (simp <;> omega)))]; simp [go_sem])

set_option maxHeartbeats 400000 in
theorem assert_mk (t : Nat) (i : Ins) (h : i.op = 11) (w : World) : Calls Tryz.prog 126 #[.int .i64 t, .int .i64 i.a] w (Made w t i) := by
  have hmf : ∀ (fn : Fn) (first cap : Array Value) (w : World), (Instr.makeFunc fn first cap).run Tryz.prog w = .ok (.func fn first cap) w := fun _ _ _ _ => rfl
  have H : Hid (i.op = 11) := h
  clear h
  go_enter Tryz.func126, Tryz.ntmps126
  go_wp2
  go_ret
  have h := H.out
  refine ⟨_, rfl, fun w2 hw2 => ⟨w.heap.size, w.heap.size + 1, 0, 0, by (simp <;> omega), by simp, by simp, by simp, Or.inr (Or.inr (Or.inr (Or.inr (Or.inr (Or.inr (Or.inr (Or.inr (⟨h, rfl, ?_, ?_⟩))))))))⟩, grown_alloc (grown_alloc (grown_refl _ _))⟩
  all_goals (rw [World.cell?_of_block (hw2 _ (by (simp <;> omega)) (by (simp <;> omega)))]; simp [go_sem])

set_option maxHeartbeats 400000 in
theorem release_mk (t : Nat) (i : Ins) (h : i.op = 10) (w : World) : Calls Tryz.prog 125 #[.int .i64 t, .int .i64 i.a] w (Made w t i) := by
  have hmf : ∀ (fn : Fn) (first cap : Array Value) (w : World), (Instr.makeFunc fn first cap).run Tryz.prog w = .ok (.func fn first cap) w := fun _ _ _ _ => rfl
  have H : Hid (i.op = 10) := h
  clear h
  go_enter Tryz.func125, Tryz.ntmps125
  go_wp2
  go_ret
  have h := H.out
  refine ⟨_, rfl, fun w2 hw2 => ⟨w.heap.size, w.heap.size + 1, 0, 0, by (simp <;> omega), by simp, by simp, by simp, Or.inr (Or.inr (Or.inr (Or.inr (Or.inr (Or.inr (Or.inr (Or.inl ⟨h, rfl, ?_, ?_, ?_⟩)))))))⟩, grown_alloc (grown_alloc (grown_refl _ _))⟩
  all_goals (rw [World.cell?_of_block (hw2 _ (by (simp <;> omega)) (by (simp <;> omega)))]; simp [go_sem])

set_option maxHeartbeats 400000 in
theorem add_mk (t : Nat) (i : Ins) (h : i.op = 4) (w : World) : Calls Tryz.prog 118 #[.int .i64 t, .int .i64 i.a, .int .i64 i.b, .func (.func 119) #[] #[]] w (Made w t i) := by
  have hmf : ∀ (fn : Fn) (first cap : Array Value) (w : World), (Instr.makeFunc fn first cap).run Tryz.prog w = .ok (.func fn first cap) w := fun _ _ _ _ => rfl
  have H : Hid (i.op = 4) := h
  clear h
  go_enter Tryz.func118, Tryz.ntmps118
  go_wp2
  go_ret
  have h := H.out
  refine ⟨_, rfl, fun w2 hw2 => ⟨w.heap.size + 3, w.heap.size, w.heap.size + 1, w.heap.size + 2, by (simp <;> omega), by (simp <;> omega), by (simp <;> omega), by (simp <;> omega), Or.inr (Or.inr (Or.inr (Or.inl ⟨_, Or.inl ⟨h, rfl⟩, rfl, ?_, ?_, ?_, ?_⟩)))⟩, grown_alloc (grown_alloc (grown_alloc (grown_alloc (grown_refl _ _))))⟩
  all_goals (rw [World.cell?_of_block (hw2 _ (by (simp <;> omega)) (by (simp <;> omega)))]; simp [go_sem])

set_option maxHeartbeats 400000 in
theorem sub_mk (t : Nat) (i : Ins) (h : i.op = 5) (w : World) : Calls Tryz.prog 118 #[.int .i64 t, .int .i64 i.a, .int .i64 i.b, .func (.func 120) #[] #[]] w (Made w t i) := by
  have hmf : ∀ (fn : Fn) (first cap : Array Value) (w : World), (Instr.makeFunc fn first cap).run Tryz.prog w = .ok (.func fn first cap) w := fun _ _ _ _ => rfl
  have H : Hid (i.op = 5) := h
  clear h
  go_enter Tryz.func118, Tryz.ntmps118
  go_wp2
  go_ret
  have h := H.out
  refine ⟨_, rfl, fun w2 hw2 => ⟨w.heap.size + 3, w.heap.size, w.heap.size + 1, w.heap.size + 2, by (simp <;> omega), by (simp <;> omega), by (simp <;> omega), by (simp <;> omega), Or.inr (Or.inr (Or.inr (Or.inl ⟨_, Or.inr (Or.inl ⟨h, rfl⟩), rfl, ?_, ?_, ?_, ?_⟩)))⟩, grown_alloc (grown_alloc (grown_alloc (grown_alloc (grown_refl _ _))))⟩
  all_goals (rw [World.cell?_of_block (hw2 _ (by (simp <;> omega)) (by (simp <;> omega)))]; simp [go_sem])

set_option maxHeartbeats 400000 in
theorem mul_mk (t : Nat) (i : Ins) (h : i.op = 6) (w : World) : Calls Tryz.prog 118 #[.int .i64 t, .int .i64 i.a, .int .i64 i.b, .func (.func 121) #[] #[]] w (Made w t i) := by
  have hmf : ∀ (fn : Fn) (first cap : Array Value) (w : World), (Instr.makeFunc fn first cap).run Tryz.prog w = .ok (.func fn first cap) w := fun _ _ _ _ => rfl
  have H : Hid (i.op = 6) := h
  clear h
  go_enter Tryz.func118, Tryz.ntmps118
  go_wp2
  go_ret
  have h := H.out
  refine ⟨_, rfl, fun w2 hw2 => ⟨w.heap.size + 3, w.heap.size, w.heap.size + 1, w.heap.size + 2, by (simp <;> omega), by (simp <;> omega), by (simp <;> omega), by (simp <;> omega), Or.inr (Or.inr (Or.inr (Or.inl ⟨_, Or.inr (Or.inr ⟨h, rfl⟩), rfl, ?_, ?_, ?_, ?_⟩)))⟩, grown_alloc (grown_alloc (grown_alloc (grown_alloc (grown_refl _ _))))⟩
  all_goals (rw [World.cell?_of_block (hw2 _ (by (simp <;> omega)) (by (simp <;> omega)))]; simp [go_sem])

end Go.Proofs.YtklenjmfalljgaaGreatDoor

/- The walks of makeAction and makeMove. -/
namespace Go.Proofs.YtklenjmfalljgaaGreatDoor
open Go.RowKit
attribute [local go_sem] Go.World.cell?_alloc_some

theorem Made.grow {w0 w w' : World} {t : Nat} {i : Ins} {e : Ending} (h : Made w t i e w') (hg : w0.grownBy w none) : Made w0 t i e w' := by
  obtain ⟨v, h1, h2, h3⟩ := h
  exact ⟨v, h1, fun w2 hw2 => h2 w2 fun k hk hk2 => hw2 k (Nat.le_trans hg.size hk) hk2, grown_trans hg h3⟩

set_option maxHeartbeats 1000000 in
set_option maxRecDepth 100000 in
theorem makeAction_1 (t : Nat) (i : Ins) (h : i.op = 1) (w : World) : Calls Tryz.prog 84 #[.int .i64 t, .agg #[.int .i64 1, .int .i64 i.a, .int .i64 i.b, .int .i64 i.n]] w (Made w t i) := by
  have H : Hid (i.op = 1) := h
  clear h
  go_enter Tryz.func84, Tryz.ntmps84
  go_wp2_with fail
  go_quiet (fail)
  go_wp2_with fail
  refine (set_mk t i H.out _).mono ?_
  rintro e w1 ⟨v, rfl, ha, hg⟩
  have HA := hide ha
  have HG := hide hg
  clear ha hg
  go_wp2_with fail
  go_ret
  exact Made.grow (w := _) ⟨v, rfl, HA.out, HG.out⟩ (grown_drewN _ (grown_alloc (grown_refl _ _)))

set_option maxHeartbeats 1000000 in
set_option maxRecDepth 100000 in
theorem makeAction_2 (t : Nat) (i : Ins) (h : i.op = 2) (w : World) : Calls Tryz.prog 84 #[.int .i64 t, .agg #[.int .i64 2, .int .i64 i.a, .int .i64 i.b, .int .i64 i.n]] w (Made w t i) := by
  have H : Hid (i.op = 2) := h
  clear h
  go_enter Tryz.func84, Tryz.ntmps84
  go_wp2_with fail
  go_quiet (fail)
  go_wp2_with fail
  refine (load_mk t i H.out _).mono ?_
  rintro e w1 ⟨v, rfl, ha, hg⟩
  have HA := hide ha
  have HG := hide hg
  clear ha hg
  go_wp2_with fail
  go_ret
  exact Made.grow (w := _) ⟨v, rfl, HA.out, HG.out⟩ (grown_drewN _ (grown_alloc (grown_refl _ _)))

set_option maxHeartbeats 1000000 in
set_option maxRecDepth 100000 in
theorem makeAction_3 (t : Nat) (i : Ins) (h : i.op = 3) (w : World) : Calls Tryz.prog 84 #[.int .i64 t, .agg #[.int .i64 3, .int .i64 i.a, .int .i64 i.b, .int .i64 i.n]] w (Made w t i) := by
  have H : Hid (i.op = 3) := h
  clear h
  go_enter Tryz.func84, Tryz.ntmps84
  go_wp2_with fail
  go_quiet (fail)
  go_wp2_with fail
  refine (store_mk t i H.out _).mono ?_
  rintro e w1 ⟨v, rfl, ha, hg⟩
  have HA := hide ha
  have HG := hide hg
  clear ha hg
  go_wp2_with fail
  go_ret
  exact Made.grow (w := _) ⟨v, rfl, HA.out, HG.out⟩ (grown_drewN _ (grown_alloc (grown_refl _ _)))

set_option maxHeartbeats 1000000 in
set_option maxRecDepth 100000 in
theorem makeAction_4 (t : Nat) (i : Ins) (h : i.op = 4) (w : World) : Calls Tryz.prog 84 #[.int .i64 t, .agg #[.int .i64 4, .int .i64 i.a, .int .i64 i.b, .int .i64 i.n]] w (Made w t i) := by
  have H : Hid (i.op = 4) := h
  clear h
  go_enter Tryz.func84, Tryz.ntmps84
  go_wp2_with fail
  go_quiet (fail)
  go_wp2_with fail
  refine (add_mk t i H.out _).mono ?_
  rintro e w1 ⟨v, rfl, ha, hg⟩
  have HA := hide ha
  have HG := hide hg
  clear ha hg
  go_wp2_with fail
  go_ret
  exact Made.grow (w := _) ⟨v, rfl, HA.out, HG.out⟩ (grown_drewN _ (grown_alloc (grown_refl _ _)))

set_option maxHeartbeats 1000000 in
set_option maxRecDepth 100000 in
theorem makeAction_5 (t : Nat) (i : Ins) (h : i.op = 5) (w : World) : Calls Tryz.prog 84 #[.int .i64 t, .agg #[.int .i64 5, .int .i64 i.a, .int .i64 i.b, .int .i64 i.n]] w (Made w t i) := by
  have H : Hid (i.op = 5) := h
  clear h
  go_enter Tryz.func84, Tryz.ntmps84
  go_wp2_with fail
  go_quiet (fail)
  go_wp2_with fail
  refine (sub_mk t i H.out _).mono ?_
  rintro e w1 ⟨v, rfl, ha, hg⟩
  have HA := hide ha
  have HG := hide hg
  clear ha hg
  go_wp2_with fail
  go_ret
  exact Made.grow (w := _) ⟨v, rfl, HA.out, HG.out⟩ (grown_drewN _ (grown_alloc (grown_refl _ _)))

set_option maxHeartbeats 1000000 in
set_option maxRecDepth 100000 in
theorem makeAction_6 (t : Nat) (i : Ins) (h : i.op = 6) (w : World) : Calls Tryz.prog 84 #[.int .i64 t, .agg #[.int .i64 6, .int .i64 i.a, .int .i64 i.b, .int .i64 i.n]] w (Made w t i) := by
  have H : Hid (i.op = 6) := h
  clear h
  go_enter Tryz.func84, Tryz.ntmps84
  go_wp2_with fail
  go_quiet (fail)
  go_wp2_with fail
  refine (mul_mk t i H.out _).mono ?_
  rintro e w1 ⟨v, rfl, ha, hg⟩
  have HA := hide ha
  have HG := hide hg
  clear ha hg
  go_wp2_with fail
  go_ret
  exact Made.grow (w := _) ⟨v, rfl, HA.out, HG.out⟩ (grown_drewN _ (grown_alloc (grown_refl _ _)))

set_option maxHeartbeats 1000000 in
set_option maxRecDepth 100000 in
theorem makeAction_7 (t : Nat) (i : Ins) (h : i.op = 7) (w : World) : Calls Tryz.prog 84 #[.int .i64 t, .agg #[.int .i64 7, .int .i64 i.a, .int .i64 i.b, .int .i64 i.n]] w (Made w t i) := by
  have H : Hid (i.op = 7) := h
  clear h
  go_enter Tryz.func84, Tryz.ntmps84
  go_wp2_with fail
  go_quiet (fail)
  go_wp2_with fail
  refine (divide_mk t i H.out _).mono ?_
  rintro e w1 ⟨v, rfl, ha, hg⟩
  have HA := hide ha
  have HG := hide hg
  clear ha hg
  go_wp2_with fail
  go_ret
  exact Made.grow (w := _) ⟨v, rfl, HA.out, HG.out⟩ (grown_drewN _ (grown_alloc (grown_refl _ _)))

set_option maxHeartbeats 1000000 in
set_option maxRecDepth 100000 in
theorem makeAction_8 (t : Nat) (i : Ins) (h : i.op = 8) (w : World) : Calls Tryz.prog 84 #[.int .i64 t, .agg #[.int .i64 8, .int .i64 i.a, .int .i64 i.b, .int .i64 i.n]] w (Made w t i) := by
  have H : Hid (i.op = 8) := h
  clear h
  go_enter Tryz.func84, Tryz.ntmps84
  go_wp2_with fail
  go_quiet (fail)
  go_wp2_with fail
  refine (jump_mk t i H.out _).mono ?_
  rintro e w1 ⟨v, rfl, ha, hg⟩
  have HA := hide ha
  have HG := hide hg
  clear ha hg
  go_wp2_with fail
  go_ret
  exact Made.grow (w := _) ⟨v, rfl, HA.out, HG.out⟩ (grown_drewN _ (grown_alloc (grown_refl _ _)))

set_option maxHeartbeats 1000000 in
set_option maxRecDepth 100000 in
theorem makeAction_9 (t : Nat) (i : Ins) (h : i.op = 9) (w : World) : Calls Tryz.prog 84 #[.int .i64 t, .agg #[.int .i64 9, .int .i64 i.a, .int .i64 i.b, .int .i64 i.n]] w (Made w t i) := by
  have H : Hid (i.op = 9) := h
  clear h
  go_enter Tryz.func84, Tryz.ntmps84
  go_wp2_with fail
  go_quiet (fail)
  go_wp2_with fail
  refine (take_mk t i H.out _).mono ?_
  rintro e w1 ⟨v, rfl, ha, hg⟩
  have HA := hide ha
  have HG := hide hg
  clear ha hg
  go_wp2_with fail
  go_ret
  exact Made.grow (w := _) ⟨v, rfl, HA.out, HG.out⟩ (grown_drewN _ (grown_alloc (grown_refl _ _)))

set_option maxHeartbeats 1000000 in
set_option maxRecDepth 100000 in
theorem makeAction_10 (t : Nat) (i : Ins) (h : i.op = 10) (w : World) : Calls Tryz.prog 84 #[.int .i64 t, .agg #[.int .i64 10, .int .i64 i.a, .int .i64 i.b, .int .i64 i.n]] w (Made w t i) := by
  have H : Hid (i.op = 10) := h
  clear h
  go_enter Tryz.func84, Tryz.ntmps84
  go_wp2_with fail
  go_quiet (fail)
  go_wp2_with fail
  refine (release_mk t i H.out _).mono ?_
  rintro e w1 ⟨v, rfl, ha, hg⟩
  have HA := hide ha
  have HG := hide hg
  clear ha hg
  go_wp2_with fail
  go_ret
  exact Made.grow (w := _) ⟨v, rfl, HA.out, HG.out⟩ (grown_drewN _ (grown_alloc (grown_refl _ _)))

set_option maxHeartbeats 1000000 in
set_option maxRecDepth 100000 in
theorem makeAction_11 (t : Nat) (i : Ins) (h : i.op = 11) (w : World) : Calls Tryz.prog 84 #[.int .i64 t, .agg #[.int .i64 11, .int .i64 i.a, .int .i64 i.b, .int .i64 i.n]] w (Made w t i) := by
  have H : Hid (i.op = 11) := h
  clear h
  go_enter Tryz.func84, Tryz.ntmps84
  go_wp2_with fail
  go_quiet (fail)
  go_wp2_with fail
  refine (assert_mk t i H.out _).mono ?_
  rintro e w1 ⟨v, rfl, ha, hg⟩
  have HA := hide ha
  have HG := hide hg
  clear ha hg
  go_wp2_with fail
  go_ret
  exact Made.grow (w := _) ⟨v, rfl, HA.out, HG.out⟩ (grown_drewN _ (grown_alloc (grown_refl _ _)))

theorem makeAction_m (t : Nat) (i : Ins) (h1 : 1 ≤ i.op) (h2 : i.op ≤ 11) (w : World) : Calls Tryz.prog 84 #[.int .i64 t, .agg #[.int .i64 i.op, .int .i64 i.a, .int .i64 i.b, .int .i64 i.n]] w (Made w t i) := by
  have hc : i.op = 1 ∨ i.op = 2 ∨ i.op = 3 ∨ i.op = 4 ∨ i.op = 5 ∨ i.op = 6 ∨ i.op = 7 ∨ i.op = 8 ∨ i.op = 9 ∨ i.op = 10 ∨ i.op = 11 := by omega
  rcases hc with e | e | e | e | e | e | e | e | e | e | e
  · rw [e]; exact makeAction_1 t i e w
  · rw [e]; exact makeAction_2 t i e w
  · rw [e]; exact makeAction_3 t i e w
  · rw [e]; exact makeAction_4 t i e w
  · rw [e]; exact makeAction_5 t i e w
  · rw [e]; exact makeAction_6 t i e w
  · rw [e]; exact makeAction_7 t i e w
  · rw [e]; exact makeAction_8 t i e w
  · rw [e]; exact makeAction_9 t i e w
  · rw [e]; exact makeAction_10 t i e w
  · rw [e]; exact makeAction_11 t i e w

theorem four_cells {w : World} {g : Nat} {x0 x1 x2 x3 : Value} {t : TypeId} (h : w.heap[g]? = some (.cells #[x0, x1, x2, x3] t (0, 0))) :
    w.cell? ⟨g, 0, none⟩ = some x0 ∧ w.cell? ⟨g, 1, none⟩ = some x1 ∧ w.cell? ⟨g, 2, none⟩ = some x2 ∧ w.cell? ⟨g, 3, none⟩ = some x3 ∧ (∀ o, w.frozen? ⟨g, o, none⟩ = false) := by
  simp [World.cell?, World.frozen?, h]

/-- A move was made: its three cells. -/
def MoveMade (w : World) (t : Nat) (i : Ins) (e : Ending) (w' : World) : Prop :=
  ∃ kf caps, e = .returned (.agg #[.func (.func kf) #[] caps, .bool (i.op == 9), .int .i64 (if i.op = 9 then i.a else 0)]) ∧ (∀ w2 : World, (∀ k, w.heap.size ≤ k → k < w'.heap.size → w2.heap[k]? = w'.heap[k]?) → ActIs w'.heap.size w2 (.func (.func kf) #[] caps) t i) ∧ w.grownBy w' none

theorem ActIs.form {B : Nat} {w : World} {v : Value} {t : Nat} {i : Ins} (h : ActIs B w v t i) : ∃ kf caps, v = .func (.func kf) #[] caps := by
  obtain ⟨x, y, z, u, _, _, _, _, h⟩ := h
  rcases h with ⟨_, e, _⟩ | ⟨_, e, _⟩ | ⟨_, e, _⟩ | ⟨_, _, e, _⟩ | ⟨_, e, _⟩ | ⟨_, e, _⟩ | ⟨_, e, _⟩ | ⟨_, e, _⟩ | ⟨_, e, _⟩ <;> exact ⟨_, _, e⟩

set_option maxHeartbeats 1000000 in
set_option maxRecDepth 100000 in
theorem makeMove_m (t : Nat) (i : Ins) (h1 : 1 ≤ i.op) (h2 : i.op ≤ 11) (w : World) : Calls Tryz.prog 51 #[.int .i64 t, .agg #[.int .i64 i.op, .int .i64 i.a, .int .i64 i.b, .int .i64 i.n]] w (MoveMade w t i) := by
  go_enter Tryz.func51, Tryz.ntmps51
  go_wp2_with fail
  refine (makeAction_m t i h1 h2 _).mono ?_
  rintro e w1 ⟨v, rfl, ha, hg⟩
  obtain ⟨kf, caps, rfl⟩ := (ha w1 fun _ _ _ => rfl).form
  have HA := hide ha
  have HG := hide hg
  have hsz : w.heap.size + 2 ≤ w1.heap.size := by have := hg.size; simpa using this
  have hb0 : w1.heap[w.heap.size]? = some (.cells #[.int .i64 i.op, .int .i64 i.a, .int .i64 i.b, .int .i64 i.n] 74 (0, 0)) := by
    rw [hg.block _ (by simp; omega) (by simp), Below.heap_alloc _ _ _ (by simp)]; exact heap_alloc_new w _
  have hb1 : w1.heap[w.heap.size + 1]? = some (.cells #[.nilFunc, .bool false, .int .i64 0] 111 (0, 0)) := by
    rw [hg.block _ (by simp) (by simp)]
    have := heap_alloc_new (w.alloc (.cells #[.int .i64 i.op, .int .i64 i.a, .int .i64 i.b, .int .i64 i.n] 74)) (.cells #[.nilFunc, .bool false, .int .i64 0] 111)
    simpa using this
  clear ha hg
  obtain ⟨c0, c1, c2, c3, _⟩ := four_cells hb0
  obtain ⟨d0, d1, d2, df⟩ := three_cells hb1
  have dfa : ∀ (o : Obj) (k : Nat), (w1.alloc o).frozen? ⟨w.heap.size + 1, k, none⟩ = false := fun o k => by
    rw [World.frozen?_alloc_old _ _ _ (by simp; omega)]; exact df k
  clear df hb0 hb1 c2 c3
  have HG0 : Hid (w.grownBy w1 none) := grown_trans (grown_alloc (grown_alloc (grown_refl _ _))) HG.out
  by_cases h9 : i.op = 9
  · have H9 := hide h9
    have hq : (i.op == 9) = true := by simpa using h9
    clear h9
    go_wp2_with fail
    refine bodyPost_ret (v := .agg #[.func (.func kf) #[] caps, .bool true, .int .i64 i.a]) ?_ rfl ⟨kf, caps, ?_, ?_, ?_⟩
    · simp [results, Tryz.results51, go_sem, d0, d1, d2]
    · rw [hq, if_pos H9.out]
    · intro w2 hw2
      refine (HA.out _ fun k hk hk2 => ?_).mono (by simp)
      rw [hw2 k (by simp at hk; omega) (by simp; omega)]
      have hk3 : w.heap.size + 2 ≤ k := by simpa using hk
      rw [Below.heap_setCell _ _ _ _ (by simp; omega), Below.heap_setCell _ _ _ _ (by simp; omega), Below.heap_setCell _ _ _ _ (by simp; omega), Below.heap_alloc _ _ _ hk2]
    · iterate 3 refine grown_setNew ?_ (by omega)
      exact grown_alloc HG0.out
  · have H9 := hide h9
    have hq : (i.op == 9) = false := by simpa using h9
    clear h9
    go_wp2_with fail
    refine bodyPost_ret (v := .agg #[.func (.func kf) #[] caps, .bool false, .int .i64 0]) ?_ rfl ⟨kf, caps, ?_, ?_, ?_⟩
    · simp [results, Tryz.results51, go_sem, d0, d1, d2]
    · rw [hq, if_neg H9.out]
    · intro w2 hw2
      refine (HA.out _ fun k hk hk2 => ?_).mono (by simp)
      rw [hw2 k (by simp at hk; omega) (by simp; omega)]
      have hk3 : w.heap.size + 2 ≤ k := by simpa using hk
      rw [Below.heap_setCell _ _ _ _ (by simp; omega), Below.heap_setCell _ _ _ _ (by simp; omega), Below.heap_setCell _ _ _ _ (by simp; omega), Below.heap_alloc _ _ _ hk2]
    · iterate 3 refine grown_setNew ?_ (by omega)
      exact grown_alloc HG0.out

end Go.Proofs.YtklenjmfalljgaaGreatDoor

/- The walk of New. -/
namespace Go.Proofs.YtklenjmfalljgaaGreatDoor
open Go.RowKit
attribute [local go_sem] Go.World.cell?_alloc_some

/-- The three cells of a move. -/
def moveV (kf : Nat) (caps : Array Value) (i : Ins) : List Value := [.func (.func kf) #[] caps, .bool (i.op == 9), .int .i64 (if i.op = 9 then i.a else 0)]

/-- The closure's boxes lie in the blocks from a on, below b. -/
def ActSt (a b : Nat) (w : World) (v : Value) (t : Nat) (i : Ins) : Prop := ∀ w' : World, (∀ k, a ≤ k → k < b → w'.heap[k]? = w.heap[k]?) → ActIs b w' v t i

/-- A row of moves, as a list of cells; the boxes lie from L on, below B, and not in the row's own block. -/
def MovesIn (L B : Nat) (w : World) (own : Option Nat) (xs : List Value) (t : Nat) (c : List Ins) : Prop :=
  ∀ k (hk : k < c.length), ∃ kf caps a b, xs[k * 3]? = some (.func (.func kf) #[] caps) ∧ xs[k * 3 + 1]? = some (.bool (c[k].op == 9)) ∧ xs[k * 3 + 2]? = some (.int .i64 (if c[k].op = 9 then c[k].a else 0)) ∧
    L ≤ a ∧ b ≤ B ∧ (∀ h, own = some h → h < a ∨ b ≤ h) ∧ ActSt a b w (.func (.func kf) #[] caps) t c[k]

theorem MovesIn.step {L B : Nat} {w w' : World} {own r : Option Nat} {xs : List Value} {t : Nat} {c : List Ins} (h : MovesIn L B w own xs t c) (hB : B ≤ w.heap.size) (hg : w.grownBy w' r) (hr : ∀ q, r = some q → own = some q ∨ q < L ∨ B ≤ q) : MovesIn L B w' own xs t c := by
  intro k hk
  obtain ⟨kf, caps, a, b, h1, h2, h3, h4, h5, h6, h7⟩ := h k hk
  refine ⟨kf, caps, a, b, h1, h2, h3, h4, h5, h6, fun w2 hw2 => h7 w2 fun q hq hq2 => ?_⟩
  rw [hw2 q hq hq2, hg.block q (by omega) (fun e => by
    rcases hr q e.symm with e2 | e2 | e2
    · rcases h6 q e2 with e3 | e3 <;> omega
    · omega
    · omega)]

theorem MovesIn.mono {L B B' : Nat} {w : World} {own : Option Nat} {xs : List Value} {t : Nat} {c : List Ins} (h : MovesIn L B w own xs t c) (hB : B ≤ B') : MovesIn L B' w own xs t c := by
  intro k hk
  obtain ⟨kf, caps, a, b, h1, h2, h3, h4, h5, h6, h7⟩ := h k hk
  exact ⟨kf, caps, a, b, h1, h2, h3, h4, by omega, h6, h7⟩

theorem MovesIn.reown {L B g : Nat} {w : World} {own : Option Nat} {xs : List Value} {t : Nat} {c : List Ins} (h : MovesIn L B w own xs t c) (hat : own = some g ∨ B ≤ g) : MovesIn L B w (some g) xs t c := by
  intro k hk
  obtain ⟨kf, caps, a, b, h1, h2, h3, h4, h5, h6, h7⟩ := h k hk
  refine ⟨kf, caps, a, b, h1, h2, h3, h4, h5, fun q e => ?_, h7⟩
  cases e
  rcases hat with e | e
  · exact h6 _ e
  · exact Or.inr (by omega)

theorem MovesIn.snoc {L B : Nat} {w : World} {own : Option Nat} {xs : List Value} {t : Nat} {c : List Ins} {i : Ins} {kf : Nat} {caps : Array Value} {a b : Nat} (h : MovesIn L B w own xs t c) (hl : xs.length = c.length * 3)
    (ha : L ≤ a) (hb : b ≤ B) (ho : ∀ h, own = some h → h < a ∨ b ≤ h) (hA : ActSt a b w (.func (.func kf) #[] caps) t i) :
    MovesIn L B w own (xs ++ moveV kf caps i) t (c ++ [i]) := by
  intro k hk
  by_cases hlt : k < c.length
  · obtain ⟨kf', caps', a', b', h1, h2, h3, h4⟩ := h k hlt
    have e : (c ++ [i])[k] = c[k] := List.getElem_append_left hlt
    refine ⟨kf', caps', a', b', ?_, ?_, ?_, ?_⟩
    · rw [List.getElem?_append_left (by omega)]; exact h1
    · rw [List.getElem?_append_left (by omega), e]; exact h2
    · rw [List.getElem?_append_left (by omega), e]; exact h3
    · rw [e]; exact h4
  · have ek : k = c.length := by simp at hk; omega
    subst ek
    have e : (c ++ [i])[c.length] = i := by simp
    refine ⟨kf, caps, a, b, ?_, ?_, ?_, ha, hb, ho, ?_⟩
    · rw [List.getElem?_append_right (by omega), hl]; simp [moveV]
    · rw [List.getElem?_append_right (by omega), hl, e]
      have : c.length * 3 + 1 - c.length * 3 = 1 := by omega
      rw [this]; rfl
    · rw [List.getElem?_append_right (by omega), hl, e]
      have : c.length * 3 + 2 - c.length * 3 = 2 := by omega
      rw [this]; rfl
    · rw [e]; exact hA

/-- The rows of the threads ahead of t are done; their blocks lie from L on, below B. -/
def Fin (L B : Nat) (w : World) (rows : Array Value) (t : Nat) (p : List (List Ins)) : Prop :=
  ∀ j, j < t → ∃ v xs, rows[j]? = some v ∧ w.ownsRow L 111 3 v (codeOf p j).length xs ∧ (∀ h, v.ownBlock = some h → h < B) ∧ MovesIn L B w v.ownBlock xs j (codeOf p j)

theorem Fin.step {L B : Nat} {w w' : World} {rows : Array Value} {t : Nat} {p : List (List Ins)} {r : Option Nat} (h : Fin L B w rows t p) (hBs : B ≤ w.heap.size) (hg : w.grownBy w' r) (hr : ∀ k, r = some k → k < L ∨ B ≤ k) : Fin L B w' rows t p := by
  intro j hj
  obtain ⟨v, xs, h1, h2, h3, h4⟩ := h j hj
  refine ⟨v, xs, h1, ?_, h3, h4.step hBs hg (fun q e => Or.inr (hr q e))⟩
  obtain ⟨q1, q2⟩ := h2
  refine ⟨q1, ?_⟩
  rcases q2 with q2 | ⟨g, cap, cur, hv, hb, hh, rest⟩
  · exact Or.inl q2
  · have hlt : g < w.heap.size := (Array.getElem?_eq_some_iff.1 hh).1
    have hB := h3 g (by rw [hv]; rfl)
    refine Or.inr ⟨g, cap, cur, hv, hb, ?_, rest⟩
    rw [hg.block g hlt (fun e => by have := hr g e.symm; omega)]; exact hh

theorem Fin.rows {L B : Nat} {w : World} {rows : Array Value} {t u : Nat} {x : Value} {p : List (List Ins)} (h : Fin L B w rows t p) (hu : t ≤ u) : Fin L B w (rows.setIfInBounds u x) t p := by
  intro j hj
  obtain ⟨v, xs, h1, h2, h3, h4⟩ := h j hj
  exact ⟨v, xs, by rw [Array.getElem?_setIfInBounds_ne (by omega)]; exact h1, h2, h3, h4⟩
theorem Fin.mono {L B B' : Nat} {w : World} {rows : Array Value} {t : Nat} {p : List (List Ins)} (h : Fin L B w rows t p) (hb : B ≤ B') : Fin L B' w rows t p := by
  intro j hj
  obtain ⟨v, xs, h1, h2, h3, h4⟩ := h j hj
  exact ⟨v, xs, h1, h2, fun h e => Nat.lt_of_lt_of_le (h3 h e) hb, h4.mono hb⟩
theorem Fin.succ {L B : Nat} {w : World} {rows : Array Value} {t : Nat} {p : List (List Ins)} {v : Value} {xs : List Value} (h : Fin L B w rows t p) (h1 : rows[t]? = some v) (h2 : w.ownsRow L 111 3 v (codeOf p t).length xs)
    (h3 : ∀ h, v.ownBlock = some h → h < B) (h4 : MovesIn L B w v.ownBlock xs t (codeOf p t)) : Fin L B w rows (t + 1) p := by
  intro j hj
  by_cases e : j = t
  · subst e; exact ⟨v, xs, h1, h2, h3, h4⟩
  · exact h j (by omega)

theorem Fin.rowIs {L B : Nat} {w : World} {rows : Array Value} {t : Nat} {p : List (List Ins)} (h : Fin L B w rows t p) {j : Nat} (hj : j < t) : ∃ v, rows[j]? = some v ∧ RowIs B w v j (codeOf p j) := by
  obtain ⟨v, xs, h1, h2, h3, h4⟩ := h j hj
  refine ⟨v, h1, ?_⟩
  rcases h2.2 with ⟨e, e0⟩ | ⟨g, cap, cur, hv, hb, hh, hrest⟩
  · exact Or.inl ⟨List.length_eq_zero_iff.1 e0, e⟩
  · refine Or.inr ⟨g, cap, hv, h3 g (by rw [hv]; rfl), fun k hk => ?_⟩
    obtain ⟨kf, caps, a, b, q1, q2, q3, q4, q5, q6, q7⟩ := h4 k hk
    rw [hv] at h2
    have hc := fun j hj => h2.cellAt j hj
    exact ⟨kf, caps, by rw [hc _ (by omega)]; exact q1, (q7 w fun _ _ _ => rfl).mono q5, by rw [hc _ (by omega)]; exact q2, by rw [hc _ (by omega)]; exact q3⟩

theorem info_move : ((Tryz.prog.info? 111).map fun i => (i.zero, i.size, i.bytes)) = some (some (.agg #[.nilFunc, .bool false, .int .i64 0]), 3, 24) := by kernel_rfl
theorem info_row : ((Tryz.prog.info? 107).map fun i => (i.zero, i.size, i.bytes)) = some (some (.slice none 0 0), 1, 24) := by kernel_rfl

end Go.Proofs.YtklenjmfalljgaaGreatDoor
