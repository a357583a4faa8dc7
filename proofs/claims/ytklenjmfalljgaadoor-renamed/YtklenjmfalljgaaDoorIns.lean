/- The walks of instruction and program. -/
import Derived.Test.YtklenjmfalljgaaDoorSch2
namespace Go.Proofs.YtklenjmfalljgaaDoor
open Go.RowKit
attribute [local go_sem] Go.World.cell?_alloc_some

def insM (n many : Int) : Ins :=
  if n % 11 = 0 then ⟨1, n / 11 % 3, 0, n / 132 % 5 - 1⟩
  else if n % 11 = 7 then ⟨8, n / 11 % 3, 0, n / 132 % (many + 1)⟩
  else if n % 11 = 8 then ⟨9, n / 11 % 3, 0, 0⟩
  else if n % 11 = 9 then ⟨10, n / 11 % 3, 0, 0⟩
  else if n % 11 = 10 then (if 0 < n / 33 % 4 then ⟨2, n / 11 % 3, n / 33 % 4, 0⟩ else ⟨11, n / 11 % 3, 0, 0⟩)
  else ⟨1 + n % 11, n / 11 % 3, n / 33 % 4, 0⟩

def insN (c many : Int) : Ins := insM (pickN c 1099511627776) many

theorem insM_valid (n many : Int) (_hn : 0 ≤ n) (hm : 0 ≤ many) : vIns (insM n many) many = true := by
  have a1 : 0 ≤ n / 11 % 3 ∧ n / 11 % 3 < 3 := by omega
  have b1 : 0 ≤ n / 33 % 4 ∧ n / 33 % 4 < 4 := by omega
  have e1 : 0 ≤ n % 11 ∧ n % 11 < 11 := by omega
  have j1 : 0 ≤ n / 132 % (many + 1) ∧ n / 132 % (many + 1) < many + 1 := ⟨Int.emod_nonneg _ (by omega), Int.emod_lt_of_pos _ (by omega)⟩
  have hc : n % 11 = 0 ∨ n % 11 = 1 ∨ n % 11 = 2 ∨ n % 11 = 3 ∨ n % 11 = 4 ∨ n % 11 = 5 ∨ n % 11 = 6 ∨ n % 11 = 7 ∨ n % 11 = 8 ∨ n % 11 = 9 ∨ n % 11 = 10 := by omega
  rcases hc with e | e | e | e | e | e | e | e | e | e | e
  all_goals
    unfold insM
    simp only [e]
    generalize n / 11 % 3 = A at *
    generalize n / 33 % 4 = B at *
    generalize n / 132 % (many + 1) = J at *
    simp [vIns, shp, fitsB, belowB]
  all_goals first | omega | (split <;> simp <;> omega)

set_option maxHeartbeats 2000000 in
set_option maxRecDepth 100000 in
theorem instruction_core (c many n : Int) (hpk : ∀ w, Calls Tryd.prog 12 #[.int .i64 c, .int .i64 1099511627776] w fun e w' => e = .returned (.int .i64 n) ∧ w' = w) (hn0 : 0 ≤ n) (hn1 : n < 1099511627776) (h0 : 0 ≤ many) (h16 : many ≤ 16) (w : World) :
    Calls Tryd.prog 37 #[.int .i64 c, .int .i64 many] w fun e w' => e = .returned (.agg #[.int .i64 (insM n many).op, .int .i64 (insM n many).a, .int .i64 (insM n many).b, .int .i64 (insM n many).n]) ∧ w.grownBy w' none := by
  have HPK := hide hpk
  clear hpk
  have hcc : n % 11 = 0 ∨ n % 11 = 1 ∨ n % 11 = 2 ∨ n % 11 = 3 ∨ n % 11 = 4 ∨ n % 11 = 5 ∨ n % 11 = 6 ∨ n % 11 = 7 ∨ n % 11 = 8 ∨ n % 11 = 9 ∨ n % 11 = 10 := by omega
  have HJ : Hid (0 ≤ n / 132 % (many + 1)) := Int.emod_nonneg _ (by omega)
  rcases hcc with e | e | e | e | e | e | e | e | e | e | e
  · have HE : Hid (insM n many = ⟨1, n / 11 % 3, 0, n / 132 % 5 - 1⟩) := by unfold Hid insM; simp [e]
    rw [HE.out]
    clear HE
    go_enter Tryd.func37, Tryd.ntmps37
    go_wp2_with fail
    refine (HPK.out _).mono ?_
    rintro e' w1 ⟨rfl, rfl⟩
    go_wp2_with fail
    refine bodyPost_ret (v := .agg #[.int .i64 (1), .int .i64 (n / 11 % 3), .int .i64 (0), .int .i64 (n / 132 % 5 - 1)]) ?_ rfl ⟨rfl, ?_⟩
    · simp [results, Tryd.results37, go_sem]
    · repeat (first | exact grown_refl _ _ | refine grown_alloc ?_ | refine grown_setNew ?_ (by simp; omega))
  · have HE : Hid (insM n many = ⟨2, n / 11 % 3, n / 33 % 4, 0⟩) := by unfold Hid insM; simp [e]
    rw [HE.out]
    clear HE
    go_enter Tryd.func37, Tryd.ntmps37
    go_wp2_with fail
    refine (HPK.out _).mono ?_
    rintro e' w1 ⟨rfl, rfl⟩
    go_wp2_with fail
    refine bodyPost_ret (v := .agg #[.int .i64 (2), .int .i64 (n / 11 % 3), .int .i64 (n / 33 % 4), .int .i64 (0)]) ?_ rfl ⟨rfl, ?_⟩
    · simp [results, Tryd.results37, go_sem]
    · repeat (first | exact grown_refl _ _ | refine grown_alloc ?_ | refine grown_setNew ?_ (by simp; omega))
  · have HE : Hid (insM n many = ⟨3, n / 11 % 3, n / 33 % 4, 0⟩) := by unfold Hid insM; simp [e]
    rw [HE.out]
    clear HE
    go_enter Tryd.func37, Tryd.ntmps37
    go_wp2_with fail
    refine (HPK.out _).mono ?_
    rintro e' w1 ⟨rfl, rfl⟩
    go_wp2_with fail
    refine bodyPost_ret (v := .agg #[.int .i64 (3), .int .i64 (n / 11 % 3), .int .i64 (n / 33 % 4), .int .i64 (0)]) ?_ rfl ⟨rfl, ?_⟩
    · simp [results, Tryd.results37, go_sem]
    · repeat (first | exact grown_refl _ _ | refine grown_alloc ?_ | refine grown_setNew ?_ (by simp; omega))
  · have HE : Hid (insM n many = ⟨4, n / 11 % 3, n / 33 % 4, 0⟩) := by unfold Hid insM; simp [e]
    rw [HE.out]
    clear HE
    go_enter Tryd.func37, Tryd.ntmps37
    go_wp2_with fail
    refine (HPK.out _).mono ?_
    rintro e' w1 ⟨rfl, rfl⟩
    go_wp2_with fail
    refine bodyPost_ret (v := .agg #[.int .i64 (4), .int .i64 (n / 11 % 3), .int .i64 (n / 33 % 4), .int .i64 (0)]) ?_ rfl ⟨rfl, ?_⟩
    · simp [results, Tryd.results37, go_sem]
    · repeat (first | exact grown_refl _ _ | refine grown_alloc ?_ | refine grown_setNew ?_ (by simp; omega))
  · have HE : Hid (insM n many = ⟨5, n / 11 % 3, n / 33 % 4, 0⟩) := by unfold Hid insM; simp [e]
    rw [HE.out]
    clear HE
    go_enter Tryd.func37, Tryd.ntmps37
    go_wp2_with fail
    refine (HPK.out _).mono ?_
    rintro e' w1 ⟨rfl, rfl⟩
    go_wp2_with fail
    refine bodyPost_ret (v := .agg #[.int .i64 (5), .int .i64 (n / 11 % 3), .int .i64 (n / 33 % 4), .int .i64 (0)]) ?_ rfl ⟨rfl, ?_⟩
    · simp [results, Tryd.results37, go_sem]
    · repeat (first | exact grown_refl _ _ | refine grown_alloc ?_ | refine grown_setNew ?_ (by simp; omega))
  · have HE : Hid (insM n many = ⟨6, n / 11 % 3, n / 33 % 4, 0⟩) := by unfold Hid insM; simp [e]
    rw [HE.out]
    clear HE
    go_enter Tryd.func37, Tryd.ntmps37
    go_wp2_with fail
    refine (HPK.out _).mono ?_
    rintro e' w1 ⟨rfl, rfl⟩
    go_wp2_with fail
    refine bodyPost_ret (v := .agg #[.int .i64 (6), .int .i64 (n / 11 % 3), .int .i64 (n / 33 % 4), .int .i64 (0)]) ?_ rfl ⟨rfl, ?_⟩
    · simp [results, Tryd.results37, go_sem]
    · repeat (first | exact grown_refl _ _ | refine grown_alloc ?_ | refine grown_setNew ?_ (by simp; omega))
  · have HE : Hid (insM n many = ⟨7, n / 11 % 3, n / 33 % 4, 0⟩) := by unfold Hid insM; simp [e]
    rw [HE.out]
    clear HE
    go_enter Tryd.func37, Tryd.ntmps37
    go_wp2_with fail
    refine (HPK.out _).mono ?_
    rintro e' w1 ⟨rfl, rfl⟩
    go_wp2_with fail
    refine bodyPost_ret (v := .agg #[.int .i64 (7), .int .i64 (n / 11 % 3), .int .i64 (n / 33 % 4), .int .i64 (0)]) ?_ rfl ⟨rfl, ?_⟩
    · simp [results, Tryd.results37, go_sem]
    · repeat (first | exact grown_refl _ _ | refine grown_alloc ?_ | refine grown_setNew ?_ (by simp; omega))
  · have HE : Hid (insM n many = ⟨8, n / 11 % 3, 0, n / 132 % (many + 1)⟩) := by unfold Hid insM; simp [e]
    rw [HE.out]
    clear HE
    go_enter Tryd.func37, Tryd.ntmps37
    go_wp2_with fail
    refine (HPK.out _).mono ?_
    rintro e' w1 ⟨rfl, rfl⟩
    go_wp2_with fail
    refine bodyPost_ret (v := .agg #[.int .i64 (8), .int .i64 (n / 11 % 3), .int .i64 (0), .int .i64 (n / 132 % (many + 1))]) ?_ rfl ⟨rfl, ?_⟩
    · simp [results, Tryd.results37, go_sem]
    · repeat (first | exact grown_refl _ _ | refine grown_alloc ?_ | refine grown_setNew ?_ (by simp; omega))
  · have HE : Hid (insM n many = ⟨9, n / 11 % 3, 0, 0⟩) := by unfold Hid insM; simp [e]
    rw [HE.out]
    clear HE
    go_enter Tryd.func37, Tryd.ntmps37
    go_wp2_with fail
    refine (HPK.out _).mono ?_
    rintro e' w1 ⟨rfl, rfl⟩
    go_wp2_with fail
    refine bodyPost_ret (v := .agg #[.int .i64 (9), .int .i64 (n / 11 % 3), .int .i64 (0), .int .i64 (0)]) ?_ rfl ⟨rfl, ?_⟩
    · simp [results, Tryd.results37, go_sem]
    · repeat (first | exact grown_refl _ _ | refine grown_alloc ?_ | refine grown_setNew ?_ (by simp; omega))
  · have HE : Hid (insM n many = ⟨10, n / 11 % 3, 0, 0⟩) := by unfold Hid insM; simp [e]
    rw [HE.out]
    clear HE
    go_enter Tryd.func37, Tryd.ntmps37
    go_wp2_with fail
    refine (HPK.out _).mono ?_
    rintro e' w1 ⟨rfl, rfl⟩
    go_wp2_with fail
    refine bodyPost_ret (v := .agg #[.int .i64 (10), .int .i64 (n / 11 % 3), .int .i64 (0), .int .i64 (0)]) ?_ rfl ⟨rfl, ?_⟩
    · simp [results, Tryd.results37, go_sem]
    · repeat (first | exact grown_refl _ _ | refine grown_alloc ?_ | refine grown_setNew ?_ (by simp; omega))
  · by_cases hb : 0 < n / 33 % 4
    · have HE : Hid (insM n many = ⟨2, n / 11 % 3, n / 33 % 4, 0⟩) := by unfold Hid insM; simp [e, hb]
      rw [HE.out]
      clear HE
      go_enter Tryd.func37, Tryd.ntmps37
      go_wp2_with fail
      refine (HPK.out _).mono ?_
      rintro e' w1 ⟨rfl, rfl⟩
      go_wp2_with fail
      refine bodyPost_ret (v := .agg #[.int .i64 (2), .int .i64 (n / 11 % 3), .int .i64 (n / 33 % 4), .int .i64 (0)]) ?_ rfl ⟨rfl, ?_⟩
      · simp [results, Tryd.results37, go_sem]
      · repeat (first | exact grown_refl _ _ | refine grown_alloc ?_ | refine grown_setNew ?_ (by simp; omega))
    · have HE : Hid (insM n many = ⟨11, n / 11 % 3, 0, 0⟩) := by unfold Hid insM; simp [e, hb]
      have hb2 : n / 33 % 4 ≤ 0 := by omega
      rw [HE.out]
      clear HE
      go_enter Tryd.func37, Tryd.ntmps37
      go_wp2_with fail
      refine (HPK.out _).mono ?_
      rintro e' w1 ⟨rfl, rfl⟩
      go_wp2_with fail
      refine bodyPost_ret (v := .agg #[.int .i64 (11), .int .i64 (n / 11 % 3), .int .i64 (0), .int .i64 (0)]) ?_ rfl ⟨rfl, ?_⟩
      · simp [results, Tryd.results37, go_sem]
      · repeat (first | exact grown_refl _ _ | refine grown_alloc ?_ | refine grown_setNew ?_ (by simp; omega))

theorem instruction_m (c many : Int) (hc : -9223372036854775808 ≤ c) (hc2 : c ≤ 9223372036854775807) (h0 : 0 ≤ many) (h16 : many ≤ 16) (w : World) :
    Calls Tryd.prog 37 #[.int .i64 c, .int .i64 many] w fun e w' => e = .returned (.agg #[.int .i64 (insN c many).op, .int .i64 (insN c many).a, .int .i64 (insN c many).b, .int .i64 (insN c many).n]) ∧ w.grownBy w' none :=
  instruction_core c many _ (pick_m c 1099511627776 (by omega) (by omega) hc hc2) (pickN_range c 1099511627776 (by omega)).1 (pickN_range c 1099511627776 (by omega)).2 h0 h16 w

end Go.Proofs.YtklenjmfalljgaaDoor
