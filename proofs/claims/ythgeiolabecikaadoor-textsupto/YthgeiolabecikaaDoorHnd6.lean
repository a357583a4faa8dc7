/- The walk of holds. -/
import Derived.Test.YthgeiolabecikaaDoorHnd5
namespace Go.Proofs.YthgeiolabecikaaDoor
open Go.RowKit
attribute [local go_sem] Go.World.cell?_alloc_some

theorem Hd.like {B : Nat} {w w' : World} {b : Nat} {n : Int} {K : List (Value × Int)} (h : Hd B w b n K) (hl : Like w' w) : Hd B w' b n K := h.grown (grown_of_like hl)

set_option maxRecDepth 100000 in
set_option maxHeartbeats 1000000 in
theorem holds_m (B : Nat) (w : World) (b : Nat) (n : Int) (K : List (Value × Int)) (hH : Hd B w b n K) (hK : K.length ≤ 1000) :
    Calls Tryd.prog 39 #[pt b] w fun e w' => e = .returned (.bool true) ∧ Like w' w := by
  obtain ⟨ov, mv, hh, hk⟩ := hH
  obtain ⟨o1, o2, o3, rfl⟩ := owns_form hk.orow
  have ho2 := owns_lenq hk.orow
  subst ho2
  obtain ⟨m1, m2, m3, rfl⟩ := owns_form hk.mrow
  have hm2 := owns_lenq hk.mrow
  subst hm2
  have c6 : w.cell? ⟨b, 6, none⟩ = some (.slice o1 K.length o3) := hh.cell 6
  have c7 : w.cell? ⟨b, 7, none⟩ = some (.slice m1 K.length m3) := hh.cell 7
  have c8 : w.cell? ⟨b, 8, none⟩ = some (.slice none 0 0) := hh.cell 8
  have c10 : w.cell? ⟨b, 10, none⟩ = some (.slice none 0 0) := hh.cell 10
  have c12 : w.cell? ⟨b, 12, none⟩ = some (.slice none 0 0) := hh.cell 12
  have c14 : w.cell? ⟨b, 14, none⟩ = some (.slice none 0 0) := hh.cell 14
  have HK := hide hk
  have hpt : pt b = .pointer (some ⟨b, 0, none⟩) := rfl
  rw [hpt]
  have hK2 : (K.length : Int) ≤ 1000 := by omega
  have HC : Hid (∀ w', Like w' w → ∀ o, w'.cell? ⟨b, o, none⟩ = w.cell? ⟨b, o, none⟩) := by
    intro w' hl o; simp [World.cell?, hl.1]
  clear hh hk hpt
  go_enter Tryd.func39, Tryd.ntmps39
  go_wp2_with fail
  go_loopw [3] (fun i w' => ∃ k : Nat, k ≤ K.length ∧ i = .int .i64 k ∧ Hid (Like w' w)) (fun i _ => K.length - (intOf i).toNat)
  case atStart => exact ⟨0, Nat.zero_le _, rfl, hide (like_refl _)⟩
  case round =>
    obtain ⟨k, hk, rfl, HLK⟩ := hrel
    obtain ⟨w5, hw5⟩ : ∃ w5, w5 = wr := ⟨_, rfl⟩
    rw [← hw5] at HLK ⊢
    clear hw5
    have e6 : w5.cell? ⟨b, 6, none⟩ = some (.slice o1 K.length o3) := by rw [HC.out w5 HLK.out]; exact c6
    by_cases hlt : k < K.length
    · obtain ⟨og, oc, eo, _, _⟩ := HK.out.orow.form (by omega)
      obtain ⟨mg, mc, em, _, _⟩ := HK.out.mrow.form (by omega)
      have horow := HK.out.orow
      have hmrow := HK.out.mrow
      rw [eo] at horow
      rw [em] at hmrow
      simp only [Value.slice.injEq, true_and] at eo em
      obtain ⟨rfl, rfl⟩ := eo
      obtain ⟨rfl, rfl⟩ := em
      have hkept := (HK.out.kept K[k] (List.getElem_mem hlt)).1
      have d0 : w.cell? ⟨og, k, none⟩ = some K[k].1 := by rw [horow.cellAt k (by omega)]; simp [hlt]
      have d1 : w.cell? ⟨mg, k, none⟩ = some (.int .i64 K[k].2) := by rw [hmrow.cellAt k (by omega)]; simp [ints, hlt]
      have q0 : (0 : Int) ≤ (k : Int) := by omega
      have q1 : (k : Int) < K.length := by omega
      have HKT := hide hkept
      clear horow hmrow hkept
      generalize K[k] = x at *
      obtain ⟨xv, xm⟩ := x
      simp only at d0 d1
      obtain ⟨xa, xl, xc, hxv, hxl, hxc⟩ : ∃ xa xl xc, xv = .slice xa xl xc ∧ xl ≤ 1000 ∧ ∀ j, j < xl → ∃ g, xa = some ⟨g, 0, none⟩ ∧ w.cell? ⟨g, j, none⟩ = some (.int .i64 xm) := by
        rcases HKT.out with e | ⟨g, len, cap, e, hl, hc⟩
        · exact ⟨none, 0, 0, e, by omega, fun j hj => by omega⟩
        · exact ⟨some ⟨g, 0, none⟩, len, cap, e, hl, fun j hj => ⟨g, rfl, hc j hj⟩⟩
      subst hxv
      have HXC := hide hxc
      clear hxc
      have HL5 : ∀ w', Like w' w → ∀ a, w'.cell? a = w.cell? a := fun w' hl a => by simp [World.cell?, hl.1]
      have HLL := hide HL5
      clear HL5
      go_wp2_with fail
      go_loopw [4] (fun i w' => ∃ j : Nat, j ≤ xl ∧ i = .int .i64 j ∧ Hid (Like w' w)) (fun i _ => xl - (intOf i).toNat)
      case atStart => exact ⟨0, Nat.zero_le _, rfl, HLK⟩
      case round =>
        obtain ⟨j, hj, rfl, HLJ⟩ := hrel
        obtain ⟨w7, hw7⟩ : ∃ w7, w7 = wr := ⟨_, rfl⟩
        rw [← hw7] at HLJ ⊢
        clear hw7 e6
        have f6 : w7.cell? ⟨b, 6, none⟩ = some (.slice (some ⟨og, 0, none⟩) K.length o3) := by rw [HLL.out w7 HLJ.out]; exact c6
        have f7 : w7.cell? ⟨b, 7, none⟩ = some (.slice (some ⟨mg, 0, none⟩) K.length m3) := by rw [HLL.out w7 HLJ.out]; exact c7
        have g0 : w7.cell? ⟨og, k, none⟩ = some (.slice xa xl xc) := by rw [HLL.out w7 HLJ.out]; exact d0
        have g1 : w7.cell? ⟨mg, k, none⟩ = some (.int .i64 xm) := by rw [HLL.out w7 HLJ.out]; exact d1
        by_cases hjl : j < xl
        · obtain ⟨g, rfl, hcj⟩ := HXC.out j hjl
          have g2 : w7.cell? ⟨g, j, none⟩ = some (.int .i64 xm) := by rw [HLL.out w7 HLJ.out]; exact hcj
          have q2 : (0 : Int) ≤ (j : Int) := by omega
          have q3 : (j : Int) < xl := by omega
          clear hcj c6 c7 c8 c10 c12 c14 d0 d1
          go_wp2_with fail
          go_quiet (fail)
          go_wp2_with fail
          go_roundw
          case rel => exact ⟨j + 1, by omega, by go_num, hide (like_dn HLJ.out _)⟩
          case measure => simp [intOf]; omega
        · have q3 : (xl : Int) ≤ (j : Int) := by omega
          clear c6 c7 c8 c10 c12 c14 d0 d1
          go_wp2_with fail
          go_roundw
          case rel => exact ⟨k + 1, by omega, by go_num, HLJ⟩
          case measure => simp [intOf]; omega
    · have q1 : (K.length : Int) ≤ (k : Int) := by omega
      have e8 : w5.cell? ⟨b, 8, none⟩ = some (.slice none 0 0) := by rw [HC.out w5 HLK.out]; exact c8
      have e10 : w5.cell? ⟨b, 10, none⟩ = some (.slice none 0 0) := by rw [HC.out w5 HLK.out]; exact c10
      have e12 : w5.cell? ⟨b, 12, none⟩ = some (.slice none 0 0) := by rw [HC.out w5 HLK.out]; exact c12
      have e14 : w5.cell? ⟨b, 14, none⟩ = some (.slice none 0 0) := by rw [HC.out w5 HLK.out]; exact c14
      clear c6 c7 c8 c10 c12 c14
      go_wp2_with fail
      go_loopw [5] (fun i w' => i = .int .i64 0 ∧ Hid (w' = w5)) (fun _ _ => 0)
      case atStart => exact ⟨rfl, hide rfl⟩
      case round =>
        obtain ⟨rfl, HW⟩ := hrel
        rw [HW.out]
        clear HW
        go_wp2_with fail
        go_loopw [7] (fun i w' => i = .int .i64 0 ∧ Hid (w' = w5)) (fun _ _ => 0)
        case atStart => exact ⟨rfl, hide rfl⟩
        case round =>
          obtain ⟨rfl, HW⟩ := hrel
          rw [HW.out]
          clear HW
          go_wp2_with fail
          go_loopw [9] (fun i w' => i = .int .i64 0 ∧ Hid (w' = w5)) (fun _ _ => 0)
          case atStart => exact ⟨rfl, hide rfl⟩
          case round =>
            obtain ⟨rfl, HW⟩ := hrel
            rw [HW.out]
            clear HW
            go_wp2_with fail
            go_loopw [11] (fun i w' => i = .int .i64 0 ∧ Hid (w' = w5)) (fun _ _ => 0)
            case atStart => exact ⟨rfl, hide rfl⟩
            case round =>
              obtain ⟨rfl, HW⟩ := hrel
              rw [HW.out]
              clear HW
              go_wp2_with fail
              go_ret
              exact ⟨rfl, HLK.out⟩

end Go.Proofs.YthgeiolabecikaaDoor
