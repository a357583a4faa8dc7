/- The texts Hgn Hgd0 Hgv Hgo. -/
import Derived.Test.YtklenjmfalljgaaGreatDoorM05
import Derived.Test.YtklenjmfalljgaaGreatDoorM08
import Derived.Test.YtklenjmfalljgaaGreatDoorM14
import Derived.Test.YtklenjmfalljgaaGreatDoorM15
import Derived.ChangeKeysEq

/- The walk of the hands' holds, whole. -/
namespace Go.Proofs.YtklenjmfalljgaaGreatDoor
open Go.RowKit

theorem run_eq4h (a b c d : Int) (w : World) : (Op.equalIn 10000 29 (.agg #[.int .i64 a, .int .i64 b, .int .i64 c, .int .i64 d]) (.agg #[.int .i64 a, .int .i64 b, .int .i64 c, .int .i64 d])).run Tryz.prog w = .ok true w := by
  obtain ⟨i0, hi0, hz0, hz1, hz2⟩ := info_parts info_int
  have hc : Tryz.prog.cellsOf 3 = 1 := by simp [Program.cellsOf, hi0, hz1]
  have hk : Tryz.prog.plainKey 3 = true := by simp [Program.plainKey, Tryz.underlying3]
  rw [show (10000 : Nat) = 9999 + 1 from rfl, run_equalIn_array w 9999 _ _ (n := 4) (e := 3) (by first | exact Tryz.underlying29 | kernel_rfl) hi0, hc]
  have he : ∀ (d : Nat) (v : Int), (Op.equalIn (d + 1) 3 (.int .i64 v) (.int .i64 v)).run Tryz.prog w = .ok true w := fun d v => by
    rw [run_equalIn_int w d _ _ .i64 v v Tryz.underlying3]; simp
  have hq := he 9998
  simp only [Nat.reduceAdd] at hq
  have p0 := run_part_plain w hk (xs := #[.int .i64 a, .int .i64 b, .int .i64 c, .int .i64 d]) (off := 0) rfl
  have p1 := run_part_plain w hk (xs := #[.int .i64 a, .int .i64 b, .int .i64 c, .int .i64 d]) (off := 1) rfl
  have p2 := run_part_plain w hk (xs := #[.int .i64 a, .int .i64 b, .int .i64 c, .int .i64 d]) (off := 2) rfl
  have p3 := run_part_plain w hk (xs := #[.int .i64 a, .int .i64 b, .int .i64 c, .int .i64 d]) (off := 3) rfl
  simp [List.range, List.range.loop, Op.eqItems, Sem.run_bind, p0, p1, p2, p3, hq, Result.andThen_ok]
attribute [local go_sem] Go.World.cell?_alloc_some run_eq4h

theorem kept_read {c : Nat} {w : World} {who : Nat → Role} {v : Value} {m : Int} (h : KeptC c w who (v, m)) (hc : c ≠ 4) : ∃ xa xl xc, v = .slice xa xl xc ∧ xl ≤ 1000 ∧ ∀ j, j < xl → ∃ g, xa = some ⟨g, 0, none⟩ ∧ ∀ t u, (elC m c)[t]? = some u → w.cell? ⟨g, j * (elC m c).length + t, none⟩ = some u := by
  rcases h with e | ⟨g, len, cap, e, hl, hin⟩
  · exact ⟨none, 0, 0, e, by omega, fun j hj => by omega⟩
  · exact ⟨some ⟨g, 0, none⟩, len, cap, e, hl, fun j hj => ⟨g, rfl, (keptIn_plain hc).1 hin j hj⟩⟩
theorem kept_read4 {w : World} {who : Nat → Role} {v : Value} {m : Int} (h : KeptC 4 w who (v, m)) : ∃ xa xl xc, v = .slice xa xl xc ∧ xl ≤ 1000 ∧ ∀ j, j < xl → ∃ g g' cap', xa = some ⟨g, 0, none⟩ ∧ w.cell? ⟨g, j, none⟩ = some (.slice (some ⟨g', 0, none⟩) 1 cap') ∧ w.heap[g']? = some (.cells (elC m 3).toArray 74 (0, 0)) := by
  rcases h with e | ⟨g, len, cap, e, hl, hin⟩
  · exact ⟨none, 0, 0, e, by omega, fun j hj => by omega⟩
  · refine ⟨some ⟨g, 0, none⟩, len, cap, e, hl, fun j hj => ?_⟩
    obtain ⟨g', cap', h1, h2, _⟩ := keptIn_four.1 hin j hj
    exact ⟨g, g', cap', rfl, h1, h2⟩
theorem two_rows {w : World} {B : Nat} {T : TypeId} {v u : Value} {L : List (Value × Int)} (h1 : w.ownsRow B T 1 v L.length (L.map (·.1))) (h2 : w.ownsRow B 3 1 u L.length (ints (L.map (·.2)))) {i : Nat} (hi : i < L.length) :
    ∃ g c g' c', v = .slice (some ⟨g, 0, none⟩) L.length c ∧ u = .slice (some ⟨g', 0, none⟩) L.length c' ∧ w.cell? ⟨g, i, none⟩ = some L[i].1 ∧ w.cell? ⟨g', i, none⟩ = some (.int .i64 L[i].2) := by
  obtain ⟨g, c, e, _, _⟩ := h1.form (by omega)
  obtain ⟨g', c', e', _, _⟩ := h2.form (by omega)
  refine ⟨g, c, g', c', e, e', ?_, ?_⟩
  · rw [e] at h1; rw [h1.cellAt i (by omega)]; simp [hi]
  · rw [e'] at h2; rw [h2.cellAt i (by omega)]; simp [ints, hi]

set_option maxRecDepth 100000 in
set_option maxHeartbeats 4000000 in
theorem holds_g (B : Nat) (w : World) (b : Nat) (who : Nat → Role) (n : Int) (f : Nat → Value) (K : Nat → List (Value × Int)) (hH : HsK B w b who n f K) (hK : ∀ c, c < 5 → (K c).length ≤ 6000000000000) :
    Calls Tryz.prog 35 #[pt b] w fun e w' => e = .returned (.bool true) ∧ Like w' w := by
  have HH := hide hH
  have hpt : pt b = .pointer (some ⟨b, 0, none⟩) := rfl
  rw [hpt]
  have hK0 := hK 0 (by omega)
  have rl0 : w.ownsRow B 25 1 (f 6) (K 0).length ((K 0).map (·.1)) := hH.1.lst 0 (by omega)
  have rm0 : w.ownsRow B 3 1 (f 7) (K 0).length (ints ((K 0).map (·.2))) := by have := hH.1.mrk 0 (by omega); simpa [marksOf] using this
  have HL0 := hide rl0
  have HM0 := hide rm0
  have cl0 := hH.1.blk.cell (o := 6) (by omega)
  have cm0 := hH.1.blk.cell (o := 7) (by omega)
  obtain ⟨la0, lb0, lc0, el0⟩ := owns_form rl0
  obtain ⟨ma0, mb0, mc0, em0⟩ := owns_form rm0
  rw [el0] at cl0 rl0
  rw [em0] at cm0 rm0
  have hlb0 := owns_lenq rl0
  have hmb0 := owns_lenq rm0
  subst hlb0 hmb0
  have HCL0 := hide cl0
  have HCM0 := hide cm0
  have HEL0 := hide el0
  have HEM0 := hide em0
  have HKP0 := hide (fun x hx => (hH.1.kept 0 (by omega) x hx).1)
  clear rl0 rm0 cl0 cm0 el0 em0
  have hK1 := hK 1 (by omega)
  have rl1 : w.ownsRow B 28 1 (f 8) (K 1).length ((K 1).map (·.1)) := hH.1.lst 1 (by omega)
  have rm1 : w.ownsRow B 3 1 (f 9) (K 1).length (ints ((K 1).map (·.2))) := by have := hH.1.mrk 1 (by omega); simpa [marksOf] using this
  have HL1 := hide rl1
  have HM1 := hide rm1
  have cl1 := hH.1.blk.cell (o := 8) (by omega)
  have cm1 := hH.1.blk.cell (o := 9) (by omega)
  obtain ⟨la1, lb1, lc1, el1⟩ := owns_form rl1
  obtain ⟨ma1, mb1, mc1, em1⟩ := owns_form rm1
  rw [el1] at cl1 rl1
  rw [em1] at cm1 rm1
  have hlb1 := owns_lenq rl1
  have hmb1 := owns_lenq rm1
  subst hlb1 hmb1
  have HCL1 := hide cl1
  have HCM1 := hide cm1
  have HEL1 := hide el1
  have HEM1 := hide em1
  have HKP1 := hide (fun x hx => (hH.1.kept 1 (by omega) x hx).1)
  clear rl1 rm1 cl1 cm1 el1 em1
  have hK2 := hK 2 (by omega)
  have rl2 : w.ownsRow B 30 1 (f 10) (K 2).length ((K 2).map (·.1)) := hH.1.lst 2 (by omega)
  have rm2 : w.ownsRow B 3 1 (f 11) (K 2).length (ints ((K 2).map (·.2))) := by have := hH.1.mrk 2 (by omega); simpa [marksOf] using this
  have HL2 := hide rl2
  have HM2 := hide rm2
  have cl2 := hH.1.blk.cell (o := 10) (by omega)
  have cm2 := hH.1.blk.cell (o := 11) (by omega)
  obtain ⟨la2, lb2, lc2, el2⟩ := owns_form rl2
  obtain ⟨ma2, mb2, mc2, em2⟩ := owns_form rm2
  rw [el2] at cl2 rl2
  rw [em2] at cm2 rm2
  have hlb2 := owns_lenq rl2
  have hmb2 := owns_lenq rm2
  subst hlb2 hmb2
  have HCL2 := hide cl2
  have HCM2 := hide cm2
  have HEL2 := hide el2
  have HEM2 := hide em2
  have HKP2 := hide (fun x hx => (hH.1.kept 2 (by omega) x hx).1)
  clear rl2 rm2 cl2 cm2 el2 em2
  have hK3 := hK 3 (by omega)
  have rl3 : w.ownsRow B 75 1 (f 12) (K 3).length ((K 3).map (·.1)) := hH.1.lst 3 (by omega)
  have rm3 : w.ownsRow B 3 1 (f 13) (K 3).length (ints ((K 3).map (·.2))) := by have := hH.1.mrk 3 (by omega); simpa [marksOf] using this
  have HL3 := hide rl3
  have HM3 := hide rm3
  have cl3 := hH.1.blk.cell (o := 12) (by omega)
  have cm3 := hH.1.blk.cell (o := 13) (by omega)
  obtain ⟨la3, lb3, lc3, el3⟩ := owns_form rl3
  obtain ⟨ma3, mb3, mc3, em3⟩ := owns_form rm3
  rw [el3] at cl3 rl3
  rw [em3] at cm3 rm3
  have hlb3 := owns_lenq rl3
  have hmb3 := owns_lenq rm3
  subst hlb3 hmb3
  have HCL3 := hide cl3
  have HCM3 := hide cm3
  have HEL3 := hide el3
  have HEM3 := hide em3
  have HKP3 := hide (fun x hx => (hH.1.kept 3 (by omega) x hx).1)
  clear rl3 rm3 cl3 cm3 el3 em3
  have hK4 := hK 4 (by omega)
  have rl4 : w.ownsRow B 22 1 (f 14) (K 4).length ((K 4).map (·.1)) := hH.1.lst 4 (by omega)
  have rm4 : w.ownsRow B 3 1 (f 15) (K 4).length (ints ((K 4).map (·.2))) := by have := hH.1.mrk 4 (by omega); simpa [marksOf] using this
  have HL4 := hide rl4
  have HM4 := hide rm4
  have cl4 := hH.1.blk.cell (o := 14) (by omega)
  have cm4 := hH.1.blk.cell (o := 15) (by omega)
  obtain ⟨la4, lb4, lc4, el4⟩ := owns_form rl4
  obtain ⟨ma4, mb4, mc4, em4⟩ := owns_form rm4
  rw [el4] at cl4 rl4
  rw [em4] at cm4 rm4
  have hlb4 := owns_lenq rl4
  have hmb4 := owns_lenq rm4
  subst hlb4 hmb4
  have HCL4 := hide cl4
  have HCM4 := hide cm4
  have HEL4 := hide el4
  have HEM4 := hide em4
  have HKP4 := hide (fun x hx => (hH.1.kept 4 (by omega) x hx).1)
  clear rl4 rm4 cl4 cm4 el4 em4
  have HLL : Hid (∀ w', Like w' w → ∀ a, w'.cell? a = w.cell? a) := fun w' hl a => by simp [World.cell?, hl.1]
  clear hH hK hpt
  have qK0 : ((K 0).length : Int) ≤ 6000000000000 := by omega
  generalize hk0 : K 0 = L0 at *
  clear hk0
  have qK1 : ((K 1).length : Int) ≤ 6000000000000 := by omega
  generalize hk1 : K 1 = L1 at *
  clear hk1
  have qK2 : ((K 2).length : Int) ≤ 6000000000000 := by omega
  generalize hk2 : K 2 = L2 at *
  clear hk2
  have qK3 : ((K 3).length : Int) ≤ 6000000000000 := by omega
  generalize hk3 : K 3 = L3 at *
  clear hk3
  have qK4 : ((K 4).length : Int) ≤ 6000000000000 := by omega
  generalize hk4 : K 4 = L4 at *
  clear hk4
  go_enter Tryz.func35, Tryz.ntmps35
  go_wp2_with fail
  go_loopw [3] (fun i w' => ∃ k : Nat, k ≤ L0.length ∧ i = .int .i64 k ∧ Hid (Like w' w)) (fun i _ => L0.length - (intOf i).toNat)
  case atStart => exact ⟨0, Nat.zero_le _, rfl, hide (like_refl _)⟩
  case round =>
    skip
    obtain ⟨k, hk, rfl, HLK⟩ := hrel
    obtain ⟨w5, hw5⟩ : ∃ w5, w5 = wr := ⟨_, rfl⟩
    rw [← hw5] at HLK ⊢
    clear hw5
    have e6 : w5.cell? ⟨b, 6, none⟩ = some (.slice la0 L0.length lc0) := by rw [HLL.out w5 HLK.out]; exact HCL0.out
    by_cases hlt : k < L0.length
    · obtain ⟨og, oc, mg, mc, eo, em, d0, d1⟩ := two_rows HL0.out HM0.out hlt
      rw [HEL0.out] at eo
      rw [HEM0.out] at em
      simp only [Value.slice.injEq, true_and] at eo em
      obtain ⟨rfl, rfl⟩ := eo
      obtain ⟨rfl, rfl⟩ := em
      have HKT := hide (HKP0.out L0[k] (List.getElem_mem hlt))
      have q0 : (0 : Int) ≤ (k : Int) := by omega
      have q1 : (k : Int) < L0.length := by omega
      generalize L0[k] = x at *
      obtain ⟨xv, xm⟩ := x
      simp only at d0 d1
      obtain ⟨xa, xl, xc, hxv, hxl, hxc⟩ := kept_read HKT.out (by omega)
      subst hxv
      have HXC := hide hxc
      clear hxc HKT
      have e7 : w5.cell? ⟨og, k, none⟩ = some (.slice xa xl xc) := by rw [HLL.out w5 HLK.out]; exact d0
      have qx : (xl : Int) ≤ 1000 := by omega
      go_wp2_with fail
      go_loopw [4] (fun i w' => ∃ j : Nat, j ≤ xl ∧ i = .int .i64 j ∧ Hid (Like w' w)) (fun i _ => xl - (intOf i).toNat)
      case atStart => exact ⟨0, Nat.zero_le _, rfl, HLK⟩
      case round =>
        clear e6 e7 HLK
        obtain ⟨j, hj, rfl, HLJ⟩ := hrel
        obtain ⟨w7, hw7⟩ : ∃ w7, w7 = wr := ⟨_, rfl⟩
        rw [← hw7] at HLJ ⊢
        clear hw7
        have f6 : w7.cell? ⟨b, 6, none⟩ = some (.slice (some ⟨og, 0, none⟩) L0.length lc0) := by rw [HLL.out w7 HLJ.out]; exact HCL0.out
        have f7 : w7.cell? ⟨b, 7, none⟩ = some (.slice (some ⟨mg, 0, none⟩) L0.length mc0) := by rw [HLL.out w7 HLJ.out]; exact HCM0.out
        have k0 : w7.cell? ⟨og, k, none⟩ = some (.slice xa xl xc) := by rw [HLL.out w7 HLJ.out]; exact d0
        have k1 : w7.cell? ⟨mg, k, none⟩ = some (.int .i64 xm) := by rw [HLL.out w7 HLJ.out]; exact d1
        by_cases hjl : j < xl
        · obtain ⟨g, rfl, hcj⟩ := HXC.out j hjl
          have g0 : w7.cell? ⟨g, j, none⟩ = some (.int .i64 xm) := by rw [HLL.out w7 HLJ.out]; exact (by simpa [elC] using hcj 0 _ rfl)
          have q2 : (0 : Int) ≤ (j : Int) := by omega
          have q3 : (j : Int) < xl := by omega
          clear hcj d0 d1
          go_wp2_with fail
          go_quiet (fail)
          go_wp2_with fail
          go_roundw
          case rel => exact ⟨j + 1, by omega, by go_num, hide (like_dn HLJ.out _)⟩
          case measure => simp [intOf]; omega
        · have q3 : (xl : Int) ≤ (j : Int) := by omega
          clear d0 d1
          go_wp2_with fail
          go_roundw
          case rel => exact ⟨k + 1, by omega, by go_num, HLJ⟩
          case measure => simp [intOf]; omega
    · have q1 : (L0.length : Int) ≤ (k : Int) := by omega
      go_wp2_with fail
      go_loopw [5] (fun i w' => ∃ k : Nat, k ≤ L1.length ∧ i = .int .i64 k ∧ Hid (Like w' w)) (fun i _ => L1.length - (intOf i).toNat)
      case atStart => exact ⟨0, Nat.zero_le _, rfl, HLK⟩
      case round =>
        clear HLK
        obtain ⟨k, hk, rfl, HLK⟩ := hrel
        obtain ⟨w5, hw5⟩ : ∃ w5, w5 = wr := ⟨_, rfl⟩
        rw [← hw5] at HLK ⊢
        clear hw5
        have e6 : w5.cell? ⟨b, 8, none⟩ = some (.slice la1 L1.length lc1) := by rw [HLL.out w5 HLK.out]; exact HCL1.out
        by_cases hlt : k < L1.length
        · obtain ⟨og, oc, mg, mc, eo, em, d0, d1⟩ := two_rows HL1.out HM1.out hlt
          rw [HEL1.out] at eo
          rw [HEM1.out] at em
          simp only [Value.slice.injEq, true_and] at eo em
          obtain ⟨rfl, rfl⟩ := eo
          obtain ⟨rfl, rfl⟩ := em
          have HKT := hide (HKP1.out L1[k] (List.getElem_mem hlt))
          have q0 : (0 : Int) ≤ (k : Int) := by omega
          have q1 : (k : Int) < L1.length := by omega
          generalize L1[k] = x at *
          obtain ⟨xv, xm⟩ := x
          simp only at d0 d1
          obtain ⟨xa, xl, xc, hxv, hxl, hxc⟩ := kept_read HKT.out (by omega)
          subst hxv
          have HXC := hide hxc
          clear hxc HKT
          have e7 : w5.cell? ⟨og, k, none⟩ = some (.slice xa xl xc) := by rw [HLL.out w5 HLK.out]; exact d0
          have qx : (xl : Int) ≤ 1000 := by omega
          go_wp2_with fail
          go_loopw [6] (fun i w' => ∃ j : Nat, j ≤ xl ∧ i = .int .i64 j ∧ Hid (Like w' w)) (fun i _ => xl - (intOf i).toNat)
          case atStart => exact ⟨0, Nat.zero_le _, rfl, HLK⟩
          case round =>
            clear e6 e7 HLK
            obtain ⟨j, hj, rfl, HLJ⟩ := hrel
            obtain ⟨w7, hw7⟩ : ∃ w7, w7 = wr := ⟨_, rfl⟩
            rw [← hw7] at HLJ ⊢
            clear hw7
            have f6 : w7.cell? ⟨b, 8, none⟩ = some (.slice (some ⟨og, 0, none⟩) L1.length lc1) := by rw [HLL.out w7 HLJ.out]; exact HCL1.out
            have f7 : w7.cell? ⟨b, 9, none⟩ = some (.slice (some ⟨mg, 0, none⟩) L1.length mc1) := by rw [HLL.out w7 HLJ.out]; exact HCM1.out
            have k0 : w7.cell? ⟨og, k, none⟩ = some (.slice xa xl xc) := by rw [HLL.out w7 HLJ.out]; exact d0
            have k1 : w7.cell? ⟨mg, k, none⟩ = some (.int .i64 xm) := by rw [HLL.out w7 HLJ.out]; exact d1
            by_cases hjl : j < xl
            · obtain ⟨g, rfl, hcj⟩ := HXC.out j hjl
              have g0 : w7.cell? ⟨g, j * 2, none⟩ = some (.int .i64 xm) := by rw [HLL.out w7 HLJ.out]; exact hcj 0 _ rfl
              have g1 : w7.cell? ⟨g, j * 2 + 1, none⟩ = some (.int .i64 0) := by rw [HLL.out w7 HLJ.out]; exact hcj 1 _ rfl
              have q2 : (0 : Int) ≤ (j : Int) := by omega
              have q3 : (j : Int) < xl := by omega
              clear hcj d0 d1
              go_wp2_with fail
              go_quiet (fail)
              go_wp2_with fail
              go_roundw
              case rel => exact ⟨j + 1, by omega, by go_num, hide (like_dn HLJ.out _)⟩
              case measure => simp [intOf]; omega
            · have q3 : (xl : Int) ≤ (j : Int) := by omega
              clear d0 d1
              go_wp2_with fail
              go_roundw
              case rel => exact ⟨k + 1, by omega, by go_num, HLJ⟩
              case measure => simp [intOf]; omega
        · have q1 : (L1.length : Int) ≤ (k : Int) := by omega
          go_wp2_with fail
          go_loopw [7] (fun i w' => ∃ k : Nat, k ≤ L2.length ∧ i = .int .i64 k ∧ Hid (Like w' w)) (fun i _ => L2.length - (intOf i).toNat)
          case atStart => exact ⟨0, Nat.zero_le _, rfl, HLK⟩
          case round =>
            clear HLK
            obtain ⟨k, hk, rfl, HLK⟩ := hrel
            obtain ⟨w5, hw5⟩ : ∃ w5, w5 = wr := ⟨_, rfl⟩
            rw [← hw5] at HLK ⊢
            clear hw5
            have e6 : w5.cell? ⟨b, 10, none⟩ = some (.slice la2 L2.length lc2) := by rw [HLL.out w5 HLK.out]; exact HCL2.out
            by_cases hlt : k < L2.length
            · obtain ⟨og, oc, mg, mc, eo, em, d0, d1⟩ := two_rows HL2.out HM2.out hlt
              rw [HEL2.out] at eo
              rw [HEM2.out] at em
              simp only [Value.slice.injEq, true_and] at eo em
              obtain ⟨rfl, rfl⟩ := eo
              obtain ⟨rfl, rfl⟩ := em
              have HKT := hide (HKP2.out L2[k] (List.getElem_mem hlt))
              have q0 : (0 : Int) ≤ (k : Int) := by omega
              have q1 : (k : Int) < L2.length := by omega
              generalize L2[k] = x at *
              obtain ⟨xv, xm⟩ := x
              simp only at d0 d1
              obtain ⟨xa, xl, xc, hxv, hxl, hxc⟩ := kept_read HKT.out (by omega)
              subst hxv
              have HXC := hide hxc
              clear hxc HKT
              have e7 : w5.cell? ⟨og, k, none⟩ = some (.slice xa xl xc) := by rw [HLL.out w5 HLK.out]; exact d0
              have qx : (xl : Int) ≤ 1000 := by omega
              go_wp2_with fail
              go_loopw [8] (fun i w' => ∃ j : Nat, j ≤ xl ∧ i = .int .i64 j ∧ Hid (Like w' w)) (fun i _ => xl - (intOf i).toNat)
              case atStart => exact ⟨0, Nat.zero_le _, rfl, HLK⟩
              case round =>
                clear e6 e7 HLK
                obtain ⟨j, hj, rfl, HLJ⟩ := hrel
                obtain ⟨w7, hw7⟩ : ∃ w7, w7 = wr := ⟨_, rfl⟩
                rw [← hw7] at HLJ ⊢
                clear hw7
                have f6 : w7.cell? ⟨b, 10, none⟩ = some (.slice (some ⟨og, 0, none⟩) L2.length lc2) := by rw [HLL.out w7 HLJ.out]; exact HCL2.out
                have f7 : w7.cell? ⟨b, 11, none⟩ = some (.slice (some ⟨mg, 0, none⟩) L2.length mc2) := by rw [HLL.out w7 HLJ.out]; exact HCM2.out
                have k0 : w7.cell? ⟨og, k, none⟩ = some (.slice xa xl xc) := by rw [HLL.out w7 HLJ.out]; exact d0
                have k1 : w7.cell? ⟨mg, k, none⟩ = some (.int .i64 xm) := by rw [HLL.out w7 HLJ.out]; exact d1
                by_cases hjl : j < xl
                · obtain ⟨g, rfl, hcj⟩ := HXC.out j hjl
                  have g0 : w7.cell? ⟨g, j * 4, none⟩ = some (.int .i64 xm) := by rw [HLL.out w7 HLJ.out]; exact hcj 0 _ rfl
                  have g1 : w7.cell? ⟨g, j * 4 + 1, none⟩ = some (.int .i64 1) := by rw [HLL.out w7 HLJ.out]; exact hcj 1 _ rfl
                  have g2 : w7.cell? ⟨g, j * 4 + 2, none⟩ = some (.int .i64 2) := by rw [HLL.out w7 HLJ.out]; exact hcj 2 _ rfl
                  have g3 : w7.cell? ⟨g, j * 4 + 3, none⟩ = some (.int .i64 3) := by rw [HLL.out w7 HLJ.out]; exact hcj 3 _ rfl
                  have q2 : (0 : Int) ≤ (j : Int) := by omega
                  have q3 : (j : Int) < xl := by omega
                  clear hcj d0 d1
                  go_wp2_with fail
                  go_quiet (fail)
                  go_wp2_with fail
                  go_roundw
                  case rel => exact ⟨j + 1, by omega, by go_num, hide (like_dn HLJ.out _)⟩
                  case measure => simp [intOf]; omega
                · have q3 : (xl : Int) ≤ (j : Int) := by omega
                  clear d0 d1
                  go_wp2_with fail
                  go_roundw
                  case rel => exact ⟨k + 1, by omega, by go_num, HLJ⟩
                  case measure => simp [intOf]; omega
            · have q1 : (L2.length : Int) ≤ (k : Int) := by omega
              go_wp2_with fail
              go_loopw [9] (fun i w' => ∃ k : Nat, k ≤ L3.length ∧ i = .int .i64 k ∧ Hid (Like w' w)) (fun i _ => L3.length - (intOf i).toNat)
              case atStart => exact ⟨0, Nat.zero_le _, rfl, HLK⟩
              case round =>
                clear HLK
                obtain ⟨k, hk, rfl, HLK⟩ := hrel
                obtain ⟨w5, hw5⟩ : ∃ w5, w5 = wr := ⟨_, rfl⟩
                rw [← hw5] at HLK ⊢
                clear hw5
                have e6 : w5.cell? ⟨b, 12, none⟩ = some (.slice la3 L3.length lc3) := by rw [HLL.out w5 HLK.out]; exact HCL3.out
                by_cases hlt : k < L3.length
                · obtain ⟨og, oc, mg, mc, eo, em, d0, d1⟩ := two_rows HL3.out HM3.out hlt
                  rw [HEL3.out] at eo
                  rw [HEM3.out] at em
                  simp only [Value.slice.injEq, true_and] at eo em
                  obtain ⟨rfl, rfl⟩ := eo
                  obtain ⟨rfl, rfl⟩ := em
                  have HKT := hide (HKP3.out L3[k] (List.getElem_mem hlt))
                  have q0 : (0 : Int) ≤ (k : Int) := by omega
                  have q1 : (k : Int) < L3.length := by omega
                  generalize L3[k] = x at *
                  obtain ⟨xv, xm⟩ := x
                  simp only at d0 d1
                  obtain ⟨xa, xl, xc, hxv, hxl, hxc⟩ := kept_read HKT.out (by omega)
                  subst hxv
                  have HXC := hide hxc
                  clear hxc HKT
                  have e7 : w5.cell? ⟨og, k, none⟩ = some (.slice xa xl xc) := by rw [HLL.out w5 HLK.out]; exact d0
                  have qx : (xl : Int) ≤ 1000 := by omega
                  go_wp2_with fail
                  go_loopw [10] (fun i w' => ∃ j : Nat, j ≤ xl ∧ i = .int .i64 j ∧ Hid (Like w' w)) (fun i _ => xl - (intOf i).toNat)
                  case atStart => exact ⟨0, Nat.zero_le _, rfl, HLK⟩
                  case round =>
                    clear e6 e7 HLK
                    obtain ⟨j, hj, rfl, HLJ⟩ := hrel
                    obtain ⟨w7, hw7⟩ : ∃ w7, w7 = wr := ⟨_, rfl⟩
                    rw [← hw7] at HLJ ⊢
                    clear hw7
                    have f6 : w7.cell? ⟨b, 12, none⟩ = some (.slice (some ⟨og, 0, none⟩) L3.length lc3) := by rw [HLL.out w7 HLJ.out]; exact HCL3.out
                    have f7 : w7.cell? ⟨b, 13, none⟩ = some (.slice (some ⟨mg, 0, none⟩) L3.length mc3) := by rw [HLL.out w7 HLJ.out]; exact HCM3.out
                    have k0 : w7.cell? ⟨og, k, none⟩ = some (.slice xa xl xc) := by rw [HLL.out w7 HLJ.out]; exact d0
                    have k1 : w7.cell? ⟨mg, k, none⟩ = some (.int .i64 xm) := by rw [HLL.out w7 HLJ.out]; exact d1
                    by_cases hjl : j < xl
                    · obtain ⟨g, rfl, hcj⟩ := HXC.out j hjl
                      have g0 : w7.cell? ⟨g, j * 4, none⟩ = some (.int .i64 xm) := by rw [HLL.out w7 HLJ.out]; exact hcj 0 _ rfl
                      have g1 : w7.cell? ⟨g, j * 4 + 1, none⟩ = some (.int .i64 0) := by rw [HLL.out w7 HLJ.out]; exact hcj 1 _ rfl
                      have g2 : w7.cell? ⟨g, j * 4 + 2, none⟩ = some (.int .i64 0) := by rw [HLL.out w7 HLJ.out]; exact hcj 2 _ rfl
                      have g3 : w7.cell? ⟨g, j * 4 + 3, none⟩ = some (.int .i64 0) := by rw [HLL.out w7 HLJ.out]; exact hcj 3 _ rfl
                      have q2 : (0 : Int) ≤ (j : Int) := by omega
                      have q3 : (j : Int) < xl := by omega
                      clear hcj d0 d1
                      go_wp2_with fail
                      go_quiet (fail)
                      go_wp2_with fail
                      go_roundw
                      case rel => exact ⟨j + 1, by omega, by go_num, hide (like_dn HLJ.out _)⟩
                      case measure => simp [intOf]; omega
                    · have q3 : (xl : Int) ≤ (j : Int) := by omega
                      clear d0 d1
                      go_wp2_with fail
                      go_roundw
                      case rel => exact ⟨k + 1, by omega, by go_num, HLJ⟩
                      case measure => simp [intOf]; omega
                · have q1 : (L3.length : Int) ≤ (k : Int) := by omega
                  go_wp2_with fail
                  go_loopw [11] (fun i w' => ∃ k : Nat, k ≤ L4.length ∧ i = .int .i64 k ∧ Hid (Like w' w)) (fun i _ => L4.length - (intOf i).toNat)
                  case atStart => exact ⟨0, Nat.zero_le _, rfl, HLK⟩
                  case round =>
                    clear HLK
                    obtain ⟨k, hk, rfl, HLK⟩ := hrel
                    obtain ⟨w5, hw5⟩ : ∃ w5, w5 = wr := ⟨_, rfl⟩
                    rw [← hw5] at HLK ⊢
                    clear hw5
                    have e6 : w5.cell? ⟨b, 14, none⟩ = some (.slice la4 L4.length lc4) := by rw [HLL.out w5 HLK.out]; exact HCL4.out
                    by_cases hlt : k < L4.length
                    · obtain ⟨og, oc, mg, mc, eo, em, d0, d1⟩ := two_rows HL4.out HM4.out hlt
                      rw [HEL4.out] at eo
                      rw [HEM4.out] at em
                      simp only [Value.slice.injEq, true_and] at eo em
                      obtain ⟨rfl, rfl⟩ := eo
                      obtain ⟨rfl, rfl⟩ := em
                      have HKT := hide (HKP4.out L4[k] (List.getElem_mem hlt))
                      have q0 : (0 : Int) ≤ (k : Int) := by omega
                      have q1 : (k : Int) < L4.length := by omega
                      generalize L4[k] = x at *
                      obtain ⟨xv, xm⟩ := x
                      simp only at d0 d1
                      obtain ⟨xa, xl, xc, hxv, hxl, hxc⟩ := kept_read4 HKT.out
                      subst hxv
                      have HXC := hide hxc
                      clear hxc HKT
                      have e7 : w5.cell? ⟨og, k, none⟩ = some (.slice xa xl xc) := by rw [HLL.out w5 HLK.out]; exact d0
                      have qx : (xl : Int) ≤ 1000 := by omega
                      go_wp2_with fail
                      go_loopw [12] (fun i w' => ∃ j : Nat, j ≤ xl ∧ i = .int .i64 j ∧ Hid (Like w' w)) (fun i _ => xl - (intOf i).toNat)
                      case atStart => exact ⟨0, Nat.zero_le _, rfl, HLK⟩
                      case round =>
                        clear e6 e7 HLK
                        obtain ⟨j, hj, rfl, HLJ⟩ := hrel
                        obtain ⟨w7, hw7⟩ : ∃ w7, w7 = wr := ⟨_, rfl⟩
                        rw [← hw7] at HLJ ⊢
                        clear hw7
                        have f6 : w7.cell? ⟨b, 14, none⟩ = some (.slice (some ⟨og, 0, none⟩) L4.length lc4) := by rw [HLL.out w7 HLJ.out]; exact HCL4.out
                        have f7 : w7.cell? ⟨b, 15, none⟩ = some (.slice (some ⟨mg, 0, none⟩) L4.length mc4) := by rw [HLL.out w7 HLJ.out]; exact HCM4.out
                        have k0 : w7.cell? ⟨og, k, none⟩ = some (.slice xa xl xc) := by rw [HLL.out w7 HLJ.out]; exact d0
                        have k1 : w7.cell? ⟨mg, k, none⟩ = some (.int .i64 xm) := by rw [HLL.out w7 HLJ.out]; exact d1
                        by_cases hjl : j < xl
                        · obtain ⟨g, g', cap', rfl, hcj, hcb⟩ := HXC.out j hjl
                          have g0 : w7.cell? ⟨g, j, none⟩ = some (.slice (some ⟨g', 0, none⟩) 1 cap') := by rw [HLL.out w7 HLJ.out]; exact hcj
                          have g1 : w7.cell? ⟨g', 0, none⟩ = some (.int .i64 xm) := by rw [HLL.out w7 HLJ.out]; simp [World.cell?, hcb, elC]
                          have g2 : w7.cell? ⟨g', 1, none⟩ = some (.int .i64 0) := by rw [HLL.out w7 HLJ.out]; simp [World.cell?, hcb, elC]
                          have g3 : w7.cell? ⟨g', 2, none⟩ = some (.int .i64 0) := by rw [HLL.out w7 HLJ.out]; simp [World.cell?, hcb, elC]
                          have g4 : w7.cell? ⟨g', 3, none⟩ = some (.int .i64 0) := by rw [HLL.out w7 HLJ.out]; simp [World.cell?, hcb, elC]
                          have q2 : (0 : Int) ≤ (j : Int) := by omega
                          have q3 : (j : Int) < xl := by omega
                          clear hcj hcb d0 d1
                          go_wp2_with fail
                          go_quiet (fail)
                          go_wp2_with fail
                          go_roundw
                          case rel => exact ⟨j + 1, by omega, by go_num, hide (like_dn HLJ.out _)⟩
                          case measure => simp [intOf]; omega
                        · have q3 : (xl : Int) ≤ (j : Int) := by omega
                          clear d0 d1
                          go_wp2_with fail
                          go_roundw
                          case rel => exact ⟨k + 1, by omega, by go_num, HLJ⟩
                          case measure => simp [intOf]; omega
                    · have q1 : (L4.length : Int) ≤ (k : Int) := by omega
                      go_wp2_with fail
                      go_ret
                      exact ⟨rfl, HLK.out⟩

end Go.Proofs.YtklenjmfalljgaaGreatDoor

/- The walk of keepInts, whole. -/
namespace Go.Proofs.YtklenjmfalljgaaGreatDoor
open Go.RowKit
attribute [local go_sem] Go.World.cell?_alloc_some

theorem set_el0 (m : Int) (xs : List Value) (k len : Nat) (hx : xs.length = len * 1) (hk : k < len) : (((List.replicate k (elC m 0)).flatten ++ xs.drop (k * 1)).set (k) (.int .i64 m)) = (List.replicate (k + 1) (elC m 0)).flatten ++ xs.drop ((k + 1) * 1) := by
  obtain ⟨ys, hy⟩ : ∃ ys, ys = (List.replicate k (elC m 0)).flatten := ⟨_, rfl⟩
  have hyl : ys.length = k * 1 := by rw [hy]; exact flat_rep_len _ _
  rw [← flat_rep_snoc, ← hy]
  have h1 : 1 ≤ (xs.drop (k * 1)).length := by rw [List.length_drop]; omega
  have h2 : xs.drop ((k + 1) * 1) = (xs.drop (k * 1)).drop 1 := by rw [List.drop_drop]; congr 1 <;> omega
  rw [h2]
  generalize xs.drop (k * 1) = zs at h1
  obtain ⟨z0, rest, rfl⟩ : ∃ z0 rest, zs = z0 :: rest := by
    match zs, h1 with
    | z0 :: rest, _ => exact ⟨z0, rest, rfl⟩
  rw [List.set_append, if_neg (by omega)]
  have e : k - ys.length = 0 := by omega
  rw [e]
  simp [elC]

set_option maxRecDepth 100000 in
set_option maxHeartbeats 2000000 in
theorem keepInts_g (B : Nat) (w : World) (b : Nat) (who : Nat → Role) (n : Int) (f : Nat → Value) (K : Nat → List (Value × Int)) (lv : Value) (len : Nat) (xs : List Value) (hH : HsK B w b who n f K) (hl : w.ownsRow B 3 1 lv len xs) (ho : ∀ g, lv.ownBlock = some g → who g = .other)
    (hn0 : 0 ≤ n) (hn1 : n ≤ 10000000000000) (hK : (K 0).length ≤ 5000000000000) (ha : len ≤ 900) :
    Calls Tryz.prog 46 #[pt b, lv] w fun e w' => (∃ v, e = .returned v) ∧ ∃ who' f' K', HsK B w' b who' (n + 1) f' K' ∧ After 0 w w' who who' f f' K K' (fun g => lv.ownBlock = some g) := by
  obtain ⟨i0, hi0, hz0, hz1, hz2⟩ := info_parts info_int
  obtain ⟨i1, hi1, hy0, hy1, hy2⟩ := info_parts info_ints
  obtain ⟨i2, hi2, hx0, hx1, hx2⟩ := info_parts info_int
  have hxl := hl.1
  obtain ⟨x1, x2, x3, rfl⟩ := owns_form hl
  have hx2 := (owns_lenq hl).symm
  subst hx2
  have HM := hide (mark_g hH.1 hn0 (by omega))
  have HO := hide ho
  have H0 : Hid (WrG B 0 w (w.setCell ⟨b, 5, none⟩ (.int .i64 (n + 1))) b who (n + 1) f (setF f 5 (.int .i64 (n + 1))) K (.slice x1 len x3) len xs (-77000000 - (n + 1)) 0) := by
    refine ⟨⟨hH.1.setCnt _, hH.2⟩, ?_, ?_, fun o ho => setF_ne _ _ (by omega)⟩
    · have hbo : (Value.slice x1 len x3).ownBlock ≠ some b := fun e => by have := ho b e; rw [hH.1.wb] at this; cases this
      have h5 := ownsRow_setCell_other (a := ⟨b, 5, none⟩) hl hbo (.int .i64 (n + 1))
      have e5 : (List.replicate 0 (elC (-77000000 - (n + 1)) 0)).flatten ++ xs.drop (0 * (elC (-77000000 - (n + 1)) 0).length) = xs := by simp
      rw [e5]; exact h5
    · exact Fr.set (Or.inl (by rw [hH.1.wb]; simp))
  have hpt : pt b = .pointer (some ⟨b, 0, none⟩) := rfl
  rw [hpt] at *
  clear hH hl ho hpt
  generalize hm : -77000000 - (n + 1) = m at *
  have HMM := hide hm
  clear hm
  go_enter Tryz.func46, Tryz.ntmps46
  go_wp2_with (go_at_call 57; refine HM.out.mono ?_; rintro e w1 ⟨rfl, rfl⟩)
  go_loopw [5] (fun i w' => ∃ k : Nat, k ≤ len ∧ i = .int .i64 k ∧ Hid (WrG B 0 w w' b who (n + 1) f (setF f 5 (.int .i64 (n + 1))) K (.slice x1 len x3) len xs m k)) (fun i _ => len - (intOf i).toNat)
  case atStart => exact ⟨0, Nat.zero_le _, rfl, H0⟩
  case round =>
    clear H0 HM
    obtain ⟨k, hk, rfl, HI⟩ := hrel
    obtain ⟨w5, hw5⟩ : ∃ w5, w5 = wr := ⟨_, rfl⟩
    rw [← hw5] at HI ⊢
    clear hw5
    by_cases hlt : k < len
    · obtain ⟨g, cp, e0, _, _⟩ := HI.out.row.form (by omega)
      have hrow : w5.ownsRow B 3 1 (.slice x1 len x3) len ((List.replicate k (elC m 0)).flatten ++ xs.drop (k * 1)) := HI.out.row
      rw [e0] at hrow
      simp only [Value.slice.injEq, true_and] at e0
      obtain ⟨rfl, rfl⟩ := e0
      have hgo := HO.out g rfl
      obtain ⟨u0, y0⟩ : ∃ u, w5.cell? ⟨g, k, none⟩ = some u := cell_at hrow (by omega)
      have z0 : w5.frozen? ⟨g, k, none⟩ = false := free_at hrow
      have HNX : Hid (WrG B 0 w (w5.setCell ⟨g, k, none⟩ (.int .i64 m)) b who (n + 1) f (setF f 5 (.int .i64 (n + 1))) K (.slice (some ⟨g, 0, none⟩) len x3) len xs m (k + 1)) := by
        have hs := HI.out
        refine ⟨(hs.hs.setOther hgo), ?_, ?_, hs.lent⟩
        · have h9 := (owns_setCell hrow (k) (.int .i64 m))
          have e9 := set_el0 m xs k len hxl hlt
          rw [e9] at h9
          exact h9
        · exact (hs.fr).trans (Fr.set (Or.inr rfl))
      have q0 : (0 : Int) ≤ (k : Int) := by omega
      have q1 : (k : Int) < len := by omega
      clear hrow hgo
      go_wp2_with fail
      go_roundw
      case rel => exact ⟨k + 1, by omega, by go_num, HNX⟩
      case measure => simp [intOf]; omega
    · have ek : k = len := by omega
      have q1 : (len : Int) ≤ (k : Int) := by omega
      have HS : Hid (∃ who1, KpG B 0 w w5 b who who1 (n + 1) m f (setF f 5 (.int .i64 (n + 1))) K K (.slice x1 len x3) len 0 (fun g => (Value.slice x1 len x3).ownBlock = some g)) := by
        have hi := HI.out
        rw [ek] at hi
        exact hi.kp (by omega) hxl (by omega) HO.out
      clear HI ek
      go_wp2_with fail
      go_loopw [1, 6] (fun lv' i w' => ∃ (k : Nat) (who' : Nat → Role) (f' : Nat → Value) (K' : Nat → List (Value × Int)), k ≤ 4 ∧ i = .int .i64 k ∧ Hid (KpG B 0 w w' b who who' (n + 1) m f f' K K' lv' (len + k) k (fun g => (Value.slice x1 len x3).ownBlock = some g))) (fun _ i _ => 4 - (intOf i).toNat)
      case atStart =>
        obtain ⟨who1, h1⟩ := HS.out
        exact ⟨0, who1, _, K, by omega, rfl, hide h1⟩
      case round =>
        clear HS
        obtain ⟨j, who', f', K', hj, rfl, HK⟩ := hrel
        obtain ⟨w7, hw7⟩ : ∃ w7, w7 = wr := ⟨_, rfl⟩
        rw [← hw7] at HK ⊢
        clear hw7
        have rO : w7.ownsRow B 25 1 (f' 6) (K' 0).length ((K' 0).map (·.1)) := HK.out.hs.lst 0 (by omega)
        have rM : w7.ownsRow B 3 1 (f' 7) (K' 0).length (ints ((K' 0).map (·.2))) := by have := HK.out.hs.mrk 0 (by omega); simpa [marksOf] using this
        have rL : w7.ownsRow B 3 1 u1 (len + j) (List.replicate (len + j) (elC m 0)).flatten := HK.out.cu.row
        have HLE : Hid ((K' 0).length = (K 0).length + j) := HK.out.len
        have c6 : w7.cell? ⟨b, 6, none⟩ = some (f' 6) := HK.out.hs.blk.cell (by omega)
        have hbase : B ≤ w7.heap.size := by have := HK.out.hs.blk.lt; have := (HK.out.hs.dom b (by rw [HK.out.hs.wb]; simp)).1; omega
        obtain ⟨l1, l2, l3, rfl⟩ := owns_form rL
        have hl2 := owns_lenq rL
        subst hl2
        obtain ⟨o1, o2, o3, eO⟩ := owns_form rO
        rw [eO] at rO c6
        have ho2 := owns_lenq rO
        subst ho2
        have hLL : (K' 0).length ≤ 5000000000003 ∨ ¬ j < 4 := by have := HLE.out; omega
        have HRL := hide rL
        have HRO := hide rO
        have HEO := hide eO
        have HRM := hide rM
        clear rL rO rM eO
        by_cases hj4 : j < 4
        · have hLL : (K' 0).length ≤ 5000000000003 := by omega
          have z2 : (j : Int) < 4 := by omega
          have h63a : (K' 0).length + 1 ≤ maxLen := by unfold maxLen; omega
          have h63c : len + j + 1 ≤ maxLen := by unfold maxLen; omega
          have HPU : Hid (∀ {o : Obj} {g6 c6 : Nat} {w6 : World}, w6.ownsRow B 25 1 (.slice (some ⟨g6, 0, none⟩) ((K' 0).length + 1) c6) ((K' 0).length + 1) ((K' 0).map (·.1) ++ [.slice l1 (len + j) l3]) →
              (((Value.slice o1 (K' 0).length o3).ownBlock = some g6 ∧ (w7.alloc o).grownBy w6 (some g6)) ∨ (g6 = w7.heap.size + 1 ∧ (w7.alloc o).grownBy w6 none)) →
              HB w6 b f' ∧ ∃ who'' f'', KpA B 0 w (w6.setCell ⟨b, 6, none⟩ (.slice (some ⟨g6, 0, none⟩) ((K' 0).length + 1) c6)) b who who'' (n + 1) m f f'' K K' (.slice l1 (len + j) l3) (len + j) j (fun g => (Value.slice x1 len x3).ownBlock = some g) ∧ f'' 7 = f' 7) := by
            intro o g6 c6 w6 hown key
            rw [← HEO.out] at key
            exact HK.out.push (by omega) hown key
          generalize hKl : (K' 0).length = N at *
          generalize hKm : (K' 0).map (·.1) = L1 at *
          have HKl := hide hKl
          clear hKl hKm
          go_upto_region 9 with (at_builtin; go_must (refine wpList_append_keeps rfl _ _ _ rfl B 25 i1 _ 1 24 Tryz.underlying38 hi1 hy0 hy1 hy2 rfl (by omega) (.slice o1 N o3) N L1 rfl (owns_alloc HRO.out) ⟨w7.heap.size, 0, none⟩ 1 1 [.slice l1 (len + j) l3] rfl rfl (World.news_of_block (cs := #[.slice l1 (len + j) l3]) (t := 25) (fr := (0, 0)) (heap_alloc_new w7 _)) (by simp [Value.oneCell']) (by omega) h63a (by omega) (by simp; omega) (w7.heap.size + 1) (by simp) ?_); intro g8 cap8 w8 hown8 key8 hlt8; have hb8 := (HPU.out hown8 key8).1; have p6 : w8.cell? ⟨b, 6, none⟩ = some (.slice o1 N o3) := (by rw [hb8.cell (by omega), HEO.out]); have p7 := hb8.frozen 6)
          obtain ⟨_, who9, f9, hk9, e9⟩ := HPU.out hown8 key8
          generalize w8.setCell ⟨b, 6, none⟩ (.slice (some ⟨g8, 0, none⟩) (N + 1) cap8) = w9 at *
          have HK9 := hide hk9
          have rM9 : w9.ownsRow B 3 1 (f9 7) N (ints ((K' 0).map (·.2))) := by
            have := hk9.hs.mrk 0 (by omega)
            rw [← HKl.out]
            simpa [marksOf] using this
          have c7 : w9.cell? ⟨b, 7, none⟩ = some (f9 7) := hk9.hs.blk.cell (by omega)
          obtain ⟨m1, m2, m3, eM⟩ := owns_form rM9
          rw [eM] at rM9 c7
          have hm2 := (owns_lenq rM9).symm
          subst hm2
          have hbase9 : B ≤ w9.heap.size := by have := hk9.hs.blk.lt; have := (hk9.hs.dom b (by rw [hk9.hs.wb]; simp)).1; omega
          have HRM9 := hide rM9
          have HEM := hide eM
          clear hown8 key8 hb8 p6 p7 hlt8 c6 hk9 e9 HPU rM9 eM HEO HRO HRM
          go_upto_region 10 with (at_builtin; go_must (refine wpList_append_keeps rfl _ _ _ rfl B 3 i2 _ 1 8 Tryz.underlying25 hi2 hx0 hx1 hx2 rfl (by omega) (.slice m1 N m3) N (ints ((K' 0).map (·.2))) rfl (owns_alloc HRM9.out) ⟨w9.heap.size, 0, none⟩ 1 1 [.int .i64 m] rfl rfl (World.news_of_block (cs := #[.int .i64 m]) (t := 3) (fr := (0, 0)) (heap_alloc_new w9 _)) (by simp [Value.oneCell']) (by omega) h63a (by omega) (by simp; omega) (w9.heap.size + 1) (by simp) ?_); intro g10 cap10 w10 hown10 key10 hlt10; have hb10 := (HK9.out.tell (by omega) (M1 := m1) (M3 := m3) HEM.out HKl.out hown10 key10).1; have p6 : w10.cell? ⟨b, 7, none⟩ = some (.slice m1 N m3) := (by rw [hb10.cell (by omega), HEM.out]); have p7 := hb10.frozen 7)
          obtain ⟨_, who11, f11, hk11⟩ := HK9.out.tell (by omega) (M1 := m1) (M3 := m3) HEM.out HKl.out hown10 key10
          generalize w10.setCell ⟨b, 7, none⟩ (.slice (some ⟨g10, 0, none⟩) (N + 1) cap10) = w11 at *
          have HK11 := hide hk11
          have HRL11 : Hid (w11.ownsRow B 3 1 (.slice l1 (len + j) l3) (len + j) (List.replicate (len + j) (elC m 0)).flatten) := hk11.cu.row
          have hbase11 : B ≤ w11.heap.size := by have := hk11.hs.blk.lt; have := (hk11.hs.dom b (by rw [hk11.hs.wb]; simp)).1; omega
          clear hown10 key10 hb10 p6 p7 hlt10 c7 hk11 HK9 HRM9 HEM HRL
          go_wp2_with (at_builtin; go_must (refine wpList_append_keeps rfl _ _ _ rfl B 3 i0 _ 1 8 Tryz.underlying25 hi0 hz0 hz1 hz2 rfl (by omega) (.slice l1 (len + j) l3) (len + j) (List.replicate (len + j) (elC m 0)).flatten rfl (owns_alloc HRL11.out) ⟨w11.heap.size, 0, none⟩ 1 1 [.int .i64 m] rfl rfl (World.news_of_block (cs := #[.int .i64 m]) (t := 3) (fr := (0, 0)) (heap_alloc_new w11 _)) (by simp [Value.oneCell']) (by omega) h63c (by omega) (by simp; omega) (w11.heap.size + 1) (by simp) ?_); intro g12 cap12 w12 hown12 key12 hlt12; have HK13 := hide (HK11.out.grow (by omega) (by omega) hown12 key12); clear hown12 key12 hlt12)
          go_roundw
          case rel =>
            obtain ⟨who13, h13⟩ := HK13.out
            exact ⟨j + 1, who13, _, _, by omega, by go_num, hide h13⟩
          case measure => simp [intOf]; omega
        · have z2 : (4 : Int) ≤ (j : Int) := by omega
          have HE : Hid (∃ who' f' K', HsK B w7 b who' (n + 1) f' K' ∧ After 0 w w7 who who' f f' K K' (fun g => (Value.slice x1 len x3).ownBlock = some g)) := by
            have ej : j = 4 := by omega
            have hk := HK.out
            rw [ej] at hk
            exact hk.done
          go_wp2_with fail
          go_end0
          exact ⟨⟨_, rfl⟩, HE.out⟩

end Go.Proofs.YtklenjmfalljgaaGreatDoor

/- What the hands' walks have in common. -/
namespace Go.Proofs.YtklenjmfalljgaaGreatDoor
open Go.RowKit

theorem val_other {B : Nat} {W w : World} {b : Nat} {who : Nat → Role} {n : Int} {f : Nat → Value} {K : Nat → List (Value × Int)} {sv : Value} {s : List Int} (hH : HsK B w b who n f K) (hWB : W.heap.size ≤ B) (hI : IntsAt W.heap.size W sv s) : valOther who sv := by
  intro g o l c e hl
  obtain ⟨ao, cap, rfl, _, h⟩ := hI
  simp only [Value.slice.injEq] at e
  obtain ⟨e1, e2, _⟩ := e
  obtain ⟨g', o', e3, e4, _⟩ := h 0 (by omega)
  rw [e1] at e3
  simp only [Option.some.injEq, Addr.mk.injEq, and_true] at e3
  by_cases ho : who g = .other
  · exact ho
  · have := (hH.1.dom g ho).1
    omega
/-- What a walk of the hands leaves that answers true. -/
def HzG (W : World) (B b : Nat) (n : Int) (K : Nat → List (Value × Int)) (e : Ending) (w' : World) : Prop :=
  e = .returned (.bool true) ∧ ∃ who' f' K', Hz B w' b who' n f' K' ∧ W.grownBy w' none ∧ ∀ c, c < 5 → (K' c).length ≤ (K c).length + 4
theorem Fr.step0 {w w1 w2 : World} {who who1 who2 : Nat → Role} {ex : Nat → Prop} (h : Fr w w1 who who1 ex) (hf : Fr w1 w2 who1 who2 (fun _ => False)) : Fr w w2 who who2 ex := h.trans (hf.mono fun _ e => e.elim)
theorem Fr.stepG {w w1 w2 : World} {who who1 : Nat → Role} {ex : Nat → Prop} (h : Fr w w1 who who1 ex) (hg : w1.grownBy w2 none) : Fr w w2 who who1 ex := h.trans (Fr.grown hg)
/-- The same; besides, all that was another's is as it was. -/
def HzF (W : World) (B b : Nat) (n : Int) (K : Nat → List (Value × Int)) (w : World) (who : Nat → Role) (e : Ending) (w' : World) : Prop :=
  e = .returned (.bool true) ∧ ∃ who' f' K', Hz B w' b who' n f' K' ∧ W.grownBy w' none ∧ (∀ c, c < 5 → (K' c).length ≤ (K c).length + 4) ∧ Fr w w' who who' (fun g => w.heap.size ≤ g)
theorem HzF.g {W w : World} {B b : Nat} {n : Int} {K : Nat → List (Value × Int)} {who : Nat → Role} {e : Ending} {w' : World} (h : HzF W B b n K w who e w') : HzG W B b n K e w' := by
  obtain ⟨h1, who', f', K', h2, h3, h4, _⟩ := h
  exact ⟨h1, who', f', K', h2, h3, h4⟩
/-- The same, where nothing more is kept. -/
def HzE (W : World) (B b : Nat) (n : Int) (K : Nat → List (Value × Int)) (w : World) (who : Nat → Role) (e : Ending) (w' : World) : Prop :=
  e = .returned (.bool true) ∧ ∃ who' f', Hz B w' b who' n f' K ∧ W.grownBy w' none ∧ Fr w w' who who' (fun g => w.heap.size ≤ g)
theorem HzE.g {W w : World} {B b : Nat} {n : Int} {K : Nat → List (Value × Int)} {who : Nat → Role} {e : Ending} {w' : World} (h : HzE W B b n K w who e w') : HzG W B b n K e w' := by
  obtain ⟨h1, who', f', h2, h3, _⟩ := h
  exact ⟨h1, who', f', K, h2, h3, fun c _ => Nat.le_add_right _ _⟩

end Go.Proofs.YtklenjmfalljgaaGreatDoor

/- The walk of the hands' formed. -/
namespace Go.Proofs.YtklenjmfalljgaaGreatDoor
open Go.RowKit
attribute [local go_sem] Go.World.cell?_alloc_some

/-- The list that Form answers. -/
def formOut (p : List (List Ins)) (s : List Int) : List Int := if checkRunN p s = 0 then formS p (runS p s) else []
theorem Formd.form {p : List (List Ins)} {s : List Int} {w w' : World} {e : Ending} (h : Formd p s w e w') :
    w.grownBy w' none ∧ ∃ v, e = .returned (.tuple #[v, .int .i64 (checkRunN p s)]) ∧ w'.ownsRow w.heap.size 3 1 v (formOut p s).length (ints (formOut p s)) := by
  obtain ⟨hg, h⟩ := h
  rcases h with ⟨h0, v, he, ho⟩ | ⟨h0, he⟩
  · exact ⟨hg, v, by rw [h0]; exact he, by unfold formOut; rw [if_pos h0]; exact ho⟩
  · exact ⟨hg, _, he, by unfold formOut; rw [if_neg h0]; exact ⟨rfl, Or.inl ⟨rfl, rfl⟩⟩⟩
theorem formOut_le (p : List (List Ins)) (s : List Int) : (formOut p s).length ≤ 500 := by
  unfold formOut
  by_cases h : checkRunN p s = 0
  · rw [if_pos h]
    have hv : vProg p = true ∧ s.length ≤ 500 := by
      unfold checkRunN at h
      by_cases hv : vProg p = true
      · by_cases h5 : s.length ≤ 500
        · exact ⟨hv, h5⟩
        · simp [hv, h5] at h
      · simp [hv] at h
    obtain ⟨xs, hSt⟩ := stood_of hv.1 s
    unfold formS
    rw [formE_length, hSt.ev]
    have h1 := steps_le p s
    rw [hSt.st] at h1
    simp at h1
    omega
  · rw [if_neg h]; simp
set_option maxHeartbeats 4000000 in
set_option maxRecDepth 100000 in
theorem formed_f (W : World) (B : Nat) (w : World) (b : Nat) (who : Nat → Role) (n : Int) (f : Nat → Value) (K : Nat → List (Value × Int)) (pv sv : Value) (p : List (List Ins)) (s : List Int)
    (h : Hz B w b who n f K) (hW : W.grownBy w none) (hWB : W.heap.size ≤ B) (hS : ShpAt W) (hP : ProgAt W pv p) (hI : IntsAt W.heap.size W sv s) (hpl : p.length ≤ 5864062014634) (hpc : ∀ c ∈ p, c.length ≤ 4398046510976) (hsl : s.length ≤ 17592186043904) (hn0 : 0 ≤ n) (hn1 : n ≤ 9000000000000) (hK : ∀ c, c < 5 → (K c).length ≤ 4900000000000) :
    Calls Tryz.prog 20 #[pt b, pv, sv] w (HzF W B b (n + 1) K w who) := by
  have HH := hide h
  have HW := hide hW
  have HS := hide hS
  have HP := hide hP
  have HI := hide hI
  have HPC := hide hpc
  have HK := hide hK
  obtain ⟨ao, cap, rfl⟩ := hP.form
  obtain ⟨so, sc, rfl⟩ := hI.form
  have hpt : pt b = .pointer (some ⟨b, 0, none⟩) := rfl
  have HPG := hide (program_g W B (w.alloc (.cells #[.slice ao p.length cap] 24)) b who n f K [] [] [] (.agg #[.slice ao p.length cap]) p (h.lx.grown (grown_alloc (grown_refl _ _))) (grown_alloc hW) hWB hP hpl hpc (by simpa using hpl) (by simp))
  clear h hW hS hP hI hpc hK
  rw [hpt] at HPG ⊢
  go_enter Tryz.func20, Tryz.ntmps20
  go_wp2_with fail
  refine HPG.out.mono ?_
  clear HPG
  rintro e w1 ⟨g, LC1, who1, f1, rfl, hx1, hlc, hf1, hb1⟩
  have hwo : who w.heap.size = .other := by
    by_cases e : who w.heap.size = .other
    · exact e
    · exact absurd (HH.out.1.1.dom _ e).2 (by omega)
  obtain ⟨hbx, hwx⟩ := hf1.oth w.heap.size (by simp) hwo (fun e => e)
  have HW1 : Hid (W.grownBy w1 none) := hf1.base (grown_alloc HW.out) hWB (fun g e => (HH.out.1.1.dom g e).1) (fun _ e => e.elim)
  have HF1 : Hid (Fr w w1 who who1 (fun g => w.heap.size ≤ g)) := (Fr.grown (grown_alloc (grown_refl _ _))).step0 hf1
  have c1 : w1.cell? ⟨w.heap.size, 0, none⟩ = some (.slice ao p.length cap) := by
    simp only [World.cell?, hbx, heap_alloc_new]; rfl
  have hlt1 : w.heap.size < w1.heap.size := World.block_lt_of_cell? w1 _ c1
  have hll : LC1.length = p.length := by rw [← hlc]; simp
  simp only [List.nil_append] at hx1
  have HSG := hide (schedule_g B w1 b who1 n f1 K [] LC1 [(g, p.length)] 0 (.slice so s.length sc) s hx1 ((HI.out.pres (pres_grown HW1.out)).mono HW1.out.size) (val_other hx1.hs hWB HI.out) hsl (by simp))
  have HX1 := hide hx1
  have HLC := hide hlc
  have HWX := hide hwx
  have HLL := hide hll
  have HC1 := hide c1
  clear hx1 hlc hf1 hb1 hbx hwo hwx hll c1
  rw [hpt] at HSG
  go_wp2_with fail
  refine HSG.out.mono ?_
  clear HSG
  rintro e w2 ⟨gs, who2, f2, rfl, hx2, hf2⟩
  simp only [List.nil_append] at hx2
  have HW2 : Hid (W.grownBy w2 none) := hf2.base HW1.out hWB (fun g e => (HX1.out.hs.1.dom g e).1) (fun _ e => e.elim)
  have HF2 : Hid (Fr w w2 who who2 (fun g => w.heap.size ≤ g)) := HF1.out.step0 hf2
  obtain ⟨hbx, hwx⟩ := hf2.oth w.heap.size hlt1 HWX.out (fun e => e)
  have HWX2 := hide hwx
  have HC2 : Hid (w2.cell? ⟨w.heap.size, 0, none⟩ = some (.slice ao p.length cap)) := by
    unfold Hid; rw [World.cell?_of_block hbx]; exact HC1.out
  have hlt2 : w.heap.size < w2.heap.size := World.block_lt_of_cell? w2 _ HC2.out
  have hgb : w2.heap[g]? = some (.cells (lentRows LC1) 75 (0, 0)) := by
    have := (hx2.le.lr 0 (by simp)).1
    simp only [List.getElem_cons_zero, List.take_zero, List.map_nil, List.sum_nil, List.drop_zero] at this
    rw [List.take_of_length_le (by rw [HLL.out]; omega)] at this
    exact this
  have hPx : ProgAt w2 (.agg #[.slice (some ⟨g, 0, none⟩) p.length (p.length + 2)]) p := lent_prog (LC0 := []) (by simpa using hx2.le) hgb HLC.out _
  have hIx : IntsAt w2.heap.size w2 (.slice (some ⟨gs, 0, none⟩) s.length (s.length + 2)) s := lent_ints (hx2.le.li (gs, s, .slice so s.length sc) (by simp)).1
  have HFM := hide (form_m p s _ _ w2 (HS.out.pres (pres_grown HW2.out)) hPx hIx)
  have HX2 := hide hx2
  clear hx2 hf2 hbx hwx hgb hPx hIx HX1 HC1 HWX hlt1
  go_wp2_with fail
  refine HFM.out.mono ?_
  clear HFM
  intro e w3 hF
  obtain ⟨hg3, v, he, ho3⟩ := hF.form
  clear hF
  subst he
  obtain ⟨x1, x2, x3, rfl⟩ := owns_form ho3
  have HO3 := hide ho3
  have HG23 := hide hg3
  have HW3 : Hid (W.grownBy w3 none) := grown_trans HW2.out hg3
  have HBK := hide (back_g B w3 b who2 n f2 K _ _ _ (HX2.out.grown hg3) (by simp) (by rw [HLL.out]; omega) (by simp))
  clear ho3 hg3
  rw [hpt] at HBK
  generalize hcr : checkRunN p s = cr at *
  have HCR := hide hcr
  clear hcr
  go_wp2_with fail
  refine HBK.out.mono ?_
  clear HBK
  rintro e w4 ⟨rfl, f4, hz4, hf4⟩
  have HW4 : Hid (W.grownBy w4 none) := hf4.base HW3.out hWB (fun g e => (HX2.out.hs.1.dom g e).1) (fun _ e => e.elim)
  have HF4 : Hid (Fr w w4 who who2 (fun g => w.heap.size ≤ g)) := (HF2.out.stepG HG23.out).step0 hf4
  have hbo : ∀ q, (Value.slice x1 x2 x3).ownBlock = some q → w2.heap.size ≤ q ∧ q < w3.heap.size ∧ who2 q = .other := fun q e => by
    have h1 := owns_block HO3.out q e
    refine ⟨h1, owns_ltH HO3.out q e, ?_⟩
    by_cases ho : who2 q = .other
    · exact ho
    · exact absurd (HX2.out.hs.1.dom q ho).2 (by omega)
  have HBO := hide hbo
  have HO4 : Hid (w4.ownsRow w2.heap.size 3 1 (.slice x1 x2 x3) (formOut p s).length (ints (formOut p s))) := owns_same HO3.out (fun q e => (hf4.oth q (hbo q e).2.1 (hbo q e).2.2 (fun e => e)).1)
  have c4 : w4.cell? ⟨w.heap.size, 0, none⟩ = some (.slice ao p.length cap) := by
    rw [World.cell?_of_block (hf4.oth w.heap.size (by have := HG23.out.size; omega) HWX2.out (fun e => e)).1]
    exact pres_grown HG23.out _ _ HC2.out
  have HZ4 := hide hz4
  have HRF := hide (refForm_m p s _ _ w4 (HP.out.pres (pres_grown HW4.out)) ((HI.out.pres (pres_grown HW4.out)).mono HW4.out.size) hpl HPC.out)
  have HD2 : Hid (B ≤ w2.heap.size) := by
    have := HX2.out.low
    unfold Hid; omega
  clear hz4 hf4 hbo HO3 HX2 HC2
  go_wp2_with fail
  refine HRF.out.mono ?_
  clear HRF
  intro e w5 hF
  obtain ⟨hg5, v', he, ho5⟩ := hF.form
  clear hF
  subst he
  rw [HCR.out]
  obtain ⟨y1, y2, y3, rfl⟩ := owns_form ho5
  have HG45 := hide hg5
  have HO5 : Hid (w5.ownsRow w2.heap.size 3 1 (.slice x1 x2 x3) (formOut p s).length (ints (formOut p s))) := owns_grown HO4.out hg5 (fun _ e => by cases e)
  have HSM := hide (same_m (formOut p s) (formOut p s) _ _ w5 (owns_ints HO5.out) (owns_ints ho5) (by have := formOut_le p s; omega))
  rw [show (formOut p s == formOut p s) = true by simp] at HSM
  clear hg5 ho5 HO4 c4
  go_wp2_with fail
  refine HSM.out.mono ?_
  clear HSM
  rintro e w6 ⟨rfl, hl6⟩
  have HG56 : Hid (w5.grownBy w6 none) := grown_of_like hl6
  have HG46 : Hid (w4.grownBy w6 none) := grown_trans HG45.out HG56.out
  have HO6 : Hid (w6.ownsRow B 3 1 (.slice x1 x2 x3) (formOut p s).length (ints (formOut p s))) := owns_mono (owns_grown HO5.out HG56.out (fun _ e => by cases e)) HD2.out
  have HKI := hide (keepInts_g B w6 b who2 n f4 K (.slice x1 x2 x3) (formOut p s).length _ (HZ4.out.1.grown HG46.out) HO6.out (fun q e => (HBO.out q e).2.2) hn0 (by omega) (by have := HK.out 0 (by omega); omega) (by have := formOut_le p s; omega))
  clear hl6 HO5 HO6
  rw [hpt] at HKI
  go_wp2_with fail
  refine HKI.out.mono ?_
  clear HKI
  rintro e w7 ⟨⟨rv, rfl⟩, who7, f7, K7, hH7, hA7⟩
  have HW6 : Hid (W.grownBy w6 none) := grown_trans HW4.out HG46.out
  have HW7 : Hid (W.grownBy w7 none) := hA7.fr.base HW6.out hWB (fun g e => (HZ4.out.1.1.dom g e).1) (fun q e => by have := (HBO.out q e).1; have := HW2.out.size; omega)
  have HF7 : Hid (Fr w w7 who who7 (fun g => w.heap.size ≤ g)) := (HF4.out.stepG HG46.out).trans (hA7.fr.mono fun q e => by have := (HBO.out q e).1; have := HF2.out.size; omega)
  have HZ7 : Hid (Hz B w7 b who7 (n + 1) f7 K7) := ⟨hH7, fun k hk => by rw [hA7.lent k hk]; exact HZ4.out.2 k hk⟩
  have HK7 : Hid (∀ c, c < 5 → (K7 c).length ≤ (K c).length + 4) := fun c hc => by
    by_cases e : c = 0
    · subst e; have := hA7.len; omega
    · rw [hA7.oth c e]; omega
  have HHO := hide (holds_g B w7 b who7 (n + 1) f7 K7 hH7 (fun c hc => by have := HK7.out c hc; have := HK.out c hc; omega))
  clear hH7 hA7
  rw [hpt] at HHO
  go_wp2_with fail
  refine HHO.out.mono ?_
  clear HHO
  rintro e w8 ⟨rfl, hl8⟩
  have HG78 : Hid (w7.grownBy w8 none) := grown_of_like hl8
  clear hl8
  go_wp2_with (go_at_call 31; refine (num_mR _ _).mono ?_; rintro e w9 ⟨rfl, hw9⟩; have hw9' := hw9.symm; subst hw9')
  go_ret
  exact ⟨by simp, who7, f7, K7, ⟨HZ7.out.1.grown HG78.out, HZ7.out.2⟩, grown_trans HW7.out HG78.out, HK7.out, HF7.out.stepG HG78.out⟩
theorem formed_g (W : World) (B : Nat) (w : World) (b : Nat) (who : Nat → Role) (n : Int) (f : Nat → Value) (K : Nat → List (Value × Int)) (pv sv : Value) (p : List (List Ins)) (s : List Int)
    (h : Hz B w b who n f K) (hW : W.grownBy w none) (hWB : W.heap.size ≤ B) (hS : ShpAt W) (hP : ProgAt W pv p) (hI : IntsAt W.heap.size W sv s) (hpl : p.length ≤ 5864062014634) (hpc : ∀ c ∈ p, c.length ≤ 4398046510976) (hsl : s.length ≤ 17592186043904) (hn0 : 0 ≤ n) (hn1 : n ≤ 9000000000000) (hK : ∀ c, c < 5 → (K c).length ≤ 4900000000000) :
    Calls Tryz.prog 20 #[pt b, pv, sv] w (HzG W B b (n + 1) K) :=
  (formed_f W B w b who n f K pv sv p s h hW hWB hS hP hI hpl hpc hsl hn0 hn1 hK).mono fun _ _ h => h.g

end Go.Proofs.YtklenjmfalljgaaGreatDoor
