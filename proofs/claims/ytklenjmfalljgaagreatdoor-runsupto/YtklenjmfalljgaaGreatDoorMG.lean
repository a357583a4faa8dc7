/- The texts Hgn Hgd0 Hgv Hgd1 Hgd2 Hgs Tla Hgr. -/
import Derived.Test.YtklenjmfalljgaaGreatDoorMF
import Derived.ChangeKeysEq
import Derived.Control

/- The walk of the hands' holds, whole. -/
namespace Go.Proofs.YtklenjmfalljgaaGreatDoor
open Go.RowKit

theorem run_eq4h (a b c d : Int) (w : World) : (Op.equalIn 10000 29 (.agg #[.int .i64 a, .int .i64 b, .int .i64 c, .int .i64 d]) (.agg #[.int .i64 a, .int .i64 b, .int .i64 c, .int .i64 d])).run Tryz.prog w = .ok true w := by
  obtain ⟨i0, hi0, hz0, hz1, hz2⟩ := info_parts info_int
  have hc : Tryz.prog.cellsOf 3 = 1 := by simp [Program.cellsOf, hi0, hz1]
  have hk : Tryz.prog.plainKey 3 = true := by simp [Program.plainKey, Tryz.underlying3]
  rw [show (10000 : Nat) = 9999 + 1 from rfl, run_equalIn_array w 9999 _ _ (n := 4) (e := 3) (by first | exact Tryz.underlying29 | kernel_rfl) hi0, hc]
  have he : ∀ (d : Nat) (v : Int), (Op.equalIn (d + 1) 3 (.int .i64 v) (.int .i64 v)).run Tryz.prog w = .ok true w := fun d v => by
    rw [run_equalIn_int w d _ _ .i64 v v Tryz.underlying3]; simp
  have hq := he 9998
  simp only [Nat.reduceAdd] at hq
  have p0 := run_part_plain w hk (xs := #[.int .i64 a, .int .i64 b, .int .i64 c, .int .i64 d]) (off := 0) rfl
  have p1 := run_part_plain w hk (xs := #[.int .i64 a, .int .i64 b, .int .i64 c, .int .i64 d]) (off := 1) rfl
  have p2 := run_part_plain w hk (xs := #[.int .i64 a, .int .i64 b, .int .i64 c, .int .i64 d]) (off := 2) rfl
  have p3 := run_part_plain w hk (xs := #[.int .i64 a, .int .i64 b, .int .i64 c, .int .i64 d]) (off := 3) rfl
  simp [List.range, List.range.loop, Op.eqItems, Sem.run_bind, p0, p1, p2, p3, hq, Result.andThen_ok]
attribute [local go_sem] Go.World.cell?_alloc_some run_eq4h

theorem kept_read {c : Nat} {w : World} {who : Nat → Role} {v : Value} {m : Int} (h : KeptC c w who (v, m)) (hc : c ≠ 4) : ∃ xa xl xc, v = .slice xa xl xc ∧ xl ≤ 1000 ∧ ∀ j, j < xl → ∃ g, xa = some ⟨g, 0, none⟩ ∧ ∀ t u, (elC m c)[t]? = some u → w.cell? ⟨g, j * (elC m c).length + t, none⟩ = some u := by
  rcases h with e | ⟨g, len, cap, e, hl, hin⟩
  · exact ⟨none, 0, 0, e, by omega, fun j hj => by omega⟩
  · exact ⟨some ⟨g, 0, none⟩, len, cap, e, hl, fun j hj => ⟨g, rfl, (keptIn_plain hc).1 hin j hj⟩⟩
theorem kept_read4 {w : World} {who : Nat → Role} {v : Value} {m : Int} (h : KeptC 4 w who (v, m)) : ∃ xa xl xc, v = .slice xa xl xc ∧ xl ≤ 1000 ∧ ∀ j, j < xl → ∃ g g' cap', xa = some ⟨g, 0, none⟩ ∧ w.cell? ⟨g, j, none⟩ = some (.slice (some ⟨g', 0, none⟩) 1 cap') ∧ w.heap[g']? = some (.cells (elC m 3).toArray 74 (0, 0)) := by
  rcases h with e | ⟨g, len, cap, e, hl, hin⟩
  · exact ⟨none, 0, 0, e, by omega, fun j hj => by omega⟩
  · refine ⟨some ⟨g, 0, none⟩, len, cap, e, hl, fun j hj => ?_⟩
    obtain ⟨g', cap', h1, h2, _⟩ := keptIn_four.1 hin j hj
    exact ⟨g, g', cap', rfl, h1, h2⟩
theorem two_rows {w : World} {B : Nat} {T : TypeId} {v u : Value} {L : List (Value × Int)} (h1 : w.ownsRow B T 1 v L.length (L.map (·.1))) (h2 : w.ownsRow B 3 1 u L.length (ints (L.map (·.2)))) {i : Nat} (hi : i < L.length) :
    ∃ g c g' c', v = .slice (some ⟨g, 0, none⟩) L.length c ∧ u = .slice (some ⟨g', 0, none⟩) L.length c' ∧ w.cell? ⟨g, i, none⟩ = some L[i].1 ∧ w.cell? ⟨g', i, none⟩ = some (.int .i64 L[i].2) := by
  obtain ⟨g, c, e, _, _⟩ := h1.form (by omega)
  obtain ⟨g', c', e', _, _⟩ := h2.form (by omega)
  refine ⟨g, c, g', c', e, e', ?_, ?_⟩
  · rw [e] at h1; rw [h1.cellAt i (by omega)]; simp [hi]
  · rw [e'] at h2; rw [h2.cellAt i (by omega)]; simp [ints, hi]

set_option maxRecDepth 100000 in
set_option maxHeartbeats 4000000 in
theorem holds_g (B : Nat) (w : World) (b : Nat) (who : Nat → Role) (n : Int) (f : Nat → Value) (K : Nat → List (Value × Int)) (hH : HsK B w b who n f K) (hK : ∀ c, c < 5 → (K c).length ≤ 6000000000000) :
    Calls Tryz.prog 35 #[pt b] w fun e w' => e = .returned (.bool true) ∧ Like w' w := by
  have HH := hide hH
  have hpt : pt b = .pointer (some ⟨b, 0, none⟩) := rfl
  rw [hpt]
  have hK0 := hK 0 (by omega)
  have rl0 : w.ownsRow B 25 1 (f 6) (K 0).length ((K 0).map (·.1)) := hH.1.lst 0 (by omega)
  have rm0 : w.ownsRow B 3 1 (f 7) (K 0).length (ints ((K 0).map (·.2))) := by have := hH.1.mrk 0 (by omega); simpa [marksOf] using this
  have HL0 := hide rl0
  have HM0 := hide rm0
  have cl0 := hH.1.blk.cell (o := 6) (by omega)
  have cm0 := hH.1.blk.cell (o := 7) (by omega)
  obtain ⟨la0, lb0, lc0, el0⟩ := owns_form rl0
  obtain ⟨ma0, mb0, mc0, em0⟩ := owns_form rm0
  rw [el0] at cl0 rl0
  rw [em0] at cm0 rm0
  have hlb0 := owns_lenq rl0
  have hmb0 := owns_lenq rm0
  subst hlb0 hmb0
  have HCL0 := hide cl0
  have HCM0 := hide cm0
  have HEL0 := hide el0
  have HEM0 := hide em0
  have HKP0 := hide (fun x hx => (hH.1.kept 0 (by omega) x hx).1)
  clear rl0 rm0 cl0 cm0 el0 em0
  have hK1 := hK 1 (by omega)
  have rl1 : w.ownsRow B 28 1 (f 8) (K 1).length ((K 1).map (·.1)) := hH.1.lst 1 (by omega)
  have rm1 : w.ownsRow B 3 1 (f 9) (K 1).length (ints ((K 1).map (·.2))) := by have := hH.1.mrk 1 (by omega); simpa [marksOf] using this
  have HL1 := hide rl1
  have HM1 := hide rm1
  have cl1 := hH.1.blk.cell (o := 8) (by omega)
  have cm1 := hH.1.blk.cell (o := 9) (by omega)
  obtain ⟨la1, lb1, lc1, el1⟩ := owns_form rl1
  obtain ⟨ma1, mb1, mc1, em1⟩ := owns_form rm1
  rw [el1] at cl1 rl1
  rw [em1] at cm1 rm1
  have hlb1 := owns_lenq rl1
  have hmb1 := owns_lenq rm1
  subst hlb1 hmb1
  have HCL1 := hide cl1
  have HCM1 := hide cm1
  have HEL1 := hide el1
  have HEM1 := hide em1
  have HKP1 := hide (fun x hx => (hH.1.kept 1 (by omega) x hx).1)
  clear rl1 rm1 cl1 cm1 el1 em1
  have hK2 := hK 2 (by omega)
  have rl2 : w.ownsRow B 30 1 (f 10) (K 2).length ((K 2).map (·.1)) := hH.1.lst 2 (by omega)
  have rm2 : w.ownsRow B 3 1 (f 11) (K 2).length (ints ((K 2).map (·.2))) := by have := hH.1.mrk 2 (by omega); simpa [marksOf] using this
  have HL2 := hide rl2
  have HM2 := hide rm2
  have cl2 := hH.1.blk.cell (o := 10) (by omega)
  have cm2 := hH.1.blk.cell (o := 11) (by omega)
  obtain ⟨la2, lb2, lc2, el2⟩ := owns_form rl2
  obtain ⟨ma2, mb2, mc2, em2⟩ := owns_form rm2
  rw [el2] at cl2 rl2
  rw [em2] at cm2 rm2
  have hlb2 := owns_lenq rl2
  have hmb2 := owns_lenq rm2
  subst hlb2 hmb2
  have HCL2 := hide cl2
  have HCM2 := hide cm2
  have HEL2 := hide el2
  have HEM2 := hide em2
  have HKP2 := hide (fun x hx => (hH.1.kept 2 (by omega) x hx).1)
  clear rl2 rm2 cl2 cm2 el2 em2
  have hK3 := hK 3 (by omega)
  have rl3 : w.ownsRow B 75 1 (f 12) (K 3).length ((K 3).map (·.1)) := hH.1.lst 3 (by omega)
  have rm3 : w.ownsRow B 3 1 (f 13) (K 3).length (ints ((K 3).map (·.2))) := by have := hH.1.mrk 3 (by omega); simpa [marksOf] using this
  have HL3 := hide rl3
  have HM3 := hide rm3
  have cl3 := hH.1.blk.cell (o := 12) (by omega)
  have cm3 := hH.1.blk.cell (o := 13) (by omega)
  obtain ⟨la3, lb3, lc3, el3⟩ := owns_form rl3
  obtain ⟨ma3, mb3, mc3, em3⟩ := owns_form rm3
  rw [el3] at cl3 rl3
  rw [em3] at cm3 rm3
  have hlb3 := owns_lenq rl3
  have hmb3 := owns_lenq rm3
  subst hlb3 hmb3
  have HCL3 := hide cl3
  have HCM3 := hide cm3
  have HEL3 := hide el3
  have HEM3 := hide em3
  have HKP3 := hide (fun x hx => (hH.1.kept 3 (by omega) x hx).1)
  clear rl3 rm3 cl3 cm3 el3 em3
  have hK4 := hK 4 (by omega)
  have rl4 : w.ownsRow B 22 1 (f 14) (K 4).length ((K 4).map (·.1)) := hH.1.lst 4 (by omega)
  have rm4 : w.ownsRow B 3 1 (f 15) (K 4).length (ints ((K 4).map (·.2))) := by have := hH.1.mrk 4 (by omega); simpa [marksOf] using this
  have HL4 := hide rl4
  have HM4 := hide rm4
  have cl4 := hH.1.blk.cell (o := 14) (by omega)
  have cm4 := hH.1.blk.cell (o := 15) (by omega)
  obtain ⟨la4, lb4, lc4, el4⟩ := owns_form rl4
  obtain ⟨ma4, mb4, mc4, em4⟩ := owns_form rm4
  rw [el4] at cl4 rl4
  rw [em4] at cm4 rm4
  have hlb4 := owns_lenq rl4
  have hmb4 := owns_lenq rm4
  subst hlb4 hmb4
  have HCL4 := hide cl4
  have HCM4 := hide cm4
  have HEL4 := hide el4
  have HEM4 := hide em4
  have HKP4 := hide (fun x hx => (hH.1.kept 4 (by omega) x hx).1)
  clear rl4 rm4 cl4 cm4 el4 em4
  have HLL : Hid (∀ w', Like w' w → ∀ a, w'.cell? a = w.cell? a) := fun w' hl a => by simp [World.cell?, hl.1]
  clear hH hK hpt
  have qK0 : ((K 0).length : Int) ≤ 6000000000000 := by omega
  generalize hk0 : K 0 = L0 at *
  clear hk0
  have qK1 : ((K 1).length : Int) ≤ 6000000000000 := by omega
  generalize hk1 : K 1 = L1 at *
  clear hk1
  have qK2 : ((K 2).length : Int) ≤ 6000000000000 := by omega
  generalize hk2 : K 2 = L2 at *
  clear hk2
  have qK3 : ((K 3).length : Int) ≤ 6000000000000 := by omega
  generalize hk3 : K 3 = L3 at *
  clear hk3
  have qK4 : ((K 4).length : Int) ≤ 6000000000000 := by omega
  generalize hk4 : K 4 = L4 at *
  clear hk4
  go_enter Tryz.func35, Tryz.ntmps35
  go_wp2_with fail
  go_loopw [3] (fun i w' => ∃ k : Nat, k ≤ L0.length ∧ i = .int .i64 k ∧ Hid (Like w' w)) (fun i _ => L0.length - (intOf i).toNat)
  case atStart => exact ⟨0, Nat.zero_le _, rfl, hide (like_refl _)⟩
  case round =>
    skip
    obtain ⟨k, hk, rfl, HLK⟩ := hrel
    obtain ⟨w5, hw5⟩ : ∃ w5, w5 = wr := ⟨_, rfl⟩
    rw [← hw5] at HLK ⊢
    clear hw5
    have e6 : w5.cell? ⟨b, 6, none⟩ = some (.slice la0 L0.length lc0) := by rw [HLL.out w5 HLK.out]; exact HCL0.out
    by_cases hlt : k < L0.length
    · obtain ⟨og, oc, mg, mc, eo, em, d0, d1⟩ := two_rows HL0.out HM0.out hlt
      rw [HEL0.out] at eo
      rw [HEM0.out] at em
      simp only [Value.slice.injEq, true_and] at eo em
      obtain ⟨rfl, rfl⟩ := eo
      obtain ⟨rfl, rfl⟩ := em
      have HKT := hide (HKP0.out L0[k] (List.getElem_mem hlt))
      have q0 : (0 : Int) ≤ (k : Int) := by omega
      have q1 : (k : Int) < L0.length := by omega
      generalize L0[k] = x at *
      obtain ⟨xv, xm⟩ := x
      simp only at d0 d1
      obtain ⟨xa, xl, xc, hxv, hxl, hxc⟩ := kept_read HKT.out (by omega)
      subst hxv
      have HXC := hide hxc
      clear hxc HKT
      have e7 : w5.cell? ⟨og, k, none⟩ = some (.slice xa xl xc) := by rw [HLL.out w5 HLK.out]; exact d0
      have qx : (xl : Int) ≤ 1000 := by omega
      go_wp2_with fail
      go_loopw [4] (fun i w' => ∃ j : Nat, j ≤ xl ∧ i = .int .i64 j ∧ Hid (Like w' w)) (fun i _ => xl - (intOf i).toNat)
      case atStart => exact ⟨0, Nat.zero_le _, rfl, HLK⟩
      case round =>
        clear e6 e7 HLK
        obtain ⟨j, hj, rfl, HLJ⟩ := hrel
        obtain ⟨w7, hw7⟩ : ∃ w7, w7 = wr := ⟨_, rfl⟩
        rw [← hw7] at HLJ ⊢
        clear hw7
        have f6 : w7.cell? ⟨b, 6, none⟩ = some (.slice (some ⟨og, 0, none⟩) L0.length lc0) := by rw [HLL.out w7 HLJ.out]; exact HCL0.out
        have f7 : w7.cell? ⟨b, 7, none⟩ = some (.slice (some ⟨mg, 0, none⟩) L0.length mc0) := by rw [HLL.out w7 HLJ.out]; exact HCM0.out
        have k0 : w7.cell? ⟨og, k, none⟩ = some (.slice xa xl xc) := by rw [HLL.out w7 HLJ.out]; exact d0
        have k1 : w7.cell? ⟨mg, k, none⟩ = some (.int .i64 xm) := by rw [HLL.out w7 HLJ.out]; exact d1
        by_cases hjl : j < xl
        · obtain ⟨g, rfl, hcj⟩ := HXC.out j hjl
          have g0 : w7.cell? ⟨g, j, none⟩ = some (.int .i64 xm) := by rw [HLL.out w7 HLJ.out]; exact (by simpa [elC] using hcj 0 _ rfl)
          have q2 : (0 : Int) ≤ (j : Int) := by omega
          have q3 : (j : Int) < xl := by omega
          clear hcj d0 d1
          go_wp2_with fail
          go_quiet (fail)
          go_wp2_with fail
          go_roundw
          case rel => exact ⟨j + 1, by omega, by go_num, hide (like_dn HLJ.out _)⟩
          case measure => simp [intOf]; omega
        · have q3 : (xl : Int) ≤ (j : Int) := by omega
          clear d0 d1
          go_wp2_with fail
          go_roundw
          case rel => exact ⟨k + 1, by omega, by go_num, HLJ⟩
          case measure => simp [intOf]; omega
    · have q1 : (L0.length : Int) ≤ (k : Int) := by omega
      go_wp2_with fail
      go_loopw [5] (fun i w' => ∃ k : Nat, k ≤ L1.length ∧ i = .int .i64 k ∧ Hid (Like w' w)) (fun i _ => L1.length - (intOf i).toNat)
      case atStart => exact ⟨0, Nat.zero_le _, rfl, HLK⟩
      case round =>
        clear HLK
        obtain ⟨k, hk, rfl, HLK⟩ := hrel
        obtain ⟨w5, hw5⟩ : ∃ w5, w5 = wr := ⟨_, rfl⟩
        rw [← hw5] at HLK ⊢
        clear hw5
        have e6 : w5.cell? ⟨b, 8, none⟩ = some (.slice la1 L1.length lc1) := by rw [HLL.out w5 HLK.out]; exact HCL1.out
        by_cases hlt : k < L1.length
        · obtain ⟨og, oc, mg, mc, eo, em, d0, d1⟩ := two_rows HL1.out HM1.out hlt
          rw [HEL1.out] at eo
          rw [HEM1.out] at em
          simp only [Value.slice.injEq, true_and] at eo em
          obtain ⟨rfl, rfl⟩ := eo
          obtain ⟨rfl, rfl⟩ := em
          have HKT := hide (HKP1.out L1[k] (List.getElem_mem hlt))
          have q0 : (0 : Int) ≤ (k : Int) := by omega
          have q1 : (k : Int) < L1.length := by omega
          generalize L1[k] = x at *
          obtain ⟨xv, xm⟩ := x
          simp only at d0 d1
          obtain ⟨xa, xl, xc, hxv, hxl, hxc⟩ := kept_read HKT.out (by omega)
          subst hxv
          have HXC := hide hxc
          clear hxc HKT
          have e7 : w5.cell? ⟨og, k, none⟩ = some (.slice xa xl xc) := by rw [HLL.out w5 HLK.out]; exact d0
          have qx : (xl : Int) ≤ 1000 := by omega
          go_wp2_with fail
          go_loopw [6] (fun i w' => ∃ j : Nat, j ≤ xl ∧ i = .int .i64 j ∧ Hid (Like w' w)) (fun i _ => xl - (intOf i).toNat)
          case atStart => exact ⟨0, Nat.zero_le _, rfl, HLK⟩
          case round =>
            clear e6 e7 HLK
            obtain ⟨j, hj, rfl, HLJ⟩ := hrel
            obtain ⟨w7, hw7⟩ : ∃ w7, w7 = wr := ⟨_, rfl⟩
            rw [← hw7] at HLJ ⊢
            clear hw7
            have f6 : w7.cell? ⟨b, 8, none⟩ = some (.slice (some ⟨og, 0, none⟩) L1.length lc1) := by rw [HLL.out w7 HLJ.out]; exact HCL1.out
            have f7 : w7.cell? ⟨b, 9, none⟩ = some (.slice (some ⟨mg, 0, none⟩) L1.length mc1) := by rw [HLL.out w7 HLJ.out]; exact HCM1.out
            have k0 : w7.cell? ⟨og, k, none⟩ = some (.slice xa xl xc) := by rw [HLL.out w7 HLJ.out]; exact d0
            have k1 : w7.cell? ⟨mg, k, none⟩ = some (.int .i64 xm) := by rw [HLL.out w7 HLJ.out]; exact d1
            by_cases hjl : j < xl
            · obtain ⟨g, rfl, hcj⟩ := HXC.out j hjl
              have g0 : w7.cell? ⟨g, j * 2, none⟩ = some (.int .i64 xm) := by rw [HLL.out w7 HLJ.out]; exact hcj 0 _ rfl
              have g1 : w7.cell? ⟨g, j * 2 + 1, none⟩ = some (.int .i64 0) := by rw [HLL.out w7 HLJ.out]; exact hcj 1 _ rfl
              have q2 : (0 : Int) ≤ (j : Int) := by omega
              have q3 : (j : Int) < xl := by omega
              clear hcj d0 d1
              go_wp2_with fail
              go_quiet (fail)
              go_wp2_with fail
              go_roundw
              case rel => exact ⟨j + 1, by omega, by go_num, hide (like_dn HLJ.out _)⟩
              case measure => simp [intOf]; omega
            · have q3 : (xl : Int) ≤ (j : Int) := by omega
              clear d0 d1
              go_wp2_with fail
              go_roundw
              case rel => exact ⟨k + 1, by omega, by go_num, HLJ⟩
              case measure => simp [intOf]; omega
        · have q1 : (L1.length : Int) ≤ (k : Int) := by omega
          go_wp2_with fail
          go_loopw [7] (fun i w' => ∃ k : Nat, k ≤ L2.length ∧ i = .int .i64 k ∧ Hid (Like w' w)) (fun i _ => L2.length - (intOf i).toNat)
          case atStart => exact ⟨0, Nat.zero_le _, rfl, HLK⟩
          case round =>
            clear HLK
            obtain ⟨k, hk, rfl, HLK⟩ := hrel
            obtain ⟨w5, hw5⟩ : ∃ w5, w5 = wr := ⟨_, rfl⟩
            rw [← hw5] at HLK ⊢
            clear hw5
            have e6 : w5.cell? ⟨b, 10, none⟩ = some (.slice la2 L2.length lc2) := by rw [HLL.out w5 HLK.out]; exact HCL2.out
            by_cases hlt : k < L2.length
            · obtain ⟨og, oc, mg, mc, eo, em, d0, d1⟩ := two_rows HL2.out HM2.out hlt
              rw [HEL2.out] at eo
              rw [HEM2.out] at em
              simp only [Value.slice.injEq, true_and] at eo em
              obtain ⟨rfl, rfl⟩ := eo
              obtain ⟨rfl, rfl⟩ := em
              have HKT := hide (HKP2.out L2[k] (List.getElem_mem hlt))
              have q0 : (0 : Int) ≤ (k : Int) := by omega
              have q1 : (k : Int) < L2.length := by omega
              generalize L2[k] = x at *
              obtain ⟨xv, xm⟩ := x
              simp only at d0 d1
              obtain ⟨xa, xl, xc, hxv, hxl, hxc⟩ := kept_read HKT.out (by omega)
              subst hxv
              have HXC := hide hxc
              clear hxc HKT
              have e7 : w5.cell? ⟨og, k, none⟩ = some (.slice xa xl xc) := by rw [HLL.out w5 HLK.out]; exact d0
              have qx : (xl : Int) ≤ 1000 := by omega
              go_wp2_with fail
              go_loopw [8] (fun i w' => ∃ j : Nat, j ≤ xl ∧ i = .int .i64 j ∧ Hid (Like w' w)) (fun i _ => xl - (intOf i).toNat)
              case atStart => exact ⟨0, Nat.zero_le _, rfl, HLK⟩
              case round =>
                clear e6 e7 HLK
                obtain ⟨j, hj, rfl, HLJ⟩ := hrel
                obtain ⟨w7, hw7⟩ : ∃ w7, w7 = wr := ⟨_, rfl⟩
                rw [← hw7] at HLJ ⊢
                clear hw7
                have f6 : w7.cell? ⟨b, 10, none⟩ = some (.slice (some ⟨og, 0, none⟩) L2.length lc2) := by rw [HLL.out w7 HLJ.out]; exact HCL2.out
                have f7 : w7.cell? ⟨b, 11, none⟩ = some (.slice (some ⟨mg, 0, none⟩) L2.length mc2) := by rw [HLL.out w7 HLJ.out]; exact HCM2.out
                have k0 : w7.cell? ⟨og, k, none⟩ = some (.slice xa xl xc) := by rw [HLL.out w7 HLJ.out]; exact d0
                have k1 : w7.cell? ⟨mg, k, none⟩ = some (.int .i64 xm) := by rw [HLL.out w7 HLJ.out]; exact d1
                by_cases hjl : j < xl
                · obtain ⟨g, rfl, hcj⟩ := HXC.out j hjl
                  have g0 : w7.cell? ⟨g, j * 4, none⟩ = some (.int .i64 xm) := by rw [HLL.out w7 HLJ.out]; exact hcj 0 _ rfl
                  have g1 : w7.cell? ⟨g, j * 4 + 1, none⟩ = some (.int .i64 1) := by rw [HLL.out w7 HLJ.out]; exact hcj 1 _ rfl
                  have g2 : w7.cell? ⟨g, j * 4 + 2, none⟩ = some (.int .i64 2) := by rw [HLL.out w7 HLJ.out]; exact hcj 2 _ rfl
                  have g3 : w7.cell? ⟨g, j * 4 + 3, none⟩ = some (.int .i64 3) := by rw [HLL.out w7 HLJ.out]; exact hcj 3 _ rfl
                  have q2 : (0 : Int) ≤ (j : Int) := by omega
                  have q3 : (j : Int) < xl := by omega
                  clear hcj d0 d1
                  go_wp2_with fail
                  go_quiet (fail)
                  go_wp2_with fail
                  go_roundw
                  case rel => exact ⟨j + 1, by omega, by go_num, hide (like_dn HLJ.out _)⟩
                  case measure => simp [intOf]; omega
                · have q3 : (xl : Int) ≤ (j : Int) := by omega
                  clear d0 d1
                  go_wp2_with fail
                  go_roundw
                  case rel => exact ⟨k + 1, by omega, by go_num, HLJ⟩
                  case measure => simp [intOf]; omega
            · have q1 : (L2.length : Int) ≤ (k : Int) := by omega
              go_wp2_with fail
              go_loopw [9] (fun i w' => ∃ k : Nat, k ≤ L3.length ∧ i = .int .i64 k ∧ Hid (Like w' w)) (fun i _ => L3.length - (intOf i).toNat)
              case atStart => exact ⟨0, Nat.zero_le _, rfl, HLK⟩
              case round =>
                clear HLK
                obtain ⟨k, hk, rfl, HLK⟩ := hrel
                obtain ⟨w5, hw5⟩ : ∃ w5, w5 = wr := ⟨_, rfl⟩
                rw [← hw5] at HLK ⊢
                clear hw5
                have e6 : w5.cell? ⟨b, 12, none⟩ = some (.slice la3 L3.length lc3) := by rw [HLL.out w5 HLK.out]; exact HCL3.out
                by_cases hlt : k < L3.length
                · obtain ⟨og, oc, mg, mc, eo, em, d0, d1⟩ := two_rows HL3.out HM3.out hlt
                  rw [HEL3.out] at eo
                  rw [HEM3.out] at em
                  simp only [Value.slice.injEq, true_and] at eo em
                  obtain ⟨rfl, rfl⟩ := eo
                  obtain ⟨rfl, rfl⟩ := em
                  have HKT := hide (HKP3.out L3[k] (List.getElem_mem hlt))
                  have q0 : (0 : Int) ≤ (k : Int) := by omega
                  have q1 : (k : Int) < L3.length := by omega
                  generalize L3[k] = x at *
                  obtain ⟨xv, xm⟩ := x
                  simp only at d0 d1
                  obtain ⟨xa, xl, xc, hxv, hxl, hxc⟩ := kept_read HKT.out (by omega)
                  subst hxv
                  have HXC := hide hxc
                  clear hxc HKT
                  have e7 : w5.cell? ⟨og, k, none⟩ = some (.slice xa xl xc) := by rw [HLL.out w5 HLK.out]; exact d0
                  have qx : (xl : Int) ≤ 1000 := by omega
                  go_wp2_with fail
                  go_loopw [10] (fun i w' => ∃ j : Nat, j ≤ xl ∧ i = .int .i64 j ∧ Hid (Like w' w)) (fun i _ => xl - (intOf i).toNat)
                  case atStart => exact ⟨0, Nat.zero_le _, rfl, HLK⟩
                  case round =>
                    clear e6 e7 HLK
                    obtain ⟨j, hj, rfl, HLJ⟩ := hrel
                    obtain ⟨w7, hw7⟩ : ∃ w7, w7 = wr := ⟨_, rfl⟩
                    rw [← hw7] at HLJ ⊢
                    clear hw7
                    have f6 : w7.cell? ⟨b, 12, none⟩ = some (.slice (some ⟨og, 0, none⟩) L3.length lc3) := by rw [HLL.out w7 HLJ.out]; exact HCL3.out
                    have f7 : w7.cell? ⟨b, 13, none⟩ = some (.slice (some ⟨mg, 0, none⟩) L3.length mc3) := by rw [HLL.out w7 HLJ.out]; exact HCM3.out
                    have k0 : w7.cell? ⟨og, k, none⟩ = some (.slice xa xl xc) := by rw [HLL.out w7 HLJ.out]; exact d0
                    have k1 : w7.cell? ⟨mg, k, none⟩ = some (.int .i64 xm) := by rw [HLL.out w7 HLJ.out]; exact d1
                    by_cases hjl : j < xl
                    · obtain ⟨g, rfl, hcj⟩ := HXC.out j hjl
                      have g0 : w7.cell? ⟨g, j * 4, none⟩ = some (.int .i64 xm) := by rw [HLL.out w7 HLJ.out]; exact hcj 0 _ rfl
                      have g1 : w7.cell? ⟨g, j * 4 + 1, none⟩ = some (.int .i64 0) := by rw [HLL.out w7 HLJ.out]; exact hcj 1 _ rfl
                      have g2 : w7.cell? ⟨g, j * 4 + 2, none⟩ = some (.int .i64 0) := by rw [HLL.out w7 HLJ.out]; exact hcj 2 _ rfl
                      have g3 : w7.cell? ⟨g, j * 4 + 3, none⟩ = some (.int .i64 0) := by rw [HLL.out w7 HLJ.out]; exact hcj 3 _ rfl
                      have q2 : (0 : Int) ≤ (j : Int) := by omega
                      have q3 : (j : Int) < xl := by omega
                      clear hcj d0 d1
                      go_wp2_with fail
                      go_quiet (fail)
                      go_wp2_with fail
                      go_roundw
                      case rel => exact ⟨j + 1, by omega, by go_num, hide (like_dn HLJ.out _)⟩
                      case measure => simp [intOf]; omega
                    · have q3 : (xl : Int) ≤ (j : Int) := by omega
                      clear d0 d1
                      go_wp2_with fail
                      go_roundw
                      case rel => exact ⟨k + 1, by omega, by go_num, HLJ⟩
                      case measure => simp [intOf]; omega
                · have q1 : (L3.length : Int) ≤ (k : Int) := by omega
                  go_wp2_with fail
                  go_loopw [11] (fun i w' => ∃ k : Nat, k ≤ L4.length ∧ i = .int .i64 k ∧ Hid (Like w' w)) (fun i _ => L4.length - (intOf i).toNat)
                  case atStart => exact ⟨0, Nat.zero_le _, rfl, HLK⟩
                  case round =>
                    clear HLK
                    obtain ⟨k, hk, rfl, HLK⟩ := hrel
                    obtain ⟨w5, hw5⟩ : ∃ w5, w5 = wr := ⟨_, rfl⟩
                    rw [← hw5] at HLK ⊢
                    clear hw5
                    have e6 : w5.cell? ⟨b, 14, none⟩ = some (.slice la4 L4.length lc4) := by rw [HLL.out w5 HLK.out]; exact HCL4.out
                    by_cases hlt : k < L4.length
                    · obtain ⟨og, oc, mg, mc, eo, em, d0, d1⟩ := two_rows HL4.out HM4.out hlt
                      rw [HEL4.out] at eo
                      rw [HEM4.out] at em
                      simp only [Value.slice.injEq, true_and] at eo em
                      obtain ⟨rfl, rfl⟩ := eo
                      obtain ⟨rfl, rfl⟩ := em
                      have HKT := hide (HKP4.out L4[k] (List.getElem_mem hlt))
                      have q0 : (0 : Int) ≤ (k : Int) := by omega
                      have q1 : (k : Int) < L4.length := by omega
                      generalize L4[k] = x at *
                      obtain ⟨xv, xm⟩ := x
                      simp only at d0 d1
                      obtain ⟨xa, xl, xc, hxv, hxl, hxc⟩ := kept_read4 HKT.out
                      subst hxv
                      have HXC := hide hxc
                      clear hxc HKT
                      have e7 : w5.cell? ⟨og, k, none⟩ = some (.slice xa xl xc) := by rw [HLL.out w5 HLK.out]; exact d0
                      have qx : (xl : Int) ≤ 1000 := by omega
                      go_wp2_with fail
                      go_loopw [12] (fun i w' => ∃ j : Nat, j ≤ xl ∧ i = .int .i64 j ∧ Hid (Like w' w)) (fun i _ => xl - (intOf i).toNat)
                      case atStart => exact ⟨0, Nat.zero_le _, rfl, HLK⟩
                      case round =>
                        clear e6 e7 HLK
                        obtain ⟨j, hj, rfl, HLJ⟩ := hrel
                        obtain ⟨w7, hw7⟩ : ∃ w7, w7 = wr := ⟨_, rfl⟩
                        rw [← hw7] at HLJ ⊢
                        clear hw7
                        have f6 : w7.cell? ⟨b, 14, none⟩ = some (.slice (some ⟨og, 0, none⟩) L4.length lc4) := by rw [HLL.out w7 HLJ.out]; exact HCL4.out
                        have f7 : w7.cell? ⟨b, 15, none⟩ = some (.slice (some ⟨mg, 0, none⟩) L4.length mc4) := by rw [HLL.out w7 HLJ.out]; exact HCM4.out
                        have k0 : w7.cell? ⟨og, k, none⟩ = some (.slice xa xl xc) := by rw [HLL.out w7 HLJ.out]; exact d0
                        have k1 : w7.cell? ⟨mg, k, none⟩ = some (.int .i64 xm) := by rw [HLL.out w7 HLJ.out]; exact d1
                        by_cases hjl : j < xl
                        · obtain ⟨g, g', cap', rfl, hcj, hcb⟩ := HXC.out j hjl
                          have g0 : w7.cell? ⟨g, j, none⟩ = some (.slice (some ⟨g', 0, none⟩) 1 cap') := by rw [HLL.out w7 HLJ.out]; exact hcj
                          have g1 : w7.cell? ⟨g', 0, none⟩ = some (.int .i64 xm) := by rw [HLL.out w7 HLJ.out]; simp [World.cell?, hcb, elC]
                          have g2 : w7.cell? ⟨g', 1, none⟩ = some (.int .i64 0) := by rw [HLL.out w7 HLJ.out]; simp [World.cell?, hcb, elC]
                          have g3 : w7.cell? ⟨g', 2, none⟩ = some (.int .i64 0) := by rw [HLL.out w7 HLJ.out]; simp [World.cell?, hcb, elC]
                          have g4 : w7.cell? ⟨g', 3, none⟩ = some (.int .i64 0) := by rw [HLL.out w7 HLJ.out]; simp [World.cell?, hcb, elC]
                          have q2 : (0 : Int) ≤ (j : Int) := by omega
                          have q3 : (j : Int) < xl := by omega
                          clear hcj hcb d0 d1
                          go_wp2_with fail
                          go_quiet (fail)
                          go_wp2_with fail
                          go_roundw
                          case rel => exact ⟨j + 1, by omega, by go_num, hide (like_dn HLJ.out _)⟩
                          case measure => simp [intOf]; omega
                        · have q3 : (xl : Int) ≤ (j : Int) := by omega
                          clear d0 d1
                          go_wp2_with fail
                          go_roundw
                          case rel => exact ⟨k + 1, by omega, by go_num, HLJ⟩
                          case measure => simp [intOf]; omega
                    · have q1 : (L4.length : Int) ≤ (k : Int) := by omega
                      go_wp2_with fail
                      go_ret
                      exact ⟨rfl, HLK.out⟩

end Go.Proofs.YtklenjmfalljgaaGreatDoor

/- The walk of keepInts, whole. -/
namespace Go.Proofs.YtklenjmfalljgaaGreatDoor
open Go.RowKit
attribute [local go_sem] Go.World.cell?_alloc_some

theorem set_el0 (m : Int) (xs : List Value) (k len : Nat) (hx : xs.length = len * 1) (hk : k < len) : (((List.replicate k (elC m 0)).flatten ++ xs.drop (k * 1)).set (k) (.int .i64 m)) = (List.replicate (k + 1) (elC m 0)).flatten ++ xs.drop ((k + 1) * 1) := by
  obtain ⟨ys, hy⟩ : ∃ ys, ys = (List.replicate k (elC m 0)).flatten := ⟨_, rfl⟩
  have hyl : ys.length = k * 1 := by rw [hy]; exact flat_rep_len _ _
  rw [← flat_rep_snoc, ← hy]
  have h1 : 1 ≤ (xs.drop (k * 1)).length := by rw [List.length_drop]; omega
  have h2 : xs.drop ((k + 1) * 1) = (xs.drop (k * 1)).drop 1 := by rw [List.drop_drop]; congr 1 <;> omega
  rw [h2]
  generalize xs.drop (k * 1) = zs at h1
  obtain ⟨z0, rest, rfl⟩ : ∃ z0 rest, zs = z0 :: rest := by
    match zs, h1 with
    | z0 :: rest, _ => exact ⟨z0, rest, rfl⟩
  rw [List.set_append, if_neg (by omega)]
  have e : k - ys.length = 0 := by omega
  rw [e]
  simp [elC]

set_option maxRecDepth 100000 in
set_option maxHeartbeats 2000000 in
theorem keepInts_g (B : Nat) (w : World) (b : Nat) (who : Nat → Role) (n : Int) (f : Nat → Value) (K : Nat → List (Value × Int)) (lv : Value) (len : Nat) (xs : List Value) (hH : HsK B w b who n f K) (hl : w.ownsRow B 3 1 lv len xs) (ho : ∀ g, lv.ownBlock = some g → who g = .other)
    (hn0 : 0 ≤ n) (hn1 : n ≤ 10000000000000) (hK : (K 0).length ≤ 5000000000000) (ha : len ≤ 900) :
    Calls Tryz.prog 46 #[pt b, lv] w fun e w' => (∃ v, e = .returned v) ∧ ∃ who' f' K', HsK B w' b who' (n + 1) f' K' ∧ After 0 w w' who who' f f' K K' (fun g => lv.ownBlock = some g) := by
  obtain ⟨i0, hi0, hz0, hz1, hz2⟩ := info_parts info_int
  obtain ⟨i1, hi1, hy0, hy1, hy2⟩ := info_parts info_ints
  obtain ⟨i2, hi2, hx0, hx1, hx2⟩ := info_parts info_int
  have hxl := hl.1
  obtain ⟨x1, x2, x3, rfl⟩ := owns_form hl
  have hx2 := (owns_lenq hl).symm
  subst hx2
  have HM := hide (mark_g hH.1 hn0 (by omega))
  have HO := hide ho
  have H0 : Hid (WrG B 0 w (w.setCell ⟨b, 5, none⟩ (.int .i64 (n + 1))) b who (n + 1) f (setF f 5 (.int .i64 (n + 1))) K (.slice x1 len x3) len xs (-77000000 - (n + 1)) 0) := by
    refine ⟨⟨hH.1.setCnt _, hH.2⟩, ?_, ?_, fun o ho => setF_ne _ _ (by omega)⟩
    · have hbo : (Value.slice x1 len x3).ownBlock ≠ some b := fun e => by have := ho b e; rw [hH.1.wb] at this; cases this
      have h5 := ownsRow_setCell_other (a := ⟨b, 5, none⟩) hl hbo (.int .i64 (n + 1))
      have e5 : (List.replicate 0 (elC (-77000000 - (n + 1)) 0)).flatten ++ xs.drop (0 * (elC (-77000000 - (n + 1)) 0).length) = xs := by simp
      rw [e5]; exact h5
    · exact Fr.set (Or.inl (by rw [hH.1.wb]; simp))
  have hpt : pt b = .pointer (some ⟨b, 0, none⟩) := rfl
  rw [hpt] at *
  clear hH hl ho hpt
  generalize hm : -77000000 - (n + 1) = m at *
  have HMM := hide hm
  clear hm
  go_enter Tryz.func46, Tryz.ntmps46
  go_wp2_with (go_at_call 57; refine HM.out.mono ?_; rintro e w1 ⟨rfl, rfl⟩)
  go_loopw [5] (fun i w' => ∃ k : Nat, k ≤ len ∧ i = .int .i64 k ∧ Hid (WrG B 0 w w' b who (n + 1) f (setF f 5 (.int .i64 (n + 1))) K (.slice x1 len x3) len xs m k)) (fun i _ => len - (intOf i).toNat)
  case atStart => exact ⟨0, Nat.zero_le _, rfl, H0⟩
  case round =>
    clear H0 HM
    obtain ⟨k, hk, rfl, HI⟩ := hrel
    obtain ⟨w5, hw5⟩ : ∃ w5, w5 = wr := ⟨_, rfl⟩
    rw [← hw5] at HI ⊢
    clear hw5
    by_cases hlt : k < len
    · obtain ⟨g, cp, e0, _, _⟩ := HI.out.row.form (by omega)
      have hrow : w5.ownsRow B 3 1 (.slice x1 len x3) len ((List.replicate k (elC m 0)).flatten ++ xs.drop (k * 1)) := HI.out.row
      rw [e0] at hrow
      simp only [Value.slice.injEq, true_and] at e0
      obtain ⟨rfl, rfl⟩ := e0
      have hgo := HO.out g rfl
      obtain ⟨u0, y0⟩ : ∃ u, w5.cell? ⟨g, k, none⟩ = some u := cell_at hrow (by omega)
      have z0 : w5.frozen? ⟨g, k, none⟩ = false := free_at hrow
      have HNX : Hid (WrG B 0 w (w5.setCell ⟨g, k, none⟩ (.int .i64 m)) b who (n + 1) f (setF f 5 (.int .i64 (n + 1))) K (.slice (some ⟨g, 0, none⟩) len x3) len xs m (k + 1)) := by
        have hs := HI.out
        refine ⟨(hs.hs.setOther hgo), ?_, ?_, hs.lent⟩
        · have h9 := (owns_setCell hrow (k) (.int .i64 m))
          have e9 := set_el0 m xs k len hxl hlt
          rw [e9] at h9
          exact h9
        · exact (hs.fr).trans (Fr.set (Or.inr rfl))
      have q0 : (0 : Int) ≤ (k : Int) := by omega
      have q1 : (k : Int) < len := by omega
      clear hrow hgo
      go_wp2_with fail
      go_roundw
      case rel => exact ⟨k + 1, by omega, by go_num, HNX⟩
      case measure => simp [intOf]; omega
    · have ek : k = len := by omega
      have q1 : (len : Int) ≤ (k : Int) := by omega
      have HS : Hid (∃ who1, KpG B 0 w w5 b who who1 (n + 1) m f (setF f 5 (.int .i64 (n + 1))) K K (.slice x1 len x3) len 0 (fun g => (Value.slice x1 len x3).ownBlock = some g)) := by
        have hi := HI.out
        rw [ek] at hi
        exact hi.kp (by omega) hxl (by omega) HO.out
      clear HI ek
      go_wp2_with fail
      go_loopw [1, 6] (fun lv' i w' => ∃ (k : Nat) (who' : Nat → Role) (f' : Nat → Value) (K' : Nat → List (Value × Int)), k ≤ 4 ∧ i = .int .i64 k ∧ Hid (KpG B 0 w w' b who who' (n + 1) m f f' K K' lv' (len + k) k (fun g => (Value.slice x1 len x3).ownBlock = some g))) (fun _ i _ => 4 - (intOf i).toNat)
      case atStart =>
        obtain ⟨who1, h1⟩ := HS.out
        exact ⟨0, who1, _, K, by omega, rfl, hide h1⟩
      case round =>
        clear HS
        obtain ⟨j, who', f', K', hj, rfl, HK⟩ := hrel
        obtain ⟨w7, hw7⟩ : ∃ w7, w7 = wr := ⟨_, rfl⟩
        rw [← hw7] at HK ⊢
        clear hw7
        have rO : w7.ownsRow B 25 1 (f' 6) (K' 0).length ((K' 0).map (·.1)) := HK.out.hs.lst 0 (by omega)
        have rM : w7.ownsRow B 3 1 (f' 7) (K' 0).length (ints ((K' 0).map (·.2))) := by have := HK.out.hs.mrk 0 (by omega); simpa [marksOf] using this
        have rL : w7.ownsRow B 3 1 u1 (len + j) (List.replicate (len + j) (elC m 0)).flatten := HK.out.cu.row
        have HLE : Hid ((K' 0).length = (K 0).length + j) := HK.out.len
        have c6 : w7.cell? ⟨b, 6, none⟩ = some (f' 6) := HK.out.hs.blk.cell (by omega)
        have hbase : B ≤ w7.heap.size := by have := HK.out.hs.blk.lt; have := (HK.out.hs.dom b (by rw [HK.out.hs.wb]; simp)).1; omega
        obtain ⟨l1, l2, l3, rfl⟩ := owns_form rL
        have hl2 := owns_lenq rL
        subst hl2
        obtain ⟨o1, o2, o3, eO⟩ := owns_form rO
        rw [eO] at rO c6
        have ho2 := owns_lenq rO
        subst ho2
        have hLL : (K' 0).length ≤ 5000000000003 ∨ ¬ j < 4 := by have := HLE.out; omega
        have HRL := hide rL
        have HRO := hide rO
        have HEO := hide eO
        have HRM := hide rM
        clear rL rO rM eO
        by_cases hj4 : j < 4
        · have hLL : (K' 0).length ≤ 5000000000003 := by omega
          have z2 : (j : Int) < 4 := by omega
          have h63a : (K' 0).length + 1 ≤ maxLen := by unfold maxLen; omega
          have h63c : len + j + 1 ≤ maxLen := by unfold maxLen; omega
          have HPU : Hid (∀ {o : Obj} {g6 c6 : Nat} {w6 : World}, w6.ownsRow B 25 1 (.slice (some ⟨g6, 0, none⟩) ((K' 0).length + 1) c6) ((K' 0).length + 1) ((K' 0).map (·.1) ++ [.slice l1 (len + j) l3]) →
              (((Value.slice o1 (K' 0).length o3).ownBlock = some g6 ∧ (w7.alloc o).grownBy w6 (some g6)) ∨ (g6 = w7.heap.size + 1 ∧ (w7.alloc o).grownBy w6 none)) →
              HB w6 b f' ∧ ∃ who'' f'', KpA B 0 w (w6.setCell ⟨b, 6, none⟩ (.slice (some ⟨g6, 0, none⟩) ((K' 0).length + 1) c6)) b who who'' (n + 1) m f f'' K K' (.slice l1 (len + j) l3) (len + j) j (fun g => (Value.slice x1 len x3).ownBlock = some g) ∧ f'' 7 = f' 7) := by
            intro o g6 c6 w6 hown key
            rw [← HEO.out] at key
            exact HK.out.push (by omega) hown key
          generalize hKl : (K' 0).length = N at *
          generalize hKm : (K' 0).map (·.1) = L1 at *
          have HKl := hide hKl
          clear hKl hKm
          go_upto_region 9 with (at_builtin; go_must (refine wpList_append_keeps rfl _ _ _ rfl B 25 i1 _ 1 24 Tryz.underlying38 hi1 hy0 hy1 hy2 rfl (by omega) (.slice o1 N o3) N L1 rfl (owns_alloc HRO.out) ⟨w7.heap.size, 0, none⟩ 1 1 [.slice l1 (len + j) l3] rfl rfl (World.news_of_block (cs := #[.slice l1 (len + j) l3]) (t := 25) (fr := (0, 0)) (heap_alloc_new w7 _)) (by simp [Value.oneCell']) (by omega) h63a (by omega) (by simp; omega) (w7.heap.size + 1) (by simp) ?_); intro g8 cap8 w8 hown8 key8 hlt8; have hb8 := (HPU.out hown8 key8).1; have p6 : w8.cell? ⟨b, 6, none⟩ = some (.slice o1 N o3) := (by rw [hb8.cell (by omega), HEO.out]); have p7 := hb8.frozen 6)
          obtain ⟨_, who9, f9, hk9, e9⟩ := HPU.out hown8 key8
          generalize w8.setCell ⟨b, 6, none⟩ (.slice (some ⟨g8, 0, none⟩) (N + 1) cap8) = w9 at *
          have HK9 := hide hk9
          have rM9 : w9.ownsRow B 3 1 (f9 7) N (ints ((K' 0).map (·.2))) := by
            have := hk9.hs.mrk 0 (by omega)
            rw [← HKl.out]
            simpa [marksOf] using this
          have c7 : w9.cell? ⟨b, 7, none⟩ = some (f9 7) := hk9.hs.blk.cell (by omega)
          obtain ⟨m1, m2, m3, eM⟩ := owns_form rM9
          rw [eM] at rM9 c7
          have hm2 := (owns_lenq rM9).symm
          subst hm2
          have hbase9 : B ≤ w9.heap.size := by have := hk9.hs.blk.lt; have := (hk9.hs.dom b (by rw [hk9.hs.wb]; simp)).1; omega
          have HRM9 := hide rM9
          have HEM := hide eM
          clear hown8 key8 hb8 p6 p7 hlt8 c6 hk9 e9 HPU rM9 eM HEO HRO HRM
          go_upto_region 10 with (at_builtin; go_must (refine wpList_append_keeps rfl _ _ _ rfl B 3 i2 _ 1 8 Tryz.underlying25 hi2 hx0 hx1 hx2 rfl (by omega) (.slice m1 N m3) N (ints ((K' 0).map (·.2))) rfl (owns_alloc HRM9.out) ⟨w9.heap.size, 0, none⟩ 1 1 [.int .i64 m] rfl rfl (World.news_of_block (cs := #[.int .i64 m]) (t := 3) (fr := (0, 0)) (heap_alloc_new w9 _)) (by simp [Value.oneCell']) (by omega) h63a (by omega) (by simp; omega) (w9.heap.size + 1) (by simp) ?_); intro g10 cap10 w10 hown10 key10 hlt10; have hb10 := (HK9.out.tell (by omega) (M1 := m1) (M3 := m3) HEM.out HKl.out hown10 key10).1; have p6 : w10.cell? ⟨b, 7, none⟩ = some (.slice m1 N m3) := (by rw [hb10.cell (by omega), HEM.out]); have p7 := hb10.frozen 7)
          obtain ⟨_, who11, f11, hk11⟩ := HK9.out.tell (by omega) (M1 := m1) (M3 := m3) HEM.out HKl.out hown10 key10
          generalize w10.setCell ⟨b, 7, none⟩ (.slice (some ⟨g10, 0, none⟩) (N + 1) cap10) = w11 at *
          have HK11 := hide hk11
          have HRL11 : Hid (w11.ownsRow B 3 1 (.slice l1 (len + j) l3) (len + j) (List.replicate (len + j) (elC m 0)).flatten) := hk11.cu.row
          have hbase11 : B ≤ w11.heap.size := by have := hk11.hs.blk.lt; have := (hk11.hs.dom b (by rw [hk11.hs.wb]; simp)).1; omega
          clear hown10 key10 hb10 p6 p7 hlt10 c7 hk11 HK9 HRM9 HEM HRL
          go_wp2_with (at_builtin; go_must (refine wpList_append_keeps rfl _ _ _ rfl B 3 i0 _ 1 8 Tryz.underlying25 hi0 hz0 hz1 hz2 rfl (by omega) (.slice l1 (len + j) l3) (len + j) (List.replicate (len + j) (elC m 0)).flatten rfl (owns_alloc HRL11.out) ⟨w11.heap.size, 0, none⟩ 1 1 [.int .i64 m] rfl rfl (World.news_of_block (cs := #[.int .i64 m]) (t := 3) (fr := (0, 0)) (heap_alloc_new w11 _)) (by simp [Value.oneCell']) (by omega) h63c (by omega) (by simp; omega) (w11.heap.size + 1) (by simp) ?_); intro g12 cap12 w12 hown12 key12 hlt12; have HK13 := hide (HK11.out.grow (by omega) (by omega) hown12 key12); clear hown12 key12 hlt12)
          go_roundw
          case rel =>
            obtain ⟨who13, h13⟩ := HK13.out
            exact ⟨j + 1, who13, _, _, by omega, by go_num, hide h13⟩
          case measure => simp [intOf]; omega
        · have z2 : (4 : Int) ≤ (j : Int) := by omega
          have HE : Hid (∃ who' f' K', HsK B w7 b who' (n + 1) f' K' ∧ After 0 w w7 who who' f f' K K' (fun g => (Value.slice x1 len x3).ownBlock = some g)) := by
            have ej : j = 4 := by omega
            have hk := HK.out
            rw [ej] at hk
            exact hk.done
          go_wp2_with fail
          go_end0
          exact ⟨⟨_, rfl⟩, HE.out⟩

end Go.Proofs.YtklenjmfalljgaaGreatDoor

/- What the hands' walks have in common. -/
namespace Go.Proofs.YtklenjmfalljgaaGreatDoor
open Go.RowKit

theorem val_other {B : Nat} {W w : World} {b : Nat} {who : Nat → Role} {n : Int} {f : Nat → Value} {K : Nat → List (Value × Int)} {sv : Value} {s : List Int} (hH : HsK B w b who n f K) (hWB : W.heap.size ≤ B) (hI : IntsAt W.heap.size W sv s) : valOther who sv := by
  intro g o l c e hl
  obtain ⟨ao, cap, rfl, _, h⟩ := hI
  simp only [Value.slice.injEq] at e
  obtain ⟨e1, e2, _⟩ := e
  obtain ⟨g', o', e3, e4, _⟩ := h 0 (by omega)
  rw [e1] at e3
  simp only [Option.some.injEq, Addr.mk.injEq, and_true] at e3
  by_cases ho : who g = .other
  · exact ho
  · have := (hH.1.dom g ho).1
    omega
/-- What a walk of the hands leaves that answers true. -/
def HzG (W : World) (B b : Nat) (n : Int) (K : Nat → List (Value × Int)) (e : Ending) (w' : World) : Prop :=
  e = .returned (.bool true) ∧ ∃ who' f' K', Hz B w' b who' n f' K' ∧ W.grownBy w' none ∧ ∀ c, c < 5 → (K' c).length ≤ (K c).length + 4

end Go.Proofs.YtklenjmfalljgaaGreatDoor

/- The walk of keepSteps, whole. -/
namespace Go.Proofs.YtklenjmfalljgaaGreatDoor
open Go.RowKit
attribute [local go_sem] Go.World.cell?_alloc_some

theorem info_el1 : ((Tryz.prog.info? 84).map fun i => (i.zero, i.size, i.bytes)) = some (some (.agg #[.int .i64 0, .int .i64 0]), 2, 16) := by kernel_rfl
theorem info_ls1 : ((Tryz.prog.info? 28).map fun i => (i.zero, i.size, i.bytes)) = some (some (.slice none 0 0), 1, 24) := by kernel_rfl
theorem set_el1 (m : Int) (xs : List Value) (k len : Nat) (hx : xs.length = len * 2) (hk : k < len) : ((((List.replicate k (elC m 1)).flatten ++ xs.drop (k * 2)).set (k * 2) (.int .i64 m)).set (k * 2 + 1) (.int .i64 0)) = (List.replicate (k + 1) (elC m 1)).flatten ++ xs.drop ((k + 1) * 2) := by
  obtain ⟨ys, hy⟩ : ∃ ys, ys = (List.replicate k (elC m 1)).flatten := ⟨_, rfl⟩
  have hyl : ys.length = k * 2 := by rw [hy]; exact flat_rep_len _ _
  rw [← flat_rep_snoc, ← hy]
  have h1 : 2 ≤ (xs.drop (k * 2)).length := by rw [List.length_drop]; omega
  have h2 : xs.drop ((k + 1) * 2) = (xs.drop (k * 2)).drop 2 := by rw [List.drop_drop]; congr 1 <;> omega
  rw [h2]
  generalize xs.drop (k * 2) = zs at h1
  obtain ⟨z0, z1, rest, rfl⟩ : ∃ z0 z1 rest, zs = z0 :: z1 :: rest := by
    match zs, h1 with
    | z0 :: z1 :: rest, _ => exact ⟨z0, z1, rest, rfl⟩
  rw [← hyl]
  simp [elC]

set_option maxRecDepth 100000 in
set_option maxHeartbeats 2000000 in
theorem keepSteps_g (B : Nat) (w : World) (b : Nat) (who : Nat → Role) (n : Int) (f : Nat → Value) (K : Nat → List (Value × Int)) (lv : Value) (len : Nat) (xs : List Value) (hH : HsK B w b who n f K) (hl : w.ownsRow B 84 2 lv len xs) (ho : ∀ g, lv.ownBlock = some g → who g = .other)
    (hn0 : 0 ≤ n) (hn1 : n ≤ 10000000000000) (hK : (K 1).length ≤ 5000000000000) (ha : len ≤ 900) :
    Calls Tryz.prog 33 #[pt b, lv] w fun e w' => (∃ v, e = .returned v) ∧ ∃ who' f' K', HsK B w' b who' (n + 1) f' K' ∧ After 1 w w' who who' f f' K K' (fun g => lv.ownBlock = some g) := by
  obtain ⟨i0, hi0, hz0, hz1, hz2⟩ := info_parts info_el1
  obtain ⟨i1, hi1, hy0, hy1, hy2⟩ := info_parts info_ls1
  obtain ⟨i2, hi2, hx0, hx1, hx2⟩ := info_parts info_int
  have hxl := hl.1
  obtain ⟨x1, x2, x3, rfl⟩ := owns_form hl
  have hx2 := (owns_lenq hl).symm
  subst hx2
  have HM := hide (mark_g hH.1 hn0 (by omega))
  have HO := hide ho
  have H0 : Hid (WrG B 1 w (w.setCell ⟨b, 5, none⟩ (.int .i64 (n + 1))) b who (n + 1) f (setF f 5 (.int .i64 (n + 1))) K (.slice x1 len x3) len xs (-77000000 - (n + 1)) 0) := by
    refine ⟨⟨hH.1.setCnt _, hH.2⟩, ?_, ?_, fun o ho => setF_ne _ _ (by omega)⟩
    · have hbo : (Value.slice x1 len x3).ownBlock ≠ some b := fun e => by have := ho b e; rw [hH.1.wb] at this; cases this
      have h5 := ownsRow_setCell_other (a := ⟨b, 5, none⟩) hl hbo (.int .i64 (n + 1))
      have e5 : (List.replicate 0 (elC (-77000000 - (n + 1)) 1)).flatten ++ xs.drop (0 * (elC (-77000000 - (n + 1)) 1).length) = xs := by simp
      rw [e5]; exact h5
    · exact Fr.set (Or.inl (by rw [hH.1.wb]; simp))
  have hpt : pt b = .pointer (some ⟨b, 0, none⟩) := rfl
  rw [hpt] at *
  clear hH hl ho hpt
  generalize hm : -77000000 - (n + 1) = m at *
  have HMM := hide hm
  clear hm
  go_enter Tryz.func33, Tryz.ntmps33
  go_wp2_with (go_at_call 57; refine HM.out.mono ?_; rintro e w1 ⟨rfl, rfl⟩)
  go_loopw [5] (fun i w' => ∃ k : Nat, k ≤ len ∧ i = .int .i64 k ∧ Hid (WrG B 1 w w' b who (n + 1) f (setF f 5 (.int .i64 (n + 1))) K (.slice x1 len x3) len xs m k)) (fun i _ => len - (intOf i).toNat)
  case atStart => exact ⟨0, Nat.zero_le _, rfl, H0⟩
  case round =>
    clear H0 HM
    obtain ⟨k, hk, rfl, HI⟩ := hrel
    obtain ⟨w5, hw5⟩ : ∃ w5, w5 = wr := ⟨_, rfl⟩
    rw [← hw5] at HI ⊢
    clear hw5
    by_cases hlt : k < len
    · obtain ⟨g, cp, e0, _, _⟩ := HI.out.row.form (by omega)
      have hrow : w5.ownsRow B 84 2 (.slice x1 len x3) len ((List.replicate k (elC m 1)).flatten ++ xs.drop (k * 2)) := HI.out.row
      rw [e0] at hrow
      simp only [Value.slice.injEq, true_and] at e0
      obtain ⟨rfl, rfl⟩ := e0
      have hgo := HO.out g rfl
      obtain ⟨u0, y0⟩ : ∃ u, w5.cell? ⟨g, k * 2, none⟩ = some u := cell_at hrow (by omega)
      have z0 : w5.frozen? ⟨g, k * 2, none⟩ = false := free_at hrow
      obtain ⟨u1, y1⟩ : ∃ u, w5.cell? ⟨g, k * 2 + 1, none⟩ = some u := cell_at hrow (by omega)
      have z1 : w5.frozen? ⟨g, k * 2 + 1, none⟩ = false := free_at hrow
      have HNX : Hid (WrG B 1 w ((w5.setCell ⟨g, k * 2, none⟩ (.int .i64 m)).setCell ⟨g, k * 2 + 1, none⟩ (.int .i64 0)) b who (n + 1) f (setF f 5 (.int .i64 (n + 1))) K (.slice (some ⟨g, 0, none⟩) len x3) len xs m (k + 1)) := by
        have hs := HI.out
        refine ⟨((hs.hs.setOther hgo).setOther hgo), ?_, ?_, hs.lent⟩
        · have h9 := (owns_setCell (owns_setCell hrow (k * 2) (.int .i64 m)) (k * 2 + 1) (.int .i64 0))
          have e9 := set_el1 m xs k len hxl hlt
          rw [e9] at h9
          exact h9
        · exact ((hs.fr).trans (Fr.set (Or.inr rfl))).trans (Fr.set (Or.inr rfl))
      have q0 : (0 : Int) ≤ (k : Int) := by omega
      have q1 : (k : Int) < len := by omega
      clear hrow hgo
      go_wp2_with fail
      go_roundw
      case rel => exact ⟨k + 1, by omega, by go_num, HNX⟩
      case measure => simp [intOf]; omega
    · have ek : k = len := by omega
      have q1 : (len : Int) ≤ (k : Int) := by omega
      have HS : Hid (∃ who1, KpG B 1 w w5 b who who1 (n + 1) m f (setF f 5 (.int .i64 (n + 1))) K K (.slice x1 len x3) len 0 (fun g => (Value.slice x1 len x3).ownBlock = some g)) := by
        have hi := HI.out
        rw [ek] at hi
        exact hi.kp (by omega) hxl (by omega) HO.out
      clear HI ek
      go_wp2_with fail
      go_loopw [1, 6] (fun lv' i w' => ∃ (k : Nat) (who' : Nat → Role) (f' : Nat → Value) (K' : Nat → List (Value × Int)), k ≤ 4 ∧ i = .int .i64 k ∧ Hid (KpG B 1 w w' b who who' (n + 1) m f f' K K' lv' (len + k) k (fun g => (Value.slice x1 len x3).ownBlock = some g))) (fun _ i _ => 4 - (intOf i).toNat)
      case atStart =>
        obtain ⟨who1, h1⟩ := HS.out
        exact ⟨0, who1, _, K, by omega, rfl, hide h1⟩
      case round =>
        clear HS
        obtain ⟨j, who', f', K', hj, rfl, HK⟩ := hrel
        obtain ⟨w7, hw7⟩ : ∃ w7, w7 = wr := ⟨_, rfl⟩
        rw [← hw7] at HK ⊢
        clear hw7
        have rO : w7.ownsRow B 28 1 (f' 8) (K' 1).length ((K' 1).map (·.1)) := HK.out.hs.lst 1 (by omega)
        have rM : w7.ownsRow B 3 1 (f' 9) (K' 1).length (ints ((K' 1).map (·.2))) := by have := HK.out.hs.mrk 1 (by omega); simpa [marksOf] using this
        have rL : w7.ownsRow B 84 2 u1 (len + j) (List.replicate (len + j) (elC m 1)).flatten := HK.out.cu.row
        have HLE : Hid ((K' 1).length = (K 1).length + j) := HK.out.len
        have c6 : w7.cell? ⟨b, 8, none⟩ = some (f' 8) := HK.out.hs.blk.cell (by omega)
        have hbase : B ≤ w7.heap.size := by have := HK.out.hs.blk.lt; have := (HK.out.hs.dom b (by rw [HK.out.hs.wb]; simp)).1; omega
        obtain ⟨l1, l2, l3, rfl⟩ := owns_form rL
        have hl2 := owns_lenq rL
        subst hl2
        obtain ⟨o1, o2, o3, eO⟩ := owns_form rO
        rw [eO] at rO c6
        have ho2 := owns_lenq rO
        subst ho2
        have hLL : (K' 1).length ≤ 5000000000003 ∨ ¬ j < 4 := by have := HLE.out; omega
        have HRL := hide rL
        have HRO := hide rO
        have HEO := hide eO
        have HRM := hide rM
        clear rL rO rM eO
        by_cases hj4 : j < 4
        · have hLL : (K' 1).length ≤ 5000000000003 := by omega
          have z2 : (j : Int) < 4 := by omega
          have h63a : (K' 1).length + 1 ≤ maxLen := by unfold maxLen; omega
          have h63c : len + j + 1 ≤ maxLen := by unfold maxLen; omega
          have HPU : Hid (∀ {o : Obj} {g6 c6 : Nat} {w6 : World}, w6.ownsRow B 28 1 (.slice (some ⟨g6, 0, none⟩) ((K' 1).length + 1) c6) ((K' 1).length + 1) ((K' 1).map (·.1) ++ [.slice l1 (len + j) l3]) →
              (((Value.slice o1 (K' 1).length o3).ownBlock = some g6 ∧ (w7.alloc o).grownBy w6 (some g6)) ∨ (g6 = w7.heap.size + 1 ∧ (w7.alloc o).grownBy w6 none)) →
              HB w6 b f' ∧ ∃ who'' f'', KpA B 1 w (w6.setCell ⟨b, 8, none⟩ (.slice (some ⟨g6, 0, none⟩) ((K' 1).length + 1) c6)) b who who'' (n + 1) m f f'' K K' (.slice l1 (len + j) l3) (len + j) j (fun g => (Value.slice x1 len x3).ownBlock = some g) ∧ f'' 9 = f' 9) := by
            intro o g6 c6 w6 hown key
            rw [← HEO.out] at key
            exact HK.out.push (by omega) hown key
          generalize hKl : (K' 1).length = N at *
          generalize hKm : (K' 1).map (·.1) = L1 at *
          have HKl := hide hKl
          clear hKl hKm
          go_upto_region 9 with (at_builtin; go_must (refine wpList_append_keeps rfl _ _ _ rfl B 28 i1 _ 1 24 Tryz.underlying40 hi1 hy0 hy1 hy2 rfl (by omega) (.slice o1 N o3) N L1 rfl (owns_alloc HRO.out) ⟨w7.heap.size, 0, none⟩ 1 1 [.slice l1 (len + j) l3] rfl rfl (World.news_of_block (cs := #[.slice l1 (len + j) l3]) (t := 28) (fr := (0, 0)) (heap_alloc_new w7 _)) (by simp [Value.oneCell']) (by omega) h63a (by omega) (by simp; omega) (w7.heap.size + 1) (by simp) ?_); intro g8 cap8 w8 hown8 key8 hlt8; have hb8 := (HPU.out hown8 key8).1; have p6 : w8.cell? ⟨b, 8, none⟩ = some (.slice o1 N o3) := (by rw [hb8.cell (by omega), HEO.out]); have p7 := hb8.frozen 8)
          obtain ⟨_, who9, f9, hk9, e9⟩ := HPU.out hown8 key8
          generalize w8.setCell ⟨b, 8, none⟩ (.slice (some ⟨g8, 0, none⟩) (N + 1) cap8) = w9 at *
          have HK9 := hide hk9
          have rM9 : w9.ownsRow B 3 1 (f9 9) N (ints ((K' 1).map (·.2))) := by
            have := hk9.hs.mrk 1 (by omega)
            rw [← HKl.out]
            simpa [marksOf] using this
          have c7 : w9.cell? ⟨b, 9, none⟩ = some (f9 9) := hk9.hs.blk.cell (by omega)
          obtain ⟨m1, m2, m3, eM⟩ := owns_form rM9
          rw [eM] at rM9 c7
          have hm2 := (owns_lenq rM9).symm
          subst hm2
          have hbase9 : B ≤ w9.heap.size := by have := hk9.hs.blk.lt; have := (hk9.hs.dom b (by rw [hk9.hs.wb]; simp)).1; omega
          have HRM9 := hide rM9
          have HEM := hide eM
          clear hown8 key8 hb8 p6 p7 hlt8 c6 hk9 e9 HPU rM9 eM HEO HRO HRM
          go_upto_region 10 with (at_builtin; go_must (refine wpList_append_keeps rfl _ _ _ rfl B 3 i2 _ 1 8 Tryz.underlying25 hi2 hx0 hx1 hx2 rfl (by omega) (.slice m1 N m3) N (ints ((K' 1).map (·.2))) rfl (owns_alloc HRM9.out) ⟨w9.heap.size, 0, none⟩ 1 1 [.int .i64 m] rfl rfl (World.news_of_block (cs := #[.int .i64 m]) (t := 3) (fr := (0, 0)) (heap_alloc_new w9 _)) (by simp [Value.oneCell']) (by omega) h63a (by omega) (by simp; omega) (w9.heap.size + 1) (by simp) ?_); intro g10 cap10 w10 hown10 key10 hlt10; have hb10 := (HK9.out.tell (by omega) (M1 := m1) (M3 := m3) HEM.out HKl.out hown10 key10).1; have p6 : w10.cell? ⟨b, 9, none⟩ = some (.slice m1 N m3) := (by rw [hb10.cell (by omega), HEM.out]); have p7 := hb10.frozen 9)
          obtain ⟨_, who11, f11, hk11⟩ := HK9.out.tell (by omega) (M1 := m1) (M3 := m3) HEM.out HKl.out hown10 key10
          generalize w10.setCell ⟨b, 9, none⟩ (.slice (some ⟨g10, 0, none⟩) (N + 1) cap10) = w11 at *
          have HK11 := hide hk11
          have HRL11 : Hid (w11.ownsRow B 84 2 (.slice l1 (len + j) l3) (len + j) (List.replicate (len + j) (elC m 1)).flatten) := hk11.cu.row
          have hbase11 : B ≤ w11.heap.size := by have := hk11.hs.blk.lt; have := (hk11.hs.dom b (by rw [hk11.hs.wb]; simp)).1; omega
          clear hown10 key10 hb10 p6 p7 hlt10 c7 hk11 HK9 HRM9 HEM HRL
          go_wp2_with (at_builtin; go_must (refine wpList_append_keeps rfl _ _ _ rfl B 84 i0 _ 2 16 Tryz.underlying28 hi0 hz0 hz1 hz2 rfl (by omega) (.slice l1 (len + j) l3) (len + j) (List.replicate (len + j) (elC m 1)).flatten rfl (owns_alloc HRL11.out) ⟨w11.heap.size, 0, none⟩ 1 1 [.int .i64 m, .int .i64 0] rfl rfl (World.news_of_block (cs := #[.int .i64 m, .int .i64 0]) (t := 84) (fr := (0, 0)) (heap_alloc_new w11 _)) (by simp [Value.oneCell']) (by omega) h63c (by omega) (by simp; omega) (w11.heap.size + 1) (by simp) ?_); intro g12 cap12 w12 hown12 key12 hlt12; have HK13 := hide (HK11.out.grow (by omega) (by omega) hown12 key12); clear hown12 key12 hlt12)
          go_roundw
          case rel =>
            obtain ⟨who13, h13⟩ := HK13.out
            exact ⟨j + 1, who13, _, _, by omega, by go_num, hide h13⟩
          case measure => simp [intOf]; omega
        · have z2 : (4 : Int) ≤ (j : Int) := by omega
          have HE : Hid (∃ who' f' K', HsK B w7 b who' (n + 1) f' K' ∧ After 1 w w7 who who' f f' K K' (fun g => (Value.slice x1 len x3).ownBlock = some g)) := by
            have ej : j = 4 := by omega
            have hk := HK.out
            rw [ej] at hk
            exact hk.done
          go_wp2_with fail
          go_end0
          exact ⟨⟨_, rfl⟩, HE.out⟩

end Go.Proofs.YtklenjmfalljgaaGreatDoor

/- The walk of keepRegs, whole. -/
namespace Go.Proofs.YtklenjmfalljgaaGreatDoor
open Go.RowKit
attribute [local go_sem] Go.World.cell?_alloc_some

theorem info_el2 : ((Tryz.prog.info? 29).map fun i => (i.zero, i.size, i.bytes)) = some (some (.agg #[.int .i64 0, .int .i64 0, .int .i64 0, .int .i64 0]), 4, 32) := by kernel_rfl
theorem info_ls2 : ((Tryz.prog.info? 30).map fun i => (i.zero, i.size, i.bytes)) = some (some (.slice none 0 0), 1, 24) := by kernel_rfl
theorem set_el2 (m : Int) (xs : List Value) (k len : Nat) (hx : xs.length = len * 4) (hk : k < len) : ((((((List.replicate k (elC m 2)).flatten ++ xs.drop (k * 4)).set (k * 4) (.int .i64 m)).set (k * 4 + 1) (.int .i64 1)).set (k * 4 + 2) (.int .i64 2)).set (k * 4 + 3) (.int .i64 3)) = (List.replicate (k + 1) (elC m 2)).flatten ++ xs.drop ((k + 1) * 4) := by
  obtain ⟨ys, hy⟩ : ∃ ys, ys = (List.replicate k (elC m 2)).flatten := ⟨_, rfl⟩
  have hyl : ys.length = k * 4 := by rw [hy]; exact flat_rep_len _ _
  rw [← flat_rep_snoc, ← hy]
  have h1 : 4 ≤ (xs.drop (k * 4)).length := by rw [List.length_drop]; omega
  have h2 : xs.drop ((k + 1) * 4) = (xs.drop (k * 4)).drop 4 := by rw [List.drop_drop]; congr 1 <;> omega
  rw [h2]
  generalize xs.drop (k * 4) = zs at h1
  obtain ⟨z0, z1, z2, z3, rest, rfl⟩ : ∃ z0 z1 z2 z3 rest, zs = z0 :: z1 :: z2 :: z3 :: rest := by
    match zs, h1 with
    | z0 :: z1 :: z2 :: z3 :: rest, _ => exact ⟨z0, z1, z2, z3, rest, rfl⟩
  rw [← hyl]
  simp [elC]

set_option maxRecDepth 100000 in
set_option maxHeartbeats 2000000 in
theorem keepRegs_g (B : Nat) (w : World) (b : Nat) (who : Nat → Role) (n : Int) (f : Nat → Value) (K : Nat → List (Value × Int)) (lv : Value) (len : Nat) (xs : List Value) (hH : HsK B w b who n f K) (hl : w.ownsRow B 29 4 lv len xs) (ho : ∀ g, lv.ownBlock = some g → who g = .other)
    (hn0 : 0 ≤ n) (hn1 : n ≤ 10000000000000) (hK : (K 2).length ≤ 5000000000000) (ha : len ≤ 900) :
    Calls Tryz.prog 34 #[pt b, lv] w fun e w' => (∃ v, e = .returned v) ∧ ∃ who' f' K', HsK B w' b who' (n + 1) f' K' ∧ After 2 w w' who who' f f' K K' (fun g => lv.ownBlock = some g) := by
  obtain ⟨i0, hi0, hz0, hz1, hz2⟩ := info_parts info_el2
  obtain ⟨i1, hi1, hy0, hy1, hy2⟩ := info_parts info_ls2
  obtain ⟨i2, hi2, hx0, hx1, hx2⟩ := info_parts info_int
  have hxl := hl.1
  obtain ⟨x1, x2, x3, rfl⟩ := owns_form hl
  have hx2 := (owns_lenq hl).symm
  subst hx2
  have HM := hide (mark_g hH.1 hn0 (by omega))
  have HO := hide ho
  have H0 : Hid (WrG B 2 w (w.setCell ⟨b, 5, none⟩ (.int .i64 (n + 1))) b who (n + 1) f (setF f 5 (.int .i64 (n + 1))) K (.slice x1 len x3) len xs (-77000000 - (n + 1)) 0) := by
    refine ⟨⟨hH.1.setCnt _, hH.2⟩, ?_, ?_, fun o ho => setF_ne _ _ (by omega)⟩
    · have hbo : (Value.slice x1 len x3).ownBlock ≠ some b := fun e => by have := ho b e; rw [hH.1.wb] at this; cases this
      have h5 := ownsRow_setCell_other (a := ⟨b, 5, none⟩) hl hbo (.int .i64 (n + 1))
      have e5 : (List.replicate 0 (elC (-77000000 - (n + 1)) 2)).flatten ++ xs.drop (0 * (elC (-77000000 - (n + 1)) 2).length) = xs := by simp
      rw [e5]; exact h5
    · exact Fr.set (Or.inl (by rw [hH.1.wb]; simp))
  have hpt : pt b = .pointer (some ⟨b, 0, none⟩) := rfl
  rw [hpt] at *
  clear hH hl ho hpt
  generalize hm : -77000000 - (n + 1) = m at *
  have HMM := hide hm
  clear hm
  go_enter Tryz.func34, Tryz.ntmps34
  go_wp2_with (go_at_call 57; refine HM.out.mono ?_; rintro e w1 ⟨rfl, rfl⟩)
  go_loopw [5] (fun i w' => ∃ k : Nat, k ≤ len ∧ i = .int .i64 k ∧ Hid (WrG B 2 w w' b who (n + 1) f (setF f 5 (.int .i64 (n + 1))) K (.slice x1 len x3) len xs m k)) (fun i _ => len - (intOf i).toNat)
  case atStart => exact ⟨0, Nat.zero_le _, rfl, H0⟩
  case round =>
    clear H0 HM
    obtain ⟨k, hk, rfl, HI⟩ := hrel
    obtain ⟨w5, hw5⟩ : ∃ w5, w5 = wr := ⟨_, rfl⟩
    rw [← hw5] at HI ⊢
    clear hw5
    by_cases hlt : k < len
    · obtain ⟨g, cp, e0, _, _⟩ := HI.out.row.form (by omega)
      have hrow : w5.ownsRow B 29 4 (.slice x1 len x3) len ((List.replicate k (elC m 2)).flatten ++ xs.drop (k * 4)) := HI.out.row
      rw [e0] at hrow
      simp only [Value.slice.injEq, true_and] at e0
      obtain ⟨rfl, rfl⟩ := e0
      have hgo := HO.out g rfl
      obtain ⟨u0, y0⟩ : ∃ u, w5.cell? ⟨g, k * 4, none⟩ = some u := cell_at hrow (by omega)
      have z0 : w5.frozen? ⟨g, k * 4, none⟩ = false := free_at hrow
      obtain ⟨u1, y1⟩ : ∃ u, w5.cell? ⟨g, k * 4 + 1, none⟩ = some u := cell_at hrow (by omega)
      have z1 : w5.frozen? ⟨g, k * 4 + 1, none⟩ = false := free_at hrow
      obtain ⟨u2, y2⟩ : ∃ u, w5.cell? ⟨g, k * 4 + 2, none⟩ = some u := cell_at hrow (by omega)
      have z2 : w5.frozen? ⟨g, k * 4 + 2, none⟩ = false := free_at hrow
      obtain ⟨u3, y3⟩ : ∃ u, w5.cell? ⟨g, k * 4 + 3, none⟩ = some u := cell_at hrow (by omega)
      have z3 : w5.frozen? ⟨g, k * 4 + 3, none⟩ = false := free_at hrow
      have HNX : Hid (WrG B 2 w ((((w5.setCell ⟨g, k * 4, none⟩ (.int .i64 m)).setCell ⟨g, k * 4 + 1, none⟩ (.int .i64 1)).setCell ⟨g, k * 4 + 2, none⟩ (.int .i64 2)).setCell ⟨g, k * 4 + 3, none⟩ (.int .i64 3)) b who (n + 1) f (setF f 5 (.int .i64 (n + 1))) K (.slice (some ⟨g, 0, none⟩) len x3) len xs m (k + 1)) := by
        have hs := HI.out
        refine ⟨((((hs.hs.setOther hgo).setOther hgo).setOther hgo).setOther hgo), ?_, ?_, hs.lent⟩
        · have h9 := (owns_setCell (owns_setCell (owns_setCell (owns_setCell hrow (k * 4) (.int .i64 m)) (k * 4 + 1) (.int .i64 1)) (k * 4 + 2) (.int .i64 2)) (k * 4 + 3) (.int .i64 3))
          have e9 := set_el2 m xs k len hxl hlt
          rw [e9] at h9
          exact h9
        · exact ((((hs.fr).trans (Fr.set (Or.inr rfl))).trans (Fr.set (Or.inr rfl))).trans (Fr.set (Or.inr rfl))).trans (Fr.set (Or.inr rfl))
      have q0 : (0 : Int) ≤ (k : Int) := by omega
      have q1 : (k : Int) < len := by omega
      clear hrow hgo
      go_wp2_with fail
      go_roundw
      case rel => exact ⟨k + 1, by omega, by go_num, HNX⟩
      case measure => simp [intOf]; omega
    · have ek : k = len := by omega
      have q1 : (len : Int) ≤ (k : Int) := by omega
      have HS : Hid (∃ who1, KpG B 2 w w5 b who who1 (n + 1) m f (setF f 5 (.int .i64 (n + 1))) K K (.slice x1 len x3) len 0 (fun g => (Value.slice x1 len x3).ownBlock = some g)) := by
        have hi := HI.out
        rw [ek] at hi
        exact hi.kp (by omega) hxl (by omega) HO.out
      clear HI ek
      go_wp2_with fail
      go_loopw [1, 6] (fun lv' i w' => ∃ (k : Nat) (who' : Nat → Role) (f' : Nat → Value) (K' : Nat → List (Value × Int)), k ≤ 4 ∧ i = .int .i64 k ∧ Hid (KpG B 2 w w' b who who' (n + 1) m f f' K K' lv' (len + k) k (fun g => (Value.slice x1 len x3).ownBlock = some g))) (fun _ i _ => 4 - (intOf i).toNat)
      case atStart =>
        obtain ⟨who1, h1⟩ := HS.out
        exact ⟨0, who1, _, K, by omega, rfl, hide h1⟩
      case round =>
        clear HS
        obtain ⟨j, who', f', K', hj, rfl, HK⟩ := hrel
        obtain ⟨w7, hw7⟩ : ∃ w7, w7 = wr := ⟨_, rfl⟩
        rw [← hw7] at HK ⊢
        clear hw7
        have rO : w7.ownsRow B 30 1 (f' 10) (K' 2).length ((K' 2).map (·.1)) := HK.out.hs.lst 2 (by omega)
        have rM : w7.ownsRow B 3 1 (f' 11) (K' 2).length (ints ((K' 2).map (·.2))) := by have := HK.out.hs.mrk 2 (by omega); simpa [marksOf] using this
        have rL : w7.ownsRow B 29 4 u1 (len + j) (List.replicate (len + j) (elC m 2)).flatten := HK.out.cu.row
        have HLE : Hid ((K' 2).length = (K 2).length + j) := HK.out.len
        have c6 : w7.cell? ⟨b, 10, none⟩ = some (f' 10) := HK.out.hs.blk.cell (by omega)
        have hbase : B ≤ w7.heap.size := by have := HK.out.hs.blk.lt; have := (HK.out.hs.dom b (by rw [HK.out.hs.wb]; simp)).1; omega
        obtain ⟨l1, l2, l3, rfl⟩ := owns_form rL
        have hl2 := owns_lenq rL
        subst hl2
        obtain ⟨o1, o2, o3, eO⟩ := owns_form rO
        rw [eO] at rO c6
        have ho2 := owns_lenq rO
        subst ho2
        have hLL : (K' 2).length ≤ 5000000000003 ∨ ¬ j < 4 := by have := HLE.out; omega
        have HRL := hide rL
        have HRO := hide rO
        have HEO := hide eO
        have HRM := hide rM
        clear rL rO rM eO
        by_cases hj4 : j < 4
        · have hLL : (K' 2).length ≤ 5000000000003 := by omega
          have z2 : (j : Int) < 4 := by omega
          have h63a : (K' 2).length + 1 ≤ maxLen := by unfold maxLen; omega
          have h63c : len + j + 1 ≤ maxLen := by unfold maxLen; omega
          have HPU : Hid (∀ {o : Obj} {g6 c6 : Nat} {w6 : World}, w6.ownsRow B 30 1 (.slice (some ⟨g6, 0, none⟩) ((K' 2).length + 1) c6) ((K' 2).length + 1) ((K' 2).map (·.1) ++ [.slice l1 (len + j) l3]) →
              (((Value.slice o1 (K' 2).length o3).ownBlock = some g6 ∧ (w7.alloc o).grownBy w6 (some g6)) ∨ (g6 = w7.heap.size + 1 ∧ (w7.alloc o).grownBy w6 none)) →
              HB w6 b f' ∧ ∃ who'' f'', KpA B 2 w (w6.setCell ⟨b, 10, none⟩ (.slice (some ⟨g6, 0, none⟩) ((K' 2).length + 1) c6)) b who who'' (n + 1) m f f'' K K' (.slice l1 (len + j) l3) (len + j) j (fun g => (Value.slice x1 len x3).ownBlock = some g) ∧ f'' 11 = f' 11) := by
            intro o g6 c6 w6 hown key
            rw [← HEO.out] at key
            exact HK.out.push (by omega) hown key
          generalize hKl : (K' 2).length = N at *
          generalize hKm : (K' 2).map (·.1) = L1 at *
          have HKl := hide hKl
          clear hKl hKm
          go_upto_region 9 with (at_builtin; go_must (refine wpList_append_keeps rfl _ _ _ rfl B 30 i1 _ 1 24 Tryz.underlying41 hi1 hy0 hy1 hy2 rfl (by omega) (.slice o1 N o3) N L1 rfl (owns_alloc HRO.out) ⟨w7.heap.size, 0, none⟩ 1 1 [.slice l1 (len + j) l3] rfl rfl (World.news_of_block (cs := #[.slice l1 (len + j) l3]) (t := 30) (fr := (0, 0)) (heap_alloc_new w7 _)) (by simp [Value.oneCell']) (by omega) h63a (by omega) (by simp; omega) (w7.heap.size + 1) (by simp) ?_); intro g8 cap8 w8 hown8 key8 hlt8; have hb8 := (HPU.out hown8 key8).1; have p6 : w8.cell? ⟨b, 10, none⟩ = some (.slice o1 N o3) := (by rw [hb8.cell (by omega), HEO.out]); have p7 := hb8.frozen 10)
          obtain ⟨_, who9, f9, hk9, e9⟩ := HPU.out hown8 key8
          generalize w8.setCell ⟨b, 10, none⟩ (.slice (some ⟨g8, 0, none⟩) (N + 1) cap8) = w9 at *
          have HK9 := hide hk9
          have rM9 : w9.ownsRow B 3 1 (f9 11) N (ints ((K' 2).map (·.2))) := by
            have := hk9.hs.mrk 2 (by omega)
            rw [← HKl.out]
            simpa [marksOf] using this
          have c7 : w9.cell? ⟨b, 11, none⟩ = some (f9 11) := hk9.hs.blk.cell (by omega)
          obtain ⟨m1, m2, m3, eM⟩ := owns_form rM9
          rw [eM] at rM9 c7
          have hm2 := (owns_lenq rM9).symm
          subst hm2
          have hbase9 : B ≤ w9.heap.size := by have := hk9.hs.blk.lt; have := (hk9.hs.dom b (by rw [hk9.hs.wb]; simp)).1; omega
          have HRM9 := hide rM9
          have HEM := hide eM
          clear hown8 key8 hb8 p6 p7 hlt8 c6 hk9 e9 HPU rM9 eM HEO HRO HRM
          go_upto_region 10 with (at_builtin; go_must (refine wpList_append_keeps rfl _ _ _ rfl B 3 i2 _ 1 8 Tryz.underlying25 hi2 hx0 hx1 hx2 rfl (by omega) (.slice m1 N m3) N (ints ((K' 2).map (·.2))) rfl (owns_alloc HRM9.out) ⟨w9.heap.size, 0, none⟩ 1 1 [.int .i64 m] rfl rfl (World.news_of_block (cs := #[.int .i64 m]) (t := 3) (fr := (0, 0)) (heap_alloc_new w9 _)) (by simp [Value.oneCell']) (by omega) h63a (by omega) (by simp; omega) (w9.heap.size + 1) (by simp) ?_); intro g10 cap10 w10 hown10 key10 hlt10; have hb10 := (HK9.out.tell (by omega) (M1 := m1) (M3 := m3) HEM.out HKl.out hown10 key10).1; have p6 : w10.cell? ⟨b, 11, none⟩ = some (.slice m1 N m3) := (by rw [hb10.cell (by omega), HEM.out]); have p7 := hb10.frozen 11)
          obtain ⟨_, who11, f11, hk11⟩ := HK9.out.tell (by omega) (M1 := m1) (M3 := m3) HEM.out HKl.out hown10 key10
          generalize w10.setCell ⟨b, 11, none⟩ (.slice (some ⟨g10, 0, none⟩) (N + 1) cap10) = w11 at *
          have HK11 := hide hk11
          have HRL11 : Hid (w11.ownsRow B 29 4 (.slice l1 (len + j) l3) (len + j) (List.replicate (len + j) (elC m 2)).flatten) := hk11.cu.row
          have hbase11 : B ≤ w11.heap.size := by have := hk11.hs.blk.lt; have := (hk11.hs.dom b (by rw [hk11.hs.wb]; simp)).1; omega
          clear hown10 key10 hb10 p6 p7 hlt10 c7 hk11 HK9 HRM9 HEM HRL
          go_wp2_with (at_builtin; go_must (refine wpList_append_keeps rfl _ _ _ rfl B 29 i0 _ 4 32 Tryz.underlying30 hi0 hz0 hz1 hz2 rfl (by omega) (.slice l1 (len + j) l3) (len + j) (List.replicate (len + j) (elC m 2)).flatten rfl (owns_alloc HRL11.out) ⟨w11.heap.size, 0, none⟩ 1 1 [.int .i64 m, .int .i64 1, .int .i64 2, .int .i64 3] rfl rfl (World.news_of_block (cs := #[.int .i64 m, .int .i64 1, .int .i64 2, .int .i64 3]) (t := 29) (fr := (0, 0)) (heap_alloc_new w11 _)) (by simp [Value.oneCell']) (by omega) h63c (by omega) (by simp; omega) (w11.heap.size + 1) (by simp) ?_); intro g12 cap12 w12 hown12 key12 hlt12; have HK13 := hide (HK11.out.grow (by omega) (by omega) hown12 key12); clear hown12 key12 hlt12)
          go_roundw
          case rel =>
            obtain ⟨who13, h13⟩ := HK13.out
            exact ⟨j + 1, who13, _, _, by omega, by go_num, hide h13⟩
          case measure => simp [intOf]; omega
        · have z2 : (4 : Int) ≤ (j : Int) := by omega
          have HE : Hid (∃ who' f' K', HsK B w7 b who' (n + 1) f' K' ∧ After 2 w w7 who who' f f' K K' (fun g => (Value.slice x1 len x3).ownBlock = some g)) := by
            have ej : j = 4 := by omega
            have hk := HK.out
            rw [ej] at hk
            exact hk.done
          go_wp2_with fail
          go_end0
          exact ⟨⟨_, rfl⟩, HE.out⟩

end Go.Proofs.YtklenjmfalljgaaGreatDoor

/- Two answers of Replay to one question: their lists hold the same. -/
namespace Go.Proofs.YtklenjmfalljgaaGreatDoor
open Go.RowKit

theorem grown_offDrew {w w' : World} (h : w.drew.grownBy w' none) : w.grownBy w' none := ⟨h.os, h.tape, h.output, h.size, h.block⟩
def stpL (p : List (List Ins)) (s : List Int) : List (Int × Int) := if checkRunN p s = 0 then (runS p s).steps else []
def rgsN (p : List (List Ins)) (s : List Int) : Nat := if checkRunN p s = 0 then p.length else 0

theorem check_zero {p : List (List Ins)} {s : List Int} (h : checkRunN p s = 0) : vProg p = true ∧ s.length ≤ 500 := by
  unfold checkRunN at h
  by_cases hv : vProg p = true
  · by_cases h5 : s.length ≤ 500
    · exact ⟨hv, h5⟩
    · simp [hv, h5] at h
  · simp [hv] at h
theorem stpL_le (p : List (List Ins)) (s : List Int) : (stpL p s).length ≤ 500 := by
  unfold stpL
  by_cases h : checkRunN p s = 0
  · rw [if_pos h]
    obtain ⟨m, h1, _, h3, _⟩ := follow_fst p s 0 St.zero []
    have h5 := (check_zero h).2
    unfold runS
    simp at h3
    omega
  · rw [if_neg h]; simp
theorem rgsN_le (p : List (List Ins)) (s : List Int) : rgsN p s ≤ 4 := by
  unfold rgsN
  by_cases h : checkRunN p s = 0
  · rw [if_pos h]; exact (vProg_len (check_zero h).1).2
  · rw [if_neg h]; omega

theorem ResV.rows {p : List (List Ins)} {s : List Int} {B : Nat} {w : World} {k t a v0 v1 v2 v3 c : Int} {x1 y1 : Option Addr} {m x3 q y3 : Nat}
    (h : ResV p s B w (.agg #[.int .i64 k, .int .i64 t, .int .i64 a, .slice x1 m x3, .int .i64 v0, .int .i64 v1, .int .i64 v2, .int .i64 v3, .slice y1 q y3]) c) :
    m = (stpL p s).length ∧ q = rgsN p s ∧ w.ownsRow B 84 2 (.slice x1 m x3) m (flatS (stpL p s)) ∧ w.ownsRow B 29 4 (.slice y1 q y3) q (regsF (rgsN p s) (runS p s).st) := by
  obtain ⟨k', t', a', u0, u1, u2, u3, z1, z3, r1, r3, m', q', e, hc, h⟩ := h
  simp only [Value.agg.injEq, Array.mk.injEq, List.cons.injEq, Value.int.injEq, Value.slice.injEq, true_and, and_true] at e
  obtain ⟨rfl, rfl, rfl, ⟨rfl, rfl, rfl⟩, rfl, rfl, rfl, rfl, rfl, rfl, rfl⟩ := e
  rcases h with ⟨h0, _, _, _, _, _, _, _, hm, hq, h1, h2⟩ | ⟨h0, _, _, _, _, _, _, _, hm, hq, e1, e3, f1, f3⟩
  · have hz : checkRunN p s = 0 := by rw [← hc, h0]
    have es : stpL p s = (runS p s).steps := by unfold stpL; rw [if_pos hz]
    have er : rgsN p s = p.length := by unfold rgsN; rw [if_pos hz]
    refine ⟨by rw [es, hm], by rw [er, hq], ?_, ?_⟩
    · rw [es]; rw [← hm] at h1; exact h1
    · rw [er]; rw [hq] at h2 ⊢; exact h2
  · have hz : checkRunN p s ≠ 0 := by rw [← hc]; exact h0
    have es : stpL p s = [] := by unfold stpL; rw [if_neg hz]
    have er : rgsN p s = 0 := by unfold rgsN; rw [if_neg hz]
    subst hm hq e1 e3 f1 f3
    exact ⟨by rw [es]; rfl, by rw [er], by rw [es]; exact ⟨rfl, Or.inl ⟨rfl, rfl⟩⟩, by rw [er]; exact ⟨rfl, Or.inl ⟨rfl, rfl⟩⟩⟩

theorem flatS_two : ∀ (l : List (Int × Int)) (j : Nat) (hj : j < l.length), (flatS l)[j * 2]? = some (.int .i64 l[j].1) ∧ (flatS l)[j * 2 + 1]? = some (.int .i64 l[j].2)
  | [], j, hj => by simp at hj
  | x :: l, 0, hj => by simp [flatS]
  | x :: l, j + 1, hj => by
    have h := flatS_two l j (by simpa using hj)
    have e : flatS (x :: l) = [.int .i64 x.1, .int .i64 x.2] ++ flatS l := by simp [flatS]
    have e2 : ∀ q, (flatS (x :: l))[(j + 1) * 2 + q]? = (flatS l)[j * 2 + q]? := fun q => by
      rw [e, List.getElem?_append_right (by simp; omega)]
      congr 1
      simp; omega
    refine ⟨?_, ?_⟩
    · have := e2 0; simp only [Nat.add_zero] at this; rw [this]; simpa using h.1
    · rw [e2 1]; simpa using h.2
theorem regsF_four (s : St) : ∀ (n t : Nat), t < n → (regsF n s)[t * 4]? = some (.int .i64 (s.regs t 0)) ∧ (regsF n s)[t * 4 + 1]? = some (.int .i64 (s.regs t 1)) ∧ (regsF n s)[t * 4 + 2]? = some (.int .i64 (s.regs t 2)) ∧ (regsF n s)[t * 4 + 3]? = some (.int .i64 (s.regs t 3))
  | 0, t, h => by omega
  | n + 1, t, h => by
    have e : regsF (n + 1) s = regsF n s ++ [.int .i64 (s.regs n 0), .int .i64 (s.regs n 1), .int .i64 (s.regs n 2), .int .i64 (s.regs n 3)] := by
      unfold regsF; rw [List.range_succ, List.flatMap_append]; simp
    have hl := regsF_len n s
    rw [e]
    by_cases ht : t < n
    · obtain ⟨h0, h1, h2, h3⟩ := regsF_four s n t ht
      refine ⟨?_, ?_, ?_, ?_⟩
      · rw [List.getElem?_append_left (by omega)]; exact h0
      · rw [List.getElem?_append_left (by omega)]; exact h1
      · rw [List.getElem?_append_left (by omega)]; exact h2
      · rw [List.getElem?_append_left (by omega)]; exact h3
    · have : t = n := by omega
      subst this
      refine ⟨?_, ?_, ?_, ?_⟩
      · rw [List.getElem?_append_right (by omega), hl, Nat.sub_self]; rfl
      · rw [List.getElem?_append_right (by omega), hl, Nat.add_sub_cancel_left]; rfl
      · rw [List.getElem?_append_right (by omega), hl, Nat.add_sub_cancel_left]; rfl
      · rw [List.getElem?_append_right (by omega), hl, Nat.add_sub_cancel_left]; rfl

theorem owns_some {w : World} {B : Nat} {e : TypeId} {z : Nat} {ao : Option Addr} {m c n : Nat} {xs : List Value} (h : w.ownsRow B e z (.slice ao m c) n xs) (hn : 0 < n) : ∃ g, ao = some ⟨g, 0, none⟩ := by
  rcases h.2 with ⟨_, e⟩ | ⟨g, cap, cur, hv, _⟩
  · omega
  · simp only [Value.slice.injEq] at hv
    exact ⟨g, hv.1⟩

/-- Both lists of steps, read at one place. -/
def SamS (w : World) (x1 z1 : Option Addr) (m : Nat) : Prop := ∀ i, i < m → ∃ g g' A D, x1 = some ⟨g, 0, none⟩ ∧ z1 = some ⟨g', 0, none⟩ ∧ w.cell? ⟨g, i * 2, none⟩ = some (.int .i64 A) ∧ w.cell? ⟨g, i * 2 + 1, none⟩ = some (.int .i64 D) ∧ w.cell? ⟨g', i * 2, none⟩ = some (.int .i64 A) ∧ w.cell? ⟨g', i * 2 + 1, none⟩ = some (.int .i64 D)
/-- Both lists of registers, read at one place. -/
def SamR (w : World) (y1 r1 : Option Addr) (q : Nat) : Prop := ∀ i, i < q → ∃ g g' A D E F, y1 = some ⟨g, 0, none⟩ ∧ r1 = some ⟨g', 0, none⟩ ∧ w.cell? ⟨g, i * 4, none⟩ = some (.int .i64 A) ∧ w.cell? ⟨g, i * 4 + 1, none⟩ = some (.int .i64 D) ∧ w.cell? ⟨g, i * 4 + 2, none⟩ = some (.int .i64 E) ∧ w.cell? ⟨g, i * 4 + 3, none⟩ = some (.int .i64 F) ∧
  w.cell? ⟨g', i * 4, none⟩ = some (.int .i64 A) ∧ w.cell? ⟨g', i * 4 + 1, none⟩ = some (.int .i64 D) ∧ w.cell? ⟨g', i * 4 + 2, none⟩ = some (.int .i64 E) ∧ w.cell? ⟨g', i * 4 + 3, none⟩ = some (.int .i64 F)
theorem samS_of {w : World} {B B' : Nat} {x1 z1 : Option Addr} {m c c' : Nat} {L : List (Int × Int)} (hm : m = L.length) (h : w.ownsRow B 84 2 (.slice x1 m c) m (flatS L)) (h' : w.ownsRow B' 84 2 (.slice z1 m c') m (flatS L)) : SamS w x1 z1 m := by
  intro i hi
  obtain ⟨g, rfl⟩ := owns_some h (by omega)
  obtain ⟨g', rfl⟩ := owns_some h' (by omega)
  obtain ⟨e1, e2⟩ := flatS_two L i (by omega)
  exact ⟨g, g', _, _, rfl, rfl, by rw [h.cellAt _ (by omega)]; exact e1, by rw [h.cellAt _ (by omega)]; exact e2, by rw [h'.cellAt _ (by omega)]; exact e1, by rw [h'.cellAt _ (by omega)]; exact e2⟩
theorem samR_of {w : World} {B B' : Nat} {y1 r1 : Option Addr} {q c c' : Nat} {st : St} (h : w.ownsRow B 29 4 (.slice y1 q c) q (regsF q st)) (h' : w.ownsRow B' 29 4 (.slice r1 q c') q (regsF q st)) : SamR w y1 r1 q := by
  intro i hi
  obtain ⟨g, rfl⟩ := owns_some h (by omega)
  obtain ⟨g', rfl⟩ := owns_some h' (by omega)
  obtain ⟨e1, e2, e3, e4⟩ := regsF_four st q i hi
  exact ⟨g, g', _, _, _, _, rfl, rfl, by rw [h.cellAt _ (by omega)]; exact e1, by rw [h.cellAt _ (by omega)]; exact e2, by rw [h.cellAt _ (by omega)]; exact e3, by rw [h.cellAt _ (by omega)]; exact e4, by rw [h'.cellAt _ (by omega)]; exact e1, by rw [h'.cellAt _ (by omega)]; exact e2, by rw [h'.cellAt _ (by omega)]; exact e3, by rw [h'.cellAt _ (by omega)]; exact e4⟩
theorem SamS.pres {w w' : World} {x1 z1 : Option Addr} {m : Nat} (h : SamS w x1 z1 m) (hp : Pres w w') : SamS w' x1 z1 m := fun i hi => by
  obtain ⟨g, g', A, D, e1, e2, c1, c2, c3, c4⟩ := h i hi
  exact ⟨g, g', A, D, e1, e2, hp _ _ c1, hp _ _ c2, hp _ _ c3, hp _ _ c4⟩
theorem SamR.pres {w w' : World} {x1 z1 : Option Addr} {m : Nat} (h : SamR w x1 z1 m) (hp : Pres w w') : SamR w' x1 z1 m := fun i hi => by
  obtain ⟨g, g', A, D, E, F, e1, e2, c1, c2, c3, c4, c5, c6, c7, c8⟩ := h i hi
  exact ⟨g, g', A, D, E, F, e1, e2, hp _ _ c1, hp _ _ c2, hp _ _ c3, hp _ _ c4, hp _ _ c5, hp _ _ c6, hp _ _ c7, hp _ _ c8⟩
/-- A block has one type. -/
theorem two_types {w : World} {B B' : Nat} {v v' : Value} {m q : Nat} {xs ys : List Value} (h : w.ownsRow B 84 2 v m xs) (h' : w.ownsRow B' 29 4 v' q ys) {g : Nat} (e : v.ownBlock = some g) (e' : v'.ownBlock = some g) : False := by
  rcases h.2 with ⟨rfl, _⟩ | ⟨g1, cap1, cur1, rfl, _, hh, _⟩
  · cases e
  · rcases h'.2 with ⟨rfl, _⟩ | ⟨g2, cap2, cur2, rfl, _, hh', _⟩
    · cases e'
    · simp only [Value.ownBlock, Option.some.injEq] at e e'
      subst e e'
      rw [hh] at hh'
      simp only [Option.some.injEq, Obj.cells.injEq] at hh'
      exact absurd hh'.2.1 (by decide)

end Go.Proofs.YtklenjmfalljgaaGreatDoor

/- What stands behind a place of a function's text. -/
namespace Go.Proofs.YtklenjmfalljgaaGreatDoor

/-- Does the text begin with region n? -/
def atR (n : Nat) : Code → Bool
  | .region k _ _ => Nat.beq k n
  | .seq a _ => atR n a
  | .block _ c => atR n c
  | .scope c => atR n c
  | .loop c => atR n c
  | _ => false
/-- The statements from region n on, to the end of their row. -/
def tailAt (n : Nat) : Code → Option Code
  | .seq a b => match atR n a with
    | true => some (.seq a b)
    | false => match tailAt n a with
      | some c => some c
      | none => tailAt n b
  | .block _ c => tailAt n c
  | .scope c => tailAt n c
  | .loop c => tailAt n c
  | .cond _ a b => match tailAt n a with
    | some c => some c
    | none => tailAt n b
  | _ => none
/-- The statements of a function from region n on. -/
def tailOf (f : Func) (n : Nat) : Code := match f.body with
  | some c => (tailAt n c).getD .skip
  | none => .skip

end Go.Proofs.YtklenjmfalljgaaGreatDoor

/- The second half of the hands' replayed: both lists are compared, then kept, and all that came out holds. -/
namespace Go.Proofs.YtklenjmfalljgaaGreatDoor
open Go.RowKit
attribute [local go_sem] Go.World.cell?_alloc_some run_eq4

set_option maxHeartbeats 4000000 in
set_option maxRecDepth 100000 in
theorem repTail {B : Nat} {W w : World} {b n8 n11 : Nat} {who : Nat → Role} {n : Int} {f : Nat → Value} {K : Nat → List (Value × Int)} {x1 y1 z1 r1 : Option Addr} {m q x3 y3 z3 r3 : Nat} {L G : List Value}
    (HZ : Hid (Hz B w b who n f K)) (HW : Hid (W.grownBy w none)) (hWB : W.heap.size ≤ B) (HX : Hid (w.ownsRow B 84 2 (.slice x1 m x3) m L)) (HY : Hid (w.ownsRow B 29 4 (.slice y1 q y3) q G))
    (HOX : Hid (∀ g, (Value.slice x1 m x3).ownBlock = some g → who g = .other)) (HOY : Hid (∀ g, (Value.slice y1 q y3).ownBlock = some g → who g = .other)) (HSS : Hid (SamS w x1 z1 m)) (HSR : Hid (SamR w y1 r1 q))
    (H83 : Hid (w.cell? ⟨n8, 3, none⟩ = some (.slice x1 m x3))) (H88 : Hid (w.cell? ⟨n8, 8, none⟩ = some (.slice y1 q y3))) (H13 : Hid (w.cell? ⟨n11, 3, none⟩ = some (.slice z1 m z3))) (H18 : Hid (w.cell? ⟨n11, 8, none⟩ = some (.slice r1 q r3)))
    (HN8 : Hid (who n8 = .other)) (HNX : Hid ((Value.slice x1 m x3).ownBlock ≠ some n8)) (hm : m ≤ 500) (hq : q ≤ 4) (hn0 : 0 ≤ n) (hn1 : n ≤ 1000) (HK : Hid (∀ c, c < 5 → (K c).length ≤ 1000))
    {Q : Exit → Act → World → Prop} {c1 c2 c3 c4 c5 c6 c7 c9 c10 c12 c14 c15 c16 c17 c18 c19 c20 c21 c22 c23 c24 c25 c26 c27 c28 c29 c30 c31 c32 c33 c34 c35 c36 c37 c38 c39 c40 c41 c42 c43 c44 c45 c46 c47 c48 c49 c50 c51 c52 c53 c54 c55 c56 c57 c58 c59 c60 c61 c62 c63 c64 c65 c66 c67 c68 c69 c70 c71 c72 c73 c74 c75 c76 c77 c78 c79 c80 c81 c82 c83 c84 c85 c86 c87 c88 c89 c90 c91 c92 c93 c94 c95 c96 c97 c98 c99 c100 c101 c102 c103 c104 c105 c106 c107 c108 c109 c110 c111 c112 c113 c114 c115 c116 c117 c118 c119 c120 c121 c122 c123 c124 c125 c126 c127 c128 c129 c130 c131 c132 c133 c134 c135 c136 c137 c138 c139 c140 : Value}
    (HQ : Hid (∀ {z0 z1 z2 z3 z4 z5 z7 z8 z9 z10 z11 z12 z13 z14 z15 z16 z17 z18 z19 z20 z21 z22 z23 z24 z25 z26 z27 z28 z29 z30 z31 z32 z33 z34 z35 z36 z37 z38 z39 z40 z41 z42 z43 z44 z45 z46 z47 z48 z49 z50 z51 z52 z53 z54 z55 z56 z57 z58 z59 z60 z61 z62 z63 z64 z65 z66 z67 z68 z69 z70 z71 z72 z73 z74 z75 z76 z77 z78 z79 z80 z81 z82 z83 z84 z85 z86 z87 z88 z89 z90 z91 z92 z93 z94 z95 z96 z97 z98 z99 z100 z101 z102 z103 z104 z105 z106 z107 z108 z109 z110 z111 z112 z113 z114 z115 z116 z117 z118 z119 z120 z121 z122 z123 z124 z125 z126 z127 z128 z129 z130 z131 z132 z133 z134 z135 z136 z137 z138 z139 z140 : Value} (w' : World), (∃ who' f' K', Hz B w' b who' (n + 2) f' K' ∧ W.grownBy w' none ∧ ∀ c, c < 5 → (K' c).length ≤ (K c).length + 4) → Q .ret ⟨#[z0, z1, z2, z3, z4, z5, .bool true, z7, z8, z9, z10, z11, z12, z13, z14, z15, z16, z17, z18, z19, z20, z21, z22, z23, z24, z25, z26, z27, z28, z29, z30, z31, z32, z33, z34, z35, z36, z37, z38, z39, z40, z41, z42, z43, z44, z45, z46, z47, z48, z49, z50, z51, z52, z53, z54, z55, z56, z57, z58, z59, z60, z61, z62, z63, z64, z65, z66, z67, z68, z69, z70, z71, z72, z73, z74, z75, z76, z77, z78, z79, z80, z81, z82, z83, z84, z85, z86, z87, z88, z89, z90, z91, z92, z93, z94, z95, z96, z97, z98, z99, z100, z101, z102, z103, z104, z105, z106, z107, z108, z109, z110, z111, z112, z113, z114, z115, z116, z117, z118, z119, z120, z121, z122, z123, z124, z125, z126, z127, z128, z129, z130, z131, z132, z133, z134, z135, z136, z137, z138, z139, z140], []⟩ w')) :
    Code.wp Tryz.prog (tailOf Tryz.f8 6) Q ⟨#[.pointer (some ⟨b, 0, none⟩), c1, c2, c3, c4, c5, c6, c7, .pointer (some ⟨n8, 0, none⟩), c9, c10, .pointer (some ⟨n11, 0, none⟩), c12, .bool true, c14, c15, c16, c17, c18, c19, c20, c21, c22, c23, c24, c25, c26, c27, c28, c29, c30, c31, c32, c33, c34, c35, c36, c37, c38, c39, c40, c41, c42, c43, c44, c45, c46, c47, c48, c49, c50, c51, c52, c53, c54, c55, c56, c57, c58, c59, c60, c61, c62, c63, c64, c65, c66, c67, c68, c69, c70, c71, c72, c73, c74, c75, c76, c77, c78, c79, c80, c81, c82, c83, c84, c85, c86, c87, c88, c89, c90, c91, c92, c93, c94, c95, c96, c97, c98, c99, c100, c101, c102, c103, c104, c105, c106, c107, c108, c109, c110, c111, c112, c113, c114, c115, c116, c117, c118, c119, c120, c121, c122, c123, c124, c125, c126, c127, c128, c129, c130, c131, c132, c133, c134, c135, c136, c137, c138, c139, c140], []⟩ w := by
  conv => arg 2; whnf
  have qm : (m : Int) ≤ 500 := by omega
  have qq : (q : Int) ≤ 4 := by omega
  go_wp2_with fail
  go_loopw [13, 14] (fun ov iv w' => ∃ i : Nat, i ≤ m ∧ ov = .bool true ∧ iv = .int .i64 i ∧ Hid (Like w' w)) (fun _ iv _ => m - (intOf iv).toNat)
  case atStart => exact ⟨0, Nat.zero_le _, rfl, rfl, hide (like_refl _)⟩
  case round =>
    obtain ⟨i, hi, rfl, rfl, HL⟩ := hrel
    obtain ⟨w1, hw1⟩ : ∃ w1, w1 = wr := ⟨_, rfl⟩
    rw [← hw1] at HL ⊢
    clear hw1
    have HG : Hid (w.grownBy w1 none) := grown_of_like HL.out
    have k3 := pres_grown HG.out _ _ H83.out
    by_cases hlt : i < m
    · have t0 : (0 : Int) ≤ (i : Int) := by omega
      have t1 : (i : Int) < m := by omega
      obtain ⟨g, g', A, D, rfl, rfl, e1, e2, e3, e4⟩ := HSS.out.pres (pres_grown HG.out) i hlt
      have k4 := pres_grown HG.out _ _ H13.out
      go_wp2_with fail
      go_quiet (fail)
      go_wp2_with fail
      go_roundw
      case rel => exact ⟨i + 1, by omega, by simp, by go_num, hide (like_dn HL.out _)⟩
      case measure => simp [intOf]; omega
    · have t1 : (m : Int) ≤ (i : Int) := by omega
      go_wp2_with fail
      go_loopw [13, 15] (fun ov iv w' => ∃ i : Nat, i ≤ q ∧ ov = .bool true ∧ iv = .int .i64 i ∧ Hid (Like w' w)) (fun _ iv _ => q - (intOf iv).toNat)
      case atStart => exact ⟨0, Nat.zero_le _, rfl, rfl, HL⟩
      case round =>
        clear k3 HG HL
        obtain ⟨j, hj, rfl, rfl, HL⟩ := hrel
        obtain ⟨w2, hw2⟩ : ∃ w2, w2 = wr := ⟨_, rfl⟩
        rw [← hw2] at HL ⊢
        clear hw2
        have HG : Hid (w.grownBy w2 none) := grown_of_like HL.out
        have k8 := pres_grown HG.out _ _ H88.out
        by_cases hjl : j < q
        · have t2 : (0 : Int) ≤ (j : Int) := by omega
          have t3 : (j : Int) < q := by omega
          obtain ⟨g, g', A, D, E, F, rfl, rfl, e1, e2, e3, e4, e5, e6, e7, e8⟩ := HSR.out.pres (pres_grown HG.out) j hjl
          have k9 := pres_grown HG.out _ _ H18.out
          go_wp2_with fail
          go_quiet (fail)
          go_wp2_with fail
          go_roundw
          case rel => exact ⟨j + 1, by omega, by simp, by go_num, hide (like_dn HL.out _)⟩
          case measure => simp [intOf]; omega
        · have t3 : (q : Int) ≤ (j : Int) := by omega
          have k3 := pres_grown HG.out _ _ H83.out
          have hpt : pt b = .pointer (some ⟨b, 0, none⟩) := rfl
          have HKS := hide (keepSteps_g B w2 b who n f K (.slice x1 m x3) m L (HZ.out.1.grown HG.out) (owns_grown HX.out HG.out (fun _ e => by cases e)) HOX.out hn0 (by omega) (by have := HK.out 1 (by omega); omega) (by omega))
          rw [hpt] at HKS
          have HY2 : Hid (w2.ownsRow B 29 4 (.slice y1 q y3) q G) := owns_grown HY.out HG.out (fun _ e => by cases e)
          have HX2 : Hid (w2.ownsRow B 84 2 (.slice x1 m x3) m L) := owns_grown HX.out HG.out (fun _ e => by cases e)
          have HW2 : Hid (W.grownBy w2 none) := grown_trans HW.out HG.out
          have HC8 := hide k8
          go_wp2_with fail
          refine HKS.out.mono ?_
          clear HKS k3 k8
          rintro e w3 ⟨⟨rv, rfl⟩, who3, f3, K3, hH3, hA3⟩
          have hl8 : n8 < w2.heap.size := World.block_lt_of_cell? w2 _ HC8.out
          have h8x := hA3.fr.oth n8 hl8 HN8.out (fun e => HNX.out e)
          have k8 : w3.cell? ⟨n8, 8, none⟩ = some (.slice y1 q y3) := by rw [World.cell?_of_block h8x.1]; exact HC8.out
          have hyo : ∀ g, (Value.slice y1 q y3).ownBlock = some g → w3.heap[g]? = w2.heap[g]? ∧ who3 g = .other := fun g e => hA3.fr.oth g (owns_ltH HY2.out g e) (HOY.out g e) (fun e2 => two_types HX2.out HY2.out e2 e)
          have HY3 : Hid (w3.ownsRow B 29 4 (.slice y1 q y3) q G) := owns_same HY2.out (fun g e => (hyo g e).1)
          have HOY3 : Hid (∀ g, (Value.slice y1 q y3).ownBlock = some g → who3 g = .other) := fun g e => (hyo g e).2
          have HXB : Hid (∀ g, (Value.slice x1 m x3).ownBlock = some g → W.heap.size ≤ g) := fun g e => by have := owns_block HX2.out g e; omega
          have HYB : Hid (∀ g, (Value.slice y1 q y3).ownBlock = some g → W.heap.size ≤ g) := fun g e => by have := owns_block HY2.out g e; omega
          have HW3 : Hid (W.grownBy w3 none) := hA3.fr.base HW2.out hWB (fun g e => (HZ.out.1.1.dom g e).1) HXB.out
          have HF3 : Hid (∀ k, k < 5 → f3 k = .slice none 0 0) := fun k hk => by rw [hA3.lent k hk]; exact HZ.out.2 k hk
          have HK3 : Hid (∀ c, c < 5 → (K3 c).length ≤ (K c).length + 4 ∧ (c ≠ 1 → (K3 c).length ≤ (K c).length)) := fun c hc => by
            by_cases e : c = 1
            · subst e; have := hA3.len; exact ⟨by omega, fun h => absurd rfl h⟩
            · rw [hA3.oth c e]; exact ⟨by omega, fun _ => by omega⟩
          have HKR := hide (keepRegs_g B w3 b who3 (n + 1) f3 K3 (.slice y1 q y3) q G hH3 HY3.out HOY3.out (by omega) (by omega) (by have := HK3.out 2 (by omega); have := HK.out 2 (by omega); omega) (by omega))
          rw [hpt] at HKR
          have HH3 := hide hH3
          clear hH3 hA3 hyo h8x hl8 HC8
          go_wp2_with fail
          refine HKR.out.mono ?_
          clear HKR k8
          rintro e w4 ⟨⟨rv', rfl⟩, who4, f4, K4, hH4, hA4⟩
          have HW4 : Hid (W.grownBy w4 none) := hA4.fr.base HW3.out hWB (fun g e => (HH3.out.1.dom g e).1) HYB.out
          have HF4 : Hid (∀ k, k < 5 → f4 k = .slice none 0 0) := fun k hk => by rw [hA4.lent k hk]; exact HF3.out k hk
          have HK4 : Hid (∀ c, c < 5 → (K4 c).length ≤ (K c).length + 4) := fun c hc => by
            by_cases e : c = 2
            · subst e; have := hA4.len; have := (HK3.out 2 (by omega)).2 (by omega); omega
            · rw [hA4.oth c e]; exact (HK3.out c hc).1
          have HHO := hide (holds_g B w4 b who4 (n + 1 + 1) f4 K4 hH4 (fun c hc => by have := HK4.out c hc; have := HK.out c hc; omega))
          rw [hpt] at HHO
          have HH4 := hide hH4
          clear hH4 hA4
          go_wp2_with fail
          refine HHO.out.mono ?_
          clear HHO
          rintro e w5 ⟨rfl, hl5⟩
          have HG45 : Hid (w4.grownBy w5 none) := grown_of_like hl5
          clear hl5
          go_wp2_with fail
          exact HQ.out w5 ⟨who4, f4, K4, ⟨by have := HH4.out.grown HG45.out; rw [show n + 1 + 1 = n + 2 by omega] at this; exact this, HF4.out⟩, grown_trans HW4.out HG45.out, HK4.out⟩

end Go.Proofs.YtklenjmfalljgaaGreatDoor
