/- The texts Hgn Hgd0 Hgv TxtP TxtQ TxtR TxtW Crc BytP BytQ Wqa Wqb Wqc Scn Scn2 Scn3. -/
import Derived.Test.YtklenjmfalljgaaDoorMD
import Derived.ChangeKeysEq
import Derived.RowKit
import Derived.Lib.ItoaNum
import Derived.Lib.Join
import Derived.WalkSpells
import Derived.WalkLawsBesides
import Derived.Deep.Light

/- The walk of the hands' holds, whole. -/
namespace Go.Proofs.YtklenjmfalljgaaDoor
open Go.RowKit

theorem run_eq4h (a b c d : Int) (w : World) : (Op.equalIn 10000 34 (.agg #[.int .i64 a, .int .i64 b, .int .i64 c, .int .i64 d]) (.agg #[.int .i64 a, .int .i64 b, .int .i64 c, .int .i64 d])).run Tryd.prog w = .ok true w := by
  obtain ⟨i0, hi0, hz0, hz1, hz2⟩ := info_parts info_int
  have hc : Tryd.prog.cellsOf 3 = 1 := by simp [Program.cellsOf, hi0, hz1]
  have hk : Tryd.prog.plainKey 3 = true := by simp [Program.plainKey, Tryd.underlying3]
  rw [show (10000 : Nat) = 9999 + 1 from rfl, run_equalIn_array w 9999 _ _ (n := 4) (e := 3) (by first | exact Tryd.underlying34 | kernel_rfl) hi0, hc]
  have he : ∀ (d : Nat) (v : Int), (Op.equalIn (d + 1) 3 (.int .i64 v) (.int .i64 v)).run Tryd.prog w = .ok true w := fun d v => by
    rw [run_equalIn_int w d _ _ .i64 v v Tryd.underlying3]; simp
  have hq := he 9998
  simp only [Nat.reduceAdd] at hq
  have p0 := run_part_plain w hk (xs := #[.int .i64 a, .int .i64 b, .int .i64 c, .int .i64 d]) (off := 0) rfl
  have p1 := run_part_plain w hk (xs := #[.int .i64 a, .int .i64 b, .int .i64 c, .int .i64 d]) (off := 1) rfl
  have p2 := run_part_plain w hk (xs := #[.int .i64 a, .int .i64 b, .int .i64 c, .int .i64 d]) (off := 2) rfl
  have p3 := run_part_plain w hk (xs := #[.int .i64 a, .int .i64 b, .int .i64 c, .int .i64 d]) (off := 3) rfl
  simp [List.range, List.range.loop, Op.eqItems, Sem.run_bind, p0, p1, p2, p3, hq, Result.andThen_ok]
attribute [local go_sem] Go.World.cell?_alloc_some run_eq4h

theorem kept_read {c : Nat} {w : World} {who : Nat → Role} {v : Value} {m : Int} (h : KeptC c w who (v, m)) (hc : c ≠ 4) : ∃ xa xl xc, v = .slice xa xl xc ∧ xl ≤ 1000 ∧ ∀ j, j < xl → ∃ g, xa = some ⟨g, 0, none⟩ ∧ ∀ t u, (elC m c)[t]? = some u → w.cell? ⟨g, j * (elC m c).length + t, none⟩ = some u := by
  rcases h with e | ⟨g, len, cap, e, hl, hin⟩
  · exact ⟨none, 0, 0, e, by omega, fun j hj => by omega⟩
  · exact ⟨some ⟨g, 0, none⟩, len, cap, e, hl, fun j hj => ⟨g, rfl, (keptIn_plain hc).1 hin j hj⟩⟩
theorem kept_read4 {w : World} {who : Nat → Role} {v : Value} {m : Int} (h : KeptC 4 w who (v, m)) : ∃ xa xl xc, v = .slice xa xl xc ∧ xl ≤ 1000 ∧ ∀ j, j < xl → ∃ g g' cap', xa = some ⟨g, 0, none⟩ ∧ w.cell? ⟨g, j, none⟩ = some (.slice (some ⟨g', 0, none⟩) 1 cap') ∧ w.heap[g']? = some (.cells (elC m 3).toArray 28 (0, 0)) := by
  rcases h with e | ⟨g, len, cap, e, hl, hin⟩
  · exact ⟨none, 0, 0, e, by omega, fun j hj => by omega⟩
  · refine ⟨some ⟨g, 0, none⟩, len, cap, e, hl, fun j hj => ?_⟩
    obtain ⟨g', cap', h1, h2, _⟩ := keptIn_four.1 hin j hj
    exact ⟨g, g', cap', rfl, h1, h2⟩
theorem two_rows {w : World} {B : Nat} {T : TypeId} {v u : Value} {L : List (Value × Int)} (h1 : w.ownsRow B T 1 v L.length (L.map (·.1))) (h2 : w.ownsRow B 3 1 u L.length (ints (L.map (·.2)))) {i : Nat} (hi : i < L.length) :
    ∃ g c g' c', v = .slice (some ⟨g, 0, none⟩) L.length c ∧ u = .slice (some ⟨g', 0, none⟩) L.length c' ∧ w.cell? ⟨g, i, none⟩ = some L[i].1 ∧ w.cell? ⟨g', i, none⟩ = some (.int .i64 L[i].2) := by
  obtain ⟨g, c, e, _, _⟩ := h1.form (by omega)
  obtain ⟨g', c', e', _, _⟩ := h2.form (by omega)
  refine ⟨g, c, g', c', e, e', ?_, ?_⟩
  · rw [e] at h1; rw [h1.cellAt i (by omega)]; simp [hi]
  · rw [e'] at h2; rw [h2.cellAt i (by omega)]; simp [ints, hi]

set_option maxRecDepth 100000 in
set_option maxHeartbeats 4000000 in
theorem holds_g (B : Nat) (w : World) (b : Nat) (who : Nat → Role) (n : Int) (f : Nat → Value) (K : Nat → List (Value × Int)) (hH : HsK B w b who n f K) (hK : ∀ c, c < 5 → (K c).length ≤ 6000000000000) :
    Calls Tryd.prog 59 #[pt b] w fun e w' => e = .returned (.bool true) ∧ Like w' w := by
  have HH := hide hH
  have hpt : pt b = .pointer (some ⟨b, 0, none⟩) := rfl
  rw [hpt]
  have hK0 := hK 0 (by omega)
  have rl0 : w.ownsRow B 22 1 (f 6) (K 0).length ((K 0).map (·.1)) := hH.1.lst 0 (by omega)
  have rm0 : w.ownsRow B 3 1 (f 7) (K 0).length (ints ((K 0).map (·.2))) := by have := hH.1.mrk 0 (by omega); simpa [marksOf] using this
  have HL0 := hide rl0
  have HM0 := hide rm0
  have cl0 := hH.1.blk.cell (o := 6) (by omega)
  have cm0 := hH.1.blk.cell (o := 7) (by omega)
  obtain ⟨la0, lb0, lc0, el0⟩ := owns_form rl0
  obtain ⟨ma0, mb0, mc0, em0⟩ := owns_form rm0
  rw [el0] at cl0 rl0
  rw [em0] at cm0 rm0
  have hlb0 := owns_lenq rl0
  have hmb0 := owns_lenq rm0
  subst hlb0 hmb0
  have HCL0 := hide cl0
  have HCM0 := hide cm0
  have HEL0 := hide el0
  have HEM0 := hide em0
  have HKP0 := hide (fun x hx => (hH.1.kept 0 (by omega) x hx).1)
  clear rl0 rm0 cl0 cm0 el0 em0
  have hK1 := hK 1 (by omega)
  have rl1 : w.ownsRow B 33 1 (f 8) (K 1).length ((K 1).map (·.1)) := hH.1.lst 1 (by omega)
  have rm1 : w.ownsRow B 3 1 (f 9) (K 1).length (ints ((K 1).map (·.2))) := by have := hH.1.mrk 1 (by omega); simpa [marksOf] using this
  have HL1 := hide rl1
  have HM1 := hide rm1
  have cl1 := hH.1.blk.cell (o := 8) (by omega)
  have cm1 := hH.1.blk.cell (o := 9) (by omega)
  obtain ⟨la1, lb1, lc1, el1⟩ := owns_form rl1
  obtain ⟨ma1, mb1, mc1, em1⟩ := owns_form rm1
  rw [el1] at cl1 rl1
  rw [em1] at cm1 rm1
  have hlb1 := owns_lenq rl1
  have hmb1 := owns_lenq rm1
  subst hlb1 hmb1
  have HCL1 := hide cl1
  have HCM1 := hide cm1
  have HEL1 := hide el1
  have HEM1 := hide em1
  have HKP1 := hide (fun x hx => (hH.1.kept 1 (by omega) x hx).1)
  clear rl1 rm1 cl1 cm1 el1 em1
  have hK2 := hK 2 (by omega)
  have rl2 : w.ownsRow B 35 1 (f 10) (K 2).length ((K 2).map (·.1)) := hH.1.lst 2 (by omega)
  have rm2 : w.ownsRow B 3 1 (f 11) (K 2).length (ints ((K 2).map (·.2))) := by have := hH.1.mrk 2 (by omega); simpa [marksOf] using this
  have HL2 := hide rl2
  have HM2 := hide rm2
  have cl2 := hH.1.blk.cell (o := 10) (by omega)
  have cm2 := hH.1.blk.cell (o := 11) (by omega)
  obtain ⟨la2, lb2, lc2, el2⟩ := owns_form rl2
  obtain ⟨ma2, mb2, mc2, em2⟩ := owns_form rm2
  rw [el2] at cl2 rl2
  rw [em2] at cm2 rm2
  have hlb2 := owns_lenq rl2
  have hmb2 := owns_lenq rm2
  subst hlb2 hmb2
  have HCL2 := hide cl2
  have HCM2 := hide cm2
  have HEL2 := hide el2
  have HEM2 := hide em2
  have HKP2 := hide (fun x hx => (hH.1.kept 2 (by omega) x hx).1)
  clear rl2 rm2 cl2 cm2 el2 em2
  have hK3 := hK 3 (by omega)
  have rl3 : w.ownsRow B 29 1 (f 12) (K 3).length ((K 3).map (·.1)) := hH.1.lst 3 (by omega)
  have rm3 : w.ownsRow B 3 1 (f 13) (K 3).length (ints ((K 3).map (·.2))) := by have := hH.1.mrk 3 (by omega); simpa [marksOf] using this
  have HL3 := hide rl3
  have HM3 := hide rm3
  have cl3 := hH.1.blk.cell (o := 12) (by omega)
  have cm3 := hH.1.blk.cell (o := 13) (by omega)
  obtain ⟨la3, lb3, lc3, el3⟩ := owns_form rl3
  obtain ⟨ma3, mb3, mc3, em3⟩ := owns_form rm3
  rw [el3] at cl3 rl3
  rw [em3] at cm3 rm3
  have hlb3 := owns_lenq rl3
  have hmb3 := owns_lenq rm3
  subst hlb3 hmb3
  have HCL3 := hide cl3
  have HCM3 := hide cm3
  have HEL3 := hide el3
  have HEM3 := hide em3
  have HKP3 := hide (fun x hx => (hH.1.kept 3 (by omega) x hx).1)
  clear rl3 rm3 cl3 cm3 el3 em3
  have hK4 := hK 4 (by omega)
  have rl4 : w.ownsRow B 23 1 (f 14) (K 4).length ((K 4).map (·.1)) := hH.1.lst 4 (by omega)
  have rm4 : w.ownsRow B 3 1 (f 15) (K 4).length (ints ((K 4).map (·.2))) := by have := hH.1.mrk 4 (by omega); simpa [marksOf] using this
  have HL4 := hide rl4
  have HM4 := hide rm4
  have cl4 := hH.1.blk.cell (o := 14) (by omega)
  have cm4 := hH.1.blk.cell (o := 15) (by omega)
  obtain ⟨la4, lb4, lc4, el4⟩ := owns_form rl4
  obtain ⟨ma4, mb4, mc4, em4⟩ := owns_form rm4
  rw [el4] at cl4 rl4
  rw [em4] at cm4 rm4
  have hlb4 := owns_lenq rl4
  have hmb4 := owns_lenq rm4
  subst hlb4 hmb4
  have HCL4 := hide cl4
  have HCM4 := hide cm4
  have HEL4 := hide el4
  have HEM4 := hide em4
  have HKP4 := hide (fun x hx => (hH.1.kept 4 (by omega) x hx).1)
  clear rl4 rm4 cl4 cm4 el4 em4
  have HLL : Hid (∀ w', Like w' w → ∀ a, w'.cell? a = w.cell? a) := fun w' hl a => by simp [World.cell?, hl.1]
  clear hH hK hpt
  have qK0 : ((K 0).length : Int) ≤ 6000000000000 := by omega
  generalize hk0 : K 0 = L0 at *
  clear hk0
  have qK1 : ((K 1).length : Int) ≤ 6000000000000 := by omega
  generalize hk1 : K 1 = L1 at *
  clear hk1
  have qK2 : ((K 2).length : Int) ≤ 6000000000000 := by omega
  generalize hk2 : K 2 = L2 at *
  clear hk2
  have qK3 : ((K 3).length : Int) ≤ 6000000000000 := by omega
  generalize hk3 : K 3 = L3 at *
  clear hk3
  have qK4 : ((K 4).length : Int) ≤ 6000000000000 := by omega
  generalize hk4 : K 4 = L4 at *
  clear hk4
  go_enter Tryd.func59, Tryd.ntmps59
  go_wp2_with fail
  go_loopw [3] (fun i w' => ∃ k : Nat, k ≤ L0.length ∧ i = .int .i64 k ∧ Hid (Like w' w)) (fun i _ => L0.length - (intOf i).toNat)
  case atStart => exact ⟨0, Nat.zero_le _, rfl, hide (like_refl _)⟩
  case round =>
    skip
    obtain ⟨k, hk, rfl, HLK⟩ := hrel
    obtain ⟨w5, hw5⟩ : ∃ w5, w5 = wr := ⟨_, rfl⟩
    rw [← hw5] at HLK ⊢
    clear hw5
    have e6 : w5.cell? ⟨b, 6, none⟩ = some (.slice la0 L0.length lc0) := by rw [HLL.out w5 HLK.out]; exact HCL0.out
    by_cases hlt : k < L0.length
    · obtain ⟨og, oc, mg, mc, eo, em, d0, d1⟩ := two_rows HL0.out HM0.out hlt
      rw [HEL0.out] at eo
      rw [HEM0.out] at em
      simp only [Value.slice.injEq, true_and] at eo em
      obtain ⟨rfl, rfl⟩ := eo
      obtain ⟨rfl, rfl⟩ := em
      have HKT := hide (HKP0.out L0[k] (List.getElem_mem hlt))
      have q0 : (0 : Int) ≤ (k : Int) := by omega
      have q1 : (k : Int) < L0.length := by omega
      generalize L0[k] = x at *
      obtain ⟨xv, xm⟩ := x
      simp only at d0 d1
      obtain ⟨xa, xl, xc, hxv, hxl, hxc⟩ := kept_read HKT.out (by omega)
      subst hxv
      have HXC := hide hxc
      clear hxc HKT
      have e7 : w5.cell? ⟨og, k, none⟩ = some (.slice xa xl xc) := by rw [HLL.out w5 HLK.out]; exact d0
      have qx : (xl : Int) ≤ 1000 := by omega
      go_wp2_with fail
      go_loopw [4] (fun i w' => ∃ j : Nat, j ≤ xl ∧ i = .int .i64 j ∧ Hid (Like w' w)) (fun i _ => xl - (intOf i).toNat)
      case atStart => exact ⟨0, Nat.zero_le _, rfl, HLK⟩
      case round =>
        clear e6 e7 HLK
        obtain ⟨j, hj, rfl, HLJ⟩ := hrel
        obtain ⟨w7, hw7⟩ : ∃ w7, w7 = wr := ⟨_, rfl⟩
        rw [← hw7] at HLJ ⊢
        clear hw7
        have f6 : w7.cell? ⟨b, 6, none⟩ = some (.slice (some ⟨og, 0, none⟩) L0.length lc0) := by rw [HLL.out w7 HLJ.out]; exact HCL0.out
        have f7 : w7.cell? ⟨b, 7, none⟩ = some (.slice (some ⟨mg, 0, none⟩) L0.length mc0) := by rw [HLL.out w7 HLJ.out]; exact HCM0.out
        have k0 : w7.cell? ⟨og, k, none⟩ = some (.slice xa xl xc) := by rw [HLL.out w7 HLJ.out]; exact d0
        have k1 : w7.cell? ⟨mg, k, none⟩ = some (.int .i64 xm) := by rw [HLL.out w7 HLJ.out]; exact d1
        by_cases hjl : j < xl
        · obtain ⟨g, rfl, hcj⟩ := HXC.out j hjl
          have g0 : w7.cell? ⟨g, j, none⟩ = some (.int .i64 xm) := by rw [HLL.out w7 HLJ.out]; exact (by simpa [elC] using hcj 0 _ rfl)
          have q2 : (0 : Int) ≤ (j : Int) := by omega
          have q3 : (j : Int) < xl := by omega
          clear hcj d0 d1
          go_wp2_with fail
          go_quiet (fail)
          go_wp2_with fail
          go_roundw
          case rel => exact ⟨j + 1, by omega, by go_num, hide (like_dn HLJ.out _)⟩
          case measure => simp [intOf]; omega
        · have q3 : (xl : Int) ≤ (j : Int) := by omega
          clear d0 d1
          go_wp2_with fail
          go_roundw
          case rel => exact ⟨k + 1, by omega, by go_num, HLJ⟩
          case measure => simp [intOf]; omega
    · have q1 : (L0.length : Int) ≤ (k : Int) := by omega
      go_wp2_with fail
      go_loopw [5] (fun i w' => ∃ k : Nat, k ≤ L1.length ∧ i = .int .i64 k ∧ Hid (Like w' w)) (fun i _ => L1.length - (intOf i).toNat)
      case atStart => exact ⟨0, Nat.zero_le _, rfl, HLK⟩
      case round =>
        clear HLK
        obtain ⟨k, hk, rfl, HLK⟩ := hrel
        obtain ⟨w5, hw5⟩ : ∃ w5, w5 = wr := ⟨_, rfl⟩
        rw [← hw5] at HLK ⊢
        clear hw5
        have e6 : w5.cell? ⟨b, 8, none⟩ = some (.slice la1 L1.length lc1) := by rw [HLL.out w5 HLK.out]; exact HCL1.out
        by_cases hlt : k < L1.length
        · obtain ⟨og, oc, mg, mc, eo, em, d0, d1⟩ := two_rows HL1.out HM1.out hlt
          rw [HEL1.out] at eo
          rw [HEM1.out] at em
          simp only [Value.slice.injEq, true_and] at eo em
          obtain ⟨rfl, rfl⟩ := eo
          obtain ⟨rfl, rfl⟩ := em
          have HKT := hide (HKP1.out L1[k] (List.getElem_mem hlt))
          have q0 : (0 : Int) ≤ (k : Int) := by omega
          have q1 : (k : Int) < L1.length := by omega
          generalize L1[k] = x at *
          obtain ⟨xv, xm⟩ := x
          simp only at d0 d1
          obtain ⟨xa, xl, xc, hxv, hxl, hxc⟩ := kept_read HKT.out (by omega)
          subst hxv
          have HXC := hide hxc
          clear hxc HKT
          have e7 : w5.cell? ⟨og, k, none⟩ = some (.slice xa xl xc) := by rw [HLL.out w5 HLK.out]; exact d0
          have qx : (xl : Int) ≤ 1000 := by omega
          go_wp2_with fail
          go_loopw [6] (fun i w' => ∃ j : Nat, j ≤ xl ∧ i = .int .i64 j ∧ Hid (Like w' w)) (fun i _ => xl - (intOf i).toNat)
          case atStart => exact ⟨0, Nat.zero_le _, rfl, HLK⟩
          case round =>
            clear e6 e7 HLK
            obtain ⟨j, hj, rfl, HLJ⟩ := hrel
            obtain ⟨w7, hw7⟩ : ∃ w7, w7 = wr := ⟨_, rfl⟩
            rw [← hw7] at HLJ ⊢
            clear hw7
            have f6 : w7.cell? ⟨b, 8, none⟩ = some (.slice (some ⟨og, 0, none⟩) L1.length lc1) := by rw [HLL.out w7 HLJ.out]; exact HCL1.out
            have f7 : w7.cell? ⟨b, 9, none⟩ = some (.slice (some ⟨mg, 0, none⟩) L1.length mc1) := by rw [HLL.out w7 HLJ.out]; exact HCM1.out
            have k0 : w7.cell? ⟨og, k, none⟩ = some (.slice xa xl xc) := by rw [HLL.out w7 HLJ.out]; exact d0
            have k1 : w7.cell? ⟨mg, k, none⟩ = some (.int .i64 xm) := by rw [HLL.out w7 HLJ.out]; exact d1
            by_cases hjl : j < xl
            · obtain ⟨g, rfl, hcj⟩ := HXC.out j hjl
              have g0 : w7.cell? ⟨g, j * 2, none⟩ = some (.int .i64 xm) := by rw [HLL.out w7 HLJ.out]; exact hcj 0 _ rfl
              have g1 : w7.cell? ⟨g, j * 2 + 1, none⟩ = some (.int .i64 0) := by rw [HLL.out w7 HLJ.out]; exact hcj 1 _ rfl
              have q2 : (0 : Int) ≤ (j : Int) := by omega
              have q3 : (j : Int) < xl := by omega
              clear hcj d0 d1
              go_wp2_with fail
              go_quiet (fail)
              go_wp2_with fail
              go_roundw
              case rel => exact ⟨j + 1, by omega, by go_num, hide (like_dn HLJ.out _)⟩
              case measure => simp [intOf]; omega
            · have q3 : (xl : Int) ≤ (j : Int) := by omega
              clear d0 d1
              go_wp2_with fail
              go_roundw
              case rel => exact ⟨k + 1, by omega, by go_num, HLJ⟩
              case measure => simp [intOf]; omega
        · have q1 : (L1.length : Int) ≤ (k : Int) := by omega
          go_wp2_with fail
          go_loopw [7] (fun i w' => ∃ k : Nat, k ≤ L2.length ∧ i = .int .i64 k ∧ Hid (Like w' w)) (fun i _ => L2.length - (intOf i).toNat)
          case atStart => exact ⟨0, Nat.zero_le _, rfl, HLK⟩
          case round =>
            clear HLK
            obtain ⟨k, hk, rfl, HLK⟩ := hrel
            obtain ⟨w5, hw5⟩ : ∃ w5, w5 = wr := ⟨_, rfl⟩
            rw [← hw5] at HLK ⊢
            clear hw5
            have e6 : w5.cell? ⟨b, 10, none⟩ = some (.slice la2 L2.length lc2) := by rw [HLL.out w5 HLK.out]; exact HCL2.out
            by_cases hlt : k < L2.length
            · obtain ⟨og, oc, mg, mc, eo, em, d0, d1⟩ := two_rows HL2.out HM2.out hlt
              rw [HEL2.out] at eo
              rw [HEM2.out] at em
              simp only [Value.slice.injEq, true_and] at eo em
              obtain ⟨rfl, rfl⟩ := eo
              obtain ⟨rfl, rfl⟩ := em
              have HKT := hide (HKP2.out L2[k] (List.getElem_mem hlt))
              have q0 : (0 : Int) ≤ (k : Int) := by omega
              have q1 : (k : Int) < L2.length := by omega
              generalize L2[k] = x at *
              obtain ⟨xv, xm⟩ := x
              simp only at d0 d1
              obtain ⟨xa, xl, xc, hxv, hxl, hxc⟩ := kept_read HKT.out (by omega)
              subst hxv
              have HXC := hide hxc
              clear hxc HKT
              have e7 : w5.cell? ⟨og, k, none⟩ = some (.slice xa xl xc) := by rw [HLL.out w5 HLK.out]; exact d0
              have qx : (xl : Int) ≤ 1000 := by omega
              go_wp2_with fail
              go_loopw [8] (fun i w' => ∃ j : Nat, j ≤ xl ∧ i = .int .i64 j ∧ Hid (Like w' w)) (fun i _ => xl - (intOf i).toNat)
              case atStart => exact ⟨0, Nat.zero_le _, rfl, HLK⟩
              case round =>
                clear e6 e7 HLK
                obtain ⟨j, hj, rfl, HLJ⟩ := hrel
                obtain ⟨w7, hw7⟩ : ∃ w7, w7 = wr := ⟨_, rfl⟩
                rw [← hw7] at HLJ ⊢
                clear hw7
                have f6 : w7.cell? ⟨b, 10, none⟩ = some (.slice (some ⟨og, 0, none⟩) L2.length lc2) := by rw [HLL.out w7 HLJ.out]; exact HCL2.out
                have f7 : w7.cell? ⟨b, 11, none⟩ = some (.slice (some ⟨mg, 0, none⟩) L2.length mc2) := by rw [HLL.out w7 HLJ.out]; exact HCM2.out
                have k0 : w7.cell? ⟨og, k, none⟩ = some (.slice xa xl xc) := by rw [HLL.out w7 HLJ.out]; exact d0
                have k1 : w7.cell? ⟨mg, k, none⟩ = some (.int .i64 xm) := by rw [HLL.out w7 HLJ.out]; exact d1
                by_cases hjl : j < xl
                · obtain ⟨g, rfl, hcj⟩ := HXC.out j hjl
                  have g0 : w7.cell? ⟨g, j * 4, none⟩ = some (.int .i64 xm) := by rw [HLL.out w7 HLJ.out]; exact hcj 0 _ rfl
                  have g1 : w7.cell? ⟨g, j * 4 + 1, none⟩ = some (.int .i64 1) := by rw [HLL.out w7 HLJ.out]; exact hcj 1 _ rfl
                  have g2 : w7.cell? ⟨g, j * 4 + 2, none⟩ = some (.int .i64 2) := by rw [HLL.out w7 HLJ.out]; exact hcj 2 _ rfl
                  have g3 : w7.cell? ⟨g, j * 4 + 3, none⟩ = some (.int .i64 3) := by rw [HLL.out w7 HLJ.out]; exact hcj 3 _ rfl
                  have q2 : (0 : Int) ≤ (j : Int) := by omega
                  have q3 : (j : Int) < xl := by omega
                  clear hcj d0 d1
                  go_wp2_with fail
                  go_quiet (fail)
                  go_wp2_with fail
                  go_roundw
                  case rel => exact ⟨j + 1, by omega, by go_num, hide (like_dn HLJ.out _)⟩
                  case measure => simp [intOf]; omega
                · have q3 : (xl : Int) ≤ (j : Int) := by omega
                  clear d0 d1
                  go_wp2_with fail
                  go_roundw
                  case rel => exact ⟨k + 1, by omega, by go_num, HLJ⟩
                  case measure => simp [intOf]; omega
            · have q1 : (L2.length : Int) ≤ (k : Int) := by omega
              go_wp2_with fail
              go_loopw [9] (fun i w' => ∃ k : Nat, k ≤ L3.length ∧ i = .int .i64 k ∧ Hid (Like w' w)) (fun i _ => L3.length - (intOf i).toNat)
              case atStart => exact ⟨0, Nat.zero_le _, rfl, HLK⟩
              case round =>
                clear HLK
                obtain ⟨k, hk, rfl, HLK⟩ := hrel
                obtain ⟨w5, hw5⟩ : ∃ w5, w5 = wr := ⟨_, rfl⟩
                rw [← hw5] at HLK ⊢
                clear hw5
                have e6 : w5.cell? ⟨b, 12, none⟩ = some (.slice la3 L3.length lc3) := by rw [HLL.out w5 HLK.out]; exact HCL3.out
                by_cases hlt : k < L3.length
                · obtain ⟨og, oc, mg, mc, eo, em, d0, d1⟩ := two_rows HL3.out HM3.out hlt
                  rw [HEL3.out] at eo
                  rw [HEM3.out] at em
                  simp only [Value.slice.injEq, true_and] at eo em
                  obtain ⟨rfl, rfl⟩ := eo
                  obtain ⟨rfl, rfl⟩ := em
                  have HKT := hide (HKP3.out L3[k] (List.getElem_mem hlt))
                  have q0 : (0 : Int) ≤ (k : Int) := by omega
                  have q1 : (k : Int) < L3.length := by omega
                  generalize L3[k] = x at *
                  obtain ⟨xv, xm⟩ := x
                  simp only at d0 d1
                  obtain ⟨xa, xl, xc, hxv, hxl, hxc⟩ := kept_read HKT.out (by omega)
                  subst hxv
                  have HXC := hide hxc
                  clear hxc HKT
                  have e7 : w5.cell? ⟨og, k, none⟩ = some (.slice xa xl xc) := by rw [HLL.out w5 HLK.out]; exact d0
                  have qx : (xl : Int) ≤ 1000 := by omega
                  go_wp2_with fail
                  go_loopw [10] (fun i w' => ∃ j : Nat, j ≤ xl ∧ i = .int .i64 j ∧ Hid (Like w' w)) (fun i _ => xl - (intOf i).toNat)
                  case atStart => exact ⟨0, Nat.zero_le _, rfl, HLK⟩
                  case round =>
                    clear e6 e7 HLK
                    obtain ⟨j, hj, rfl, HLJ⟩ := hrel
                    obtain ⟨w7, hw7⟩ : ∃ w7, w7 = wr := ⟨_, rfl⟩
                    rw [← hw7] at HLJ ⊢
                    clear hw7
                    have f6 : w7.cell? ⟨b, 12, none⟩ = some (.slice (some ⟨og, 0, none⟩) L3.length lc3) := by rw [HLL.out w7 HLJ.out]; exact HCL3.out
                    have f7 : w7.cell? ⟨b, 13, none⟩ = some (.slice (some ⟨mg, 0, none⟩) L3.length mc3) := by rw [HLL.out w7 HLJ.out]; exact HCM3.out
                    have k0 : w7.cell? ⟨og, k, none⟩ = some (.slice xa xl xc) := by rw [HLL.out w7 HLJ.out]; exact d0
                    have k1 : w7.cell? ⟨mg, k, none⟩ = some (.int .i64 xm) := by rw [HLL.out w7 HLJ.out]; exact d1
                    by_cases hjl : j < xl
                    · obtain ⟨g, rfl, hcj⟩ := HXC.out j hjl
                      have g0 : w7.cell? ⟨g, j * 4, none⟩ = some (.int .i64 xm) := by rw [HLL.out w7 HLJ.out]; exact hcj 0 _ rfl
                      have g1 : w7.cell? ⟨g, j * 4 + 1, none⟩ = some (.int .i64 0) := by rw [HLL.out w7 HLJ.out]; exact hcj 1 _ rfl
                      have g2 : w7.cell? ⟨g, j * 4 + 2, none⟩ = some (.int .i64 0) := by rw [HLL.out w7 HLJ.out]; exact hcj 2 _ rfl
                      have g3 : w7.cell? ⟨g, j * 4 + 3, none⟩ = some (.int .i64 0) := by rw [HLL.out w7 HLJ.out]; exact hcj 3 _ rfl
                      have q2 : (0 : Int) ≤ (j : Int) := by omega
                      have q3 : (j : Int) < xl := by omega
                      clear hcj d0 d1
                      go_wp2_with fail
                      go_quiet (fail)
                      go_wp2_with fail
                      go_roundw
                      case rel => exact ⟨j + 1, by omega, by go_num, hide (like_dn HLJ.out _)⟩
                      case measure => simp [intOf]; omega
                    · have q3 : (xl : Int) ≤ (j : Int) := by omega
                      clear d0 d1
                      go_wp2_with fail
                      go_roundw
                      case rel => exact ⟨k + 1, by omega, by go_num, HLJ⟩
                      case measure => simp [intOf]; omega
                · have q1 : (L3.length : Int) ≤ (k : Int) := by omega
                  go_wp2_with fail
                  go_loopw [11] (fun i w' => ∃ k : Nat, k ≤ L4.length ∧ i = .int .i64 k ∧ Hid (Like w' w)) (fun i _ => L4.length - (intOf i).toNat)
                  case atStart => exact ⟨0, Nat.zero_le _, rfl, HLK⟩
                  case round =>
                    clear HLK
                    obtain ⟨k, hk, rfl, HLK⟩ := hrel
                    obtain ⟨w5, hw5⟩ : ∃ w5, w5 = wr := ⟨_, rfl⟩
                    rw [← hw5] at HLK ⊢
                    clear hw5
                    have e6 : w5.cell? ⟨b, 14, none⟩ = some (.slice la4 L4.length lc4) := by rw [HLL.out w5 HLK.out]; exact HCL4.out
                    by_cases hlt : k < L4.length
                    · obtain ⟨og, oc, mg, mc, eo, em, d0, d1⟩ := two_rows HL4.out HM4.out hlt
                      rw [HEL4.out] at eo
                      rw [HEM4.out] at em
                      simp only [Value.slice.injEq, true_and] at eo em
                      obtain ⟨rfl, rfl⟩ := eo
                      obtain ⟨rfl, rfl⟩ := em
                      have HKT := hide (HKP4.out L4[k] (List.getElem_mem hlt))
                      have q0 : (0 : Int) ≤ (k : Int) := by omega
                      have q1 : (k : Int) < L4.length := by omega
                      generalize L4[k] = x at *
                      obtain ⟨xv, xm⟩ := x
                      simp only at d0 d1
                      obtain ⟨xa, xl, xc, hxv, hxl, hxc⟩ := kept_read4 HKT.out
                      subst hxv
                      have HXC := hide hxc
                      clear hxc HKT
                      have e7 : w5.cell? ⟨og, k, none⟩ = some (.slice xa xl xc) := by rw [HLL.out w5 HLK.out]; exact d0
                      have qx : (xl : Int) ≤ 1000 := by omega
                      go_wp2_with fail
                      go_loopw [12] (fun i w' => ∃ j : Nat, j ≤ xl ∧ i = .int .i64 j ∧ Hid (Like w' w)) (fun i _ => xl - (intOf i).toNat)
                      case atStart => exact ⟨0, Nat.zero_le _, rfl, HLK⟩
                      case round =>
                        clear e6 e7 HLK
                        obtain ⟨j, hj, rfl, HLJ⟩ := hrel
                        obtain ⟨w7, hw7⟩ : ∃ w7, w7 = wr := ⟨_, rfl⟩
                        rw [← hw7] at HLJ ⊢
                        clear hw7
                        have f6 : w7.cell? ⟨b, 14, none⟩ = some (.slice (some ⟨og, 0, none⟩) L4.length lc4) := by rw [HLL.out w7 HLJ.out]; exact HCL4.out
                        have f7 : w7.cell? ⟨b, 15, none⟩ = some (.slice (some ⟨mg, 0, none⟩) L4.length mc4) := by rw [HLL.out w7 HLJ.out]; exact HCM4.out
                        have k0 : w7.cell? ⟨og, k, none⟩ = some (.slice xa xl xc) := by rw [HLL.out w7 HLJ.out]; exact d0
                        have k1 : w7.cell? ⟨mg, k, none⟩ = some (.int .i64 xm) := by rw [HLL.out w7 HLJ.out]; exact d1
                        by_cases hjl : j < xl
                        · obtain ⟨g, g', cap', rfl, hcj, hcb⟩ := HXC.out j hjl
                          have g0 : w7.cell? ⟨g, j, none⟩ = some (.slice (some ⟨g', 0, none⟩) 1 cap') := by rw [HLL.out w7 HLJ.out]; exact hcj
                          have g1 : w7.cell? ⟨g', 0, none⟩ = some (.int .i64 xm) := by rw [HLL.out w7 HLJ.out]; simp [World.cell?, hcb, elC]
                          have g2 : w7.cell? ⟨g', 1, none⟩ = some (.int .i64 0) := by rw [HLL.out w7 HLJ.out]; simp [World.cell?, hcb, elC]
                          have g3 : w7.cell? ⟨g', 2, none⟩ = some (.int .i64 0) := by rw [HLL.out w7 HLJ.out]; simp [World.cell?, hcb, elC]
                          have g4 : w7.cell? ⟨g', 3, none⟩ = some (.int .i64 0) := by rw [HLL.out w7 HLJ.out]; simp [World.cell?, hcb, elC]
                          have q2 : (0 : Int) ≤ (j : Int) := by omega
                          have q3 : (j : Int) < xl := by omega
                          clear hcj hcb d0 d1
                          go_wp2_with fail
                          go_quiet (fail)
                          go_wp2_with fail
                          go_roundw
                          case rel => exact ⟨j + 1, by omega, by go_num, hide (like_dn HLJ.out _)⟩
                          case measure => simp [intOf]; omega
                        · have q3 : (xl : Int) ≤ (j : Int) := by omega
                          clear d0 d1
                          go_wp2_with fail
                          go_roundw
                          case rel => exact ⟨k + 1, by omega, by go_num, HLJ⟩
                          case measure => simp [intOf]; omega
                    · have q1 : (L4.length : Int) ≤ (k : Int) := by omega
                      go_wp2_with fail
                      go_ret
                      exact ⟨rfl, HLK.out⟩

end Go.Proofs.YtklenjmfalljgaaDoor

/- The walk of keepInts, whole. -/
namespace Go.Proofs.YtklenjmfalljgaaDoor
open Go.RowKit
attribute [local go_sem] Go.World.cell?_alloc_some

theorem set_el0 (m : Int) (xs : List Value) (k len : Nat) (hx : xs.length = len * 1) (hk : k < len) : (((List.replicate k (elC m 0)).flatten ++ xs.drop (k * 1)).set (k) (.int .i64 m)) = (List.replicate (k + 1) (elC m 0)).flatten ++ xs.drop ((k + 1) * 1) := by
  obtain ⟨ys, hy⟩ : ∃ ys, ys = (List.replicate k (elC m 0)).flatten := ⟨_, rfl⟩
  have hyl : ys.length = k * 1 := by rw [hy]; exact flat_rep_len _ _
  rw [← flat_rep_snoc, ← hy]
  have h1 : 1 ≤ (xs.drop (k * 1)).length := by rw [List.length_drop]; omega
  have h2 : xs.drop ((k + 1) * 1) = (xs.drop (k * 1)).drop 1 := by rw [List.drop_drop]; congr 1 <;> omega
  rw [h2]
  generalize xs.drop (k * 1) = zs at h1
  obtain ⟨z0, rest, rfl⟩ : ∃ z0 rest, zs = z0 :: rest := by
    match zs, h1 with
    | z0 :: rest, _ => exact ⟨z0, rest, rfl⟩
  rw [List.set_append, if_neg (by omega)]
  have e : k - ys.length = 0 := by omega
  rw [e]
  simp [elC]

set_option maxRecDepth 100000 in
set_option maxHeartbeats 2000000 in
theorem keepInts_g (B : Nat) (w : World) (b : Nat) (who : Nat → Role) (n : Int) (f : Nat → Value) (K : Nat → List (Value × Int)) (lv : Value) (len : Nat) (xs : List Value) (hH : HsK B w b who n f K) (hl : w.ownsRow B 3 1 lv len xs) (ho : ∀ g, lv.ownBlock = some g → who g = .other)
    (hn0 : 0 ≤ n) (hn1 : n ≤ 10000000000000) (hK : (K 0).length ≤ 5000000000000) (ha : len ≤ 900) :
    Calls Tryd.prog 58 #[pt b, lv] w fun e w' => (∃ v, e = .returned v) ∧ ∃ who' f' K', HsK B w' b who' (n + 1) f' K' ∧ After 0 w w' who who' f f' K K' (fun g => lv.ownBlock = some g) := by
  obtain ⟨i0, hi0, hz0, hz1, hz2⟩ := info_parts info_int
  obtain ⟨i1, hi1, hy0, hy1, hy2⟩ := info_parts info_ints
  obtain ⟨i2, hi2, hx0, hx1, hx2⟩ := info_parts info_int
  have hxl := hl.1
  obtain ⟨x1, x2, x3, rfl⟩ := owns_form hl
  have hx2 := (owns_lenq hl).symm
  subst hx2
  have HM := hide (mark_g hH.1 hn0 (by omega))
  have HO := hide ho
  have H0 : Hid (WrG B 0 w (w.setCell ⟨b, 5, none⟩ (.int .i64 (n + 1))) b who (n + 1) f (setF f 5 (.int .i64 (n + 1))) K (.slice x1 len x3) len xs (-77000000 - (n + 1)) 0) := by
    refine ⟨⟨hH.1.setCnt _, hH.2⟩, ?_, ?_, fun o ho => setF_ne _ _ (by omega)⟩
    · have hbo : (Value.slice x1 len x3).ownBlock ≠ some b := fun e => by have := ho b e; rw [hH.1.wb] at this; cases this
      have h5 := ownsRow_setCell_other (a := ⟨b, 5, none⟩) hl hbo (.int .i64 (n + 1))
      have e5 : (List.replicate 0 (elC (-77000000 - (n + 1)) 0)).flatten ++ xs.drop (0 * (elC (-77000000 - (n + 1)) 0).length) = xs := by simp
      rw [e5]; exact h5
    · exact Fr.set (Or.inl (by rw [hH.1.wb]; simp))
  have hpt : pt b = .pointer (some ⟨b, 0, none⟩) := rfl
  rw [hpt] at *
  clear hH hl ho hpt
  generalize hm : -77000000 - (n + 1) = m at *
  have HMM := hide hm
  clear hm
  go_enter Tryd.func58, Tryd.ntmps58
  go_wp2_with (go_at_call 86; refine HM.out.mono ?_; rintro e w1 ⟨rfl, rfl⟩)
  go_loopw [5] (fun i w' => ∃ k : Nat, k ≤ len ∧ i = .int .i64 k ∧ Hid (WrG B 0 w w' b who (n + 1) f (setF f 5 (.int .i64 (n + 1))) K (.slice x1 len x3) len xs m k)) (fun i _ => len - (intOf i).toNat)
  case atStart => exact ⟨0, Nat.zero_le _, rfl, H0⟩
  case round =>
    clear H0 HM
    obtain ⟨k, hk, rfl, HI⟩ := hrel
    obtain ⟨w5, hw5⟩ : ∃ w5, w5 = wr := ⟨_, rfl⟩
    rw [← hw5] at HI ⊢
    clear hw5
    by_cases hlt : k < len
    · obtain ⟨g, cp, e0, _, _⟩ := HI.out.row.form (by omega)
      have hrow : w5.ownsRow B 3 1 (.slice x1 len x3) len ((List.replicate k (elC m 0)).flatten ++ xs.drop (k * 1)) := HI.out.row
      rw [e0] at hrow
      simp only [Value.slice.injEq, true_and] at e0
      obtain ⟨rfl, rfl⟩ := e0
      have hgo := HO.out g rfl
      obtain ⟨u0, y0⟩ : ∃ u, w5.cell? ⟨g, k, none⟩ = some u := cell_at hrow (by omega)
      have z0 : w5.frozen? ⟨g, k, none⟩ = false := free_at hrow
      have HNX : Hid (WrG B 0 w (w5.setCell ⟨g, k, none⟩ (.int .i64 m)) b who (n + 1) f (setF f 5 (.int .i64 (n + 1))) K (.slice (some ⟨g, 0, none⟩) len x3) len xs m (k + 1)) := by
        have hs := HI.out
        refine ⟨(hs.hs.setOther hgo), ?_, ?_, hs.lent⟩
        · have h9 := (owns_setCell hrow (k) (.int .i64 m))
          have e9 := set_el0 m xs k len hxl hlt
          rw [e9] at h9
          exact h9
        · exact (hs.fr).trans (Fr.set (Or.inr rfl))
      have q0 : (0 : Int) ≤ (k : Int) := by omega
      have q1 : (k : Int) < len := by omega
      clear hrow hgo
      go_wp2_with fail
      go_roundw
      case rel => exact ⟨k + 1, by omega, by go_num, HNX⟩
      case measure => simp [intOf]; omega
    · have ek : k = len := by omega
      have q1 : (len : Int) ≤ (k : Int) := by omega
      have HS : Hid (∃ who1, KpG B 0 w w5 b who who1 (n + 1) m f (setF f 5 (.int .i64 (n + 1))) K K (.slice x1 len x3) len 0 (fun g => (Value.slice x1 len x3).ownBlock = some g)) := by
        have hi := HI.out
        rw [ek] at hi
        exact hi.kp (by omega) hxl (by omega) HO.out
      clear HI ek
      go_wp2_with fail
      go_loopw [1, 6] (fun lv' i w' => ∃ (k : Nat) (who' : Nat → Role) (f' : Nat → Value) (K' : Nat → List (Value × Int)), k ≤ 4 ∧ i = .int .i64 k ∧ Hid (KpG B 0 w w' b who who' (n + 1) m f f' K K' lv' (len + k) k (fun g => (Value.slice x1 len x3).ownBlock = some g))) (fun _ i _ => 4 - (intOf i).toNat)
      case atStart =>
        obtain ⟨who1, h1⟩ := HS.out
        exact ⟨0, who1, _, K, by omega, rfl, hide h1⟩
      case round =>
        clear HS
        obtain ⟨j, who', f', K', hj, rfl, HK⟩ := hrel
        obtain ⟨w7, hw7⟩ : ∃ w7, w7 = wr := ⟨_, rfl⟩
        rw [← hw7] at HK ⊢
        clear hw7
        have rO : w7.ownsRow B 22 1 (f' 6) (K' 0).length ((K' 0).map (·.1)) := HK.out.hs.lst 0 (by omega)
        have rM : w7.ownsRow B 3 1 (f' 7) (K' 0).length (ints ((K' 0).map (·.2))) := by have := HK.out.hs.mrk 0 (by omega); simpa [marksOf] using this
        have rL : w7.ownsRow B 3 1 u1 (len + j) (List.replicate (len + j) (elC m 0)).flatten := HK.out.cu.row
        have HLE : Hid ((K' 0).length = (K 0).length + j) := HK.out.len
        have c6 : w7.cell? ⟨b, 6, none⟩ = some (f' 6) := HK.out.hs.blk.cell (by omega)
        have hbase : B ≤ w7.heap.size := by have := HK.out.hs.blk.lt; have := (HK.out.hs.dom b (by rw [HK.out.hs.wb]; simp)).1; omega
        obtain ⟨l1, l2, l3, rfl⟩ := owns_form rL
        have hl2 := owns_lenq rL
        subst hl2
        obtain ⟨o1, o2, o3, eO⟩ := owns_form rO
        rw [eO] at rO c6
        have ho2 := owns_lenq rO
        subst ho2
        have hLL : (K' 0).length ≤ 5000000000003 ∨ ¬ j < 4 := by have := HLE.out; omega
        have HRL := hide rL
        have HRO := hide rO
        have HEO := hide eO
        have HRM := hide rM
        clear rL rO rM eO
        by_cases hj4 : j < 4
        · have hLL : (K' 0).length ≤ 5000000000003 := by omega
          have z2 : (j : Int) < 4 := by omega
          have h63a : (K' 0).length + 1 ≤ maxLen := by unfold maxLen; omega
          have h63c : len + j + 1 ≤ maxLen := by unfold maxLen; omega
          have HPU : Hid (∀ {o : Obj} {g6 c6 : Nat} {w6 : World}, w6.ownsRow B 22 1 (.slice (some ⟨g6, 0, none⟩) ((K' 0).length + 1) c6) ((K' 0).length + 1) ((K' 0).map (·.1) ++ [.slice l1 (len + j) l3]) →
              (((Value.slice o1 (K' 0).length o3).ownBlock = some g6 ∧ (w7.alloc o).grownBy w6 (some g6)) ∨ (g6 = w7.heap.size + 1 ∧ (w7.alloc o).grownBy w6 none)) →
              HB w6 b f' ∧ ∃ who'' f'', KpA B 0 w (w6.setCell ⟨b, 6, none⟩ (.slice (some ⟨g6, 0, none⟩) ((K' 0).length + 1) c6)) b who who'' (n + 1) m f f'' K K' (.slice l1 (len + j) l3) (len + j) j (fun g => (Value.slice x1 len x3).ownBlock = some g) ∧ f'' 7 = f' 7) := by
            intro o g6 c6 w6 hown key
            rw [← HEO.out] at key
            exact HK.out.push (by omega) hown key
          generalize hKl : (K' 0).length = N at *
          generalize hKm : (K' 0).map (·.1) = L1 at *
          have HKl := hide hKl
          clear hKl hKm
          go_upto_region 9 with (at_builtin; go_must (refine wpList_append_keeps rfl _ _ _ rfl B 22 i1 _ 1 24 Tryd.underlying41 hi1 hy0 hy1 hy2 rfl (by omega) (.slice o1 N o3) N L1 rfl (owns_alloc HRO.out) ⟨w7.heap.size, 0, none⟩ 1 1 [.slice l1 (len + j) l3] rfl rfl (World.news_of_block (cs := #[.slice l1 (len + j) l3]) (t := 22) (fr := (0, 0)) (heap_alloc_new w7 _)) (by simp [Value.oneCell']) (by omega) h63a (by omega) (by simp; omega) (w7.heap.size + 1) (by simp) ?_); intro g8 cap8 w8 hown8 key8 hlt8; have hb8 := (HPU.out hown8 key8).1; have p6 : w8.cell? ⟨b, 6, none⟩ = some (.slice o1 N o3) := (by rw [hb8.cell (by omega), HEO.out]); have p7 := hb8.frozen 6)
          obtain ⟨_, who9, f9, hk9, e9⟩ := HPU.out hown8 key8
          generalize w8.setCell ⟨b, 6, none⟩ (.slice (some ⟨g8, 0, none⟩) (N + 1) cap8) = w9 at *
          have HK9 := hide hk9
          have rM9 : w9.ownsRow B 3 1 (f9 7) N (ints ((K' 0).map (·.2))) := by
            have := hk9.hs.mrk 0 (by omega)
            rw [← HKl.out]
            simpa [marksOf] using this
          have c7 : w9.cell? ⟨b, 7, none⟩ = some (f9 7) := hk9.hs.blk.cell (by omega)
          obtain ⟨m1, m2, m3, eM⟩ := owns_form rM9
          rw [eM] at rM9 c7
          have hm2 := (owns_lenq rM9).symm
          subst hm2
          have hbase9 : B ≤ w9.heap.size := by have := hk9.hs.blk.lt; have := (hk9.hs.dom b (by rw [hk9.hs.wb]; simp)).1; omega
          have HRM9 := hide rM9
          have HEM := hide eM
          clear hown8 key8 hb8 p6 p7 hlt8 c6 hk9 e9 HPU rM9 eM HEO HRO HRM
          go_upto_region 10 with (at_builtin; go_must (refine wpList_append_keeps rfl _ _ _ rfl B 3 i2 _ 1 8 Tryd.underlying22 hi2 hx0 hx1 hx2 rfl (by omega) (.slice m1 N m3) N (ints ((K' 0).map (·.2))) rfl (owns_alloc HRM9.out) ⟨w9.heap.size, 0, none⟩ 1 1 [.int .i64 m] rfl rfl (World.news_of_block (cs := #[.int .i64 m]) (t := 3) (fr := (0, 0)) (heap_alloc_new w9 _)) (by simp [Value.oneCell']) (by omega) h63a (by omega) (by simp; omega) (w9.heap.size + 1) (by simp) ?_); intro g10 cap10 w10 hown10 key10 hlt10; have hb10 := (HK9.out.tell (by omega) (M1 := m1) (M3 := m3) HEM.out HKl.out hown10 key10).1; have p6 : w10.cell? ⟨b, 7, none⟩ = some (.slice m1 N m3) := (by rw [hb10.cell (by omega), HEM.out]); have p7 := hb10.frozen 7)
          obtain ⟨_, who11, f11, hk11⟩ := HK9.out.tell (by omega) (M1 := m1) (M3 := m3) HEM.out HKl.out hown10 key10
          generalize w10.setCell ⟨b, 7, none⟩ (.slice (some ⟨g10, 0, none⟩) (N + 1) cap10) = w11 at *
          have HK11 := hide hk11
          have HRL11 : Hid (w11.ownsRow B 3 1 (.slice l1 (len + j) l3) (len + j) (List.replicate (len + j) (elC m 0)).flatten) := hk11.cu.row
          have hbase11 : B ≤ w11.heap.size := by have := hk11.hs.blk.lt; have := (hk11.hs.dom b (by rw [hk11.hs.wb]; simp)).1; omega
          clear hown10 key10 hb10 p6 p7 hlt10 c7 hk11 HK9 HRM9 HEM HRL
          go_wp2_with (at_builtin; go_must (refine wpList_append_keeps rfl _ _ _ rfl B 3 i0 _ 1 8 Tryd.underlying22 hi0 hz0 hz1 hz2 rfl (by omega) (.slice l1 (len + j) l3) (len + j) (List.replicate (len + j) (elC m 0)).flatten rfl (owns_alloc HRL11.out) ⟨w11.heap.size, 0, none⟩ 1 1 [.int .i64 m] rfl rfl (World.news_of_block (cs := #[.int .i64 m]) (t := 3) (fr := (0, 0)) (heap_alloc_new w11 _)) (by simp [Value.oneCell']) (by omega) h63c (by omega) (by simp; omega) (w11.heap.size + 1) (by simp) ?_); intro g12 cap12 w12 hown12 key12 hlt12; have HK13 := hide (HK11.out.grow (by omega) (by omega) hown12 key12); clear hown12 key12 hlt12)
          go_roundw
          case rel =>
            obtain ⟨who13, h13⟩ := HK13.out
            exact ⟨j + 1, who13, _, _, by omega, by go_num, hide h13⟩
          case measure => simp [intOf]; omega
        · have z2 : (4 : Int) ≤ (j : Int) := by omega
          have HE : Hid (∃ who' f' K', HsK B w7 b who' (n + 1) f' K' ∧ After 0 w w7 who who' f f' K K' (fun g => (Value.slice x1 len x3).ownBlock = some g)) := by
            have ej : j = 4 := by omega
            have hk := HK.out
            rw [ej] at hk
            exact hk.done
          go_wp2_with fail
          go_end0
          exact ⟨⟨_, rfl⟩, HE.out⟩

end Go.Proofs.YtklenjmfalljgaaDoor

/- What the hands' walks have in common. -/
namespace Go.Proofs.YtklenjmfalljgaaDoor
open Go.RowKit

theorem val_other {B : Nat} {W w : World} {b : Nat} {who : Nat → Role} {n : Int} {f : Nat → Value} {K : Nat → List (Value × Int)} {sv : Value} {s : List Int} (hH : HsK B w b who n f K) (hWB : W.heap.size ≤ B) (hI : IntsAt W.heap.size W sv s) : valOther who sv := by
  intro g o l c e hl
  obtain ⟨ao, cap, rfl, _, h⟩ := hI
  simp only [Value.slice.injEq] at e
  obtain ⟨e1, e2, _⟩ := e
  obtain ⟨g', o', e3, e4, _⟩ := h 0 (by omega)
  rw [e1] at e3
  simp only [Option.some.injEq, Addr.mk.injEq, and_true] at e3
  by_cases ho : who g = .other
  · exact ho
  · have := (hH.1.dom g ho).1
    omega
/-- What a walk of the hands leaves that answers true. -/
def HzG (W : World) (B b : Nat) (n : Int) (K : Nat → List (Value × Int)) (e : Ending) (w' : World) : Prop :=
  e = .returned (.bool true) ∧ ∃ who' f' K', Hz B w' b who' n f' K' ∧ W.grownBy w' none ∧ ∀ c, c < 5 → (K' c).length ≤ (K c).length + 4
theorem Fr.step0 {w w1 w2 : World} {who who1 who2 : Nat → Role} {ex : Nat → Prop} (h : Fr w w1 who who1 ex) (hf : Fr w1 w2 who1 who2 (fun _ => False)) : Fr w w2 who who2 ex := h.trans (hf.mono fun _ e => e.elim)
theorem Fr.stepG {w w1 w2 : World} {who who1 : Nat → Role} {ex : Nat → Prop} (h : Fr w w1 who who1 ex) (hg : w1.grownBy w2 none) : Fr w w2 who who1 ex := h.trans (Fr.grown hg)
/-- The same; besides, all that was another's is as it was. -/
def HzF (W : World) (B b : Nat) (n : Int) (K : Nat → List (Value × Int)) (w : World) (who : Nat → Role) (e : Ending) (w' : World) : Prop :=
  e = .returned (.bool true) ∧ ∃ who' f' K', Hz B w' b who' n f' K' ∧ W.grownBy w' none ∧ (∀ c, c < 5 → (K' c).length ≤ (K c).length + 4) ∧ Fr w w' who who' (fun g => w.heap.size ≤ g)
theorem HzF.g {W w : World} {B b : Nat} {n : Int} {K : Nat → List (Value × Int)} {who : Nat → Role} {e : Ending} {w' : World} (h : HzF W B b n K w who e w') : HzG W B b n K e w' := by
  obtain ⟨h1, who', f', K', h2, h3, h4, _⟩ := h
  exact ⟨h1, who', f', K', h2, h3, h4⟩
/-- The same, where nothing more is kept. -/
def HzE (W : World) (B b : Nat) (n : Int) (K : Nat → List (Value × Int)) (w : World) (who : Nat → Role) (e : Ending) (w' : World) : Prop :=
  e = .returned (.bool true) ∧ ∃ who' f', Hz B w' b who' n f' K ∧ W.grownBy w' none ∧ Fr w w' who who' (fun g => w.heap.size ≤ g)
theorem HzE.g {W w : World} {B b : Nat} {n : Int} {K : Nat → List (Value × Int)} {who : Nat → Role} {e : Ending} {w' : World} (h : HzE W B b n K w who e w') : HzG W B b n K e w' := by
  obtain ⟨h1, who', f', h2, h3, _⟩ := h
  exact ⟨h1, who', f', K, h2, h3, fun c _ => Nat.le_add_right _ _⟩

end Go.Proofs.YtklenjmfalljgaaDoor

/- Texts of schedules, as plain functions on lists of bytes (no dump is named here): the program's way, the reference's way. -/
namespace Go.Proofs.YtklenjmfalljgaaDoor

def isD (b : Nat) : Bool := decide (48 ≤ b) && decide (b ≤ 57)
def nxt (n : Int) (b : Nat) : Int := max n 0 * 10 + ((b : Int) - 48)
def beginsB (m : Int) : Bool := decide (0 < m) && decide (10 * m < 63)
def growsB (n d last : Int) : Bool :=
  !(n == 0) && ((decide (max n 0 * 10 + d ≤ 63) && !(max n 0 * 10 + d == last)) || beginsB (max n 0 * 10 + d))

def thr (last : Int) : Int → List Nat → Int × Nat
  | n, [] => (n, 0)
  | n, b :: r => if (isD b && growsB n ((b : Int) - 48) last) = true then ((thr last (nxt n b) r).1, (thr last (nxt n b) r).2 + 1) else (n, 0)

def cnt : Int → List Nat → Int × Nat
  | n, [] => (n, 0)
  | n, b :: r => if (isD b && !(n == 0 && b == 48)) = true then ((cnt (min (10 * n + ((b : Int) - 48)) 501) r).1, (cnt (min (10 * n + ((b : Int) - 48)) 501) r).2 + 1) else (n, 0)

/- The reference's way. -/
def partsR : List Nat → List (List Nat)
  | [] => [[]]
  | b :: r => if b = 32 then [] :: partsR r else (b :: (partsR r).headD []) :: (partsR r).tail

end Go.Proofs.YtklenjmfalljgaaDoor

/- One run of a text: what the program reads of it, what the reference says of it. -/
namespace Go.Proofs.YtklenjmfalljgaaDoor

end Go.Proofs.YtklenjmfalljgaaDoor

/- The program's way through a text and the reference's come to the same. -/
namespace Go.Proofs.YtklenjmfalljgaaDoor

end Go.Proofs.YtklenjmfalljgaaDoor

/- The runs of a schedule and their text, as plain functions (no dump is named here). -/
namespace Go.Proofs.YtklenjmfalljgaaDoor

def validS (l : List Int) : Bool := decide (l.length ≤ 500) && l.all fun t => decide (0 ≤ t) && decide (t ≤ 63)

def grp : List Int → List (Int × Int)
  | [] => []
  | t :: r => match grp r with
    | [] => [(t, 1)]
    | x :: q => if t = x.1 then (t, x.2 + 1) :: q else (t, 1) :: x :: q

def bump : List (Int × Int) → List (Int × Int)
  | [] => []
  | [x] => [(x.1, x.2 + 1)]
  | x :: y :: q => x :: bump (y :: q)

theorem grp_head (t : Int) (r : List Int) : ∃ n q, grp (t :: r) = (t, n) :: q := by
  unfold grp
  cases grp r with
  | nil => exact ⟨_, _, rfl⟩
  | cons x q => simp only; split <;> exact ⟨_, _, rfl⟩
theorem grp_snoc (l : List Int) (t : Int) : grp (l ++ [t]) = if l.getLast? = some t then bump (grp l) else grp l ++ [(t, 1)] := by
  induction l with
  | nil => simp [grp]
  | cons a r ih =>
    cases r with
    | nil =>
      by_cases h : a = t
      · simp [grp, bump, h]
      · simp [grp, h]
    | cons b s =>
      have e1 : (a :: b :: s).getLast? = (b :: s).getLast? := by simp [List.getLast?_cons_cons]
      rw [e1]
      obtain ⟨n, q, e⟩ := grp_head b s
      have e2 : a :: b :: s ++ [t] = a :: (b :: s ++ [t]) := rfl
      have e3 : grp (a :: b :: s) = if a = b then (a, n + 1) :: q else (a, 1) :: (b, n) :: q := by
        conv => lhs; rw [grp, e]
      rw [e2, grp, ih, e3, e]
      by_cases hl : (b :: s).getLast? = some t
      · rw [if_pos hl, if_pos hl]
        by_cases hab : a = b
        · rw [if_pos hab]
          cases q with
          | nil => simp [bump, hab]
          | cons x q => simp [bump, hab]
        · rw [if_neg hab]
          cases q with
          | nil => simp [bump, hab]
          | cons x q => simp [bump, hab]
      · rw [if_neg hl, if_neg hl]
        by_cases hab : a = b
        · rw [if_pos hab]; simp [hab]
        · rw [if_neg hab]; simp [hab]

theorem grp_last (l : List Int) : (grp l).getLast?.map (·.1) = l.getLast? := by
  induction l with
  | nil => rfl
  | cons a r ih =>
    cases r with
    | nil => rfl
    | cons b s =>
      obtain ⟨n, q, e⟩ := grp_head b s
      rw [grp, e]
      rw [e] at ih
      rw [List.getLast?_cons_cons]
      simp only
      split
      · rename_i h
        rw [← ih]
        cases q with
        | nil => simp [h]
        | cons x q => simp [List.getLast?_cons_cons]
      · rw [← ih]; simp [List.getLast?_cons_cons]

theorem grp_len (l : List Int) : (grp l).length ≤ l.length := by
  induction l with
  | nil => simp [grp]
  | cons a r ih =>
    unfold grp
    cases h : grp r with
    | nil => simp
    | cons x q =>
      rw [h] at ih
      simp only
      split
      · simp at ih ⊢; omega
      · simpa using ih

theorem grp_mem (l : List Int) : ∀ x ∈ grp l, x.1 ∈ l ∧ 1 ≤ x.2 ∧ x.2 ≤ l.length := by
  induction l with
  | nil => simp [grp]
  | cons a r ih =>
    unfold grp
    cases h : grp r with
    | nil => simp; omega
    | cons x q =>
      rw [h] at ih
      have hx := ih x (by simp)
      simp only
      split
      · rename_i e
        intro y hy
        rcases List.mem_cons.1 hy with rfl | hy
        · simp; omega
        · have := ih y (by simp [hy]); simp; exact ⟨Or.inr this.1, this.2.1, by omega⟩
      · intro y hy
        rcases List.mem_cons.1 hy with rfl | hy
        · simp; omega
        · have := ih y hy; simp; exact ⟨Or.inr this.1, this.2.1, by omega⟩

end Go.Proofs.YtklenjmfalljgaaDoor

/- The check of bytes, as a plain function on numbers: what is other within 32 bits side by side is told (no dump is named here). -/
namespace Go.Proofs.YtklenjmfalljgaaDoor

def shN (c : Nat) : Nat := if c % 2 = 1 then (c / 2) ^^^ 3988292384 else c / 2

theorem xor_half (c d : Nat) : (c ^^^ d) / 2 = c / 2 ^^^ d / 2 := by
  apply Nat.eq_of_testBit_eq
  intro i
  simp [Nat.testBit_div_two, Nat.testBit_xor]
theorem xor_low (c d : Nat) : (c ^^^ d) % 2 = (c + d) % 2 := by
  have h := Nat.testBit_xor c d 0
  simp only [Nat.testBit_zero] at h
  have h1 : (c ^^^ d) % 2 < 2 := Nat.mod_lt _ (by decide)
  have h2 : c % 2 < 2 := Nat.mod_lt _ (by decide)
  have h3 : d % 2 < 2 := Nat.mod_lt _ (by decide)
  have e1 : c % 2 = 0 ∨ c % 2 = 1 := by omega
  have e2 : d % 2 = 0 ∨ d % 2 = 1 := by omega
  have e3 : (c ^^^ d) % 2 = 0 ∨ (c ^^^ d) % 2 = 1 := by omega
  rcases e1 with e1 | e1 <;> rcases e2 with e2 | e2 <;> rcases e3 with e3 | e3 <;> simp [e1, e2, e3] at h <;> omega

theorem shN_lt {c : Nat} (h : c < 4294967296) : shN c < 4294967296 := by
  unfold shN
  split
  · exact Nat.xor_lt_two_pow (n := 32) (by omega) (by decide)
  · omega
def shK : Nat → Nat → Nat
  | 0, c => c
  | k + 1, c => shK k (shN c)
theorem shK_lt (k : Nat) {c : Nat} (h : c < 4294967296) : shK k c < 4294967296 := by
  induction k generalizing c with
  | zero => exact h
  | succ k ih => exact ih (shN_lt h)
theorem shK_add (j k c : Nat) : shK (j + k) c = shK k (shK j c) := by
  induction j generalizing c with
  | zero => rw [Nat.zero_add]; rfl
  | succ j ih => rw [Nat.succ_add, shK, ih]; rfl

/-- The state behind some bytes. -/
def crcF (c : Nat) (l : List Nat) : Nat := l.foldl (fun c b => shK 8 (c ^^^ b)) c
def crcN (l : List Nat) : Nat := 4294967295 ^^^ crcF 4294967295 l

theorem crcF_lt (c : Nat) (l : List Nat) (hc : c < 4294967296) (hl : ∀ b ∈ l, b < 256) : crcF c l < 4294967296 := by
  induction l generalizing c with
  | nil => exact hc
  | cons b r ih =>
    have hb := hl b (by simp)
    exact ih _ (shK_lt 8 (Nat.xor_lt_two_pow (n := 32) (by omega) (by omega))) (fun x hx => hl x (by simp [hx]))
theorem crcF_append (c : Nat) (l m : List Nat) : crcF c (l ++ m) = crcF (crcF c l) m := by simp [crcF]
/-- A number's bytes, the lowest first, so many. -/
def leB : Nat → Nat → List Nat
  | 0, _ => []
  | k + 1, x => x % 256 :: leB k (x / 256)
theorem leB_len (k x : Nat) : (leB k x).length = k := by
  induction k generalizing x with
  | zero => rfl
  | succ k ih => simp [leB, ih]
theorem leB_lt (k x : Nat) : ∀ b ∈ leB k x, b < 256 := by
  induction k generalizing x with
  | zero => simp [leB]
  | succ k ih =>
    intro b hb
    rcases List.mem_cons.1 hb with rfl | hb
    · exact Nat.mod_lt _ (by decide)
    · exact ih _ b hb

theorem crcN_lt (l : List Nat) (hl : ∀ b ∈ l, b < 256) : crcN l < 4294967296 := Nat.xor_lt_two_pow (n := 32) (by decide) (crcF_lt _ l (by decide) hl)

end Go.Proofs.YtklenjmfalljgaaDoor

/- Bytes of an artifact, written and read, as plain functions on lists of numbers (no dump is named here). -/
namespace Go.Proofs.YtklenjmfalljgaaDoor

def numBF : Nat → Nat → List Nat
  | 0, n => [n]
  | k + 1, n => if n < 128 then [n] else (n % 128 + 128) :: numBF k (n / 128)
theorem numBF_eq : ∀ (j k n : Nat), n ≤ j → n ≤ k → numBF j n = numBF k n
  | 0, 0, _, _, _ => rfl
  | 0, k + 1, n, h, _ => by simp only [numBF]; rw [if_pos (by omega)]
  | j + 1, 0, n, _, h => by simp only [numBF]; rw [if_pos (by omega)]
  | j + 1, k + 1, n, h1, h2 => by
    simp only [numBF]
    by_cases h : n < 128
    · rw [if_pos h, if_pos h]
    · rw [if_neg h, if_neg h, numBF_eq j k (n / 128) (by omega) (by omega)]
def numB (n : Nat) : List Nat := numBF n n

theorem numB_small {n : Nat} (h : n < 128) : numB n = [n] := by
  unfold numB
  cases n with
  | zero => rfl
  | succ k => simp only [numBF]; rw [if_pos h]
theorem numB_big {n : Nat} (h : ¬ n < 128) : numB n = (n % 128 + 128) :: numB (n / 128) := by
  unfold numB
  cases n with
  | zero => omega
  | succ k =>
    simp only [numBF]
    rw [if_neg h, numBF_eq k ((k + 1) / 128) ((k + 1) / 128) (by omega) (Nat.le_refl _)]

theorem numB_lt (n : Nat) : ∀ b ∈ numB n, b < 256 := by
  induction n using Nat.strongRecOn with
  | ind n ih =>
    by_cases h : n < 128
    · rw [numB_small h]; simp; omega
    · rw [numB_big h]
      intro b hb
      rcases List.mem_cons.1 hb with rfl | hb
      · omega
      · exact ih (n / 128) (by omega) b hb

def rdN (place n : Nat) : List Nat → Option (Nat × List Nat)
  | [] => none
  | b :: r => if place < 64 ∧ (b % 128) * 2 ^ place < 18446744073709551616 then
      (if b < 128 then (if 0 < b ∨ place = 0 then some (n + (b % 128) * 2 ^ place, r) else none) else rdN (place + 7) (n + (b % 128) * 2 ^ place) r)
    else none

theorem rdN_num (n : Nat) : ∀ (place acc : Nat) (r : List Nat), n * 2 ^ place < 18446744073709551616 → (0 < n ∨ place = 0) → place < 64 → rdN place acc (numB n ++ r) = some (acc + n * 2 ^ place, r) := by
  induction n using Nat.strongRecOn with
  | ind n ih =>
    intro place acc r h1 h2 h3
    by_cases h : n < 128
    · rw [numB_small h]
      have e : n % 128 = n := Nat.mod_eq_of_lt h
      simp only [List.cons_append, List.nil_append, rdN, e]
      rw [if_pos ⟨h3, h1⟩, if_pos h, if_pos h2]
    · rw [numB_big h]
      have e : (n % 128 + 128) % 128 = n % 128 := by omega
      have hp : 0 < 2 ^ place := Nat.two_pow_pos _
      have hle : n % 128 * 2 ^ place ≤ n * 2 ^ place := Nat.mul_le_mul_right _ (Nat.mod_le _ _)
      have hsum : n % 128 * 2 ^ place + n / 128 * 2 ^ (place + 7) = n * 2 ^ place := by
        have : (2 : Nat) ^ (place + 7) = 128 * 2 ^ place := by rw [Nat.pow_add, Nat.mul_comm]
        rw [this, ← Nat.mul_assoc, ← Nat.add_mul]
        congr 1
        omega
      have hq : 0 < n / 128 := by omega
      have h4 : place + 7 < 64 := by
        by_cases hc : place + 7 < 64
        · exact hc
        · have : 2 ^ 64 ≤ 2 ^ (place + 7) := Nat.pow_le_pow_right (by decide) (by omega)
          have h5 : 2 ^ (place + 7) ≤ n / 128 * 2 ^ (place + 7) := Nat.le_mul_of_pos_left _ hq
          have h6 : (2 : Nat) ^ 64 = 18446744073709551616 := by decide
          omega
      simp only [List.cons_append, rdN, e]
      rw [if_pos ⟨h3, by omega⟩, if_neg (by omega), ih (n / 128) (by omega) (place + 7) _ r (by omega) (Or.inl hq) h4]
      congr 2
      omega

def rdWhole (l : List Nat) : Option (Int × List Nat) := match rdN 0 0 l with
  | some (n, r) => if n ≤ 9223372036854775807 then some ((n : Int), r) else none
  | none => none
def zig (n : Int) : Nat := if n < 0 then (-2 * n - 1).toNat else (2 * n).toNat
def zag (n : Nat) : Int := if n % 2 = 1 then -((n / 2 : Nat) : Int) - 1 else ((n / 2 : Nat) : Int)
theorem zag_zig (n : Int) : zag (zig n) = n := by
  unfold zag zig
  split <;> split <;> omega
def rdSigned (l : List Nat) : Option (Int × List Nat) := match rdN 0 0 l with
  | some (n, r) => some (zag n, r)
  | none => none
def rdMost (b : Int) (l : List Nat) : Option (Int × List Nat) := match rdWhole l with
  | some (n, r) => if n ≤ b then some (n, r) else none
  | none => none
def rdIns (l : List Nat) : Option (Ins × List Nat) := match rdWhole l with
  | none => none
  | some (o, l1) => match rdWhole l1 with
    | none => none
    | some (a, l2) => match rdWhole l2 with
      | none => none
      | some (b, l3) => match rdSigned l3 with
        | none => none
        | some (n, l4) => some (⟨o, a, b, n⟩, l4)
def rdMany {α : Type} (P : List Nat → Option (α × List Nat)) : Nat → List Nat → Option (List α × List Nat)
  | 0, l => some ([], l)
  | k + 1, l => match P l with
    | none => none
    | some (x, r) => match rdMany P k r with
      | none => none
      | some (xs, r') => some (x :: xs, r')
def rdThread (l : List Nat) : Option (List Ins × List Nat) := match rdMost 16 l with
  | none => none
  | some (k, r) => rdMany rdIns k.toNat r
def rdProg (l : List Nat) : Option (List (List Ins) × List Nat) := match rdMost 4 l with
  | none => none
  | some (k, r) => rdMany rdThread k.toNat r
def rdRuns : Nat → List Int → List Nat → Option (List Int × List Nat)
  | 0, sch, l => some (sch, l)
  | k + 1, sch, l => match rdWhole l with
    | none => none
    | some (t, r) => match rdMost (500 - sch.length) r with
      | none => none
      | some (c, r') => if 0 < c ∧ sch.getLast? ≠ some t then rdRuns k (sch ++ List.replicate c.toNat t) r' else none
def rdSched (l : List Nat) : Option (List Int × List Nat) := match rdMost 500 l with
  | none => none
  | some (k, r) => rdRuns k.toNat [] r
def rdVer (l : List Nat) : Option ((Int × Int × Int) × List Nat) := match rdWhole l with
  | none => none
  | some (a, l1) => match rdWhole l1 with
    | none => none
    | some (b, l2) => match rdWhole l2 with
      | none => none
      | some (c, l3) => some ((a, b, c), l3)

structure Art where
  prog : List (List Ins)
  sch : List Int
  ver : Int × Int × Int

def verOk (v : Int × Int × Int) : Bool := (decide (1 ≤ v.1) && decide (v.1 ≤ 5)) && (decide (0 ≤ v.2.1) && decide (v.2.1 ≤ 3)) && (decide (0 ≤ v.2.2) && decide (v.2.2 ≤ 500))
def artE (a : Art) : Int := if vProg a.prog = true then (if validS a.sch = true ∧ verOk a.ver = true then 0 else 2) else 1

def rdArt (l : List Nat) : Option (Art × List Nat) := match l with
  | 82 :: 82 :: 1 :: r0 => match rdProg r0 with
    | none => none
    | some (p, r1) => match rdSched r1 with
      | none => none
      | some (s, r2) => match rdVer r2 with
        | none => none
        | some (v, r3) => some (⟨p, s, v⟩, r3)
  | _ => none

def decB (l : List Nat) : Option Art := match rdArt l with
  | none => none
  | some (a, r) => if r = leB 4 (crcN (l.take (l.length - r.length))) ∧ artE a = 0 then some a else none

/- Writing. -/
def wInt (n : Int) : List Nat := numB n.toNat
def insB (i : Ins) : List Nat := wInt i.op ++ (wInt i.a ++ (wInt i.b ++ numB (zig i.n)))
def codeB (c : List Ins) : List Nat := wInt c.length ++ c.flatMap insB
def progB (p : List (List Ins)) : List Nat := wInt p.length ++ p.flatMap codeB
def runB (x : Int × Int) : List Nat := wInt x.1 ++ wInt x.2
def schB (s : List Int) : List Nat := wInt (grp s).length ++ (grp s).flatMap runB
def verB (v : Int × Int × Int) : List Nat := wInt v.1 ++ (wInt v.2.1 ++ wInt v.2.2)
def bodyB (a : Art) : List Nat := [82, 82, 1] ++ (progB a.prog ++ (schB a.sch ++ verB a.ver))
def encB (a : Art) : List Nat := bodyB a ++ leB 4 (crcN (bodyB a))

theorem rdWhole_w (n : Int) (r : List Nat) (h0 : 0 ≤ n) (h1 : n ≤ 9223372036854775807) : rdWhole (wInt n ++ r) = some (n, r) := by
  unfold rdWhole wInt
  rw [rdN_num n.toNat 0 0 r (by simp; omega) (Or.inr rfl) (by omega)]
  simp only [Nat.pow_zero, Nat.mul_one, Nat.zero_add]
  rw [if_pos (by omega)]
  congr 2
  omega
theorem rdSigned_w (n : Int) (r : List Nat) (h0 : -9223372036854775808 ≤ n) (h1 : n ≤ 9223372036854775807) : rdSigned (numB (zig n) ++ r) = some (n, r) := by
  unfold rdSigned
  rw [rdN_num (zig n) 0 0 r (by unfold zig; split <;> simp <;> omega) (Or.inr rfl) (by omega)]
  simp [zag_zig]
theorem rdMost_w (b n : Int) (r : List Nat) (h0 : 0 ≤ n) (h1 : n ≤ 9223372036854775807) (hb : n ≤ b) : rdMost b (wInt n ++ r) = some (n, r) := by
  unfold rdMost; rw [rdWhole_w n r h0 h1]; simp only; rw [if_pos hb]

def insInt (i : Ins) : Prop := (0 ≤ i.op ∧ i.op ≤ 9223372036854775807) ∧ (0 ≤ i.a ∧ i.a ≤ 9223372036854775807) ∧ (0 ≤ i.b ∧ i.b ≤ 9223372036854775807) ∧ (-9223372036854775808 ≤ i.n ∧ i.n ≤ 9223372036854775807)

theorem rdIns_w (i : Ins) (r : List Nat) (h : insInt i) : rdIns (insB i ++ r) = some (i, r) := by
  obtain ⟨⟨a1, a2⟩, ⟨b1, b2⟩, ⟨c1, c2⟩, ⟨d1, d2⟩⟩ := h
  unfold rdIns insB
  simp only [List.append_assoc]
  rw [rdWhole_w _ _ a1 a2]
  simp only
  rw [rdWhole_w _ _ b1 b2]
  simp only
  rw [rdWhole_w _ _ c1 c2]
  simp only
  rw [rdSigned_w _ _ d1 d2]

theorem rdMany_w {α : Type} (P : List Nat → Option (α × List Nat)) (W : α → List Nat) (q : List α) (r : List Nat) (h : ∀ x ∈ q, ∀ r, P (W x ++ r) = some (x, r)) : rdMany P q.length (q.flatMap W ++ r) = some (q, r) := by
  induction q with
  | nil => rfl
  | cons x q ih =>
    rw [List.flatMap_cons, List.append_assoc, List.length_cons, rdMany, h x (by simp)]
    simp only
    rw [ih (fun y hy => h y (by simp [hy]))]

theorem rdThread_w (c : List Ins) (r : List Nat) (hl : c.length ≤ 16) (h : ∀ i ∈ c, insInt i) : rdThread (codeB c ++ r) = some (c, r) := by
  unfold rdThread codeB
  rw [List.append_assoc, rdMost_w _ _ _ (by omega) (by omega) (by omega)]
  simp only [Int.toNat_natCast]
  exact rdMany_w _ _ _ _ (fun i hi r => rdIns_w i r (h i hi))
theorem rdProg_w (p : List (List Ins)) (r : List Nat) (hl : p.length ≤ 4) (h : ∀ c ∈ p, c.length ≤ 16 ∧ ∀ i ∈ c, insInt i) : rdProg (progB p ++ r) = some (p, r) := by
  unfold rdProg progB
  rw [List.append_assoc, rdMost_w _ _ _ (by omega) (by omega) (by omega)]
  simp only [Int.toNat_natCast]
  exact rdMany_w _ _ _ _ (fun c hc r => rdThread_w c r (h c hc).1 (h c hc).2)
theorem rdVer_w (v : Int × Int × Int) (r : List Nat) (h : verOk v = true) : rdVer (verB v ++ r) = some (v, r) := by
  simp only [verOk, Bool.and_eq_true, decide_eq_true_eq] at h
  unfold rdVer verB
  simp only [List.append_assoc]
  rw [rdWhole_w _ _ (by omega) (by omega)]
  simp only
  rw [rdWhole_w _ _ (by omega) (by omega)]
  simp only
  rw [rdWhole_w _ _ (by omega) (by omega)]

end Go.Proofs.YtklenjmfalljgaaDoor

/- What was written is read again; what is cut, longer, or other within 32 bits, is not. -/
namespace Go.Proofs.YtklenjmfalljgaaDoor

def Sep : Option Int → List (Int × Int) → Prop
  | _, [] => True
  | p, x :: q => p ≠ some x.1 ∧ Sep (some x.1) q
def expand (q : List (Int × Int)) : List Int := q.flatMap fun x => List.replicate x.2.toNat x.1

theorem grp_sep (s : List Int) : Sep none (grp s) ∧ ∀ x q, grp s = x :: q → Sep (some x.1) q := by
  induction s with
  | nil => exact ⟨trivial, fun x q h => by cases h⟩
  | cons t r ih =>
    unfold grp
    cases h : grp r with
    | nil => exact ⟨⟨by simp, trivial⟩, fun x q e => by simp at e; rw [e.2]; trivial⟩
    | cons x q =>
      have h1 := ih.2 x q h
      simp only
      split
      · rename_i e
        rw [← e] at h1
        exact ⟨⟨by simp, h1⟩, fun y q' e' => by simp only [List.cons.injEq] at e'; rw [← e'.1, ← e'.2]; exact h1⟩
      · rename_i e
        have h2 : Sep (some t) (x :: q) := ⟨fun e' => e (Option.some.inj e'), h1⟩
        exact ⟨⟨by simp, h2⟩, fun y q' e' => by simp only [List.cons.injEq] at e'; rw [← e'.1, ← e'.2]; exact h2⟩
theorem grp_expand (s : List Int) : expand (grp s) = s := by
  induction s with
  | nil => rfl
  | cons t r ih =>
    have hm := grp_mem r
    unfold grp
    cases h : grp r with
    | nil => rw [h] at ih; rw [← ih]; simp [expand]
    | cons x q =>
      rw [h] at ih hm
      have hx := (hm x (by simp)).2.1
      simp only
      split
      · rename_i e
        have e1 : (x.2 + 1).toNat = x.2.toNat + 1 := by omega
        simp only [expand, List.flatMap_cons] at ih ⊢
        rw [e1, List.replicate_succ, List.cons_append, e, ih]
      · simp only [expand, List.flatMap_cons] at ih ⊢
        simp [ih]

theorem getLast_rep (sch : List Int) (t : Int) (c : Nat) (hc : 0 < c) : (sch ++ List.replicate c t).getLast? = some t := by
  obtain ⟨k, rfl⟩ : ∃ k, c = k + 1 := ⟨c - 1, by omega⟩
  rw [List.replicate_succ', ← List.append_assoc]; simp

theorem rdRuns_w (q : List (Int × Int)) (sch : List Int) (r : List Nat) (hs : Sep sch.getLast? q) (hq : ∀ x ∈ q, 0 ≤ x.1 ∧ x.1 ≤ 63 ∧ 1 ≤ x.2 ∧ x.2 ≤ 500) (hl : sch.length + (expand q).length ≤ 500) :
    rdRuns q.length sch (q.flatMap runB ++ r) = some (sch ++ expand q, r) := by
  induction q generalizing sch with
  | nil => simp [rdRuns, expand]
  | cons x q ih =>
    obtain ⟨h1, h2, h3, h4⟩ := hq x (by simp)
    have hexp : (expand (x :: q)).length = x.2.toNat + (expand q).length := by simp [expand]
    rw [hexp] at hl
    rw [List.flatMap_cons, List.length_cons, rdRuns]
    unfold runB
    simp only [List.append_assoc]
    rw [rdWhole_w _ _ h1 (by omega)]
    simp only
    rw [rdMost_w _ _ _ (by omega) (by omega) (by omega)]
    simp only
    rw [if_pos ⟨by omega, hs.1⟩]
    have := ih (sch ++ List.replicate x.2.toNat x.1) (by rw [getLast_rep _ _ _ (by omega)]; exact hs.2) (fun y hy => hq y (by simp [hy])) (by simp; omega)
    unfold runB at this
    rw [this]
    simp [expand]

theorem rdSched_w (s : List Int) (r : List Nat) (h : validS s = true) : rdSched (schB s ++ r) = some (s, r) := by
  have h' := h
  simp only [validS, Bool.and_eq_true, decide_eq_true_eq, List.all_eq_true] at h'
  have hg := grp_len s
  unfold rdSched schB
  rw [List.append_assoc, rdMost_w _ _ _ (by omega) (by omega) (by omega)]
  simp only [Int.toNat_natCast]
  rw [rdRuns_w (grp s) [] r (grp_sep s).1 (fun x hx => by
    have h1 := grp_mem s x hx
    have h2 := h'.2 x.1 h1.1
    exact ⟨h2.1, h2.2, h1.2.1, by omega⟩) (by rw [grp_expand]; simpa using h'.1), grp_expand]
  rfl

theorem rdArt_head {l r : List Nat} {a : Art} (h : rdArt l = some (a, r)) : ∃ r0, l = 82 :: 82 :: 1 :: r0 := by
  unfold rdArt at h
  split at h
  · exact ⟨_, rfl⟩
  · cases h
theorem dec_parts {l : List Nat} {a : Art} (h : decB l = some a) : ∃ r, rdArt l = some (a, r) ∧ r.length = 4 ∧ r = leB 4 (crcN (l.take (l.length - r.length))) := by
  unfold decB at h
  cases h1 : rdArt l with
  | none => rw [h1] at h; cases h
  | some y =>
    obtain ⟨b, r⟩ := y
    rw [h1] at h
    simp only at h
    split at h
    · rename_i h2
      obtain rfl := Option.some.inj h
      exact ⟨r, rfl, by rw [h2.1, leB_len], h2.1⟩
    · cases h

/-- What was written is read again. -/
theorem dec_enc (a : Art) (h : artE a = 0) (hi : ∀ c ∈ a.prog, ∀ i ∈ c, insInt i) : decB (encB a) = some a := by
  have hv : vProg a.prog = true ∧ validS a.sch = true ∧ verOk a.ver = true := by
    unfold artE at h
    split at h
    · split at h
      · rename_i h1 h2; exact ⟨h1, h2⟩
      · omega
    · omega
  have hl := vProg_len hv.1
  have hp : ∀ c ∈ a.prog, c.length ≤ 16 ∧ ∀ i ∈ c, insInt i := by
    intro c hc
    refine ⟨?_, hi c hc⟩
    have h1 := hv.1
    simp only [vProg, Bool.and_eq_true, List.all_eq_true] at h1
    exact vCode_len (h1.2.2 c hc)
  have hr : rdArt (encB a) = some (a, leB 4 (crcN (bodyB a))) := by
    unfold encB bodyB
    simp only [List.cons_append, List.nil_append, List.append_assoc, rdArt]
    rw [rdProg_w a.prog _ hl.2 hp]
    simp only
    rw [rdSched_w a.sch _ hv.2.1]
    simp only
    rw [rdVer_w a.ver _ hv.2.2]
  unfold decB
  rw [hr]
  simp only
  have : (encB a).take ((encB a).length - (leB 4 (crcN (bodyB a))).length) = bodyB a := by unfold encB; simp
  rw [this, if_pos ⟨rfl, h⟩]

end Go.Proofs.YtklenjmfalljgaaDoor

/- What is read is what would be written. -/
namespace Go.Proofs.YtklenjmfalljgaaDoor

theorem rdN_canon (l : List Nat) : ∀ (place acc x : Nat) (r : List Nat), (∀ b ∈ l, b < 256) → rdN place acc l = some (x, r) → ∃ n, l = numB n ++ r ∧ x = acc + n * 2 ^ place ∧ (0 < n ∨ place = 0) := by
  induction l with
  | nil => intro place acc x r _ h; cases h
  | cons b l ih =>
    intro place acc x r hl h
    unfold rdN at h
    split at h
    · rename_i h1
      split at h
      · rename_i h2
        split at h
        · rename_i h3
          simp only [Option.some.injEq, Prod.mk.injEq] at h
          obtain ⟨rfl, rfl⟩ := h
          have e : b % 128 = b := Nat.mod_eq_of_lt h2
          exact ⟨b, by rw [numB_small h2]; rfl, by rw [e], h3⟩
        · cases h
      · rename_i h2
        obtain ⟨n, e1, e2, e3⟩ := ih _ _ _ _ (fun c hc => hl c (by simp [hc])) h
        have hb := hl b (by simp)
        have hn : 0 < n := by rcases e3 with e3 | e3 <;> omega
        refine ⟨b % 128 + 128 * n, ?_, ?_, Or.inl (by omega)⟩
        · rw [numB_big (by omega)]
          have q1 : (b % 128 + 128 * n) % 128 + 128 = b := by omega
          have q2 : (b % 128 + 128 * n) / 128 = n := by omega
          rw [q1, q2, e1]; rfl
        · rw [e2, Nat.pow_add, Nat.add_mul, Nat.add_assoc]
          congr 2
          rw [Nat.mul_comm 128 n, Nat.mul_assoc, Nat.mul_comm 128]
    · cases h

theorem rdWhole_canon {l r : List Nat} {x : Int} (hl : ∀ b ∈ l, b < 256) (h : rdWhole l = some (x, r)) : l = wInt x ++ r := by
  unfold rdWhole at h
  split at h
  · rename_i n r' e
    split at h
    · simp only [Option.some.injEq, Prod.mk.injEq] at h
      obtain ⟨rfl, rfl⟩ := h
      obtain ⟨m, e1, e2, _⟩ := rdN_canon l _ _ _ _ hl e
      simp at e2
      subst e2
      unfold wInt
      simpa using e1
    · cases h
  · cases h
theorem zig_zag (n : Nat) : zig (zag n) = n := by
  unfold zig zag
  split <;> split <;> omega
theorem rdSigned_canon {l r : List Nat} {x : Int} (hl : ∀ b ∈ l, b < 256) (h : rdSigned l = some (x, r)) : l = numB (zig x) ++ r := by
  unfold rdSigned at h
  split at h
  · rename_i n r' e
    simp only [Option.some.injEq, Prod.mk.injEq] at h
    obtain ⟨rfl, rfl⟩ := h
    obtain ⟨m, e1, e2, _⟩ := rdN_canon l _ _ _ _ hl e
    simp at e2
    subst e2
    rw [zig_zag]; exact e1
  · cases h
theorem rdMost_canon {b : Int} {l r : List Nat} {x : Int} (hl : ∀ b ∈ l, b < 256) (h : rdMost b l = some (x, r)) : l = wInt x ++ r ∧ x ≤ b ∧ 0 ≤ x := by
  unfold rdMost at h
  split at h
  · rename_i n r' e
    split at h
    · rename_i hb
      simp only [Option.some.injEq, Prod.mk.injEq] at h
      obtain ⟨rfl, rfl⟩ := h
      refine ⟨rdWhole_canon hl e, hb, ?_⟩
      unfold rdWhole at e
      split at e
      · split at e
        · simp only [Option.some.injEq, Prod.mk.injEq] at e
          omega
        · cases e
      · cases e
    · cases h
  · cases h
theorem rdIns_canon {l r : List Nat} {x : Ins} (hl : ∀ b ∈ l, b < 256) (h : rdIns l = some (x, r)) : l = insB x ++ r := by
  unfold rdIns at h
  split at h
  · cases h
  · rename_i o l1 e1
    have q1 := rdWhole_canon hl e1
    split at h
    · cases h
    · rename_i a l2 e2
      have h1 : ∀ b ∈ l1, b < 256 := fun b hb => hl b (by rw [q1]; simp [hb])
      have q2 := rdWhole_canon h1 e2
      split at h
      · cases h
      · rename_i c l3 e3
        have h2 : ∀ b ∈ l2, b < 256 := fun b hb => h1 b (by rw [q2]; simp [hb])
        have q3 := rdWhole_canon h2 e3
        split at h
        · cases h
        · rename_i n l4 e4
          have h3 : ∀ b ∈ l3, b < 256 := fun b hb => h2 b (by rw [q3]; simp [hb])
          have q4 := rdSigned_canon h3 e4
          simp only [Option.some.injEq, Prod.mk.injEq] at h
          obtain ⟨rfl, rfl⟩ := h
          unfold insB
          rw [q1, q2, q3, q4]; simp
theorem rdMany_canon {α : Type} {P : List Nat → Option (α × List Nat)} {W : α → List Nat} (hP : ∀ {l r : List Nat} {x : α}, (∀ b ∈ l, b < 256) → P l = some (x, r) → l = W x ++ r) (k : Nat) :
    ∀ {l r : List Nat} {xs : List α}, (∀ b ∈ l, b < 256) → rdMany P k l = some (xs, r) → l = xs.flatMap W ++ r ∧ xs.length = k := by
  induction k with
  | zero =>
    intro l r xs hl h
    simp only [rdMany, Option.some.injEq, Prod.mk.injEq] at h
    obtain ⟨rfl, rfl⟩ := h
    exact ⟨rfl, rfl⟩
  | succ k ih =>
    intro l r xs hl h
    unfold rdMany at h
    split at h
    · cases h
    · rename_i x r1 e1
      have q1 := hP hl e1
      split at h
      · cases h
      · rename_i ys r2 e2
        obtain ⟨q2, q3⟩ := ih (fun b hb => hl b (by rw [q1]; simp [hb])) e2
        simp only [Option.some.injEq, Prod.mk.injEq] at h
        obtain ⟨rfl, rfl⟩ := h
        exact ⟨by rw [q1, q2]; simp, by simp [q3]⟩
theorem rdThread_canon {l r : List Nat} {x : List Ins} (hl : ∀ b ∈ l, b < 256) (h : rdThread l = some (x, r)) : l = codeB x ++ r := by
  unfold rdThread at h
  split at h
  · cases h
  · rename_i k r1 e1
    obtain ⟨q1, _, q0⟩ := rdMost_canon hl e1
    obtain ⟨q2, q3⟩ := rdMany_canon (W := insB) (fun hl h => rdIns_canon hl h) _ (fun b hb => hl b (by rw [q1]; simp [hb])) h
    unfold codeB
    have : (x.length : Int) = k := by omega
    rw [q1, q2, this]; simp
theorem rdProg_canon {l r : List Nat} {x : List (List Ins)} (hl : ∀ b ∈ l, b < 256) (h : rdProg l = some (x, r)) : l = progB x ++ r := by
  unfold rdProg at h
  split at h
  · cases h
  · rename_i k r1 e1
    obtain ⟨q1, _, q0⟩ := rdMost_canon hl e1
    obtain ⟨q2, q3⟩ := rdMany_canon (W := codeB) (fun hl h => rdThread_canon hl h) _ (fun b hb => hl b (by rw [q1]; simp [hb])) h
    unfold progB
    have : (x.length : Int) = k := by omega
    rw [q1, q2, this]; simp
theorem rdRuns_canon (k : Nat) : ∀ {sch : List Int} {l r : List Nat} {s : List Int}, (∀ b ∈ l, b < 256) → rdRuns k sch l = some (s, r) → ∃ q, l = q.flatMap runB ++ r ∧ q.length = k ∧ s = sch ++ expand q ∧ Sep sch.getLast? q ∧ ∀ x ∈ q, 0 < x.2 := by
  induction k with
  | zero =>
    intro sch l r s hl h
    simp only [rdRuns, Option.some.injEq, Prod.mk.injEq] at h
    obtain ⟨rfl, rfl⟩ := h
    exact ⟨[], rfl, rfl, by simp [expand], trivial, fun x hx => by cases hx⟩
  | succ k ih =>
    intro sch l r s hl h
    unfold rdRuns at h
    split at h
    · cases h
    · rename_i t r1 e1
      have q1 := rdWhole_canon hl e1
      split at h
      · cases h
      · rename_i c r2 e2
        have h1 : ∀ b ∈ r1, b < 256 := fun b hb => hl b (by rw [q1]; simp [hb])
        obtain ⟨q2, _, _⟩ := rdMost_canon h1 e2
        split at h
        · rename_i h3
          obtain ⟨q, p1, p2, p3, p4, p5⟩ := ih (fun b hb => h1 b (by rw [q2]; simp [hb])) h
          rw [getLast_rep _ _ _ (by omega)] at p4
          refine ⟨(t, c) :: q, by rw [q1, q2, p1]; simp [runB], by simp [p2], by rw [p3]; simp [expand], ⟨h3.2, p4⟩, fun x hx => ?_⟩
          rcases List.mem_cons.1 hx with rfl | hx
          · exact h3.1
          · exact p5 x hx
        · cases h
theorem grp_rep (t : Int) (n : Nat) (s : List Int) (q : List (Int × Int)) (hq : grp s = q) (hs : Sep (some t) q) : grp (List.replicate (n + 1) t ++ s) = (t, ((n + 1 : Nat) : Int)) :: q := by
  induction n with
  | zero =>
    simp only [Nat.zero_add, List.replicate_one, List.singleton_append, grp, hq]
    cases q with
    | nil => rfl
    | cons x q =>
      simp only
      rw [if_neg (fun e => hs.1 (by rw [e]))]
      rfl
  | succ n ih =>
    rw [List.replicate_succ, List.cons_append, grp, ih]
    simp
theorem grp_of_expand (q : List (Int × Int)) : ∀ p, Sep p q → (∀ x ∈ q, 0 < x.2) → grp (expand q) = q := by
  induction q with
  | nil => intro p _ _; rfl
  | cons x q ih =>
    intro p hs hp
    have h0 := hp x (by simp)
    obtain ⟨n, hn⟩ : ∃ n : Nat, x.2.toNat = n + 1 := ⟨x.2.toNat - 1, by omega⟩
    have e : expand (x :: q) = List.replicate (n + 1) x.1 ++ expand q := by simp [expand, hn]
    rw [e, grp_rep x.1 n _ q (ih _ hs.2 (fun y hy => hp y (by simp [hy]))) hs.2]
    congr 1
    have : ((n + 1 : Nat) : Int) = x.2 := by omega
    rw [this]
theorem rdSched_canon {l r : List Nat} {s : List Int} (hl : ∀ b ∈ l, b < 256) (h : rdSched l = some (s, r)) : l = schB s ++ r := by
  unfold rdSched at h
  split at h
  · cases h
  · rename_i k r1 e1
    obtain ⟨q1, _, q0⟩ := rdMost_canon hl e1
    obtain ⟨q, p1, p2, p3, p4, p5⟩ := rdRuns_canon _ (fun b hb => hl b (by rw [q1]; simp [hb])) h
    simp only [List.nil_append] at p3
    unfold schB
    rw [p3, grp_of_expand q _ p4 p5]
    have : (q.length : Int) = k := by omega
    rw [q1, p1, this]; simp
theorem rdVer_canon {l r : List Nat} {v : Int × Int × Int} (hl : ∀ b ∈ l, b < 256) (h : rdVer l = some (v, r)) : l = verB v ++ r := by
  unfold rdVer at h
  split at h
  · cases h
  · rename_i a l1 e1
    have q1 := rdWhole_canon hl e1
    split at h
    · cases h
    · rename_i b l2 e2
      have h1 : ∀ b ∈ l1, b < 256 := fun b hb => hl b (by rw [q1]; simp [hb])
      have q2 := rdWhole_canon h1 e2
      split at h
      · cases h
      · rename_i c l3 e3
        have h2 : ∀ b ∈ l2, b < 256 := fun b hb => h1 b (by rw [q2]; simp [hb])
        have q3 := rdWhole_canon h2 e3
        simp only [Option.some.injEq, Prod.mk.injEq] at h
        obtain ⟨rfl, rfl⟩ := h
        unfold verB
        rw [q1, q2, q3]; simp
theorem rdArt_canon {l r : List Nat} {a : Art} (hl : ∀ b ∈ l, b < 256) (h : rdArt l = some (a, r)) : l = bodyB a ++ r := by
  obtain ⟨r0, rfl⟩ := rdArt_head h
  simp only [rdArt] at h
  have h0 : ∀ b ∈ r0, b < 256 := fun b hb => hl b (by simp [hb])
  split at h
  · cases h
  · rename_i p r1 e1
    have q1 := rdProg_canon h0 e1
    have h1 : ∀ b ∈ r1, b < 256 := fun b hb => h0 b (by rw [q1]; simp [hb])
    split at h
    · cases h
    · rename_i s r2 e2
      have q2 := rdSched_canon h1 e2
      have h2 : ∀ b ∈ r2, b < 256 := fun b hb => h1 b (by rw [q2]; simp [hb])
      split at h
      · cases h
      · rename_i v r3 e3
        have q3 := rdVer_canon h2 e3
        simp only [Option.some.injEq, Prod.mk.injEq] at h
        obtain ⟨rfl, rfl⟩ := h
        unfold bodyB
        rw [q1, q2, q3]; simp
/-- What is read was written. -/
theorem dec_canon {l : List Nat} {a : Art} (hl : ∀ b ∈ l, b < 256) (h : decB l = some a) : l = encB a ∧ artE a = 0 := by
  unfold decB at h
  split at h
  · cases h
  · rename_i a' r e
    split at h
    · rename_i h1
      simp only [Option.some.injEq] at h
      subst h
      have q := rdArt_canon hl e
      refine ⟨?_, h1.2⟩
      have h2 := h1.1
      have : l.take (l.length - r.length) = bodyB a' := by rw [q]; simp
      rw [this] at h2
      unfold encB
      rw [← h2]; exact q
    · cases h

end Go.Proofs.YtklenjmfalljgaaDoor

/- The reference's reader, as plain functions; what was written it reads again. -/
namespace Go.Proofs.YtklenjmfalljgaaDoor

/-- A number of 64 bits: so many bytes may come still; its value, what is left, is it none's. -/
def bigG : Nat → Nat → Nat → List Nat → Nat × List Nat × Bool
  | 0, _, _, l => (0, l, true)
  | _ + 1, _, _, [] => (0, [], true)
  | k + 1, unit, v, c :: r => if c < 128 then ((v + unit * (c % 128)) % 18446744073709551616, r, false) else bigG k (unit * 128 % 18446744073709551616) ((v + unit * (c % 128)) % 18446744073709551616) r
def numG (most : Nat) (l : List Nat) : Nat × List Nat × Bool := if most < (bigG 10 1 0 l).1 then (0, (bigG 10 1 0 l).2.1, true) else bigG 10 1 0 l
def insG (l : List Nat) : Ins × List Nat × Bool :=
  let o := numG 11 l
  let a := numG 3 o.2.1
  let b := numG 3 a.2.1
  let n := bigG 10 1 0 b.2.1
  (⟨o.1, a.1, b.1, zag n.1⟩, n.2.1, o.2.2 || a.2.2 || b.2.2 || n.2.2)
def codeG : Nat → List Ins → List Nat → Bool → List Ins × List Nat × Bool
  | 0, c, l, b => (c, l, b)
  | _ + 1, c, l, true => (c, l, true)
  | k + 1, c, l, false => codeG k (c ++ [(insG l).1]) (insG l).2.1 (insG l).2.2
def progG : Nat → List (List Ins) → List Nat → Bool → List (List Ins) × List Nat × Bool
  | 0, p, l, b => (p, l, b)
  | _ + 1, p, l, true => (p, l, true)
  | k + 1, p, l, false =>
    let n := numG 16 l
    let c := codeG n.1 [] n.2.1 n.2.2
    progG k (p ++ [c.1]) c.2.1 c.2.2
def fillG : Nat → Int → List Int → List Int
  | 0, _, s => s
  | n + 1, t, s => if s.length ≤ 500 then fillG n t (s ++ [t]) else s
def runsG : Nat → List Int → List Nat → Bool → List Int × List Nat × Bool
  | 0, s, l, b => (s, l, b)
  | _ + 1, s, l, true => (s, l, true)
  | k + 1, s, l, false =>
    let t := numG 63 l
    let n := numG 500 t.2.1
    runsG k (fillG n.1 t.1 s) n.2.1 (t.2.2 || n.2.2)
/-- What bytes may be of. -/
def guessG (l : List Nat) : Art × Bool :=
  let t := numG 4 (l.drop 3)
  let p := progG t.1 [] t.2.1 t.2.2
  let k := numG 500 p.2.1
  let s := runsG k.1 [] k.2.1 (p.2.2 || k.2.2)
  let a := numG 5 s.2.1
  let b := numG 3 a.2.1
  let c := numG 500 b.2.1
  (⟨p.1, s.1, (a.1, b.1, c.1)⟩, !(s.2.2 || a.2.2 || b.2.2 || c.2.2))

theorem bigG_num (n : Nat) : ∀ (k place acc : Nat) (r : List Nat), place + 7 * k = 70 → 1 ≤ k → acc + n * 2 ^ place < 18446744073709551616 → bigG k (2 ^ place) acc (numB n ++ r) = (acc + n * 2 ^ place, r, false) := by
  induction n using Nat.strongRecOn with
  | ind n ih =>
    intro k place acc r hk h1 h
    obtain ⟨j, rfl⟩ : ∃ j, k = j + 1 := ⟨k - 1, by omega⟩
    by_cases hn : n < 128
    · rw [numB_small hn]
      have e : n % 128 = n := Nat.mod_eq_of_lt hn
      simp only [List.cons_append, List.nil_append, bigG, e]
      rw [if_pos hn, Nat.mul_comm (2 ^ place) n, Nat.mod_eq_of_lt h]
    · rw [numB_big hn]
      have e : (n % 128 + 128) % 128 = n % 128 := by omega
      simp only [List.cons_append, bigG, e]
      rw [if_neg (by omega)]
      have hp : 2 ^ (place + 7) = 2 ^ place * 128 := by rw [Nat.pow_add]
      have hs : n * 2 ^ place = 2 ^ place * (n % 128) + (n / 128) * 2 ^ (place + 7) := by
        have : n = n % 128 + 128 * (n / 128) := by omega
        rw [hp]
        conv => lhs; rw [this]
        rw [Nat.add_mul, Nat.mul_comm (n % 128), Nat.mul_comm 128, Nat.mul_assoc, Nat.mul_comm 128]
      have hd : 1 ≤ n / 128 := by omega
      have hge : 2 ^ (place + 7) ≤ (n / 128) * 2 ^ (place + 7) := Nat.le_mul_of_pos_left _ hd
      have hlt : 2 ^ (place + 7) < 18446744073709551616 := by omega
      have hpl : place + 7 < 64 := by
        apply Nat.lt_of_not_le
        intro hc
        have : (2 : Nat) ^ 64 ≤ 2 ^ (place + 7) := Nat.pow_le_pow_right (by omega) hc
        omega
      rw [Nat.mod_eq_of_lt (by omega : acc + 2 ^ place * (n % 128) < 18446744073709551616), ← hp, Nat.mod_eq_of_lt hlt, ih (n / 128) (by omega) j (place + 7) _ r (by omega) (by omega) (by omega), Nat.add_assoc, ← hs]
theorem big_w (n : Nat) (r : List Nat) (h : n < 18446744073709551616) : bigG 10 1 0 (numB n ++ r) = (n, r, false) := by
  have := bigG_num n 10 0 0 r (by omega) (by omega) (by simpa using h)
  simpa using this
theorem num_w (most : Nat) (n : Int) (r : List Nat) (_h0 : 0 ≤ n) (h1 : n ≤ most) (hm : most ≤ 1000) : numG most (wInt n ++ r) = (n.toNat, r, false) := by
  unfold numG wInt
  rw [big_w _ _ (by omega), if_neg (by simp only; omega)]
theorem ins_wG (i : Ins) (r : List Nat) (h1 : 0 ≤ i.op ∧ i.op ≤ 11) (h2 : 0 ≤ i.a ∧ i.a ≤ 3) (h3 : 0 ≤ i.b ∧ i.b ≤ 3) (h4 : -9223372036854775808 ≤ i.n ∧ i.n ≤ 9223372036854775807) : insG (insB i ++ r) = (i, r, false) := by
  unfold insG insB
  simp only [List.append_assoc]
  rw [num_w 11 _ _ h1.1 (by omega) (by omega)]
  simp only
  rw [num_w 3 _ _ h2.1 (by omega) (by omega)]
  simp only
  rw [num_w 3 _ _ h3.1 (by omega) (by omega)]
  simp only
  have hz : zig i.n < 18446744073709551616 := by unfold zig; split <;> omega
  rw [big_w _ _ hz]
  simp only [zag_zig, Bool.or_self]
  have e1 : ((i.op.toNat : Nat) : Int) = i.op := by omega
  have e2 : ((i.a.toNat : Nat) : Int) = i.a := by omega
  have e3 : ((i.b.toNat : Nat) : Int) = i.b := by omega
  rw [e1, e2, e3]
def smallIns (i : Ins) : Prop := (0 ≤ i.op ∧ i.op ≤ 11) ∧ (0 ≤ i.a ∧ i.a ≤ 3) ∧ (0 ≤ i.b ∧ i.b ≤ 3) ∧ (-9223372036854775808 ≤ i.n ∧ i.n ≤ 9223372036854775807)
theorem code_wG (c : List Ins) : ∀ (d : List Ins) (r : List Nat), (∀ i ∈ c, smallIns i) → codeG c.length d (c.flatMap insB ++ r) false = (d ++ c, r, false) := by
  induction c with
  | nil => intro d r _; simp [codeG]
  | cons i c ih =>
    intro d r h
    obtain ⟨h1, h2, h3, h4⟩ := h i (by simp)
    rw [List.length_cons, List.flatMap_cons, List.append_assoc, codeG, ins_wG i _ h1 h2 h3 h4]
    simp only
    rw [ih _ _ (fun j hj => h j (by simp [hj]))]
    simp
theorem prog_wG (p : List (List Ins)) : ∀ (d : List (List Ins)) (r : List Nat), (∀ c ∈ p, c.length ≤ 16 ∧ ∀ i ∈ c, smallIns i) → progG p.length d (p.flatMap codeB ++ r) false = (d ++ p, r, false) := by
  induction p with
  | nil => intro d r _; simp [progG]
  | cons c p ih =>
    intro d r h
    obtain ⟨h1, h2⟩ := h c (by simp)
    rw [List.length_cons, List.flatMap_cons, progG]
    unfold codeB
    simp only [List.append_assoc]
    rw [num_w 16 _ _ (by omega) (by omega) (by omega)]
    simp only [Int.toNat_natCast]
    rw [code_wG c [] _ h2]
    have := ih (d ++ [c]) r (fun x hx => h x (by simp [hx]))
    unfold codeB at this
    simp only [List.nil_append]
    rw [this]
    simp
theorem fill_rep (n : Nat) (t : Int) : ∀ s : List Int, s.length + n ≤ 501 → fillG n t s = s ++ List.replicate n t := by
  induction n with
  | zero => intro s _; simp [fillG]
  | succ n ih =>
    intro s h
    rw [fillG, if_pos (by omega), ih _ (by simp; omega), List.append_assoc]
    rfl
theorem runs_wG (q : List (Int × Int)) : ∀ (s : List Int) (r : List Nat), (∀ x ∈ q, 0 ≤ x.1 ∧ x.1 ≤ 63 ∧ 1 ≤ x.2 ∧ x.2 ≤ 500) → s.length + (expand q).length ≤ 500 → runsG q.length s (q.flatMap runB ++ r) false = (s ++ expand q, r, false) := by
  induction q with
  | nil => intro s r _ _; simp [runsG, expand]
  | cons x q ih =>
    intro s r h hl
    obtain ⟨h1, h2, h3, h4⟩ := h x (by simp)
    have hexp : expand (x :: q) = List.replicate x.2.toNat x.1 ++ expand q := by simp [expand]
    rw [hexp] at hl ⊢
    simp only [List.length_append, List.length_replicate] at hl
    rw [List.flatMap_cons, List.length_cons, runsG]
    unfold runB
    simp only [List.append_assoc]
    rw [num_w 63 _ _ h1 (by omega) (by omega)]
    simp only
    rw [num_w 500 _ _ (by omega) (by omega) (by omega)]
    simp only [Bool.or_self]
    have e1 : ((x.1.toNat : Nat) : Int) = x.1 := by omega
    rw [e1, fill_rep _ _ _ (by omega)]
    have := ih (s ++ List.replicate x.2.toNat x.1) r (fun y hy => h y (by simp [hy])) (by simp; omega)
    unfold runB at this
    rw [this]
    simp
theorem vIns_small {i : Ins} {len : Int} (h : vIns i len = true) : (0 ≤ i.op ∧ i.op ≤ 11) ∧ (0 ≤ i.a ∧ i.a ≤ 3) ∧ (0 ≤ i.b ∧ i.b ≤ 3) := by
  simp only [vIns, Bool.and_eq_true, decide_eq_true_eq] at h
  obtain ⟨h1, h2, h3, h4, _⟩ := h
  refine ⟨⟨by omega, h2⟩, ?_, ?_⟩
  · obtain ⟨o, ho⟩ : ∃ o : Nat, i.op.toNat = o := ⟨_, rfl⟩
    rw [ho] at h3
    have : o = 1 ∨ o = 2 ∨ o = 3 ∨ o = 4 ∨ o = 5 ∨ o = 6 ∨ o = 7 ∨ o = 8 ∨ o = 9 ∨ o = 10 ∨ o = 11 := by omega
    rcases this with rfl | rfl | rfl | rfl | rfl | rfl | rfl | rfl | rfl | rfl | rfl <;> simp [shp, fitsB, belowB] at h3 <;> omega
  · obtain ⟨o, ho⟩ : ∃ o : Nat, i.op.toNat = o := ⟨_, rfl⟩
    rw [ho] at h4
    have : o = 1 ∨ o = 2 ∨ o = 3 ∨ o = 4 ∨ o = 5 ∨ o = 6 ∨ o = 7 ∨ o = 8 ∨ o = 9 ∨ o = 10 ∨ o = 11 := by omega
    rcases this with rfl | rfl | rfl | rfl | rfl | rfl | rfl | rfl | rfl | rfl | rfl <;> simp [shp, fitsB, belowB] at h4 <;> omega
theorem artE_zero {a : Art} (h : artE a = 0) : vProg a.prog = true ∧ validS a.sch = true ∧ verOk a.ver = true := by
  unfold artE at h
  split at h
  · split at h
    · rename_i h1 h2; exact ⟨h1, h2⟩
    · omega
  · omega
/-- What was written the reference reads again. -/
theorem guess_enc (a : Art) (h : artE a = 0) (hi : ∀ c ∈ a.prog, ∀ i ∈ c, insInt i) : guessG (encB a) = (a, true) := by
  obtain ⟨hp, hs, hv⟩ := artE_zero h
  have hl := vProg_len hp
  have hc : ∀ c ∈ a.prog, c.length ≤ 16 ∧ ∀ i ∈ c, smallIns i := by
    intro c hc
    simp only [vProg, Bool.and_eq_true, List.all_eq_true] at hp
    have h1 := hp.2.2 c hc
    have h2 := h1
    simp only [vCode, Bool.and_eq_true, List.all_eq_true, decide_eq_true_eq] at h2
    refine ⟨h2.1, fun i hi' => ?_⟩
    obtain ⟨q1, q2, q3⟩ := vIns_small (h2.2 i hi')
    exact ⟨q1, q2, q3, (hi c hc i hi').2.2.2⟩
  have hs' := hs
  simp only [validS, Bool.and_eq_true, decide_eq_true_eq, List.all_eq_true] at hs'
  have hg := grp_len a.sch
  have hq : ∀ x ∈ grp a.sch, 0 ≤ x.1 ∧ x.1 ≤ 63 ∧ 1 ≤ x.2 ∧ x.2 ≤ 500 := fun x hx => by
    have h1 := grp_mem a.sch x hx
    have h2 := hs'.2 x.1 h1.1
    exact ⟨h2.1, h2.2, h1.2.1, by omega⟩
  simp only [verOk, Bool.and_eq_true, decide_eq_true_eq] at hv
  obtain ⟨p, s, v0, v1, v2⟩ := a
  simp only at hp hs hl hc hs' hg hq hv ⊢
  unfold guessG encB bodyB progB schB verB
  simp only [List.cons_append, List.nil_append, List.drop_succ_cons, List.drop_zero, List.append_assoc]
  rw [num_w 4 _ _ (by omega) (by omega) (by omega)]
  simp only [Int.toNat_natCast]
  rw [prog_wG p [] _ hc]
  simp only [List.nil_append]
  rw [num_w 500 _ _ (by omega) (by omega) (by omega)]
  simp only [Int.toNat_natCast, Bool.or_self]
  rw [runs_wG (grp s) [] _ hq (by rw [grp_expand]; simpa using hs'.1)]
  simp only [List.nil_append, grp_expand]
  rw [num_w 5 _ _ (by omega) (by omega) (by omega)]
  simp only
  rw [num_w 3 _ _ (by omega) (by omega) (by omega)]
  simp only
  rw [num_w 500 _ _ (by omega) (by omega) (by omega)]
  simp only [Bool.or_self, Bool.not_false]
  have e0 : ((v0.toNat : Nat) : Int) = v0 := by omega
  have e1 : ((v1.toNat : Nat) : Int) = v1 := by omega
  have e2 : ((v2.toNat : Nat) : Int) = v2 := by omega
  rw [e0, e1, e2]

/-- The reference's Decode: what is guessed, if it is written so. -/
def refDec (l : List Nat) : Option Art := if (guessG l).2 = true ∧ artE (guessG l).1 = 0 ∧ encB (guessG l).1 = l then some (guessG l).1 else none
theorem refDec_eq {l : List Nat} (hl : ∀ b ∈ l, b < 256) (hi : ∀ a, decB l = some a → ∀ c ∈ a.prog, ∀ i ∈ c, insInt i) (hj : ∀ c ∈ (guessG l).1.prog, ∀ i ∈ c, insInt i) : refDec l = decB l := by
  unfold refDec
  cases hd : decB l with
  | none =>
    rw [if_neg]
    rintro ⟨_, h2, h3⟩
    have := dec_enc _ h2 hj
    rw [h3, hd] at this
    cases this
  | some a =>
    obtain ⟨e1, e2⟩ := dec_canon hl hd
    have hg := guess_enc a e2 (hi a hd)
    rw [← e1] at hg
    rw [hg]
    simp only [true_and]
    rw [if_pos ⟨e2, e1.symm⟩]

end Go.Proofs.YtklenjmfalljgaaDoor

/- What is read is in range; the reference's check is the same. -/
namespace Go.Proofs.YtklenjmfalljgaaDoor

theorem bigG_lt : ∀ (k u v : Nat) (l : List Nat), (bigG k u v l).1 < 18446744073709551616
  | 0, _, _, _ => by simp [bigG]
  | _ + 1, _, _, [] => by simp [bigG]
  | k + 1, u, v, c :: r => by
    rw [bigG]
    split
    · exact Nat.mod_lt _ (by omega)
    · exact bigG_lt k _ _ r
theorem numG_le (m : Nat) (l : List Nat) : (numG m l).1 ≤ m := by
  unfold numG
  split
  · simp
  · omega
theorem zag_int (n : Nat) (h : n < 18446744073709551616) : -9223372036854775808 ≤ zag n ∧ zag n ≤ 9223372036854775807 := by
  unfold zag
  split <;> omega
theorem insG_small (l : List Nat) : smallIns (insG l).1 := by
  unfold insG
  have h1 := numG_le 11 l
  have h2 := numG_le 3 (numG 11 l).2.1
  have h3 := numG_le 3 (numG 3 (numG 11 l).2.1).2.1
  refine ⟨⟨?_, ?_⟩, ⟨?_, ?_⟩, ⟨?_, ?_⟩, zag_int _ (bigG_lt _ _ _ _)⟩ <;> simp only <;> omega
theorem codeG_small : ∀ (k : Nat) (c : List Ins) (l : List Nat) (b : Bool), (∀ i ∈ c, smallIns i) → (∀ i ∈ (codeG k c l b).1, smallIns i) ∧ (codeG k c l b).1.length ≤ c.length + k
  | 0, c, l, b, h => ⟨h, by simp [codeG]⟩
  | k + 1, c, l, true, h => ⟨h, by simp [codeG]⟩
  | k + 1, c, l, false, h => by
    rw [codeG]
    obtain ⟨h1, h2⟩ := codeG_small k (c ++ [(insG l).1]) (insG l).2.1 (insG l).2.2 (fun i hi => by
      rcases List.mem_append.1 hi with hi | hi
      · exact h i hi
      · simp at hi; subst hi; exact insG_small l)
    exact ⟨h1, by simp at h2; omega⟩
theorem progG_small : ∀ (k : Nat) (p : List (List Ins)) (l : List Nat) (b : Bool), (∀ c ∈ p, c.length ≤ 16 ∧ ∀ i ∈ c, smallIns i) → (∀ c ∈ (progG k p l b).1, c.length ≤ 16 ∧ ∀ i ∈ c, smallIns i) ∧ (progG k p l b).1.length ≤ p.length + k
  | 0, p, l, b, h => ⟨h, by simp [progG]⟩
  | k + 1, p, l, true, h => ⟨h, by simp [progG]⟩
  | k + 1, p, l, false, h => by
    rw [progG]
    have hc := codeG_small (numG 16 l).1 [] (numG 16 l).2.1 (numG 16 l).2.2 (fun i hi => by cases hi)
    have hn := numG_le 16 l
    obtain ⟨h1, h2⟩ := progG_small k (p ++ [(codeG (numG 16 l).1 [] (numG 16 l).2.1 (numG 16 l).2.2).1]) (codeG (numG 16 l).1 [] (numG 16 l).2.1 (numG 16 l).2.2).2.1 (codeG (numG 16 l).1 [] (numG 16 l).2.1 (numG 16 l).2.2).2.2 (fun c hi => by
      rcases List.mem_append.1 hi with hi | hi
      · exact h c hi
      · simp at hi; subst hi; exact ⟨by have := hc.2; simp at this; omega, hc.1⟩)
    exact ⟨h1, by simp at h2; omega⟩
theorem guess_small (l : List Nat) : (∀ c ∈ (guessG l).1.prog, c.length ≤ 16 ∧ ∀ i ∈ c, smallIns i) ∧ (guessG l).1.prog.length ≤ 4 := by
  unfold guessG
  have h := progG_small (numG 4 (l.drop 3)).1 [] (numG 4 (l.drop 3)).2.1 (numG 4 (l.drop 3)).2.2 (fun c hc => by cases hc)
  have hn := numG_le 4 (l.drop 3)
  exact ⟨h.1, by have := h.2; simp at this; simp only; omega⟩
theorem small_int {i : Ins} (h : smallIns i) : insInt i := by
  obtain ⟨h1, h2, h3, h4⟩ := h
  exact ⟨⟨h1.1, by omega⟩, ⟨h2.1, by omega⟩, ⟨h3.1, by omega⟩, h4⟩

theorem sum_u64 (n x place : Nat) (hn : n < 2 ^ place) (h : x % 128 * 2 ^ place < 18446744073709551616) (hp : place < 64) : n + x % 128 * 2 ^ place < 18446744073709551616 ∧ n + x % 128 * 2 ^ place < 2 ^ (place + 7) := by
  constructor
  · have e : 18446744073709551616 = 2 ^ (64 - place) * 2 ^ place := by rw [← Nat.pow_add, show 64 - place + place = 64 by omega]
    rw [e] at h ⊢
    have h1 : x % 128 < 2 ^ (64 - place) := Nat.lt_of_mul_lt_mul_right h
    have h2 : (x % 128 + 1) * 2 ^ place ≤ 2 ^ (64 - place) * 2 ^ place := Nat.mul_le_mul_right _ h1
    rw [Nat.add_mul, Nat.one_mul] at h2
    omega
  · have h1 : 2 ^ (place + 7) = 128 * 2 ^ place := by rw [Nat.pow_add, Nat.mul_comm]
    have h2 : x % 128 * 2 ^ place ≤ 127 * 2 ^ place := Nat.mul_le_mul_right _ (by omega)
    omega
theorem rdN_u64 (l : List Nat) : ∀ (place acc x : Nat) (r : List Nat), acc < 2 ^ place → rdN place acc l = some (x, r) → x < 18446744073709551616 := by
  induction l with
  | nil => intro place acc x r _ h; cases h
  | cons b l ih =>
    intro place acc x r ha h
    rw [rdN] at h
    split at h
    · rename_i h1
      have hf := sum_u64 acc b place ha h1.2 h1.1
      split at h
      · split at h
        · simp only [Option.some.injEq, Prod.mk.injEq] at h
          rw [← h.1]; exact hf.1
        · cases h
      · exact ih _ _ _ _ hf.2 h
    · cases h
theorem rdWhole_int {l r : List Nat} {x : Int} (h : rdWhole l = some (x, r)) : 0 ≤ x ∧ x ≤ 9223372036854775807 := by
  unfold rdWhole at h
  split at h
  · split at h
    · simp only [Option.some.injEq, Prod.mk.injEq] at h
      omega
    · cases h
  · cases h
theorem rdSigned_int {l r : List Nat} {x : Int} (h : rdSigned l = some (x, r)) : -9223372036854775808 ≤ x ∧ x ≤ 9223372036854775807 := by
  unfold rdSigned at h
  split at h
  · rename_i n r' e
    simp only [Option.some.injEq, Prod.mk.injEq] at h
    rw [← h.1]
    exact zag_int n (rdN_u64 l 0 0 n r' (by simp) e)
  · cases h
theorem rdIns_int {l r : List Nat} {x : Ins} (h : rdIns l = some (x, r)) : insInt x := by
  unfold rdIns at h
  split at h
  · cases h
  · rename_i o l1 e1
    split at h
    · cases h
    · rename_i a l2 e2
      split at h
      · cases h
      · rename_i c l3 e3
        split at h
        · cases h
        · rename_i n l4 e4
          simp only [Option.some.injEq, Prod.mk.injEq] at h
          rw [← h.1]
          exact ⟨rdWhole_int e1, rdWhole_int e2, rdWhole_int e3, rdSigned_int e4⟩
theorem rdMany_all {α : Type} {P : List Nat → Option (α × List Nat)} {Q : α → Prop} (hP : ∀ {l r : List Nat} {x : α}, P l = some (x, r) → Q x) (k : Nat) :
    ∀ {l r : List Nat} {xs : List α}, rdMany P k l = some (xs, r) → ∀ x ∈ xs, Q x := by
  induction k with
  | zero =>
    intro l r xs h
    simp only [rdMany, Option.some.injEq, Prod.mk.injEq] at h
    rw [← h.1]; intro x hx; cases hx
  | succ k ih =>
    intro l r xs h
    unfold rdMany at h
    split at h
    · cases h
    · rename_i x r1 e1
      split at h
      · cases h
      · rename_i ys r2 e2
        simp only [Option.some.injEq, Prod.mk.injEq] at h
        rw [← h.1]
        intro y hy
        rcases List.mem_cons.1 hy with rfl | hy
        · exact hP e1
        · exact ih e2 y hy
theorem rdThread_int {l r : List Nat} {x : List Ins} (h : rdThread l = some (x, r)) : ∀ i ∈ x, insInt i := by
  unfold rdThread at h
  split at h
  · cases h
  · exact rdMany_all (fun h => rdIns_int h) _ h
theorem rdProg_int {l r : List Nat} {x : List (List Ins)} (h : rdProg l = some (x, r)) : ∀ c ∈ x, ∀ i ∈ c, insInt i := by
  unfold rdProg at h
  split at h
  · cases h
  · exact rdMany_all (fun h => rdThread_int h) _ h
theorem dec_int {l : List Nat} {a : Art} (h : decB l = some a) : ∀ c ∈ a.prog, ∀ i ∈ c, insInt i := by
  unfold decB at h
  split at h
  · cases h
  · rename_i a' r e
    split at h
    · simp only [Option.some.injEq] at h
      subst h
      obtain ⟨r0, rfl⟩ := rdArt_head e
      simp only [rdArt] at e
      split at e
      · cases e
      · rename_i p r1 e1
        split at e
        · cases e
        · split at e
          · cases e
          · simp only [Option.some.injEq, Prod.mk.injEq] at e
            rw [← e.1]
            exact rdProg_int e1
    · cases h
/-- The reference's Decode answers what the product's does. -/
theorem refDec_dec {l : List Nat} (hl : ∀ b ∈ l, b < 256) : refDec l = decB l :=
  refDec_eq hl (fun _ h => dec_int h) (fun c hc i hi => small_int (((guess_small l).1 c hc).2 i hi))

/-- A bit of the reference's check. -/
def bitR (x : Nat × Nat) : Nat × Nat := (if (x.1 + x.2) % 2 = 1 then (x.1 / 2) ^^^ 3988292384 else x.1 / 2, x.2 / 2)
def bitsR : Nat → Nat × Nat → Nat × Nat
  | 0, x => x
  | k + 1, x => bitR (bitsR k x)
theorem bitR_sh (x : Nat × Nat) : (bitR x).1 ^^^ (bitR x).2 = shN (x.1 ^^^ x.2) := by
  unfold bitR shN
  simp only
  rw [xor_low, xor_half]
  split
  · rw [Nat.xor_assoc, Nat.xor_comm 3988292384, ← Nat.xor_assoc]
  · rfl
theorem bitsR_sh (k : Nat) (x : Nat × Nat) : (bitsR k x).1 ^^^ (bitsR k x).2 = shK k (x.1 ^^^ x.2) := by
  induction k with
  | zero => rfl
  | succ k ih => rw [bitsR, bitR_sh, ih, shK_add k 1]; rfl
theorem bitsR_two (k : Nat) (x : Nat × Nat) : (bitsR k x).2 = x.2 / 2 ^ k := by
  induction k with
  | zero => simp [bitsR]
  | succ k ih => rw [bitsR]; show (bitsR k x).2 / 2 = _; rw [ih, Nat.div_div_eq_div_mul, Nat.pow_succ]
theorem bitsR_eight (v c : Nat) (hc : c < 256) : (bitsR 8 (v, c)).1 = shK 8 (v ^^^ c) := by
  have h1 := bitsR_sh 8 (v, c)
  have h2 := bitsR_two 8 (v, c)
  have h3 : c / 2 ^ 8 = 0 := Nat.div_eq_of_lt hc
  simp only at h1 h2
  rw [h2, h3, Nat.xor_zero] at h1
  exact h1
theorem bitsR_lt (k : Nat) (v c : Nat) (hv : v < 4294967296) (hc : c < 256) : (bitsR k (v, c)).1 < 4294967296 ∧ (bitsR k (v, c)).2 < 256 := by
  induction k with
  | zero => exact ⟨hv, hc⟩
  | succ k ih =>
    rw [bitsR]
    refine ⟨?_, ?_⟩
    · unfold bitR
      simp only
      split
      · exact Nat.xor_lt_two_pow (n := 32) (by omega) (by omega)
      · omega
    · show (bitsR k (v, c)).2 / 2 < 256
      omega
theorem crc_less (v : Nat) (h : v < 4294967296) : 4294967295 ^^^ v = 4294967295 - v := by
  apply Nat.eq_of_testBit_eq
  intro i
  have e : 4294967295 - v = 2 ^ 32 - (v + 1) := by omega
  rw [e, Nat.testBit_two_pow_sub_succ (by omega), Nat.testBit_xor, show (4294967295 : Nat) = 2 ^ 32 - 1 from rfl, Nat.testBit_two_pow_sub_one]
  by_cases hi : i < 32
  · simp [hi]
  · have : v.testBit i = false := Nat.testBit_lt_two_pow (Nat.lt_of_lt_of_le (by omega : v < 2 ^ 32) (Nat.pow_le_pow_right (by omega) (by omega)))
    simp [hi, this]

end Go.Proofs.YtklenjmfalljgaaDoor

/- The walks of the scanner's methods. -/
namespace Go.Proofs.YtklenjmfalljgaaDoor
open Go.RowKit
attribute [local go_sem] Go.World.cell?_alloc_some

def byt (s : ByteArray) : List Nat := s.data.toList.map UInt8.toNat

def ScAt (w : World) (b : Nat) (s : ByteArray) (a : Nat) : Prop := w.heap[b]? = some (.cells #[.string s, .int .i64 a] 165 (0, 0))

theorem byt_len (s : ByteArray) : (byt s).length = s.size := by simp [byt]
theorem byt_get (s : ByteArray) (a : Nat) (h : a < s.size) : (byt s)[a]? = some s[a].toNat := by
  have : a < s.data.toList.length := by simpa using h
  rw [byt, List.getElem?_map, List.getElem?_eq_getElem this]; rfl
theorem byt_lt (s : ByteArray) (c : Nat) (h : c ∈ byt s) : c < 256 := by
  simp only [byt, List.mem_map] at h
  obtain ⟨x, _, rfl⟩ := h
  exact x.toNat_lt

end Go.Proofs.YtklenjmfalljgaaDoor

/- The walks of the scanner's other methods. -/
namespace Go.Proofs.YtklenjmfalljgaaDoor
open Go.RowKit
attribute [local go_sem] Go.World.cell?_alloc_some

theorem ScAt.c0 {w : World} {b : Nat} {s : ByteArray} {a : Nat} (h : ScAt w b s a) : w.cell? ⟨b, 0, none⟩ = some (.string s) := by unfold ScAt at h; simp [World.cell?, h]
theorem ScAt.c1 {w : World} {b : Nat} {s : ByteArray} {a : Nat} (h : ScAt w b s a) : w.cell? ⟨b, 1, none⟩ = some (.int .i64 a) := by unfold ScAt at h; simp [World.cell?, h]
theorem ScAt.f1 {w : World} {b : Nat} {s : ByteArray} {a : Nat} (h : ScAt w b s a) : w.frozen? ⟨b, 1, none⟩ = false := by unfold ScAt at h; simp [World.frozen?, h]
theorem ScAt.set {w : World} {b : Nat} {s : ByteArray} {a : Nat} (h : ScAt w b s a) (x : Nat) : ScAt (w.setCell ⟨b, 1, none⟩ (.int .i64 x)) b s x := by
  unfold ScAt at *; rw [heap_setCell_same w b 1 _ _ _ h]; rfl
theorem ScAt.like {w w' : World} {b : Nat} {s : ByteArray} {a : Nat} (h : ScAt w b s a) (hl : Like w' w) : ScAt w' b s a := by
  unfold ScAt at *; rw [hl.1]; exact h
theorem ScAt.lt {w : World} {b : Nat} {s : ByteArray} {a : Nat} (h : ScAt w b s a) : b < w.heap.size := (Array.getElem?_eq_some_iff.1 h).1

end Go.Proofs.YtklenjmfalljgaaDoor

/- The walk of the scanner's run. -/
namespace Go.Proofs.YtklenjmfalljgaaDoor
open Go.RowKit
attribute [local go_sem] Go.World.cell?_alloc_some

theorem ScAt.grown {w w' : World} {b : Nat} {s : ByteArray} {a : Nat} (h : ScAt w b s a) (hg : w.grownBy w' none) : ScAt w' b s a := by
  have hl := h.lt
  unfold ScAt at *; rw [hg.block b hl (by simp)]; exact h
theorem ScAt.setOther {w : World} {b g o : Nat} {v : Value} {s : ByteArray} {a : Nat} (h : ScAt w b s a) (hg : b ≠ g) : ScAt (w.setCell ⟨g, o, none⟩ v) b s a := by
  unfold ScAt at *; rw [Below.heap_setCell _ _ _ _ (by simpa using hg)]; exact h

end Go.Proofs.YtklenjmfalljgaaDoor
