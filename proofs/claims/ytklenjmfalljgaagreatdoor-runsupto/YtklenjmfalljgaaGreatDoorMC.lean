/- The texts Rfb Rfc Rfd Rfe Awk PureB Sch Sch2 Rff. -/
import Derived.Test.YtklenjmfalljgaaGreatDoorMB
import Derived.Deep.DeepCutAuto
import Derived.Deep.Cut
import Derived.Deep.AppendLies

/- The walk of the reference's Check. -/
namespace Go.Proofs.YtklenjmfalljgaaGreatDoor
open Go.RowKit
attribute [local go_sem] Go.World.cell?_alloc_some

def chkR (p : List (List Ins)) : Bool := decide (1 ≤ p.length) && (decide (p.length ≤ 4) && p.all fun c => decide (c.length ≤ 16) && c.all fun i => insR i c.length)
theorem chkR_eq (p : List (List Ins)) : chkR p = vProg p := by
  unfold chkR vProg vCode
  congr 2
  congr 1
  funext c
  congr 2
  funext i
  exact insR_eq i _ (by omega)

theorem all_split {α : Type} (l : List α) (f : α → Bool) (k : Nat) (hk : k < l.length) (h : f l[k] = false) : l.all f = false := by
  rw [List.all_eq_false]
  exact ⟨_, List.getElem_mem hk, by simp [h]⟩
theorem take_all {α : Type} (l : List α) (f : α → Bool) (k : Nat) (hk : k < l.length) (h : (l.take k).all f = true) (h2 : f l[k] = true) : (l.take (k + 1)).all f = true := by
  rw [List.take_succ_eq_append_getElem hk, List.all_append, h]; simp [h2]

set_option maxRecDepth 100000 in
set_option maxHeartbeats 4000000 in
theorem refcheck_m (p : List (List Ins)) (pv : Value) (w : World) (hP : ProgAt w pv p) (hp : p.length ≤ 1048576) (hpc : ∀ c ∈ p, c.length ≤ 1048576) :
    Calls Tryz.prog 32 #[pv] w fun e w' => e = .returned (.int .i64 (checkN p)) ∧ w.grownBy w' none := by
  have HP := hide hP
  have HPC := hide hpc
  obtain ⟨ao, cap, rfl⟩ := hP.form
  clear hP hpc
  have q0 : (p.length : Int) ≤ 1048576 := by omega
  have HN1 : Hid (chkR p = false → checkN p = 1) := fun e => by rw [chkR_eq] at e; unfold checkN; simp [e]
  have HN0 : Hid (chkR p = true → checkN p = 0) := fun e => by rw [chkR_eq] at e; unfold checkN; simp [e]
  by_cases hlen : 1 ≤ p.length ∧ p.length ≤ 4
  · have g1 : (1 : Int) ≤ p.length := by omega
    have g4 : (p.length : Int) ≤ 4 := by omega
    have HCK : Hid (∀ r, (p.all fun c => decide (c.length ≤ 16) && c.all fun i => insR i c.length) = r → chkR p = r) := fun r e => by unfold chkR; rw [e]; simp [hlen.1, hlen.2]
    go_enter Tryz.func32, Tryz.ntmps32
    go_wp2_with fail
    have hg1 : w.grownBy (w.alloc (.cells #[.slice ao p.length cap] 24)) none := grown_alloc (grown_refl _ _)
    have hB1 := heap_alloc_new w (.cells #[.slice ao p.length cap] 24)
    generalize w.alloc (.cells #[.slice ao p.length cap] 24) = w1 at hg1 hB1 ⊢
    have HB1 := hide hB1
    have HG1 := hide hg1
    have hbx : w.heap.size < w1.heap.size := (Array.getElem?_eq_some_iff.1 hB1).1
    clear hg1 hB1
    go_loopw [3] (fun i w' => ∃ t : Nat, t ≤ p.length ∧ i = .int .i64 t ∧ Hid (w1.grownBy w' none) ∧ Hid ((p.take t).all (fun c => decide (c.length ≤ 16) && c.all fun i => insR i c.length) = true)) (fun i _ => p.length - (intOf i).toNat)
    case atStart => exact ⟨0, Nat.zero_le _, rfl, hide (grown_refl _ _), by simp [Hid]⟩
    case round =>
      obtain ⟨t, ht, rfl, HG, HA⟩ := hrel
      obtain ⟨w5, hw5⟩ : ∃ w5, w5 = wr := ⟨_, rfl⟩
      rw [← hw5] at HG ⊢
      clear hw5
      have c0 : w5.cell? ⟨w.heap.size, 0, none⟩ = some (.slice ao p.length cap) := pres_grown HG.out _ _ (by have := HB1.out; simp [World.cell?, this])
      by_cases hlt : t < p.length
      · obtain ⟨ao', cap', e1, hcell⟩ := HP.out
        obtain ⟨pg, po, e2, rv, r1, r2⟩ := hcell t hlt
        simp only [Value.agg.injEq, Array.mk.injEq, List.cons.injEq, Value.slice.injEq, and_true, true_and] at e1
        obtain ⟨e1, e1'⟩ := e1
        subst e1 e1' e2
        have hpl : p[t].length ≤ 1048576 := HPC.out _ (List.getElem_mem hlt)
        obtain ⟨ca, cc, rfl, hci⟩ := r2
        have d0 : w5.cell? ⟨pg, po + t, none⟩ = some (.slice ca p[t].length cc) := pres_grown (grown_trans HG1.out HG.out) _ _ r1
        have HF : Hid (∀ r, (decide (p[t].length ≤ 16) && p[t].all fun i => insR i p[t].length) = r → (r = false → (p.all fun c => decide (c.length ≤ 16) && c.all fun i => insR i c.length) = false) ∧ (r = true → (p.take (t + 1)).all (fun c => decide (c.length ≤ 16) && c.all fun i => insR i c.length) = true)) := fun r e =>
          ⟨fun e2 => all_split p _ t hlt (by rw [e, e2]), fun e2 => take_all p _ t hlt HA.out (by rw [e, e2])⟩
        have HD0 := hide r1
        have HCI := hide hci
        clear hcell r1 hci
        generalize p[t] = c at *
        have t0 : (0 : Int) ≤ (t : Int) := by omega
        have t1 : (t : Int) < p.length := by omega
        have t2 : (c.length : Int) ≤ 1048576 := by omega
        by_cases h16 : c.length ≤ 16
        · have t3 : (c.length : Int) ≤ 16 := by omega
          go_wp2_with fail
          go_loopw [5] (fun i w' => ∃ k : Nat, k ≤ c.length ∧ i = .int .i64 k ∧ Hid (w1.grownBy w' none) ∧ Hid ((c.take k).all (fun i => insR i c.length) = true)) (fun i _ => c.length - (intOf i).toNat)
          case atStart => exact ⟨0, Nat.zero_le _, rfl, HG, by simp [Hid]⟩
          case round =>
            clear c0 d0 HG
            obtain ⟨k, hk, rfl, HG, HA2⟩ := hrel
            obtain ⟨w7, hw7⟩ : ∃ w7, w7 = wr := ⟨_, rfl⟩
            rw [← hw7] at HG ⊢
            clear hw7
            by_cases hkl : k < c.length
            · obtain ⟨ig, io, rfl, x1, x2, x3, x4⟩ := HCI.out k hkl
              have hGW := grown_trans HG1.out HG.out
              have c0 : w7.cell? ⟨w.heap.size, 0, none⟩ = some (.slice (some ⟨pg, po, none⟩) p.length cap) := pres_grown HG.out _ _ (by have := HB1.out; simp [World.cell?, this])
              have d0 : w7.cell? ⟨pg, po + t, none⟩ = some (.slice (some ⟨ig, io, none⟩) c.length cc) := pres_grown hGW _ _ HD0.out
              have y1 := pres_grown hGW _ _ x1
              have y2 := pres_grown hGW _ _ x2
              have y3 := pres_grown hGW _ _ x3
              have y4 := pres_grown hGW _ _ x4
              have HF2 : Hid (∀ r, insR c[k] c.length = r → (r = false → (c.all fun i => insR i c.length) = false) ∧ (r = true → (c.take (k + 1)).all (fun i => insR i c.length) = true)) := fun r e =>
                ⟨fun e2 => all_split c _ k hkl (by rw [e, e2]), fun e2 => take_all c _ k hkl HA2.out (by rw [e, e2])⟩
              clear x1 x2 x3 x4 hGW
              generalize c[k] = ins at *
              obtain ⟨op, ia, ib, im⟩ := ins
              simp only at y1 y2 y3 y4
              have s0 : (0 : Int) ≤ (k : Int) := by omega
              have s1 : (k : Int) < c.length := by omega
              go_wp2_with fail
              have hg8 : w7.grownBy (w7.alloc (.cells #[.int .i64 op, .int .i64 ia, .int .i64 ib, .int .i64 im] 74)) none := grown_alloc (grown_refl _ _)
              have hb8 := heap_alloc_new w7 (.cells #[.int .i64 op, .int .i64 ia, .int .i64 ib, .int .i64 im] 74)
              generalize w7.alloc (.cells #[.int .i64 op, .int .i64 ia, .int .i64 ib, .int .i64 im] 74) = w8 at hg8 hb8 ⊢
              have z1 : w8.cell? ⟨w7.heap.size, 1, none⟩ = some (.int .i64 ia) := by simp [World.cell?, hb8]
              have z2 : w8.cell? ⟨w7.heap.size, 2, none⟩ = some (.int .i64 ib) := by simp [World.cell?, hb8]
              have z3 : w8.cell? ⟨w7.heap.size, 3, none⟩ = some (.int .i64 im) := by simp [World.cell?, hb8]
              have HG8 := hide (grown_trans HG.out hg8)
              clear hg8 hb8 y1 y2 y3 y4 d0 c0 HG
              refine (shape_m op w8).mono ?_
              rintro e w9 ⟨rfl, hw9⟩
              have hw9 := hw9.symm
              subst hw9
              have HIR : Hid (∀ r, (!decide ((shapeR op).1 < 0) && belowR ia (shapeR op).1 && belowR ib (shapeR op).2.1 && placeR (shapeR op).2.2 im c.length) = r → insR ⟨op, ia, ib, im⟩ c.length = r) := fun r e => e
              have hc3 : (shapeR op).2.2 = 0 ∨ (shapeR op).2.2 = 1 ∨ (shapeR op).2.2 = 2 := by
                unfold shapeR; repeat' split
                all_goals simp
              have ha0 : (shapeR op).1 = -1 ∨ 0 ≤ (shapeR op).1 := by
                unfold shapeR; repeat' split
                all_goals simp
              unfold shapeV
              generalize shapeR op = sr at *
              obtain ⟨sa, sb, sc⟩ := sr
              simp only at HIR hc3 ha0 ⊢
              go_wp2_with fail
              refine (rbelow_m ia sa w8).mono ?_
              rintro e w9 ⟨rfl, hw9⟩
              have hw9 := hw9.symm
              subst hw9
              go_wp2_with fail
              refine (rbelow_m ib sb w8).mono ?_
              rintro e w9 ⟨rfl, hw9⟩
              have hw9 := hw9.symm
              subst hw9
              generalize belowR ia sa = xb at *
              generalize belowR ib sb = yb at *
              have HPL : Hid (∀ r, placeR sc im c.length = r → insR ⟨op, ia, ib, im⟩ c.length = (!decide (sa < 0) && xb && yb && r)) := fun r e => HIR.out _ (by rw [e])
              clear HIR
              go_upto_region 16 with fail
              go_cut [12] (fun zv w' => zv = .bool (placeR sc im c.length) ∧ w' = w8)
              case first =>
                by_cases him : im = 0
                · have hpl2 : placeR sc im c.length = true := by unfold placeR; simp [him]
                  have him' : (im == 0) = true := by simpa using him
                  rcases hc3 with rfl | rfl | rfl
                  all_goals
                    go_wp2_with fail
                    go_meet
                    exact ⟨by rw [hpl2], rfl⟩
                · have him' : (im == 0) = false := by simpa using him
                  rcases hc3 with rfl | rfl | rfl
                  · have hpl2 : placeR 0 im c.length = false := by unfold placeR; simp [him]
                    go_wp2_with fail
                    go_meet
                    exact ⟨by rw [hpl2], rfl⟩
                  · have hpl2 : placeR 1 im c.length = true := by unfold placeR; simp
                    go_wp2_with fail
                    go_meet
                    exact ⟨by rw [hpl2], rfl⟩
                  · by_cases hip : 0 < im
                    · by_cases hic : im ≤ (c.length : Int)
                      · have hpl2 : placeR 2 im c.length = true := by unfold placeR; simp [hip, hic]
                        go_wp2_with fail
                        go_meet
                        exact ⟨by rw [hpl2], rfl⟩
                      · have hpl2 : placeR 2 im c.length = false := by unfold placeR; simp [him, hic]
                        have hic' : (c.length : Int) < im := by omega
                        go_wp2_with fail
                        go_meet
                        exact ⟨by rw [hpl2], rfl⟩
                    · have hpl2 : placeR 2 im c.length = false := by unfold placeR; simp [him, hip]
                      have hip' : im ≤ 0 := by omega
                      go_wp2_with fail
                      go_meet
                      exact ⟨by rw [hpl2], rfl⟩
              case rest =>
              obtain ⟨rfl, hwc⟩ := hcut
              have hwc2 := hwc.symm
              subst hwc2
              generalize placeR sc im c.length = zb at *
              have HIN := hide (HPL.out zb rfl)
              clear HPL z1 z2 z3 hc3
              go_upto_region 17 with fail
              go_cut [101] (fun bv w' => bv = .bool (!insR ⟨op, ia, ib, im⟩ c.length) ∧ w' = w8)
              case first =>
                rcases ha0 with rfl | ha0
                · have hin : insR ⟨op, ia, ib, im⟩ c.length = false := by rw [HIN.out]; simp
                  go_wp2_with fail
                  go_meet
                  exact ⟨by rw [hin]; rfl, rfl⟩
                · have hna : ¬ sa < 0 := by omega
                  have hin : insR ⟨op, ia, ib, im⟩ c.length = (xb && yb && zb) := by rw [HIN.out]; simp [hna]
                  cases xb <;> cases yb <;> cases zb
                  all_goals
                    go_wp2_with fail
                    go_meet
                    exact ⟨by rw [hin]; rfl, rfl⟩
              case rest =>
              obtain ⟨rfl, hwc⟩ := hcut
              have hwc2 := hwc.symm
              subst hwc2
              clear HIN ha0
              have HFx := hide (HF2.out (insR ⟨op, ia, ib, im⟩ c.length) rfl)
              clear HF2
              generalize insR ⟨op, ia, ib, im⟩ c.length = rb at *
              cases rb
              · have HE : Hid (checkN p = 1) := by
                  refine HN1.out (HCK.out _ ?_)
                  refine (HF.out _ rfl).1 ?_
                  rw [HFx.out.1 rfl]; simp
                go_wp2_with fail
                go_ret
                exact ⟨by rw [HE.out]; rfl, grown_trans HG1.out HG8.out⟩
              · have HA3 := hide (HFx.out.2 rfl)
                go_wp2_with fail
                go_roundw
                case rel => exact ⟨k + 1, by omega, by go_num, HG8, HA3⟩
                case measure => simp [intOf]; omega
            · have s1 : (c.length : Int) ≤ (k : Int) := by omega
              have HA4 : Hid ((p.take (t + 1)).all (fun c => decide (c.length ≤ 16) && c.all fun i => insR i c.length) = true) := by
                refine (HF.out _ rfl).2 ?_
                have := HA2.out
                rw [List.take_of_length_le (by omega)] at this
                rw [this]; simp [h16]
              go_wp2_with fail
              go_roundw
              case rel => exact ⟨t + 1, by omega, by go_num, HG, HA4⟩
              case measure => simp [intOf]; omega
        · have t3 : (16 : Int) < c.length := by omega
          have HE : Hid (checkN p = 1) := by
            refine HN1.out (HCK.out _ ?_)
            refine (HF.out _ rfl).1 ?_
            simp [h16]
          go_wp2_with fail
          go_ret
          exact ⟨by rw [HE.out]; rfl, grown_trans HG1.out HG.out⟩
      · have t1 : (p.length : Int) ≤ (t : Int) := by omega
        have HE : Hid (checkN p = 0) := by
          refine HN0.out (HCK.out _ ?_)
          have := HA.out
          rw [List.take_of_length_le (by omega)] at this
          exact this
        go_wp2_with fail
        go_ret
        exact ⟨by rw [HE.out]; rfl, grown_trans HG1.out HG.out⟩
  · have HE : Hid (checkN p = 1) := HN1.out (by
      unfold chkR
      by_cases h1 : 1 ≤ p.length
      · have h4 : ¬ p.length ≤ 4 := by omega
        simp [h4]
      · simp [h1])
    by_cases h1 : p.length < 1
    · have g1 : (p.length : Int) < 1 := by omega
      go_enter Tryz.func32, Tryz.ntmps32
      go_wp2_with fail
      go_ret
      exact ⟨by rw [HE.out]; rfl, grown_alloc (grown_refl _ _)⟩
    · have g1 : (1 : Int) ≤ p.length := by omega
      have g4 : (4 : Int) < p.length := by omega
      go_enter Tryz.func32, Tryz.ntmps32
      go_wp2_with fail
      go_ret
      exact ⟨by rw [HE.out]; rfl, grown_alloc (grown_refl _ _)⟩

end Go.Proofs.YtklenjmfalljgaaGreatDoor

/- The reference's run: done, ready, reckon, said of cells. -/
namespace Go.Proofs.YtklenjmfalljgaaGreatDoor
open Go.RowKit
attribute [local go_sem] Go.World.cell?_alloc_some

set_option maxHeartbeats 400000 in
theorem rdone_m (b ab n cap c2 g o t len c : Nat) (ao : Option Addr) (x : Int) (w : World) (ht : t < n) (ht4 : t < 4) (hlen : len ≤ 16)
    (hp : w.cell? ⟨b, 0, none⟩ = some (.slice (some ⟨g, o, none⟩) n cap)) (ha : w.cell? ⟨b, 1, none⟩ = some (.slice (some ⟨ab, 0, none⟩) n c2))
    (hr : w.cell? ⟨g, o + t, none⟩ = some (.slice ao len c)) (hx : w.cell? ⟨ab, t, none⟩ = some (.int .i64 x)) :
    Calls Tryz.prog 82 #[.pointer (some ⟨b, 0, none⟩), .int .i64 t] w fun e w' => e = .returned (.bool (decide ((len : Int) ≤ x))) ∧ Like w' w := by
  have h1 : (0 : Int) ≤ (t : Int) := by omega
  have h2 : (t : Int) < 4 := by omega
  have h3 : (t : Int) < n := by omega
  have h4 : (len : Int) ≤ 16 := by omega
  go_enter Tryz.func82, Tryz.ntmps82
  go_wp2
  go_region
  all_goals (go_wp2; go_ret; exact ⟨rfl, rfl, rfl, rfl, rfl⟩)

set_option maxHeartbeats 400000 in
theorem rready_done (b ab n cap c2 g o t len c : Nat) (ao : Option Addr) (x : Int) (w : World) (ht : t < n) (ht4 : t < 4) (hlen : len ≤ 16) (hd : (len : Int) ≤ x)
    (hp : w.cell? ⟨b, 0, none⟩ = some (.slice (some ⟨g, o, none⟩) n cap)) (ha : w.cell? ⟨b, 1, none⟩ = some (.slice (some ⟨ab, 0, none⟩) n c2))
    (hr : w.cell? ⟨g, o + t, none⟩ = some (.slice ao len c)) (hx : w.cell? ⟨ab, t, none⟩ = some (.int .i64 x)) :
    Calls Tryz.prog 80 #[.pointer (some ⟨b, 0, none⟩), .int .i64 t] w fun e w' => e = .returned (.bool false) ∧ w.grownBy w' none := by
  go_enter Tryz.func80, Tryz.ntmps80
  go_wp2_with fail
  refine (rdone_m b ab n cap c2 g o t len c ao x w ht ht4 hlen hp ha hr hx).mono ?_
  rintro e w' ⟨rfl, hl⟩
  simp only [hd, decide_true]
  go_wp2
  go_ret
  exact ⟨rfl, grown_like (grown_refl _ _) hl⟩

set_option maxHeartbeats 4000000 in
theorem rready_m (b ab n cap c2 g o t len c h ho k : Nat) (i : Ins) (ow : Int) (w : World) (ht : t < n) (ht4 : t < 4) (hlen : len ≤ 16) (hk : k < len)
    (ha0 : 0 ≤ i.a) (ha4 : i.op = 9 → i.a < 3)
    (hp : w.cell? ⟨b, 0, none⟩ = some (.slice (some ⟨g, o, none⟩) n cap)) (ha : w.cell? ⟨b, 1, none⟩ = some (.slice (some ⟨ab, 0, none⟩) n c2))
    (hr : w.cell? ⟨g, o + t, none⟩ = some (.slice (some ⟨h, ho, none⟩) len c)) (hx : w.cell? ⟨ab, t, none⟩ = some (.int .i64 k))
    (y1 : w.cell? ⟨h, ho + k * 4, none⟩ = some (.int .i64 i.op)) (y2 : w.cell? ⟨h, ho + k * 4 + 1, none⟩ = some (.int .i64 i.a))
    (y3 : w.cell? ⟨h, ho + k * 4 + 2, none⟩ = some (.int .i64 i.b)) (y4 : w.cell? ⟨h, ho + k * 4 + 3, none⟩ = some (.int .i64 i.n))
    (_hb : b < w.heap.size) (hown : i.op = 9 → w.cell? ⟨b, 7 + i.a.toNat, none⟩ = some (.int .i64 ow)) :
    Calls Tryz.prog 80 #[.pointer (some ⟨b, 0, none⟩), .int .i64 t] w fun e w' => e = .returned (.bool (!(i.op == 9) || decide (ow < 0))) ∧ w.grownBy w' none := by
  obtain ⟨op, a, ib, im⟩ := i
  simp only at *
  have h1 : (0 : Int) ≤ (t : Int) := by omega
  have h2 : (t : Int) < 4 := by omega
  have h3 : (t : Int) < n := by omega
  have h4 : (0 : Int) ≤ (k : Int) := by omega
  have h5 : (k : Int) < len := by omega
  have hne : decide ((len : Int) ≤ (k : Int)) = false := by simp; omega
  go_enter Tryz.func80, Tryz.ntmps80
  go_wp2_with fail
  refine (rdone_m b ab n cap c2 g o t len c _ k w ht ht4 hlen hp ha hr hx).mono ?_
  rintro e w1 ⟨rfl, hl⟩
  have hg1 : w.grownBy w1 none := grown_like (grown_refl _ _) hl
  have HG := hide hg1
  simp only [hne]
  replace hp := pres_grown hg1 _ _ hp
  replace ha := pres_grown hg1 _ _ ha
  replace hr := pres_grown hg1 _ _ hr
  replace hx := pres_grown hg1 _ _ hx
  replace y1 := pres_grown hg1 _ _ y1
  replace y2 := pres_grown hg1 _ _ y2
  replace y3 := pres_grown hg1 _ _ y3
  replace y4 := pres_grown hg1 _ _ y4
  replace hown : Hid (op = 9 → w1.cell? ⟨b, 7 + a.toNat, none⟩ = some (.int .i64 ow)) := fun e => pres_grown hg1 _ _ (hown e)
  clear hg1 hl
  have n1 := World.new_ne w1 _ hp
  have n2 := World.new_ne w1 _ hr
  have n3 := World.new_ne w1 _ hx
  have n4 := World.new_ne w1 _ y1
  simp only at n1 n2 n3 n4
  have m1 := Ne.symm n1
  have m2 := Ne.symm n2
  have m3 := Ne.symm n3
  have m4 := Ne.symm n4
  by_cases h9 : op = 9
  · subst h9
    have hown := hown.out rfl
    have ha3 := ha4 rfl
    obtain ⟨l, rfl⟩ : ∃ l : Nat, a = l := ⟨a.toNat, by omega⟩
    simp only [Int.toNat_natCast] at hown
    have h6 : (l : Int) < 3 := by omega
    clear ha4
    go_wp2
    go_region
    go_wp2
    go_quiet (fail)
    go_wp2
    go_ret
    exact ⟨by simp, grown_drewN _ (grown_drew (grown_alloc HG.out))⟩
  · have h9' : (op != 9) = true := by simpa using h9
    have h9'' : (op == 9) = false := by simpa using h9
    clear ha4 h9
    go_wp2
    go_region
    go_wp2
    go_quiet (fail)
    go_wp2
    go_ret
    exact ⟨by simp [h9''], grown_drewN _ (grown_drew (grown_alloc HG.out))⟩

def reckonR (op a b : Int) : Int × Bool :=
  if op = 4 then (wrap64 (a + b), true) else if op = 5 then (wrap64 (a - b), true) else if op = 6 then (wrap64 (a * b), true) else if b = 0 then (a, false) else (wrap64 (a.tdiv b), true)

set_option maxHeartbeats 4000000 in
theorem reckon_m (op a b : Int) (w : World) (h : op = 4 ∨ op = 5 ∨ op = 6 ∨ op = 7) :
    Calls Tryz.prog 114 #[.int .i64 op, .int .i64 a, .int .i64 b] w fun e w' => e = .returned (.tuple #[.int .i64 (reckonR op a b).1, .bool (reckonR op a b).2]) ∧ w' = w := by
  rcases h with rfl | rfl | rfl | rfl
  · go_enter Tryz.func114, Tryz.ntmps114
    go_wp2_with fail
    refine bodyPost_ret (v := .tuple #[.int .i64 (wrap64 (a + b)), .bool true]) (by simp [results, Tryz.results114, go_sem]) rfl ⟨rfl, rfl⟩
  · go_enter Tryz.func114, Tryz.ntmps114
    go_wp2_with fail
    refine bodyPost_ret (v := .tuple #[.int .i64 (wrap64 (a - b)), .bool true]) (by simp [results, Tryz.results114, go_sem]) rfl ⟨rfl, rfl⟩
  · go_enter Tryz.func114, Tryz.ntmps114
    go_wp2_with fail
    refine bodyPost_ret (v := .tuple #[.int .i64 (wrap64 (a * b)), .bool true]) (by simp [results, Tryz.results114, go_sem]) rfl ⟨rfl, rfl⟩
  · have HR : Hid (reckonR 7 a b = if b = 0 then (a, false) else (wrap64 (a.tdiv b), true)) := by unfold Hid reckonR; simp
    by_cases h0 : b = 0
    · subst h0
      go_enter Tryz.func114, Tryz.ntmps114
      go_wp2_with fail
      refine bodyPost_ret (v := .tuple #[.int .i64 a, .bool false]) (by simp [results, Tryz.results114, go_sem]) rfl ⟨by rw [HR.out]; rfl, rfl⟩
    · have h0' : (b == 0) = false := by simpa using h0
      by_cases hm : b = -1
      · subst hm
        have HT : Hid (a.tdiv (-1) = -a) := by unfold Hid; simp
        go_enter Tryz.func114, Tryz.ntmps114
        go_wp2_with fail
        refine bodyPost_ret (v := .tuple #[.int .i64 (wrap64 (-a)), .bool true]) (by simp [results, Tryz.results114, go_sem]) rfl ⟨by rw [HR.out, if_neg h0, HT.out], rfl⟩
      · have hm' : (b == -1) = false := by simpa using hm
        go_enter Tryz.func114, Tryz.ntmps114
        go_wp2_with fail
        refine bodyPost_ret (v := .tuple #[.int .i64 (wrap64 (a.tdiv b)), .bool true]) (by simp [results, Tryz.results114, go_sem]) rfl ⟨by rw [HR.out, if_neg h0], rfl⟩

end Go.Proofs.YtklenjmfalljgaaGreatDoor

/- The reference's run in memory; the beginning of its step. -/
namespace Go.Proofs.YtklenjmfalljgaaGreatDoor
open Go.RowKit
attribute [local go_sem] Go.World.cell?_alloc_some

def ownR (s : St) (l : Nat) : Int := if s.held l = true then s.own l else -1
def atF (n : Nat) (s : St) : List Value := (List.range n).map fun t => .int .i64 (s.next t)

def runC (ps : Value) (ab rb n : Nat) (st : Value) (s : St) (k th a : Int) : Array Value :=
  #[ps, .slice (some ⟨ab, 0, none⟩) n n, .slice (some ⟨rb, 0, none⟩) n n, .int .i64 (s.vars 0), .int .i64 (s.vars 1), .int .i64 (s.vars 2), .int .i64 (s.vars 3),
    .int .i64 (ownR s 0), .int .i64 (ownR s 1), .int .i64 (ownR s 2), st, .int .i64 k, .int .i64 th, .int .i64 a]

/-- The reference's run, in memory. -/
structure RunAt (w0 w : World) (b ab rb n : Nat) (ps st : Value) (s : St) (acc : List (Int × Int)) (k th a : Int) : Prop where
  main : w.heap[b]? = some (.cells (runC ps ab rb n st s k th a) 126 (0, 0))
  ats : ∃ ty, w.heap[ab]? = some (.cells (atF n s).toArray ty (0, 0))
  regs : w.heap[rb]? = some (.cells (regsF n s).toArray 29 (0, 0))
  row : w.ownsRow (b + 1) 84 2 st acc.length (flatS acc)
  frame : w0.grownBy w none
  ab0 : w0.heap.size ≤ ab
  rb0 : w0.heap.size ≤ rb
  abb : ab < b
  rbb : rb < b
  ne : ab ≠ rb

theorem lt_n4 {n t : Nat} (hn : n ≤ 4) (h : t < n) : (n = 1 ∧ t = 0) ∨ (n = 2 ∧ t = 0) ∨ (n = 2 ∧ t = 1) ∨ (n = 3 ∧ t = 0) ∨ (n = 3 ∧ t = 1) ∨ (n = 3 ∧ t = 2) ∨ (n = 4 ∧ t = 0) ∨ (n = 4 ∧ t = 1) ∨ (n = 4 ∧ t = 2) ∨ (n = 4 ∧ t = 3) := by omega

theorem atF_set (s : St) {n t : Nat} (hn : n ≤ 4) (h : t < n) (v : Int) : (atF n s).toArray.setIfInBounds t (.int .i64 v) = (atF n (s.setNext t v)).toArray := by
  rcases lt_n4 hn h with ⟨rfl, rfl⟩ | ⟨rfl, rfl⟩ | ⟨rfl, rfl⟩ | ⟨rfl, rfl⟩ | ⟨rfl, rfl⟩ | ⟨rfl, rfl⟩ | ⟨rfl, rfl⟩ | ⟨rfl, rfl⟩ | ⟨rfl, rfl⟩ | ⟨rfl, rfl⟩ <;> rfl
theorem regsF_set (s : St) {n t r : Nat} (hn : n ≤ 4) (h : t < n) (hr : r < 4) (v : Int) : (regsF n s).toArray.setIfInBounds (t * 4 + r) (.int .i64 v) = (regsF n (s.setReg t r v)).toArray := by
  rcases lt_n4 hn h with ⟨rfl, rfl⟩ | ⟨rfl, rfl⟩ | ⟨rfl, rfl⟩ | ⟨rfl, rfl⟩ | ⟨rfl, rfl⟩ | ⟨rfl, rfl⟩ | ⟨rfl, rfl⟩ | ⟨rfl, rfl⟩ | ⟨rfl, rfl⟩ | ⟨rfl, rfl⟩ <;> rcases lt4 hr with rfl | rfl | rfl | rfl <;> rfl

theorem RunAt.cell {w0 w : World} {b ab rb n : Nat} {ps st : Value} {s : St} {acc : List (Int × Int)} {k th a : Int} (h : RunAt w0 w b ab rb n ps st s acc k th a) (j : Nat) :
    w.cell? ⟨b, j, none⟩ = (runC ps ab rb n st s k th a)[j]? ∧ w.frozen? ⟨b, j, none⟩ = false := by
  simp [World.cell?, World.frozen?, h.main]
theorem RunAt.at_ {w0 w : World} {b ab rb n : Nat} {ps st : Value} {s : St} {acc : List (Int × Int)} {k th a : Int} (h : RunAt w0 w b ab rb n ps st s acc k th a) {t : Nat} (ht : t < n) :
    w.cell? ⟨ab, t, none⟩ = some (.int .i64 (s.next t)) ∧ w.frozen? ⟨ab, t, none⟩ = false := by
  obtain ⟨ty, h⟩ := h.ats
  constructor
  · simp [World.cell?, h, atF, ht]
  · simp [World.frozen?, h]
theorem RunAt.reg {w0 w : World} {b ab rb n : Nat} {ps st : Value} {s : St} {acc : List (Int × Int)} {k th a : Int} (h : RunAt w0 w b ab rb n ps st s acc k th a) (hn : n ≤ 4) {t r : Nat} (ht : t < n) (hr : r < 4) :
    w.cell? ⟨rb, t * 4 + r, none⟩ = some (.int .i64 (s.regs t r)) ∧ w.frozen? ⟨rb, t * 4 + r, none⟩ = false := by
  have h := h.regs
  constructor
  · simp only [World.cell?, h]
    rcases lt_n4 hn ht with ⟨rfl, rfl⟩ | ⟨rfl, rfl⟩ | ⟨rfl, rfl⟩ | ⟨rfl, rfl⟩ | ⟨rfl, rfl⟩ | ⟨rfl, rfl⟩ | ⟨rfl, rfl⟩ | ⟨rfl, rfl⟩ | ⟨rfl, rfl⟩ | ⟨rfl, rfl⟩ <;> rcases lt4 hr with rfl | rfl | rfl | rfl <;> rfl
  · simp [World.frozen?, h]

/-- Growth that leaves the run's blocks. -/
theorem RunAt.grown {w0 w w' : World} {b ab rb n : Nat} {ps st : Value} {s : St} {acc : List (Int × Int)} {k th a : Int} (h : RunAt w0 w b ab rb n ps st s acc k th a) (hg : w.grownBy w' none) : RunAt w0 w' b ab rb n ps st s acc k th a := by
  obtain ⟨t1, h1⟩ := h.ats
  have h2 := h.regs
  have B : ∀ i o, w.heap[i]? = some o → w'.heap[i]? = some o := fun i o e => by rw [hg.block i (Array.getElem?_eq_some_iff.1 e).1 (by simp)]; exact e
  exact ⟨B _ _ h.main, ⟨t1, B _ _ h1⟩, B _ _ h2, owns_grown h.row hg (fun _ e => by cases e), grown_trans h.frame hg, h.ab0, h.rb0, h.abb, h.rbb, h.ne⟩

theorem RunAt.setNext {w0 w : World} {b ab rb n : Nat} {ps st : Value} {s : St} {acc : List (Int × Int)} {k th a : Int} (h : RunAt w0 w b ab rb n ps st s acc k th a) (hn : n ≤ 4) {t : Nat} (ht : t < n) (v : Int) :
    RunAt w0 (w.setCell ⟨ab, t, none⟩ (.int .i64 v)) b ab rb n ps st (s.setNext t v) acc k th a := by
  obtain ⟨t1, h1⟩ := h.ats
  have h2 := h.regs
  have := h.abb
  refine ⟨?_, ⟨t1, ?_⟩, ?_, ownsRow_setCell_below h.row (by simp; omega) _, grown_setNew h.frame h.ab0, h.ab0, h.rb0, h.abb, h.rbb, h.ne⟩
  · rw [Below.heap_setCell w _ _ b (by simp; omega)]; exact h.main
  · rw [heap_setCell_same w ab t _ _ _ h1, atF_set s hn ht]
  · rw [Below.heap_setCell w _ _ rb (by simp; exact fun e => h.ne e.symm)]; exact h2

theorem RunAt.setReg {w0 w : World} {b ab rb n : Nat} {ps st : Value} {s : St} {acc : List (Int × Int)} {k th a : Int} (h : RunAt w0 w b ab rb n ps st s acc k th a) (hn : n ≤ 4) {t r : Nat} (ht : t < n) (hr : r < 4) (v : Int) :
    RunAt w0 (w.setCell ⟨rb, t * 4 + r, none⟩ (.int .i64 v)) b ab rb n ps st (s.setReg t r v) acc k th a := by
  obtain ⟨t1, h1⟩ := h.ats
  have h2 := h.regs
  have := h.rbb
  refine ⟨?_, ⟨t1, ?_⟩, ?_, ownsRow_setCell_below h.row (by simp; omega) _, grown_setNew h.frame h.rb0, h.ab0, h.rb0, h.abb, h.rbb, h.ne⟩
  · rw [Below.heap_setCell w _ _ b (by simp; omega)]; exact h.main
  · rw [Below.heap_setCell w _ _ ab (by simp; exact h.ne)]; exact h1
  · rw [heap_setCell_same w rb _ _ _ _ h2, regsF_set s hn ht hr]

/-- A cell of the run's own block is set. -/
theorem RunAt.setMain {w0 w : World} {b ab rb n : Nat} {ps st st' : Value} {s s' : St} {acc acc' : List (Int × Int)} {k th a k' th' a' : Int} (h : RunAt w0 w b ab rb n ps st s acc k th a) {j : Nat} {v : Value}
    (e : (runC ps ab rb n st s k th a).setIfInBounds j v = runC ps ab rb n st' s' k' th' a') (e1 : s'.next = s.next) (e2 : s'.regs = s.regs) (hr : w.ownsRow (b + 1) 84 2 st' acc'.length (flatS acc')) :
    RunAt w0 (w.setCell ⟨b, j, none⟩ v) b ab rb n ps st' s' acc' k' th' a' := by
  obtain ⟨t1, h1⟩ := h.ats
  have h2 := h.regs
  have := h.abb
  have := h.rbb
  refine ⟨?_, ⟨t1, ?_⟩, ?_, ownsRow_setCell_below hr (by simp) _, grown_setNew h.frame (by have := h.ab0; omega), h.ab0, h.rb0, h.abb, h.rbb, h.ne⟩
  · rw [heap_setCell_same w b j _ _ _ h.main, e]
  · rw [Below.heap_setCell w _ _ ab (by simp; omega), h1]; simp [atF, e1]
  · rw [Below.heap_setCell w _ _ rb (by simp; omega), h2]; simp [regsF, e2]

theorem RunAt.setVar {w0 w : World} {b ab rb n : Nat} {ps st : Value} {s : St} {acc : List (Int × Int)} {k th a : Int} (h : RunAt w0 w b ab rb n ps st s acc k th a) {x : Nat} (hx : x < 4) (v : Int) :
    RunAt w0 (w.setCell ⟨b, 3 + x, none⟩ (.int .i64 v)) b ab rb n ps st (s.setVar x v) acc k th a := by
  refine h.setMain ?_ rfl rfl h.row
  rcases lt4 hx with rfl | rfl | rfl | rfl <;> rfl
theorem RunAt.setLock {w0 w : World} {b ab rb n : Nat} {ps st : Value} {s : St} {acc : List (Int × Int)} {k th a : Int} (h : RunAt w0 w b ab rb n ps st s acc k th a) {l : Nat} (hl : l < 3) (hd : Bool) (o : Int) :
    RunAt w0 (w.setCell ⟨b, 7 + l, none⟩ (.int .i64 (if hd = true then o else -1))) b ab rb n ps st (s.setLock l hd o) acc k th a := by
  refine h.setMain ?_ rfl rfl h.row
  rcases lt3 hl with rfl | rfl | rfl <;> rfl

theorem RunAt.like {w0 w w' : World} {b ab rb n : Nat} {ps st : Value} {s : St} {acc : List (Int × Int)} {k th a : Int} (h : RunAt w0 w b ab rb n ps st s acc k th a) (hl : Like w' w) : RunAt w0 w' b ab rb n ps st s acc k th a := h.grown (grown_like (grown_refl _ _) hl)
theorem RunAt.own {w0 w : World} {b ab rb n : Nat} {ps st : Value} {s : St} {acc : List (Int × Int)} {k th a : Int} (h : RunAt w0 w b ab rb n ps st s acc k th a) {l : Nat} (hl : l < 3) : w.cell? ⟨b, 7 + l, none⟩ = some (.int .i64 (ownR s l)) := by
  rw [(h.cell _).1]; rcases lt3 hl with rfl | rfl | rfl <;> rfl
theorem RunAt.var {w0 w : World} {b ab rb n : Nat} {ps st : Value} {s : St} {acc : List (Int × Int)} {k th a : Int} (h : RunAt w0 w b ab rb n ps st s acc k th a) {l : Nat} (hl : l < 4) : w.cell? ⟨b, 3 + l, none⟩ = some (.int .i64 (s.vars l)) := by
  rw [(h.cell _).1]; rcases lt4 hl with rfl | rfl | rfl | rfl <;> rfl
theorem setReg_self (s : St) (t r : Nat) : s.setReg t r (s.regs t r) = s := by
  obtain ⟨a, b, c, d, e⟩ := s
  simp only [St.setReg, St.mk.injEq, true_and, and_true]
  funext t' r'
  by_cases h : t' = t ∧ r' = r
  · simp [h.1, h.2]
  · simp [h]

theorem owns_lt_size {w : World} {base : Nat} {e : TypeId} {size : Nat} {v : Value} {n : Nat} {xs : List Value} (h : w.ownsRow base e size v n xs) : v.ownBlock ≠ some w.heap.size := by
  rcases h.2 with ⟨e1, _⟩ | ⟨g', cap', cur, hv, hb, hh, _⟩
  · rw [e1]; simp [Value.ownBlock]
  · rw [hv]
    have := (Array.getElem?_eq_some_iff.1 hh).1
    simp [Value.ownBlock]
    omega

theorem RunAt.push {w0 w w5 : World} {b ab rb n : Nat} {ps st nst : Value} {s : St} {acc : List (Int × Int)} {k th a : Int} {x : Int × Int} (h : RunAt w0 w b ab rb n ps st s acc k th a)
    (hg : w.grownBy w5 st.ownBlock) (hown : w5.ownsRow (b + 1) 84 2 nst (acc.length + 1) (flatS acc ++ [.int .i64 x.1, .int .i64 x.2])) :
    RunAt w0 (w5.setCell ⟨b, 10, none⟩ nst) b ab rb n ps nst s (acc ++ [x]) k th a := by
  obtain ⟨t1, h1⟩ := h.ats
  have h2 := h.regs
  have e1 := h.abb
  have e2 := h.rbb
  have e3 := h.ab0
  have hob := owns_block h.row
  have B : ∀ i o, i ≤ b → w.heap[i]? = some o → w5.heap[i]? = some o := fun i o hi e => by
    rw [hg.block i (Array.getElem?_eq_some_iff.1 e).1 (fun e => by have := hob _ e.symm; omega)]; exact e
  refine ⟨?_, ⟨t1, ?_⟩, ?_, ownsRow_setCell_below ?_ (by simp) _, grown_setNew (grown_row h.frame hg (fun q e => by have := hob q e; omega)) (by omega), h.ab0, h.rb0, h.abb, h.rbb, h.ne⟩
  · rw [heap_setCell_same w5 b 10 _ _ _ (B _ _ (Nat.le_refl _) h.main)]; rfl
  · rw [Below.heap_setCell w5 _ _ ab (by simp; omega)]; exact B _ _ (by omega) h1
  · rw [Below.heap_setCell w5 _ _ rb (by simp; omega)]; exact B _ _ (by omega) h2
  · rw [flatS_snoc, List.length_append]; exact hown

set_option maxHeartbeats 4000000 in
set_option maxRecDepth 100000 in
theorem rstep_m (w0 w : World) (b ab rb n cap g o t len c h ho kk : Nat) (st : Value) (s : St) (acc : List (Int × Int)) (k th a : Int) (i : Ins) (hn : n ≤ 4) (ht : t < n) (hlen : len ≤ 16) (hk : kk < len) (hacc : acc.length < 500)
    (hR : RunAt w0 w b ab rb n (.slice (some ⟨g, o, none⟩) n cap) st s acc k th a) (hnx : s.next t = kk)
    (hr : w.cell? ⟨g, o + t, none⟩ = some (.slice (some ⟨h, ho, none⟩) len c))
    (y1 : w.cell? ⟨h, ho + kk * 4, none⟩ = some (.int .i64 i.op)) (y2 : w.cell? ⟨h, ho + kk * 4 + 1, none⟩ = some (.int .i64 i.a))
    (y3 : w.cell? ⟨h, ho + kk * 4 + 2, none⟩ = some (.int .i64 i.b)) (y4 : w.cell? ⟨h, ho + kk * 4 + 3, none⟩ = some (.int .i64 i.n)) (hv : vIns i len = true) (s' : St) (hs' : s' = s.setNext t (kk + 1)) (acc' : List (Int × Int)) (ha' : acc' = acc ++ [((t : Int), (kk : Int))]) :
    Calls Tryz.prog 81 #[.pointer (some ⟨b, 0, none⟩), .int .i64 t] w fun e w' => ∃ st', e = .returned (.bool (act t i s').1) ∧
      RunAt w0 w' b ab rb n (.slice (some ⟨g, o, none⟩) n cap) st' (act t i s').2 acc' k th a := by
  have HS := hide hs'
  have HAC := hide ha'
  clear hs' ha'
  obtain ⟨i0, hi0, hz0, hz1, hz2⟩ := info_parts info_step
  have HV := hide (vIns_say hv)
  clear hv
  obtain ⟨op, ia, ib, im⟩ := i
  simp only at *
  have h1 : (0 : Int) ≤ (t : Int) := by omega
  have h3 : (t : Int) < n := by omega
  have h4 : (0 : Int) ≤ (kk : Int) := by omega
  have h5 : (kk : Int) < len := by omega
  have p0 : w.cell? ⟨b, 0, none⟩ = some (.slice (some ⟨g, o, none⟩) n cap) := (hR.cell 0).1
  have p1 : w.cell? ⟨b, 1, none⟩ = some (.slice (some ⟨ab, 0, none⟩) n n) := (hR.cell 1).1
  have a1 : w.cell? ⟨ab, t, none⟩ = some (.int .i64 kk) := by rw [(hR.at_ ht).1, hnx]
  have HR := hide hR
  have HNX := hide hnx
  clear hR hnx
  have n1 := World.new_ne w _ p0
  have n2 := World.new_ne w _ hr
  have n3 := World.new_ne w _ a1
  have n4 := World.new_ne w _ y1
  simp only at n1 n2 n3 n4
  have m1 := Ne.symm n1
  have m2 := Ne.symm n2
  have m3 := Ne.symm n3
  have m4 := Ne.symm n4
  go_enter Tryz.func81, Tryz.ntmps81
  go_wp2
  go_region
  go_upto_region 2 with fail
  have hgI : w.grownBy (w.alloc (.cells #[.int .i64 op, .int .i64 ia, .int .i64 ib, .int .i64 im] 74)).drew none := grown_drew (grown_alloc (grown_refl _ _))
  have hbI : (w.alloc (.cells #[.int .i64 op, .int .i64 ia, .int .i64 ib, .int .i64 im] 74)).drew.heap[w.heap.size]? = some (.cells #[.int .i64 op, .int .i64 ia, .int .i64 ib, .int .i64 im] 74 (0, 0)) := heap_alloc_new w _
  generalize (w.alloc (.cells #[.int .i64 op, .int .i64 ia, .int .i64 ib, .int .i64 im] 74)).drew = w2 at hgI hbI ⊢
  have HR2 := hide (HR.out.grown hgI)
  have hbw : b < w.heap.size := (Array.getElem?_eq_some_iff.1 HR.out.main).1
  have hw2 : w.heap.size < w2.heap.size := (Array.getElem?_eq_some_iff.1 hbI).1
  have HBI := hide hbI
  have HNB : Hid (st.ownBlock ≠ some w.heap.size) := owns_lt_size HR.out.row
  clear hgI hbI p0 p1 a1 hr y1 y2 y3 y4 n1 n2 n3 n4 m1 m2 m3 m4 HR
  obtain ⟨s1, s2, s3, rfl⟩ := owns_form HR2.out.row
  have q1 : w2.cell? ⟨b, 10, none⟩ = some (.slice s1 s2 s3) := (HR2.out.cell 10).1
  have q2 : w2.cell? ⟨b, 1, none⟩ = some (.slice (some ⟨ab, 0, none⟩) n n) := (HR2.out.cell 1).1
  have q3 : w2.cell? ⟨ab, t, none⟩ = some (.int .i64 kk) := by rw [(HR2.out.at_ ht).1, HNX.out]
  refine wp_region_head (fun u => u.cell? ⟨b, 10, none⟩ = some (.slice s1 s2 s3) ∧ u.cell? ⟨b, 1, none⟩ = some (.slice (some ⟨ab, 0, none⟩) n n) ∧ u.cell? ⟨ab, t, none⟩ = some (.int .i64 kk)) 18 (by kernel_rfl) (by kernel_rfl) ?_ ?_
  · exact ⟨q1, q2, q3⟩
  intro hHeld
  refine wpHead_take (i := 0) (v := ?vv0) rfl (by kernel_rfl) (fun _ _ _ h => h) (Or.inl ⟨by rfl, ?hy0⟩) (by assumption) ?rest0
  case hy0 => (intro u hu; obtain ⟨g1, g2, g3⟩ := hu; go_simp; try with_reducible rfl)
  simp only [Act.put, List.setIfInBounds_toArray]
  refine wpHead_take (i := 1) (v := ?vv1) rfl (by kernel_rfl) (fun _ _ _ h => h) (Or.inl ⟨by rfl, ?hy1⟩) (by assumption) ?rest1
  case hy1 => (intro u hu; obtain ⟨g1, g2, g3⟩ := hu; go_simp; try with_reducible rfl)
  simp only [Act.put]
  refine wpHead_take (i := 2) (v := ?vv2) rfl (by kernel_rfl) (fun _ _ _ h => h) (Or.inl ⟨by rfl, ?hy2⟩) (by assumption) ?rest2
  case hy2 => (intro u hu; obtain ⟨g1, g2, g3⟩ := hu; go_simp; try with_reducible rfl)
  simp only [Act.put]
  refine wpHead_take (i := 3) (v := ?vv3) rfl (by kernel_rfl) (fun _ _ _ h => h) (Or.inl ⟨by rfl, ?hy3⟩) (by assumption) ?rest3
  case hy3 => (intro u hu; obtain ⟨g1, g2, g3⟩ := hu; go_simp; try with_reducible rfl)
  simp only [Act.put]
  refine wpHead_take (i := 4) (v := ?vv4) rfl (by kernel_rfl) (fun _ _ _ h => h) (Or.inl ⟨by rfl, ?hy4⟩) (by assumption) ?rest4
  case hy4 => (intro u hu; obtain ⟨g1, g2, g3⟩ := hu; go_simp; try with_reducible rfl)
  simp only [Act.put]
  refine wpHead_take (i := 5) (v := ?vv5) rfl (by kernel_rfl) (fun _ _ _ h => h) (Or.inl ⟨by rfl, ?hy5⟩) (by assumption) ?rest5
  case hy5 => (intro u hu; obtain ⟨g1, g2, g3⟩ := hu; go_simp; try with_reducible rfl)
  simp only [Act.put]
  refine wpHead_take (i := 6) (v := ?vv6) rfl (by kernel_rfl) (fun _ _ _ h => h) (Or.inl ⟨by rfl, ?hy6⟩) (by assumption) ?rest6
  case hy6 => (intro u hu; obtain ⟨g1, g2, g3⟩ := hu; go_simp; try with_reducible rfl)
  simp only [Act.put]
  refine wpHead_take (i := 7) (v := ?vv7) rfl (by kernel_rfl) (fun _ _ _ h => h) (Or.inl ⟨by rfl, ?hy7⟩) (by assumption) ?rest7
  case hy7 => (intro u hu; obtain ⟨g1, g2, g3⟩ := hu; go_simp; try with_reducible rfl)
  simp only [Act.put]
  refine wpHead_take (i := 8) (v := ?vv8) rfl (by kernel_rfl) (fun _ _ _ h => h) (Or.inl ⟨by rfl, ?hy8⟩) (by assumption) ?rest8
  case hy8 => (intro u hu; obtain ⟨g1, g2, g3⟩ := hu; go_simp; try with_reducible rfl)
  simp only [Act.put]
  refine wpHead_take (i := 9) (v := ?vv9) rfl (by kernel_rfl) (fun _ _ _ h => h) (Or.inl ⟨by rfl, ?hy9⟩) (by assumption) ?rest9
  case hy9 => (intro u hu; obtain ⟨g1, g2, g3⟩ := hu; go_simp; try with_reducible rfl)
  simp only [Act.put]
  refine wpHead_take (i := 10) (v := ?vv10) rfl (by kernel_rfl) (fun _ _ _ h => h) (Or.inl ⟨by rfl, ?hy10⟩) (by assumption) ?rest10
  case hy10 => (intro u hu; obtain ⟨g1, g2, g3⟩ := hu; go_simp; try with_reducible rfl)
  simp only [Act.put]
  refine wpHead_take (i := 11) (v := ?vv11) rfl (by kernel_rfl) (fun _ _ _ h => h) (Or.inl ⟨by rfl, ?hy11⟩) (by assumption) ?rest11
  case hy11 => (intro u hu; obtain ⟨g1, g2, g3⟩ := hu; go_simp; try with_reducible rfl)
  simp only [Act.put]
  refine wpHead_take (i := 12) (v := ?vv12) rfl (by kernel_rfl) (fun _ _ _ h => h) (Or.inl ⟨by rfl, ?hy12⟩) (by assumption) ?rest12
  case hy12 => (intro u hu; obtain ⟨g1, g2, g3⟩ := hu; go_simp; try with_reducible rfl)
  simp only [Act.put]
  refine wpHead_take (i := 13) (v := ?vv13) rfl (by kernel_rfl) (fun _ _ _ h => h) (Or.inl ⟨by rfl, ?hy13⟩) (by assumption) ?rest13
  case hy13 => (intro u hu; obtain ⟨g1, g2, g3⟩ := hu; go_simp; try with_reducible rfl)
  simp only [Act.put]
  refine wpHead_alone (i := 14) rfl (by kernel_rfl) (by kernel_rfl) (by rfl) ?_
  intro K15 hK15
  have HK15 := hide hK15
  clear hK15
  go_simp
  have hgA : w2.grownBy ((w2.alloc (.cells #[.int .i64 t, .int .i64 kk] 84)).drew) none := grown_drew (grown_alloc (grown_refl _ _))
  have hS5 : (w2.alloc (.cells #[.int .i64 t, .int .i64 kk] 84)).drew.cell? ⟨b, 10, none⟩ = some (.slice s1 s2 s3) ∧ (w2.alloc (.cells #[.int .i64 t, .int .i64 kk] 84)).drew.cell? ⟨b, 1, none⟩ = some (.slice (some ⟨ab, 0, none⟩) n n) ∧ (w2.alloc (.cells #[.int .i64 t, .int .i64 kk] 84)).drew.cell? ⟨ab, t, none⟩ = some (.int .i64 kk) :=
    ⟨pres_grown hgA _ _ q1, pres_grown hgA _ _ q2, pres_grown hgA _ _ q3⟩
  refine HK15.out _ _ hS5 ?_
  clear HK15
  have HGA := hide hgA
  clear hgA
  have h63 : acc.length + 1 ≤ maxLen := by unfold maxLen; omega
  have hby : (acc.length + 1) * 16 ≤ 140737488355328 := by omega
  refine wpHead_alone (i := 15) rfl (by kernel_rfl) (by kernel_rfl) (by rfl) ?_
  intro K16 hK16
  have HK16 := hide hK16
  clear hK16
  refine wp_append_lies _ (.tmp 30) (.tmp 40) 28 (by rfl) (b + 1) 84 i0 _ 2 16 Tryz.underlying28 hi0 hz0 hz1 hz2 rfl (by omega) (.slice s1 s2 s3) acc.length (flatS acc) (by rfl) (owns_grown HR2.out.row HGA.out (fun _ e => by cases e)) ⟨w2.heap.size, 0, none⟩ 1 1 [.int .i64 t, .int .i64 kk] (by rfl) (by rfl) (World.news_of_block (cs := #[.int .i64 t, .int .i64 kk]) (t := 84) (fr := (0, 0)) (heap_alloc_new w2 _)) (by simp [Value.oneCell']) (by omega) h63 hby (by simp; omega) (w2.heap.size + 1) (by simp) ?_
  intro g2 cap2 w5 hown5 hgrow hat hlt5
  have hob : ∀ q, (Value.slice s1 s2 s3).ownBlock = some q → b + 1 ≤ q := fun q e => owns_block HR2.out.row q e
  have hS6 : w5.cell? ⟨b, 10, none⟩ = some (.slice s1 s2 s3) ∧ w5.cell? ⟨b, 1, none⟩ = some (.slice (some ⟨ab, 0, none⟩) n n) ∧ w5.cell? ⟨ab, t, none⟩ = some (.int .i64 kk) := by
    obtain ⟨z1, z2, z3⟩ := hS5
    have := HR2.out.abb
    refine ⟨?_, ?_, ?_⟩
    · rw [hgrow.cell_far _ (World.block_lt_of_cell? _ _ z1) (fun e => by have := hob _ e.symm; simp only at this; omega)]; exact z1
    · rw [hgrow.cell_far _ (World.block_lt_of_cell? _ _ z2) (fun e => by have := hob _ e.symm; simp only at this; omega)]; exact z2
    · rw [hgrow.cell_far _ (World.block_lt_of_cell? _ _ z3) (fun e => by have := hob _ e.symm; simp only at this; omega)]; exact z3
  have HR6 : Hid (RunAt w0 (w5.setCell ⟨b, 10, none⟩ (.slice (some ⟨g2, 0, none⟩) (acc.length + 1) cap2)) b ab rb n (.slice (some ⟨g, o, none⟩) n cap) (.slice (some ⟨g2, 0, none⟩) (acc.length + 1) cap2) s (acc ++ [((t : Int), (kk : Int))]) k th a) :=
    RunAt.push HR2.out (grown_trans (grown_none HGA.out) hgrow) hown5
  have HBI6 : Hid ((w5.setCell ⟨b, 10, none⟩ (.slice (some ⟨g2, 0, none⟩) (acc.length + 1) cap2)).heap[w.heap.size]? = some (.cells #[.int .i64 op, .int .i64 ia, .int .i64 ib, .int .i64 im] 74 (0, 0))) := by
    unfold Hid
    have hnb : (Value.slice s1 s2 s3).ownBlock ≠ some w.heap.size := HNB.out
    rw [Below.heap_setCell _ _ _ _ (by simp; omega), hgrow.block _ (by have := HGA.out.size; omega) (fun e => hnb e.symm), HGA.out.block _ (by omega) (by simp)]
    exact HBI.out
  have f10 : w5.frozen? ⟨b, 10, none⟩ = false := by
    have := HR2.out.main
    have := hgrow.block b (by have := HGA.out.size; omega) (fun e => by have := hob _ e.symm; omega)
    simp [World.frozen?, this, HGA.out.block b (by omega) (by simp), HR2.out.main]
  clear hown5 hgrow hat
  refine HK16.out _ _ hS6 ?_
  clear HK16
  simp only [Act.put, List.setIfInBounds_toArray]
  refine wpHead_take (i := 16) (v := ?vv16) rfl (by kernel_rfl) (fun _ _ _ h => h) (Or.inl ⟨by rfl, ?hy16⟩) (by assumption) ?rest16
  case hy16 => (intro u hu; obtain ⟨g1, g2, g3⟩ := hu; go_simp; try with_reducible rfl)
  simp only [Act.put]
  refine wpHead_take (i := 17) (v := ?vv17) rfl (by kernel_rfl) (fun _ _ _ h => h) (Or.inl ⟨by rfl, ?hy17⟩) (by assumption) ?rest17
  case hy17 => (intro u hu; obtain ⟨g1, g2, g3⟩ := hu; go_simp; try with_reducible rfl)
  simp only [Act.put]
  refine wpHead_last rfl (by kernel_rfl) (by kernel_rfl) (by rfl) ?_
  obtain ⟨z1, z2, z3⟩ := hS6
  clear hHeld hS5 q1 q2 q3 HR2 HBI HGA hob
  go_simp
  clear z1 z2 z3 f10
  generalize w5.setCell ⟨b, 10, none⟩ (.slice (some ⟨g2, 0, none⟩) (acc.length + 1) cap2) = w6 at HR6 HBI6 ⊢
  have b1 : w6.cell? ⟨b, 1, none⟩ = some (.slice (some ⟨ab, 0, none⟩) n n) := (HR6.out.cell 1).1
  have b2 : w6.cell? ⟨b, 2, none⟩ = some (.slice (some ⟨rb, 0, none⟩) n n) := (HR6.out.cell 2).1
  have a6 : w6.cell? ⟨ab, t, none⟩ = some (.int .i64 kk) := by rw [(HR6.out.at_ ht).1, HNX.out]
  have a6f := (HR6.out.at_ ht).2
  have e1 : ab ≠ b := by have := HR6.out.abb; omega
  have e2 : b ≠ ab := Ne.symm e1
  have k16 : (kk : Int) < 16 := by omega
  go_upto_region 5 with fail
  have hR7 := HR6.out.setNext hn ht ((kk : Int) + 1)
  rw [← HS.out, ← HAC.out] at hR7
  have HR7 := hide hR7
  clear hR7
  have hnb : w.heap.size ≠ ab := by have := HR6.out.abb; omega
  have HB7 : Hid ((w6.setCell ⟨ab, t, none⟩ (.int .i64 ((kk : Int) + 1))).heap[w.heap.size]? = some (.cells #[.int .i64 op, .int .i64 ia, .int .i64 ib, .int .i64 im] 74 (0, 0))) := by
    unfold Hid
    rw [Below.heap_setCell _ _ _ _ (by simp; exact hnb)]; exact HBI6.out
  generalize w6.setCell ⟨ab, t, none⟩ (.int .i64 ((kk : Int) + 1)) = w7 at HR7 HB7 ⊢
  generalize Value.slice (some ⟨g2, 0, none⟩) (acc.length + 1) cap2 = st7 at *
  clear HS HAC HR6 HBI6 b1 b2 a6 a6f h4 h5 k16 HNX HNB h63 hby
  have x0 : w7.cell? ⟨w.heap.size, 0, none⟩ = some (.int .i64 op) := by have := HB7.out; simp [World.cell?, this]
  have x1 : w7.cell? ⟨w.heap.size, 1, none⟩ = some (.int .i64 ia) := by have := HB7.out; simp [World.cell?, this]
  have x2 : w7.cell? ⟨w.heap.size, 2, none⟩ = some (.int .i64 ib) := by have := HB7.out; simp [World.cell?, this]
  have x3 : w7.cell? ⟨w.heap.size, 3, none⟩ = some (.int .i64 im) := by have := HB7.out; simp [World.cell?, this]
  have HVo := HV.out
  clear HV
  rcases HVo with H | H | H | H | H | H | H | H | H | H | H
  · obtain ⟨rfl, e3, e4⟩ := H
    obtain ⟨r, rfl⟩ : ∃ r : Nat, ia = r := ⟨ia.toNat, by omega⟩
    have hr4 : r < 4 := by omega
    obtain ⟨c1, c2⟩ := HR7.out.reg hn ht hr4
    have HA : Hid (act t ⟨1, r, ib, im⟩ s' = (true, s'.setReg t r im)) := by simp [Hid, act]
    go_wp2
    go_region
    go_wp2
    go_ret
    exact ⟨st7, by rw [HA.out]; rfl, by rw [HA.out]; exact (HR7.out.setReg hn ht hr4 im).like ⟨rfl, rfl, rfl, rfl⟩⟩
  · obtain ⟨rfl, e3, e4, e5, e6⟩ := H
    obtain ⟨r, rfl⟩ : ∃ r : Nat, ia = r := ⟨ia.toNat, by omega⟩
    obtain ⟨v, rfl⟩ : ∃ v : Nat, ib = v := ⟨ib.toNat, by omega⟩
    have hr4 : r < 4 := by omega
    have hv4 : v < 4 := by omega
    obtain ⟨c1, c2⟩ := HR7.out.reg hn ht hr4
    have c3 := HR7.out.var hv4
    have HA : Hid (act t ⟨2, r, v, im⟩ s' = (true, s'.setReg t r (s'.vars v))) := by simp [Hid, act]
    go_wp2
    go_region
    go_wp2
    go_ret
    exact ⟨st7, by rw [HA.out]; rfl, by rw [HA.out]; exact (HR7.out.setReg hn ht hr4 _).like ⟨rfl, rfl, rfl, rfl⟩⟩
  · obtain ⟨rfl, e3, e4, e5, e6⟩ := H
    obtain ⟨r, rfl⟩ : ∃ r : Nat, ia = r := ⟨ia.toNat, by omega⟩
    obtain ⟨v, rfl⟩ : ∃ v : Nat, ib = v := ⟨ib.toNat, by omega⟩
    have hr4 : r < 4 := by omega
    have hv4 : v < 4 := by omega
    obtain ⟨c1, c2⟩ := HR7.out.reg hn ht hv4
    have c3 := HR7.out.var hr4
    have c4 := (HR7.out.cell (3 + r)).2
    have HA : Hid (act t ⟨3, r, v, im⟩ s' = (true, s'.setVar r (s'.regs t v))) := by simp [Hid, act]
    go_wp2
    go_region
    go_wp2
    go_ret
    exact ⟨st7, by rw [HA.out]; rfl, by rw [HA.out]; exact (HR7.out.setVar hr4 _).like ⟨rfl, rfl, rfl, rfl⟩⟩
  · obtain ⟨rfl, e3, e4, e5, e6⟩ := H
    obtain ⟨r, rfl⟩ : ∃ r : Nat, ia = r := ⟨ia.toNat, by omega⟩
    obtain ⟨v, rfl⟩ : ∃ v : Nat, ib = v := ⟨ib.toNat, by omega⟩
    have hr4 : r < 4 := by omega
    have hv4 : v < 4 := by omega
    obtain ⟨c1, c2⟩ := HR7.out.reg hn ht hr4
    obtain ⟨c3, c4⟩ := HR7.out.reg hn ht hv4
    have HA : Hid (act t ⟨4, r, v, im⟩ s' = ((reckonR 4 (s'.regs t r) (s'.regs t v)).2, s'.setReg t r (reckonR 4 (s'.regs t r) (s'.regs t v)).1)) := by
      simp [Hid, act, reckonR]
    have HCK : Hid (∀ u, Calls Tryz.prog 114 #[.int .i64 4, .int .i64 (s'.regs t r), .int .i64 (s'.regs t v)] u fun e w' => e = .returned (.tuple #[.int .i64 (reckonR 4 (s'.regs t r) (s'.regs t v)).1, .bool (reckonR 4 (s'.regs t r) (s'.regs t v)).2]) ∧ w' = u) := fun u => reckon_m 4 _ _ u (by omega)
    generalize reckonR 4 (s'.regs t r) (s'.regs t v) = rk at *
    obtain ⟨rk1, rk2⟩ := rk
    simp only at HA HCK
    go_wp2_with fail
    go_quiet ((go_at_call 114; exact Calls.quiet_of_same (HCK.out _)))
    go_wp2
    go_region
    go_wp2
    go_ret
    exact ⟨st7, by rw [HA.out]; rfl, by rw [HA.out]; exact (HR7.out.setReg hn ht hr4 _).like ⟨rfl, rfl, rfl, rfl⟩⟩
  · obtain ⟨rfl, e3, e4, e5, e6⟩ := H
    obtain ⟨r, rfl⟩ : ∃ r : Nat, ia = r := ⟨ia.toNat, by omega⟩
    obtain ⟨v, rfl⟩ : ∃ v : Nat, ib = v := ⟨ib.toNat, by omega⟩
    have hr4 : r < 4 := by omega
    have hv4 : v < 4 := by omega
    obtain ⟨c1, c2⟩ := HR7.out.reg hn ht hr4
    obtain ⟨c3, c4⟩ := HR7.out.reg hn ht hv4
    have HA : Hid (act t ⟨5, r, v, im⟩ s' = ((reckonR 5 (s'.regs t r) (s'.regs t v)).2, s'.setReg t r (reckonR 5 (s'.regs t r) (s'.regs t v)).1)) := by
      simp [Hid, act, reckonR]
    have HCK : Hid (∀ u, Calls Tryz.prog 114 #[.int .i64 5, .int .i64 (s'.regs t r), .int .i64 (s'.regs t v)] u fun e w' => e = .returned (.tuple #[.int .i64 (reckonR 5 (s'.regs t r) (s'.regs t v)).1, .bool (reckonR 5 (s'.regs t r) (s'.regs t v)).2]) ∧ w' = u) := fun u => reckon_m 5 _ _ u (by omega)
    generalize reckonR 5 (s'.regs t r) (s'.regs t v) = rk at *
    obtain ⟨rk1, rk2⟩ := rk
    simp only at HA HCK
    go_wp2_with fail
    go_quiet ((go_at_call 114; exact Calls.quiet_of_same (HCK.out _)))
    go_wp2
    go_region
    go_wp2
    go_ret
    exact ⟨st7, by rw [HA.out]; rfl, by rw [HA.out]; exact (HR7.out.setReg hn ht hr4 _).like ⟨rfl, rfl, rfl, rfl⟩⟩
  · obtain ⟨rfl, e3, e4, e5, e6⟩ := H
    obtain ⟨r, rfl⟩ : ∃ r : Nat, ia = r := ⟨ia.toNat, by omega⟩
    obtain ⟨v, rfl⟩ : ∃ v : Nat, ib = v := ⟨ib.toNat, by omega⟩
    have hr4 : r < 4 := by omega
    have hv4 : v < 4 := by omega
    obtain ⟨c1, c2⟩ := HR7.out.reg hn ht hr4
    obtain ⟨c3, c4⟩ := HR7.out.reg hn ht hv4
    have HA : Hid (act t ⟨6, r, v, im⟩ s' = ((reckonR 6 (s'.regs t r) (s'.regs t v)).2, s'.setReg t r (reckonR 6 (s'.regs t r) (s'.regs t v)).1)) := by
      simp [Hid, act, reckonR]
    have HCK : Hid (∀ u, Calls Tryz.prog 114 #[.int .i64 6, .int .i64 (s'.regs t r), .int .i64 (s'.regs t v)] u fun e w' => e = .returned (.tuple #[.int .i64 (reckonR 6 (s'.regs t r) (s'.regs t v)).1, .bool (reckonR 6 (s'.regs t r) (s'.regs t v)).2]) ∧ w' = u) := fun u => reckon_m 6 _ _ u (by omega)
    generalize reckonR 6 (s'.regs t r) (s'.regs t v) = rk at *
    obtain ⟨rk1, rk2⟩ := rk
    simp only at HA HCK
    go_wp2_with fail
    go_quiet ((go_at_call 114; exact Calls.quiet_of_same (HCK.out _)))
    go_wp2
    go_region
    go_wp2
    go_ret
    exact ⟨st7, by rw [HA.out]; rfl, by rw [HA.out]; exact (HR7.out.setReg hn ht hr4 _).like ⟨rfl, rfl, rfl, rfl⟩⟩
  · obtain ⟨rfl, e3, e4, e5, e6⟩ := H
    obtain ⟨r, rfl⟩ : ∃ r : Nat, ia = r := ⟨ia.toNat, by omega⟩
    obtain ⟨v, rfl⟩ : ∃ v : Nat, ib = v := ⟨ib.toNat, by omega⟩
    have hr4 : r < 4 := by omega
    have hv4 : v < 4 := by omega
    obtain ⟨c1, c2⟩ := HR7.out.reg hn ht hr4
    obtain ⟨c3, c4⟩ := HR7.out.reg hn ht hv4
    have HA : Hid (act t ⟨7, r, v, im⟩ s' = ((reckonR 7 (s'.regs t r) (s'.regs t v)).2, s'.setReg t r (reckonR 7 (s'.regs t r) (s'.regs t v)).1)) := by
      unfold Hid
      by_cases hz : s'.regs t v = 0
      · simp [act, reckonR, hz, setReg_self]
      · simp [act, reckonR, hz]
    have HCK : Hid (∀ u, Calls Tryz.prog 114 #[.int .i64 7, .int .i64 (s'.regs t r), .int .i64 (s'.regs t v)] u fun e w' => e = .returned (.tuple #[.int .i64 (reckonR 7 (s'.regs t r) (s'.regs t v)).1, .bool (reckonR 7 (s'.regs t r) (s'.regs t v)).2]) ∧ w' = u) := fun u => reckon_m 7 _ _ u (by omega)
    generalize reckonR 7 (s'.regs t r) (s'.regs t v) = rk at *
    obtain ⟨rk1, rk2⟩ := rk
    simp only at HA HCK
    go_wp2_with fail
    go_quiet ((go_at_call 114; exact Calls.quiet_of_same (HCK.out _)))
    go_wp2
    go_region
    go_wp2
    go_ret
    exact ⟨st7, by rw [HA.out]; rfl, by rw [HA.out]; exact (HR7.out.setReg hn ht hr4 _).like ⟨rfl, rfl, rfl, rfl⟩⟩
  · obtain ⟨rfl, e3, e4, e5, e6⟩ := H
    obtain ⟨r, rfl⟩ : ∃ r : Nat, ia = r := ⟨ia.toNat, by omega⟩
    have hr4 : r < 4 := by omega
    obtain ⟨c1, c2⟩ := HR7.out.reg hn ht hr4
    have b1 : w7.cell? ⟨b, 1, none⟩ = some (.slice (some ⟨ab, 0, none⟩) n n) := (HR7.out.cell 1).1
    obtain ⟨c3, c4⟩ := HR7.out.at_ ht
    by_cases hz : s'.regs t r = 0
    · have HA : Hid (act t ⟨8, r, ib, im⟩ s' = (true, s'.setNext t im)) := by simp [Hid, act, hz]
      rw [hz] at c1
      clear hz
      go_wp2
      go_quiet (fail)
      go_wp2
      go_region
      go_wp2
      go_ret
      exact ⟨st7, by rw [HA.out]; rfl, by rw [HA.out]; exact (HR7.out.setNext hn ht _).like ⟨rfl, rfl, rfl, rfl⟩⟩
    · have HA : Hid (act t ⟨8, r, ib, im⟩ s' = (true, s')) := by simp [Hid, act, hz]
      have hz' : (s'.regs t r == 0) = false := by simpa using hz
      go_wp2
      go_quiet (fail)
      go_wp2
      go_ret
      exact ⟨st7, by rw [HA.out]; rfl, by rw [HA.out]; exact HR7.out.like ⟨rfl, rfl, rfl, rfl⟩⟩
  · obtain ⟨rfl, e3, e4⟩ := H
    obtain ⟨r, rfl⟩ : ∃ r : Nat, ia = r := ⟨ia.toNat, by omega⟩
    have hr3 : r < 3 := by omega
    have c1 := HR7.out.own hr3
    have c2 := (HR7.out.cell (7 + r)).2
    have HA : Hid (act t ⟨9, r, ib, im⟩ s' = (true, s'.setLock r true t)) := by simp [Hid, act]
    go_wp2
    go_region
    go_wp2
    go_ret
    exact ⟨st7, by rw [HA.out]; rfl, by rw [HA.out]; exact (HR7.out.setLock hr3 true t).like ⟨rfl, rfl, rfl, rfl⟩⟩
  · obtain ⟨rfl, e3, e4⟩ := H
    obtain ⟨r, rfl⟩ : ∃ r : Nat, ia = r := ⟨ia.toNat, by omega⟩
    have hr3 : r < 3 := by omega
    have c1 := HR7.out.own hr3
    have c2 := (HR7.out.cell (7 + r)).2
    by_cases hz : s'.held r = true ∧ s'.own r = t
    · have HA : Hid (act t ⟨10, r, ib, im⟩ s' = (true, s'.setLock r false 0)) := by simp [Hid, act, hz]
      have hq : ownR s' r = t := by simp [ownR, hz.1, hz.2]
      rw [hq] at c1
      clear hz hq
      go_wp2
      go_quiet (fail)
      go_wp2
      go_region
      go_wp2
      go_ret
      exact ⟨st7, by rw [HA.out]; rfl, by rw [HA.out]; exact (HR7.out.setLock hr3 false 0).like ⟨rfl, rfl, rfl, rfl⟩⟩
    · have HA : Hid (act t ⟨10, r, ib, im⟩ s' = (false, s')) := by
        unfold Hid
        simp only [act]
        simp [hz]
      have hz' : (ownR s' r != (t : Int)) = true := by
        unfold ownR
        by_cases hh : s'.held r = true
        · simp only [hh, if_true]
          have : ¬ s'.own r = t := fun e => hz ⟨hh, e⟩
          simpa using this
        · simp only [hh]
          simp <;> omega
      clear hz
      go_wp2
      go_quiet (fail)
      go_wp2
      go_ret
      exact ⟨st7, by rw [HA.out]; rfl, by rw [HA.out]; exact HR7.out.like ⟨rfl, rfl, rfl, rfl⟩⟩
  · obtain ⟨rfl, e3, e4⟩ := H
    obtain ⟨r, rfl⟩ : ∃ r : Nat, ia = r := ⟨ia.toNat, by omega⟩
    have hr4 : r < 4 := by omega
    obtain ⟨c1, c2⟩ := HR7.out.reg hn ht hr4
    have HA : Hid (act t ⟨11, r, ib, im⟩ s' = (s'.regs t r != 0, s')) := by simp [Hid, act]
    go_wp2
    go_quiet (fail)
    go_wp2
    go_ret
    exact ⟨st7, by rw [HA.out]; rfl, by rw [HA.out]; exact HR7.out.like ⟨rfl, rfl, rfl, rfl⟩⟩

end Go.Proofs.YtklenjmfalljgaaGreatDoor

/- The reference's run against the pure machine: done, ready, step. -/
namespace Go.Proofs.YtklenjmfalljgaaGreatDoor
open Go.RowKit

def LkOk (s : St) : Prop := ∀ l, s.held l = true → 0 ≤ s.own l
theorem LkOk.zero : LkOk St.zero := fun l h => by simp [St.zero] at h
theorem LkOk.setNext {s : St} (h : LkOk s) (t : Nat) (v : Int) : LkOk (s.setNext t v) := h
theorem LkOk.setLock {s : St} (h : LkOk s) (l : Nat) (hd : Bool) (o : Int) (ho : 0 ≤ o) : LkOk (s.setLock l hd o) := fun l' e => by
  simp only [St.setLock] at e ⊢
  by_cases hl : l' = l
  · simp [hl, ho]
  · simp only [hl, if_false] at e ⊢; exact h l' e
theorem LkOk.act {s : St} (h : LkOk s) (t : Nat) (i : Ins) : LkOk (act t i s).2 := by
  by_cases h9 : i.op = 9
  · have e : Go.Proofs.YtklenjmfalljgaaGreatDoor.act t i s = (true, s.setLock i.a.toNat true t) := by simp [Go.Proofs.YtklenjmfalljgaaGreatDoor.act, h9]
    rw [e]; exact h.setLock _ _ _ (by omega)
  · by_cases h10 : i.op = 10
    · by_cases hz : s.held i.a.toNat = true ∧ s.own i.a.toNat = t
      · have e : Go.Proofs.YtklenjmfalljgaaGreatDoor.act t i s = (true, s.setLock i.a.toNat false 0) := by simp [Go.Proofs.YtklenjmfalljgaaGreatDoor.act, h10, hz]
        rw [e]; exact h.setLock _ _ _ (by omega)
      · have e : Go.Proofs.YtklenjmfalljgaaGreatDoor.act t i s = (false, s) := by
          simp only [Go.Proofs.YtklenjmfalljgaaGreatDoor.act, h10]
          simp [hz]
        rw [e]; exact h
    · have e : (Go.Proofs.YtklenjmfalljgaaGreatDoor.act t i s).2.held = s.held ∧ (Go.Proofs.YtklenjmfalljgaaGreatDoor.act t i s).2.own = s.own := by
        unfold Go.Proofs.YtklenjmfalljgaaGreatDoor.act
        rw [if_neg h9, if_neg h10]
        repeat' split
        all_goals exact ⟨rfl, rfl⟩
      intro l hl
      rw [e.1] at hl
      rw [e.2]
      exact h l hl
theorem LkOk.step {s : St} (h : LkOk s) (p : List (List Ins)) (t : Nat) : LkOk (stepS p s t).2 := LkOk.act (h.setNext _ _) _ _
theorem LkOk.own {s : St} (h : LkOk s) (l : Nat) : decide (ownR s l < 0) = !s.held l := by
  unfold ownR
  cases e : s.held l
  · simp
  · have := h l e; simp; omega

theorem rprog {w0 : World} {ao : Option Addr} {cap : Nat} {p : List (List Ins)} (hP : ProgAt w0 (.agg #[.slice ao p.length cap]) p) {t : Nat} (ht : t < p.length) :
    ∃ g o, ao = some ⟨g, o, none⟩ ∧ ∃ rv, w0.cell? ⟨g, o + t, none⟩ = some rv ∧ CodeAt w0 rv (codeOf p t) := by
  obtain ⟨ao', cap', e, h⟩ := hP
  simp only [Value.agg.injEq, Array.mk.injEq, List.cons.injEq, Value.slice.injEq, and_true, true_and] at e
  obtain ⟨rfl, rfl⟩ := e
  obtain ⟨g, o, e1, rv, e2, e3⟩ := h t ht
  exact ⟨g, o, e1, rv, e2, by rw [codeOf_get ht]; exact e3⟩

theorem rdoneS {w0 w : World} {ao : Option Addr} {cap : Nat} {p : List (List Ins)} (hp : vProg p = true) (hP : ProgAt w0 (.agg #[.slice ao p.length cap]) p) {b ab rb : Nat} {st : Value} {s : St} {acc : List (Int × Int)} {k th a : Int}
    (hR : RunAt w0 w b ab rb p.length (.slice ao p.length cap) st s acc k th a) (hI : Inv p s) {t : Nat} (ht : t < p.length) :
    Calls Tryz.prog 82 #[.pointer (some ⟨b, 0, none⟩), .int .i64 t] w fun e w' => e = .returned (.bool (doneB p s t)) ∧ w.grownBy w' none := by
  have hn := vProg_len hp
  obtain ⟨g, o, rfl, rv, h1, ca, cc, rfl, _⟩ := rprog hP ht
  refine (rdone_m b ab p.length cap p.length g o t _ cc ca (s.next t) w ht (by omega) (vCode_len (vProg_code hp ht)) (hR.cell 0).1 (hR.cell 1).1 (pres_grown hR.frame _ _ h1) (hR.at_ ht).1).mono ?_
  rintro e w' ⟨rfl, hl⟩
  refine ⟨?_, grown_like (grown_refl _ _) hl⟩
  have := hI t ht
  congr 2
  unfold doneB
  rw [Bool.eq_iff_iff]; simp; omega

theorem rreadyS {w0 w : World} {ao : Option Addr} {cap : Nat} {p : List (List Ins)} (hp : vProg p = true) (hP : ProgAt w0 (.agg #[.slice ao p.length cap]) p) {b ab rb : Nat} {st : Value} {s : St} {acc : List (Int × Int)} {k th a : Int}
    (hR : RunAt w0 w b ab rb p.length (.slice ao p.length cap) st s acc k th a) (hI : Inv p s) (hL : LkOk s) {t : Nat} (ht : t < p.length) :
    Calls Tryz.prog 80 #[.pointer (some ⟨b, 0, none⟩), .int .i64 t] w fun e w' => e = .returned (.bool (readyB p s t)) ∧ w.grownBy w' none := by
  have hn := vProg_len hp
  have hin := hI t ht
  obtain ⟨g, o, rfl, rv, h1, ca, cc, rfl, hc⟩ := rprog hP ht
  by_cases hd : s.next t = ((codeOf p t).length : Int)
  · refine (rready_done b ab p.length cap p.length g o t _ cc ca (s.next t) w ht (by omega) (vCode_len (vProg_code hp ht)) (by omega) (hR.cell 0).1 (hR.cell 1).1 (pres_grown hR.frame _ _ h1) (hR.at_ ht).1).mono ?_
    rintro e w' ⟨rfl, hg⟩
    exact ⟨by simp [readyB, doneB, hd], hg⟩
  · obtain ⟨kk, hkk⟩ : ∃ kk : Nat, s.next t = kk := ⟨(s.next t).toNat, by omega⟩
    have hkl : kk < (codeOf p t).length := by omega
    obtain ⟨h, ho, rfl, x1, x2, x3, x4⟩ := hc kk hkl
    have hv := vProg_ins hp ht (k := (kk : Int)) (by simpa using hkl)
    have hie : insAt p t (s.next t) = (codeOf p t)[kk] := by rw [hkk, insAt_get (by simpa using hkl)]; simp
    have hie2 : insAt p t (kk : Int) = (codeOf p t)[kk] := by rw [insAt_get (by simpa using hkl)]; simp
    rw [hie2] at hv
    have hF := pres_grown hR.frame
    have say := vIns_say hv
    refine (rready_m b ab p.length cap p.length g o t _ cc h ho kk (codeOf p t)[kk] (ownR s (codeOf p t)[kk].a.toNat) w ht (by omega) (vCode_len (vProg_code hp ht)) hkl (by omega) (by omega) (hR.cell 0).1 (hR.cell 1).1 (hF _ _ h1) (by rw [(hR.at_ ht).1, hkk]) (hF _ _ x1) (hF _ _ x2) (hF _ _ x3) (hF _ _ x4) (Array.getElem?_eq_some_iff.1 hR.main).1 (fun e => hR.own (by omega))).mono ?_
    rintro e w' ⟨rfl, hg⟩
    refine ⟨?_, hg⟩
    have hnd : doneB p s t = false := by simpa [doneB] using hd
    rw [hL.own, readyB, hnd, hie]; simp

theorem rstepS {w0 w : World} {ao : Option Addr} {cap : Nat} {p : List (List Ins)} (hp : vProg p = true) (hP : ProgAt w0 (.agg #[.slice ao p.length cap]) p) {b ab rb : Nat} {st : Value} {s : St} {acc : List (Int × Int)} {k th a : Int}
    (hR : RunAt w0 w b ab rb p.length (.slice ao p.length cap) st s acc k th a) (hI : Inv p s) {t : Nat} (ht : t < p.length) (hd : doneB p s t = false) (hacc : acc.length < 500) :
    Calls Tryz.prog 81 #[.pointer (some ⟨b, 0, none⟩), .int .i64 t] w fun e w' => ∃ st', e = .returned (.bool (stepS p s t).1) ∧
      RunAt w0 w' b ab rb p.length (.slice ao p.length cap) st' (stepS p s t).2 (acc ++ [((t : Int), s.next t)]) k th a := by
  have hn := vProg_len hp
  have hin := hI t ht
  obtain ⟨g, o, rfl, rv, h1, ca, cc, rfl, hc⟩ := rprog hP ht
  have hd' : ¬ s.next t = ((codeOf p t).length : Int) := by simpa [doneB] using hd
  obtain ⟨kk, hkk⟩ : ∃ kk : Nat, s.next t = kk := ⟨(s.next t).toNat, by omega⟩
  have hkl : kk < (codeOf p t).length := by omega
  obtain ⟨h, ho, rfl, x1, x2, x3, x4⟩ := hc kk hkl
  have hv := vProg_ins hp ht (k := (kk : Int)) (by simpa using hkl)
  have hie2 : insAt p t (kk : Int) = (codeOf p t)[kk] := by rw [insAt_get (by simpa using hkl)]; simp
  rw [hie2] at hv
  have hF := pres_grown hR.frame
  have hst : stepS p s t = act t (codeOf p t)[kk] (s.setNext t (kk + 1)) := by unfold stepS; rw [hkk, hie2]
  rw [hst, hkk]
  exact rstep_m w0 w b ab rb p.length cap g o t _ cc h ho kk st s acc k th a (codeOf p t)[kk] (by omega) ht (vCode_len (vProg_code hp ht)) hkl hacc hR hkk (hF _ _ h1) (hF _ _ x1) (hF _ _ x2) (hF _ _ x3) (hF _ _ x4) hv _ rfl _ rfl

end Go.Proofs.YtklenjmfalljgaaGreatDoor

/- The walks of pick and awake. -/
namespace Go.Proofs.YtklenjmfalljgaaGreatDoor
open Go.RowKit
attribute [local go_sem] Go.World.cell?_alloc_some

def pickN (c n : Int) : Int := (if c < 0 then -(c + 1) else c) % n

theorem pickN_range (c n : Int) (hn : 0 < n) : 0 ≤ pickN c n ∧ pickN c n < n := ⟨Int.emod_nonneg _ (by omega), Int.emod_lt_of_pos _ hn⟩

set_option maxHeartbeats 400000 in
theorem pick_m (c n : Int) (hn : 0 < n) (hn2 : n ≤ 1099511627776) (hc : -9223372036854775808 ≤ c) (hc2 : c ≤ 9223372036854775807) (w : World) :
    Calls Tryz.prog 18 #[.int .i64 c, .int .i64 n] w fun e w' => e = .returned (.int .i64 (pickN c n)) ∧ w' = w := by
  by_cases h0 : c < 0
  · have HP : Hid (pickN c n = -(c + 1).tmod n) := by
      unfold Hid pickN
      rw [if_pos h0, ← Int.neg_tmod, Int.tmod_eq_emod_of_nonneg (by omega)]
    go_enter Tryz.func18, Tryz.ntmps18
    go_wp2
    go_ret
    exact ⟨by rw [HP.out]; rfl, rfl⟩
  · have HP : Hid (pickN c n = c % n) := by unfold Hid pickN; rw [if_neg h0]
    have h1 : 0 ≤ c := by omega
    go_enter Tryz.func18, Tryz.ntmps18
    go_wp2
    go_ret
    exact ⟨by rw [HP.out]; rfl, rfl⟩

def growC : List Ins := [⟨2, 0, 0, 0⟩, ⟨1, 1, 0, 1⟩, ⟨4, 0, 1, 0⟩, ⟨3, 0, 0, 0⟩]
def growP : List (List Ins) := [growC, growC]
def growS : List Int := [0, 0, 0, 0, 1, 1, 1, 1]

theorem grow_check : checkRunN growP growS = 0 := by decide +kernel
theorem grow_kind : (runS growP growS).kind = 3 ∧ (runS growP growS).thread = 0 ∧ (runS growP growS).at_ = 0 ∧ (runS growP growS).st.vars 0 = 2 := by decide +kernel
theorem grow_steps : (runS growP growS).steps = [(0, 0), (0, 1), (0, 2), (0, 3), (1, 0), (1, 1), (1, 2), (1, 3)] := by decide +kernel

theorem codeAt_grow {w : World} {g : Nat} (h : w.heap[g]? = some (.cells #[.int .i64 2, .int .i64 0, .int .i64 0, .int .i64 0, .int .i64 1, .int .i64 1, .int .i64 0, .int .i64 1, .int .i64 4, .int .i64 0, .int .i64 1, .int .i64 0, .int .i64 3, .int .i64 0, .int .i64 0, .int .i64 0] 74 (0, 0))) :
    CodeAt w (.slice (some ⟨g, 0, none⟩) 4 4) growC := by
  refine ⟨_, 4, rfl, fun k hk => ⟨g, 0, rfl, ?_⟩⟩
  have hk4 : k < 4 := hk
  rcases lt4 hk4 with rfl | rfl | rfl | rfl <;> simp [World.cell?, h, growC]

set_option maxHeartbeats 1000000 in
set_option maxRecDepth 100000 in
theorem awake_m (w : World) (hS : ShpAt w) : Calls Tryz.prog 10 #[] w fun e w' => e = .returned (.bool true) ∧ w.grownBy w' none := by
  have HSh := hide hS
  clear hS
  go_enter Tryz.func10, Tryz.ntmps10
  go_wp2_with fail
  generalize hA : Obj.cells #[Value.int IntKind.i64 2, Value.int IntKind.i64 0, Value.int IntKind.i64 0, Value.int IntKind.i64 0, Value.int IntKind.i64 1, Value.int IntKind.i64 1, Value.int IntKind.i64 0, Value.int IntKind.i64 1, Value.int IntKind.i64 4, Value.int IntKind.i64 0, Value.int IntKind.i64 1, Value.int IntKind.i64 0, Value.int IntKind.i64 3, Value.int IntKind.i64 0, Value.int IntKind.i64 0, Value.int IntKind.i64 0] 74 = OA
  generalize hB : Obj.cells #[Value.slice (some ⟨w.heap.size, 0, none⟩) 4 4, Value.slice (some ⟨w.heap.size, 0, none⟩) 4 4] 75 = OB
  generalize hC : Obj.cells #[Value.int IntKind.i64 0, Value.int IntKind.i64 0, Value.int IntKind.i64 0, Value.int IntKind.i64 0, Value.int IntKind.i64 1, Value.int IntKind.i64 1, Value.int IntKind.i64 1, Value.int IntKind.i64 1] 3 = OC
  have e0 : (((w.alloc OA).alloc OB).alloc OC).heap[w.heap.size]? = some OA := by
    rw [Below.heap_alloc _ _ _ (by simp; omega), Below.heap_alloc _ _ _ (by simp)]; exact heap_alloc_new w _
  have e1 : (((w.alloc OA).alloc OB).alloc OC).heap[w.heap.size + 1]? = some OB := by
    rw [Below.heap_alloc _ _ _ (by simp)]
    have := heap_alloc_new (w.alloc OA) OB
    simpa using this
  have e2 : (((w.alloc OA).alloc OB).alloc OC).heap[w.heap.size + 2]? = some OC := by
    have := heap_alloc_new ((w.alloc OA).alloc OB) OC
    simpa using this
  have HG0 : Hid (w.grownBy (((w.alloc OA).alloc OB).alloc OC) none) := grown_alloc (grown_alloc (grown_alloc (grown_refl _ _)))
  have hp : ProgAt (((w.alloc OA).alloc OB).alloc OC) (.agg #[.slice (some ⟨w.heap.size + 1, 0, none⟩) 2 2]) growP := by
    refine ⟨_, 2, rfl, fun t ht => ⟨w.heap.size + 1, 0, rfl, .slice (some ⟨w.heap.size, 0, none⟩) 4 4, ?_, ?_⟩⟩
    · have h2 : t = 0 ∨ t = 1 := by have : t < 2 := ht; omega
      have c1 := fun j => cell_of_row _ (w.heap.size + 1) j _ _ _ (e1.trans (congrArg some hB.symm))
      rcases h2 with rfl | rfl <;> rw [c1] <;> rfl
    · have h2 : growP[t] = growC := by
        have h2 : t = 0 ∨ t = 1 := by have : t < 2 := ht; omega
        rcases h2 with rfl | rfl <;> rfl
      rw [h2]
      exact codeAt_grow (by rw [e0, hA])
  have hi : IntsAt (((w.alloc OA).alloc OB).alloc OC).heap.size (((w.alloc OA).alloc OB).alloc OC) (.slice (some ⟨w.heap.size + 1 + 1, 0, none⟩) 8 8) growS := by
    refine ⟨_, 8, rfl, Nat.le_refl _, fun k hk => ⟨w.heap.size + 1 + 1, 0, rfl, by simp, ?_⟩⟩
    have h8 : k = 0 ∨ k = 1 ∨ k = 2 ∨ k = 3 ∨ k = 4 ∨ k = 5 ∨ k = 6 ∨ k = 7 := by have : k < 8 := hk; omega
    have c2 := fun j => cell_of_row _ (w.heap.size + 1 + 1) j _ _ _ (e2.trans (congrArg some hC.symm))
    rcases h8 with rfl | rfl | rfl | rfl | rfl | rfl | rfl | rfl <;> rw [c2] <;> rfl
  refine (replay_m growP growS _ _ _ (HSh.out.pres (pres_grown HG0.out)) hp hi).mono ?_
  clear hp hi e0 e1 e2 hA hB hC
  rintro e w1 ⟨hg1, h⟩
  rcases h with ⟨_, rv, rfl, sv, gv, rfl, ho1, ho2⟩ | ⟨h, _⟩
  · have HG1 : Hid (w.grownBy w1 none) := grown_trans HG0.out hg1
    obtain ⟨k1, k2, k3, k4⟩ := grow_kind
    rw [grow_steps] at ho1
    obtain ⟨g, cp, rfl, _, _⟩ := ho1.form (by decide)
    obtain ⟨y1, y2, y3, rfl⟩ := owns_form ho2
    have q14 : w1.cell? ⟨g, 14, none⟩ = some (.int .i64 1) := by rw [ho1.cellAt 14 (by decide)]; rfl
    have q15 : w1.cell? ⟨g, 15, none⟩ = some (.int .i64 3) := by rw [ho1.cellAt 15 (by decide)]; rfl
    rw [k1, k2, k3, k4]
    clear hg1 ho1 ho2 k1 k2 k3 k4
    generalize (runS growP growS).st.vars 1 = x1
    generalize (runS growP growS).st.vars 2 = x2
    generalize (runS growP growS).st.vars 3 = x3
    simp only [List.length_cons, List.length_nil]
    go_wp2_with fail
    go_ret
    exact ⟨rfl, grown_alloc HG1.out⟩
  · exact absurd grow_check h

end Go.Proofs.YtklenjmfalljgaaGreatDoor

/- On runs: a run of a list and one number more; schedules that are made so. -/
namespace Go.Proofs.YtklenjmfalljgaaGreatDoor

/-- The state and the steps behind a list all of whose numbers were done. -/
def stp (p : List (List Ins)) : List Int → St → List (Int × Int) → Option (St × List (Int × Int))
  | [], s, acc => some (s, acc)
  | t :: r, s, acc => if okAt p s t = true then (if (stepS p s t.toNat).1 = true then stp p r (stepS p s t.toNat).2 (acc ++ [(t, s.next t.toNat)]) else none) else none

theorem endingS_range (p : List (List Ins)) (s : St) : 3 ≤ endingS p s ∧ endingS p s ≤ 5 := by
  unfold endingS
  split
  · omega
  · split <;> omega

theorem follow_stp (p : List (List Ins)) : ∀ (a b : List Int) (i : Int) (s : St) (acc : List (Int × Int)) (s' : St) (acc' : List (Int × Int)), stp p a s acc = some (s', acc') → follow p (a ++ b) i s acc = follow p b (i + a.length) s' acc'
  | [], b, i, s, acc, s', acc', h => by
    simp [stp] at h
    obtain ⟨rfl, rfl⟩ := h
    simp
  | t :: r, b, i, s, acc, s', acc', h => by
    simp only [stp] at h
    split at h
    · rename_i h1
      split at h
      · rename_i h2
        rw [List.cons_append, follow_go p t (r ++ b) i s acc h1 h2, follow_stp p r b (i + 1) _ _ s' acc' h]
        congr 1
        simp
        omega
      · cases h
    · cases h

theorem follow_none (p : List (List Ins)) : ∀ (a b : List Int) (i : Int) (s : St) (acc : List (Int × Int)), stp p a s acc = none → follow p (a ++ b) i s acc = follow p a i s acc ∧ ((follow p a i s acc).kind = 1 ∨ (follow p a i s acc).kind = 2)
  | [], b, i, s, acc, h => by simp [stp] at h
  | t :: r, b, i, s, acc, h => by
    by_cases h1 : okAt p s t = true
    · by_cases h2 : (stepS p s t.toNat).1 = true
      · simp only [stp, h1, h2, if_true] at h
        rw [List.cons_append, follow_go p t (r ++ b) i s acc h1 h2, follow_go p t r i s acc h1 h2]
        exact follow_none p r b (i + 1) _ _ h
      · have h3 : (stepS p s t.toNat).1 = false := by simpa using h2
        rw [List.cons_append, follow_fail p t (r ++ b) i s acc h1 h3, follow_fail p t r i s acc h1 h3]
        exact ⟨rfl, Or.inl rfl⟩
    · have h3 : okAt p s t = false := by simpa using h1
      rw [List.cons_append, follow_wrong p t (r ++ b) i s acc h3, follow_wrong p t r i s acc h3]
      exact ⟨rfl, Or.inr rfl⟩

theorem stp_len (p : List (List Ins)) : ∀ (a : List Int) (s : St) (acc : List (Int × Int)) (s' : St) (acc' : List (Int × Int)), stp p a s acc = some (s', acc') → acc'.length = acc.length + a.length
  | [], s, acc, s', acc', h => by
    simp [stp] at h
    obtain ⟨rfl, rfl⟩ := h
    simp
  | t :: r, s, acc, s', acc', h => by
    simp only [stp] at h
    split at h
    · split at h
      · have := stp_len p r _ _ s' acc' h
        simp at this ⊢
        omega
      · cases h
    · cases h

theorem run_stp {p : List (List Ins)} {a : List Int} {s' : St} {acc' : List (Int × Int)} (h : stp p a St.zero [] = some (s', acc')) : runS p a = ⟨acc', endingS p s', 0, 0, s'⟩ := by
  have := follow_stp p a [] 0 St.zero [] s' acc' h
  rw [List.append_nil] at this
  unfold runS
  rw [this]; rfl

theorem stp_of_kind {p : List (List Ins)} {a : List Int} (h : (runS p a).kind ≠ 1 ∧ (runS p a).kind ≠ 2) : ∃ s' acc', stp p a St.zero [] = some (s', acc') := by
  cases hs : stp p a St.zero [] with
  | none =>
    have := (follow_none p a [] 0 St.zero [] hs).2
    unfold runS at h
    rcases this with e | e
    · exact absurd e h.1
    · exact absurd e h.2
  | some x => exact ⟨x.1, x.2, rfl⟩

/-- One number more. -/
theorem run_snoc {p : List (List Ins)} {a : List Int} {s' : St} {acc' : List (Int × Int)} (h : stp p a St.zero [] = some (s', acc')) (t : Int) :
    (okAt p s' t = true → (runS p (a ++ [t])).kind ≠ 2 ∧ (runS p (a ++ [t])).steps = acc' ++ [(t, s'.next t.toNat)]) ∧ (okAt p s' t = false → (runS p (a ++ [t])).kind = 2) := by
  have e : runS p (a ++ [t]) = follow p [t] (0 + a.length) s' acc' := follow_stp p a [t] 0 St.zero [] s' acc' h
  rw [e]
  refine ⟨fun h1 => ?_, fun h1 => ?_⟩
  · by_cases h2 : (stepS p s' t.toNat).1 = true
    · rw [follow_go p t [] _ s' acc' h1 h2, follow_nil]
      have := endingS_range p (stepS p s' t.toNat).2
      exact ⟨by simp only; omega, rfl⟩
    · have h3 : (stepS p s' t.toNat).1 = false := by simpa using h2
      rw [follow_fail p t [] _ s' acc' h1 h3]
      exact ⟨by simp, rfl⟩
  · rw [follow_wrong p t [] _ s' acc' h1]

theorem ending_five {p : List (List Ins)} {s : St} (h : endingS p s = 5) : ∃ t, t < p.length ∧ readyB p s t = true := by
  unfold endingS at h
  split at h
  · rename_i h1
    obtain ⟨t, h2, h3⟩ := List.any_eq_true.1 h1
    exact ⟨t, List.mem_range.1 h2, h3⟩
  · split at h <;> omega

/-- A schedule that was made number by number: all its numbers were done; so long as it was open it grew. -/
def Sched (p : List (List Ins)) (a : List Int) : Prop := (runS p a).kind ≠ 2 ∧ (runS p a).steps.length = a.length

theorem sched_nil (p : List (List Ins)) : Sched p [] := by
  have : runS p [] = ⟨[], endingS p St.zero, 0, 0, St.zero⟩ := rfl
  unfold Sched
  rw [this]
  have := endingS_range p St.zero
  exact ⟨by simp only; omega, rfl⟩

theorem open_stp {p : List (List Ins)} {a : List Int} (h : (runS p a).kind = 5) : ∃ s' acc', stp p a St.zero [] = some (s', acc') ∧ endingS p s' = 5 := by
  obtain ⟨s', acc', hs⟩ := stp_of_kind (p := p) (a := a) ⟨by omega, by omega⟩
  refine ⟨s', acc', hs, ?_⟩
  rw [run_stp hs] at h
  exact h

theorem sched_snoc {p : List (List Ins)} {a : List Int} (h5 : (runS p a).kind = 5) {t : Int} (ht : (runS p (a ++ [t])).kind ≠ 2) : Sched p (a ++ [t]) := by
  obtain ⟨s', acc', hs, _⟩ := open_stp h5
  have h1 := run_snoc hs t
  have hl := stp_len p a _ _ _ _ hs
  cases ho : okAt p s' t with
  | false => exact absurd (h1.2 ho) ht
  | true => exact ⟨ht, by rw [(h1.1 ho).2]; simp at hl ⊢; omega⟩

/-- An open run has a thread that may go on. -/
theorem open_some {p : List (List Ins)} {a : List Int} (h5 : (runS p a).kind = 5) : ∃ t : Nat, t < p.length ∧ (runS p (a ++ [(t : Int)])).kind ≠ 2 := by
  obtain ⟨s', acc', hs, he⟩ := open_stp h5
  obtain ⟨t, ht, hr⟩ := ending_five he
  refine ⟨t, ht, ((run_snoc hs t).1 ?_).1⟩
  simp [okAt, belowB, hr, ht]

/-- Going round from any number on, all come. -/
theorem round_all (n f j : Int) (hf : 0 ≤ f) (hf2 : f < n) (hj : 0 ≤ j) (hj2 : j < n) : ∃ k : Nat, (k : Int) < n ∧ (f + k) % n = j := by
  by_cases h : f ≤ j
  · refine ⟨(j - f).toNat, by omega, ?_⟩
    have : f + ((j - f).toNat : Int) = j := by omega
    rw [this]; exact Int.emod_eq_of_lt hj hj2
  · refine ⟨(j + n - f).toNat, by omega, ?_⟩
    have : f + ((j + n - f).toNat : Int) = j + n := by omega
    rw [this, Int.add_emod_right]; exact Int.emod_eq_of_lt hj hj2

theorem open_round {p : List (List Ins)} {a : List Int} (h5 : (runS p a).kind = 5) {f : Int} (hf : 0 ≤ f) (hf2 : f < p.length) : ∃ k : Nat, k < p.length ∧ (runS p (a ++ [(f + k) % p.length])).kind ≠ 2 := by
  obtain ⟨t, ht, hk⟩ := open_some h5
  obtain ⟨k, h1, h2⟩ := round_all p.length f t hf hf2 (by omega) (by omega)
  exact ⟨k, by omega, by rw [h2]; exact hk⟩

end Go.Proofs.YtklenjmfalljgaaGreatDoor

/- The walk of schedule. -/
namespace Go.Proofs.YtklenjmfalljgaaGreatDoor
open Go.RowKit
attribute [local go_sem] Go.World.cell?_alloc_some

def ints (a : List Int) : List Value := a.map fun x => .int .i64 x
theorem ints_len (a : List Int) : (ints a).length = a.length := by simp [ints]
theorem ints_one (a : List Int) : ∀ v ∈ ints a, v.oneCell' = true := by
  intro v hv
  simp only [ints, List.mem_map] at hv
  obtain ⟨x, _, rfl⟩ := hv; rfl
theorem ints_snoc (a : List Int) (x : Int) : ints (a ++ [x]) = ints a ++ [.int .i64 x] := by simp [ints]

theorem owns_ints {w : World} {base : Nat} {v : Value} {a : List Int} (h : w.ownsRow base 3 1 v a.length (ints a)) : IntsAt w.heap.size w v a := by
  rcases h.2 with ⟨e, e0⟩ | ⟨g, cap, cur, hv, hb, hh, hc, _⟩
  · refine ⟨none, 0, by rw [e, e0], by omega, fun k hk => by omega⟩
  · refine ⟨some ⟨g, 0, none⟩, cap, hv, hc, fun k hk => ⟨g, 0, rfl, (Array.getElem?_eq_some_iff.1 hh).1, ?_⟩⟩
    rw [hv] at h
    rw [Nat.zero_add, h.cellAt k (by omega)]
    simp [ints, hk]

def resCells (o : Out) (s1 g1 : Value) : Array Value := #[.int .i64 o.kind, .int .i64 o.thread, .int .i64 o.at_, s1, .int .i64 (o.st.vars 0), .int .i64 (o.st.vars 1), .int .i64 (o.st.vars 2), .int .i64 (o.st.vars 3), g1]
def zeroRes : Array Value := #[.int .i64 0, .int .i64 0, .int .i64 0, .slice none 0 0, .int .i64 0, .int .i64 0, .int .i64 0, .int .i64 0, .slice none 0 0]

/-- In the midst of schedule: s is a, r its run. -/
structure SchAt (w : World) (p : List (List Ins)) (pb : Value) (rb : Nat) (a : List Int) (sv : Value) (w' : World) : Prop where
  grown : w.grownBy w' none
  row : w'.ownsRow w.heap.size 3 1 sv a.length (ints a)
  nil : a = [] → sv = .slice none 0 0
  apart : sv.ownBlock ≠ some rb
  res : ∃ s1 g1, w'.heap[rb]? = some (.cells (resCells (runS p a) s1 g1) 32 (0, 0)) ∧ w'.ownsRow w.heap.size 84 2 s1 (runS p a).steps.length (flatS (runS p a).steps) ∧ w'.ownsRow w.heap.size 29 4 g1 p.length (regsF p.length (runS p a).st) ∧ s1.ownBlock ≠ some rb ∧ g1.ownBlock ≠ some rb
  box : w'.heap[w.heap.size]? = some (.cells #[pb] 24 (0, 0))
  out : w'.heap[w.heap.size + 1]? = some (.cells zeroRes 32 (0, 0))
  lo : w.heap.size + 2 ≤ rb
  hi : rb < w'.heap.size
  good : Sched p a

theorem SchAt.step {w : World} {p : List (List Ins)} {pb : Value} {rb : Nat} {a : List Int} {sv : Value} {w' w'' : World} (h : SchAt w p pb rb a sv w') (hg : w'.grownBy w'' none) : SchAt w p pb rb a sv w'' := by
  obtain ⟨s1, g1, h1, h2, h3, h4, h5⟩ := h.res
  exact ⟨grown_trans h.grown hg, owns_grown h.row hg (fun _ e => by cases e), h.nil, h.apart, ⟨s1, g1, by rw [hg.block _ h.hi (by simp)]; exact h1, owns_grown h2 hg (fun _ e => by cases e), owns_grown h3 hg (fun _ e => by cases e), h4, h5⟩,
    by rw [hg.block _ (by have := h.lo; have := h.hi; omega) (by simp)]; exact h.box, by rw [hg.block _ (by have := h.lo; have := h.hi; omega) (by simp)]; exact h.out, h.lo, Nat.lt_of_lt_of_le h.hi hg.size, h.good⟩

theorem owns_setCell_ne {w : World} {base : Nat} {e : TypeId} {size : Nat} {v : Value} {n : Nat} {xs : List Value} {g o : Nat} {u : Value} (h : w.ownsRow base e size v n xs) (hne : v.ownBlock ≠ some g) : (w.setCell ⟨g, o, none⟩ u).ownsRow base e size v n xs := by
  obtain ⟨h1, h2⟩ := h
  refine ⟨h1, ?_⟩
  rcases h2 with h2 | ⟨b, cap, cur, hv, hb, hh, rest⟩
  · exact Or.inl h2
  · refine Or.inr ⟨b, cap, cur, hv, hb, ?_, rest⟩
    rw [Below.heap_setCell _ _ _ _ (fun e => hne (by rw [hv]; simp [Value.ownBlock, e]))]; exact hh

theorem set9 {w : World} {g : Nat} {x0 x1 x2 x3 x4 x5 x6 x7 x8 y0 y1 y2 y3 y4 y5 y6 y7 y8 : Value} {t : TypeId} (h : w.heap[g]? = some (.cells #[x0, x1, x2, x3, x4, x5, x6, x7, x8] t (0, 0))) :
    (((((((((w.setCell ⟨g, 0, none⟩ y0).setCell ⟨g, 1, none⟩ y1).setCell ⟨g, 2, none⟩ y2).setCell ⟨g, 3, none⟩ y3).setCell ⟨g, 4, none⟩ y4).setCell ⟨g, 5, none⟩ y5).setCell ⟨g, 6, none⟩ y6).setCell ⟨g, 7, none⟩ y7).setCell ⟨g, 8, none⟩ y8).heap[g]? = some (.cells #[y0, y1, y2, y3, y4, y5, y6, y7, y8] t (0, 0)) := by
  have h0 := heap_setCell_same w g 0 _ t y0 h
  have h1 := heap_setCell_same _ g 1 _ t y1 h0
  have h2 := heap_setCell_same _ g 2 _ t y2 h1
  have h3 := heap_setCell_same _ g 3 _ t y3 h2
  have h4 := heap_setCell_same _ g 4 _ t y4 h3
  have h5 := heap_setCell_same _ g 5 _ t y5 h4
  have h6 := heap_setCell_same _ g 6 _ t y6 h5
  have h7 := heap_setCell_same _ g 7 _ t y7 h6
  have h8 := heap_setCell_same _ g 8 _ t y8 h7
  simpa using h8

/-- r = x, s = t. -/
theorem SchAt.set {w : World} {p : List (List Ins)} {pb : Value} {rb : Nat} {a b : List Int} {sv tv : Value} {w' : World} (h : SchAt w p pb rb a sv w') (hb : b ≠ []) (ht : w'.ownsRow w.heap.size 3 1 tv b.length (ints b)) (hta : tv.ownBlock ≠ some rb) {s1 g1 : Value}
    (hs : w'.ownsRow w.heap.size 84 2 s1 (runS p b).steps.length (flatS (runS p b).steps)) (hg : w'.ownsRow w.heap.size 29 4 g1 p.length (regsF p.length (runS p b).st)) (hsa : s1.ownBlock ≠ some rb) (hga : g1.ownBlock ≠ some rb) (hok : Sched p b) :
    SchAt w p pb rb b tv (((((((((w'.setCell ⟨rb, 0, none⟩ (.int .i64 (runS p b).kind)).setCell ⟨rb, 1, none⟩ (.int .i64 (runS p b).thread)).setCell ⟨rb, 2, none⟩ (.int .i64 (runS p b).at_)).setCell ⟨rb, 3, none⟩ s1).setCell ⟨rb, 4, none⟩ (.int .i64 ((runS p b).st.vars 0))).setCell ⟨rb, 5, none⟩ (.int .i64 ((runS p b).st.vars 1))).setCell ⟨rb, 6, none⟩ (.int .i64 ((runS p b).st.vars 2))).setCell ⟨rb, 7, none⟩ (.int .i64 ((runS p b).st.vars 3))).setCell ⟨rb, 8, none⟩ g1) := by
  obtain ⟨s0, g0, h1, _⟩ := h.res
  have hlo := h.lo
  have hhi := h.hi
  have hother : ∀ k, k ≠ rb → (((((((((w'.setCell ⟨rb, 0, none⟩ (.int .i64 (runS p b).kind)).setCell ⟨rb, 1, none⟩ (.int .i64 (runS p b).thread)).setCell ⟨rb, 2, none⟩ (.int .i64 (runS p b).at_)).setCell ⟨rb, 3, none⟩ s1).setCell ⟨rb, 4, none⟩ (.int .i64 ((runS p b).st.vars 0))).setCell ⟨rb, 5, none⟩ (.int .i64 ((runS p b).st.vars 1))).setCell ⟨rb, 6, none⟩ (.int .i64 ((runS p b).st.vars 2))).setCell ⟨rb, 7, none⟩ (.int .i64 ((runS p b).st.vars 3))).setCell ⟨rb, 8, none⟩ g1).heap[k]? = w'.heap[k]? := fun k hk => by
    iterate 9 rw [Below.heap_setCell _ _ _ _ (by simpa using hk)]
  refine ⟨?_, ?_, fun e => absurd e hb, hta, ⟨s1, g1, set9 h1, ?_, ?_, hsa, hga⟩, ?_, ?_, hlo, by simp; omega, hok⟩
  · iterate 9 refine grown_setNew ?_ (by omega)
    exact h.grown
  · iterate 9 refine owns_setCell_ne ?_ hta
    exact ht
  · iterate 9 refine owns_setCell_ne ?_ hsa
    exact hs
  · iterate 9 refine owns_setCell_ne ?_ hga
    exact hg
  · rw [hother _ (by omega)]; exact h.box
  · rw [hother _ (by omega)]; exact h.out


section
variable {P : Program} {w : World} {ops : Array Oper} {rest : List Oper} {o : Oper} {a : Act} {Q : Exit → Act → World → Prop}
/-- append of a whole slice of numbers onto nil: a new row. -/
theorem wpList_append_copy (hgd : o.guard = none) (s x : Operand) (t : TypeId) (ho : o.op = .call { callee := .builtin .append, args := #[s, x], argTypes := #[t, t] })
    (e : TypeId) (i : TypeInfo) (z : Value) (bytes : Nat) (ht : P.underlying t = some (.slice e)) (hi : P.info? e = some i) (hz : i.zero = some z) (hsize : i.size = 1) (hby : i.bytes = bytes) (hzs : z.cells.size = 1)
    (hs : a.eval s = .slice none 0 0) (sv : Value) (hx : a.eval x = sv) (b0 n : Nat) (xs : List Value) (hown : w.ownsRow b0 e 1 sv n xs) (hnil : n = 0 → sv = .slice none 0 0) (h1 : ∀ u ∈ xs, u.oneCell' = true) (h63 : n ≤ maxLen) (hbytes : n * bytes ≤ 140737488355328)
    (h : ∀ ta tn tc w', w'.ownsRow w.heap.size e 1 (.slice ta tn tc) n xs → w.grownBy w' none → (n = 0 → Value.slice ta tn tc = .slice none 0 0) → wpList P ops Q rest (a.put o.dst (.slice ta tn tc)) w') : wpList P ops Q (o :: rest) a w := by
  refine wpList_plain hgd fun K hK => ?_
  have hnone : w.ownsRow w.heap.size e 1 (.slice none 0 0) 0 [] := ⟨rfl, Or.inl ⟨rfl, rfl⟩⟩
  by_cases h0 : n = 0
  · have hrun := run_append_owned_none (P := P) w w.heap.size t o.type e i 1 ht hi _ 0 [] hnone
    have hx0 : xs = [] := by
      have := hown.1
      rw [h0] at this
      exact List.length_eq_zero_iff.1 (by omega)
    unfold Oper.wp
    simp [execOp, ho, resolve, invoke, builtin, hs, hx, hnil h0, hrun, Result.andThen]
    exact hK _ _ (h _ _ _ w (by rw [h0, hx0]; exact hnone) (grown_refl _ _) (fun _ => rfl))
  · obtain ⟨g, cap, rfl, _, _⟩ := hown.form (by omega)
    have hnews : ∀ j u, xs[j]? = some u → w.cell? ((⟨g, 0, none⟩ : Addr).add j) = some u := fun j u hj => by
      have hadd : (⟨g, 0, none⟩ : Addr).add j = ⟨g, j, none⟩ := by unfold Addr.add; split <;> simp_all
      have hl := (List.getElem?_eq_some_iff.1 hj).1
      rw [hadd, hown.cellAt j (by rw [← hown.1]; exact hl)]; exact hj
    obtain ⟨v', w', hrun, h2, h3, h4, h5⟩ := run_append_own_at (P := P) w w.heap.size t o.type e i z 1 bytes ht hi hz hsize hby hzs (by omega) _ 0 [] hnone ⟨g, 0, none⟩ n cap xs hown.1 hnews h1 (by omega) (by simpa using hbytes) (Nat.le_refl _)
    simp only [Nat.zero_add, List.nil_append] at h2
    obtain ⟨ta, tn, tc, rfl⟩ := owns_form h2
    unfold Oper.wp
    simp [execOp, ho, resolve, invoke, builtin, hs, hx, hrun, Result.andThen]
    exact hK _ _ (h _ _ _ w' h2 h3 (fun e => absurd e h0))
end

end Go.Proofs.YtklenjmfalljgaaGreatDoor

/- The walk of schedule. -/
namespace Go.Proofs.YtklenjmfalljgaaGreatDoor
open Go.RowKit
attribute [local go_sem] Go.World.cell?_alloc_some

theorem info_int : ((Tryz.prog.info? 3).map fun i => (i.zero, i.size, i.bytes)) = some (some (.int .i64 0), 1, 8) := by kernel_rfl

theorem owns_lenq {w : World} {base e size : Nat} {ao : Option Addr} {n c m : Nat} {xs : List Value} (h : w.ownsRow base e size (.slice ao n c) m xs) : n = m := by
  rcases h.2 with ⟨e, e0⟩ | ⟨g, cap, cur, hv, _⟩
  · simp at e; omega
  · simp at hv; omega

theorem owns_out9 {w w' : World} {e size : Nat} {v : Value} {n : Nat} {xs : List Value} {y0 y1 y2 y3 y4 y5 y6 y7 y8 : Value} (h : w'.ownsRow w.heap.size e size v n xs) (ho : w'.heap[w.heap.size + 1]? = some (.cells zeroRes 32 (0, 0))) (he : e ≠ 32) :
    (((((((((w'.setCell ⟨w.heap.size + 1, 0, none⟩ y0).setCell ⟨w.heap.size + 1, 1, none⟩ y1).setCell ⟨w.heap.size + 1, 2, none⟩ y2).setCell ⟨w.heap.size + 1, 3, none⟩ y3).setCell ⟨w.heap.size + 1, 4, none⟩ y4).setCell ⟨w.heap.size + 1, 5, none⟩ y5).setCell ⟨w.heap.size + 1, 6, none⟩ y6).setCell ⟨w.heap.size + 1, 7, none⟩ y7).setCell ⟨w.heap.size + 1, 8, none⟩ y8).drew.ownsRow w.heap.size e size v n xs := by
  have hne : v.ownBlock ≠ some (w.heap.size + 1) := fun eq => by
    rcases h.2 with ⟨e1, _⟩ | ⟨g', _, cur, hv, _, hh, _⟩
    · rw [e1] at eq; cases eq
    · rw [hv] at eq
      have e2 : g' = w.heap.size + 1 := by simpa [Value.ownBlock] using eq
      rw [e2, ho] at hh
      simp at hh
      exact he hh.2.symm
  refine owns_grown (w := (((((((((w'.setCell ⟨w.heap.size + 1, 0, none⟩ y0).setCell ⟨w.heap.size + 1, 1, none⟩ y1).setCell ⟨w.heap.size + 1, 2, none⟩ y2).setCell ⟨w.heap.size + 1, 3, none⟩ y3).setCell ⟨w.heap.size + 1, 4, none⟩ y4).setCell ⟨w.heap.size + 1, 5, none⟩ y5).setCell ⟨w.heap.size + 1, 6, none⟩ y6).setCell ⟨w.heap.size + 1, 7, none⟩ y7).setCell ⟨w.heap.size + 1, 8, none⟩ y8)) (r := none) ?_ (grown_drew (grown_refl _ _)) (fun _ e => by cases e)
  iterate 9 refine owns_setCell_ne ?_ hne
  exact h
theorem grown_out9 {w w' : World} {y0 y1 y2 y3 y4 y5 y6 y7 y8 : Value} (h : w.grownBy w' none) :
    w.grownBy (((((((((w'.setCell ⟨w.heap.size + 1, 0, none⟩ y0).setCell ⟨w.heap.size + 1, 1, none⟩ y1).setCell ⟨w.heap.size + 1, 2, none⟩ y2).setCell ⟨w.heap.size + 1, 3, none⟩ y3).setCell ⟨w.heap.size + 1, 4, none⟩ y4).setCell ⟨w.heap.size + 1, 5, none⟩ y5).setCell ⟨w.heap.size + 1, 6, none⟩ y6).setCell ⟨w.heap.size + 1, 7, none⟩ y7).setCell ⟨w.heap.size + 1, 8, none⟩ y8).drew none := by
  refine grown_drew ?_
  iterate 9 refine grown_setNew ?_ (by omega)
  exact h

/-- What schedule answers. -/
def Scheduled (p : List (List Ins)) (raw : List Int) (w : World) (e : Ending) (w' : World) : Prop :=
  ∃ sv rv a, e = .returned (.tuple #[sv, rv, .bool true]) ∧ w'.ownsRow w.heap.size 3 1 sv a.length (ints a) ∧ ResAt w.heap.size w' (runS p a) p.length rv ∧ Sched p a ∧ a.length ≤ 200 ∧
    ((a.length = raw.length ∨ a.length = 200) ∨ (runS p a).kind ≠ 5) ∧ w.grownBy w' none

theorem checkRun_ok {p : List (List Ins)} {s : List Int} (hv : vProg p = true) (hs : s.length ≤ 500) : checkRunN p s = 0 := by simp [checkRunN, hv, hs]




end Go.Proofs.YtklenjmfalljgaaGreatDoor

/- The reference's Play: what its beginning makes; the verdict's cells. -/
namespace Go.Proofs.YtklenjmfalljgaaGreatDoor
open Go.RowKit
attribute [local go_sem] Go.World.cell?_alloc_some

theorem makes (n : Nat) (hN : n = 1 ∨ n = 2 ∨ n = 3 ∨ n = 4) :
    (∀ u : World, (Instr.makeSlice 25 (.int .i64 n) (.int .i64 n)).run Tryz.prog u = .ok (.slice (some ⟨u.heap.size, 0, none⟩) n n) (u.alloc (.cells (atF n St.zero).toArray 3))) ∧
    (∀ u : World, (Instr.makeSlice 30 (.int .i64 n) (.int .i64 n)).run Tryz.prog u = .ok (.slice (some ⟨u.heap.size, 0, none⟩) n n) (u.alloc (.cells (regsF n St.zero).toArray 29))) := by
  obtain ⟨i0, hi0, hz0, hz1, hz2⟩ := info_parts info_int
  obtain ⟨i1, hi1, hy0, hy1, hy2⟩ := info_parts info_arr
  constructor
  · intro u
    have := run_makeSlice (P := Tryz.prog) u 25 3 i0 _ Tryz.underlying25 hi0 hz0 .i64 .i64 n n (by omega) (Int.le_refl _) (by rw [hz1]; omega) (by rw [hz2]; omega) (by omega)
    rw [this, hz1]
    have e : madeCells (Value.int .i64 0).cells ((n : Int).toNat * 1) = (atF n St.zero).toArray := by
      rcases hN with rfl | rfl | rfl | rfl <;> first | kernel_rfl | simp [madeCells, atF, Value.cells, St.zero, Array.range, List.range_succ]
    rw [e]; rfl
  · intro u
    have := run_makeSlice (P := Tryz.prog) u 30 29 i1 _ Tryz.underlying30 hi1 hy0 .i64 .i64 n n (by omega) (Int.le_refl _) (by rw [hy1]; omega) (by rw [hy2]; omega) (by omega)
    rw [this, hy1]
    have e : madeCells (Value.agg #[.int .i64 0, .int .i64 0, .int .i64 0, .int .i64 0]).cells ((n : Int).toNat * 4) = (regsF n St.zero).toArray := by
      rcases hN with rfl | rfl | rfl | rfl <;> first | kernel_rfl | simp [madeCells, regsF, Value.cells, St.zero, Array.range, List.range_succ]
    rw [e]; rfl

theorem runAt_new1 (w : World) (X : Obj) (n : Nat) (ps : Value) (t1 : TypeId) : RunAt w ((((w.alloc X).alloc (.cells (atF n St.zero).toArray t1)).alloc (.cells (regsF n St.zero).toArray 29)).alloc (.cells (runC ps (w.heap.size + 1) (w.heap.size + 1 + 1) n (.slice none 0 0) St.zero 0 0 0) 126))
    (w.heap.size + 1 + 1 + 1) (w.heap.size + 1) (w.heap.size + 1 + 1) n ps (.slice none 0 0) St.zero [] 0 0 0 := by
  refine ⟨?_, ⟨t1, ?_⟩, ?_, ⟨rfl, Or.inl ⟨rfl, rfl⟩⟩, grown_alloc (grown_alloc (grown_alloc (grown_alloc (grown_refl _ _)))), by omega, by omega, by omega, by omega, by omega⟩
  · have := heap_alloc_new (((w.alloc X).alloc (.cells (atF n St.zero).toArray t1)).alloc (.cells (regsF n St.zero).toArray 29)) (.cells (runC ps (w.heap.size + 1) (w.heap.size + 1 + 1) n (.slice none 0 0) St.zero 0 0 0) 126)
    simpa using this
  · rw [Below.heap_alloc _ _ _ (by simp), Below.heap_alloc _ _ _ (by simp)]
    have := heap_alloc_new (w.alloc X) (.cells (atF n St.zero).toArray t1)
    simpa using this
  · rw [Below.heap_alloc _ _ _ (by simp)]
    have := heap_alloc_new ((w.alloc X).alloc (.cells (atF n St.zero).toArray t1)) (.cells (regsF n St.zero).toArray 29)
    simpa using this
theorem runAt_new2 (w : World) (X : Obj) (n : Nat) (ps : Value) (t1 : TypeId) : RunAt w ((((w.alloc X).alloc (.cells (regsF n St.zero).toArray 29)).alloc (.cells (atF n St.zero).toArray t1)).alloc (.cells (runC ps (w.heap.size + 1 + 1) (w.heap.size + 1) n (.slice none 0 0) St.zero 0 0 0) 126))
    (w.heap.size + 1 + 1 + 1) (w.heap.size + 1 + 1) (w.heap.size + 1) n ps (.slice none 0 0) St.zero [] 0 0 0 := by
  refine ⟨?_, ⟨t1, ?_⟩, ?_, ⟨rfl, Or.inl ⟨rfl, rfl⟩⟩, grown_alloc (grown_alloc (grown_alloc (grown_alloc (grown_refl _ _)))), by omega, by omega, by omega, by omega, by omega⟩
  · have := heap_alloc_new (((w.alloc X).alloc (.cells (regsF n St.zero).toArray 29)).alloc (.cells (atF n St.zero).toArray t1)) (.cells (runC ps (w.heap.size + 1 + 1) (w.heap.size + 1) n (.slice none 0 0) St.zero 0 0 0) 126)
    simpa using this
  · rw [Below.heap_alloc _ _ _ (by simp)]
    have := heap_alloc_new ((w.alloc X).alloc (.cells (regsF n St.zero).toArray 29)) (.cells (atF n St.zero).toArray t1)
    simpa using this
  · rw [Below.heap_alloc _ _ _ (by simp), Below.heap_alloc _ _ _ (by simp)]
    have := heap_alloc_new (w.alloc X) (.cells (regsF n St.zero).toArray 29)
    simpa using this


theorem RunAt.verdict {w0 w : World} {b ab rb n : Nat} {ps st : Value} {s : St} {acc : List (Int × Int)} {k th a : Int} (h : RunAt w0 w b ab rb n ps st s acc k th a) (k' th' a' : Int) :
    RunAt w0 (((w.setCell ⟨b, 11, none⟩ (.int .i64 k')).setCell ⟨b, 12, none⟩ (.int .i64 th')).setCell ⟨b, 13, none⟩ (.int .i64 a')) b ab rb n ps st s acc k' th' a' := by
  have h1 : RunAt w0 (w.setCell ⟨b, 11, none⟩ (.int .i64 k')) b ab rb n ps st s acc k' th a := h.setMain rfl rfl rfl h.row
  have h2 : RunAt w0 ((w.setCell ⟨b, 11, none⟩ (.int .i64 k')).setCell ⟨b, 12, none⟩ (.int .i64 th')) b ab rb n ps st s acc k' th' a := h1.setMain rfl rfl rfl h1.row
  exact h2.setMain rfl rfl rfl h2.row
theorem RunAt.vcells {w0 w : World} {b ab rb n : Nat} {ps st : Value} {s : St} {acc : List (Int × Int)} {k th a : Int} (h : RunAt w0 w b ab rb n ps st s acc k th a) :
    w.cell? ⟨b, 10, none⟩ = some st ∧ w.cell? ⟨b, 11, none⟩ = some (.int .i64 k) ∧ w.cell? ⟨b, 12, none⟩ = some (.int .i64 th) ∧ w.cell? ⟨b, 13, none⟩ = some (.int .i64 a) ∧ w.frozen? ⟨b, 11, none⟩ = false ∧ w.frozen? ⟨b, 12, none⟩ = false ∧ w.frozen? ⟨b, 13, none⟩ = false :=
  ⟨(h.cell 10).1, (h.cell 11).1, (h.cell 12).1, (h.cell 13).1, (h.cell 11).2, (h.cell 12).2, (h.cell 13).2⟩
theorem RunAt.kind {w0 w : World} {b ab rb n : Nat} {ps st : Value} {s : St} {acc : List (Int × Int)} {k th a : Int} (h : RunAt w0 w b ab rb n ps st s acc k th a) (k' : Int) :
    RunAt w0 (w.setCell ⟨b, 11, none⟩ (.int .i64 k')) b ab rb n ps st s acc k' th a := h.setMain rfl rfl rfl h.row

theorem RunAt.last {w0 w : World} {b ab rb n : Nat} {ps st : Value} {s : St} {acc : List (Int × Int)} {k th a : Int} {x : Int × Int} (h : RunAt w0 w b ab rb n ps st s (acc ++ [x]) k th a) :
    ∃ g cap, st = .slice (some ⟨g, 0, none⟩) (acc.length + 1) cap ∧ w.cell? ⟨g, acc.length * 2, none⟩ = some (.int .i64 x.1) ∧ w.cell? ⟨g, acc.length * 2 + 1, none⟩ = some (.int .i64 x.2) := by
  have hr := h.row
  rw [List.length_append] at hr
  have hl : ∀ q : List (Int × Int), (flatS q).length = q.length * 2 := fun q => by
    induction q with
    | nil => rfl
    | cons y q ih =>
      have : flatS (y :: q) = .int .i64 y.1 :: .int .i64 y.2 :: flatS q := rfl
      rw [this]; simp [ih]; omega
  rcases hr.2 with ⟨_, e2⟩ | ⟨g, cap, cur, hv, hb, hh, hx⟩
  · simp at e2
  · have key : ∀ j v, (flatS (acc ++ [x]))[j]? = some v → w.cell? ⟨g, j, none⟩ = some v := fun j v e => by
      rw [← hx.2.2.2, List.getElem?_take] at e
      by_cases hj : j < (acc.length + [x].length) * 2
      · rw [if_pos hj] at e
        simp only [World.cell?, hh]
        simpa using e
      · rw [if_neg hj] at e; cases e
    refine ⟨g, cap, hv, key _ _ ?_, key _ _ ?_⟩
    · rw [flatS_snoc, List.getElem?_append_right (by rw [hl]; omega), hl]; simp
    · rw [flatS_snoc, List.getElem?_append_right (by rw [hl]; omega), hl]; simp

end Go.Proofs.YtklenjmfalljgaaGreatDoor
