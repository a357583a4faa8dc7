/- The texts Rfa Rfb Rfc. -/
import Derived.Test.YtklenjmfalljgaaGreatDoorM03
import Derived.Deep.DeepCutAuto
import Derived.Deep.Cut

/- The reference's Check: pure, and its walk. -/
namespace Go.Proofs.YtklenjmfalljgaaGreatDoor
open Go.RowKit
attribute [local go_sem] Go.World.cell?_alloc_some

def shapeR (op : Int) : Int × Int × Int :=
  if op = 1 then (4, 0, 1) else if 2 ≤ op ∧ op ≤ 7 then (4, 4, 0) else if op = 8 then (4, 0, 2) else if op = 9 ∨ op = 10 then (3, 0, 0) else if op = 11 then (4, 0, 0) else (-1, 0, 0)
def belowR (v n : Int) : Bool := v == 0 || (decide (0 < v) && decide (v < n))
def placeR (c v n : Int) : Bool := c == 1 || v == 0 || (c == 2 && decide (0 < v) && decide (v ≤ n))
def insR (i : Ins) (n : Int) : Bool := !decide ((shapeR i.op).1 < 0) && belowR i.a (shapeR i.op).1 && belowR i.b (shapeR i.op).2.1 && placeR (shapeR i.op).2.2 i.n n

theorem belowR_four (v : Int) : belowR v 4 = belowB v 4 := by
  unfold belowR belowB; rw [Bool.eq_iff_iff]; simp; omega
theorem belowR_three (v : Int) : belowR v 3 = belowB v 3 := by
  unfold belowR belowB; rw [Bool.eq_iff_iff]; simp; omega
theorem belowR_zero (v : Int) : belowR v 0 = (v == 0) := by
  unfold belowR; rw [Bool.eq_iff_iff]; simp; omega
theorem placeR_two (v n : Int) (hn : 0 ≤ n) : placeR 2 v n = belowB v (n + 1) := by
  unfold placeR belowB; rw [Bool.eq_iff_iff]; simp; omega
theorem insR_eq (i : Ins) (n : Int) (hn : 0 ≤ n) : insR i n = vIns i n := by
  obtain ⟨op, a, b, m⟩ := i
  by_cases h : 1 ≤ op ∧ op ≤ 11
  · have hc : op = 1 ∨ op = 2 ∨ op = 3 ∨ op = 4 ∨ op = 5 ∨ op = 6 ∨ op = 7 ∨ op = 8 ∨ op = 9 ∨ op = 10 ∨ op = 11 := by omega
    have z0 : placeR 0 m n = (m == 0) := by unfold placeR; simp
    have z1 : placeR 1 m n = true := by unfold placeR; simp
    have z2 := placeR_two m n hn
    rcases hc with rfl | rfl | rfl | rfl | rfl | rfl | rfl | rfl | rfl | rfl | rfl <;> simp [insR, vIns, shapeR, shp, fitsB, belowR_four, belowR_three, belowR_zero, z0, z1, z2, Bool.and_assoc]
  · have hs : shapeR op = (-1, 0, 0) := by
      unfold shapeR
      rw [if_neg (by omega), if_neg (by omega), if_neg (by omega), if_neg (by omega), if_neg (by omega)]
    have hv : vIns ⟨op, a, b, m⟩ n = false := by
      simp only [vIns]
      by_cases h1 : 1 ≤ op
      · have : ¬ op ≤ 11 := by omega
        simp [this]
      · simp [h1]
    rw [hv]
    simp [insR, hs]

set_option maxHeartbeats 400000 in
theorem rbelow_m (v n : Int) (w : World) : Calls Tryz.prog 56 #[.int .i64 v, .int .i64 n] w fun e w' => e = .returned (.bool (belowR v n)) ∧ w' = w := by
  by_cases h0 : v = 0
  · have HB : Hid (belowR v n = true) := by unfold Hid belowR; simp [h0]
    subst h0
    go_enter Tryz.func56, Tryz.ntmps56
    go_wp2_with fail
    go_ret
    exact ⟨by rw [HB.out]; rfl, rfl⟩
  · have h0' : (v == 0) = false := by simpa using h0
    by_cases h1 : 0 < v
    · by_cases h2 : v < n
      · have HB : Hid (belowR v n = true) := by unfold Hid belowR; simp [h1, h2]
        go_enter Tryz.func56, Tryz.ntmps56
        go_wp2_with fail
        go_ret
        exact ⟨by rw [HB.out]; rfl, rfl⟩
      · have HB : Hid (belowR v n = false) := by unfold Hid belowR; simp [h0, h2]
        have h3 : n ≤ v := by omega
        go_enter Tryz.func56, Tryz.ntmps56
        go_wp2_with fail
        go_ret
        exact ⟨by rw [HB.out]; rfl, rfl⟩
    · have HB : Hid (belowR v n = false) := by unfold Hid belowR; simp [h0, h1]
      have h3 : v ≤ 0 := by omega
      go_enter Tryz.func56, Tryz.ntmps56
      go_wp2_with fail
      go_ret
      exact ⟨by rw [HB.out]; rfl, rfl⟩

def shapeV (x : Int × Int × Int) : Value := .tuple #[.int .i64 x.1, .int .i64 x.2.1, .int .i64 x.2.2]
set_option maxHeartbeats 1000000 in
theorem shape_m (op : Int) (w : World) : Calls Tryz.prog 55 #[.int .i64 op] w fun e w' => e = .returned (shapeV (shapeR op)) ∧ w' = w := by
  by_cases h : 1 ≤ op ∧ op ≤ 11
  · have hc : op = 1 ∨ op = 2 ∨ op = 3 ∨ op = 4 ∨ op = 5 ∨ op = 6 ∨ op = 7 ∨ op = 8 ∨ op = 9 ∨ op = 10 ∨ op = 11 := by omega
    rcases hc with rfl | rfl | rfl | rfl | rfl | rfl | rfl | rfl | rfl | rfl | rfl
    all_goals
      go_enter Tryz.func55, Tryz.ntmps55
      go_wp2_with fail
      refine bodyPost_ret (v := shapeV (shapeR _)) (by simp [results, Tryz.results55, go_sem, shapeV, shapeR]) rfl ⟨rfl, rfl⟩
  · have hs : shapeR op = (-1, 0, 0) := by
      unfold shapeR
      rw [if_neg (by omega), if_neg (by omega), if_neg (by omega), if_neg (by omega), if_neg (by omega)]
    have n1 : (op == 1) = false := by simp; omega
    have n2 : (op == 2) = false := by simp; omega
    have n3 : (op == 3) = false := by simp; omega
    have n4 : (op == 4) = false := by simp; omega
    have n5 : (op == 5) = false := by simp; omega
    have n6 : (op == 6) = false := by simp; omega
    have n7 : (op == 7) = false := by simp; omega
    have n8 : (op == 8) = false := by simp; omega
    have n9 : (op == 9) = false := by simp; omega
    have n10 : (op == 10) = false := by simp; omega
    have n11 : (op == 11) = false := by simp; omega
    rw [hs]
    clear hs h
    go_enter Tryz.func55, Tryz.ntmps55
    go_wp2_with fail
    refine bodyPost_ret (v := shapeV (-1, 0, 0)) (by simp [results, Tryz.results55, go_sem, shapeV]) rfl ⟨rfl, rfl⟩

end Go.Proofs.YtklenjmfalljgaaGreatDoor

/- The walk of the reference's Check. -/
namespace Go.Proofs.YtklenjmfalljgaaGreatDoor
open Go.RowKit
attribute [local go_sem] Go.World.cell?_alloc_some

def chkR (p : List (List Ins)) : Bool := decide (1 ≤ p.length) && (decide (p.length ≤ 4) && p.all fun c => decide (c.length ≤ 16) && c.all fun i => insR i c.length)
theorem chkR_eq (p : List (List Ins)) : chkR p = vProg p := by
  unfold chkR vProg vCode
  congr 2
  congr 1
  funext c
  congr 2
  funext i
  exact insR_eq i _ (by omega)

theorem all_split {α : Type} (l : List α) (f : α → Bool) (k : Nat) (hk : k < l.length) (h : f l[k] = false) : l.all f = false := by
  rw [List.all_eq_false]
  exact ⟨_, List.getElem_mem hk, by simp [h]⟩
theorem take_all {α : Type} (l : List α) (f : α → Bool) (k : Nat) (hk : k < l.length) (h : (l.take k).all f = true) (h2 : f l[k] = true) : (l.take (k + 1)).all f = true := by
  rw [List.take_succ_eq_append_getElem hk, List.all_append, h]; simp [h2]

set_option maxRecDepth 100000 in
set_option maxHeartbeats 4000000 in
theorem refcheck_m (p : List (List Ins)) (pv : Value) (w : World) (hP : ProgAt w pv p) (hp : p.length ≤ 5864062014634) (hpc : ∀ c ∈ p, c.length ≤ 4398046510976) :
    Calls Tryz.prog 32 #[pv] w fun e w' => e = .returned (.int .i64 (checkN p)) ∧ w.grownBy w' none := by
  have HP := hide hP
  have HPC := hide hpc
  obtain ⟨ao, cap, rfl⟩ := hP.form
  clear hP hpc
  have q0 : (p.length : Int) ≤ 5864062014634 := by omega
  have HN1 : Hid (chkR p = false → checkN p = 1) := fun e => by rw [chkR_eq] at e; unfold checkN; simp [e]
  have HN0 : Hid (chkR p = true → checkN p = 0) := fun e => by rw [chkR_eq] at e; unfold checkN; simp [e]
  by_cases hlen : 1 ≤ p.length ∧ p.length ≤ 4
  · have g1 : (1 : Int) ≤ p.length := by omega
    have g4 : (p.length : Int) ≤ 4 := by omega
    have HCK : Hid (∀ r, (p.all fun c => decide (c.length ≤ 16) && c.all fun i => insR i c.length) = r → chkR p = r) := fun r e => by unfold chkR; rw [e]; simp [hlen.1, hlen.2]
    go_enter Tryz.func32, Tryz.ntmps32
    go_wp2_with fail
    have hg1 : w.grownBy (w.alloc (.cells #[.slice ao p.length cap] 24)) none := grown_alloc (grown_refl _ _)
    have hB1 := heap_alloc_new w (.cells #[.slice ao p.length cap] 24)
    generalize w.alloc (.cells #[.slice ao p.length cap] 24) = w1 at hg1 hB1 ⊢
    have HB1 := hide hB1
    have HG1 := hide hg1
    have hbx : w.heap.size < w1.heap.size := (Array.getElem?_eq_some_iff.1 hB1).1
    clear hg1 hB1
    go_loopw [3] (fun i w' => ∃ t : Nat, t ≤ p.length ∧ i = .int .i64 t ∧ Hid (w1.grownBy w' none) ∧ Hid ((p.take t).all (fun c => decide (c.length ≤ 16) && c.all fun i => insR i c.length) = true)) (fun i _ => p.length - (intOf i).toNat)
    case atStart => exact ⟨0, Nat.zero_le _, rfl, hide (grown_refl _ _), by simp [Hid]⟩
    case round =>
      obtain ⟨t, ht, rfl, HG, HA⟩ := hrel
      obtain ⟨w5, hw5⟩ : ∃ w5, w5 = wr := ⟨_, rfl⟩
      rw [← hw5] at HG ⊢
      clear hw5
      have c0 : w5.cell? ⟨w.heap.size, 0, none⟩ = some (.slice ao p.length cap) := pres_grown HG.out _ _ (by have := HB1.out; simp [World.cell?, this])
      by_cases hlt : t < p.length
      · obtain ⟨ao', cap', e1, hcell⟩ := HP.out
        obtain ⟨pg, po, e2, rv, r1, r2⟩ := hcell t hlt
        simp only [Value.agg.injEq, Array.mk.injEq, List.cons.injEq, Value.slice.injEq, and_true, true_and] at e1
        obtain ⟨e1, e1'⟩ := e1
        subst e1 e1' e2
        have hpl : p[t].length ≤ 4398046510976 := HPC.out _ (List.getElem_mem hlt)
        obtain ⟨ca, cc, rfl, hci⟩ := r2
        have d0 : w5.cell? ⟨pg, po + t, none⟩ = some (.slice ca p[t].length cc) := pres_grown (grown_trans HG1.out HG.out) _ _ r1
        have HF : Hid (∀ r, (decide (p[t].length ≤ 16) && p[t].all fun i => insR i p[t].length) = r → (r = false → (p.all fun c => decide (c.length ≤ 16) && c.all fun i => insR i c.length) = false) ∧ (r = true → (p.take (t + 1)).all (fun c => decide (c.length ≤ 16) && c.all fun i => insR i c.length) = true)) := fun r e =>
          ⟨fun e2 => all_split p _ t hlt (by rw [e, e2]), fun e2 => take_all p _ t hlt HA.out (by rw [e, e2])⟩
        have HD0 := hide r1
        have HCI := hide hci
        clear hcell r1 hci
        generalize p[t] = c at *
        have t0 : (0 : Int) ≤ (t : Int) := by omega
        have t1 : (t : Int) < p.length := by omega
        have t2 : (c.length : Int) ≤ 4398046510976 := by omega
        by_cases h16 : c.length ≤ 16
        · have t3 : (c.length : Int) ≤ 16 := by omega
          go_wp2_with fail
          go_loopw [5] (fun i w' => ∃ k : Nat, k ≤ c.length ∧ i = .int .i64 k ∧ Hid (w1.grownBy w' none) ∧ Hid ((c.take k).all (fun i => insR i c.length) = true)) (fun i _ => c.length - (intOf i).toNat)
          case atStart => exact ⟨0, Nat.zero_le _, rfl, HG, by simp [Hid]⟩
          case round =>
            clear c0 d0 HG
            obtain ⟨k, hk, rfl, HG, HA2⟩ := hrel
            obtain ⟨w7, hw7⟩ : ∃ w7, w7 = wr := ⟨_, rfl⟩
            rw [← hw7] at HG ⊢
            clear hw7
            by_cases hkl : k < c.length
            · obtain ⟨ig, io, rfl, x1, x2, x3, x4⟩ := HCI.out k hkl
              have hGW := grown_trans HG1.out HG.out
              have c0 : w7.cell? ⟨w.heap.size, 0, none⟩ = some (.slice (some ⟨pg, po, none⟩) p.length cap) := pres_grown HG.out _ _ (by have := HB1.out; simp [World.cell?, this])
              have d0 : w7.cell? ⟨pg, po + t, none⟩ = some (.slice (some ⟨ig, io, none⟩) c.length cc) := pres_grown hGW _ _ HD0.out
              have y1 := pres_grown hGW _ _ x1
              have y2 := pres_grown hGW _ _ x2
              have y3 := pres_grown hGW _ _ x3
              have y4 := pres_grown hGW _ _ x4
              have HF2 : Hid (∀ r, insR c[k] c.length = r → (r = false → (c.all fun i => insR i c.length) = false) ∧ (r = true → (c.take (k + 1)).all (fun i => insR i c.length) = true)) := fun r e =>
                ⟨fun e2 => all_split c _ k hkl (by rw [e, e2]), fun e2 => take_all c _ k hkl HA2.out (by rw [e, e2])⟩
              clear x1 x2 x3 x4 hGW
              generalize c[k] = ins at *
              obtain ⟨op, ia, ib, im⟩ := ins
              simp only at y1 y2 y3 y4
              have s0 : (0 : Int) ≤ (k : Int) := by omega
              have s1 : (k : Int) < c.length := by omega
              go_wp2_with fail
              have hg8 : w7.grownBy (w7.alloc (.cells #[.int .i64 op, .int .i64 ia, .int .i64 ib, .int .i64 im] 74)) none := grown_alloc (grown_refl _ _)
              have hb8 := heap_alloc_new w7 (.cells #[.int .i64 op, .int .i64 ia, .int .i64 ib, .int .i64 im] 74)
              generalize w7.alloc (.cells #[.int .i64 op, .int .i64 ia, .int .i64 ib, .int .i64 im] 74) = w8 at hg8 hb8 ⊢
              have z1 : w8.cell? ⟨w7.heap.size, 1, none⟩ = some (.int .i64 ia) := by simp [World.cell?, hb8]
              have z2 : w8.cell? ⟨w7.heap.size, 2, none⟩ = some (.int .i64 ib) := by simp [World.cell?, hb8]
              have z3 : w8.cell? ⟨w7.heap.size, 3, none⟩ = some (.int .i64 im) := by simp [World.cell?, hb8]
              have HG8 := hide (grown_trans HG.out hg8)
              clear hg8 hb8 y1 y2 y3 y4 d0 c0 HG
              refine (shape_m op w8).mono ?_
              rintro e w9 ⟨rfl, hw9⟩
              have hw9 := hw9.symm
              subst hw9
              have HIR : Hid (∀ r, (!decide ((shapeR op).1 < 0) && belowR ia (shapeR op).1 && belowR ib (shapeR op).2.1 && placeR (shapeR op).2.2 im c.length) = r → insR ⟨op, ia, ib, im⟩ c.length = r) := fun r e => e
              have hc3 : (shapeR op).2.2 = 0 ∨ (shapeR op).2.2 = 1 ∨ (shapeR op).2.2 = 2 := by
                unfold shapeR; repeat' split
                all_goals simp
              have ha0 : (shapeR op).1 = -1 ∨ 0 ≤ (shapeR op).1 := by
                unfold shapeR; repeat' split
                all_goals simp
              unfold shapeV
              generalize shapeR op = sr at *
              obtain ⟨sa, sb, sc⟩ := sr
              simp only at HIR hc3 ha0 ⊢
              go_wp2_with fail
              refine (rbelow_m ia sa w8).mono ?_
              rintro e w9 ⟨rfl, hw9⟩
              have hw9 := hw9.symm
              subst hw9
              go_wp2_with fail
              refine (rbelow_m ib sb w8).mono ?_
              rintro e w9 ⟨rfl, hw9⟩
              have hw9 := hw9.symm
              subst hw9
              generalize belowR ia sa = xb at *
              generalize belowR ib sb = yb at *
              have HPL : Hid (∀ r, placeR sc im c.length = r → insR ⟨op, ia, ib, im⟩ c.length = (!decide (sa < 0) && xb && yb && r)) := fun r e => HIR.out _ (by rw [e])
              clear HIR
              go_upto_region 16 with fail
              go_cut [12] (fun zv w' => zv = .bool (placeR sc im c.length) ∧ w' = w8)
              case first =>
                by_cases him : im = 0
                · have hpl2 : placeR sc im c.length = true := by unfold placeR; simp [him]
                  have him' : (im == 0) = true := by simpa using him
                  rcases hc3 with rfl | rfl | rfl
                  all_goals
                    go_wp2_with fail
                    go_meet
                    exact ⟨by rw [hpl2], rfl⟩
                · have him' : (im == 0) = false := by simpa using him
                  rcases hc3 with rfl | rfl | rfl
                  · have hpl2 : placeR 0 im c.length = false := by unfold placeR; simp [him]
                    go_wp2_with fail
                    go_meet
                    exact ⟨by rw [hpl2], rfl⟩
                  · have hpl2 : placeR 1 im c.length = true := by unfold placeR; simp
                    go_wp2_with fail
                    go_meet
                    exact ⟨by rw [hpl2], rfl⟩
                  · by_cases hip : 0 < im
                    · by_cases hic : im ≤ (c.length : Int)
                      · have hpl2 : placeR 2 im c.length = true := by unfold placeR; simp [hip, hic]
                        go_wp2_with fail
                        go_meet
                        exact ⟨by rw [hpl2], rfl⟩
                      · have hpl2 : placeR 2 im c.length = false := by unfold placeR; simp [him, hic]
                        have hic' : (c.length : Int) < im := by omega
                        go_wp2_with fail
                        go_meet
                        exact ⟨by rw [hpl2], rfl⟩
                    · have hpl2 : placeR 2 im c.length = false := by unfold placeR; simp [him, hip]
                      have hip' : im ≤ 0 := by omega
                      go_wp2_with fail
                      go_meet
                      exact ⟨by rw [hpl2], rfl⟩
              case rest =>
              obtain ⟨rfl, hwc⟩ := hcut
              have hwc2 := hwc.symm
              subst hwc2
              generalize placeR sc im c.length = zb at *
              have HIN := hide (HPL.out zb rfl)
              clear HPL z1 z2 z3 hc3
              go_upto_region 17 with fail
              go_cut [101] (fun bv w' => bv = .bool (!insR ⟨op, ia, ib, im⟩ c.length) ∧ w' = w8)
              case first =>
                rcases ha0 with rfl | ha0
                · have hin : insR ⟨op, ia, ib, im⟩ c.length = false := by rw [HIN.out]; simp
                  go_wp2_with fail
                  go_meet
                  exact ⟨by rw [hin]; rfl, rfl⟩
                · have hna : ¬ sa < 0 := by omega
                  have hin : insR ⟨op, ia, ib, im⟩ c.length = (xb && yb && zb) := by rw [HIN.out]; simp [hna]
                  cases xb <;> cases yb <;> cases zb
                  all_goals
                    go_wp2_with fail
                    go_meet
                    exact ⟨by rw [hin]; rfl, rfl⟩
              case rest =>
              obtain ⟨rfl, hwc⟩ := hcut
              have hwc2 := hwc.symm
              subst hwc2
              clear HIN ha0
              have HFx := hide (HF2.out (insR ⟨op, ia, ib, im⟩ c.length) rfl)
              clear HF2
              generalize insR ⟨op, ia, ib, im⟩ c.length = rb at *
              cases rb
              · have HE : Hid (checkN p = 1) := by
                  refine HN1.out (HCK.out _ ?_)
                  refine (HF.out _ rfl).1 ?_
                  rw [HFx.out.1 rfl]; simp
                go_wp2_with fail
                go_ret
                exact ⟨by rw [HE.out]; rfl, grown_trans HG1.out HG8.out⟩
              · have HA3 := hide (HFx.out.2 rfl)
                go_wp2_with fail
                go_roundw
                case rel => exact ⟨k + 1, by omega, by go_num, HG8, HA3⟩
                case measure => simp [intOf]; omega
            · have s1 : (c.length : Int) ≤ (k : Int) := by omega
              have HA4 : Hid ((p.take (t + 1)).all (fun c => decide (c.length ≤ 16) && c.all fun i => insR i c.length) = true) := by
                refine (HF.out _ rfl).2 ?_
                have := HA2.out
                rw [List.take_of_length_le (by omega)] at this
                rw [this]; simp [h16]
              go_wp2_with fail
              go_roundw
              case rel => exact ⟨t + 1, by omega, by go_num, HG, HA4⟩
              case measure => simp [intOf]; omega
        · have t3 : (16 : Int) < c.length := by omega
          have HE : Hid (checkN p = 1) := by
            refine HN1.out (HCK.out _ ?_)
            refine (HF.out _ rfl).1 ?_
            simp [h16]
          go_wp2_with fail
          go_ret
          exact ⟨by rw [HE.out]; rfl, grown_trans HG1.out HG.out⟩
      · have t1 : (p.length : Int) ≤ (t : Int) := by omega
        have HE : Hid (checkN p = 0) := by
          refine HN0.out (HCK.out _ ?_)
          have := HA.out
          rw [List.take_of_length_le (by omega)] at this
          exact this
        go_wp2_with fail
        go_ret
        exact ⟨by rw [HE.out]; rfl, grown_trans HG1.out HG.out⟩
  · have HE : Hid (checkN p = 1) := HN1.out (by
      unfold chkR
      by_cases h1 : 1 ≤ p.length
      · have h4 : ¬ p.length ≤ 4 := by omega
        simp [h4]
      · simp [h1])
    by_cases h1 : p.length < 1
    · have g1 : (p.length : Int) < 1 := by omega
      go_enter Tryz.func32, Tryz.ntmps32
      go_wp2_with fail
      go_ret
      exact ⟨by rw [HE.out]; rfl, grown_alloc (grown_refl _ _)⟩
    · have g1 : (1 : Int) ≤ p.length := by omega
      have g4 : (4 : Int) < p.length := by omega
      go_enter Tryz.func32, Tryz.ntmps32
      go_wp2_with fail
      go_ret
      exact ⟨by rw [HE.out]; rfl, grown_alloc (grown_refl _ _)⟩

end Go.Proofs.YtklenjmfalljgaaGreatDoor

/- The reference's run: done, ready, reckon, said of cells. -/
namespace Go.Proofs.YtklenjmfalljgaaGreatDoor
open Go.RowKit
attribute [local go_sem] Go.World.cell?_alloc_some

set_option maxHeartbeats 400000 in
theorem rdone_m (b ab n cap c2 g o t len c : Nat) (ao : Option Addr) (x : Int) (w : World) (ht : t < n) (ht4 : t < 4) (hlen : len ≤ 16)
    (hp : w.cell? ⟨b, 0, none⟩ = some (.slice (some ⟨g, o, none⟩) n cap)) (ha : w.cell? ⟨b, 1, none⟩ = some (.slice (some ⟨ab, 0, none⟩) n c2))
    (hr : w.cell? ⟨g, o + t, none⟩ = some (.slice ao len c)) (hx : w.cell? ⟨ab, t, none⟩ = some (.int .i64 x)) :
    Calls Tryz.prog 82 #[.pointer (some ⟨b, 0, none⟩), .int .i64 t] w fun e w' => e = .returned (.bool (decide ((len : Int) ≤ x))) ∧ Like w' w := by
  have h1 : (0 : Int) ≤ (t : Int) := by omega
  have h2 : (t : Int) < 4 := by omega
  have h3 : (t : Int) < n := by omega
  have h4 : (len : Int) ≤ 16 := by omega
  go_enter Tryz.func82, Tryz.ntmps82
  go_wp2
  go_region
  all_goals (go_wp2; go_ret; exact ⟨rfl, rfl, rfl, rfl, rfl⟩)

set_option maxHeartbeats 400000 in
theorem rready_done (b ab n cap c2 g o t len c : Nat) (ao : Option Addr) (x : Int) (w : World) (ht : t < n) (ht4 : t < 4) (hlen : len ≤ 16) (hd : (len : Int) ≤ x)
    (hp : w.cell? ⟨b, 0, none⟩ = some (.slice (some ⟨g, o, none⟩) n cap)) (ha : w.cell? ⟨b, 1, none⟩ = some (.slice (some ⟨ab, 0, none⟩) n c2))
    (hr : w.cell? ⟨g, o + t, none⟩ = some (.slice ao len c)) (hx : w.cell? ⟨ab, t, none⟩ = some (.int .i64 x)) :
    Calls Tryz.prog 80 #[.pointer (some ⟨b, 0, none⟩), .int .i64 t] w fun e w' => e = .returned (.bool false) ∧ w.grownBy w' none := by
  go_enter Tryz.func80, Tryz.ntmps80
  go_wp2_with fail
  refine (rdone_m b ab n cap c2 g o t len c ao x w ht ht4 hlen hp ha hr hx).mono ?_
  rintro e w' ⟨rfl, hl⟩
  simp only [hd, decide_true]
  go_wp2
  go_ret
  exact ⟨rfl, grown_like (grown_refl _ _) hl⟩

set_option maxHeartbeats 4000000 in
theorem rready_m (b ab n cap c2 g o t len c h ho k : Nat) (i : Ins) (ow : Int) (w : World) (ht : t < n) (ht4 : t < 4) (hlen : len ≤ 16) (hk : k < len)
    (ha0 : 0 ≤ i.a) (ha4 : i.op = 9 → i.a < 3)
    (hp : w.cell? ⟨b, 0, none⟩ = some (.slice (some ⟨g, o, none⟩) n cap)) (ha : w.cell? ⟨b, 1, none⟩ = some (.slice (some ⟨ab, 0, none⟩) n c2))
    (hr : w.cell? ⟨g, o + t, none⟩ = some (.slice (some ⟨h, ho, none⟩) len c)) (hx : w.cell? ⟨ab, t, none⟩ = some (.int .i64 k))
    (y1 : w.cell? ⟨h, ho + k * 4, none⟩ = some (.int .i64 i.op)) (y2 : w.cell? ⟨h, ho + k * 4 + 1, none⟩ = some (.int .i64 i.a))
    (y3 : w.cell? ⟨h, ho + k * 4 + 2, none⟩ = some (.int .i64 i.b)) (y4 : w.cell? ⟨h, ho + k * 4 + 3, none⟩ = some (.int .i64 i.n))
    (_hb : b < w.heap.size) (hown : i.op = 9 → w.cell? ⟨b, 7 + i.a.toNat, none⟩ = some (.int .i64 ow)) :
    Calls Tryz.prog 80 #[.pointer (some ⟨b, 0, none⟩), .int .i64 t] w fun e w' => e = .returned (.bool (!(i.op == 9) || decide (ow < 0))) ∧ w.grownBy w' none := by
  obtain ⟨op, a, ib, im⟩ := i
  simp only at *
  have h1 : (0 : Int) ≤ (t : Int) := by omega
  have h2 : (t : Int) < 4 := by omega
  have h3 : (t : Int) < n := by omega
  have h4 : (0 : Int) ≤ (k : Int) := by omega
  have h5 : (k : Int) < len := by omega
  have hne : decide ((len : Int) ≤ (k : Int)) = false := by simp; omega
  go_enter Tryz.func80, Tryz.ntmps80
  go_wp2_with fail
  refine (rdone_m b ab n cap c2 g o t len c _ k w ht ht4 hlen hp ha hr hx).mono ?_
  rintro e w1 ⟨rfl, hl⟩
  have hg1 : w.grownBy w1 none := grown_like (grown_refl _ _) hl
  have HG := hide hg1
  simp only [hne]
  replace hp := pres_grown hg1 _ _ hp
  replace ha := pres_grown hg1 _ _ ha
  replace hr := pres_grown hg1 _ _ hr
  replace hx := pres_grown hg1 _ _ hx
  replace y1 := pres_grown hg1 _ _ y1
  replace y2 := pres_grown hg1 _ _ y2
  replace y3 := pres_grown hg1 _ _ y3
  replace y4 := pres_grown hg1 _ _ y4
  replace hown : Hid (op = 9 → w1.cell? ⟨b, 7 + a.toNat, none⟩ = some (.int .i64 ow)) := fun e => pres_grown hg1 _ _ (hown e)
  clear hg1 hl
  have n1 := World.new_ne w1 _ hp
  have n2 := World.new_ne w1 _ hr
  have n3 := World.new_ne w1 _ hx
  have n4 := World.new_ne w1 _ y1
  simp only at n1 n2 n3 n4
  have m1 := Ne.symm n1
  have m2 := Ne.symm n2
  have m3 := Ne.symm n3
  have m4 := Ne.symm n4
  by_cases h9 : op = 9
  · subst h9
    have hown := hown.out rfl
    have ha3 := ha4 rfl
    obtain ⟨l, rfl⟩ : ∃ l : Nat, a = l := ⟨a.toNat, by omega⟩
    simp only [Int.toNat_natCast] at hown
    have h6 : (l : Int) < 3 := by omega
    clear ha4
    go_wp2
    go_region
    go_wp2
    go_quiet (fail)
    go_wp2
    go_ret
    exact ⟨by simp, grown_drewN _ (grown_drew (grown_alloc HG.out))⟩
  · have h9' : (op != 9) = true := by simpa using h9
    have h9'' : (op == 9) = false := by simpa using h9
    clear ha4 h9
    go_wp2
    go_region
    go_wp2
    go_quiet (fail)
    go_wp2
    go_ret
    exact ⟨by simp [h9''], grown_drewN _ (grown_drew (grown_alloc HG.out))⟩

def reckonR (op a b : Int) : Int × Bool :=
  if op = 4 then (wrap64 (a + b), true) else if op = 5 then (wrap64 (a - b), true) else if op = 6 then (wrap64 (a * b), true) else if b = 0 then (a, false) else (wrap64 (a.tdiv b), true)

set_option maxHeartbeats 4000000 in
theorem reckon_m (op a b : Int) (w : World) (h : op = 4 ∨ op = 5 ∨ op = 6 ∨ op = 7) :
    Calls Tryz.prog 114 #[.int .i64 op, .int .i64 a, .int .i64 b] w fun e w' => e = .returned (.tuple #[.int .i64 (reckonR op a b).1, .bool (reckonR op a b).2]) ∧ w' = w := by
  rcases h with rfl | rfl | rfl | rfl
  · go_enter Tryz.func114, Tryz.ntmps114
    go_wp2_with fail
    refine bodyPost_ret (v := .tuple #[.int .i64 (wrap64 (a + b)), .bool true]) (by simp [results, Tryz.results114, go_sem]) rfl ⟨rfl, rfl⟩
  · go_enter Tryz.func114, Tryz.ntmps114
    go_wp2_with fail
    refine bodyPost_ret (v := .tuple #[.int .i64 (wrap64 (a - b)), .bool true]) (by simp [results, Tryz.results114, go_sem]) rfl ⟨rfl, rfl⟩
  · go_enter Tryz.func114, Tryz.ntmps114
    go_wp2_with fail
    refine bodyPost_ret (v := .tuple #[.int .i64 (wrap64 (a * b)), .bool true]) (by simp [results, Tryz.results114, go_sem]) rfl ⟨rfl, rfl⟩
  · have HR : Hid (reckonR 7 a b = if b = 0 then (a, false) else (wrap64 (a.tdiv b), true)) := by unfold Hid reckonR; simp
    by_cases h0 : b = 0
    · subst h0
      go_enter Tryz.func114, Tryz.ntmps114
      go_wp2_with fail
      refine bodyPost_ret (v := .tuple #[.int .i64 a, .bool false]) (by simp [results, Tryz.results114, go_sem]) rfl ⟨by rw [HR.out]; rfl, rfl⟩
    · have h0' : (b == 0) = false := by simpa using h0
      by_cases hm : b = -1
      · subst hm
        have HT : Hid (a.tdiv (-1) = -a) := by unfold Hid; simp
        go_enter Tryz.func114, Tryz.ntmps114
        go_wp2_with fail
        refine bodyPost_ret (v := .tuple #[.int .i64 (wrap64 (-a)), .bool true]) (by simp [results, Tryz.results114, go_sem]) rfl ⟨by rw [HR.out, if_neg h0, HT.out], rfl⟩
      · have hm' : (b == -1) = false := by simpa using hm
        go_enter Tryz.func114, Tryz.ntmps114
        go_wp2_with fail
        refine bodyPost_ret (v := .tuple #[.int .i64 (wrap64 (a.tdiv b)), .bool true]) (by simp [results, Tryz.results114, go_sem]) rfl ⟨by rw [HR.out, if_neg h0], rfl⟩

end Go.Proofs.YtklenjmfalljgaaGreatDoor
