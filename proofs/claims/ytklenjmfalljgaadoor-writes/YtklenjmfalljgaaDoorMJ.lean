/- The texts Rfb Rge Rgk Kqd Hgy Wrt3. -/
import Derived.Test.YtklenjmfalljgaaDoorMI
import Derived.Deep.DeepCutAuto
import Derived.Deep.Cut

/- The walk of the reference's Check. -/
namespace Go.Proofs.YtklenjmfalljgaaDoor
open Go.RowKit
attribute [local go_sem] Go.World.cell?_alloc_some

def chkR (p : List (List Ins)) : Bool := decide (1 ≤ p.length) && (decide (p.length ≤ 4) && p.all fun c => decide (c.length ≤ 16) && c.all fun i => insR i c.length)
theorem chkR_eq (p : List (List Ins)) : chkR p = vProg p := by
  unfold chkR vProg vCode
  congr 2
  congr 1
  funext c
  congr 2
  funext i
  exact insR_eq i _ (by omega)

theorem all_split {α : Type} (l : List α) (f : α → Bool) (k : Nat) (hk : k < l.length) (h : f l[k] = false) : l.all f = false := by
  rw [List.all_eq_false]
  exact ⟨_, List.getElem_mem hk, by simp [h]⟩
theorem take_all {α : Type} (l : List α) (f : α → Bool) (k : Nat) (hk : k < l.length) (h : (l.take k).all f = true) (h2 : f l[k] = true) : (l.take (k + 1)).all f = true := by
  rw [List.take_succ_eq_append_getElem hk, List.all_append, h]; simp [h2]

set_option maxRecDepth 100000 in
set_option maxHeartbeats 4000000 in
theorem refcheck_m (p : List (List Ins)) (pv : Value) (w : World) (hP : ProgAt w pv p) (hp : p.length ≤ 5864062014634) (hpc : ∀ c ∈ p, c.length ≤ 4398046510976) :
    Calls Tryd.prog 48 #[pv] w fun e w' => e = .returned (.int .i64 (checkN p)) ∧ w.grownBy w' none := by
  have HP := hide hP
  have HPC := hide hpc
  obtain ⟨ao, cap, rfl⟩ := hP.form
  clear hP hpc
  have q0 : (p.length : Int) ≤ 5864062014634 := by omega
  have HN1 : Hid (chkR p = false → checkN p = 1) := fun e => by rw [chkR_eq] at e; unfold checkN; simp [e]
  have HN0 : Hid (chkR p = true → checkN p = 0) := fun e => by rw [chkR_eq] at e; unfold checkN; simp [e]
  by_cases hlen : 1 ≤ p.length ∧ p.length ≤ 4
  · have g1 : (1 : Int) ≤ p.length := by omega
    have g4 : (p.length : Int) ≤ 4 := by omega
    have HCK : Hid (∀ r, (p.all fun c => decide (c.length ≤ 16) && c.all fun i => insR i c.length) = r → chkR p = r) := fun r e => by unfold chkR; rw [e]; simp [hlen.1, hlen.2]
    go_enter Tryd.func48, Tryd.ntmps48
    go_wp2_with fail
    have hg1 : w.grownBy (w.alloc (.cells #[.slice ao p.length cap] 25)) none := grown_alloc (grown_refl _ _)
    have hB1 := heap_alloc_new w (.cells #[.slice ao p.length cap] 25)
    generalize w.alloc (.cells #[.slice ao p.length cap] 25) = w1 at hg1 hB1 ⊢
    have HB1 := hide hB1
    have HG1 := hide hg1
    have hbx : w.heap.size < w1.heap.size := (Array.getElem?_eq_some_iff.1 hB1).1
    clear hg1 hB1
    go_loopw [3] (fun i w' => ∃ t : Nat, t ≤ p.length ∧ i = .int .i64 t ∧ Hid (w1.grownBy w' none) ∧ Hid ((p.take t).all (fun c => decide (c.length ≤ 16) && c.all fun i => insR i c.length) = true)) (fun i _ => p.length - (intOf i).toNat)
    case atStart => exact ⟨0, Nat.zero_le _, rfl, hide (grown_refl _ _), by simp [Hid]⟩
    case round =>
      obtain ⟨t, ht, rfl, HG, HA⟩ := hrel
      obtain ⟨w5, hw5⟩ : ∃ w5, w5 = wr := ⟨_, rfl⟩
      rw [← hw5] at HG ⊢
      clear hw5
      have c0 : w5.cell? ⟨w.heap.size, 0, none⟩ = some (.slice ao p.length cap) := pres_grown HG.out _ _ (by have := HB1.out; simp [World.cell?, this])
      by_cases hlt : t < p.length
      · obtain ⟨ao', cap', e1, hcell⟩ := HP.out
        obtain ⟨pg, po, e2, rv, r1, r2⟩ := hcell t hlt
        simp only [Value.agg.injEq, Array.mk.injEq, List.cons.injEq, Value.slice.injEq, and_true, true_and] at e1
        obtain ⟨e1, e1'⟩ := e1
        subst e1 e1' e2
        have hpl : p[t].length ≤ 4398046510976 := HPC.out _ (List.getElem_mem hlt)
        obtain ⟨ca, cc, rfl, hci⟩ := r2
        have d0 : w5.cell? ⟨pg, po + t, none⟩ = some (.slice ca p[t].length cc) := pres_grown (grown_trans HG1.out HG.out) _ _ r1
        have HF : Hid (∀ r, (decide (p[t].length ≤ 16) && p[t].all fun i => insR i p[t].length) = r → (r = false → (p.all fun c => decide (c.length ≤ 16) && c.all fun i => insR i c.length) = false) ∧ (r = true → (p.take (t + 1)).all (fun c => decide (c.length ≤ 16) && c.all fun i => insR i c.length) = true)) := fun r e =>
          ⟨fun e2 => all_split p _ t hlt (by rw [e, e2]), fun e2 => take_all p _ t hlt HA.out (by rw [e, e2])⟩
        have HD0 := hide r1
        have HCI := hide hci
        clear hcell r1 hci
        generalize p[t] = c at *
        have t0 : (0 : Int) ≤ (t : Int) := by omega
        have t1 : (t : Int) < p.length := by omega
        have t2 : (c.length : Int) ≤ 4398046510976 := by omega
        by_cases h16 : c.length ≤ 16
        · have t3 : (c.length : Int) ≤ 16 := by omega
          go_wp2_with fail
          go_loopw [5] (fun i w' => ∃ k : Nat, k ≤ c.length ∧ i = .int .i64 k ∧ Hid (w1.grownBy w' none) ∧ Hid ((c.take k).all (fun i => insR i c.length) = true)) (fun i _ => c.length - (intOf i).toNat)
          case atStart => exact ⟨0, Nat.zero_le _, rfl, HG, by simp [Hid]⟩
          case round =>
            clear c0 d0 HG
            obtain ⟨k, hk, rfl, HG, HA2⟩ := hrel
            obtain ⟨w7, hw7⟩ : ∃ w7, w7 = wr := ⟨_, rfl⟩
            rw [← hw7] at HG ⊢
            clear hw7
            by_cases hkl : k < c.length
            · obtain ⟨ig, io, rfl, x1, x2, x3, x4⟩ := HCI.out k hkl
              have hGW := grown_trans HG1.out HG.out
              have c0 : w7.cell? ⟨w.heap.size, 0, none⟩ = some (.slice (some ⟨pg, po, none⟩) p.length cap) := pres_grown HG.out _ _ (by have := HB1.out; simp [World.cell?, this])
              have d0 : w7.cell? ⟨pg, po + t, none⟩ = some (.slice (some ⟨ig, io, none⟩) c.length cc) := pres_grown hGW _ _ HD0.out
              have y1 := pres_grown hGW _ _ x1
              have y2 := pres_grown hGW _ _ x2
              have y3 := pres_grown hGW _ _ x3
              have y4 := pres_grown hGW _ _ x4
              have HF2 : Hid (∀ r, insR c[k] c.length = r → (r = false → (c.all fun i => insR i c.length) = false) ∧ (r = true → (c.take (k + 1)).all (fun i => insR i c.length) = true)) := fun r e =>
                ⟨fun e2 => all_split c _ k hkl (by rw [e, e2]), fun e2 => take_all c _ k hkl HA2.out (by rw [e, e2])⟩
              clear x1 x2 x3 x4 hGW
              generalize c[k] = ins at *
              obtain ⟨op, ia, ib, im⟩ := ins
              simp only at y1 y2 y3 y4
              have s0 : (0 : Int) ≤ (k : Int) := by omega
              have s1 : (k : Int) < c.length := by omega
              go_wp2_with fail
              have hg8 : w7.grownBy (w7.alloc (.cells #[.int .i64 op, .int .i64 ia, .int .i64 ib, .int .i64 im] 28)) none := grown_alloc (grown_refl _ _)
              have hb8 := heap_alloc_new w7 (.cells #[.int .i64 op, .int .i64 ia, .int .i64 ib, .int .i64 im] 28)
              generalize w7.alloc (.cells #[.int .i64 op, .int .i64 ia, .int .i64 ib, .int .i64 im] 28) = w8 at hg8 hb8 ⊢
              have z1 : w8.cell? ⟨w7.heap.size, 1, none⟩ = some (.int .i64 ia) := by simp [World.cell?, hb8]
              have z2 : w8.cell? ⟨w7.heap.size, 2, none⟩ = some (.int .i64 ib) := by simp [World.cell?, hb8]
              have z3 : w8.cell? ⟨w7.heap.size, 3, none⟩ = some (.int .i64 im) := by simp [World.cell?, hb8]
              have HG8 := hide (grown_trans HG.out hg8)
              clear hg8 hb8 y1 y2 y3 y4 d0 c0 HG
              refine (shape_m op w8).mono ?_
              rintro e w9 ⟨rfl, hw9⟩
              have hw9 := hw9.symm
              subst hw9
              have HIR : Hid (∀ r, (!decide ((shapeR op).1 < 0) && belowR ia (shapeR op).1 && belowR ib (shapeR op).2.1 && placeR (shapeR op).2.2 im c.length) = r → insR ⟨op, ia, ib, im⟩ c.length = r) := fun r e => e
              have hc3 : (shapeR op).2.2 = 0 ∨ (shapeR op).2.2 = 1 ∨ (shapeR op).2.2 = 2 := by
                unfold shapeR; repeat' split
                all_goals simp
              have ha0 : (shapeR op).1 = -1 ∨ 0 ≤ (shapeR op).1 := by
                unfold shapeR; repeat' split
                all_goals simp
              unfold shapeV
              generalize shapeR op = sr at *
              obtain ⟨sa, sb, sc⟩ := sr
              simp only at HIR hc3 ha0 ⊢
              go_wp2_with fail
              refine (rbelow_m ia sa w8).mono ?_
              rintro e w9 ⟨rfl, hw9⟩
              have hw9 := hw9.symm
              subst hw9
              go_wp2_with fail
              refine (rbelow_m ib sb w8).mono ?_
              rintro e w9 ⟨rfl, hw9⟩
              have hw9 := hw9.symm
              subst hw9
              generalize belowR ia sa = xb at *
              generalize belowR ib sb = yb at *
              have HPL : Hid (∀ r, placeR sc im c.length = r → insR ⟨op, ia, ib, im⟩ c.length = (!decide (sa < 0) && xb && yb && r)) := fun r e => HIR.out _ (by rw [e])
              clear HIR
              go_upto_region 16 with fail
              go_cut [12] (fun zv w' => zv = .bool (placeR sc im c.length) ∧ w' = w8)
              case first =>
                by_cases him : im = 0
                · have hpl2 : placeR sc im c.length = true := by unfold placeR; simp [him]
                  have him' : (im == 0) = true := by simpa using him
                  rcases hc3 with rfl | rfl | rfl
                  all_goals
                    go_wp2_with fail
                    go_meet
                    exact ⟨by rw [hpl2], rfl⟩
                · have him' : (im == 0) = false := by simpa using him
                  rcases hc3 with rfl | rfl | rfl
                  · have hpl2 : placeR 0 im c.length = false := by unfold placeR; simp [him]
                    go_wp2_with fail
                    go_meet
                    exact ⟨by rw [hpl2], rfl⟩
                  · have hpl2 : placeR 1 im c.length = true := by unfold placeR; simp
                    go_wp2_with fail
                    go_meet
                    exact ⟨by rw [hpl2], rfl⟩
                  · by_cases hip : 0 < im
                    · by_cases hic : im ≤ (c.length : Int)
                      · have hpl2 : placeR 2 im c.length = true := by unfold placeR; simp [hip, hic]
                        go_wp2_with fail
                        go_meet
                        exact ⟨by rw [hpl2], rfl⟩
                      · have hpl2 : placeR 2 im c.length = false := by unfold placeR; simp [him, hic]
                        have hic' : (c.length : Int) < im := by omega
                        go_wp2_with fail
                        go_meet
                        exact ⟨by rw [hpl2], rfl⟩
                    · have hpl2 : placeR 2 im c.length = false := by unfold placeR; simp [him, hip]
                      have hip' : im ≤ 0 := by omega
                      go_wp2_with fail
                      go_meet
                      exact ⟨by rw [hpl2], rfl⟩
              case rest =>
              obtain ⟨rfl, hwc⟩ := hcut
              have hwc2 := hwc.symm
              subst hwc2
              generalize placeR sc im c.length = zb at *
              have HIN := hide (HPL.out zb rfl)
              clear HPL z1 z2 z3 hc3
              go_upto_region 17 with fail
              go_cut [101] (fun bv w' => bv = .bool (!insR ⟨op, ia, ib, im⟩ c.length) ∧ w' = w8)
              case first =>
                rcases ha0 with rfl | ha0
                · have hin : insR ⟨op, ia, ib, im⟩ c.length = false := by rw [HIN.out]; simp
                  go_wp2_with fail
                  go_meet
                  exact ⟨by rw [hin]; rfl, rfl⟩
                · have hna : ¬ sa < 0 := by omega
                  have hin : insR ⟨op, ia, ib, im⟩ c.length = (xb && yb && zb) := by rw [HIN.out]; simp [hna]
                  cases xb <;> cases yb <;> cases zb
                  all_goals
                    go_wp2_with fail
                    go_meet
                    exact ⟨by rw [hin]; rfl, rfl⟩
              case rest =>
              obtain ⟨rfl, hwc⟩ := hcut
              have hwc2 := hwc.symm
              subst hwc2
              clear HIN ha0
              have HFx := hide (HF2.out (insR ⟨op, ia, ib, im⟩ c.length) rfl)
              clear HF2
              generalize insR ⟨op, ia, ib, im⟩ c.length = rb at *
              cases rb
              · have HE : Hid (checkN p = 1) := by
                  refine HN1.out (HCK.out _ ?_)
                  refine (HF.out _ rfl).1 ?_
                  rw [HFx.out.1 rfl]; simp
                go_wp2_with fail
                go_ret
                exact ⟨by rw [HE.out]; rfl, grown_trans HG1.out HG8.out⟩
              · have HA3 := hide (HFx.out.2 rfl)
                go_wp2_with fail
                go_roundw
                case rel => exact ⟨k + 1, by omega, by go_num, HG8, HA3⟩
                case measure => simp [intOf]; omega
            · have s1 : (c.length : Int) ≤ (k : Int) := by omega
              have HA4 : Hid ((p.take (t + 1)).all (fun c => decide (c.length ≤ 16) && c.all fun i => insR i c.length) = true) := by
                refine (HF.out _ rfl).2 ?_
                have := HA2.out
                rw [List.take_of_length_le (by omega)] at this
                rw [this]; simp [h16]
              go_wp2_with fail
              go_roundw
              case rel => exact ⟨t + 1, by omega, by go_num, HG, HA4⟩
              case measure => simp [intOf]; omega
        · have t3 : (16 : Int) < c.length := by omega
          have HE : Hid (checkN p = 1) := by
            refine HN1.out (HCK.out _ ?_)
            refine (HF.out _ rfl).1 ?_
            simp [h16]
          go_wp2_with fail
          go_ret
          exact ⟨by rw [HE.out]; rfl, grown_trans HG1.out HG.out⟩
      · have t1 : (p.length : Int) ≤ (t : Int) := by omega
        have HE : Hid (checkN p = 0) := by
          refine HN0.out (HCK.out _ ?_)
          have := HA.out
          rw [List.take_of_length_le (by omega)] at this
          exact this
        go_wp2_with fail
        go_ret
        exact ⟨by rw [HE.out]; rfl, grown_trans HG1.out HG.out⟩
  · have HE : Hid (checkN p = 1) := HN1.out (by
      unfold chkR
      by_cases h1 : 1 ≤ p.length
      · have h4 : ¬ p.length ≤ 4 := by omega
        simp [h4]
      · simp [h1])
    by_cases h1 : p.length < 1
    · have g1 : (p.length : Int) < 1 := by omega
      go_enter Tryd.func48, Tryd.ntmps48
      go_wp2_with fail
      go_ret
      exact ⟨by rw [HE.out]; rfl, grown_alloc (grown_refl _ _)⟩
    · have g1 : (1 : Int) ≤ p.length := by omega
      have g4 : (4 : Int) < p.length := by omega
      go_enter Tryd.func48, Tryd.ntmps48
      go_wp2_with fail
      go_ret
      exact ⟨by rw [HE.out]; rfl, grown_alloc (grown_refl _ _)⟩

end Go.Proofs.YtklenjmfalljgaaDoor

/- The reference's Encode: the program's bytes, and the whole. -/
namespace Go.Proofs.YtklenjmfalljgaaDoor
open Go.RowKit
attribute [local go_sem] Go.World.cell?_alloc_some

theorem insB_lt (i : Ins) : ∀ x ∈ insB i, x < 256 := by
  intro x hx
  unfold insB wInt at hx
  simp only [List.mem_append] at hx
  rcases hx with hx | hx | hx | hx <;> exact numB_lt _ x hx
theorem codeB_lt (c : List Ins) : ∀ x ∈ codeB c, x < 256 := by
  intro x hx
  unfold codeB wInt at hx
  rcases List.mem_append.1 hx with hx | hx
  · exact numB_lt _ x hx
  · obtain ⟨i, _, hi⟩ := List.mem_flatMap.1 hx
    exact insB_lt i x hi

set_option maxHeartbeats 2000000 in
set_option maxRecDepth 100000 in
theorem encProg {w : World} {n1 n6 : Nat} {X : List Nat} {p : List (List Ins)} {s : List Int} {v : Int × Int × Int} {tv sv : Value} (HX : Hid ([82, 82, 1] ++ numB p.length = X)) (HP : Hid (ProgAt w (.agg #[tv]) p)) (hpl : p.length ≤ 4) (HPS : Hid (∀ c ∈ p, c.length ≤ 16 ∧ ∀ i ∈ c, smallIns i))
    (HI : Hid (IntsAt w.heap.size w sv s)) (HV : Hid (validS s = true)) (HVO : Hid (verOk v = true)) (H0 : Hid (w.cell? ⟨n1, 0, none⟩ = some tv)) (H1 : Hid (w.cell? ⟨n1, 1, none⟩ = some sv)) (H6 : Hid (w.cell? ⟨n6, 0, none⟩ = some (.int .i64 v.1) ∧ w.cell? ⟨n6, 1, none⟩ = some (.int .i64 v.2.1) ∧ w.cell? ⟨n6, 2, none⟩ = some (.int .i64 v.2.2)))
    {Q : Exit → Act → World → Prop} {c0 c2 c3 c4 c5 c7 c8 c9 c10 c11 c12 c13 c14 c15 c16 c17 c18 c19 c20 c21 c22 c23 c24 c25 c26 c27 c28 c29 c30 c31 c32 c33 c34 c35 c36 c37 c38 c39 c40 c41 c42 c43 c44 c45 c46 c47 c48 c49 c50 c51 c52 c53 c54 c55 c56 c57 c58 c59 c60 c61 c62 c63 c64 c65 c66 c67 c68 c69 c70 c71 c72 c73 c74 c75 c76 c77 c78 c79 c80 c81 c82 c83 c84 c85 c86 c87 c88 c89 c90 c91 c92 c93 c94 c95 c96 c97 c98 c99 c100 c101 c102 c103 c104 c105 c106 c107 c108 c109 c110 c111 c112 c113 c114 c115 c116 c117 c118 c119 c120 c121 c122 c123 c124 c125 c126 c127 c128 c129 c130 c131 c132 c133 c134 c135 c136 c137 c138 c139 c140 c141 c142 c143 c144 c145 c146 c147 c148 c149 c150 c151 c152 c153 c154 c155 c156 c157 c158 c159 c160 c161 c162 c163 c164 c165 c166 c167 c168 c169 c170 c171 c172 c173 c174 c175 c176 c177 c178 c179 c180 c181 c182 c183 c184 c185 c186 : Value} (HQP : Hid (∀ c a d v w, Q (.panic c) (Act.put a (some d) v) w → Q (.panic c) a w))
    (HQ : Hid (∀ {z0 z1 z4 z5 z6 z7 z8 z9 z10 z11 z12 z13 z14 z15 z16 z17 z18 z19 z20 z21 z22 z23 z24 z25 z26 z27 z28 z29 z30 z31 z32 z33 z34 z35 z36 z37 z38 z39 z40 z41 z42 z43 z44 z45 z46 z47 z48 z49 z50 z51 z52 z53 z54 z55 z56 z57 z58 z59 z60 z61 z62 z63 z64 z65 z66 z67 z68 z69 z70 z71 z72 z73 z74 z75 z76 z77 z78 z79 z80 z81 z82 z83 z84 z85 z86 z87 z88 z89 z90 z91 z92 z93 z94 z95 z96 z97 z98 z99 z100 z101 z102 z103 z104 z105 z106 z107 z108 z109 z110 z111 z112 z113 z114 z115 z116 z117 z118 z119 z120 z121 z122 z123 z124 z125 z126 z127 z128 z129 z130 z131 z132 z133 z134 z135 z136 z137 z138 z139 z140 z141 z142 z143 z144 z145 z146 z147 z148 z149 z150 z151 z152 z153 z154 z155 z156 z157 z158 z159 z160 z161 z162 z163 z164 z165 z166 z167 z168 z169 z170 z171 z172 z173 z174 z175 z176 z177 z178 z179 z180 z181 z182 z183 z184 z185 z186 : Value} (w' : World), w.grownBy w' none → Q .ret ⟨#[z0, z1, .string (bs ((X ++ p.flatMap codeB) ++ (schB s ++ verB v) ++ leB 4 (crcN ((X ++ p.flatMap codeB) ++ (schB s ++ verB v))))), .int .i64 0, z4, z5, z6, z7, z8, z9, z10, z11, z12, z13, z14, z15, z16, z17, z18, z19, z20, z21, z22, z23, z24, z25, z26, z27, z28, z29, z30, z31, z32, z33, z34, z35, z36, z37, z38, z39, z40, z41, z42, z43, z44, z45, z46, z47, z48, z49, z50, z51, z52, z53, z54, z55, z56, z57, z58, z59, z60, z61, z62, z63, z64, z65, z66, z67, z68, z69, z70, z71, z72, z73, z74, z75, z76, z77, z78, z79, z80, z81, z82, z83, z84, z85, z86, z87, z88, z89, z90, z91, z92, z93, z94, z95, z96, z97, z98, z99, z100, z101, z102, z103, z104, z105, z106, z107, z108, z109, z110, z111, z112, z113, z114, z115, z116, z117, z118, z119, z120, z121, z122, z123, z124, z125, z126, z127, z128, z129, z130, z131, z132, z133, z134, z135, z136, z137, z138, z139, z140, z141, z142, z143, z144, z145, z146, z147, z148, z149, z150, z151, z152, z153, z154, z155, z156, z157, z158, z159, z160, z161, z162, z163, z164, z165, z166, z167, z168, z169, z170, z171, z172, z173, z174, z175, z176, z177, z178, z179, z180, z181, z182, z183, z184, z185, z186], []⟩ w')) :
    Code.wp Tryd.prog (tailOf Tryd.f21 8) Q ⟨#[c0, .pointer (some ⟨n1, 0, none⟩), c2, c3, c4, c5, .pointer (some ⟨n6, 0, none⟩), c7, c8, c9, c10, c11, c12, c13, c14, c15, c16, c17, c18, c19, c20, c21, c22, c23, c24, c25, c26, c27, c28, c29, c30, c31, c32, c33, c34, c35, c36, c37, c38, c39, c40, c41, c42, c43, c44, c45, c46, c47, c48, c49, c50, c51, c52, c53, c54, c55, c56, c57, c58, c59, c60, c61, c62, c63, c64, c65, c66, c67, c68, c69, c70, c71, c72, c73, c74, c75, c76, c77, c78, c79, c80, c81, c82, c83, c84, c85, c86, c87, c88, c89, c90, c91, c92, c93, c94, c95, c96, c97, c98, c99, c100, c101, c102, c103, c104, c105, c106, c107, c108, c109, c110, c111, c112, c113, c114, c115, c116, c117, c118, c119, c120, c121, c122, c123, c124, c125, c126, c127, c128, c129, c130, c131, c132, c133, c134, c135, c136, c137, c138, c139, c140, c141, c142, c143, c144, c145, c146, c147, c148, c149, c150, c151, c152, c153, c154, c155, c156, c157, c158, c159, c160, c161, c162, c163, c164, c165, c166, c167, c168, c169, c170, c171, c172, c173, c174, c175, c176, c177, c178, c179, c180, c181, c182, c183, c184, c185, c186], []⟩ w := by
  conv => arg 2; whnf
  obtain ⟨ta, tc, htv⟩ := HP.out.form
  simp only [Value.agg.injEq, Array.mk.injEq, List.cons.injEq, and_true] at htv
  subst htv
  have qp : (p.length : Int) ≤ 4 := by omega
  have bp := numB_le (n := p.length) (by omega)
  have hX : X.length ≤ 20 := by rw [← HX.out, List.length_append]; simp; omega
  have hX6 : ∀ x ∈ X, x < 256 := by
    rw [← HX.out]
    intro x hx
    rcases List.mem_append.1 hx with hx | hx
    · simp only [List.mem_cons, List.not_mem_nil, or_false] at hx
      omega
    · exact numB_lt _ x hx
  have HNP := hide (fun u => refnumber_m p.length u (by omega))
  have eP := wrap_id p.length (by omega)
  have hcat : Op.stringOp .add (⟨#[82, 82, 1]⟩ : ByteArray) (bs (numB p.length)) = pure (.string (bs X)) := by
    have h3 : (⟨#[82, 82, 1]⟩ : ByteArray) = bs [82, 82, 1] := by decide +kernel
    rw [h3]; exact cat_to HX.out (by simp; omega)
  have k00 := H0.out
  go_wp2_with (go_at_call 50; refine (HNP.out _).mono ?_; clear HNP; rintro e w4 ⟨rfl, hg4⟩; have HG4 := hide hg4; clear hg4)
  clear hcat eP k00
  go_loopw [7, 8] (fun xv iv w' => ∃ (t : Nat) (Z : List Nat), t ≤ p.length ∧ iv = .int .i64 t ∧ xv = .string (bs Z) ∧ Hid (Z = X ++ (p.take t).flatMap codeB) ∧ Z.length ≤ 20 + 650 * t ∧ Hid (w.grownBy w' none)) (fun _ iv _ => p.length - (intOf iv).toNat)
  case atStart => exact ⟨0, X, Nat.zero_le _, rfl, rfl, hide (by simp), by omega, HG4⟩
  case round =>
    clear HG4
    obtain ⟨t, Z, ht, rfl, rfl, HZ, hzl, HG⟩ := hrel
    obtain ⟨w5, hw5⟩ : ∃ w5, w5 = wr := ⟨_, rfl⟩
    rw [← hw5] at HG ⊢
    clear hw5
    have k0 := pres_grown HG.out _ _ H0.out
    by_cases hlt : t < p.length
    · have t0 : (0 : Int) ≤ (t : Int) := by omega
      have t1 : (t : Int) < p.length := by omega
      obtain ⟨pg, po, hao, rv, hrv, hcv⟩ := (show ∃ g o, ta = some ⟨g, o, none⟩ ∧ ∃ rv, w.cell? ⟨g, o + t, none⟩ = some rv ∧ CodeAt w rv p[t] from by
        obtain ⟨ao', cap', e, hh⟩ := HP.out
        simp only [Value.agg.injEq, Array.mk.injEq, List.cons.injEq, Value.slice.injEq, and_true, true_and] at e
        obtain ⟨g, o, e1, rv, e2, e3⟩ := hh t hlt
        exact ⟨g, o, by rw [e.1]; exact e1, rv, e2, e3⟩)
      subst hao
      obtain ⟨hcl, hcs⟩ := HPS.out p[t] (List.getElem_mem hlt)
      have HTK : Hid ((p.take (t + 1)).flatMap codeB = (p.take t).flatMap codeB ++ codeB p[t]) := by
        unfold Hid; rw [List.take_succ_eq_append_getElem hlt, List.flatMap_append, List.flatMap_cons, List.flatMap_nil, List.append_nil]
      generalize p[t] = c at *
      have HCS := hide hcs
      have hcv0 := hcv
      obtain ⟨ca, cc, rfl, hcells⟩ := hcv
      have HCE := hide hcells
      have r5 := pres_grown HG.out _ _ hrv
      have qc : (c.length : Int) ≤ 16 := by omega
      have HNL := hide (fun u => refnumber_m c.length u (by omega))
      have eL := wrap_id c.length (by omega)
      have bl := numB_le (n := c.length) (by omega)
      obtain ⟨Z1, hZ1⟩ : ∃ Y, Z ++ numB c.length = Y := ⟨_, rfl⟩
      have l1 : Z1.length ≤ Z.length + 10 := by rw [← hZ1, List.length_append]; omega
      have z1 := cat_to hZ1 (by omega)
      have HZ1 := hide hZ1
      have HL1 : Hid (Z1.length ≤ 30 + 650 * t) := by unfold Hid; omega
      clear hcells hcv0 hrv hcs hZ1
      go_upto_region 14 with (go_at_call 50; refine (HNL.out _).mono ?_; clear HNL; rintro e w6 ⟨rfl, hg6⟩; have HG6 := hide (grown_trans HG.out hg6); clear hg6)
      clear k0 r5 z1 eL
      go_wp2_with fail
      go_loopw [7, 10] (fun xv kv w' => ∃ (k : Nat) (V : List Nat), k ≤ c.length ∧ kv = .int .i64 k ∧ xv = .string (bs V) ∧ Hid (V = Z1 ++ (c.take k).flatMap insB) ∧ V.length ≤ Z1.length + 40 * k ∧ Hid (w.grownBy w' none)) (fun _ kv _ => c.length - (intOf kv).toNat)
      case atStart => exact ⟨0, Z1, Nat.zero_le _, rfl, rfl, hide (by simp), by omega, HG6⟩
      case round =>
        clear HG6
        obtain ⟨k, V, hk, rfl, rfl, HV1, hvl, HG6⟩ := hrel
        obtain ⟨w6, hw6⟩ : ∃ w6, w6 = wr := ⟨_, rfl⟩
        rw [← hw6] at HG6 ⊢
        clear hw6
        by_cases hkl : k < c.length
        · have t2 : (0 : Int) ≤ (k : Int) := by omega
          have t3 : (k : Int) < c.length := by omega
          obtain ⟨cg, co, rfl, x0, x1, x2, x3⟩ := HCE.out k hkl
          obtain ⟨s0, s1, s2, s3⟩ := HCS.out c[k] (List.getElem_mem hkl)
          have HTI : Hid ((c.take (k + 1)).flatMap insB = (c.take k).flatMap insB ++ insB c[k]) := by
            unfold Hid; rw [List.take_succ_eq_append_getElem hkl, List.flatMap_append, List.flatMap_cons, List.flatMap_nil, List.append_nil]
          have HSM : Hid (smallIns c[k]) := ⟨s0, s1, s2, s3⟩
          generalize c[k] = ii at *
          obtain ⟨oo, aa, bb, nn⟩ := ii
          simp only at s0 s1 s2 s3 x0 x1 x2 x3
          obtain ⟨o0, rfl⟩ := Int.eq_ofNat_of_zero_le s0.1
          obtain ⟨a0, rfl⟩ := Int.eq_ofNat_of_zero_le s1.1
          obtain ⟨b0, rfl⟩ := Int.eq_ofNat_of_zero_le s2.1
          have q0 : (o0 : Int) ≤ 11 := s0.2
          have q1 : (a0 : Int) ≤ 3 := s1.2
          have q2 : (b0 : Int) ≤ 3 := s2.2
          have HST : Hid (∀ u, w.grownBy u none → u.cell? ⟨cg, co + k * 4, none⟩ = some (.int .i64 (o0 : Int)) ∧ u.cell? ⟨cg, co + k * 4 + 1, none⟩ = some (.int .i64 (a0 : Int)) ∧ u.cell? ⟨cg, co + k * 4 + 2, none⟩ = some (.int .i64 (b0 : Int)) ∧ u.cell? ⟨cg, co + k * 4 + 3, none⟩ = some (.int .i64 nn)) := fun u hu => ⟨pres_grown hu _ _ x0, pres_grown hu _ _ x1, pres_grown hu _ _ x2, pres_grown hu _ _ x3⟩
          have hz : zig nn < 18446744073709551616 := by unfold zig; split <;> omega
          have HNO := hide (fun u => refnumber_m o0 u (by omega))
          have HNA := hide (fun u => refnumber_m a0 u (by omega))
          have HNB := hide (fun u => refnumber_m b0 u (by omega))
          have HPR := hide (fun u => refpair_m nn u s3.1 s3.2)
          have HNZ := hide (fun u => refnumber_m (zig nn) u hz)
          have e0 := wrap_id o0 (by omega)
          have e1 := wrap_id a0 (by omega)
          have e2 := wrap_id b0 (by omega)
          have b1 := numB_le (n := o0) (by omega)
          have b2 := numB_le (n := a0) (by omega)
          have b3 := numB_le (n := b0) (by omega)
          have b4 := numB_le hz
          obtain ⟨V1, hV1⟩ : ∃ Y, V ++ numB o0 = Y := ⟨_, rfl⟩
          obtain ⟨V2, hV2⟩ : ∃ Y, V1 ++ numB a0 = Y := ⟨_, rfl⟩
          obtain ⟨V3, hV3⟩ : ∃ Y, V2 ++ numB b0 = Y := ⟨_, rfl⟩
          obtain ⟨V4, hV4⟩ : ∃ Y, V3 ++ numB (zig nn) = Y := ⟨_, rfl⟩
          have l1' : V1.length ≤ V.length + 10 := by rw [← hV1, List.length_append]; omega
          have l2' : V2.length ≤ V.length + 20 := by rw [← hV2, List.length_append]; omega
          have l3' : V3.length ≤ V.length + 30 := by rw [← hV3, List.length_append]; omega
          have l4' : V4.length ≤ V.length + 40 := by rw [← hV4, List.length_append]; omega
          have y1 := cat_to hV1 (by omega)
          have y2 := cat_to hV2 (by omega)
          have y3 := cat_to hV3 (by omega)
          have y4 := cat_to hV4 (by omega)
          have HVN : Hid (V4 = Z1 ++ (c.take (k + 1)).flatMap insB) := by
            unfold Hid
            rw [HTI.out, ← hV4, ← hV3, ← hV2, ← hV1, HV1.out]
            simp [insB, wInt]
          have hSt := HST.out w6.drew (grown_drew HG6.out)
          generalize zig nn = zn at *
          clear hV1 hV2 hV3 hV4 x0 x1 x2 x3 s0 s1 s2 s3 hz HTI HSM
          go_upto_region 17 with fail
          refine wp_region_head (fun u => u.cell? ⟨cg, co + k * 4, none⟩ = some (.int .i64 (o0 : Int)) ∧ u.cell? ⟨cg, co + k * 4 + 1, none⟩ = some (.int .i64 (a0 : Int)) ∧ u.cell? ⟨cg, co + k * 4 + 2, none⟩ = some (.int .i64 (b0 : Int)) ∧ u.cell? ⟨cg, co + k * 4 + 3, none⟩ = some (.int .i64 nn)) 33 (by kernel_rfl) (by kernel_rfl) hSt ?_
          intro hHeld
          refine wpHead_take (i := 0) (v := ?vv1) rfl (by kernel_rfl) (fun c _ _ h => HQP.out c _ _ _ _ h) (Or.inl ⟨by kernel_rfl, ?hy1⟩) hHeld ?rest1
          case hy1 => (rintro u ⟨hu0, hu1, hu2, hu3⟩; go_simp; try with_reducible rfl)
          simp only [Act.put, List.setIfInBounds_toArray]
          refine wpHead_take (i := 1) (v := ?vv2) rfl (by kernel_rfl) (fun c _ _ h => HQP.out c _ _ _ _ h) (Or.inl ⟨by kernel_rfl, ?hy2⟩) hHeld ?rest2
          case hy2 => (rintro u ⟨hu0, hu1, hu2, hu3⟩; go_simp; try with_reducible rfl)
          simp only [Act.put]
          refine wpHead_take (i := 2) (v := ?vv3) rfl (by kernel_rfl) (fun c _ _ h => HQP.out c _ _ _ _ h) (Or.inl ⟨by kernel_rfl, ?hy3⟩) hHeld ?rest3
          case hy3 => (rintro u ⟨hu0, hu1, hu2, hu3⟩; go_simp; try with_reducible rfl)
          simp only [Act.put]
          refine wpHead_take (i := 3) (v := ?vv4) rfl (by kernel_rfl) (fun c _ _ h => HQP.out c _ _ _ _ h) (Or.inl ⟨by kernel_rfl, ?hy4⟩) hHeld ?rest4
          case hy4 => (rintro u ⟨hu0, hu1, hu2, hu3⟩; go_simp; try with_reducible rfl)
          simp only [Act.put]
          refine wpHead_take (i := 4) (v := ?vv5) rfl (by kernel_rfl) (fun c _ _ h => HQP.out c _ _ _ _ h) (Or.inl ⟨by kernel_rfl, ?hy5⟩) hHeld ?rest5
          case hy5 => (rintro u ⟨hu0, hu1, hu2, hu3⟩; go_simp; try with_reducible rfl)
          simp only [Act.put]
          refine wpHead_take (i := 5) (v := ?vv6) rfl (by kernel_rfl) (fun c _ _ h => HQP.out c _ _ _ _ h) (Or.inl ⟨by kernel_rfl, ?hy6⟩) hHeld ?rest6
          case hy6 => (rintro u ⟨hu0, hu1, hu2, hu3⟩; go_simp; try with_reducible rfl)
          simp only [Act.put]
          refine wpHead_take (i := 6) (v := ?vv7) rfl (by kernel_rfl) (fun c _ _ h => HQP.out c _ _ _ _ h) (Or.inl ⟨by kernel_rfl, ?hy7⟩) hHeld ?rest7
          case hy7 => (rintro u ⟨hu0, hu1, hu2, hu3⟩; go_simp; try with_reducible rfl)
          simp only [Act.put]
          refine wpHead_take (i := 9) (v := ?vv8) rfl (by kernel_rfl) (fun c _ _ h => HQP.out c _ _ _ _ h) (Or.inl ⟨by kernel_rfl, ?hy8⟩) hHeld ?rest8
          case hy8 => (rintro u ⟨hu0, hu1, hu2, hu3⟩; go_simp; try with_reducible rfl)
          simp only [Act.put]
          refine wpHead_take (i := 10) (v := ?vv9) rfl (by kernel_rfl) (fun c _ _ h => HQP.out c _ _ _ _ h) (Or.inl ⟨by kernel_rfl, ?hy9⟩) hHeld ?rest9
          case hy9 => (rintro u ⟨hu0, hu1, hu2, hu3⟩; go_simp; try with_reducible rfl)
          simp only [Act.put]
          refine wpHead_take (i := 11) (v := ?vv10) rfl (by kernel_rfl) (fun c _ _ h => HQP.out c _ _ _ _ h) (Or.inl ⟨by kernel_rfl, ?hy10⟩) hHeld ?rest10
          case hy10 => (rintro u ⟨hu0, hu1, hu2, hu3⟩; go_simp; try with_reducible rfl)
          simp only [Act.put]
          refine wpHead_take (i := 12) (v := ?vv11) rfl (by kernel_rfl) (fun c _ _ h => HQP.out c _ _ _ _ h) (Or.inl ⟨by kernel_rfl, ?hy11⟩) hHeld ?rest11
          case hy11 => (rintro u ⟨hu0, hu1, hu2, hu3⟩; go_simp; try with_reducible rfl)
          simp only [Act.put]
          refine wpHead_take (i := 13) (v := ?vv12) rfl (by kernel_rfl) (fun c _ _ h => HQP.out c _ _ _ _ h) (Or.inl ⟨by kernel_rfl, ?hy12⟩) hHeld ?rest12
          case hy12 => (rintro u ⟨hu0, hu1, hu2, hu3⟩; go_simp; try with_reducible rfl)
          simp only [Act.put]
          refine wpHead_take (i := 14) (v := ?vv13) rfl (by kernel_rfl) (fun c _ _ h => HQP.out c _ _ _ _ h) (Or.inl ⟨by kernel_rfl, ?hy13⟩) hHeld ?rest13
          case hy13 => (rintro u ⟨hu0, hu1, hu2, hu3⟩; go_simp; try with_reducible rfl)
          simp only [Act.put]
          refine wpHead_take (i := 17) (v := ?vv14) rfl (by kernel_rfl) (fun c _ _ h => HQP.out c _ _ _ _ h) (Or.inl ⟨by kernel_rfl, ?hy14⟩) hHeld ?rest14
          case hy14 => (rintro u ⟨hu0, hu1, hu2, hu3⟩; go_simp; try with_reducible rfl)
          simp only [Act.put]
          refine wpHead_take (i := 18) (v := ?vv15) rfl (by kernel_rfl) (fun c _ _ h => HQP.out c _ _ _ _ h) (Or.inl ⟨by kernel_rfl, ?hy15⟩) hHeld ?rest15
          case hy15 => (rintro u ⟨hu0, hu1, hu2, hu3⟩; go_simp; try with_reducible rfl)
          simp only [Act.put]
          refine wpHead_take (i := 19) (v := ?vv16) rfl (by kernel_rfl) (fun c _ _ h => HQP.out c _ _ _ _ h) (Or.inl ⟨by kernel_rfl, ?hy16⟩) hHeld ?rest16
          case hy16 => (rintro u ⟨hu0, hu1, hu2, hu3⟩; go_simp; try with_reducible rfl)
          simp only [Act.put]
          refine wpHead_take (i := 20) (v := ?vv17) rfl (by kernel_rfl) (fun c _ _ h => HQP.out c _ _ _ _ h) (Or.inl ⟨by kernel_rfl, ?hy17⟩) hHeld ?rest17
          case hy17 => (rintro u ⟨hu0, hu1, hu2, hu3⟩; go_simp; try with_reducible rfl)
          simp only [Act.put]
          refine wpHead_take (i := 21) (v := ?vv18) rfl (by kernel_rfl) (fun c _ _ h => HQP.out c _ _ _ _ h) (Or.inl ⟨by kernel_rfl, ?hy18⟩) hHeld ?rest18
          case hy18 => (rintro u ⟨hu0, hu1, hu2, hu3⟩; go_simp; try with_reducible rfl)
          simp only [Act.put]
          refine wpHead_take (i := 22) (v := ?vv19) rfl (by kernel_rfl) (fun c _ _ h => HQP.out c _ _ _ _ h) (Or.inl ⟨by kernel_rfl, ?hy19⟩) hHeld ?rest19
          case hy19 => (rintro u ⟨hu0, hu1, hu2, hu3⟩; go_simp; try with_reducible rfl)
          simp only [Act.put]
          refine wpHead_take (i := 25) (v := ?vv20) rfl (by kernel_rfl) (fun c _ _ h => HQP.out c _ _ _ _ h) (Or.inl ⟨by kernel_rfl, ?hy20⟩) hHeld ?rest20
          case hy20 => (rintro u ⟨hu0, hu1, hu2, hu3⟩; go_simp; try with_reducible rfl)
          simp only [Act.put]
          refine wpHead_take (i := 26) (v := ?vv21) rfl (by kernel_rfl) (fun c _ _ h => HQP.out c _ _ _ _ h) (Or.inl ⟨by kernel_rfl, ?hy21⟩) hHeld ?rest21
          case hy21 => (rintro u ⟨hu0, hu1, hu2, hu3⟩; go_simp; try with_reducible rfl)
          simp only [Act.put]
          refine wpHead_take (i := 27) (v := ?vv22) rfl (by kernel_rfl) (fun c _ _ h => HQP.out c _ _ _ _ h) (Or.inl ⟨by kernel_rfl, ?hy22⟩) hHeld ?rest22
          case hy22 => (rintro u ⟨hu0, hu1, hu2, hu3⟩; go_simp; try with_reducible rfl)
          simp only [Act.put]
          refine wpHead_take (i := 28) (v := ?vv23) rfl (by kernel_rfl) (fun c _ _ h => HQP.out c _ _ _ _ h) (Or.inl ⟨by kernel_rfl, ?hy23⟩) hHeld ?rest23
          case hy23 => (rintro u ⟨hu0, hu1, hu2, hu3⟩; go_simp; try with_reducible rfl)
          simp only [Act.put]
          refine wpHead_take (i := 29) (v := ?vv24) rfl (by kernel_rfl) (fun c _ _ h => HQP.out c _ _ _ _ h) (Or.inl ⟨by kernel_rfl, ?hy24⟩) hHeld ?rest24
          case hy24 => (rintro u ⟨hu0, hu1, hu2, hu3⟩; go_simp; try with_reducible rfl)
          simp only [Act.put]
          refine wpHead_alone (i := 7) rfl (by kernel_rfl) (by kernel_rfl) (by kernel_rfl) ?_
          intro K7 hK7
          have HK7 := hide hK7
          clear hK7
          go_simp
          refine (HNO.out _).mono ?_
          rintro e u1 ⟨rfl, hg1⟩
          have HU1 : Hid (w6.grownBy u1 none) := grown_offDrew' hg1
          have hHeld1 := HST.out u1 (grown_trans HG6.out HU1.out)
          clear hg1
          refine HK7.out _ _ hHeld1 ?_
          clear HK7
          try simp only [Act.put, List.setIfInBounds_toArray]
          refine wpHead_take (i := 8) (v := ?vv25) rfl (by kernel_rfl) (fun c _ _ h => HQP.out c _ _ _ _ h) (Or.inl ⟨by kernel_rfl, ?hy25⟩) hHeld1 ?rest25
          case hy25 => (rintro u ⟨hu0, hu1, hu2, hu3⟩; go_simp; try with_reducible rfl)
          simp only [Act.put, List.setIfInBounds_toArray]
          refine wpHead_alone (i := 15) rfl (by kernel_rfl) (by kernel_rfl) (by kernel_rfl) ?_
          intro K15 hK15
          have HK15 := hide hK15
          clear hK15
          go_simp
          refine (HNA.out _).mono ?_
          rintro e u2 ⟨rfl, hg2⟩
          have HU2 : Hid (w6.grownBy u2 none) := grown_trans HU1.out hg2
          have hHeld2 := HST.out u2 (grown_trans HG6.out HU2.out)
          clear hg2
          refine HK15.out _ _ hHeld2 ?_
          clear HK15
          try simp only [Act.put, List.setIfInBounds_toArray]
          refine wpHead_take (i := 16) (v := ?vv26) rfl (by kernel_rfl) (fun c _ _ h => HQP.out c _ _ _ _ h) (Or.inl ⟨by kernel_rfl, ?hy26⟩) hHeld2 ?rest26
          case hy26 => (rintro u ⟨hu0, hu1, hu2, hu3⟩; go_simp; try with_reducible rfl)
          simp only [Act.put, List.setIfInBounds_toArray]
          refine wpHead_alone (i := 23) rfl (by kernel_rfl) (by kernel_rfl) (by kernel_rfl) ?_
          intro K23 hK23
          have HK23 := hide hK23
          clear hK23
          go_simp
          refine (HNB.out _).mono ?_
          rintro e u3 ⟨rfl, hg3⟩
          have HU3 : Hid (w6.grownBy u3 none) := grown_trans HU2.out hg3
          have hHeld3 := HST.out u3 (grown_trans HG6.out HU3.out)
          clear hg3
          refine HK23.out _ _ hHeld3 ?_
          clear HK23
          try simp only [Act.put, List.setIfInBounds_toArray]
          refine wpHead_take (i := 24) (v := ?vv27) rfl (by kernel_rfl) (fun c _ _ h => HQP.out c _ _ _ _ h) (Or.inl ⟨by kernel_rfl, ?hy27⟩) hHeld3 ?rest27
          case hy27 => (rintro u ⟨hu0, hu1, hu2, hu3⟩; go_simp; try with_reducible rfl)
          simp only [Act.put, List.setIfInBounds_toArray]
          refine wpHead_alone (i := 30) rfl (by kernel_rfl) (by kernel_rfl) (by kernel_rfl) ?_
          intro K30 hK30
          have HK30 := hide hK30
          clear hK30
          go_simp
          refine (HPR.out _).mono ?_
          rintro e u3b ⟨rfl, hu3b⟩
          obtain rfl := hu3b.symm
          refine HK30.out _ _ hHeld3 ?_
          clear HK30
          try simp only [Act.put, List.setIfInBounds_toArray]
          refine wpHead_alone (i := 31) rfl (by kernel_rfl) (by kernel_rfl) (by kernel_rfl) ?_
          intro K31 hK31
          have HK31 := hide hK31
          clear hK31
          go_simp
          refine (HNZ.out _).mono ?_
          rintro e u4 ⟨rfl, hg4⟩
          have HU4 : Hid (w6.grownBy u4 none) := grown_trans HU3.out hg4
          have hHeld4 := HST.out u4 (grown_trans HG6.out HU4.out)
          clear hg4
          refine HK31.out _ _ hHeld4 ?_
          clear HK31
          try simp only [Act.put, List.setIfInBounds_toArray]
          refine wpHead_take (i := 32) (v := ?vv28) rfl (by kernel_rfl) (fun c _ _ h => HQP.out c _ _ _ _ h) (Or.inl ⟨by kernel_rfl, ?hy28⟩) hHeld4 ?rest28
          case hy28 => (rintro u ⟨hu0, hu1, hu2, hu3⟩; go_simp; try with_reducible rfl)
          simp only [Act.put, List.setIfInBounds_toArray]
          refine wpHead_last rfl (by kernel_rfl) (by kernel_rfl) (by kernel_rfl) ?_
          go_simp
          clear hHeld hHeld1 hHeld2 hHeld3 hHeld4 y1 y2 y3 y4 hSt
          go_wp2_with fail
          go_roundw
          case rel => exact ⟨k + 1, V4, by omega, by go_num, rfl, HVN, by omega, hide (grown_trans HG6.out HU4.out)⟩
          case measure => simp [intOf]; omega
        · have t3 : (c.length : Int) ≤ (k : Int) := by omega
          have HVE : Hid (V = X ++ (p.take (t + 1)).flatMap codeB) := by
            unfold Hid
            rw [HV1.out, List.take_of_length_le (show c.length ≤ k by omega), HTK.out, ← HZ1.out, HZ.out]
            simp [codeB, wInt]
          have hvl2 : V.length ≤ 20 + 650 * (t + 1) := by have := HL1.out; omega
          go_wp2_with fail
          go_roundw
          case rel => exact ⟨t + 1, V, by omega, by go_num, rfl, HVE, hvl2, HG6⟩
          case measure => simp [intOf]; omega
    · have t1 : (p.length : Int) ≤ (t : Int) := by omega
      have HZE : Hid (Z = X ++ p.flatMap codeB) := by
        unfold Hid; rw [HZ.out, List.take_of_length_le (by omega)]
      have hzl2 : Z.length ≤ 1000000 := by omega
      have HZ6 : Hid (∀ x ∈ Z, x < 256) := by
        unfold Hid; rw [HZE.out]
        intro x hx
        rcases List.mem_append.1 hx with hx | hx
        · exact hX6 x hx
        · obtain ⟨c, _, hc⟩ := List.mem_flatMap.1 hx
          exact codeB_lt c x hc
      rw [← HZE.out] at HQ
      go_upto_if 71 with fail
      refine wp_cond_false rfl ?_
      refine wp_exit ?_
      refine ‹∀ a w, Code.wp Tryd.prog _ _ a w → _› _ _ ?_
      refine encTail hzl2 HZ6.out ((HI.out.pres (pres_grown HG.out)).mono HG.out.size) HV HVO (pres_grown HG.out _ _ H1.out) ⟨pres_grown HG.out _ _ H6.out.1, pres_grown HG.out _ _ H6.out.2.1, pres_grown HG.out _ _ H6.out.2.2⟩ HQP ?_
      intro z0 z1 z4 z5 z6 z7 z8 z9 z10 z11 z12 z13 z14 z15 z16 z17 z18 z19 z20 z21 z22 z23 z24 z25 z26 z27 z28 z29 z30 z31 z32 z33 z34 z35 z36 z37 z38 z39 z40 z41 z42 z43 z44 z45 z46 z47 z48 z49 z50 z51 z52 z53 z54 z55 z56 z57 z58 z59 z60 z61 z62 z63 z64 z65 z66 z67 z68 z69 z70 z71 z72 z73 z74 z75 z76 z77 z78 z79 z80 z81 z82 z83 z84 z85 z86 z87 z88 z89 z90 z91 z92 z93 z94 z95 z96 z97 z98 z99 z100 z101 z102 z103 z104 z105 z106 z107 z108 z109 z110 z111 z112 z113 z114 z115 z116 z117 z118 z119 z120 z121 z122 z123 z124 z125 z126 z127 z128 z129 z130 z131 z132 z133 z134 z135 z136 z137 z138 z139 z140 z141 z142 z143 z144 z145 z146 z147 z148 z149 z150 z151 z152 z153 z154 z155 z156 z157 z158 z159 z160 z161 z162 z163 z164 z165 z166 z167 z168 z169 z170 z171 z172 z173 z174 z175 z176 z177 z178 z179 z180 z181 z182 z183 z184 z185 z186 w' hw'
      exact HQ.out w' (grown_trans HG.out hw')

/-- What the reference's Encode answers. -/
def refAns (a : Art) : Value := if artE a = 0 then .tuple #[.string (bs (encB a)), .int .i64 0] else .tuple #[.string ⟨#[]⟩, .int .i64 (artE a)]
/-- Numbers that an instruction may carry. -/
def nInt (i : Ins) : Prop := -9223372036854775808 ≤ i.n ∧ i.n ≤ 9223372036854775807

set_option maxHeartbeats 4000000 in
set_option maxRecDepth 100000 in
theorem refencode_m (p : List (List Ins)) (s : List Int) (k0 k1 k2 : Int) (tv sv : Value) (w : World) (hP : ProgAt w (.agg #[tv]) p) (hI : IntsAt w.heap.size w sv s) (hpl : p.length ≤ 5864062014634) (hpc : ∀ c ∈ p, c.length ≤ 4398046510976) (hi : ∀ c ∈ p, ∀ i ∈ c, nInt i) :
    Calls Tryd.prog 21 #[.agg #[tv, sv, .int .i64 k0, .int .i64 k1, .int .i64 k2]] w fun e w' => w.grownBy w' none ∧ e = .returned (refAns ⟨p, s, (k0, k1, k2)⟩) := by
  obtain ⟨ta, tc, htv⟩ := hP.form
  simp only [Value.agg.injEq, Array.mk.injEq, List.cons.injEq, and_true] at htv
  subst htv
  obtain ⟨so, sc, rfl⟩ := hI.form
  have HP := hide hP
  have HI := hide hI
  have HPC := hide hpc
  have HNI := hide hi
  clear hP hI hpc hi
  go_enter Tryd.func21, Tryd.ntmps21
  go_wp2_with fail
  obtain ⟨w1, hw1⟩ : ∃ w1, w1 = w.alloc (.cells #[.slice ta p.length tc, .slice so s.length sc, .int .i64 k0, .int .i64 k1, .int .i64 k2] 51) := ⟨_, rfl⟩
  have hb1 : w1.heap[w.heap.size]? = some (.cells #[.slice ta p.length tc, .slice so s.length sc, .int .i64 k0, .int .i64 k1, .int .i64 k2] 51 (0, 0)) := by rw [hw1]; exact heap_alloc_new w _
  have HG1 : Hid (w.grownBy w1 none) := by unfold Hid; rw [hw1]; exact grown_alloc (grown_refl _ _)
  rw [← hw1]
  clear hw1
  have HB1 := hide hb1
  clear hb1
  refine (refcheck_m p _ w1 (HP.out.pres (pres_grown HG1.out)) hpl HPC.out).mono ?_
  rintro e w2 ⟨rfl, hg2⟩
  have HG12 := hide hg2
  have HG2 : Hid (w.grownBy w2 none) := grown_trans HG1.out hg2
  have HB2 : Hid (w2.heap[w.heap.size]? = some (.cells #[.slice ta p.length tc, .slice so s.length sc, .int .i64 k0, .int .i64 k1, .int .i64 k2] 51 (0, 0))) := by
    unfold Hid; rw [hg2.block _ (Array.getElem?_eq_some_iff.1 HB1.out).1 (by simp)]; exact HB1.out
  clear hg2
  cases hv : vProg p
  · have HE : Hid (checkN p = 1) := by unfold Hid checkN; simp [hv]
    have HER : Hid (artE ⟨p, s, (k0, k1, k2)⟩ = 1) := by unfold Hid artE; simp only; rw [hv]; rfl
    rw [HE.out]
    clear hv
    go_wp2_with fail
    refine bodyPost_ret (v := .tuple #[.string ⟨#[]⟩, .int .i64 1]) (by simp [results, Tryd.results21, go_sem]) rfl ?_
    exact ⟨HG2.out, by unfold refAns; rw [HER.out]; rfl⟩
  · have HE : Hid (checkN p = 0) := by unfold Hid checkN; simp [hv]
    have HVP := hide hv
    rw [HE.out]
    clear hv HE
    have d1 : w2.cell? ⟨w.heap.size, 1, none⟩ = some (.slice so s.length sc) := by simp [World.cell?, HB2.out]
    have HSC := hide (scheduled_m s _ w2 ((HI.out.pres (pres_grown HG2.out)).mono HG2.out.size))
    go_wp2_with fail
    refine HSC.out.mono ?_
    clear HSC d1
    rintro e w3 ⟨rfl, hg3⟩
    have HG3 : Hid (w.grownBy w3 none) := grown_trans HG2.out hg3
    have hb3 : w3.heap[w.heap.size]? = some (.cells #[.slice ta p.length tc, .slice so s.length sc, .int .i64 k0, .int .i64 k1, .int .i64 k2] 51 (0, 0)) := by
      rw [hg3.block _ (Array.getElem?_eq_some_iff.1 HB2.out).1 (by simp)]; exact HB2.out
    have d0 : w3.cell? ⟨w.heap.size, 0, none⟩ = some (.slice ta p.length tc) := by simp [World.cell?, hb3]
    have d1 : w3.cell? ⟨w.heap.size, 1, none⟩ = some (.slice so s.length sc) := by simp [World.cell?, hb3]
    have d2 : w3.cell? ⟨w.heap.size, 2, none⟩ = some (.int .i64 k0) := by simp [World.cell?, hb3]
    have d3 : w3.cell? ⟨w.heap.size, 3, none⟩ = some (.int .i64 k1) := by simp [World.cell?, hb3]
    have d4 : w3.cell? ⟨w.heap.size, 4, none⟩ = some (.int .i64 k2) := by simp [World.cell?, hb3]
    have HD0 := hide d0
    have HD1 := hide d1
    clear hb3 hg3 d0 d1
    generalize hvs : validS s = vs
    go_upto_region 6 with fail
    clear d2 d3 d4
    have hg4 : w3.grownBy (w3.alloc (.cells #[.int .i64 k0, .int .i64 k1, .int .i64 k2] 32)) none := grown_alloc (grown_refl _ _)
    have hb4 := heap_alloc_new w3 (.cells #[.int .i64 k0, .int .i64 k1, .int .i64 k2] 32)
    generalize w3.alloc (.cells #[.int .i64 k0, .int .i64 k1, .int .i64 k2] 32) = w4 at hg4 hb4 ⊢
    have HGE : Hid (w.grownBy w4 none) := grown_trans HG3.out hg4
    have HE0 := hide (pres_grown hg4 _ _ HD0.out)
    have HE1 := hide (pres_grown hg4 _ _ HD1.out)
    have f0 : w4.cell? ⟨w3.heap.size, 0, none⟩ = some (.int .i64 k0) := by simp [World.cell?, hb4]
    have f1 : w4.cell? ⟨w3.heap.size, 1, none⟩ = some (.int .i64 k1) := by simp [World.cell?, hb4]
    have f2 : w4.cell? ⟨w3.heap.size, 2, none⟩ = some (.int .i64 k2) := by simp [World.cell?, hb4]
    have HF : Hid (w4.cell? ⟨w3.heap.size, 0, none⟩ = some (.int .i64 k0) ∧ w4.cell? ⟨w3.heap.size, 1, none⟩ = some (.int .i64 k1) ∧ w4.cell? ⟨w3.heap.size, 2, none⟩ = some (.int .i64 k2)) := ⟨f0, f1, f2⟩
    clear hg4 hb4 HD0 HD1 HB1 HB2
    by_cases hvt : vs = true
    case neg =>
      have hvf : vs = false := by simpa using hvt
      have HER : Hid (artE ⟨p, s, (k0, k1, k2)⟩ = 2) := by unfold Hid artE; simp only; rw [if_pos HVP.out, if_neg (by rintro ⟨h1, _⟩; rw [hvs, hvf] at h1; cases h1)]
      subst hvf
      clear hvt hvs
      go_wp2_with fail
      refine bodyPost_ret (v := .tuple #[.string ⟨#[]⟩, .int .i64 2]) (by simp [results, Tryd.results21, go_sem]) rfl ?_
      exact ⟨HGE.out, by unfold refAns; rw [HER.out]; rfl⟩
    case pos =>
    subst hvt
    have HVS := hide hvs
    clear hvs
    by_cases h : k0 < 1
    · have HER : Hid (artE ⟨p, s, (k0, k1, k2)⟩ = 2) := by unfold Hid artE; simp only; rw [if_pos HVP.out, if_neg (by rintro ⟨_, h2⟩; simp only [verOk, Bool.and_eq_true, decide_eq_true_eq] at h2; omega)]
      go_wp2_with fail
      refine bodyPost_ret (v := .tuple #[.string ⟨#[]⟩, .int .i64 2]) (by simp [results, Tryd.results21, go_sem]) rfl ?_
      exact ⟨HGE.out, by unfold refAns; rw [HER.out]; rfl⟩
    replace h : 1 ≤ k0 := by omega
    by_cases h : 5 < k0
    · have HER : Hid (artE ⟨p, s, (k0, k1, k2)⟩ = 2) := by unfold Hid artE; simp only; rw [if_pos HVP.out, if_neg (by rintro ⟨_, h2⟩; simp only [verOk, Bool.and_eq_true, decide_eq_true_eq] at h2; omega)]
      go_wp2_with fail
      refine bodyPost_ret (v := .tuple #[.string ⟨#[]⟩, .int .i64 2]) (by simp [results, Tryd.results21, go_sem]) rfl ?_
      exact ⟨HGE.out, by unfold refAns; rw [HER.out]; rfl⟩
    replace h : k0 ≤ 5 := by omega
    by_cases h : k1 < 0
    · have HER : Hid (artE ⟨p, s, (k0, k1, k2)⟩ = 2) := by unfold Hid artE; simp only; rw [if_pos HVP.out, if_neg (by rintro ⟨_, h2⟩; simp only [verOk, Bool.and_eq_true, decide_eq_true_eq] at h2; omega)]
      go_wp2_with fail
      refine bodyPost_ret (v := .tuple #[.string ⟨#[]⟩, .int .i64 2]) (by simp [results, Tryd.results21, go_sem]) rfl ?_
      exact ⟨HGE.out, by unfold refAns; rw [HER.out]; rfl⟩
    replace h : 0 ≤ k1 := by omega
    by_cases h : 3 < k1
    · have HER : Hid (artE ⟨p, s, (k0, k1, k2)⟩ = 2) := by unfold Hid artE; simp only; rw [if_pos HVP.out, if_neg (by rintro ⟨_, h2⟩; simp only [verOk, Bool.and_eq_true, decide_eq_true_eq] at h2; omega)]
      go_wp2_with fail
      refine bodyPost_ret (v := .tuple #[.string ⟨#[]⟩, .int .i64 2]) (by simp [results, Tryd.results21, go_sem]) rfl ?_
      exact ⟨HGE.out, by unfold refAns; rw [HER.out]; rfl⟩
    replace h : k1 ≤ 3 := by omega
    by_cases h : k2 < 0
    · have HER : Hid (artE ⟨p, s, (k0, k1, k2)⟩ = 2) := by unfold Hid artE; simp only; rw [if_pos HVP.out, if_neg (by rintro ⟨_, h2⟩; simp only [verOk, Bool.and_eq_true, decide_eq_true_eq] at h2; omega)]
      go_wp2_with fail
      refine bodyPost_ret (v := .tuple #[.string ⟨#[]⟩, .int .i64 2]) (by simp [results, Tryd.results21, go_sem]) rfl ?_
      exact ⟨HGE.out, by unfold refAns; rw [HER.out]; rfl⟩
    replace h : 0 ≤ k2 := by omega
    by_cases h : 500 < k2
    · have HER : Hid (artE ⟨p, s, (k0, k1, k2)⟩ = 2) := by unfold Hid artE; simp only; rw [if_pos HVP.out, if_neg (by rintro ⟨_, h2⟩; simp only [verOk, Bool.and_eq_true, decide_eq_true_eq] at h2; omega)]
      go_wp2_with fail
      refine bodyPost_ret (v := .tuple #[.string ⟨#[]⟩, .int .i64 2]) (by simp [results, Tryd.results21, go_sem]) rfl ?_
      exact ⟨HGE.out, by unfold refAns; rw [HER.out]; rfl⟩
    replace h : k2 ≤ 500 := by omega
    have hvo : verOk (k0, k1, k2) = true := by simp only [verOk, Bool.and_eq_true, decide_eq_true_eq]; omega
    have hpl4 := (vProg_len HVP.out).2
    have HPS : Hid (∀ c ∈ p, c.length ≤ 16 ∧ ∀ i ∈ c, smallIns i) := by
      intro c hc
      have hp := HVP.out
      simp only [vProg, Bool.and_eq_true, List.all_eq_true] at hp
      have h2 := hp.2.2 c hc
      simp only [vCode, Bool.and_eq_true, List.all_eq_true, decide_eq_true_eq] at h2
      refine ⟨h2.1, fun i hi' => ?_⟩
      obtain ⟨g1, g2, g3⟩ := vIns_small (h2.2 i hi')
      exact ⟨g1, g2, g3, HNI.out c hc i hi'⟩
    have HER : Hid (artE ⟨p, s, (k0, k1, k2)⟩ = 0) := by unfold Hid artE; simp only; rw [if_pos HVP.out, if_pos ⟨HVS.out, hvo⟩]
    have HBD : Hid (bodyB ⟨p, s, (k0, k1, k2)⟩ = ([82, 82, 1] ++ numB p.length ++ p.flatMap codeB) ++ (schB s ++ verB (k0, k1, k2))) := by
      unfold Hid bodyB progB wInt
      simp
    have HAN : Hid (refAns ⟨p, s, (k0, k1, k2)⟩ = .tuple #[.string (bs (([82, 82, 1] ++ numB p.length ++ p.flatMap codeB) ++ (schB s ++ verB (k0, k1, k2)) ++ leB 4 (crcN (([82, 82, 1] ++ numB p.length ++ p.flatMap codeB) ++ (schB s ++ verB (k0, k1, k2)))))), .int .i64 0]) := by
      unfold Hid refAns
      rw [if_pos HER.out]
      unfold encB
      rw [HBD.out]
    have HVO := hide hvo
    clear hvo
    have z0 : decide (k0 < 1) = false := decide_eq_false (by omega)
    have z1 : decide (5 < k0) = false := decide_eq_false (by omega)
    have z2 : decide (k1 < 0) = false := decide_eq_false (by omega)
    have z3 : decide (3 < k1) = false := decide_eq_false (by omega)
    have z4 : decide (k2 < 0) = false := decide_eq_false (by omega)
    have z5 : decide (500 < k2) = false := decide_eq_false (by omega)
    have ZZ : Hid ((decide (k0 < 1) || decide (5 < k0) || decide (k1 < 0) || decide (3 < k1) || decide (k2 < 0) || decide (500 < k2)) = false) := by unfold Hid; rw [z0, z1, z2, z3, z4, z5]; rfl
    clear z0 z1 z2 z3 z4 z5
    go_upto_if 58 with fail
    refine wp_cond_false (congrArg Value.bool ZZ.out) ?_
    refine wp_skip ?_
    refine ‹∀ a w, Code.wp Tryd.prog _ _ a w → _› _ _ ?_
    refine encProg (X := [82, 82, 1] ++ numB p.length) (p := p) (s := s) (v := (k0, k1, k2)) (hide rfl) (HP.out.pres (pres_grown HGE.out)) hpl4 HPS ((HI.out.pres (pres_grown HGE.out)).mono HGE.out.size) HVS HVO HE0 HE1 HF ?_ ?_
    · exact fun _ _ _ _ _ h => h
    intro z0 z1 z4 z5 z6 z7 z8 z9 z10 z11 z12 z13 z14 z15 z16 z17 z18 z19 z20 z21 z22 z23 z24 z25 z26 z27 z28 z29 z30 z31 z32 z33 z34 z35 z36 z37 z38 z39 z40 z41 z42 z43 z44 z45 z46 z47 z48 z49 z50 z51 z52 z53 z54 z55 z56 z57 z58 z59 z60 z61 z62 z63 z64 z65 z66 z67 z68 z69 z70 z71 z72 z73 z74 z75 z76 z77 z78 z79 z80 z81 z82 z83 z84 z85 z86 z87 z88 z89 z90 z91 z92 z93 z94 z95 z96 z97 z98 z99 z100 z101 z102 z103 z104 z105 z106 z107 z108 z109 z110 z111 z112 z113 z114 z115 z116 z117 z118 z119 z120 z121 z122 z123 z124 z125 z126 z127 z128 z129 z130 z131 z132 z133 z134 z135 z136 z137 z138 z139 z140 z141 z142 z143 z144 z145 z146 z147 z148 z149 z150 z151 z152 z153 z154 z155 z156 z157 z158 z159 z160 z161 z162 z163 z164 z165 z166 z167 z168 z169 z170 z171 z172 z173 z174 z175 z176 z177 z178 z179 z180 z181 z182 z183 z184 z185 z186 w' hw'
    have HWF := hide hw'
    clear hw'
    refine bodyPost_ret (v := refAns ⟨p, s, (k0, k1, k2)⟩) (by rw [HAN.out]; simp [results, Tryd.results21, go_sem]) rfl ?_
    exact ⟨grown_trans HGE.out HWF.out, rfl⟩

end Go.Proofs.YtklenjmfalljgaaDoor

/- The reference's Decode: it answers as the product's does. -/
namespace Go.Proofs.YtklenjmfalljgaaDoor
open Go.RowKit
attribute [local go_sem] Go.World.cell?_alloc_some

/-- What the reference's Decode answers. -/
def RDec (w : World) (s : ByteArray) (e : Ending) (w' : World) : Prop := w.grownBy w' none ∧
  ((decB (byt s) = none ∧ e = .returned (.tuple #[.agg #[.slice none 0 0, .slice none 0 0, .int .i64 0, .int .i64 0, .int .i64 0], .int .i64 3])) ∨
  ∃ a tv sv, decB (byt s) = some a ∧ e = .returned (.tuple #[.agg #[tv, sv, .int .i64 a.ver.1, .int .i64 a.ver.2.1, .int .i64 a.ver.2.2], .int .i64 0]) ∧ ProgAt w' (.agg #[tv]) a.prog ∧ IntsAt w'.heap.size w' sv a.sch)

theorem byt_of_bs {l : List Nat} {s : ByteArray} (h : bs l = s) (hl : ∀ x ∈ l, x < 256) : l = byt s := by rw [← h, byt_bs hl]
theorem bs_of_byt (s : ByteArray) : bs (byt s) = s := by
  apply ByteArray.ext
  apply Array.ext'
  simp only [bs, strOfNums_data, byt, List.map_map]
  conv => rhs; rw [← List.map_id s.data.toList]
  refine List.map_congr_left fun x _ => ?_
  simp
theorem encB_lt (a : Art) : ∀ x ∈ encB a, x < 256 := by
  intro x hx
  unfold encB bodyB at hx
  simp only [List.mem_append] at hx
  rcases hx with (hx | hx | hx | hx) | hx
  · simp only [List.mem_cons, List.not_mem_nil, or_false] at hx; omega
  · unfold progB wInt at hx
    rcases List.mem_append.1 hx with hx | hx
    · exact numB_lt _ x hx
    · obtain ⟨c, _, hc⟩ := List.mem_flatMap.1 hx
      exact codeB_lt c x hc
  · unfold schB wInt at hx
    rcases List.mem_append.1 hx with hx | hx
    · exact numB_lt _ x hx
    · obtain ⟨y, _, hy⟩ := List.mem_flatMap.1 hx
      unfold runB wInt at hy
      rcases List.mem_append.1 hy with hy | hy <;> exact numB_lt _ x hy
  · unfold verB wInt at hx
    simp only [List.mem_append] at hx
    rcases hx with hx | hx | hx <;> exact numB_lt _ x hx
  · exact leB_lt _ _ x hx

set_option maxHeartbeats 2000000 in
set_option maxRecDepth 100000 in
theorem refdecode_m (s : ByteArray) (w : World) (hs : s.size ≤ 9223372036854775000) : Calls Tryd.prog 54 #[.string s] w (RDec w s) := by
  have HDC : Hid (decB (byt s) = refDec (byt s)) := (refDec_dec (fun b hb => byt_lt s b hb)).symm
  have HSM := hide (guess_small (byt s))
  have HGM := hide (fun u => guess_m s u hs)
  have HRD : Hid (refDec (byt s) = if (guessG (byt s)).2 = true ∧ artE (guessG (byt s)).1 = 0 ∧ encB (guessG (byt s)).1 = byt s then some (guessG (byt s)).1 else none) := rfl
  generalize hG : guessG (byt s) = G at *
  clear hG
  obtain ⟨⟨p, sc, k0, k1, k2⟩, ok⟩ := G
  simp only at HSM HGM HRD
  go_enter Tryd.func54, Tryd.ntmps54
  go_wp2_with fail
  have hg0 : w.grownBy (w.alloc (.cells #[.slice none 0 0, .slice none 0 0, .int .i64 0, .int .i64 0, .int .i64 0] 51)) none := grown_alloc (grown_refl _ _)
  have hb0 := heap_alloc_new w (.cells #[.slice none 0 0, .slice none 0 0, .int .i64 0, .int .i64 0, .int .i64 0] 51)
  generalize w.alloc (.cells #[.slice none 0 0, .slice none 0 0, .int .i64 0, .int .i64 0, .int .i64 0] 51) = w0 at hg0 hb0 ⊢
  have HG0 := hide hg0
  have HB0 := hide hb0
  clear hg0 hb0
  refine (HGM.out w0).mono ?_
  clear HGM
  rintro e w1 ⟨tv, sv, rfl, hg1, hth1, hro1⟩
  have hp1 := hth1.progAt
  have hi1 := owns_ints hro1
  have HTH := hide hth1
  have HRO := hide hro1
  have HZ0 : Hid (w.heap.size < w0.heap.size) := (Array.getElem?_eq_some_iff.1 HB0.out).1
  clear hth1 hro1
  obtain ⟨ta, tc, htv⟩ := hp1.form
  simp only [Value.agg.injEq, Array.mk.injEq, List.cons.injEq, and_true] at htv
  subst htv
  obtain ⟨so, sc', rfl⟩ := hi1.form
  have HP1 := hide hp1
  have HI1 := hide hi1
  have HG1 : Hid (w.grownBy w1 none) := grown_trans HG0.out hg1
  have HB1 : Hid (w1.heap[w.heap.size]? = some (.cells #[.slice none 0 0, .slice none 0 0, .int .i64 0, .int .i64 0, .int .i64 0] 51 (0, 0))) := by
    unfold Hid; rw [hg1.block _ (Array.getElem?_eq_some_iff.1 HB0.out).1 (by simp)]; exact HB0.out
  clear hp1 hi1 hg1
  go_upto_region 2 with fail
  have hg2 : w1.grownBy (w1.alloc (.cells #[.slice ta p.length tc, .slice so sc.length sc', .int .i64 k0, .int .i64 k1, .int .i64 k2] 51)) none := grown_alloc (grown_refl _ _)
  have hb2 := heap_alloc_new w1 (.cells #[.slice ta p.length tc, .slice so sc.length sc', .int .i64 k0, .int .i64 k1, .int .i64 k2] 51)
  generalize w1.alloc (.cells #[.slice ta p.length tc, .slice so sc.length sc', .int .i64 k0, .int .i64 k1, .int .i64 k2] 51) = w2 at hg2 hb2 ⊢
  have HG2 : Hid (w.grownBy w2 none) := grown_trans HG1.out hg2
  have HB2 : Hid (w2.heap[w.heap.size]? = some (.cells #[.slice none 0 0, .slice none 0 0, .int .i64 0, .int .i64 0, .int .i64 0] 51 (0, 0))) := by
    unfold Hid; rw [hg2.block _ (Array.getElem?_eq_some_iff.1 HB1.out).1 (by simp)]; exact HB1.out
  have HA2 := hide hb2
  have HG12 := hide hg2
  have HP2 := hide (HP1.out.pres (pres_grown hg2))
  have HI2 : Hid (IntsAt w2.heap.size w2 (.slice so sc.length sc') sc) := (HI1.out.pres (pres_grown hg2)).mono hg2.size
  clear hg2 hb2 HB0 HB1 HG0
  cases ok with
  | false =>
    have HNO : Hid (decB (byt s) = none) := by unfold Hid; rw [HDC.out, HRD.out, if_neg (by rintro ⟨h, _⟩; cases h)]
    have z0 : w2.cell? ⟨w.heap.size, 0, none⟩ = some (.slice none 0 0) := by simp only [World.cell?, HB2.out]; rfl
    have z1 : w2.cell? ⟨w.heap.size, 1, none⟩ = some (.slice none 0 0) := by simp only [World.cell?, HB2.out]; rfl
    have z2 : w2.cell? ⟨w.heap.size, 2, none⟩ = some (.int .i64 0) := by simp only [World.cell?, HB2.out]; rfl
    have z3 : w2.cell? ⟨w.heap.size, 3, none⟩ = some (.int .i64 0) := by simp only [World.cell?, HB2.out]; rfl
    have z4 : w2.cell? ⟨w.heap.size, 4, none⟩ = some (.int .i64 0) := by simp only [World.cell?, HB2.out]; rfl
    have y0 : w2.frozen? ⟨w.heap.size, 0, none⟩ = false := by simp [World.frozen?, HB2.out]
    have y1 : w2.frozen? ⟨w.heap.size, 1, none⟩ = false := by simp [World.frozen?, HB2.out]
    have y2 : w2.frozen? ⟨w.heap.size, 2, none⟩ = false := by simp [World.frozen?, HB2.out]
    have y3 : w2.frozen? ⟨w.heap.size, 3, none⟩ = false := by simp [World.frozen?, HB2.out]
    have y4 : w2.frozen? ⟨w.heap.size, 4, none⟩ = false := by simp [World.frozen?, HB2.out]
    go_wp2_with fail
    obtain ⟨e0, e1, e2, e3, e4, hge⟩ := one_set w2 w.heap.size _ _ _ _ _ HB2.out (.slice none 0 0) (.slice none 0 0) (.int .i64 0) (.int .i64 0) (.int .i64 0)
    generalize ((((w2.setCell ⟨w.heap.size, 0, none⟩ (.slice none 0 0)).setCell ⟨w.heap.size, 1, none⟩ (.slice none 0 0)).setCell ⟨w.heap.size, 2, none⟩ (.int .i64 0)).setCell ⟨w.heap.size, 3, none⟩ (.int .i64 0)).setCell ⟨w.heap.size, 4, none⟩ (.int .i64 0) = w9 at *
    have hgf : w.grownBy w9 none := grown_rd HG2.out hge (Nat.le_refl _)
    have HF : Hid (RDec w s (.returned (.tuple #[.agg #[.slice none 0 0, .slice none 0 0, .int .i64 0, .int .i64 0, .int .i64 0], .int .i64 3])) w9) := ⟨hgf, Or.inl ⟨HNO.out, rfl⟩⟩
    refine bodyPost_ret (v := .tuple #[.agg #[.slice none 0 0, .slice none 0 0, .int .i64 0, .int .i64 0, .int .i64 0], .int .i64 3]) ?_ rfl HF.out
    simp [results, Tryd.results54, go_sem, e0, e1, e2, e3, e4]
  | true =>
    have d0 : w2.cell? ⟨w1.heap.size, 0, none⟩ = some (.slice ta p.length tc) := by simp only [World.cell?, HA2.out]; rfl
    have d1 : w2.cell? ⟨w1.heap.size, 1, none⟩ = some (.slice so sc.length sc') := by simp only [World.cell?, HA2.out]; rfl
    have d2 : w2.cell? ⟨w1.heap.size, 2, none⟩ = some (.int .i64 k0) := by simp only [World.cell?, HA2.out]; rfl
    have d3 : w2.cell? ⟨w1.heap.size, 3, none⟩ = some (.int .i64 k1) := by simp only [World.cell?, HA2.out]; rfl
    have d4 : w2.cell? ⟨w1.heap.size, 4, none⟩ = some (.int .i64 k2) := by simp only [World.cell?, HA2.out]; rfl
    have HEN := hide (refencode_m p sc k0 k1 k2 _ _ w2 HP2.out HI2.out (by have := HSM.out.2; omega) (fun c hc => by have := (HSM.out.1 c hc).1; omega) (fun c hc i hi => ((HSM.out.1 c hc).2 i hi).2.2.2))
    go_wp2_with fail
    refine HEN.out.mono ?_
    clear HEN d0 d1 d2 d3 d4
    rintro e w3 ⟨hg3, rfl⟩
    have HG3 : Hid (w.grownBy w3 none) := grown_trans HG2.out hg3
    have HG13 : Hid (w1.grownBy w3 none) := grown_trans HG12.out hg3
    have HB3 : Hid (w3.heap[w.heap.size]? = some (.cells #[.slice none 0 0, .slice none 0 0, .int .i64 0, .int .i64 0, .int .i64 0] 51 (0, 0))) := by
      unfold Hid; rw [hg3.block _ (Array.getElem?_eq_some_iff.1 HB2.out).1 (by simp)]; exact HB2.out
    have HA3 : Hid (w3.heap[w1.heap.size]? = some (.cells #[.slice ta p.length tc, .slice so sc.length sc', .int .i64 k0, .int .i64 k1, .int .i64 k2] 51 (0, 0))) := by
      unfold Hid; rw [hg3.block _ (Array.getElem?_eq_some_iff.1 HA2.out).1 (by simp)]; exact HA2.out
    have HP3 := hide (HP2.out.pres (pres_grown hg3))
    have HI3 : Hid (IntsAt w3.heap.size w3 (.slice so sc.length sc') sc) := (HI2.out.pres (pres_grown hg3)).mono hg3.size
    clear hg3 HB2 HA2 HP2 HI2 HP1 HI1
    have z0 : w3.cell? ⟨w.heap.size, 0, none⟩ = some (.slice none 0 0) := by simp only [World.cell?, HB3.out]; rfl
    have z1 : w3.cell? ⟨w.heap.size, 1, none⟩ = some (.slice none 0 0) := by simp only [World.cell?, HB3.out]; rfl
    have z2 : w3.cell? ⟨w.heap.size, 2, none⟩ = some (.int .i64 0) := by simp only [World.cell?, HB3.out]; rfl
    have z3 : w3.cell? ⟨w.heap.size, 3, none⟩ = some (.int .i64 0) := by simp only [World.cell?, HB3.out]; rfl
    have z4 : w3.cell? ⟨w.heap.size, 4, none⟩ = some (.int .i64 0) := by simp only [World.cell?, HB3.out]; rfl
    have y0 : w3.frozen? ⟨w.heap.size, 0, none⟩ = false := by simp [World.frozen?, HB3.out]
    have y1 : w3.frozen? ⟨w.heap.size, 1, none⟩ = false := by simp [World.frozen?, HB3.out]
    have y2 : w3.frozen? ⟨w.heap.size, 2, none⟩ = false := by simp [World.frozen?, HB3.out]
    have y3 : w3.frozen? ⟨w.heap.size, 3, none⟩ = false := by simp [World.frozen?, HB3.out]
    have y4 : w3.frozen? ⟨w.heap.size, 4, none⟩ = false := by simp [World.frozen?, HB3.out]
    by_cases h0 : artE ⟨p, sc, (k0, k1, k2)⟩ = 0
    · have HRA : Hid (refAns ⟨p, sc, (k0, k1, k2)⟩ = .tuple #[.string (bs (encB ⟨p, sc, (k0, k1, k2)⟩)), .int .i64 0]) := by unfold Hid refAns; rw [if_pos h0]
      rw [HRA.out]
      by_cases hT : bs (encB ⟨p, sc, (k0, k1, k2)⟩) = s
      · have HYES : Hid (decB (byt s) = some ⟨p, sc, (k0, k1, k2)⟩) := by unfold Hid; rw [HDC.out, HRD.out, if_pos ⟨by first | trivial | rfl, h0, byt_of_bs hT (encB_lt _)⟩]
        rw [hT]
        clear hT h0
        have d0 : w3.cell? ⟨w1.heap.size, 0, none⟩ = some (.slice ta p.length tc) := by simp only [World.cell?, HA3.out]; rfl
        have d1 : w3.cell? ⟨w1.heap.size, 1, none⟩ = some (.slice so sc.length sc') := by simp only [World.cell?, HA3.out]; rfl
        have d2 : w3.cell? ⟨w1.heap.size, 2, none⟩ = some (.int .i64 k0) := by simp only [World.cell?, HA3.out]; rfl
        have d3 : w3.cell? ⟨w1.heap.size, 3, none⟩ = some (.int .i64 k1) := by simp only [World.cell?, HA3.out]; rfl
        have d4 : w3.cell? ⟨w1.heap.size, 4, none⟩ = some (.int .i64 k2) := by simp only [World.cell?, HA3.out]; rfl
        go_wp2_with fail
        obtain ⟨e0, e1, e2, e3, e4, hge⟩ := one_set w3 w.heap.size _ _ _ _ _ HB3.out (.slice ta p.length tc) (.slice so sc.length sc') (.int .i64 k0) (.int .i64 k1) (.int .i64 k2)
        generalize ((((w3.setCell ⟨w.heap.size, 0, none⟩ (.slice ta p.length tc)).setCell ⟨w.heap.size, 1, none⟩ (.slice so sc.length sc')).setCell ⟨w.heap.size, 2, none⟩ (.int .i64 k0)).setCell ⟨w.heap.size, 3, none⟩ (.int .i64 k1)).setCell ⟨w.heap.size, 4, none⟩ (.int .i64 k2) = w9 at *
        have hgf : w.grownBy w9 none := grown_rd HG3.out hge (Nat.le_refl _)
        have HF : Hid (RDec w s (.returned (.tuple #[.agg #[.slice ta p.length tc, .slice so sc.length sc', .int .i64 k0, .int .i64 k1, .int .i64 k2], .int .i64 0])) w9) := ⟨hgf, Or.inr ⟨_, _, _, HYES.out, rfl, ((HTH.out.step HG13.out (fun _ e => by cases e)).mono HG13.out.size |>.step hge (fun q e => by simp only [Option.some.injEq] at e; have := HZ0.out; omega)).progAt, owns_ints (owns_step (owns_step HRO.out HG13.out (fun _ e => by cases e)) hge (fun k e e2 => by simp only [Option.some.injEq] at e; have := HZ0.out; have := owns_block HRO.out k e2; omega))⟩⟩
        refine bodyPost_ret (v := .tuple #[.agg #[.slice ta p.length tc, .slice so sc.length sc', .int .i64 k0, .int .i64 k1, .int .i64 k2], .int .i64 0]) ?_ rfl HF.out
        simp [results, Tryd.results54, go_sem, e0, e1, e2, e3, e4]
      · have HNO : Hid (decB (byt s) = none) := by unfold Hid; rw [HDC.out, HRD.out, if_neg (by rintro ⟨_, _, h⟩; exact hT (by rw [h]; exact bs_of_byt s))]
        clear h0
        generalize bs (encB ⟨p, sc, (k0, k1, k2)⟩) = TT at *
        have hT2 : (TT.toList == s.toList) = false := by rw [beq_eq_false_iff_ne]; intro h; rw [ByteArray.toList_eq, ByteArray.toList_eq] at h; exact hT (ByteArray.ext (Array.ext' h))
        go_wp2_with fail
        obtain ⟨e0, e1, e2, e3, e4, hge⟩ := one_set w3 w.heap.size _ _ _ _ _ HB3.out (.slice none 0 0) (.slice none 0 0) (.int .i64 0) (.int .i64 0) (.int .i64 0)
        generalize ((((w3.setCell ⟨w.heap.size, 0, none⟩ (.slice none 0 0)).setCell ⟨w.heap.size, 1, none⟩ (.slice none 0 0)).setCell ⟨w.heap.size, 2, none⟩ (.int .i64 0)).setCell ⟨w.heap.size, 3, none⟩ (.int .i64 0)).setCell ⟨w.heap.size, 4, none⟩ (.int .i64 0) = w9 at *
        have hgf : w.grownBy w9 none := grown_rd HG3.out hge (Nat.le_refl _)
        have HF : Hid (RDec w s (.returned (.tuple #[.agg #[.slice none 0 0, .slice none 0 0, .int .i64 0, .int .i64 0, .int .i64 0], .int .i64 3])) w9) := ⟨hgf, Or.inl ⟨HNO.out, rfl⟩⟩
        refine bodyPost_ret (v := .tuple #[.agg #[.slice none 0 0, .slice none 0 0, .int .i64 0, .int .i64 0, .int .i64 0], .int .i64 3]) ?_ rfl HF.out
        simp [results, Tryd.results54, go_sem, e0, e1, e2, e3, e4]
    · have HRA : Hid (refAns ⟨p, sc, (k0, k1, k2)⟩ = .tuple #[.string ⟨#[]⟩, .int .i64 (artE ⟨p, sc, (k0, k1, k2)⟩)]) := by unfold Hid refAns; rw [if_neg h0]
      have HNO : Hid (decB (byt s) = none) := by unfold Hid; rw [HDC.out, HRD.out, if_neg (by rintro ⟨_, h, _⟩; exact h0 h)]
      rw [HRA.out]
      generalize artE ⟨p, sc, (k0, k1, k2)⟩ = ee at *
      have h0' : (ee != 0) = true := by simpa using h0
      go_wp2_with fail
      obtain ⟨e0, e1, e2, e3, e4, hge⟩ := one_set w3 w.heap.size _ _ _ _ _ HB3.out (.slice none 0 0) (.slice none 0 0) (.int .i64 0) (.int .i64 0) (.int .i64 0)
      generalize ((((w3.setCell ⟨w.heap.size, 0, none⟩ (.slice none 0 0)).setCell ⟨w.heap.size, 1, none⟩ (.slice none 0 0)).setCell ⟨w.heap.size, 2, none⟩ (.int .i64 0)).setCell ⟨w.heap.size, 3, none⟩ (.int .i64 0)).setCell ⟨w.heap.size, 4, none⟩ (.int .i64 0) = w9 at *
      have hgf : w.grownBy w9 none := grown_rd HG3.out hge (Nat.le_refl _)
      have HF : Hid (RDec w s (.returned (.tuple #[.agg #[.slice none 0 0, .slice none 0 0, .int .i64 0, .int .i64 0, .int .i64 0], .int .i64 3])) w9) := ⟨hgf, Or.inl ⟨HNO.out, rfl⟩⟩
      refine bodyPost_ret (v := .tuple #[.agg #[.slice none 0 0, .slice none 0 0, .int .i64 0, .int .i64 0, .int .i64 0], .int .i64 3]) ?_ rfl HF.out
      simp [results, Tryd.results54, go_sem, e0, e1, e2, e3, e4]

end Go.Proofs.YtklenjmfalljgaaDoor

/- What both Decodes answer, under one name; what came out is its reader's alone. -/
namespace Go.Proofs.YtklenjmfalljgaaDoor
open Go.RowKit

theorem ThrD.low {B B' : Nat} {w : World} {tv : Value} {T : List (Value × Nat × List Value)} (h : ThrD B w tv T) (hb : B' ≤ B) : ThrD B' w tv T :=
  ⟨owns_mono h.row hb, fun x hx => ⟨owns_mono (h.el x hx).1 hb, (h.el x hx).2⟩, h.dis⟩
theorem ThrD.grown {B : Nat} {w w' : World} {tv : Value} {T : List (Value × Nat × List Value)} (h : ThrD B w tv T) (hg : w.grownBy w' none) : ThrD B w' tv T :=
  ⟨owns_grown h.row hg (fun _ e => by cases e), fun x hx => ⟨owns_grown (h.el x hx).1 hg (fun _ e => by cases e), (h.el x hx).2⟩, h.dis⟩

/-- A program that was read: its rows, all apart. -/
theorem thrD_of {L B : Nat} {w : World} {tv : Value} {p : List (List Ins)} (h : ThrAt L B w tv p) (hl : ∀ c ∈ p, c.length ≤ 900) : ∃ T, T.length = p.length ∧ ThrD L w tv T := by
  obtain ⟨rows, h1, h2, h3, h4⟩ := h
  have hr : rows.length = p.length := by have := h1.1; omega
  have hlen : (List.zipWith (fun (v : Value) (c : List Ins) => (v, c.length, insCells c)) rows p).length = p.length := by simp [hr]
  have hmap : (List.zipWith (fun (v : Value) (c : List Ins) => (v, c.length, insCells c)) rows p).map (·.1) = rows := by
    apply List.ext_getElem
    · simp [hr]
    · intro i h1 h2; simp
  refine ⟨_, hlen, ⟨?_, fun x hx => ?_, fun i j hi hj hij g e e' => ?_⟩⟩
  · rw [hlen, hmap]; exact h1
  · obtain ⟨j, hj, rfl⟩ := List.getElem_of_mem hx
    rw [hlen] at hj
    obtain ⟨rv, e1, e2, _⟩ := h3 j hj
    simp only [List.getElem_zipWith]
    have e3 : rows[j]'(by omega) = rv := by
      rw [List.getElem?_eq_getElem (by omega)] at e1
      simpa using e1
    rw [e3]
    exact ⟨e2, hl _ (List.getElem_mem hj)⟩
  · simp only [List.getElem_zipWith] at e e'
    rw [hlen] at hi hj
    exact h4 i j _ _ hij (List.getElem?_eq_getElem (by omega)) (List.getElem?_eq_getElem (by omega)) g e e'

/-- What Decode answers: an artifact and a number. -/
def decOut (s : ByteArray) : Art × Int := match decB (byt s) with
  | none => (⟨[], [], (0, 0, 0)⟩, 3)
  | some a => (a, 0)
theorem decOut_none {s : ByteArray} (h : decB (byt s) = none) : decOut s = (⟨[], [], (0, 0, 0)⟩, 3) := by unfold decOut; rw [h]
theorem decOut_some {s : ByteArray} {a : Art} (h : decB (byt s) = some a) : decOut s = (a, 0) := by unfold decOut; rw [h]

/-- What comes out is small. -/
theorem decOut_small (s : ByteArray) : (decOut s).1.prog.length ≤ 4 ∧ (∀ c ∈ (decOut s).1.prog, c.length ≤ 16) ∧ (decOut s).1.sch.length ≤ 500 := by
  cases h : decB (byt s) with
  | none => rw [decOut_none h]; simp
  | some a =>
    rw [decOut_some h]
    obtain ⟨h1, h2, _⟩ := artE_zero (dec_canon (fun b hb => byt_lt s b hb) h).2
    simp only [vProg, Bool.and_eq_true, decide_eq_true_eq, List.all_eq_true] at h1
    simp only [validS, Bool.and_eq_true, decide_eq_true_eq] at h2
    refine ⟨h1.2.1, fun c hc => ?_, h2.1⟩
    have h3 := h1.2.2 c hc
    simp only [vCode, Bool.and_eq_true, decide_eq_true_eq] at h3
    exact h3.1

theorem DecS.form {w w' : World} {L : Nat} {s : ByteArray} {e : Ending} (h : DecS w L s e w') : w.grownBy w' none ∧ ∃ tv sv, e = .returned (.tuple #[.agg #[tv, sv, .int .i64 (decOut s).1.ver.1, .int .i64 (decOut s).1.ver.2.1, .int .i64 (decOut s).1.ver.2.2], .int .i64 (decOut s).2]) ∧ ThrAt L w'.heap.size w' tv (decOut s).1.prog ∧ w'.ownsRow L 3 1 sv (decOut s).1.sch.length (ints (decOut s).1.sch) := by
  obtain ⟨hg, h⟩ := h
  refine ⟨hg, ?_⟩
  rcases h with ⟨h0, rfl⟩ | ⟨a, tv, sv, h0, rfl, ht, ho⟩
  · rw [decOut_none h0]
    exact ⟨_, _, rfl, ⟨[], ⟨rfl, Or.inl ⟨rfl, rfl⟩⟩, fun h e => (by cases e), fun j hj => absurd hj (Nat.not_lt_zero j), Apt.nil⟩, ⟨rfl, Or.inl ⟨rfl, rfl⟩⟩⟩
  · rw [decOut_some h0]
    exact ⟨_, _, rfl, ht, ho⟩
theorem RDec.form {w w' : World} {s : ByteArray} {e : Ending} (h : RDec w s e w') : w.grownBy w' none ∧ ∃ tv sv, e = .returned (.tuple #[.agg #[tv, sv, .int .i64 (decOut s).1.ver.1, .int .i64 (decOut s).1.ver.2.1, .int .i64 (decOut s).1.ver.2.2], .int .i64 (decOut s).2]) ∧ ProgAt w' (.agg #[tv]) (decOut s).1.prog ∧ IntsAt w'.heap.size w' sv (decOut s).1.sch := by
  obtain ⟨hg, h⟩ := h
  refine ⟨hg, ?_⟩
  rcases h with ⟨h0, rfl⟩ | ⟨a, tv, sv, h0, rfl, hp, hi⟩
  · rw [decOut_none h0]
    exact ⟨_, _, rfl, ⟨none, 0, rfl, fun k hk => absurd hk (Nat.not_lt_zero k)⟩, ⟨none, 0, rfl, Nat.le_refl _, fun k hk => absurd hk (Nat.not_lt_zero k)⟩⟩
  · rw [decOut_some h0]
    exact ⟨_, _, rfl, hp, hi⟩

/-- What a walk of the hands leaves that keeps what was read. -/
def HzD (W : World) (B b : Nat) (n : Int) (K : Nat → List (Value × Int)) (e : Ending) (w' : World) : Prop :=
  e = .returned (.bool true) ∧ ∃ n' who' f' K', n ≤ n' ∧ n' ≤ n + 6 ∧ Hz B w' b who' n' f' K' ∧ W.grownBy w' none ∧ ∀ c, c < 5 → (K' c).length ≤ (K c).length + 16

end Go.Proofs.YtklenjmfalljgaaDoor

/- The laws' sameProgram: of one program. -/
namespace Go.Proofs.YtklenjmfalljgaaDoor
open Go.RowKit
attribute [local go_sem] Go.World.cell?_alloc_some

theorem ungrown_dr {w w' : World} (h : w.drew.grownBy w' none) : w.grownBy w' none := ⟨h.os, h.tape, h.output, h.size, h.block⟩
theorem progAt_get {w : World} {ao : Option Addr} {cap : Nat} {p : List (List Ins)} (h : ProgAt w (.agg #[.slice ao p.length cap]) p) {t : Nat} (ht : t < p.length) : ∃ g o, ao = some ⟨g, o, none⟩ ∧ ∃ rv, w.cell? ⟨g, o + t, none⟩ = some rv ∧ CodeAt w rv p[t] := by
  obtain ⟨ao', cap', e, hh⟩ := h
  simp only [Value.agg.injEq, Array.mk.injEq, List.cons.injEq, Value.slice.injEq, and_true, true_and] at e
  obtain ⟨g, o, e1, rv, e2, e3⟩ := hh t ht
  exact ⟨g, o, by rw [e.1]; exact e1, rv, e2, e3⟩

set_option maxHeartbeats 2000000 in
set_option maxRecDepth 100000 in
theorem sameProgram_m (p : List (List Ins)) (a b : Value) (w : World) (hA : ProgAt w a p) (hB : ProgAt w b p) (hpl : p.length ≤ 1000) (hpc : ∀ c ∈ p, c.length ≤ 4398046510976) :
    Calls Tryd.prog 55 #[a, b] w fun e w' => e = .returned (.bool true) ∧ w.grownBy w' none := by
  obtain ⟨ao, cap, rfl⟩ := hA.form
  obtain ⟨bo, dap, rfl⟩ := hB.form
  have HA := hide hA
  have HB := hide hB
  have HPC := hide hpc
  have qp : (p.length : Int) ≤ 1000 := by omega
  clear hA hB hpc
  go_enter Tryd.func55, Tryd.ntmps55
  go_upto_region 1 with fail
  obtain ⟨w1, hw1⟩ : ∃ w1, w1 = (w.alloc (.cells #[.slice ao p.length cap] 25)).alloc (.cells #[.slice bo p.length dap] 25) := ⟨_, rfl⟩
  rw [← hw1]
  have HG1 : Hid (w.grownBy w1 none) := by unfold Hid; rw [hw1]; exact grown_alloc (grown_alloc (grown_refl _ _))
  have c2 : w1.cell? ⟨w.heap.size, 0, none⟩ = some (.slice ao p.length cap) := by
    have hb : w1.heap[w.heap.size]? = some (.cells #[.slice ao p.length cap] 25 (0, 0)) := by rw [hw1, Below.heap_alloc _ _ _ (by simp)]; exact heap_alloc_new w _
    simp [World.cell?, hb]
  have c3 : w1.cell? ⟨w.heap.size + 1, 0, none⟩ = some (.slice bo p.length dap) := by
    have hb : w1.heap[w.heap.size + 1]? = some (.cells #[.slice bo p.length dap] 25 (0, 0)) := by
      have := heap_alloc_new (w.alloc (.cells #[.slice ao p.length cap] 25)) (.cells #[.slice bo p.length dap] 25)
      rw [hw1]; simpa using this
    simp [World.cell?, hb]
  clear hw1
  generalize w.heap.size = n2 at *
  have HC2 := hide c2
  have HC3 := hide c3
  go_wp2_with fail
  clear c2 c3
  go_loopw [5] (fun iv w' => ∃ t : Nat, t ≤ p.length ∧ iv = .int .i64 t ∧ Hid (w1.grownBy w' none)) (fun iv _ => p.length - (intOf iv).toNat)
  case atStart => exact ⟨0, Nat.zero_le _, rfl, hide (grown_refl _ _)⟩
  case round =>
    obtain ⟨t, ht, rfl, HG⟩ := hrel
    obtain ⟨w2, hw2⟩ : ∃ w2, w2 = wr := ⟨_, rfl⟩
    rw [← hw2] at HG ⊢
    clear hw2
    have k2 := pres_grown HG.out _ _ HC2.out
    by_cases hlt : t < p.length
    · have q0 : (0 : Int) ≤ (t : Int) := by omega
      have q1 : (t : Int) < p.length := by omega
      obtain ⟨pg, po, rfl, rv, e1, e2⟩ := progAt_get HA.out hlt
      obtain ⟨qg, qo, rfl, rw', e3, e4⟩ := progAt_get HB.out hlt
      have hcl := HPC.out _ (List.getElem_mem hlt)
      have HE2 := hide e2
      have HE4 := hide e4
      obtain ⟨ca, cc, hrv, _⟩ := e2
      obtain ⟨da, dc, hrw, _⟩ := e4
      subst hrv hrw
      generalize p[t] = c at *
      have HST : Hid (∀ u, w1.grownBy u none → u.cell? ⟨n2, 0, none⟩ = some (.slice (some ⟨pg, po, none⟩) p.length cap) ∧ u.cell? ⟨n2 + 1, 0, none⟩ = some (.slice (some ⟨qg, qo, none⟩) p.length dap) ∧ u.cell? ⟨pg, po + t, none⟩ = some (.slice ca c.length cc) ∧ u.cell? ⟨qg, qo + t, none⟩ = some (.slice da c.length dc)) := fun u hu => ⟨pres_grown hu _ _ HC2.out, pres_grown hu _ _ HC3.out, pres_grown (grown_trans HG1.out hu) _ _ e1, pres_grown (grown_trans HG1.out hu) _ _ e3⟩
      have HSC := hide (fun u hu => sameCode_m c (.slice ca c.length cc) (.slice da c.length dc) u (HE2.out.pres (pres_grown (grown_trans HG1.out hu))) (HE4.out.pres (pres_grown (grown_trans HG1.out hu))) hcl)
      have hSt := HST.out w2.drew (grown_drew HG.out)
      clear e1 e3
      go_upto_region 6 with fail
      refine wp_region_head (fun u => u.cell? ⟨n2, 0, none⟩ = some (.slice (some ⟨pg, po, none⟩) p.length cap) ∧ u.cell? ⟨n2 + 1, 0, none⟩ = some (.slice (some ⟨qg, qo, none⟩) p.length dap) ∧ u.cell? ⟨pg, po + t, none⟩ = some (.slice ca c.length cc) ∧ u.cell? ⟨qg, qo + t, none⟩ = some (.slice da c.length dc)) 11 (by kernel_rfl) (by kernel_rfl) hSt ?_
      intro hHeld
      refine wpHead_take (i := 0) (v := ?vv0) rfl (by kernel_rfl) (fun _ _ _ h => h) (Or.inl ⟨by kernel_rfl, ?hy0⟩) hHeld ?rest0
      case hy0 => (rintro u ⟨hu0, hu1, hu2, hu3⟩; go_simp; try with_reducible rfl)
      simp only [Act.put, List.setIfInBounds_toArray]
      refine wpHead_take (i := 1) (v := ?vv1) rfl (by kernel_rfl) (fun _ _ _ h => h) (Or.inl ⟨by kernel_rfl, ?hy1⟩) hHeld ?rest1
      case hy1 => (rintro u ⟨hu0, hu1, hu2, hu3⟩; go_simp; try with_reducible rfl)
      simp only [Act.put]
      refine wpHead_take (i := 2) (v := ?vv2) rfl (by kernel_rfl) (fun _ _ _ h => h) (Or.inl ⟨by kernel_rfl, ?hy2⟩) hHeld ?rest2
      case hy2 => (rintro u ⟨hu0, hu1, hu2, hu3⟩; go_simp; try with_reducible rfl)
      simp only [Act.put]
      refine wpHead_take (i := 3) (v := ?vv3) rfl (by kernel_rfl) (fun _ _ _ h => h) (Or.inl ⟨by kernel_rfl, ?hy3⟩) hHeld ?rest3
      case hy3 => (rintro u ⟨hu0, hu1, hu2, hu3⟩; go_simp; try with_reducible rfl)
      simp only [Act.put]
      refine wpHead_take (i := 4) (v := ?vv4) rfl (by kernel_rfl) (fun _ _ _ h => h) (Or.inl ⟨by kernel_rfl, ?hy4⟩) hHeld ?rest4
      case hy4 => (rintro u ⟨hu0, hu1, hu2, hu3⟩; go_simp; try with_reducible rfl)
      simp only [Act.put]
      refine wpHead_take (i := 5) (v := ?vv5) rfl (by kernel_rfl) (fun _ _ _ h => h) (Or.inl ⟨by kernel_rfl, ?hy5⟩) hHeld ?rest5
      case hy5 => (rintro u ⟨hu0, hu1, hu2, hu3⟩; go_simp; try with_reducible rfl)
      simp only [Act.put]
      refine wpHead_take (i := 6) (v := ?vv6) rfl (by kernel_rfl) (fun _ _ _ h => h) (Or.inl ⟨by kernel_rfl, ?hy6⟩) hHeld ?rest6
      case hy6 => (rintro u ⟨hu0, hu1, hu2, hu3⟩; go_simp; try with_reducible rfl)
      simp only [Act.put]
      refine wpHead_take (i := 7) (v := ?vv7) rfl (by kernel_rfl) (fun _ _ _ h => h) (Or.inl ⟨by kernel_rfl, ?hy7⟩) hHeld ?rest7
      case hy7 => (rintro u ⟨hu0, hu1, hu2, hu3⟩; go_simp; try with_reducible rfl)
      simp only [Act.put]
      refine wpHead_take (i := 8) (v := ?vv8) rfl (by kernel_rfl) (fun _ _ _ h => h) (Or.inl ⟨by kernel_rfl, ?hy8⟩) hHeld ?rest8
      case hy8 => (rintro u ⟨hu0, hu1, hu2, hu3⟩; go_simp; try with_reducible rfl)
      simp only [Act.put]
      refine wpHead_take (i := 9) (v := ?vv9) rfl (by kernel_rfl) (fun _ _ _ h => h) (Or.inl ⟨by kernel_rfl, ?hy9⟩) hHeld ?rest9
      case hy9 => (rintro u ⟨hu0, hu1, hu2, hu3⟩; go_simp; try with_reducible rfl)
      simp only [Act.put]
      refine wpHead_alone (i := 10) rfl (by kernel_rfl) (by kernel_rfl) (by kernel_rfl) ?_
      intro K10 hK10
      have HK10 := hide hK10
      clear hK10
      go_simp
      refine (HSC.out _ (grown_drew HG.out)).mono ?_
      rintro e w3 ⟨rfl, hl3⟩
      have HG3 : Hid (w1.grownBy w3 none) := grown_trans HG.out (ungrown_dr (grown_of_like hl3))
      have hHeld3 := HST.out w3 HG3.out
      refine HK10.out _ _ hHeld3 ?_
      clear HK10 hl3
      try simp only [Act.put, List.setIfInBounds_toArray]
      refine wpHead_last rfl (by kernel_rfl) (by kernel_rfl) (by kernel_rfl) ?_
      go_simp
      clear hHeld hHeld3 hSt k2
      go_wp2_with fail
      go_roundw
      case rel => exact ⟨t + 1, by omega, by go_num, HG3⟩
      case measure => simp [intOf] <;> omega
    · have q1 : (p.length : Int) ≤ (t : Int) := by omega
      go_wp2_with fail
      go_ret
      exact ⟨rfl, grown_trans HG1.out HG.out⟩

end Go.Proofs.YtklenjmfalljgaaDoor

/- The walks of the writer's program, schedule, verdict and check. -/
namespace Go.Proofs.YtklenjmfalljgaaDoor
open Go.RowKit
attribute [local go_sem] Go.World.cell?_alloc_some

/-- The writer, and a variable of the call's own at c. -/
structure WrL (W w : World) (b : Nat) (bv : Value) (l : List Nat) (T c : Nat) (vs : Array Value) : Prop where
  wr : WrS W w b bv l
  var : w.heap[c]? = some (.cells vs T (0, 0))
  cb : c ≠ b
  co : bv.ownBlock ≠ some c
theorem WrL.call {W w w' : World} {b T c : Nat} {bv bv' : Value} {l l' : List Nat} {vs : Array Value} (h : WrL W w b bv l T c vs) (h1 : WrS W w' b bv' l') (h2 : WrT w w' b bv bv') : WrL W w' b bv' l' T c vs := by
  have hc := (Array.getElem?_eq_some_iff.1 h.var).1
  refine ⟨h1, by rw [h2.keep c hc h.cb h.co]; exact h.var, h.cb, fun e => ?_⟩
  rcases h2.own c e with e | e
  · exact h.co e
  · omega
theorem WrL.cell {W w : World} {b T c : Nat} {bv : Value} {l : List Nat} {vs : Array Value} (h : WrL W w b bv l T c vs) (o : Nat) : w.cell? ⟨c, o, none⟩ = vs[o]? := by
  have := h.var
  simp [World.cell?, this]
theorem WrL.start {W w : World} {b : Nat} {bv : Value} {l : List Nat} (h : WrS W w b bv l) (T : Nat) (vs : Array Value) : WrL W (w.alloc (.cells vs T)) b bv l T w.heap.size vs := by
  have hb := h.lt
  refine ⟨h.grown (grown_alloc (grown_refl _ _)), heap_alloc_new _ _, by omega, fun e => ?_⟩
  have := h.row.lt _ e
  omega

set_option maxRecDepth 100000 in
set_option maxHeartbeats 1000000 in
theorem verdict_w (W : World) (b : Nat) (v : Int × Int × Int) (h1 : 0 ≤ v.1 ∧ v.1 ≤ 9223372036854775807) (h2 : 0 ≤ v.2.1 ∧ v.2.1 ≤ 9223372036854775807) (h3 : 0 ≤ v.2.2 ∧ v.2.2 ≤ 9223372036854775807)
    (w : World) (bv : Value) (l : List Nat) (h : WrS W w b bv l) (hl : l.length ≤ 900000) :
    Calls Tryd.prog 78 #[pt b, .agg #[.int .i64 v.1, .int .i64 v.2.1, .int .i64 v.2.2]] w (Wrote W w b bv (l ++ verB v)) := by
  obtain ⟨x, y, z⟩ := v
  simp only at h1 h2 h3 ⊢
  have HH := hide h
  have hpt : pt b = .pointer (some ⟨b, 0, none⟩) := rfl
  rw [hpt] at *
  clear h
  go_enter Tryd.func78, Tryd.ntmps78
  go_wp2_with fail
  have L0 := WrL.start HH.out 32 #[.int .i64 x, .int .i64 y, .int .i64 z]
  have T0 : WrT w (w.alloc (.cells #[.int .i64 x, .int .i64 y, .int .i64 z] 32)) b bv bv := (WrT.refl _ _ _).grown (grown_alloc (grown_refl _ _))
  generalize w.alloc (.cells #[.int .i64 x, .int .i64 y, .int .i64 z] 32) = w1 at L0 T0 ⊢
  refine (whole_w W b x h1.1 h1.2 w1 bv (l) L0.wr (by omega)).mono ?_
  rintro e x1 ⟨⟨v1, rfl⟩, bv1, hs1, ht1⟩
  have L1 := L0.call hs1 ht1
  have T1 := T0.trans ht1
  have c1 : x1.cell? ⟨w.heap.size, 1, none⟩ = some (.int .i64 y) := by simpa using L1.cell 1
  have HL := hide L1
  have HT := hide T1
  clear L1 T1 L0 T0 hs1 ht1
  go_wp2_with fail
  have L1 := HL.out
  have T1 := HT.out
  clear HL HT c1
  refine (whole_w W b y h2.1 h2.2 x1 bv1 (l ++ wInt x) L1.wr (by simp [wInt]; have := numB_ten (n := x.toNat) (by omega); omega)).mono ?_
  rintro e x2 ⟨⟨v2, rfl⟩, bv2, hs2, ht2⟩
  have L2 := L1.call hs2 ht2
  have T2 := T1.trans ht2
  have c2 : x2.cell? ⟨w.heap.size, 2, none⟩ = some (.int .i64 z) := by simpa using L2.cell 2
  have HL := hide L2
  have HT := hide T2
  clear L2 T2 L1 T1 hs2 ht2
  go_wp2_with fail
  have L2 := HL.out
  have T2 := HT.out
  clear HL HT c2
  refine (whole_w W b z h3.1 h3.2 x2 bv2 (l ++ wInt x ++ wInt y) L2.wr (by simp [wInt]; have := numB_ten (n := x.toNat) (by omega); have := numB_ten (n := y.toNat) (by omega); omega)).mono ?_
  rintro e x3 ⟨⟨v3, rfl⟩, bv3, hs3, ht3⟩
  have L3 := L2.call hs3 ht3
  have T3 := T2.trans ht3
  have HL := hide L3.wr
  have HT := hide T3
  clear L3 T3 L2 T2 hs3 ht3
  go_wp2_with fail
  go_end0
  refine ⟨⟨_, rfl⟩, bv3, ?_, HT.out⟩
  have := HL.out
  unfold verB
  simpa using this

end Go.Proofs.YtklenjmfalljgaaDoor
