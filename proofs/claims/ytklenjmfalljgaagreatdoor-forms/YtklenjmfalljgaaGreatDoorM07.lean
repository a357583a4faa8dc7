/- The texts Hgj Hgk Hgl. -/
import Derived.Test.YtklenjmfalljgaaGreatDoorM06

/- The walk of the hands' program, whole. -/
namespace Go.Proofs.YtklenjmfalljgaaGreatDoor
open Go.RowKit
attribute [local go_sem] Go.World.cell?_alloc_some

theorem made_four (n : Nat) : (madeCells #[Value.int .i64 0, .int .i64 0, .int .i64 0, .int .i64 0] n).toList = List.replicate n (.int .i64 0) := by
  apply List.ext_getElem (by simp [madeCells])
  intro i h1 h2
  simp only [madeCells, Array.toList_map, List.getElem_map, List.getElem_replicate]
  have : i < n := by simpa using h2
  simp only [Array.toList_range, List.getElem_range]
  rcases (by omega : i % 4 = 0 ∨ i % 4 = 1 ∨ i % 4 = 2 ∨ i % 4 = 3) with h | h | h | h <;> simp [h]

theorem row_inkC (c : List Ins) : ((codeL c ++ (List.replicate ((c.length + 2) * 4) (Value.int .i64 0)).drop (c.length * 4)).set (c.length * 4) (.int .i64 (-77000000))).set ((c.length + 1) * 4) (.int .i64 (-77000000)) = codeL c ++ (insInk ++ insInk) := by
  have e : (List.replicate ((c.length + 2) * 4) (Value.int .i64 0)).drop (c.length * 4) = List.replicate 8 (Value.int .i64 0) := by
    rw [List.drop_replicate]; congr 1; omega
  have hl := codeL_len c
  rw [e, ← hl, List.set_append, if_neg (by omega), Nat.sub_self, List.set_append, if_neg (by omega)]
  have e2 : (c.length + 1) * 4 - (codeL c).length = 4 := by omega
  rw [e2]
  rfl

theorem info_insH : ((Tryz.prog.info? 74).map fun i => (i.zero, i.size, i.bytes)) = some (some (.agg #[.int .i64 0, .int .i64 0, .int .i64 0, .int .i64 0]), 4, 32) := by kernel_rfl
theorem info_codeH : ((Tryz.prog.info? 75).map fun i => (i.zero, i.size, i.bytes)) = some (some (.slice none 0 0), 1, 24) := by kernel_rfl
theorem info_rowsH : ((Tryz.prog.info? 22).map fun i => (i.zero, i.size, i.bytes)) = some (some (.slice none 0 0), 1, 24) := by kernel_rfl

/-- In the midst of program: i threads are lent. -/
structure PgIn (B : Nat) (W w2 w' : World) (b : Nat) (who2 who' : Nat → Role) (n : Int) (f' : Nat → Value) (K : Nat → List (Value × Int)) (LI : List (Nat × List Int × Value)) (LC LC1 : List (Nat × List Ins × Value)) (LR : List (Nat × Nat)) (gr rb : Nat) (p : List (List Ins)) (i : Nat) : Prop where
  lx : Lx B w' b who' n f' K (EL LI (LC ++ LC1) LR) LI (LC ++ LC1) LR i
  map : LC1.map (·.2.1) = p.take i
  row : w'.heap[gr]? = some (.cells (LC1.map slC ++ List.replicate (p.length + 2 - i) (Value.slice none 0 0)).toArray 75 (0, 0))
  wg : who' gr = .lent
  ng : gr ∉ LI.map (·.1) ++ ((LC ++ LC1).map (·.1) ++ LR.map (·.1))
  fr : Fr w2 w' who2 who' (fun _ => False)
  base : W.grownBy w' none
  res : w'.heap[rb]? = some (.cells #[.slice none 0 0] 24 (0, 0))
  wr : who' rb = .lent
  nr : rb ∉ LI.map (·.1) ++ ((LC ++ LC1).map (·.1) ++ LR.map (·.1))
  rg : rb ≠ gr

theorem PgIn.len {B : Nat} {W w2 w' : World} {b : Nat} {who2 who' : Nat → Role} {n : Int} {f' : Nat → Value} {K : Nat → List (Value × Int)} {LI : List (Nat × List Int × Value)} {LC LC1 : List (Nat × List Ins × Value)} {LR : List (Nat × Nat)} {gr rb : Nat} {p : List (List Ins)} {i : Nat}
    (h : PgIn B W w2 w' b who2 who' n f' K LI LC LC1 LR gr rb p i) (hi : i ≤ p.length) : LC1.length = i := by
  have := congrArg List.length h.map
  simpa [Nat.min_eq_left hi] using this

theorem row_next (L : List Value) (v : Value) (P i : Nat) (hl : L.length = i) (hi : i < P) : (L ++ List.replicate (P + 2 - i) (Value.slice none 0 0)).set i v = (L ++ [v]) ++ List.replicate (P + 2 - (i + 1)) (Value.slice none 0 0) := by
  obtain ⟨k, hk⟩ : ∃ k, P + 2 - i = k + 1 := ⟨P + 2 - (i + 1), by omega⟩
  have hk2 : P + 2 - (i + 1) = k := by omega
  rw [hk, hk2, List.set_append, if_neg (by omega), hl, Nat.sub_self, List.replicate_succ, List.set_cons_zero, List.append_assoc]
  rfl

set_option maxRecDepth 100000 in
set_option maxHeartbeats 2000000 in
theorem program_g (W : World) (B : Nat) (w : World) (b : Nat) (who : Nat → Role) (n : Int) (f : Nat → Value) (K : Nat → List (Value × Int)) (LI : List (Nat × List Int × Value)) (LC : List (Nat × List Ins × Value)) (LR : List (Nat × Nat)) (pv : Value) (p : List (List Ins))
    (h : Lx B w b who n f K (EL LI LC LR) LI LC LR 0) (hW : W.grownBy w none) (hWB : W.heap.size ≤ B) (hP : ProgAt W pv p) (hp : p.length ≤ 5864062014634) (hpc : ∀ c ∈ p, c.length ≤ 4398046510976) (hLC : LC.length + p.length ≤ 5864062014634) (hLR : LR.length ≤ 1000) :
    Calls Tryz.prog 27 #[pt b, pv] w fun e w' => ∃ g LC1 who' f', e = .returned (.agg #[.slice (some ⟨g, 0, none⟩) p.length (p.length + 2)]) ∧ Lx B w' b who' n f' K (EL LI (LC ++ LC1) (LR ++ [(g, p.length)])) LI (LC ++ LC1) (LR ++ [(g, p.length)]) 0 ∧ LC1.map (·.2.1) = p ∧ Fr w w' who who' (fun _ => False) ∧ w'.heap[g]? = some (.cells (lentRows LC1) 75 (0, 0)) := by
  obtain ⟨i0, hi0, hz0, hz1, hz2⟩ := info_parts info_insH
  obtain ⟨i1, hi1, hy0, hy1, hy2⟩ := info_parts info_codeH
  obtain ⟨i2, hi2, hx0, hx1, hx2⟩ := info_parts info_rowsH
  have HH := hide h
  have HW := hide hW
  have HPW := hide hP
  have HPC := hide hpc
  have hb := h.low
  obtain ⟨ao, cap, rfl⟩ := hP.form
  have hpt : pt b = .pointer (some ⟨b, 0, none⟩) := rfl
  rw [hpt]
  clear h hP hpt hpc hW
  have q0 : (p.length : Int) ≤ 5864062014634 := by omega
  have q1 : (0 : Int) ≤ (p.length : Int) := by omega
  have hsz4 : (Tryz.prog.info? 74).map (·.size) = some 4 := by rw [hi0]; simp [hz1]
  go_enter Tryz.func27, Tryz.ntmps27
  go_upto_region 2 with fail
  have hg1 : w.grownBy ((w.alloc (.cells #[.slice ao p.length cap] 24)).alloc (.cells #[.slice none 0 0] 24)) none := grown_alloc (grown_alloc (grown_refl _ _))
  have hB1 : ((w.alloc (.cells #[.slice ao p.length cap] 24)).alloc (.cells #[.slice none 0 0] 24)).heap[w.heap.size]? = some (.cells #[.slice ao p.length cap] 24 (0, 0)) := by
    rw [Below.heap_alloc _ _ _ (by simp)]; exact heap_alloc_new _ _
  have hR1 : ((w.alloc (.cells #[.slice ao p.length cap] 24)).alloc (.cells #[.slice none 0 0] 24)).heap[w.heap.size + 1]? = some (.cells #[.slice none 0 0] 24 (0, 0)) := by
    have := heap_alloc_new (w.alloc (.cells #[.slice ao p.length cap] 24)) (.cells #[.slice none 0 0] 24)
    simpa using this
  have hz : ((w.alloc (.cells #[.slice ao p.length cap] 24)).alloc (.cells #[.slice none 0 0] 24)).heap.size = w.heap.size + 2 := by simp
  generalize (w.alloc (.cells #[.slice ao p.length cap] 24)).alloc (.cells #[.slice none 0 0] 24) = w1 at hg1 hB1 hR1 hz ⊢
  go_upto_region 3 with (at_make; refine wpList_make_full _ rfl _ _ _ rfl w1.heap.size 75 i1 _ 1 Tryz.underlying22 hi1 hy0 hy1 .i64 .i64 _ _ (p.length + 2) rfl rfl (by simp) (by simp) (by rw [hy2]; omega) (by unfold maxLen; omega) (by simp) ?_; intro w2 hown2 hg2)
  have hrow2 : w2.heap[w1.heap.size]? = some (.cells (List.replicate (p.length + 2) (Value.slice none 0 0)).toArray 75 (0, 0)) := by
    rcases hown2.2 with ⟨e, _⟩ | ⟨g', cap', cur, hv, _, hh, _, _, hcs, htk⟩
    · cases e
    · simp only [Value.slice.injEq, Option.some.injEq, Addr.mk.injEq, true_and, and_true] at hv
      obtain ⟨rfl, rfl⟩ := hv
      rw [hh]
      have e1 : cur.toList = List.replicate (p.length + 2) (Value.slice none 0 0) := by
        rw [← toList_madeCells_one]
        simp only [Value.cells, Nat.mul_one] at htk hcs
        rw [← htk, List.take_of_length_le (by simp; omega)]
      rw [← e1]
  have hs2 : w1.heap.size < w2.heap.size := (Array.getElem?_eq_some_iff.1 hrow2).1
  have hG2 := grown_trans hg1 hg2
  have hB2 : w2.heap[w.heap.size]? = some (.cells #[.slice ao p.length cap] 24 (0, 0)) := by rw [hg2.block _ (by omega) (by simp)]; exact hB1
  have hR2 : w2.heap[w.heap.size + 1]? = some (.cells #[.slice none 0 0] 24 (0, 0)) := by rw [hg2.block _ (by omega) (by simp)]; exact hR1
  obtain ⟨hx2', hf2⟩ := HH.out.new2 hG2 (g1 := w1.heap.size) (g2 := w.heap.size + 1) (by omega) hs2 (by omega) (by omega)
  have H0 : Hid (PgIn B W w2 w2 b (setW (setW who w1.heap.size .lent) (w.heap.size + 1) .lent) (setW (setW who w1.heap.size .lent) (w.heap.size + 1) .lent) n f K LI LC [] LR w1.heap.size (w.heap.size + 1) p 0) := by
    refine ⟨by simpa using hx2', by simp, by simpa using hrow2, by rw [setW_ne _ _ (by omega)]; exact setW_at _ _ _, fun e => ?_, Fr.refl _ _ _, grown_trans HW.out hG2, hR2, setW_at _ _ _, fun e => ?_, by omega⟩
    · have := (HH.out.le.lt _ (by simpa using e)).1
      omega
    · have := (HH.out.le.lt _ (by simpa using e)).1
      omega
  have hwb : setW (setW who w1.heap.size .lent) (w.heap.size + 1) .lent w.heap.size = .other := by
    rw [setW_ne _ _ (by omega), setW_ne _ _ (by omega)]
    by_cases e : who w.heap.size = .other
    · exact e
    · exact absurd (HH.out.hs.1.dom w.heap.size e).2 (by omega)
  have HF2 := hide hf2
  have HWB := hide hwb
  have HB2 := hide hB2
  have hbx : w.heap.size < w2.heap.size ∧ w.heap.size + 1 < w2.heap.size := by omega
  clear hg1 hB1 hR1 hown2 hg2 hrow2 hG2 hB2 hR2 hx2' hf2 hwb
  rw [hz] at H0 HF2 HWB
  obtain ⟨gr, hgr⟩ : ∃ gr, gr = w.heap.size + 2 := ⟨_, rfl⟩
  rw [← hgr] at H0 HF2 HWB
  generalize setW (setW who gr .lent) (w.heap.size + 1) .lent = who2 at *
  clear hz hs2
  go_upto_region 4 with fail
  rw [← hgr]
  have HGR := hide hgr
  clear hgr
  go_loopw [7] (fun v w' => ∃ (i : Nat) (LC1 : List (Nat × List Ins × Value)) (who' : Nat → Role) (f' : Nat → Value), i ≤ p.length ∧ v = .int .i64 i ∧ Hid (PgIn B W w2 w' b who2 who' n f' K LI LC LC1 LR gr (w.heap.size + 1) p i)) (fun v _ => p.length - (intOf v).toNat)
  case atStart => exact ⟨0, [], who2, f, Nat.zero_le _, rfl, H0⟩
  case round =>
    clear H0
    obtain ⟨i, LC1, who5, f5, hi, rfl, HI⟩ := hrel
    obtain ⟨w5, hw5⟩ : ∃ w5, w5 = wr := ⟨_, rfl⟩
    rw [← hw5] at HI ⊢
    clear hw5
    have hL1 := HI.out.len hi
    by_cases hlt : i < p.length
    · obtain ⟨ao', cap', e1, hcell⟩ := HPW.out
      obtain ⟨pg, po, e2, rv, r1, r2⟩ := hcell i hlt
      simp only [Value.agg.injEq, Array.mk.injEq, List.cons.injEq, Value.slice.injEq, and_true, true_and] at e1
      obtain ⟨e1, e1'⟩ := e1
      subst e1 e1' e2
      have hpl : p[i].length ≤ 4398046510976 := HPC.out _ (List.getElem_mem hlt)
      obtain ⟨ca, cc, rfl⟩ : ∃ ca cc, rv = .slice ca p[i].length cc := ⟨_, _, r2.choose_spec.choose_spec.1⟩
      have d0 : w5.cell? ⟨pg, po + i, none⟩ = some (.slice ca p[i].length cc) := pres_grown HI.out.base _ _ r1
      have hb5 := (HI.out.fr.oth w.heap.size hbx.1 HWB.out (fun e => e)).1
      have c0 : w5.cell? ⟨w.heap.size, 0, none⟩ = some (.slice (some ⟨pg, po, none⟩) p.length cap) := by
        rw [World.cell?_of_block hb5]; have := HB2.out; simp [World.cell?, this]
      have HR1 := hide r1
      have HR3 := hide r2
      have HTK : Hid (p.take (i + 1) = p.take i ++ [p[i]]) := List.take_succ_eq_append_getElem hlt
      clear r1 r2 hcell hb5
      generalize p[i] = c at *
      have t0 : (0 : Int) ≤ (i : Int) := by omega
      have t1 : (i : Int) < p.length := by omega
      have t2 : (c.length : Int) ≤ 4398046510976 := by omega
      have t3 : (0 : Int) ≤ (c.length : Int) := by omega
      go_upto_region 8 with (at_make; refine wpList_make_full _ rfl _ _ _ rfl w5.heap.size 74 i0 _ 4 Tryz.underlying75 hi0 hz0 hz1 .i64 .i64 _ _ (c.length + 2) rfl rfl (by simp) (by simp) (by rw [hz2]; omega) (by unfold maxLen; omega) (by simp) ?_; intro w6 hown6 hg6)
      have hrow6 : ∃ cur, w6.heap[w5.heap.size]? = some (.cells cur 74 (0, 0)) ∧ cur.toList = List.replicate ((c.length + 2) * 4) (.int .i64 0) := by
        rcases hown6.2 with ⟨e, _⟩ | ⟨g', cap', cur, hv, _, hh, _, _, hcs, htk⟩
        · cases e
        · simp only [Value.slice.injEq, Option.some.injEq, Addr.mk.injEq, true_and, and_true] at hv
          obtain ⟨rfl, rfl⟩ := hv
          refine ⟨cur, hh, ?_⟩
          rw [← made_four]
          simp only [Value.cells] at htk
          rw [← htk, List.take_of_length_le (by simp; omega)]
      obtain ⟨cur, hcur, hcsz⟩ := hrow6
      have hcs : cur.size = (c.length + 2) * 4 := by have := congrArg List.length hcsz; simpa using this
      have hW6 := grown_trans HI.out.base hg6
      have d6 : w6.cell? ⟨pg, po + i, none⟩ = some (.slice ca c.length cc) := pres_grown hg6 _ _ d0
      have c6 : w6.cell? ⟨w.heap.size, 0, none⟩ = some (.slice (some ⟨pg, po, none⟩) p.length cap) := pres_grown hg6 _ _ c0
      obtain ⟨w7, hrun, hrow7, hg7⟩ := run_copy_code w6 75 3 74 Tryz.underlying75 hsz4 w5.heap.size (c.length + 2) (c.length + 2) (.slice ca c.length cc) c (HR3.out.pres (pres_grown hW6)) cur 74 hcur (by omega) (by omega)
      rw [hcsz] at hrow7
      have HG6 := hide hg6
      clear hown6 hg6 d0 c0 hcur hcsz
      go_upto_region 9 with fail
      clear hrun d6 c6
      obtain ⟨R, hR⟩ : ∃ R : Array Value, R = (codeL c ++ (List.replicate ((c.length + 2) * 4) (Value.int .i64 0)).drop (c.length * 4)).toArray := ⟨_, rfl⟩
      rw [← hR] at hrow7
      have hRs : R.size = (c.length + 2) * 4 := by rw [hR]; simp [codeL_len]; omega
      have HRI : Hid ((R.setIfInBounds (c.length * 4) (.int .i64 (-77000000))).setIfInBounds ((c.length + 1) * 4) (.int .i64 (-77000000)) = lentCode c) := by
        unfold Hid; rw [hR]; simp only [List.setIfInBounds_toArray, lentCode]; rw [row_inkC]; rfl
      have hrow8 := heap_setCell_same w7 w5.heap.size (c.length * 4) R 74 (.int .i64 (-77000000)) hrow7
      have hrow9 := heap_setCell_same _ w5.heap.size ((c.length + 1) * 4) _ 74 (.int .i64 (-77000000)) hrow8
      rw [HRI.out] at hrow9
      have d7 : ∃ u, w7.cell? ⟨w5.heap.size, c.length * 4, none⟩ = some u := ⟨R[c.length * 4]'(by omega), by simp only [World.cell?, hrow7]; exact Array.getElem?_eq_getElem _⟩
      have d8 : ∃ u, (w7.setCell ⟨w5.heap.size, c.length * 4, none⟩ (.int .i64 (-77000000))).cell? ⟨w5.heap.size, (c.length + 1) * 4, none⟩ = some u := ⟨(R.setIfInBounds (c.length * 4) (.int .i64 (-77000000)))[(c.length + 1) * 4]'(by simp; omega), by simp only [World.cell?, hrow8]; exact Array.getElem?_eq_getElem _⟩
      obtain ⟨u7, d7⟩ := d7
      obtain ⟨u8, d8⟩ := d8
      have z7 : w7.frozen? ⟨w5.heap.size, c.length * 4, none⟩ = false := by simp [World.frozen?, hrow7]
      have z8 : (w7.setCell ⟨w5.heap.size, c.length * 4, none⟩ (.int .i64 (-77000000))).frozen? ⟨w5.heap.size, (c.length + 1) * 4, none⟩ = false := by simp [World.frozen?, hrow8]
      have hG7 : w5.grownBy w7 none := ⟨hg7.os.trans HG6.out.os, hg7.tape.trans HG6.out.tape, hg7.output.trans HG6.out.output, Nat.le_trans HG6.out.size hg7.size, fun k hk _ => by
        rw [hg7.block k (Nat.lt_of_lt_of_le hk HG6.out.size) (by simp; omega)]; exact HG6.out.block k hk (by simp)⟩
      obtain ⟨w9, hw9⟩ : ∃ w9, w9 = (w7.setCell ⟨w5.heap.size, c.length * 4, none⟩ (.int .i64 (-77000000))).setCell ⟨w5.heap.size, (c.length + 1) * 4, none⟩ (.int .i64 (-77000000)) := ⟨_, rfl⟩
      have hG9 : w5.grownBy w9 none := by rw [hw9]; exact grown_setNew (grown_setNew hG7 (Nat.le_refl _)) (Nat.le_refl _)
      rw [← hw9] at hrow9
      have hs9 : w5.heap.size < w9.heap.size := (Array.getElem?_eq_some_iff.1 hrow9).1
      have HW9 := hide hw9
      clear hw9 hrow7 hrow8 hg7 hR hRs hG7 HRI hcs hW6
      go_upto_region 11 with fail
      rw [← HW9.out]
      clear HW9 d7 d8 z7 z8 u7 u8
      obtain ⟨hx9, hf9⟩ := HI.out.lx.new hG9 (g := w5.heap.size) (Nat.le_refl _) hs9
      have HX9 := hide hx9
      have HF9 := hide (HI.out.fr.trans hf9)
      have HB9 := hide hrow9
      have HL9 : Hid (setW who5 w5.heap.size .lent w5.heap.size = .lent) := setW_at _ _ _
      have hgrlt : gr < w5.heap.size := (Array.getElem?_eq_some_iff.1 HI.out.row).1
      have HRW9 : Hid (w9.heap[gr]? = some (.cells (LC1.map slC ++ List.replicate (p.length + 2 - i) (Value.slice none 0 0)).toArray 75 (0, 0)) ∧ setW who5 w5.heap.size .lent gr = .lent) := by
        refine ⟨by rw [hG9.block _ hgrlt (by simp)]; exact HI.out.row, ?_⟩
        rw [setW_ne _ _ (by omega)]; exact HI.out.wg
      have HNG : Hid (w5.heap.size ∉ LI.map (·.1) ++ ((LC ++ LC1).map (·.1) ++ LR.map (·.1))) := fun e => by have := (HI.out.lx.le.lt _ e).1; omega
      have HBS9 := hide (grown_trans HI.out.base hG9)
      have HMP := hide HI.out.map
      have HNR := hide HI.out.ng
      have HNB := hide HI.out.nr
      have HRG := hide HI.out.rg
      have hrblt : w.heap.size + 1 < w5.heap.size := (Array.getElem?_eq_some_iff.1 HI.out.res).1
      have HRB9 : Hid (w9.heap[w.heap.size + 1]? = some (.cells #[.slice none 0 0] 24 (0, 0)) ∧ setW who5 w5.heap.size .lent (w.heap.size + 1) = .lent) := by
        refine ⟨by rw [hG9.block _ hrblt (by simp)]; exact HI.out.res, ?_⟩
        rw [setW_ne _ _ (by omega)]; exact HI.out.wr
      have HEE := hide (EL_code LI (LC ++ LC1) LR w5.heap.size c (.slice ca c.length cc))
      have hE2 : (EL LI (LC ++ LC1) LR 2).length ≤ 5864062014634 := by simp only [EL, List.length_map, List.length_append]; omega
      have hE3 : (EL LI (LC ++ LC1) LR 3).length ≤ 5864062014634 := by simp only [EL, List.length_map, List.length_append]; omega
      clear hx9 hf9 hrow9 HI
      generalize setW who5 w5.heap.size .lent = who9 at *
      generalize EL LI (LC ++ LC1) LR = E at *
      generalize hgx : w5.heap.size = gx at *
      clear hgx
      have rO : w9.ownsRow B 75 1 (f5 2) (E 2).length (E 2) := HX9.out.lr.r 2 (by omega)
      have c2 : w9.cell? ⟨b, 2, none⟩ = some (f5 2) := HX9.out.cell (by omega)
      obtain ⟨o1, o2, o3, eO⟩ := owns_form rO
      rw [eO] at rO c2
      have ho2 := owns_lenq rO
      subst ho2
      have HPU : Hid (∀ {o : Obj} {g6 c6 : Nat} {w6 : World}, w6.ownsRow B 75 1 (.slice (some ⟨g6, 0, none⟩) ((E 2).length + 1) c6) ((E 2).length + 1) (E 2 ++ [sl2 gx c.length]) →
          (((Value.slice o1 (E 2).length o3).ownBlock = some g6 ∧ (w9.alloc o).grownBy w6 (some g6)) ∨ (g6 = w9.heap.size + 1 ∧ (w9.alloc o).grownBy w6 none)) →
          HB w6 b f5 ∧ ∃ who' f', Lx B (w6.setCell ⟨b, 2, none⟩ (.slice (some ⟨g6, 0, none⟩) ((E 2).length + 1) c6)) b who' n f' K (setE E 2 (E 2 ++ [sl2 gx c.length])) LI (LC ++ LC1) LR i ∧
          Fr w9 (w6.setCell ⟨b, 2, none⟩ (.slice (some ⟨g6, 0, none⟩) ((E 2).length + 1) c6)) who9 who' (fun _ => False) ∧ (∀ j, j ≠ 2 → f' j = f5 j) ∧ (∀ g, who9 g = .lent → (w6.setCell ⟨b, 2, none⟩ (.slice (some ⟨g6, 0, none⟩) ((E 2).length + 1) c6)).heap[g]? = w9.heap[g]? ∧ who' g = .lent)) := by
        intro o g6 c6 w6 hown key
        rw [← eO] at key
        exact HX9.out.push (by omega) hown key
      have hbase : B ≤ w9.heap.size := by have := HX9.out.low; omega
      have HRO := hide rO
      have HEO := hide eO
      have h63a : (E 2).length + 1 ≤ maxLen := by unfold maxLen; omega
      have h63b : (E 3).length + 1 ≤ maxLen := by unfold maxLen; omega
      clear rO eO
      have HE3 : Hid (setE E 2 (E 2 ++ [sl2 gx c.length]) 3 = E 3) := setE_ne _ _ (by omega)
      generalize hN0 : (E 2).length = N0 at *
      generalize hL0 : E 2 = L0 at *
      clear hN0 hL0
      go_upto_region 12 with (at_builtin; go_must (refine wpList_append_keeps rfl _ _ _ rfl B 75 i1 _ 1 24 Tryz.underlying22 hi1 hy0 hy1 hy2 rfl (by omega) (.slice o1 N0 o3) N0 L0 rfl (owns_alloc HRO.out) ⟨w9.heap.size, 0, none⟩ 1 1 [sl2 gx c.length] rfl rfl (World.news_of_block (cs := #[.slice (some ⟨gx, 0, none⟩) (c.length + 2) (c.length + 2)]) (t := 75) (fr := (0, 0)) (heap_alloc_new w9 _)) (by simp [sl2, Value.oneCell']) (by omega) h63a (by omega) (by simp; omega) (w9.heap.size + 1) (by simp) ?_); intro g10 cap10 w10 hown10 key10 hlt10; have hb10 := (HPU.out hown10 key10).1; have p6 : w10.cell? ⟨b, 2, none⟩ = some (.slice o1 N0 o3) := (by rw [hb10.cell (by omega), HEO.out]); have p7 := hb10.frozen 2)
      obtain ⟨_, who11, f11, hx11, hf11, hj11, hl11⟩ := HPU.out hown10 key10
      generalize w10.setCell ⟨b, 2, none⟩ (.slice (some ⟨g10, 0, none⟩) (N0 + 1) cap10) = w11 at *
      rw [← HE3.out] at hE3 h63b
      generalize setE E 2 (L0 ++ [sl2 gx c.length]) = E11 at *
      have rM : w11.ownsRow B 75 1 (f11 3) (E11 3).length (E11 3) := hx11.lr.r 3 (by omega)
      have c3 : w11.cell? ⟨b, 3, none⟩ = some (f11 3) := hx11.cell (by omega)
      obtain ⟨m1, m2, m3, eM⟩ := owns_form rM
      rw [eM] at rM c3
      have hm2 := owns_lenq rM
      subst hm2
      have HPU2 : Hid (∀ {o : Obj} {g6 c6 : Nat} {w6 : World}, w6.ownsRow B 75 1 (.slice (some ⟨g6, 0, none⟩) ((E11 3).length + 1) c6) ((E11 3).length + 1) (E11 3 ++ [.slice ca c.length cc]) →
          (((Value.slice m1 (E11 3).length m3).ownBlock = some g6 ∧ (w11.drew.alloc o).grownBy w6 (some g6)) ∨ (g6 = w11.drew.heap.size + 1 ∧ (w11.drew.alloc o).grownBy w6 none)) →
          HB w6 b f11 ∧ ∃ who' f', Lx B (w6.setCell ⟨b, 3, none⟩ (.slice (some ⟨g6, 0, none⟩) ((E11 3).length + 1) c6)) b who' n f' K (setE E11 3 (E11 3 ++ [.slice ca c.length cc])) LI (LC ++ LC1) LR i ∧
          Fr w11.drew (w6.setCell ⟨b, 3, none⟩ (.slice (some ⟨g6, 0, none⟩) ((E11 3).length + 1) c6)) who11 who' (fun _ => False) ∧ (∀ j, j ≠ 3 → f' j = f11 j) ∧ (∀ g, who11 g = .lent → (w6.setCell ⟨b, 3, none⟩ (.slice (some ⟨g6, 0, none⟩) ((E11 3).length + 1) c6)).heap[g]? = w11.drew.heap[g]? ∧ who' g = .lent)) := by
        intro o g6 c6 w6 hown key
        rw [← eM] at key
        exact (hx11.grown (grown_drew (grown_refl _ _))).push (by omega) hown key
      have hbase11 : B ≤ w11.heap.size := by have := hx11.low; omega
      have hF11 := HF9.out.trans hf11
      have hW11 : W.grownBy w11 none := hf11.base HBS9.out hWB (fun g e => (HX9.out.hs.1.dom g e).1) (fun g e => e.elim)
      have e0 : w11.cell? ⟨w.heap.size, 0, none⟩ = some (.slice (some ⟨pg, po, none⟩) p.length cap) := by
        rw [World.cell?_of_block (hF11.oth w.heap.size hbx.1 HWB.out (fun e => e)).1]; have := HB2.out; simp [World.cell?, this]
      have e1 : w11.cell? ⟨pg, po + i, none⟩ = some (.slice ca c.length cc) := pres_grown hW11 _ _ HR1.out
      have HRM := hide rM
      have HEM := hide eM
      have HX11 := hide hx11
      have HF11 := hide hF11
      have HW11 := hide hW11
      have HL11 := hide (hl11 gx HL9.out)
      have HLG11 := hide (hl11 gr HRW9.out.2)
      have HLB11 := hide (hl11 (w.heap.size + 1) HRB9.out.2)
      have HOB : Hid (∀ g o l cc', Value.slice ca c.length cc = .slice (some ⟨g, o, none⟩) l cc' → 0 < l → g < W.heap.size) := by
        intro g o l cc' e2 hz
        obtain ⟨ao', cap', e4, h5⟩ := HR3.out
        simp only [Value.slice.injEq] at e2 e4
        obtain ⟨g', o', e5, e6, _⟩ := h5 0 (by omega)
        rw [← e4.1, e2.1] at e5
        simp only [Option.some.injEq, Addr.mk.injEq, and_true] at e5
        have := World.block_lt_of_cell? W _ e6
        simp only at this
        omega
      clear rM eM hown10 key10 hb10 p6 p7 hlt10 c2 hx11 hf11 hj11 hl11 HPU HRO HEO HX9 HF9 HE3 hF11 hW11 HL9
      generalize hN1 : (E11 3).length = N1 at *
      generalize hL1' : E11 3 = L1 at *
      clear hN1
      refine wp_region_head (fun u => u.cell? ⟨b, 3, none⟩ = some (.slice m1 N1 m3) ∧ u.cell? ⟨w.heap.size, 0, none⟩ = some (.slice (some ⟨pg, po, none⟩) p.length cap) ∧ u.cell? ⟨pg, po + i, none⟩ = some (.slice ca c.length cc)) 14 (by kernel_rfl) (by kernel_rfl) ⟨by simp [go_sem, c3], by simp [go_sem, e0], by simp [go_sem, e1]⟩ ?_
      intro hHeld
      have hHeld1 := hHeld.1
      have hHeld2 := hHeld.2.1
      have hHeld3 := hHeld.2.2
      refine wpHead_take (i := 0) (v := ?vv0) rfl (by kernel_rfl) (fun _ _ _ h => h) (Or.inl ⟨by rfl, ?hy0⟩) hHeld ?rest0
      case hy0 => (rintro u ⟨hu1, hu2, hu3⟩; go_simp; try with_reducible rfl)
      simp only [Act.put, List.setIfInBounds_toArray]
      refine wpHead_take (i := 1) (v := ?vv1) rfl (by kernel_rfl) (fun _ _ _ h => h) (Or.inl ⟨by rfl, ?hy1⟩) hHeld ?rest1
      case hy1 => (rintro u ⟨hu1, hu2, hu3⟩; go_simp; try with_reducible rfl)
      simp only [Act.put]
      refine wpHead_take (i := 2) (v := ?vv2) rfl (by kernel_rfl) (fun _ _ _ h => h) (Or.inl ⟨by rfl, ?hy2⟩) hHeld ?rest2
      case hy2 => (rintro u ⟨hu1, hu2, hu3⟩; go_simp; try with_reducible rfl)
      simp only [Act.put]
      refine wpHead_take (i := 3) (v := ?vv3) rfl (by kernel_rfl) (fun _ _ _ h => h) (Or.inl ⟨by rfl, ?hy3⟩) hHeld ?rest3
      case hy3 => (rintro u ⟨hu1, hu2, hu3⟩; go_simp; try with_reducible rfl)
      simp only [Act.put]
      refine wpHead_take (i := 4) (v := ?vv4) rfl (by kernel_rfl) (fun _ _ _ h => h) (Or.inl ⟨by rfl, ?hy4⟩) hHeld ?rest4
      case hy4 => (rintro u ⟨hu1, hu2, hu3⟩; go_simp; try with_reducible rfl)
      simp only [Act.put]
      refine wpHead_take (i := 5) (v := ?vv5) rfl (by kernel_rfl) (fun _ _ _ h => h) (Or.inl ⟨by rfl, ?hy5⟩) hHeld ?rest5
      case hy5 => (rintro u ⟨hu1, hu2, hu3⟩; go_simp; try with_reducible rfl)
      simp only [Act.put]
      refine wpHead_take (i := 6) (v := ?vv6) rfl (by kernel_rfl) (fun _ _ _ h => h) (Or.inl ⟨by rfl, ?hy6⟩) hHeld ?rest6
      case hy6 => (rintro u ⟨hu1, hu2, hu3⟩; go_simp; try with_reducible rfl)
      simp only [Act.put]
      refine wpHead_take (i := 7) (v := ?vv7) rfl (by kernel_rfl) (fun _ _ _ h => h) (Or.inl ⟨by rfl, ?hy7⟩) hHeld ?rest7
      case hy7 => (rintro u ⟨hu1, hu2, hu3⟩; go_simp; try with_reducible rfl)
      simp only [Act.put]
      refine wpHead_take (i := 8) (v := ?vv8) rfl (by kernel_rfl) (fun _ _ _ h => h) (Or.inl ⟨by rfl, ?hy8⟩) hHeld ?rest8
      case hy8 => (rintro u ⟨hu1, hu2, hu3⟩; go_simp; try with_reducible rfl)
      simp only [Act.put]
      refine wpHead_take (i := 9) (v := ?vv9) rfl (by kernel_rfl) (fun _ _ _ h => h) (Or.inl ⟨by rfl, ?hy9⟩) hHeld ?rest9
      case hy9 => (rintro u ⟨hu1, hu2, hu3⟩; go_simp; try with_reducible rfl)
      simp only [Act.put]
      refine wpHead_alone (i := 10) rfl (by kernel_rfl) (by kernel_rfl) (by rfl) ?_
      intro K10 hK10
      have HK10 := hide hK10
      clear hK10
      go_simp
      refine HK10.out _ _ ⟨pres_grown (grown_alloc (grown_refl _ _)) _ _ hHeld.1, pres_grown (grown_alloc (grown_refl _ _)) _ _ hHeld.2.1, pres_grown (grown_alloc (grown_refl _ _)) _ _ hHeld.2.2⟩ ?_
      clear HK10
      try simp only [Act.put, List.setIfInBounds_toArray]
      refine wpHead_alone (i := 11) rfl (by kernel_rfl) (by kernel_rfl) (by rfl) ?_
      intro K11 hK11
      have HK11 := hide hK11
      clear hK11
      refine wp_append_keeps (.tmp 60) (.tmp 66) 22 (by rfl) B 75 i1 _ 1 24 Tryz.underlying22 hi1 hy0 hy1 hy2 rfl (by omega) (.slice m1 N1 m3) N1 L1 (by rfl) (owns_alloc (w := w11.drew) (show w11.drew.ownsRow _ _ _ _ _ _ from HRM.out)) ⟨w11.heap.size, 0, none⟩ 1 1 [.slice ca c.length cc] (by rfl) (by rfl) (World.news_of_block (cs := #[.slice ca c.length cc]) (t := 75) (fr := (0, 0)) (heap_alloc_new w11.drew _)) (by simp [Value.oneCell']) (by omega) h63b (by omega) (by simp; omega) (w11.heap.size + 1) (by simp) ?_
      intro g12 cap12 w12 hown12 key12 hlt12
      obtain ⟨hb12, who13, f13, hx13, hf13, hj13, hl13⟩ := HPU2.out hown12 key12
      have p6 : w12.cell? ⟨b, 3, none⟩ = some (.slice m1 N1 m3) := by rw [hb12.cell (by omega), HEM.out]
      have hob : who11 w.heap.size = .other := (HF11.out.oth w.heap.size hbx.1 HWB.out (fun e => e)).2
      have hop : who11 pg = .other := by
        have hlt := World.block_lt_of_cell? W _ HR1.out
        simp only at hlt
        by_cases e : who11 pg = .other
        · exact e
        · exact absurd (HX11.out.hs.1.dom pg e).1 (by omega)
      have hcb : ∀ g o v, who11 g = .other → g < w11.heap.size → w11.cell? ⟨g, o, none⟩ = some v → w12.cell? ⟨g, o, none⟩ = some v := fun g o v h1 h2 h3 => by
        have h4 := (hf13.oth g h2 h1 (fun e => e)).1
        rw [Below.heap_setCell _ _ _ _ (fun e => by simp only at e; subst e; rw [HX11.out.hs.1.wb] at h1; cases h1)] at h4
        rw [World.cell?_of_block h4]; exact h3
      have q6 := hcb _ _ _ hob (World.block_lt_of_cell? w11 _ e0) e0
      have q7 := hcb _ _ _ hop (World.block_lt_of_cell? w11 _ e1) e1
      have p7 := hb12.frozen 3
      refine HK11.out _ _ ⟨p6, q6, q7⟩ ?_
      clear HK11
      try simp only [Act.put, List.setIfInBounds_toArray]
      refine wpHead_take (i := 12) (v := ?vv12) rfl (by kernel_rfl) (fun _ _ _ h => h) (Or.inl ⟨by rfl, ?hy12⟩) ⟨p6, q6, q7⟩ ?rest12
      case hy12 => (rintro u ⟨hu1, hu2, hu3⟩; go_simp; try with_reducible rfl)
      simp only [Act.put]
      refine wpHead_take (i := 13) (v := ?vv13) rfl (by kernel_rfl) (fun _ _ _ h => h) (Or.inl ⟨by rfl, ?hy13⟩) ⟨p6, q6, q7⟩ ?rest13
      case hy13 => (rintro u ⟨hu1, hu2, hu3⟩; go_simp; try with_reducible rfl)
      simp only [Act.put]
      refine wpHead_last rfl (by kernel_rfl) (by kernel_rfl) (by rfl) ?_
      go_simp
      generalize w12.setCell ⟨b, 3, none⟩ (.slice (some ⟨g12, 0, none⟩) (N1 + 1) cap12) = w13 at *
      have hrow13 : w13.heap[gr]? = some (.cells (LC1.map slC ++ List.replicate (p.length + 2 - i) (Value.slice none 0 0)).toArray 75 (0, 0)) := by
        rw [(hl13 gr HLG11.out.2).1]
        show w11.heap[gr]? = _
        rw [HLG11.out.1]; exact HRW9.out.1
      have hW13 : W.grownBy w13 none := (Fr.trans (Fr.grown (grown_drew (grown_refl _ _))) hf13).base HW11.out hWB (fun g e => (HX11.out.hs.1.dom g e).1) (fun g e => e.elim)
      have HFIN : Hid (PgIn B W w2 (w13.setCell ⟨gr, i, none⟩ (.slice (some ⟨gx, 0, none⟩) c.length (c.length + 2))) b who2 who13 n f13 K LI LC (LC1 ++ [(gx, c, .slice ca c.length cc)]) LR gr (w.heap.size + 1) p (i + 1)) := by
        have hgl := (hl13 gr HLG11.out.2).2
        have hblk : w13.heap[gx]? = some (.cells (lentCode c) 74 (0, 0)) := by
          rw [(hl13 gx HL11.out.2).1]
          show w11.heap[gx]? = _
          rw [HL11.out.1]; exact HB9.out
        have hvo : valOther who13 (.slice ca c.length cc) := fun g o l cc' e2 hz => by
          have hlt := HOB.out g o l cc' e2 hz
          by_cases e : who13 g = .other
          · exact e
          · exact absurd (hx13.hs.1.dom g e).1 (by omega)
        have hlx := hx13.addCode (LC1 := LC ++ (LC1 ++ [(gx, c, .slice ca c.length cc)])) hblk (hl13 gx HL11.out.2).2 (HR3.out.pres (pres_grown hW13)) hvo hpl HNG.out (by rw [← List.append_assoc]; exact HEE.out) (by rw [List.append_assoc])
        have hng2 : gr ∉ LI.map (·.1) ++ ((LC ++ (LC1 ++ [(gx, c, Value.slice ca c.length cc)])).map (·.1) ++ LR.map (·.1)) := by
          have := HNR.out
          simp only [List.map_append, List.map_cons, List.map_nil, List.mem_append, not_or, List.mem_cons, List.not_mem_nil, or_false] at this ⊢
          exact ⟨this.1, ⟨this.2.1.1, this.2.1.2, by omega⟩, this.2.2⟩
        have hfr := (HF11.out.trans (Fr.grown (grown_drew (grown_refl _ _)))).trans hf13
        have hnb2 : w.heap.size + 1 ∉ LI.map (·.1) ++ ((LC ++ (LC1 ++ [(gx, c, Value.slice ca c.length cc)])).map (·.1) ++ LR.map (·.1)) := by
          have := HNB.out
          simp only [List.map_append, List.map_cons, List.map_nil, List.mem_append, not_or, List.mem_cons, List.not_mem_nil, or_false] at this ⊢
          exact ⟨this.1, ⟨this.2.1.1, this.2.1.2, by omega⟩, this.2.2⟩
        have hrb13 := hl13 (w.heap.size + 1) HLB11.out.2
        refine ⟨hlx.setOut hgl hng2, ?_, ?_, hgl, hng2, hfr.trans (Fr.set (Or.inl (by rw [hgl]; simp))), ?_, ?_, hrb13.2, hnb2, HRG.out⟩
        · rw [List.map_append, HMP.out, HTK.out]; rfl
        · rw [heap_setCell_same w13 gr i _ _ _ hrow13, List.setIfInBounds_toArray, row_next _ _ _ _ (by simpa using hL1) hlt, List.map_append]; rfl
        · exact grown_setNew hW13 (by have := (hx13.hs.1.dom gr (by rw [hgl]; simp)).1; omega)
        · rw [Below.heap_setCell _ _ _ _ (by simpa using HRG.out), hrb13.1]
          show w11.heap[w.heap.size + 1]? = _
          rw [HLB11.out.1]; exact HRB9.out.1
      have k0 : ∃ u, w13.cell? ⟨gr, i, none⟩ = some u := by
        have hlen : i < (LC1.map slC ++ List.replicate (p.length + 2 - i) (Value.slice none 0 0)).toArray.size := by simp; omega
        exact ⟨(LC1.map slC ++ List.replicate (p.length + 2 - i) (Value.slice none 0 0)).toArray[i]'hlen, by simp only [World.cell?, hrow13]; exact Array.getElem?_eq_getElem hlen⟩
      obtain ⟨u13, k0⟩ := k0
      have k1 : w13.frozen? ⟨gr, i, none⟩ = false := by simp [World.frozen?, hrow13]
      have k2 : (i : Int) < (p.length : Int) + 2 := by omega
      have k3 : (c.length : Int) ≤ (c.length : Int) + 2 := by omega
      clear hown12 key12 hlt12 hb12 p6 p7 q6 q7 hcb hx13 hf13 hj13 hl13 hrow13 hW13 e0 e1 c3 hHeld hHeld1 hHeld2 hHeld3
      go_wp2_with fail
      go_roundw
      case rel => exact ⟨i + 1, _, who13, f13, by omega, by go_num, HFIN⟩
      case measure => simp [intOf]; omega
    · have ei : i = p.length := by omega
      have t1 : (p.length : Int) ≤ (i : Int) := by omega
      have HSUM : Hid ((LR.map (·.2)).sum = LC.length) := by have := HI.out.lx.le.sum; unfold Hid; simp at this; omega
      have rO : w5.ownsRow B 22 1 (f5 4) (EL LI (LC ++ LC1) LR 4).length (EL LI (LC ++ LC1) LR 4) := HI.out.lx.lr.r 4 (by omega)
      have c4 : w5.cell? ⟨b, 4, none⟩ = some (f5 4) := HI.out.lx.cell (by omega)
      have hE4 : (EL LI (LC ++ LC1) LR 4).length ≤ 1000 := by simp only [EL, List.length_map]; exact hLR
      have HEE := hide (EL_row LI (LC ++ LC1) LR gr p.length)
      obtain ⟨o1, o2, o3, eO⟩ := owns_form rO
      rw [eO] at rO c4
      have ho2 := owns_lenq rO
      subst ho2
      have hbase : B ≤ w5.heap.size := by have := HI.out.lx.low; omega
      have HPU : Hid (∀ {o : Obj} {g6 c6 : Nat} {w6 : World}, w6.ownsRow B 22 1 (.slice (some ⟨g6, 0, none⟩) ((EL LI (LC ++ LC1) LR 4).length + 1) c6) ((EL LI (LC ++ LC1) LR 4).length + 1) (EL LI (LC ++ LC1) LR 4 ++ [sl2 gr p.length]) →
          (((Value.slice o1 (EL LI (LC ++ LC1) LR 4).length o3).ownBlock = some g6 ∧ (w5.alloc o).grownBy w6 (some g6)) ∨ (g6 = w5.heap.size + 1 ∧ (w5.alloc o).grownBy w6 none)) →
          HB w6 b f5 ∧ ∃ who' f', Lx B (w6.setCell ⟨b, 4, none⟩ (.slice (some ⟨g6, 0, none⟩) ((EL LI (LC ++ LC1) LR 4).length + 1) c6)) b who' n f' K (setE (EL LI (LC ++ LC1) LR) 4 (EL LI (LC ++ LC1) LR 4 ++ [sl2 gr p.length])) LI (LC ++ LC1) LR i ∧
          Fr w5 (w6.setCell ⟨b, 4, none⟩ (.slice (some ⟨g6, 0, none⟩) ((EL LI (LC ++ LC1) LR 4).length + 1) c6)) who5 who' (fun _ => False) ∧ (∀ j, j ≠ 4 → f' j = f5 j) ∧ (∀ g, who5 g = .lent → (w6.setCell ⟨b, 4, none⟩ (.slice (some ⟨g6, 0, none⟩) ((EL LI (LC ++ LC1) LR 4).length + 1) c6)).heap[g]? = w5.heap[g]? ∧ who' g = .lent)) := by
        intro o g6 c6 w6 hown key
        rw [← eO] at key
        exact HI.out.lx.push (by omega) hown key
      have HRO := hide rO
      have HEO := hide eO
      have h63a : (EL LI (LC ++ LC1) LR 4).length + 1 ≤ maxLen := by unfold maxLen; omega
      clear rO eO
      generalize hN0 : (EL LI (LC ++ LC1) LR 4).length = N0 at *
      generalize hL0 : EL LI (LC ++ LC1) LR 4 = L0 at *
      clear hN0
      go_upto_region 15 with (at_builtin; go_must (refine wpList_append_keeps rfl _ _ _ rfl B 22 i2 _ 1 24 Tryz.underlying39 hi2 hx0 hx1 hx2 rfl (by omega) (.slice o1 N0 o3) N0 L0 rfl (owns_alloc HRO.out) ⟨w5.heap.size, 0, none⟩ 1 1 [sl2 gr p.length] rfl rfl (World.news_of_block (cs := #[.slice (some ⟨gr, 0, none⟩) (p.length + 2) (p.length + 2)]) (t := 22) (fr := (0, 0)) (heap_alloc_new w5 _)) (by simp [sl2, Value.oneCell']) (by omega) h63a (by omega) (by simp; omega) (w5.heap.size + 1) (by simp) ?_); intro g10 cap10 w10 hown10 key10 hlt10; have hb10 := (HPU.out hown10 key10).1; have p6 : w10.cell? ⟨b, 4, none⟩ = some (.slice o1 N0 o3) := (by rw [hb10.cell (by omega), HEO.out]); have p7 := hb10.frozen 4)
      obtain ⟨_, who11, f11, hx11, hf11, hj11, hl11⟩ := HPU.out hown10 key10
      generalize w10.setCell ⟨b, 4, none⟩ (.slice (some ⟨g10, 0, none⟩) (N0 + 1) cap10) = w11 at *
      have hgl := hl11 gr HI.out.wg
      have hrl := hl11 (w.heap.size + 1) HI.out.wr
      have hrow11 : w11.heap[gr]? = some (.cells (lentRows LC1) 75 (0, 0)) := by
        rw [hgl.1, HI.out.row, ei]
        have e2 : p.length + 2 - p.length = 2 := by omega
        rw [e2]; rfl
      have hres11 : w11.heap[w.heap.size + 1]? = some (.cells #[.slice none 0 0] 24 (0, 0)) := by rw [hrl.1]; exact HI.out.res
      have HFIN : Hid (Lx B (w11.setCell ⟨w.heap.size + 1, 0, none⟩ (.slice (some ⟨gr, 0, none⟩) p.length (p.length + 2))) b who11 n f11 K (EL LI (LC ++ LC1) (LR ++ [(gr, p.length)])) LI (LC ++ LC1) (LR ++ [(gr, p.length)]) 0 ∧ LC1.map (·.2.1) = p ∧ Fr w (w11.setCell ⟨w.heap.size + 1, 0, none⟩ (.slice (some ⟨gr, 0, none⟩) p.length (p.length + 2))) who who11 (fun _ => False) ∧ (w11.setCell ⟨w.heap.size + 1, 0, none⟩ (.slice (some ⟨gr, 0, none⟩) p.length (p.length + 2))).heap[gr]? = some (.cells (lentRows LC1) 75 (0, 0))) := by
        have hle := hx11.le.addRow (g := gr) (by rw [HSUM.out, List.drop_left]; exact hrow11) hgl.2 (by omega) HI.out.ng
        rw [ei] at hle
        have hlr := hx11.lr
        rw [HEE.out] at hlr
        have hlx : Lx B w11 b who11 n f11 K (EL LI (LC ++ LC1) (LR ++ [(gr, p.length)])) LI (LC ++ LC1) (LR ++ [(gr, p.length)]) 0 := ⟨hx11.hs, hlr, hle⟩
        refine ⟨hlx.setOut hrl.2 ?_, ?_, ((HF2.out.trans HI.out.fr).trans hf11).trans (Fr.set (Or.inl (by rw [hrl.2]; simp))), ?_⟩
        · have := HI.out.nr
          have hrg := HI.out.rg
          simp only [List.map_append, List.map_cons, List.map_nil, List.mem_append, not_or, List.mem_cons, List.not_mem_nil, or_false] at this ⊢
          exact ⟨this.1, this.2.1, this.2.2, hrg⟩
        · have := HI.out.map
          rw [ei, List.take_length] at this
          exact this
        · rw [Below.heap_setCell _ _ _ _ (by simpa using HI.out.rg.symm)]; exact hrow11
      have z0 : w11.cell? ⟨w.heap.size + 1, 0, none⟩ = some (.slice none 0 0) := by simp [World.cell?, hres11]
      have z1 : w11.frozen? ⟨w.heap.size + 1, 0, none⟩ = false := by simp [World.frozen?, hres11]
      have z2 : (w11.setCell ⟨w.heap.size + 1, 0, none⟩ (.slice (some ⟨gr, 0, none⟩) p.length (p.length + 2))).cell? ⟨w.heap.size + 1, 0, none⟩ = some (.slice (some ⟨gr, 0, none⟩) p.length (p.length + 2)) := by
        have := heap_setCell_same w11 (w.heap.size + 1) 0 _ _ (.slice (some ⟨gr, 0, none⟩) p.length (p.length + 2)) hres11
        simp [World.cell?, this]
      have z3 : (p.length : Int) ≤ (p.length : Int) + 2 := by omega
      clear hown10 key10 hb10 p6 p7 hlt10 c4 hx11 hf11 hj11 hl11 HPU HRO HEO hgl hrl hrow11 hres11
      go_wp2_with fail
      refine bodyPost_ret (v := .agg #[.slice (some ⟨gr, 0, none⟩) p.length (p.length + 2)]) ?_ rfl ?_
      · simp [results, Tryz.results27, go_sem, z2]
      · exact ⟨gr, LC1, who11, f11, rfl, HFIN.out⟩

end Go.Proofs.YtklenjmfalljgaaGreatDoor

/- The walk of sameCode, where they are the same. -/
namespace Go.Proofs.YtklenjmfalljgaaGreatDoor
open Go.RowKit
attribute [local go_sem] Go.World.cell?_alloc_some

set_option maxRecDepth 100000 in
set_option maxHeartbeats 1000000 in
theorem sameCode_m (c : List Ins) (v u : Value) (w : World) (hC : CodeAt w v c) (hD : CodeAt w u c) (hln : c.length ≤ 4398046510976) :
    Calls Tryz.prog 54 #[v, u] w fun e w' => e = .returned (.bool true) ∧ Like w' w := by
  obtain ⟨ao, cap, rfl, hc⟩ := hC
  obtain ⟨bo, dap, rfl, hd⟩ := hD
  have HC := hide hc
  have HD := hide hd
  clear hc hd
  have q9 : (c.length : Int) ≤ 4398046510976 := by omega
  go_enter Tryz.func54, Tryz.ntmps54
  go_wp2_with fail
  go_loopw [5] (fun i w' => ∃ k : Nat, k ≤ c.length ∧ i = .int .i64 k ∧ Hid (Like w' w)) (fun i _ => c.length - (intOf i).toNat)
  case atStart => exact ⟨0, Nat.zero_le _, rfl, hide (like_refl _)⟩
  case round =>
    obtain ⟨k, hk, rfl, HK⟩ := hrel
    obtain ⟨w7, hw7⟩ : ∃ w7, w7 = wr := ⟨_, rfl⟩
    rw [← hw7] at HK ⊢
    clear hw7
    have cL : ∀ a, w7.cell? a = w.cell? a := fun a => by simp [World.cell?, HK.out.1]
    by_cases hkl : k < c.length
    · obtain ⟨xg, xo, rfl, x5, x6, x7, x8⟩ := HC.out k hkl
      obtain ⟨yg, yo, rfl, y5, y6, y7, y8⟩ := HD.out k hkl
      rw [← cL] at x5 x6 x7 x8 y5 y6 y7 y8
      have q2 : (0 : Int) ≤ (k : Int) := by omega
      have q3 : (k : Int) < c.length := by omega
      clear cL
      generalize c[k] = i at *
      obtain ⟨i1, i2, i3, i4⟩ := i
      simp only at x5 x6 x7 x8 y5 y6 y7 y8
      go_wp2_with fail
      go_quiet (fail)
      go_wp2_with fail
      go_roundw
      case rel => exact ⟨k + 1, by omega, by go_num, hide (like_dn HK.out _)⟩
      case measure => simp [intOf]; omega
    · have q3 : (c.length : Int) ≤ (k : Int) := by omega
      clear cL
      go_wp2_with fail
      go_ret
      exact ⟨rfl, HK.out⟩

end Go.Proofs.YtklenjmfalljgaaGreatDoor

/- What is lent, read back: the worlds in between. -/
namespace Go.Proofs.YtklenjmfalljgaaGreatDoor
open Go.RowKit

/-- All blocks but those of S are as they were. -/
structure Chg (w w' : World) (S : Nat → Prop) : Prop where
  os : w'.os = w.os
  tape : w'.tape = w.tape
  output : w'.output = w.output
  size : w.heap.size ≤ w'.heap.size
  blk : ∀ g, g < w.heap.size → ¬ S g → w'.heap[g]? = w.heap[g]?
theorem Chg.refl (w : World) (S : Nat → Prop) : Chg w w S := ⟨rfl, rfl, rfl, Nat.le_refl _, fun _ _ _ => rfl⟩
theorem Chg.below {w w1 w2 : World} {S : Nat → Prop} (h : Chg w w1 S) (hb : Below w1.heap.size w1 w2) : Chg w w2 S :=
  ⟨hb.os.trans h.os, hb.tape.trans h.tape, hb.output.trans h.output, Nat.le_trans h.size hb.size, fun g h1 h2 => by rw [hb.block g (Nat.lt_of_lt_of_le h1 h.size)]; exact h.blk g h1 h2⟩
theorem Chg.set {w w1 : World} {S : Nat → Prop} {g o : Nat} {v : Value} (h : Chg w w1 S) (hg : S g) : Chg w (w1.setCell ⟨g, o, none⟩ v) S :=
  ⟨h.os, h.tape, h.output, by simpa using h.size, fun k h1 h2 => by rw [Below.heap_setCell _ _ _ _ (fun e => by simp only at e; subst e; exact h2 hg)]; exact h.blk k h1 h2⟩
theorem Chg.mono {w w1 : World} {S S' : Nat → Prop} (h : Chg w w1 S) (hs : ∀ g, S g → S' g) : Chg w w1 S' := ⟨h.os, h.tape, h.output, h.size, fun k h1 h2 => h.blk k h1 (fun e => h2 (hs k e))⟩
theorem Chg.cell {w w1 : World} {S : Nat → Prop} (h : Chg w w1 S) {g o : Nat} {v : Value} (hc : w.cell? ⟨g, o, none⟩ = some v) (hs : ¬ S g) : w1.cell? ⟨g, o, none⟩ = some v := by
  have hlt : g < w.heap.size := World.block_lt_of_cell? w _ hc
  rw [World.cell?_of_block (h.blk g hlt hs)]; exact hc

theorem lentRows_size (l : List (Nat × List Ins × Value)) : (lentRows l).size = l.length + 2 := by simp [lentRows]
theorem lentRows_at (l : List (Nat × List Ins × Value)) (k : Nat) (hk : k < l.length) : (lentRows l)[k]? = some (slC l[k]) := by
  simp only [lentRows, List.getElem?_toArray]
  rw [List.getElem?_append_left (by simpa using hk), List.getElem?_map, List.getElem?_eq_getElem hk]; rfl
theorem lentRows_end0 (l : List (Nat × List Ins × Value)) : (lentRows l)[l.length]? = some (.slice none 0 0) := by
  simp only [lentRows, List.getElem?_toArray]
  rw [List.getElem?_append_right (by simp)]; simp
theorem lentRows_end1 (l : List (Nat × List Ins × Value)) : (lentRows l)[l.length + 1]? = some (.slice none 0 0) := by
  simp only [lentRows, List.getElem?_toArray]
  rw [List.getElem?_append_right (by simp)]; simp
theorem lentCode_size (c : List Ins) : (lentCode c).size = (c.length + 2) * 4 := by
  have := codeL_len c
  unfold codeL at this
  simp only [lentCode, List.size_toArray, List.length_append, this, insInk, List.length_cons, List.length_nil]
  omega
theorem lentCode_end (c : List Ins) (j : Nat) (hj : j < 4) : (lentCode c)[c.length * 4 + j]? = insInk[j]? ∧ (lentCode c)[(c.length + 1) * 4 + j]? = insInk[j]? := by
  have hl := codeL_len c
  unfold codeL at hl
  simp only [lentCode, List.getElem?_toArray]
  generalize List.flatMap insL c = L at hl ⊢
  refine ⟨?_, ?_⟩
  · rw [List.getElem?_append_right (by omega), List.getElem?_append_left (by simp [insInk]; omega)]
    congr 1; omega
  · rw [List.getElem?_append_right (by omega), List.getElem?_append_right (by simp [insInk]; omega)]
    congr 1; simp [insInk]; omega

/-- The hands hold nothing that is lent. -/
def Hz (B : Nat) (w : World) (b : Nat) (who : Nat → Role) (n : Int) (f : Nat → Value) (K : Nat → List (Value × Int)) : Prop := HsK B w b who n f K ∧ ∀ k, k < 5 → f k = .slice none 0 0
theorem Hz.lx {B : Nat} {w : World} {b : Nat} {who : Nat → Role} {n : Int} {f : Nat → Value} {K : Nat → List (Value × Int)} (h : Hz B w b who n f K) : Lx B w b who n f K (EL [] [] []) [] [] [] 0 := by
  refine ⟨h.1, ⟨fun k hk => ?_, fun k hk g e => ?_⟩, ⟨fun x hx => (by cases hx), fun x hx => (by cases hx), fun j hj => (by simp at hj), rfl, (by simp)⟩⟩
  · have e0 : EL [] [] [] k = [] := by
      rcases (by omega : k = 0 ∨ k = 1 ∨ k = 2 ∨ k = 3 ∨ k = 4) with rfl | rfl | rfl | rfl | rfl <;> rfl
    rw [e0, h.2 k hk]
    exact ⟨rfl, Or.inl ⟨rfl, rfl⟩⟩
  · rw [h.2 k hk] at e; cases e

/-- Nothing is lent. -/
theorem Lx.free {B : Nat} {w w' : World} {b : Nat} {who : Nat → Role} {n : Int} {f : Nat → Value} {K : Nat → List (Value × Int)} {E : Nat → List Value} {LI : List (Nat × List Int × Value)} {LC : List (Nat × List Ins × Value)} {LR : List (Nat × Nat)} {tail : Nat}
    (h : Lx B w b who n f K E LI LC LR tail) {S : Nat → Prop} (hc : Chg w w' S) (hS : ∀ g, S g → who g = .lent) :
    let w5 := ((((w'.setCell ⟨b, 4, none⟩ (.slice none 0 0)).setCell ⟨b, 2, none⟩ (.slice none 0 0)).setCell ⟨b, 3, none⟩ (.slice none 0 0)).setCell ⟨b, 0, none⟩ (.slice none 0 0)).setCell ⟨b, 1, none⟩ (.slice none 0 0)
    ∃ f', Hz B w5 b who n f' K ∧ Fr w w5 who who (fun _ => False) := by
  intro w5
  have hs' : Hs B w' b who n f K (marksOf K) := h.hs.1.same hc.size (fun g h1 h2 h3 => hc.blk g h1 (fun e => by rw [hS g e] at h3; cases h3))
  have hs5 := ((((hs'.setLent (o := 4) (by omega) (.slice none 0 0)).setLent (o := 2) (by omega) (.slice none 0 0)).setLent (o := 3) (by omega) (.slice none 0 0)).setLent (o := 0) (by omega) (.slice none 0 0)).setLent (o := 1) (by omega) (.slice none 0 0)
  have hfr : Fr w w' who who (fun _ => False) := ⟨hc.os, hc.tape, hc.output, hc.size, fun g h1 h2 _ => ⟨hc.blk g h1 (fun e => by rw [hS g e] at h2; cases h2), h2⟩⟩
  have hb : who b ≠ .other ∨ False := Or.inl (by rw [h.hs.1.wb]; simp)
  refine ⟨_, ⟨⟨hs5, h.hs.2⟩, fun k hk => ?_⟩, ((((hfr.trans (Fr.set hb)).trans (Fr.set hb)).trans (Fr.set hb)).trans (Fr.set hb)).trans (Fr.set hb)⟩
  rcases (by omega : k = 0 ∨ k = 1 ∨ k = 2 ∨ k = 3 ∨ k = 4) with rfl | rfl | rfl | rfl | rfl <;> simp [setF]

end Go.Proofs.YtklenjmfalljgaaGreatDoor
