/- The texts Hgm Hgn Hgd0 Hgv Nil Tla Agt. -/
import Derived.Test.YtklenjmfalljgaaDoorMD
import Derived.ChangeKeysEq
import Derived.Control
import Derived.Deep.DeepCutAuto

/- The walk of the hands' back, whole. -/
namespace Go.Proofs.YtklenjmfalljgaaDoor
open Go.RowKit
attribute [local go_sem] Go.World.cell?_alloc_some

theorem row_cell {w : World} {B : Nat} {T : TypeId} {v : Value} {E : List Value} (h : w.ownsRow B T 1 v E.length E) {i : Nat} (hi : i < E.length) : ∃ g cap, v = .slice (some ⟨g, 0, none⟩) E.length cap ∧ w.cell? ⟨g, i, none⟩ = some E[i] := by
  obtain ⟨g, cap, e, _, _⟩ := h.form (by omega)
  refine ⟨g, cap, e, ?_⟩
  rw [e] at h
  rw [h.cellAt i (by omega), List.getElem?_eq_getElem hi]
theorem nodup_take {l : List Nat} (h : l.Nodup) {i : Nat} (hi : i < l.length) : l[i] ∉ l.take i := by
  intro hm
  have h2 := h
  rw [← List.take_append_drop i l, List.nodup_append] at h2
  exact h2.2.2 _ hm _ (by rw [List.drop_eq_getElem_cons hi]; exact List.mem_cons_self) rfl

set_option maxRecDepth 100000 in
set_option maxHeartbeats 4000000 in
theorem back_g (B : Nat) (w : World) (b : Nat) (who : Nat → Role) (n : Int) (f : Nat → Value) (K : Nat → List (Value × Int)) (LI : List (Nat × List Int × Value)) (LC : List (Nat × List Ins × Value)) (LR : List (Nat × Nat))
    (h : Lx B w b who n f K (EL LI LC LR) LI LC LR 0) (hLI : LI.length ≤ 1000) (hLC : LC.length ≤ 5864062014634) (hLR : LR.length ≤ 1000) :
    Calls Tryd.prog 46 #[pt b] w fun e w' => e = .returned (.bool true) ∧ ∃ f', Hz B w' b who n f' K ∧ Fr w w' who who (fun _ => False) := by
  have HX := hide h
  have hpt : pt b = .pointer (some ⟨b, 0, none⟩) := rfl
  rw [hpt]
  have c0 := h.cell (o := 0) (by omega)
  have c1 := h.cell (o := 1) (by omega)
  have c2 := h.cell (o := 2) (by omega)
  have c3 := h.cell (o := 3) (by omega)
  have c4 := h.cell (o := 4) (by omega)
  have r0 : w.ownsRow B 22 1 (f 0) (EL LI LC LR 0).length (EL LI LC LR 0) := h.lr.r 0 (by omega)
  have r1 : w.ownsRow B 22 1 (f 1) (EL LI LC LR 1).length (EL LI LC LR 1) := h.lr.r 1 (by omega)
  have r2 : w.ownsRow B 29 1 (f 2) (EL LI LC LR 2).length (EL LI LC LR 2) := h.lr.r 2 (by omega)
  have r3 : w.ownsRow B 29 1 (f 3) (EL LI LC LR 3).length (EL LI LC LR 3) := h.lr.r 3 (by omega)
  have r4 : w.ownsRow B 23 1 (f 4) (EL LI LC LR 4).length (EL LI LC LR 4) := h.lr.r 4 (by omega)
  have l0 : (EL LI LC LR 0).length = LI.length := by simp [EL]
  have l1 : (EL LI LC LR 1).length = LI.length := by simp [EL]
  have l2 : (EL LI LC LR 2).length = LC.length := by simp [EL]
  have l3 : (EL LI LC LR 3).length = LC.length := by simp [EL]
  have l4 : (EL LI LC LR 4).length = LR.length := by simp [EL]
  have wr := h.lr.wr
  have HR0 := hide r0
  have HR1 := hide r1
  have HR2 := hide r2
  have HR3 := hide r3
  have HR4 := hide r4
  obtain ⟨a0, b0, d0, e0⟩ := owns_form r0
  obtain ⟨a1, b1, d1, e1⟩ := owns_form r1
  obtain ⟨a2, b2, d2, e2⟩ := owns_form r2
  obtain ⟨a3, b3, d3, e3⟩ := owns_form r3
  obtain ⟨a4, b4, d4, e4⟩ := owns_form r4
  have hb0 : b0 = LI.length := by rw [e0] at r0; have := owns_lenq r0; omega
  have hb1 : b1 = LI.length := by rw [e1] at r1; have := owns_lenq r1; omega
  have hb2 : b2 = LC.length := by rw [e2] at r2; have := owns_lenq r2; omega
  have hb3 : b3 = LC.length := by rw [e3] at r3; have := owns_lenq r3; omega
  have hb4 : b4 = LR.length := by rw [e4] at r4; have := owns_lenq r4; omega
  subst hb0 hb1 hb2 hb3 hb4
  rw [e0] at c0
  rw [e1] at c1
  rw [e2] at c2
  rw [e3] at c3
  rw [e4] at c4
  have HE0 := hide e0
  have HE1 := hide e1
  have HE2 := hide e2
  have HE3 := hide e3
  have HE4 := hide e4
  have HC0 := hide c0
  have HC1 := hide c1
  have HC2 := hide c2
  have HC3 := hide c3
  have HC4 := hide c4
  have HWR := hide wr
  have HL := hide h.le.lt
  have HND := hide h.le.nd
  -- what is in the front of a list of lent blocks is lent
  have HSL : Hid (∀ g, (g ∈ LR.map (·.1) ∨ g ∈ LC.map (·.1) ∨ g ∈ LI.map (·.1)) → who g = .lent) := fun g e => (h.le.lt g (by
    rcases e with e | e | e
    · exact List.mem_append.2 (Or.inr (List.mem_append.2 (Or.inr e)))
    · exact List.mem_append.2 (Or.inr (List.mem_append.2 (Or.inl e)))
    · exact List.mem_append.2 (Or.inl e))).2
  have HBN : Hid (who b = .hands) := h.hs.1.wb
  clear h hpt r0 r1 r2 r3 r4 l0 l1 l2 l3 l4 e0 e1 e2 e3 e4 wr c0 c1 c2 c3 c4
  have q0 : (LI.length : Int) ≤ 1000 := by omega
  have q1 : (LC.length : Int) ≤ 5864062014634 := by omega
  have q2 : (LR.length : Int) ≤ 1000 := by omega
  go_enter Tryd.func46, Tryd.ntmps46
  go_wp2_with fail
  go_loopw [3, 4, 5] (fun ok cv iv w' => ∃ i off : Nat, i ≤ LR.length ∧ ok = .bool true ∧ cv = .int .i64 off ∧ Hid (((LR.take i).map (·.2)).sum = off) ∧ iv = .int .i64 i ∧ Hid (Chg w w' (fun g => g ∈ (LR.take i).map (·.1)))) (fun _ _ iv _ => LR.length - (intOf iv).toNat)
  case atStart => exact ⟨0, 0, Nat.zero_le _, rfl, rfl, hide rfl, rfl, hide (Chg.refl _ _)⟩
  case round =>
    obtain ⟨i, off, hi, rfl, rfl, HOF, rfl, HG⟩ := hrel
    obtain ⟨w5, hw5⟩ : ∃ w5, w5 = wr := ⟨_, rfl⟩
    rw [← hw5] at HG ⊢
    clear hw5
    have hSl : ∀ g, g ∈ (LR.take i).map (·.1) → who g = .lent := fun g e => HSL.out g (Or.inl (by
      obtain ⟨x, hx, rfl⟩ := List.mem_map.1 e
      exact List.mem_map.2 ⟨x, List.mem_of_mem_take hx, rfl⟩))
    have hbS : ¬ b ∈ (LR.take i).map (·.1) := fun e => by have := hSl b e; rw [HBN.out] at this; cases this
    have k4 := HG.out.cell HC4.out hbS
    by_cases hlt : i < LR.length
    · obtain ⟨g4, cp4, e4, r4⟩ := row_cell HR4.out (i := i) (by simp [EL]; exact hlt)
      have hr4 : w.cell? ⟨g4, i, none⟩ = some (sl2 LR[i].1 LR[i].2) := by simpa [EL] using r4
      rw [HE4.out] at e4
      simp only [Value.slice.injEq] at e4
      obtain ⟨e4a, e4b, e4c⟩ := e4
      clear e4b
      subst e4a e4c
      have hw4 : who g4 = .lrow 4 := HWR.out 4 (by omega) g4 (by rw [HE4.out]; rfl)
      have k5 := HG.out.cell hr4 (fun e => by have := hSl g4 e; rw [hw4] at this; cases this)
      obtain ⟨hblk, hwg, hm20⟩ := HX.out.le.lr i hlt
      have hrin := HX.out.le.row_in i hlt
      have hgS : ¬ LR[i].1 ∈ (LR.take i).map (·.1) := by
        have hnd : (LR.map (·.1)).Nodup := by
          have := HND.out
          rw [List.nodup_append] at this
          have h2 := this.2.1
          rw [List.nodup_append] at h2
          exact h2.2.1
        have := nodup_take hnd (i := i) (by simpa using hlt)
        rw [← List.map_take] at this
        simpa using this
      have HTS : Hid (((LR.take (i + 1)).map (·.2)).sum = ((LR.take i).map (·.2)).sum + LR[i].2) := by
        unfold Hid; rw [List.take_succ_eq_append_getElem hlt, List.map_append, List.sum_append]; simp
      have HTF : Hid ((LR.take (i + 1)).map (·.1) = (LR.take i).map (·.1) ++ [LR[i].1]) := by
        unfold Hid; rw [List.take_succ_eq_append_getElem hlt, List.map_append]; rfl
      have hgm : LR[i].1 ∈ LR.map (·.1) := List.mem_map.2 ⟨_, List.getElem_mem hlt, rfl⟩
      have HGC : Hid (LR[i].1 ∉ LC.map (·.1)) := fun e => by
        have := HND.out
        rw [List.nodup_append] at this
        have h2 := this.2.1
        rw [List.nodup_append] at h2
        exact h2.2.2 _ e _ hgm rfl
      have HSC : Hid (∀ g, g ∈ (LR.take i).map (·.1) → g ∉ LC.map (·.1)) := fun g e e2 => by
        have := HND.out
        rw [List.nodup_append] at this
        have h2 := this.2.1
        rw [List.nodup_append] at h2
        obtain ⟨x, hx, rfl⟩ := List.mem_map.1 e
        exact h2.2.2 _ e2 _ (List.mem_map.2 ⟨x, List.mem_of_mem_take hx, rfl⟩) rfl
      have hOff := HOF.out
      rw [hOff] at hblk hrin HTS
      generalize LR[i] = x at *
      obtain ⟨g, m⟩ := x
      simp only at hr4 k5 hblk hwg hm20 hrin hgS HTS HTF HGC
      clear hr4 hgm hOff
      have hLl : ((LC.drop off).take m).length = m := by rw [List.length_take, List.length_drop]; omega
      have k6 : w5.cell? ⟨g, m, none⟩ = some (.slice none 0 0) := HG.out.cell (by simp only [World.cell?, hblk]; have := lentRows_end0 ((LC.drop off).take m); rw [hLl] at this; exact this) hgS
      have k7 : w5.cell? ⟨g, m + 1, none⟩ = some (.slice none 0 0) := HG.out.cell (by simp only [World.cell?, hblk]; have := lentRows_end1 ((LC.drop off).take m); rw [hLl] at this; exact this) hgS
      have HRW : Hid (∀ k (hk : k < m), w.cell? ⟨g, k, none⟩ = some (slC (LC[off + k]'(Nat.lt_of_lt_of_le (Nat.add_lt_add_left hk off) hrin)))) := fun k hk => by
        simp only [World.cell?, hblk]
        rw [lentRows_at _ k (by omega)]
        simp
      have HBK := hide hblk
      have t0 : (0 : Int) ≤ (i : Int) := by omega
      have t1 : (i : Int) < LR.length := by omega
      have t2 : (m : Int) ≤ 5864062014634 := by omega
      have t3 : (0 : Int) ≤ (m : Int) := by omega
      have t4 : (off : Int) + m ≤ LC.length := by omega
      have t5 : (m : Int) < (m : Int) + 2 := by omega
      have t6 : (m : Int) + 1 < (m : Int) + 2 := by omega
      unfold sl2 at k5
      clear hblk hLl
      go_wp2_with fail
      go_loopw [3, 4, 8] (fun ok cv kv w' => ∃ k q : Nat, k ≤ m ∧ ok = .bool true ∧ cv = .int .i64 q ∧ Hid (off + k = q) ∧ kv = .int .i64 k ∧ Hid (Chg w w' (fun g => g ∈ (LR.take i).map (·.1)))) (fun _ _ kv _ => m - (intOf kv).toNat)
      case atStart => exact ⟨0, off, Nat.zero_le _, rfl, rfl, hide rfl, rfl, HG⟩
      case round =>
        clear k4 k5 k6 k7
        obtain ⟨k, q, hk, rfl, rfl, HOK, rfl, HG7⟩ := hrel
        obtain ⟨w7, hw7⟩ : ∃ w7, w7 = wr := ⟨_, rfl⟩
        rw [← hw7] at HG7 ⊢
        clear hw7
        by_cases hkl : k < m
        · have hoq := HOK.out
          have hy : q < LC.length := by omega
          obtain ⟨g3, cp3, e3, r3⟩ := row_cell HR3.out (i := q) (by simp [EL]; omega)
          have hr3 : w.cell? ⟨g3, q, none⟩ = some LC[q].2.2 := by simpa [EL] using r3
          rw [HE3.out] at e3
          simp only [Value.slice.injEq] at e3
          obtain ⟨e3a, e3b, e3c⟩ := e3
          clear e3b
          subst e3a e3c
          have hw3 : who g3 = .lrow 3 := HWR.out 3 (by omega) g3 (by rw [HE3.out]; rfl)
          have m3 := HG7.out.cell HC3.out hbS
          have m4 := HG7.out.cell hr3 (fun e => by have := hSl g3 e; rw [hw3] at this; cases this)
          have m5 := HG7.out.cell (HRW.out k hkl) hgS
          simp only [hoq] at m5
          obtain ⟨y1, y2, y3, y4, y5⟩ := HX.out.le.lc LC[q] (List.getElem_mem hy)
          have hyS : ¬ LC[q].1 ∈ (LR.take i).map (·.1) := fun e => HSC.out _ e (List.mem_map.2 ⟨_, List.getElem_mem hy, rfl⟩)
          have hC : CodeAt w7 (slC LC[q]) LC[q].2.1 := lentCode_at (by rw [HG7.out.blk _ (Array.getElem?_eq_some_iff.1 y1).1 hyS]; exact y1) _
          have hD : CodeAt w7 LC[q].2.2 LC[q].2.1 := code_oth y3 y4 (fun g' h1 h2 => HG7.out.blk g' h1 (fun e => by have := hSl g' e; rw [h2] at this; cases this))
          generalize LC[q] = y at *
          obtain ⟨yg, yc, yv⟩ := y
          simp only [slC] at m4 m5 hC hD y5
          obtain ⟨ya, yb, rfl⟩ : ∃ ya yb, yv = .slice ya yc.length yb := ⟨_, _, hD.choose_spec.choose_spec.1⟩
          have callS : ∀ (d : Nat) (os : Array Obj), Calls Tryd.prog 82 #[.slice (some ⟨yg, 0, none⟩) yc.length (yc.length + 2), .slice ya yc.length yb] (Sort.grow (redrawn w7 d) os) fun e w'' => e = .returned (.bool true) ∧ ∃ p : Regrown, w'' = Sort.grow (redrawn w7 p.d) p.os := by
            intro d os
            have hbel := grown_below' (below_regrown w7 d os)
            refine Calls.regrown_of ((sameCode_m yc _ _ _ (CodeAt.pres hC (pres_grown hbel)) (CodeAt.pres hD (pres_grown hbel)) y5).mono ?_)
            rintro e w' ⟨rfl, hl⟩
            refine ⟨by simp, ?_⟩
            have := grown_of_like (r := none) hl
            exact ⟨this.os, this.tape, this.output, this.size, fun k hk => this.block k hk (by simp)⟩
          have n3 := fun d os => cell_regrown m3 d os
          have n4 := fun d os => cell_regrown m4 d os
          have n5 := fun d os => cell_regrown m5 d os
          have s0 : (0 : Int) ≤ (k : Int) := by omega
          have s1 : (k : Int) < m := by omega
          have s2 : (k : Int) < (m : Int) + 2 := by omega
          have s3 : (0 : Int) ≤ (q : Int) := by omega
          have s4 : (q : Int) < LC.length := by omega
          clear hC hD y1 y2 y3 y4 r3 hr3
          clear hoq hy hyS
          go_wp2_with fail
          refine wp_region_quiet_below (by kernel_rfl) (by kernel_rfl) ?_
          repeat (quiet_step (exact callS _ _))
          refine wpQuiet_nil ?_
          intro w8 hw8
          obtain ⟨⟨dq, osq⟩, hw8⟩ := hw8
          have hB8 := below_regrown w7 dq osq
          rw [← hw8] at hB8
          have HG8 := hide (HG7.out.below hB8)
          clear hw8 callS n3 n4 n5 hB8 m3 m4 m5
          go_wp2_with fail
          go_roundw
          case rel => exact ⟨k + 1, q + 1, by omega, rfl, by go_num, hide (by have := HOK.out; omega), by go_num, HG8⟩
          case measure => simp [intOf]; omega
        · have hkm : k = m := by omega
          have u1 : (m : Int) ≤ (k : Int) := by omega
          have HQ : Hid (((LR.take (i + 1)).map (·.2)).sum = q) := by unfold Hid; rw [HTS.out]; have := HOK.out; omega
          have HOV : Hid (Chg w w7 (fun g' => g' ∈ (LR.take (i + 1)).map (·.1)) ∧ ∃ R : Array Value, R.size = m + 2 ∧ w7.heap[g]? = some (.cells R 29 (0, 0))) := by
            refine ⟨HG7.out.mono (fun g' e => by rw [HTF.out]; exact List.mem_append.2 (Or.inl e)), _, ?_, by rw [HG7.out.blk g (Array.getElem?_eq_some_iff.1 HBK.out).1 hgS]; exact HBK.out⟩
            rw [lentRows_size, List.length_take, List.length_drop]; omega
          have hgin : g ∈ (LR.take (i + 1)).map (·.1) := by rw [HTF.out]; exact List.mem_append.2 (Or.inr (by simp))
          clear HG7 hkm HOK
          go_wp2_with fail
          go_loopw [10] (fun kv w' => ∃ k : Nat, k ≤ m + 2 ∧ kv = .int .i64 k ∧ Hid (Chg w w' (fun g' => g' ∈ (LR.take (i + 1)).map (·.1)) ∧ ∃ R : Array Value, R.size = m + 2 ∧ w'.heap[g]? = some (.cells R 29 (0, 0)))) (fun kv _ => m + 2 - (intOf kv).toNat)
          case atStart => exact ⟨0, by omega, rfl, HOV⟩
          case round =>
            clear HOV
            obtain ⟨k, hk, rfl, HO⟩ := hrel
            obtain ⟨w9, hw9⟩ : ∃ w9, w9 = wr := ⟨_, rfl⟩
            rw [← hw9] at HO ⊢
            clear hw9
            by_cases hk2 : k < m + 2
            · obtain ⟨hch, R, hRs, hRr⟩ := HO.out
              obtain ⟨u, y0⟩ : ∃ u, w9.cell? ⟨g, k, none⟩ = some u := ⟨R[k]'(by omega), by simp only [World.cell?, hRr]; exact Array.getElem?_eq_getElem _⟩
              have y1 : w9.frozen? ⟨g, k, none⟩ = false := by simp [World.frozen?, hRr]
              have HNX : Hid (Chg w (w9.setCell ⟨g, k, none⟩ (.slice none 0 0)) (fun g' => g' ∈ (LR.take (i + 1)).map (·.1)) ∧ ∃ R : Array Value, R.size = m + 2 ∧ (w9.setCell ⟨g, k, none⟩ (.slice none 0 0)).heap[g]? = some (.cells R 29 (0, 0))) :=
                ⟨hch.set hgin, R.setIfInBounds k (.slice none 0 0), by simpa using hRs, heap_setCell_same w9 g k R _ _ hRr⟩
              have z0 : (0 : Int) ≤ (k : Int) := by omega
              have z1 : (k : Int) < (m : Int) + 2 := by omega
              clear hRr hRs hch
              go_wp2_with fail
              go_roundw
              case rel => exact ⟨k + 1, by omega, by go_num, HNX⟩
              case measure => simp [intOf]; omega
            · have z1 : (m : Int) + 2 ≤ (k : Int) := by omega
              go_wp2_with fail
              go_roundw
              case rel => exact ⟨i + 1, q, by omega, rfl, rfl, HQ, by go_num, hide HO.out.1⟩
              case measure => simp [intOf]; omega
    · have ei : i = LR.length := by omega
      have t1 : (LR.length : Int) ≤ (i : Int) := by omega
      have HG4 : Hid (Chg w w5 (fun g => g ∈ LR.map (·.1) ∨ g ∈ (LC.take 0).map (·.1))) := by
        have := HG.out
        rw [ei, List.take_length] at this
        exact this.mono (fun g e => Or.inl e)
      clear HG hSl hbS HOF ei
      go_wp2_with fail
      go_loopw [3, 11] (fun ok iv w' => ∃ j : Nat, j ≤ LC.length ∧ ok = .bool true ∧ iv = .int .i64 j ∧ Hid (Chg w w' (fun g => g ∈ LR.map (·.1) ∨ g ∈ (LC.take j).map (·.1)))) (fun _ iv _ => LC.length - (intOf iv).toNat)
      case atStart => exact ⟨0, Nat.zero_le _, rfl, rfl, HG4⟩
      case round =>
        clear HG4 k4
        obtain ⟨j, hj, rfl, rfl, HG⟩ := hrel
        obtain ⟨w7, hw7⟩ : ∃ w7, w7 = wr := ⟨_, rfl⟩
        rw [← hw7] at HG ⊢
        clear hw7
        have hSl : ∀ g, (g ∈ LR.map (·.1) ∨ g ∈ (LC.take j).map (·.1)) → who g = .lent := fun g e => HSL.out g (by
          rcases e with e | e
          · exact Or.inl e
          · obtain ⟨x, hx, rfl⟩ := List.mem_map.1 e
            exact Or.inr (Or.inl (List.mem_map.2 ⟨x, List.mem_of_mem_take hx, rfl⟩)))
        have hbS : ¬ (b ∈ LR.map (·.1) ∨ b ∈ (LC.take j).map (·.1)) := fun e => by have := hSl b e; rw [HBN.out] at this; cases this
        have k2 := HG.out.cell HC2.out hbS
        by_cases hlt : j < LC.length
        · obtain ⟨g2, cp2, e2, r2⟩ := row_cell HR2.out (i := j) (by simp [EL]; exact hlt)
          have hr2 : w.cell? ⟨g2, j, none⟩ = some (sl2 LC[j].1 LC[j].2.1.length) := by simpa [EL] using r2
          rw [HE2.out] at e2
          simp only [Value.slice.injEq] at e2
          obtain ⟨e2a, e2b, e2c⟩ := e2
          clear e2b
          subst e2a e2c
          obtain ⟨g3, cp3, e3, r3⟩ := row_cell HR3.out (i := j) (by simp [EL]; exact hlt)
          have hr3 : w.cell? ⟨g3, j, none⟩ = some LC[j].2.2 := by simpa [EL] using r3
          rw [HE3.out] at e3
          simp only [Value.slice.injEq] at e3
          obtain ⟨e3a, e3b, e3c⟩ := e3
          clear e3b
          subst e3a e3c
          have hw2 : who g2 = .lrow 2 := HWR.out 2 (by omega) g2 (by rw [HE2.out]; rfl)
          have hw3 : who g3 = .lrow 3 := HWR.out 3 (by omega) g3 (by rw [HE3.out]; rfl)
          have m2 := HG.out.cell hr2 (fun e => by have := hSl g2 e; rw [hw2] at this; cases this)
          have m3 := HG.out.cell HC3.out hbS
          have m4 := HG.out.cell hr3 (fun e => by have := hSl g3 e; rw [hw3] at this; cases this)
          obtain ⟨y1, y2, y3, y4, y5⟩ := HX.out.le.lc LC[j] (List.getElem_mem hlt)
          have hyS : ¬ (LC[j].1 ∈ LR.map (·.1) ∨ LC[j].1 ∈ (LC.take j).map (·.1)) := by
            have hnd := HND.out
            rw [List.nodup_append] at hnd
            have h2 := hnd.2.1
            rw [List.nodup_append] at h2
            rintro (e | e)
            · exact h2.2.2 _ (List.mem_map.2 ⟨_, List.getElem_mem hlt, rfl⟩) _ e rfl
            · have := nodup_take h2.1 (i := j) (by simpa using hlt)
              rw [← List.map_take] at this
              exact this (by simpa using e)
          have hblk7 : w7.heap[LC[j].1]? = some (.cells (lentCode LC[j].2.1) 28 (0, 0)) := by rw [HG.out.blk _ (Array.getElem?_eq_some_iff.1 y1).1 hyS]; exact y1
          have hC : CodeAt w7 (slC LC[j]) LC[j].2.1 := lentCode_at hblk7 _
          have hD : CodeAt w7 LC[j].2.2 LC[j].2.1 := code_oth y3 y4 (fun g' h1 h2 => HG.out.blk g' h1 (fun e => by have := hSl g' e; rw [h2] at this; cases this))
          have HTF : Hid ((LC.take (j + 1)).map (·.1) = (LC.take j).map (·.1) ++ [LC[j].1]) := by
            unfold Hid; rw [List.take_succ_eq_append_getElem hlt, List.map_append]; rfl
          generalize LC[j] = y at *
          obtain ⟨yg, yc, yv⟩ := y
          simp only [slC, sl2] at m2 m4 hC hD y5 hblk7 HTF
          obtain ⟨ya, yb, rfl⟩ : ∃ ya yb, yv = .slice ya yc.length yb := ⟨_, _, hD.choose_spec.choose_spec.1⟩
          have callS : ∀ (d : Nat) (os : Array Obj), Calls Tryd.prog 82 #[.slice (some ⟨yg, 0, none⟩) yc.length (yc.length + 2), .slice ya yc.length yb] (Sort.grow (redrawn w7 d) os) fun e w'' => e = .returned (.bool true) ∧ ∃ p : Regrown, w'' = Sort.grow (redrawn w7 p.d) p.os := by
            intro d os
            have hbel := grown_below' (below_regrown w7 d os)
            refine Calls.regrown_of ((sameCode_m yc _ _ _ (CodeAt.pres hC (pres_grown hbel)) (CodeAt.pres hD (pres_grown hbel)) y5).mono ?_)
            rintro e w' ⟨rfl, hl⟩
            refine ⟨by simp, ?_⟩
            have := grown_of_like (r := none) hl
            exact ⟨this.os, this.tape, this.output, this.size, fun k hk => this.block k hk (by simp)⟩
          have n3 := fun d os => cell_regrown m3 d os
          have n4 := fun d os => cell_regrown m4 d os
          have s0 : (0 : Int) ≤ (j : Int) := by omega
          have s1 : (j : Int) < LC.length := by omega
          have s2 : (yc.length : Int) ≤ 4398046510976 := by omega
          have s3 : (0 : Int) ≤ (yc.length : Int) := by omega
          have s4 : (yc.length : Int) ≤ (yc.length : Int) + 2 := by omega
          have s5 : (yc.length : Int) < (yc.length : Int) + 2 := by omega
          have s6 : (yc.length : Int) + 1 < (yc.length : Int) + 2 := by omega
          have HB7 := hide hblk7
          clear hC hD y1 y2 y3 y4 r2 r3 hr2 hr3 hblk7 hyS
          go_wp2_with fail
          refine wp_region_quiet_below (by kernel_rfl) (by kernel_rfl) ?_
          repeat (quiet_step (exact callS _ _))
          refine wpQuiet_nil ?_
          intro w8 hw8
          obtain ⟨⟨dq, osq⟩, hw8⟩ := hw8
          have hB8 := below_regrown w7 dq osq
          rw [← hw8] at hB8
          have hblk8 : w8.heap[yg]? = some (.cells (lentCode yc) 28 (0, 0)) := by rw [hB8.block yg (Array.getElem?_eq_some_iff.1 HB7.out).1]; exact HB7.out
          have p0 : w8.cell? ⟨yg, yc.length * 4, none⟩ = some (.int .i64 (-77000000)) := by simp only [World.cell?, hblk8]; exact (lentCode_end yc 0 (by omega)).1
          have p1 : w8.cell? ⟨yg, yc.length * 4 + 1, none⟩ = some (.int .i64 0) := by simp only [World.cell?, hblk8]; exact (lentCode_end yc 1 (by omega)).1
          have p2 : w8.cell? ⟨yg, yc.length * 4 + 2, none⟩ = some (.int .i64 0) := by simp only [World.cell?, hblk8]; exact (lentCode_end yc 2 (by omega)).1
          have p3 : w8.cell? ⟨yg, yc.length * 4 + 3, none⟩ = some (.int .i64 0) := by simp only [World.cell?, hblk8]; exact (lentCode_end yc 3 (by omega)).1
          have p4 : w8.cell? ⟨yg, (yc.length + 1) * 4, none⟩ = some (.int .i64 (-77000000)) := by simp only [World.cell?, hblk8]; exact (lentCode_end yc 0 (by omega)).2
          have p5 : w8.cell? ⟨yg, (yc.length + 1) * 4 + 1, none⟩ = some (.int .i64 0) := by simp only [World.cell?, hblk8]; exact (lentCode_end yc 1 (by omega)).2
          have p6 : w8.cell? ⟨yg, (yc.length + 1) * 4 + 2, none⟩ = some (.int .i64 0) := by simp only [World.cell?, hblk8]; exact (lentCode_end yc 2 (by omega)).2
          have p7 : w8.cell? ⟨yg, (yc.length + 1) * 4 + 3, none⟩ = some (.int .i64 0) := by simp only [World.cell?, hblk8]; exact (lentCode_end yc 3 (by omega)).2
          have HOV : Hid (Chg w w8 (fun g => g ∈ LR.map (·.1) ∨ g ∈ (LC.take (j + 1)).map (·.1)) ∧ ∃ R : Array Value, R.size = (yc.length + 2) * 4 ∧ w8.heap[yg]? = some (.cells R 28 (0, 0))) :=
            ⟨(HG.out.below hB8).mono (fun g e => e.imp id (fun e => by rw [HTF.out]; exact List.mem_append.2 (Or.inl e))), _, lentCode_size yc, hblk8⟩
          have hgin : yg ∈ LR.map (·.1) ∨ yg ∈ (LC.take (j + 1)).map (·.1) := Or.inr (by rw [HTF.out]; exact List.mem_append.2 (Or.inr (by simp)))
          clear hw8 callS n3 n4 hB8 m2 m3 m4 k2 hblk8 HB7
          go_wp2_with fail
          clear p0 p1 p2 p3 p4 p5 p6 p7
          go_loopw [15] (fun kv w' => ∃ k : Nat, k ≤ yc.length + 2 ∧ kv = .int .i64 k ∧ Hid (Chg w w' (fun g => g ∈ LR.map (·.1) ∨ g ∈ (LC.take (j + 1)).map (·.1)) ∧ ∃ R : Array Value, R.size = (yc.length + 2) * 4 ∧ w'.heap[yg]? = some (.cells R 28 (0, 0)))) (fun kv _ => yc.length + 2 - (intOf kv).toNat)
          case atStart => exact ⟨0, by omega, rfl, HOV⟩
          case round =>
            clear HOV
            obtain ⟨k, hk, rfl, HO⟩ := hrel
            obtain ⟨w9, hw9⟩ : ∃ w9, w9 = wr := ⟨_, rfl⟩
            rw [← hw9] at HO ⊢
            clear hw9
            by_cases hk2 : k < yc.length + 2
            · obtain ⟨hch, R, hRs, hRr⟩ := HO.out
              obtain ⟨u0, y0⟩ : ∃ u, w9.cell? ⟨yg, k * 4, none⟩ = some u := ⟨R[k * 4]'(by omega), by simp only [World.cell?, hRr]; exact Array.getElem?_eq_getElem _⟩
              obtain ⟨u1, y1⟩ : ∃ u, w9.cell? ⟨yg, k * 4 + 1, none⟩ = some u := ⟨R[k * 4 + 1]'(by omega), by simp only [World.cell?, hRr]; exact Array.getElem?_eq_getElem _⟩
              obtain ⟨u2, y2⟩ : ∃ u, w9.cell? ⟨yg, k * 4 + 2, none⟩ = some u := ⟨R[k * 4 + 2]'(by omega), by simp only [World.cell?, hRr]; exact Array.getElem?_eq_getElem _⟩
              obtain ⟨u3, y3⟩ : ∃ u, w9.cell? ⟨yg, k * 4 + 3, none⟩ = some u := ⟨R[k * 4 + 3]'(by omega), by simp only [World.cell?, hRr]; exact Array.getElem?_eq_getElem _⟩
              have v0 : w9.frozen? ⟨yg, k * 4, none⟩ = false := by simp [World.frozen?, hRr]
              have v1 : w9.frozen? ⟨yg, k * 4 + 1, none⟩ = false := by simp [World.frozen?, hRr]
              have v2 : w9.frozen? ⟨yg, k * 4 + 2, none⟩ = false := by simp [World.frozen?, hRr]
              have v3 : w9.frozen? ⟨yg, k * 4 + 3, none⟩ = false := by simp [World.frozen?, hRr]
              have HNX : Hid (Chg w ((((w9.setCell ⟨yg, k * 4, none⟩ (.int .i64 1)).setCell ⟨yg, k * 4 + 1, none⟩ (.int .i64 0)).setCell ⟨yg, k * 4 + 2, none⟩ (.int .i64 0)).setCell ⟨yg, k * 4 + 3, none⟩ (.int .i64 99)) (fun g => g ∈ LR.map (·.1) ∨ g ∈ (LC.take (j + 1)).map (·.1)) ∧
                  ∃ R : Array Value, R.size = (yc.length + 2) * 4 ∧ ((((w9.setCell ⟨yg, k * 4, none⟩ (.int .i64 1)).setCell ⟨yg, k * 4 + 1, none⟩ (.int .i64 0)).setCell ⟨yg, k * 4 + 2, none⟩ (.int .i64 0)).setCell ⟨yg, k * 4 + 3, none⟩ (.int .i64 99)).heap[yg]? = some (.cells R 28 (0, 0))) := by
                refine ⟨(((hch.set hgin).set hgin).set hgin).set hgin, _, ?_, heap_setCell_same _ yg _ _ _ _ (heap_setCell_same _ yg _ _ _ _ (heap_setCell_same _ yg _ _ _ _ (heap_setCell_same w9 yg _ R _ _ hRr)))⟩
                simpa using hRs
              have z0 : (0 : Int) ≤ (k : Int) := by omega
              have z1 : (k : Int) < (yc.length : Int) + 2 := by omega
              clear hRr hRs hch
              go_wp2_with fail
              go_roundw
              case rel => exact ⟨k + 1, by omega, by go_num, HNX⟩
              case measure => simp [intOf]; omega
            · have z1 : (yc.length : Int) + 2 ≤ (k : Int) := by omega
              go_wp2_with fail
              go_roundw
              case rel => exact ⟨j + 1, by omega, rfl, by go_num, hide HO.out.1⟩
              case measure => simp [intOf]; omega
        · have ej : j = LC.length := by omega
          have t2 : (LC.length : Int) ≤ (j : Int) := by omega
          have HG6 : Hid (Chg w w7 (fun g => (g ∈ LR.map (·.1) ∨ g ∈ LC.map (·.1)) ∨ g ∈ (LI.take 0).map (·.1))) := by
            have := HG.out
            rw [ej, List.take_length] at this
            exact this.mono (fun g e => Or.inl e)
          clear HG hSl hbS ej
          go_wp2_with fail
          go_loopw [3, 16] (fun ok iv w' => ∃ j : Nat, j ≤ LI.length ∧ ok = .bool true ∧ iv = .int .i64 j ∧ Hid (Chg w w' (fun g => (g ∈ LR.map (·.1) ∨ g ∈ LC.map (·.1)) ∨ g ∈ (LI.take j).map (·.1)))) (fun _ iv _ => LI.length - (intOf iv).toNat)
          case atStart => exact ⟨0, Nat.zero_le _, rfl, rfl, HG6⟩
          case round =>
            clear HG6 k2
            obtain ⟨j, hj, rfl, rfl, HG⟩ := hrel
            obtain ⟨w7, hw7⟩ : ∃ w7, w7 = wr := ⟨_, rfl⟩
            rw [← hw7] at HG ⊢
            clear hw7
            have hSl : ∀ g, ((g ∈ LR.map (·.1) ∨ g ∈ LC.map (·.1)) ∨ g ∈ (LI.take j).map (·.1)) → who g = .lent := fun g e => HSL.out g (by
              rcases e with (e | e) | e
              · exact Or.inl e
              · exact Or.inr (Or.inl e)
              · obtain ⟨x, hx, rfl⟩ := List.mem_map.1 e
                exact Or.inr (Or.inr (List.mem_map.2 ⟨x, List.mem_of_mem_take hx, rfl⟩)))
            have hbS : ¬ ((b ∈ LR.map (·.1) ∨ b ∈ LC.map (·.1)) ∨ b ∈ (LI.take j).map (·.1)) := fun e => by have := hSl b e; rw [HBN.out] at this; cases this
            have k0 := HG.out.cell HC0.out hbS
            by_cases hlt : j < LI.length
            · obtain ⟨g2, cp2, e2, r2⟩ := row_cell HR0.out (i := j) (by simp [EL]; exact hlt)
              have hr2 : w.cell? ⟨g2, j, none⟩ = some (sl2 LI[j].1 LI[j].2.1.length) := by simpa [EL] using r2
              rw [HE0.out] at e2
              simp only [Value.slice.injEq] at e2
              obtain ⟨e2a, e2b, e2c⟩ := e2
              clear e2b
              subst e2a e2c
              obtain ⟨g3, cp3, e3, r3⟩ := row_cell HR1.out (i := j) (by simp [EL]; exact hlt)
              have hr3 : w.cell? ⟨g3, j, none⟩ = some LI[j].2.2 := by simpa [EL] using r3
              rw [HE1.out] at e3
              simp only [Value.slice.injEq] at e3
              obtain ⟨e3a, e3b, e3c⟩ := e3
              clear e3b
              subst e3a e3c
              have hw2 : who g2 = .lrow 0 := HWR.out 0 (by omega) g2 (by rw [HE0.out]; rfl)
              have hw3 : who g3 = .lrow 1 := HWR.out 1 (by omega) g3 (by rw [HE1.out]; rfl)
              have m2 := HG.out.cell hr2 (fun e => by have := hSl g2 e; rw [hw2] at this; cases this)
              have m3 := HG.out.cell HC1.out hbS
              have m4 := HG.out.cell hr3 (fun e => by have := hSl g3 e; rw [hw3] at this; cases this)
              obtain ⟨y1, y2, y3, y4, y5⟩ := HX.out.le.li LI[j] (List.getElem_mem hlt)
              have hyS : ¬ ((LI[j].1 ∈ LR.map (·.1) ∨ LI[j].1 ∈ LC.map (·.1)) ∨ LI[j].1 ∈ (LI.take j).map (·.1)) := by
                have hnd := HND.out
                rw [List.nodup_append] at hnd
                have hm : LI[j].1 ∈ LI.map (·.1) := List.mem_map.2 ⟨_, List.getElem_mem hlt, rfl⟩
                rintro ((e | e) | e)
                · exact hnd.2.2 _ hm _ (List.mem_append.2 (Or.inr e)) rfl
                · exact hnd.2.2 _ hm _ (List.mem_append.2 (Or.inl e)) rfl
                · have := nodup_take hnd.1 (i := j) (by simpa using hlt)
                  rw [← List.map_take] at this
                  exact this (by simpa using e)
              have hblk7 : w7.heap[LI[j].1]? = some (.cells (lentRow LI[j].2.1) 3 (0, 0)) := by rw [HG.out.blk _ (Array.getElem?_eq_some_iff.1 y1).1 hyS]; exact y1
              have hC := lent_ints hblk7
              have hD : IntsAt w7.heap.size w7 LI[j].2.2 LI[j].2.1 := ints_oth y3 y4 HG.out.size (fun g' h1 h2 => HG.out.blk g' h1 (fun e => by have := hSl g' e; rw [h2] at this; cases this))
              have HTF : Hid ((LI.take (j + 1)).map (·.1) = (LI.take j).map (·.1) ++ [LI[j].1]) := by
                unfold Hid; rw [List.take_succ_eq_append_getElem hlt, List.map_append]; rfl
              generalize LI[j] = y at *
              obtain ⟨yg, yc, yv⟩ := y
              simp only [sl2] at m2 m4 hC hD y5 hblk7 HTF
              obtain ⟨ya, yb, rfl⟩ := hD.form
              have callS : ∀ (d : Nat) (os : Array Obj), Calls Tryd.prog 56 #[.slice (some ⟨yg, 0, none⟩) yc.length (yc.length + 2), .slice ya yc.length yb] (Sort.grow (redrawn w7 d) os) fun e w'' => e = .returned (.bool true) ∧ ∃ p : Regrown, w'' = Sort.grow (redrawn w7 p.d) p.os := by
                intro d os
                have hbel := grown_below' (below_regrown w7 d os)
                refine Calls.regrown_of ((same_m yc yc _ _ _ ((hC.pres (pres_grown hbel)).mono hbel.size) ((hD.pres (pres_grown hbel)).mono hbel.size) (by omega)).mono ?_)
                rintro e w' ⟨rfl, hl⟩
                refine ⟨by simp, ?_⟩
                have := grown_of_like (r := none) hl
                exact ⟨this.os, this.tape, this.output, this.size, fun k hk => this.block k hk (by simp)⟩
              have n3 := fun d os => cell_regrown m3 d os
              have n4 := fun d os => cell_regrown m4 d os
              have s0 : (0 : Int) ≤ (j : Int) := by omega
              have s1 : (j : Int) < LI.length := by omega
              have s2 : (yc.length : Int) ≤ 17592186043904 := by omega
              have s3 : (0 : Int) ≤ (yc.length : Int) := by omega
              have s4 : (yc.length : Int) ≤ (yc.length : Int) + 2 := by omega
              have s5 : (yc.length : Int) < (yc.length : Int) + 2 := by omega
              have s6 : (yc.length : Int) + 1 < (yc.length : Int) + 2 := by omega
              have HB7 := hide hblk7
              clear hC hD y1 y2 y3 y4 r2 r3 hr2 hr3 hblk7 hyS
              go_wp2_with fail
              refine wp_region_quiet_below (by kernel_rfl) (by kernel_rfl) ?_
              repeat (quiet_step (exact callS _ _))
              refine wpQuiet_nil ?_
              intro w8 hw8
              obtain ⟨⟨dq, osq⟩, hw8⟩ := hw8
              have hB8 := below_regrown w7 dq osq
              rw [← hw8] at hB8
              have hblk8 : w8.heap[yg]? = some (.cells (lentRow yc) 3 (0, 0)) := by rw [hB8.block yg (Array.getElem?_eq_some_iff.1 HB7.out).1]; exact HB7.out
              have p0 : w8.cell? ⟨yg, yc.length, none⟩ = some (.int .i64 (-77000000)) := by simp only [World.cell?, hblk8]; exact lentRow_ink0 yc
              have p1 : w8.cell? ⟨yg, yc.length + 1, none⟩ = some (.int .i64 (-77000000)) := by simp only [World.cell?, hblk8]; exact lentRow_ink1 yc
              have HOV : Hid (Chg w w8 (fun g => (g ∈ LR.map (·.1) ∨ g ∈ LC.map (·.1)) ∨ g ∈ (LI.take (j + 1)).map (·.1)) ∧ ∃ R : Array Value, R.size = yc.length + 2 ∧ w8.heap[yg]? = some (.cells R 3 (0, 0))) :=
                ⟨(HG.out.below hB8).mono (fun g e => e.imp id (fun e => by rw [HTF.out]; exact List.mem_append.2 (Or.inl e))), _, lentRow_len yc, hblk8⟩
              have hgin : (yg ∈ LR.map (·.1) ∨ yg ∈ LC.map (·.1)) ∨ yg ∈ (LI.take (j + 1)).map (·.1) := Or.inr (by rw [HTF.out]; exact List.mem_append.2 (Or.inr (by simp)))
              clear hw8 callS n3 n4 hB8 m2 m3 m4 k0 hblk8 HB7
              go_wp2_with fail
              clear p0 p1
              go_loopw [20] (fun kv w' => ∃ k : Nat, k ≤ yc.length + 2 ∧ kv = .int .i64 k ∧ Hid (Chg w w' (fun g => (g ∈ LR.map (·.1) ∨ g ∈ LC.map (·.1)) ∨ g ∈ (LI.take (j + 1)).map (·.1)) ∧ ∃ R : Array Value, R.size = yc.length + 2 ∧ w'.heap[yg]? = some (.cells R 3 (0, 0)))) (fun kv _ => yc.length + 2 - (intOf kv).toNat)
              case atStart => exact ⟨0, by omega, rfl, HOV⟩
              case round =>
                clear HOV
                obtain ⟨k, hk, rfl, HO⟩ := hrel
                obtain ⟨w9, hw9⟩ : ∃ w9, w9 = wr := ⟨_, rfl⟩
                rw [← hw9] at HO ⊢
                clear hw9
                by_cases hk2 : k < yc.length + 2
                · obtain ⟨hch, R, hRs, hRr⟩ := HO.out
                  obtain ⟨u0, y0⟩ : ∃ u, w9.cell? ⟨yg, k, none⟩ = some u := ⟨R[k]'(by omega), by simp only [World.cell?, hRr]; exact Array.getElem?_eq_getElem _⟩
                  have v0 : w9.frozen? ⟨yg, k, none⟩ = false := by simp [World.frozen?, hRr]
                  have HNX : Hid (Chg w (w9.setCell ⟨yg, k, none⟩ (.int .i64 3)) (fun g => (g ∈ LR.map (·.1) ∨ g ∈ LC.map (·.1)) ∨ g ∈ (LI.take (j + 1)).map (·.1)) ∧ ∃ R : Array Value, R.size = yc.length + 2 ∧ (w9.setCell ⟨yg, k, none⟩ (.int .i64 3)).heap[yg]? = some (.cells R 3 (0, 0))) :=
                    ⟨hch.set hgin, R.setIfInBounds k (.int .i64 3), by simpa using hRs, heap_setCell_same w9 yg k R _ _ hRr⟩
                  have z0 : (0 : Int) ≤ (k : Int) := by omega
                  have z1 : (k : Int) < (yc.length : Int) + 2 := by omega
                  clear hRr hRs hch
                  go_wp2_with fail
                  go_roundw
                  case rel => exact ⟨k + 1, by omega, by go_num, HNX⟩
                  case measure => simp [intOf]; omega
                · have z1 : (yc.length : Int) + 2 ≤ (k : Int) := by omega
                  go_wp2_with fail
                  go_roundw
                  case rel => exact ⟨j + 1, by omega, rfl, by go_num, hide HO.out.1⟩
                  case measure => simp [intOf]; omega
            · have t3 : (LI.length : Int) ≤ (j : Int) := by omega
              have hHB : HB w7 b f := HX.out.hs.1.blk.same (HG.out.blk b HX.out.low.2 hbS)
              have HFIN := hide (HX.out.free HG.out hSl)
              have x4 : w7.cell? ⟨b, 4, none⟩ = some (f 4) := hHB.cell (by omega)
              have x2 : w7.cell? ⟨b, 2, none⟩ = some (f 2) := hHB.cell (by omega)
              have x3 : w7.cell? ⟨b, 3, none⟩ = some (f 3) := hHB.cell (by omega)
              have x0 : w7.cell? ⟨b, 0, none⟩ = some (f 0) := hHB.cell (by omega)
              have x1 : w7.cell? ⟨b, 1, none⟩ = some (f 1) := hHB.cell (by omega)
              rw [HE0.out] at x0
              have f4 := hHB.frozen 4
              have f2 := hHB.frozen 2
              have f3 := hHB.frozen 3
              have f0 := hHB.frozen 0
              have f1 := hHB.frozen 1
              clear hHB k0
              go_wp2_with fail
              go_ret
              obtain ⟨f', h1, h2⟩ := HFIN.out
              exact ⟨rfl, ⟨f', h1⟩, h2⟩

end Go.Proofs.YtklenjmfalljgaaDoor

/- The walk of the hands' holds, whole. -/
namespace Go.Proofs.YtklenjmfalljgaaDoor
open Go.RowKit

theorem run_eq4h (a b c d : Int) (w : World) : (Op.equalIn 10000 34 (.agg #[.int .i64 a, .int .i64 b, .int .i64 c, .int .i64 d]) (.agg #[.int .i64 a, .int .i64 b, .int .i64 c, .int .i64 d])).run Tryd.prog w = .ok true w := by
  obtain ⟨i0, hi0, hz0, hz1, hz2⟩ := info_parts info_int
  have hc : Tryd.prog.cellsOf 3 = 1 := by simp [Program.cellsOf, hi0, hz1]
  have hk : Tryd.prog.plainKey 3 = true := by simp [Program.plainKey, Tryd.underlying3]
  rw [show (10000 : Nat) = 9999 + 1 from rfl, run_equalIn_array w 9999 _ _ (n := 4) (e := 3) (by first | exact Tryd.underlying34 | kernel_rfl) hi0, hc]
  have he : ∀ (d : Nat) (v : Int), (Op.equalIn (d + 1) 3 (.int .i64 v) (.int .i64 v)).run Tryd.prog w = .ok true w := fun d v => by
    rw [run_equalIn_int w d _ _ .i64 v v Tryd.underlying3]; simp
  have hq := he 9998
  simp only [Nat.reduceAdd] at hq
  have p0 := run_part_plain w hk (xs := #[.int .i64 a, .int .i64 b, .int .i64 c, .int .i64 d]) (off := 0) rfl
  have p1 := run_part_plain w hk (xs := #[.int .i64 a, .int .i64 b, .int .i64 c, .int .i64 d]) (off := 1) rfl
  have p2 := run_part_plain w hk (xs := #[.int .i64 a, .int .i64 b, .int .i64 c, .int .i64 d]) (off := 2) rfl
  have p3 := run_part_plain w hk (xs := #[.int .i64 a, .int .i64 b, .int .i64 c, .int .i64 d]) (off := 3) rfl
  simp [List.range, List.range.loop, Op.eqItems, Sem.run_bind, p0, p1, p2, p3, hq, Result.andThen_ok]
attribute [local go_sem] Go.World.cell?_alloc_some run_eq4h

theorem kept_read {c : Nat} {w : World} {who : Nat → Role} {v : Value} {m : Int} (h : KeptC c w who (v, m)) (hc : c ≠ 4) : ∃ xa xl xc, v = .slice xa xl xc ∧ xl ≤ 1000 ∧ ∀ j, j < xl → ∃ g, xa = some ⟨g, 0, none⟩ ∧ ∀ t u, (elC m c)[t]? = some u → w.cell? ⟨g, j * (elC m c).length + t, none⟩ = some u := by
  rcases h with e | ⟨g, len, cap, e, hl, hin⟩
  · exact ⟨none, 0, 0, e, by omega, fun j hj => by omega⟩
  · exact ⟨some ⟨g, 0, none⟩, len, cap, e, hl, fun j hj => ⟨g, rfl, (keptIn_plain hc).1 hin j hj⟩⟩
theorem kept_read4 {w : World} {who : Nat → Role} {v : Value} {m : Int} (h : KeptC 4 w who (v, m)) : ∃ xa xl xc, v = .slice xa xl xc ∧ xl ≤ 1000 ∧ ∀ j, j < xl → ∃ g g' cap', xa = some ⟨g, 0, none⟩ ∧ w.cell? ⟨g, j, none⟩ = some (.slice (some ⟨g', 0, none⟩) 1 cap') ∧ w.heap[g']? = some (.cells (elC m 3).toArray 28 (0, 0)) := by
  rcases h with e | ⟨g, len, cap, e, hl, hin⟩
  · exact ⟨none, 0, 0, e, by omega, fun j hj => by omega⟩
  · refine ⟨some ⟨g, 0, none⟩, len, cap, e, hl, fun j hj => ?_⟩
    obtain ⟨g', cap', h1, h2, _⟩ := keptIn_four.1 hin j hj
    exact ⟨g, g', cap', rfl, h1, h2⟩
theorem two_rows {w : World} {B : Nat} {T : TypeId} {v u : Value} {L : List (Value × Int)} (h1 : w.ownsRow B T 1 v L.length (L.map (·.1))) (h2 : w.ownsRow B 3 1 u L.length (ints (L.map (·.2)))) {i : Nat} (hi : i < L.length) :
    ∃ g c g' c', v = .slice (some ⟨g, 0, none⟩) L.length c ∧ u = .slice (some ⟨g', 0, none⟩) L.length c' ∧ w.cell? ⟨g, i, none⟩ = some L[i].1 ∧ w.cell? ⟨g', i, none⟩ = some (.int .i64 L[i].2) := by
  obtain ⟨g, c, e, _, _⟩ := h1.form (by omega)
  obtain ⟨g', c', e', _, _⟩ := h2.form (by omega)
  refine ⟨g, c, g', c', e, e', ?_, ?_⟩
  · rw [e] at h1; rw [h1.cellAt i (by omega)]; simp [hi]
  · rw [e'] at h2; rw [h2.cellAt i (by omega)]; simp [ints, hi]

set_option maxRecDepth 100000 in
set_option maxHeartbeats 4000000 in
theorem holds_g (B : Nat) (w : World) (b : Nat) (who : Nat → Role) (n : Int) (f : Nat → Value) (K : Nat → List (Value × Int)) (hH : HsK B w b who n f K) (hK : ∀ c, c < 5 → (K c).length ≤ 6000000000000) :
    Calls Tryd.prog 59 #[pt b] w fun e w' => e = .returned (.bool true) ∧ Like w' w := by
  have HH := hide hH
  have hpt : pt b = .pointer (some ⟨b, 0, none⟩) := rfl
  rw [hpt]
  have hK0 := hK 0 (by omega)
  have rl0 : w.ownsRow B 22 1 (f 6) (K 0).length ((K 0).map (·.1)) := hH.1.lst 0 (by omega)
  have rm0 : w.ownsRow B 3 1 (f 7) (K 0).length (ints ((K 0).map (·.2))) := by have := hH.1.mrk 0 (by omega); simpa [marksOf] using this
  have HL0 := hide rl0
  have HM0 := hide rm0
  have cl0 := hH.1.blk.cell (o := 6) (by omega)
  have cm0 := hH.1.blk.cell (o := 7) (by omega)
  obtain ⟨la0, lb0, lc0, el0⟩ := owns_form rl0
  obtain ⟨ma0, mb0, mc0, em0⟩ := owns_form rm0
  rw [el0] at cl0 rl0
  rw [em0] at cm0 rm0
  have hlb0 := owns_lenq rl0
  have hmb0 := owns_lenq rm0
  subst hlb0 hmb0
  have HCL0 := hide cl0
  have HCM0 := hide cm0
  have HEL0 := hide el0
  have HEM0 := hide em0
  have HKP0 := hide (fun x hx => (hH.1.kept 0 (by omega) x hx).1)
  clear rl0 rm0 cl0 cm0 el0 em0
  have hK1 := hK 1 (by omega)
  have rl1 : w.ownsRow B 33 1 (f 8) (K 1).length ((K 1).map (·.1)) := hH.1.lst 1 (by omega)
  have rm1 : w.ownsRow B 3 1 (f 9) (K 1).length (ints ((K 1).map (·.2))) := by have := hH.1.mrk 1 (by omega); simpa [marksOf] using this
  have HL1 := hide rl1
  have HM1 := hide rm1
  have cl1 := hH.1.blk.cell (o := 8) (by omega)
  have cm1 := hH.1.blk.cell (o := 9) (by omega)
  obtain ⟨la1, lb1, lc1, el1⟩ := owns_form rl1
  obtain ⟨ma1, mb1, mc1, em1⟩ := owns_form rm1
  rw [el1] at cl1 rl1
  rw [em1] at cm1 rm1
  have hlb1 := owns_lenq rl1
  have hmb1 := owns_lenq rm1
  subst hlb1 hmb1
  have HCL1 := hide cl1
  have HCM1 := hide cm1
  have HEL1 := hide el1
  have HEM1 := hide em1
  have HKP1 := hide (fun x hx => (hH.1.kept 1 (by omega) x hx).1)
  clear rl1 rm1 cl1 cm1 el1 em1
  have hK2 := hK 2 (by omega)
  have rl2 : w.ownsRow B 35 1 (f 10) (K 2).length ((K 2).map (·.1)) := hH.1.lst 2 (by omega)
  have rm2 : w.ownsRow B 3 1 (f 11) (K 2).length (ints ((K 2).map (·.2))) := by have := hH.1.mrk 2 (by omega); simpa [marksOf] using this
  have HL2 := hide rl2
  have HM2 := hide rm2
  have cl2 := hH.1.blk.cell (o := 10) (by omega)
  have cm2 := hH.1.blk.cell (o := 11) (by omega)
  obtain ⟨la2, lb2, lc2, el2⟩ := owns_form rl2
  obtain ⟨ma2, mb2, mc2, em2⟩ := owns_form rm2
  rw [el2] at cl2 rl2
  rw [em2] at cm2 rm2
  have hlb2 := owns_lenq rl2
  have hmb2 := owns_lenq rm2
  subst hlb2 hmb2
  have HCL2 := hide cl2
  have HCM2 := hide cm2
  have HEL2 := hide el2
  have HEM2 := hide em2
  have HKP2 := hide (fun x hx => (hH.1.kept 2 (by omega) x hx).1)
  clear rl2 rm2 cl2 cm2 el2 em2
  have hK3 := hK 3 (by omega)
  have rl3 : w.ownsRow B 29 1 (f 12) (K 3).length ((K 3).map (·.1)) := hH.1.lst 3 (by omega)
  have rm3 : w.ownsRow B 3 1 (f 13) (K 3).length (ints ((K 3).map (·.2))) := by have := hH.1.mrk 3 (by omega); simpa [marksOf] using this
  have HL3 := hide rl3
  have HM3 := hide rm3
  have cl3 := hH.1.blk.cell (o := 12) (by omega)
  have cm3 := hH.1.blk.cell (o := 13) (by omega)
  obtain ⟨la3, lb3, lc3, el3⟩ := owns_form rl3
  obtain ⟨ma3, mb3, mc3, em3⟩ := owns_form rm3
  rw [el3] at cl3 rl3
  rw [em3] at cm3 rm3
  have hlb3 := owns_lenq rl3
  have hmb3 := owns_lenq rm3
  subst hlb3 hmb3
  have HCL3 := hide cl3
  have HCM3 := hide cm3
  have HEL3 := hide el3
  have HEM3 := hide em3
  have HKP3 := hide (fun x hx => (hH.1.kept 3 (by omega) x hx).1)
  clear rl3 rm3 cl3 cm3 el3 em3
  have hK4 := hK 4 (by omega)
  have rl4 : w.ownsRow B 23 1 (f 14) (K 4).length ((K 4).map (·.1)) := hH.1.lst 4 (by omega)
  have rm4 : w.ownsRow B 3 1 (f 15) (K 4).length (ints ((K 4).map (·.2))) := by have := hH.1.mrk 4 (by omega); simpa [marksOf] using this
  have HL4 := hide rl4
  have HM4 := hide rm4
  have cl4 := hH.1.blk.cell (o := 14) (by omega)
  have cm4 := hH.1.blk.cell (o := 15) (by omega)
  obtain ⟨la4, lb4, lc4, el4⟩ := owns_form rl4
  obtain ⟨ma4, mb4, mc4, em4⟩ := owns_form rm4
  rw [el4] at cl4 rl4
  rw [em4] at cm4 rm4
  have hlb4 := owns_lenq rl4
  have hmb4 := owns_lenq rm4
  subst hlb4 hmb4
  have HCL4 := hide cl4
  have HCM4 := hide cm4
  have HEL4 := hide el4
  have HEM4 := hide em4
  have HKP4 := hide (fun x hx => (hH.1.kept 4 (by omega) x hx).1)
  clear rl4 rm4 cl4 cm4 el4 em4
  have HLL : Hid (∀ w', Like w' w → ∀ a, w'.cell? a = w.cell? a) := fun w' hl a => by simp [World.cell?, hl.1]
  clear hH hK hpt
  have qK0 : ((K 0).length : Int) ≤ 6000000000000 := by omega
  generalize hk0 : K 0 = L0 at *
  clear hk0
  have qK1 : ((K 1).length : Int) ≤ 6000000000000 := by omega
  generalize hk1 : K 1 = L1 at *
  clear hk1
  have qK2 : ((K 2).length : Int) ≤ 6000000000000 := by omega
  generalize hk2 : K 2 = L2 at *
  clear hk2
  have qK3 : ((K 3).length : Int) ≤ 6000000000000 := by omega
  generalize hk3 : K 3 = L3 at *
  clear hk3
  have qK4 : ((K 4).length : Int) ≤ 6000000000000 := by omega
  generalize hk4 : K 4 = L4 at *
  clear hk4
  go_enter Tryd.func59, Tryd.ntmps59
  go_wp2_with fail
  go_loopw [3] (fun i w' => ∃ k : Nat, k ≤ L0.length ∧ i = .int .i64 k ∧ Hid (Like w' w)) (fun i _ => L0.length - (intOf i).toNat)
  case atStart => exact ⟨0, Nat.zero_le _, rfl, hide (like_refl _)⟩
  case round =>
    skip
    obtain ⟨k, hk, rfl, HLK⟩ := hrel
    obtain ⟨w5, hw5⟩ : ∃ w5, w5 = wr := ⟨_, rfl⟩
    rw [← hw5] at HLK ⊢
    clear hw5
    have e6 : w5.cell? ⟨b, 6, none⟩ = some (.slice la0 L0.length lc0) := by rw [HLL.out w5 HLK.out]; exact HCL0.out
    by_cases hlt : k < L0.length
    · obtain ⟨og, oc, mg, mc, eo, em, d0, d1⟩ := two_rows HL0.out HM0.out hlt
      rw [HEL0.out] at eo
      rw [HEM0.out] at em
      simp only [Value.slice.injEq, true_and] at eo em
      obtain ⟨rfl, rfl⟩ := eo
      obtain ⟨rfl, rfl⟩ := em
      have HKT := hide (HKP0.out L0[k] (List.getElem_mem hlt))
      have q0 : (0 : Int) ≤ (k : Int) := by omega
      have q1 : (k : Int) < L0.length := by omega
      generalize L0[k] = x at *
      obtain ⟨xv, xm⟩ := x
      simp only at d0 d1
      obtain ⟨xa, xl, xc, hxv, hxl, hxc⟩ := kept_read HKT.out (by omega)
      subst hxv
      have HXC := hide hxc
      clear hxc HKT
      have e7 : w5.cell? ⟨og, k, none⟩ = some (.slice xa xl xc) := by rw [HLL.out w5 HLK.out]; exact d0
      have qx : (xl : Int) ≤ 1000 := by omega
      go_wp2_with fail
      go_loopw [4] (fun i w' => ∃ j : Nat, j ≤ xl ∧ i = .int .i64 j ∧ Hid (Like w' w)) (fun i _ => xl - (intOf i).toNat)
      case atStart => exact ⟨0, Nat.zero_le _, rfl, HLK⟩
      case round =>
        clear e6 e7 HLK
        obtain ⟨j, hj, rfl, HLJ⟩ := hrel
        obtain ⟨w7, hw7⟩ : ∃ w7, w7 = wr := ⟨_, rfl⟩
        rw [← hw7] at HLJ ⊢
        clear hw7
        have f6 : w7.cell? ⟨b, 6, none⟩ = some (.slice (some ⟨og, 0, none⟩) L0.length lc0) := by rw [HLL.out w7 HLJ.out]; exact HCL0.out
        have f7 : w7.cell? ⟨b, 7, none⟩ = some (.slice (some ⟨mg, 0, none⟩) L0.length mc0) := by rw [HLL.out w7 HLJ.out]; exact HCM0.out
        have k0 : w7.cell? ⟨og, k, none⟩ = some (.slice xa xl xc) := by rw [HLL.out w7 HLJ.out]; exact d0
        have k1 : w7.cell? ⟨mg, k, none⟩ = some (.int .i64 xm) := by rw [HLL.out w7 HLJ.out]; exact d1
        by_cases hjl : j < xl
        · obtain ⟨g, rfl, hcj⟩ := HXC.out j hjl
          have g0 : w7.cell? ⟨g, j, none⟩ = some (.int .i64 xm) := by rw [HLL.out w7 HLJ.out]; exact (by simpa [elC] using hcj 0 _ rfl)
          have q2 : (0 : Int) ≤ (j : Int) := by omega
          have q3 : (j : Int) < xl := by omega
          clear hcj d0 d1
          go_wp2_with fail
          go_quiet (fail)
          go_wp2_with fail
          go_roundw
          case rel => exact ⟨j + 1, by omega, by go_num, hide (like_dn HLJ.out _)⟩
          case measure => simp [intOf]; omega
        · have q3 : (xl : Int) ≤ (j : Int) := by omega
          clear d0 d1
          go_wp2_with fail
          go_roundw
          case rel => exact ⟨k + 1, by omega, by go_num, HLJ⟩
          case measure => simp [intOf]; omega
    · have q1 : (L0.length : Int) ≤ (k : Int) := by omega
      go_wp2_with fail
      go_loopw [5] (fun i w' => ∃ k : Nat, k ≤ L1.length ∧ i = .int .i64 k ∧ Hid (Like w' w)) (fun i _ => L1.length - (intOf i).toNat)
      case atStart => exact ⟨0, Nat.zero_le _, rfl, HLK⟩
      case round =>
        clear HLK
        obtain ⟨k, hk, rfl, HLK⟩ := hrel
        obtain ⟨w5, hw5⟩ : ∃ w5, w5 = wr := ⟨_, rfl⟩
        rw [← hw5] at HLK ⊢
        clear hw5
        have e6 : w5.cell? ⟨b, 8, none⟩ = some (.slice la1 L1.length lc1) := by rw [HLL.out w5 HLK.out]; exact HCL1.out
        by_cases hlt : k < L1.length
        · obtain ⟨og, oc, mg, mc, eo, em, d0, d1⟩ := two_rows HL1.out HM1.out hlt
          rw [HEL1.out] at eo
          rw [HEM1.out] at em
          simp only [Value.slice.injEq, true_and] at eo em
          obtain ⟨rfl, rfl⟩ := eo
          obtain ⟨rfl, rfl⟩ := em
          have HKT := hide (HKP1.out L1[k] (List.getElem_mem hlt))
          have q0 : (0 : Int) ≤ (k : Int) := by omega
          have q1 : (k : Int) < L1.length := by omega
          generalize L1[k] = x at *
          obtain ⟨xv, xm⟩ := x
          simp only at d0 d1
          obtain ⟨xa, xl, xc, hxv, hxl, hxc⟩ := kept_read HKT.out (by omega)
          subst hxv
          have HXC := hide hxc
          clear hxc HKT
          have e7 : w5.cell? ⟨og, k, none⟩ = some (.slice xa xl xc) := by rw [HLL.out w5 HLK.out]; exact d0
          have qx : (xl : Int) ≤ 1000 := by omega
          go_wp2_with fail
          go_loopw [6] (fun i w' => ∃ j : Nat, j ≤ xl ∧ i = .int .i64 j ∧ Hid (Like w' w)) (fun i _ => xl - (intOf i).toNat)
          case atStart => exact ⟨0, Nat.zero_le _, rfl, HLK⟩
          case round =>
            clear e6 e7 HLK
            obtain ⟨j, hj, rfl, HLJ⟩ := hrel
            obtain ⟨w7, hw7⟩ : ∃ w7, w7 = wr := ⟨_, rfl⟩
            rw [← hw7] at HLJ ⊢
            clear hw7
            have f6 : w7.cell? ⟨b, 8, none⟩ = some (.slice (some ⟨og, 0, none⟩) L1.length lc1) := by rw [HLL.out w7 HLJ.out]; exact HCL1.out
            have f7 : w7.cell? ⟨b, 9, none⟩ = some (.slice (some ⟨mg, 0, none⟩) L1.length mc1) := by rw [HLL.out w7 HLJ.out]; exact HCM1.out
            have k0 : w7.cell? ⟨og, k, none⟩ = some (.slice xa xl xc) := by rw [HLL.out w7 HLJ.out]; exact d0
            have k1 : w7.cell? ⟨mg, k, none⟩ = some (.int .i64 xm) := by rw [HLL.out w7 HLJ.out]; exact d1
            by_cases hjl : j < xl
            · obtain ⟨g, rfl, hcj⟩ := HXC.out j hjl
              have g0 : w7.cell? ⟨g, j * 2, none⟩ = some (.int .i64 xm) := by rw [HLL.out w7 HLJ.out]; exact hcj 0 _ rfl
              have g1 : w7.cell? ⟨g, j * 2 + 1, none⟩ = some (.int .i64 0) := by rw [HLL.out w7 HLJ.out]; exact hcj 1 _ rfl
              have q2 : (0 : Int) ≤ (j : Int) := by omega
              have q3 : (j : Int) < xl := by omega
              clear hcj d0 d1
              go_wp2_with fail
              go_quiet (fail)
              go_wp2_with fail
              go_roundw
              case rel => exact ⟨j + 1, by omega, by go_num, hide (like_dn HLJ.out _)⟩
              case measure => simp [intOf]; omega
            · have q3 : (xl : Int) ≤ (j : Int) := by omega
              clear d0 d1
              go_wp2_with fail
              go_roundw
              case rel => exact ⟨k + 1, by omega, by go_num, HLJ⟩
              case measure => simp [intOf]; omega
        · have q1 : (L1.length : Int) ≤ (k : Int) := by omega
          go_wp2_with fail
          go_loopw [7] (fun i w' => ∃ k : Nat, k ≤ L2.length ∧ i = .int .i64 k ∧ Hid (Like w' w)) (fun i _ => L2.length - (intOf i).toNat)
          case atStart => exact ⟨0, Nat.zero_le _, rfl, HLK⟩
          case round =>
            clear HLK
            obtain ⟨k, hk, rfl, HLK⟩ := hrel
            obtain ⟨w5, hw5⟩ : ∃ w5, w5 = wr := ⟨_, rfl⟩
            rw [← hw5] at HLK ⊢
            clear hw5
            have e6 : w5.cell? ⟨b, 10, none⟩ = some (.slice la2 L2.length lc2) := by rw [HLL.out w5 HLK.out]; exact HCL2.out
            by_cases hlt : k < L2.length
            · obtain ⟨og, oc, mg, mc, eo, em, d0, d1⟩ := two_rows HL2.out HM2.out hlt
              rw [HEL2.out] at eo
              rw [HEM2.out] at em
              simp only [Value.slice.injEq, true_and] at eo em
              obtain ⟨rfl, rfl⟩ := eo
              obtain ⟨rfl, rfl⟩ := em
              have HKT := hide (HKP2.out L2[k] (List.getElem_mem hlt))
              have q0 : (0 : Int) ≤ (k : Int) := by omega
              have q1 : (k : Int) < L2.length := by omega
              generalize L2[k] = x at *
              obtain ⟨xv, xm⟩ := x
              simp only at d0 d1
              obtain ⟨xa, xl, xc, hxv, hxl, hxc⟩ := kept_read HKT.out (by omega)
              subst hxv
              have HXC := hide hxc
              clear hxc HKT
              have e7 : w5.cell? ⟨og, k, none⟩ = some (.slice xa xl xc) := by rw [HLL.out w5 HLK.out]; exact d0
              have qx : (xl : Int) ≤ 1000 := by omega
              go_wp2_with fail
              go_loopw [8] (fun i w' => ∃ j : Nat, j ≤ xl ∧ i = .int .i64 j ∧ Hid (Like w' w)) (fun i _ => xl - (intOf i).toNat)
              case atStart => exact ⟨0, Nat.zero_le _, rfl, HLK⟩
              case round =>
                clear e6 e7 HLK
                obtain ⟨j, hj, rfl, HLJ⟩ := hrel
                obtain ⟨w7, hw7⟩ : ∃ w7, w7 = wr := ⟨_, rfl⟩
                rw [← hw7] at HLJ ⊢
                clear hw7
                have f6 : w7.cell? ⟨b, 10, none⟩ = some (.slice (some ⟨og, 0, none⟩) L2.length lc2) := by rw [HLL.out w7 HLJ.out]; exact HCL2.out
                have f7 : w7.cell? ⟨b, 11, none⟩ = some (.slice (some ⟨mg, 0, none⟩) L2.length mc2) := by rw [HLL.out w7 HLJ.out]; exact HCM2.out
                have k0 : w7.cell? ⟨og, k, none⟩ = some (.slice xa xl xc) := by rw [HLL.out w7 HLJ.out]; exact d0
                have k1 : w7.cell? ⟨mg, k, none⟩ = some (.int .i64 xm) := by rw [HLL.out w7 HLJ.out]; exact d1
                by_cases hjl : j < xl
                · obtain ⟨g, rfl, hcj⟩ := HXC.out j hjl
                  have g0 : w7.cell? ⟨g, j * 4, none⟩ = some (.int .i64 xm) := by rw [HLL.out w7 HLJ.out]; exact hcj 0 _ rfl
                  have g1 : w7.cell? ⟨g, j * 4 + 1, none⟩ = some (.int .i64 1) := by rw [HLL.out w7 HLJ.out]; exact hcj 1 _ rfl
                  have g2 : w7.cell? ⟨g, j * 4 + 2, none⟩ = some (.int .i64 2) := by rw [HLL.out w7 HLJ.out]; exact hcj 2 _ rfl
                  have g3 : w7.cell? ⟨g, j * 4 + 3, none⟩ = some (.int .i64 3) := by rw [HLL.out w7 HLJ.out]; exact hcj 3 _ rfl
                  have q2 : (0 : Int) ≤ (j : Int) := by omega
                  have q3 : (j : Int) < xl := by omega
                  clear hcj d0 d1
                  go_wp2_with fail
                  go_quiet (fail)
                  go_wp2_with fail
                  go_roundw
                  case rel => exact ⟨j + 1, by omega, by go_num, hide (like_dn HLJ.out _)⟩
                  case measure => simp [intOf]; omega
                · have q3 : (xl : Int) ≤ (j : Int) := by omega
                  clear d0 d1
                  go_wp2_with fail
                  go_roundw
                  case rel => exact ⟨k + 1, by omega, by go_num, HLJ⟩
                  case measure => simp [intOf]; omega
            · have q1 : (L2.length : Int) ≤ (k : Int) := by omega
              go_wp2_with fail
              go_loopw [9] (fun i w' => ∃ k : Nat, k ≤ L3.length ∧ i = .int .i64 k ∧ Hid (Like w' w)) (fun i _ => L3.length - (intOf i).toNat)
              case atStart => exact ⟨0, Nat.zero_le _, rfl, HLK⟩
              case round =>
                clear HLK
                obtain ⟨k, hk, rfl, HLK⟩ := hrel
                obtain ⟨w5, hw5⟩ : ∃ w5, w5 = wr := ⟨_, rfl⟩
                rw [← hw5] at HLK ⊢
                clear hw5
                have e6 : w5.cell? ⟨b, 12, none⟩ = some (.slice la3 L3.length lc3) := by rw [HLL.out w5 HLK.out]; exact HCL3.out
                by_cases hlt : k < L3.length
                · obtain ⟨og, oc, mg, mc, eo, em, d0, d1⟩ := two_rows HL3.out HM3.out hlt
                  rw [HEL3.out] at eo
                  rw [HEM3.out] at em
                  simp only [Value.slice.injEq, true_and] at eo em
                  obtain ⟨rfl, rfl⟩ := eo
                  obtain ⟨rfl, rfl⟩ := em
                  have HKT := hide (HKP3.out L3[k] (List.getElem_mem hlt))
                  have q0 : (0 : Int) ≤ (k : Int) := by omega
                  have q1 : (k : Int) < L3.length := by omega
                  generalize L3[k] = x at *
                  obtain ⟨xv, xm⟩ := x
                  simp only at d0 d1
                  obtain ⟨xa, xl, xc, hxv, hxl, hxc⟩ := kept_read HKT.out (by omega)
                  subst hxv
                  have HXC := hide hxc
                  clear hxc HKT
                  have e7 : w5.cell? ⟨og, k, none⟩ = some (.slice xa xl xc) := by rw [HLL.out w5 HLK.out]; exact d0
                  have qx : (xl : Int) ≤ 1000 := by omega
                  go_wp2_with fail
                  go_loopw [10] (fun i w' => ∃ j : Nat, j ≤ xl ∧ i = .int .i64 j ∧ Hid (Like w' w)) (fun i _ => xl - (intOf i).toNat)
                  case atStart => exact ⟨0, Nat.zero_le _, rfl, HLK⟩
                  case round =>
                    clear e6 e7 HLK
                    obtain ⟨j, hj, rfl, HLJ⟩ := hrel
                    obtain ⟨w7, hw7⟩ : ∃ w7, w7 = wr := ⟨_, rfl⟩
                    rw [← hw7] at HLJ ⊢
                    clear hw7
                    have f6 : w7.cell? ⟨b, 12, none⟩ = some (.slice (some ⟨og, 0, none⟩) L3.length lc3) := by rw [HLL.out w7 HLJ.out]; exact HCL3.out
                    have f7 : w7.cell? ⟨b, 13, none⟩ = some (.slice (some ⟨mg, 0, none⟩) L3.length mc3) := by rw [HLL.out w7 HLJ.out]; exact HCM3.out
                    have k0 : w7.cell? ⟨og, k, none⟩ = some (.slice xa xl xc) := by rw [HLL.out w7 HLJ.out]; exact d0
                    have k1 : w7.cell? ⟨mg, k, none⟩ = some (.int .i64 xm) := by rw [HLL.out w7 HLJ.out]; exact d1
                    by_cases hjl : j < xl
                    · obtain ⟨g, rfl, hcj⟩ := HXC.out j hjl
                      have g0 : w7.cell? ⟨g, j * 4, none⟩ = some (.int .i64 xm) := by rw [HLL.out w7 HLJ.out]; exact hcj 0 _ rfl
                      have g1 : w7.cell? ⟨g, j * 4 + 1, none⟩ = some (.int .i64 0) := by rw [HLL.out w7 HLJ.out]; exact hcj 1 _ rfl
                      have g2 : w7.cell? ⟨g, j * 4 + 2, none⟩ = some (.int .i64 0) := by rw [HLL.out w7 HLJ.out]; exact hcj 2 _ rfl
                      have g3 : w7.cell? ⟨g, j * 4 + 3, none⟩ = some (.int .i64 0) := by rw [HLL.out w7 HLJ.out]; exact hcj 3 _ rfl
                      have q2 : (0 : Int) ≤ (j : Int) := by omega
                      have q3 : (j : Int) < xl := by omega
                      clear hcj d0 d1
                      go_wp2_with fail
                      go_quiet (fail)
                      go_wp2_with fail
                      go_roundw
                      case rel => exact ⟨j + 1, by omega, by go_num, hide (like_dn HLJ.out _)⟩
                      case measure => simp [intOf]; omega
                    · have q3 : (xl : Int) ≤ (j : Int) := by omega
                      clear d0 d1
                      go_wp2_with fail
                      go_roundw
                      case rel => exact ⟨k + 1, by omega, by go_num, HLJ⟩
                      case measure => simp [intOf]; omega
                · have q1 : (L3.length : Int) ≤ (k : Int) := by omega
                  go_wp2_with fail
                  go_loopw [11] (fun i w' => ∃ k : Nat, k ≤ L4.length ∧ i = .int .i64 k ∧ Hid (Like w' w)) (fun i _ => L4.length - (intOf i).toNat)
                  case atStart => exact ⟨0, Nat.zero_le _, rfl, HLK⟩
                  case round =>
                    clear HLK
                    obtain ⟨k, hk, rfl, HLK⟩ := hrel
                    obtain ⟨w5, hw5⟩ : ∃ w5, w5 = wr := ⟨_, rfl⟩
                    rw [← hw5] at HLK ⊢
                    clear hw5
                    have e6 : w5.cell? ⟨b, 14, none⟩ = some (.slice la4 L4.length lc4) := by rw [HLL.out w5 HLK.out]; exact HCL4.out
                    by_cases hlt : k < L4.length
                    · obtain ⟨og, oc, mg, mc, eo, em, d0, d1⟩ := two_rows HL4.out HM4.out hlt
                      rw [HEL4.out] at eo
                      rw [HEM4.out] at em
                      simp only [Value.slice.injEq, true_and] at eo em
                      obtain ⟨rfl, rfl⟩ := eo
                      obtain ⟨rfl, rfl⟩ := em
                      have HKT := hide (HKP4.out L4[k] (List.getElem_mem hlt))
                      have q0 : (0 : Int) ≤ (k : Int) := by omega
                      have q1 : (k : Int) < L4.length := by omega
                      generalize L4[k] = x at *
                      obtain ⟨xv, xm⟩ := x
                      simp only at d0 d1
                      obtain ⟨xa, xl, xc, hxv, hxl, hxc⟩ := kept_read4 HKT.out
                      subst hxv
                      have HXC := hide hxc
                      clear hxc HKT
                      have e7 : w5.cell? ⟨og, k, none⟩ = some (.slice xa xl xc) := by rw [HLL.out w5 HLK.out]; exact d0
                      have qx : (xl : Int) ≤ 1000 := by omega
                      go_wp2_with fail
                      go_loopw [12] (fun i w' => ∃ j : Nat, j ≤ xl ∧ i = .int .i64 j ∧ Hid (Like w' w)) (fun i _ => xl - (intOf i).toNat)
                      case atStart => exact ⟨0, Nat.zero_le _, rfl, HLK⟩
                      case round =>
                        clear e6 e7 HLK
                        obtain ⟨j, hj, rfl, HLJ⟩ := hrel
                        obtain ⟨w7, hw7⟩ : ∃ w7, w7 = wr := ⟨_, rfl⟩
                        rw [← hw7] at HLJ ⊢
                        clear hw7
                        have f6 : w7.cell? ⟨b, 14, none⟩ = some (.slice (some ⟨og, 0, none⟩) L4.length lc4) := by rw [HLL.out w7 HLJ.out]; exact HCL4.out
                        have f7 : w7.cell? ⟨b, 15, none⟩ = some (.slice (some ⟨mg, 0, none⟩) L4.length mc4) := by rw [HLL.out w7 HLJ.out]; exact HCM4.out
                        have k0 : w7.cell? ⟨og, k, none⟩ = some (.slice xa xl xc) := by rw [HLL.out w7 HLJ.out]; exact d0
                        have k1 : w7.cell? ⟨mg, k, none⟩ = some (.int .i64 xm) := by rw [HLL.out w7 HLJ.out]; exact d1
                        by_cases hjl : j < xl
                        · obtain ⟨g, g', cap', rfl, hcj, hcb⟩ := HXC.out j hjl
                          have g0 : w7.cell? ⟨g, j, none⟩ = some (.slice (some ⟨g', 0, none⟩) 1 cap') := by rw [HLL.out w7 HLJ.out]; exact hcj
                          have g1 : w7.cell? ⟨g', 0, none⟩ = some (.int .i64 xm) := by rw [HLL.out w7 HLJ.out]; simp [World.cell?, hcb, elC]
                          have g2 : w7.cell? ⟨g', 1, none⟩ = some (.int .i64 0) := by rw [HLL.out w7 HLJ.out]; simp [World.cell?, hcb, elC]
                          have g3 : w7.cell? ⟨g', 2, none⟩ = some (.int .i64 0) := by rw [HLL.out w7 HLJ.out]; simp [World.cell?, hcb, elC]
                          have g4 : w7.cell? ⟨g', 3, none⟩ = some (.int .i64 0) := by rw [HLL.out w7 HLJ.out]; simp [World.cell?, hcb, elC]
                          have q2 : (0 : Int) ≤ (j : Int) := by omega
                          have q3 : (j : Int) < xl := by omega
                          clear hcj hcb d0 d1
                          go_wp2_with fail
                          go_quiet (fail)
                          go_wp2_with fail
                          go_roundw
                          case rel => exact ⟨j + 1, by omega, by go_num, hide (like_dn HLJ.out _)⟩
                          case measure => simp [intOf]; omega
                        · have q3 : (xl : Int) ≤ (j : Int) := by omega
                          clear d0 d1
                          go_wp2_with fail
                          go_roundw
                          case rel => exact ⟨k + 1, by omega, by go_num, HLJ⟩
                          case measure => simp [intOf]; omega
                    · have q1 : (L4.length : Int) ≤ (k : Int) := by omega
                      go_wp2_with fail
                      go_ret
                      exact ⟨rfl, HLK.out⟩

end Go.Proofs.YtklenjmfalljgaaDoor

/- The walk of keepInts, whole. -/
namespace Go.Proofs.YtklenjmfalljgaaDoor
open Go.RowKit
attribute [local go_sem] Go.World.cell?_alloc_some

theorem set_el0 (m : Int) (xs : List Value) (k len : Nat) (hx : xs.length = len * 1) (hk : k < len) : (((List.replicate k (elC m 0)).flatten ++ xs.drop (k * 1)).set (k) (.int .i64 m)) = (List.replicate (k + 1) (elC m 0)).flatten ++ xs.drop ((k + 1) * 1) := by
  obtain ⟨ys, hy⟩ : ∃ ys, ys = (List.replicate k (elC m 0)).flatten := ⟨_, rfl⟩
  have hyl : ys.length = k * 1 := by rw [hy]; exact flat_rep_len _ _
  rw [← flat_rep_snoc, ← hy]
  have h1 : 1 ≤ (xs.drop (k * 1)).length := by rw [List.length_drop]; omega
  have h2 : xs.drop ((k + 1) * 1) = (xs.drop (k * 1)).drop 1 := by rw [List.drop_drop]; congr 1 <;> omega
  rw [h2]
  generalize xs.drop (k * 1) = zs at h1
  obtain ⟨z0, rest, rfl⟩ : ∃ z0 rest, zs = z0 :: rest := by
    match zs, h1 with
    | z0 :: rest, _ => exact ⟨z0, rest, rfl⟩
  rw [List.set_append, if_neg (by omega)]
  have e : k - ys.length = 0 := by omega
  rw [e]
  simp [elC]

set_option maxRecDepth 100000 in
set_option maxHeartbeats 2000000 in
theorem keepInts_g (B : Nat) (w : World) (b : Nat) (who : Nat → Role) (n : Int) (f : Nat → Value) (K : Nat → List (Value × Int)) (lv : Value) (len : Nat) (xs : List Value) (hH : HsK B w b who n f K) (hl : w.ownsRow B 3 1 lv len xs) (ho : ∀ g, lv.ownBlock = some g → who g = .other)
    (hn0 : 0 ≤ n) (hn1 : n ≤ 10000000000000) (hK : (K 0).length ≤ 5000000000000) (ha : len ≤ 900) :
    Calls Tryd.prog 58 #[pt b, lv] w fun e w' => (∃ v, e = .returned v) ∧ ∃ who' f' K', HsK B w' b who' (n + 1) f' K' ∧ After 0 w w' who who' f f' K K' (fun g => lv.ownBlock = some g) := by
  obtain ⟨i0, hi0, hz0, hz1, hz2⟩ := info_parts info_int
  obtain ⟨i1, hi1, hy0, hy1, hy2⟩ := info_parts info_ints
  obtain ⟨i2, hi2, hx0, hx1, hx2⟩ := info_parts info_int
  have hxl := hl.1
  obtain ⟨x1, x2, x3, rfl⟩ := owns_form hl
  have hx2 := (owns_lenq hl).symm
  subst hx2
  have HM := hide (mark_g hH.1 hn0 (by omega))
  have HO := hide ho
  have H0 : Hid (WrG B 0 w (w.setCell ⟨b, 5, none⟩ (.int .i64 (n + 1))) b who (n + 1) f (setF f 5 (.int .i64 (n + 1))) K (.slice x1 len x3) len xs (-77000000 - (n + 1)) 0) := by
    refine ⟨⟨hH.1.setCnt _, hH.2⟩, ?_, ?_, fun o ho => setF_ne _ _ (by omega)⟩
    · have hbo : (Value.slice x1 len x3).ownBlock ≠ some b := fun e => by have := ho b e; rw [hH.1.wb] at this; cases this
      have h5 := ownsRow_setCell_other (a := ⟨b, 5, none⟩) hl hbo (.int .i64 (n + 1))
      have e5 : (List.replicate 0 (elC (-77000000 - (n + 1)) 0)).flatten ++ xs.drop (0 * (elC (-77000000 - (n + 1)) 0).length) = xs := by simp
      rw [e5]; exact h5
    · exact Fr.set (Or.inl (by rw [hH.1.wb]; simp))
  have hpt : pt b = .pointer (some ⟨b, 0, none⟩) := rfl
  rw [hpt] at *
  clear hH hl ho hpt
  generalize hm : -77000000 - (n + 1) = m at *
  have HMM := hide hm
  clear hm
  go_enter Tryd.func58, Tryd.ntmps58
  go_wp2_with (go_at_call 86; refine HM.out.mono ?_; rintro e w1 ⟨rfl, rfl⟩)
  go_loopw [5] (fun i w' => ∃ k : Nat, k ≤ len ∧ i = .int .i64 k ∧ Hid (WrG B 0 w w' b who (n + 1) f (setF f 5 (.int .i64 (n + 1))) K (.slice x1 len x3) len xs m k)) (fun i _ => len - (intOf i).toNat)
  case atStart => exact ⟨0, Nat.zero_le _, rfl, H0⟩
  case round =>
    clear H0 HM
    obtain ⟨k, hk, rfl, HI⟩ := hrel
    obtain ⟨w5, hw5⟩ : ∃ w5, w5 = wr := ⟨_, rfl⟩
    rw [← hw5] at HI ⊢
    clear hw5
    by_cases hlt : k < len
    · obtain ⟨g, cp, e0, _, _⟩ := HI.out.row.form (by omega)
      have hrow : w5.ownsRow B 3 1 (.slice x1 len x3) len ((List.replicate k (elC m 0)).flatten ++ xs.drop (k * 1)) := HI.out.row
      rw [e0] at hrow
      simp only [Value.slice.injEq, true_and] at e0
      obtain ⟨rfl, rfl⟩ := e0
      have hgo := HO.out g rfl
      obtain ⟨u0, y0⟩ : ∃ u, w5.cell? ⟨g, k, none⟩ = some u := cell_at hrow (by omega)
      have z0 : w5.frozen? ⟨g, k, none⟩ = false := free_at hrow
      have HNX : Hid (WrG B 0 w (w5.setCell ⟨g, k, none⟩ (.int .i64 m)) b who (n + 1) f (setF f 5 (.int .i64 (n + 1))) K (.slice (some ⟨g, 0, none⟩) len x3) len xs m (k + 1)) := by
        have hs := HI.out
        refine ⟨(hs.hs.setOther hgo), ?_, ?_, hs.lent⟩
        · have h9 := (owns_setCell hrow (k) (.int .i64 m))
          have e9 := set_el0 m xs k len hxl hlt
          rw [e9] at h9
          exact h9
        · exact (hs.fr).trans (Fr.set (Or.inr rfl))
      have q0 : (0 : Int) ≤ (k : Int) := by omega
      have q1 : (k : Int) < len := by omega
      clear hrow hgo
      go_wp2_with fail
      go_roundw
      case rel => exact ⟨k + 1, by omega, by go_num, HNX⟩
      case measure => simp [intOf]; omega
    · have ek : k = len := by omega
      have q1 : (len : Int) ≤ (k : Int) := by omega
      have HS : Hid (∃ who1, KpG B 0 w w5 b who who1 (n + 1) m f (setF f 5 (.int .i64 (n + 1))) K K (.slice x1 len x3) len 0 (fun g => (Value.slice x1 len x3).ownBlock = some g)) := by
        have hi := HI.out
        rw [ek] at hi
        exact hi.kp (by omega) hxl (by omega) HO.out
      clear HI ek
      go_wp2_with fail
      go_loopw [1, 6] (fun lv' i w' => ∃ (k : Nat) (who' : Nat → Role) (f' : Nat → Value) (K' : Nat → List (Value × Int)), k ≤ 4 ∧ i = .int .i64 k ∧ Hid (KpG B 0 w w' b who who' (n + 1) m f f' K K' lv' (len + k) k (fun g => (Value.slice x1 len x3).ownBlock = some g))) (fun _ i _ => 4 - (intOf i).toNat)
      case atStart =>
        obtain ⟨who1, h1⟩ := HS.out
        exact ⟨0, who1, _, K, by omega, rfl, hide h1⟩
      case round =>
        clear HS
        obtain ⟨j, who', f', K', hj, rfl, HK⟩ := hrel
        obtain ⟨w7, hw7⟩ : ∃ w7, w7 = wr := ⟨_, rfl⟩
        rw [← hw7] at HK ⊢
        clear hw7
        have rO : w7.ownsRow B 22 1 (f' 6) (K' 0).length ((K' 0).map (·.1)) := HK.out.hs.lst 0 (by omega)
        have rM : w7.ownsRow B 3 1 (f' 7) (K' 0).length (ints ((K' 0).map (·.2))) := by have := HK.out.hs.mrk 0 (by omega); simpa [marksOf] using this
        have rL : w7.ownsRow B 3 1 u1 (len + j) (List.replicate (len + j) (elC m 0)).flatten := HK.out.cu.row
        have HLE : Hid ((K' 0).length = (K 0).length + j) := HK.out.len
        have c6 : w7.cell? ⟨b, 6, none⟩ = some (f' 6) := HK.out.hs.blk.cell (by omega)
        have hbase : B ≤ w7.heap.size := by have := HK.out.hs.blk.lt; have := (HK.out.hs.dom b (by rw [HK.out.hs.wb]; simp)).1; omega
        obtain ⟨l1, l2, l3, rfl⟩ := owns_form rL
        have hl2 := owns_lenq rL
        subst hl2
        obtain ⟨o1, o2, o3, eO⟩ := owns_form rO
        rw [eO] at rO c6
        have ho2 := owns_lenq rO
        subst ho2
        have hLL : (K' 0).length ≤ 5000000000003 ∨ ¬ j < 4 := by have := HLE.out; omega
        have HRL := hide rL
        have HRO := hide rO
        have HEO := hide eO
        have HRM := hide rM
        clear rL rO rM eO
        by_cases hj4 : j < 4
        · have hLL : (K' 0).length ≤ 5000000000003 := by omega
          have z2 : (j : Int) < 4 := by omega
          have h63a : (K' 0).length + 1 ≤ maxLen := by unfold maxLen; omega
          have h63c : len + j + 1 ≤ maxLen := by unfold maxLen; omega
          have HPU : Hid (∀ {o : Obj} {g6 c6 : Nat} {w6 : World}, w6.ownsRow B 22 1 (.slice (some ⟨g6, 0, none⟩) ((K' 0).length + 1) c6) ((K' 0).length + 1) ((K' 0).map (·.1) ++ [.slice l1 (len + j) l3]) →
              (((Value.slice o1 (K' 0).length o3).ownBlock = some g6 ∧ (w7.alloc o).grownBy w6 (some g6)) ∨ (g6 = w7.heap.size + 1 ∧ (w7.alloc o).grownBy w6 none)) →
              HB w6 b f' ∧ ∃ who'' f'', KpA B 0 w (w6.setCell ⟨b, 6, none⟩ (.slice (some ⟨g6, 0, none⟩) ((K' 0).length + 1) c6)) b who who'' (n + 1) m f f'' K K' (.slice l1 (len + j) l3) (len + j) j (fun g => (Value.slice x1 len x3).ownBlock = some g) ∧ f'' 7 = f' 7) := by
            intro o g6 c6 w6 hown key
            rw [← HEO.out] at key
            exact HK.out.push (by omega) hown key
          generalize hKl : (K' 0).length = N at *
          generalize hKm : (K' 0).map (·.1) = L1 at *
          have HKl := hide hKl
          clear hKl hKm
          go_upto_region 9 with (at_builtin; go_must (refine wpList_append_keeps rfl _ _ _ rfl B 22 i1 _ 1 24 Tryd.underlying41 hi1 hy0 hy1 hy2 rfl (by omega) (.slice o1 N o3) N L1 rfl (owns_alloc HRO.out) ⟨w7.heap.size, 0, none⟩ 1 1 [.slice l1 (len + j) l3] rfl rfl (World.news_of_block (cs := #[.slice l1 (len + j) l3]) (t := 22) (fr := (0, 0)) (heap_alloc_new w7 _)) (by simp [Value.oneCell']) (by omega) h63a (by omega) (by simp; omega) (w7.heap.size + 1) (by simp) ?_); intro g8 cap8 w8 hown8 key8 hlt8; have hb8 := (HPU.out hown8 key8).1; have p6 : w8.cell? ⟨b, 6, none⟩ = some (.slice o1 N o3) := (by rw [hb8.cell (by omega), HEO.out]); have p7 := hb8.frozen 6)
          obtain ⟨_, who9, f9, hk9, e9⟩ := HPU.out hown8 key8
          generalize w8.setCell ⟨b, 6, none⟩ (.slice (some ⟨g8, 0, none⟩) (N + 1) cap8) = w9 at *
          have HK9 := hide hk9
          have rM9 : w9.ownsRow B 3 1 (f9 7) N (ints ((K' 0).map (·.2))) := by
            have := hk9.hs.mrk 0 (by omega)
            rw [← HKl.out]
            simpa [marksOf] using this
          have c7 : w9.cell? ⟨b, 7, none⟩ = some (f9 7) := hk9.hs.blk.cell (by omega)
          obtain ⟨m1, m2, m3, eM⟩ := owns_form rM9
          rw [eM] at rM9 c7
          have hm2 := (owns_lenq rM9).symm
          subst hm2
          have hbase9 : B ≤ w9.heap.size := by have := hk9.hs.blk.lt; have := (hk9.hs.dom b (by rw [hk9.hs.wb]; simp)).1; omega
          have HRM9 := hide rM9
          have HEM := hide eM
          clear hown8 key8 hb8 p6 p7 hlt8 c6 hk9 e9 HPU rM9 eM HEO HRO HRM
          go_upto_region 10 with (at_builtin; go_must (refine wpList_append_keeps rfl _ _ _ rfl B 3 i2 _ 1 8 Tryd.underlying22 hi2 hx0 hx1 hx2 rfl (by omega) (.slice m1 N m3) N (ints ((K' 0).map (·.2))) rfl (owns_alloc HRM9.out) ⟨w9.heap.size, 0, none⟩ 1 1 [.int .i64 m] rfl rfl (World.news_of_block (cs := #[.int .i64 m]) (t := 3) (fr := (0, 0)) (heap_alloc_new w9 _)) (by simp [Value.oneCell']) (by omega) h63a (by omega) (by simp; omega) (w9.heap.size + 1) (by simp) ?_); intro g10 cap10 w10 hown10 key10 hlt10; have hb10 := (HK9.out.tell (by omega) (M1 := m1) (M3 := m3) HEM.out HKl.out hown10 key10).1; have p6 : w10.cell? ⟨b, 7, none⟩ = some (.slice m1 N m3) := (by rw [hb10.cell (by omega), HEM.out]); have p7 := hb10.frozen 7)
          obtain ⟨_, who11, f11, hk11⟩ := HK9.out.tell (by omega) (M1 := m1) (M3 := m3) HEM.out HKl.out hown10 key10
          generalize w10.setCell ⟨b, 7, none⟩ (.slice (some ⟨g10, 0, none⟩) (N + 1) cap10) = w11 at *
          have HK11 := hide hk11
          have HRL11 : Hid (w11.ownsRow B 3 1 (.slice l1 (len + j) l3) (len + j) (List.replicate (len + j) (elC m 0)).flatten) := hk11.cu.row
          have hbase11 : B ≤ w11.heap.size := by have := hk11.hs.blk.lt; have := (hk11.hs.dom b (by rw [hk11.hs.wb]; simp)).1; omega
          clear hown10 key10 hb10 p6 p7 hlt10 c7 hk11 HK9 HRM9 HEM HRL
          go_wp2_with (at_builtin; go_must (refine wpList_append_keeps rfl _ _ _ rfl B 3 i0 _ 1 8 Tryd.underlying22 hi0 hz0 hz1 hz2 rfl (by omega) (.slice l1 (len + j) l3) (len + j) (List.replicate (len + j) (elC m 0)).flatten rfl (owns_alloc HRL11.out) ⟨w11.heap.size, 0, none⟩ 1 1 [.int .i64 m] rfl rfl (World.news_of_block (cs := #[.int .i64 m]) (t := 3) (fr := (0, 0)) (heap_alloc_new w11 _)) (by simp [Value.oneCell']) (by omega) h63c (by omega) (by simp; omega) (w11.heap.size + 1) (by simp) ?_); intro g12 cap12 w12 hown12 key12 hlt12; have HK13 := hide (HK11.out.grow (by omega) (by omega) hown12 key12); clear hown12 key12 hlt12)
          go_roundw
          case rel =>
            obtain ⟨who13, h13⟩ := HK13.out
            exact ⟨j + 1, who13, _, _, by omega, by go_num, hide h13⟩
          case measure => simp [intOf]; omega
        · have z2 : (4 : Int) ≤ (j : Int) := by omega
          have HE : Hid (∃ who' f' K', HsK B w7 b who' (n + 1) f' K' ∧ After 0 w w7 who who' f f' K K' (fun g => (Value.slice x1 len x3).ownBlock = some g)) := by
            have ej : j = 4 := by omega
            have hk := HK.out
            rw [ej] at hk
            exact hk.done
          go_wp2_with fail
          go_end0
          exact ⟨⟨_, rfl⟩, HE.out⟩

end Go.Proofs.YtklenjmfalljgaaDoor

/- What the hands' walks have in common. -/
namespace Go.Proofs.YtklenjmfalljgaaDoor
open Go.RowKit

theorem val_other {B : Nat} {W w : World} {b : Nat} {who : Nat → Role} {n : Int} {f : Nat → Value} {K : Nat → List (Value × Int)} {sv : Value} {s : List Int} (hH : HsK B w b who n f K) (hWB : W.heap.size ≤ B) (hI : IntsAt W.heap.size W sv s) : valOther who sv := by
  intro g o l c e hl
  obtain ⟨ao, cap, rfl, _, h⟩ := hI
  simp only [Value.slice.injEq] at e
  obtain ⟨e1, e2, _⟩ := e
  obtain ⟨g', o', e3, e4, _⟩ := h 0 (by omega)
  rw [e1] at e3
  simp only [Option.some.injEq, Addr.mk.injEq, and_true] at e3
  by_cases ho : who g = .other
  · exact ho
  · have := (hH.1.dom g ho).1
    omega
/-- What a walk of the hands leaves that answers true. -/
def HzG (W : World) (B b : Nat) (n : Int) (K : Nat → List (Value × Int)) (e : Ending) (w' : World) : Prop :=
  e = .returned (.bool true) ∧ ∃ who' f' K', Hz B w' b who' n f' K' ∧ W.grownBy w' none ∧ ∀ c, c < 5 → (K' c).length ≤ (K c).length + 4
theorem Fr.step0 {w w1 w2 : World} {who who1 who2 : Nat → Role} {ex : Nat → Prop} (h : Fr w w1 who who1 ex) (hf : Fr w1 w2 who1 who2 (fun _ => False)) : Fr w w2 who who2 ex := h.trans (hf.mono fun _ e => e.elim)
theorem Fr.stepG {w w1 w2 : World} {who who1 : Nat → Role} {ex : Nat → Prop} (h : Fr w w1 who who1 ex) (hg : w1.grownBy w2 none) : Fr w w2 who who1 ex := h.trans (Fr.grown hg)
/-- The same; besides, all that was another's is as it was. -/
def HzF (W : World) (B b : Nat) (n : Int) (K : Nat → List (Value × Int)) (w : World) (who : Nat → Role) (e : Ending) (w' : World) : Prop :=
  e = .returned (.bool true) ∧ ∃ who' f' K', Hz B w' b who' n f' K' ∧ W.grownBy w' none ∧ (∀ c, c < 5 → (K' c).length ≤ (K c).length + 4) ∧ Fr w w' who who' (fun g => w.heap.size ≤ g)
theorem HzF.g {W w : World} {B b : Nat} {n : Int} {K : Nat → List (Value × Int)} {who : Nat → Role} {e : Ending} {w' : World} (h : HzF W B b n K w who e w') : HzG W B b n K e w' := by
  obtain ⟨h1, who', f', K', h2, h3, h4, _⟩ := h
  exact ⟨h1, who', f', K', h2, h3, h4⟩
/-- The same, where nothing more is kept. -/
def HzE (W : World) (B b : Nat) (n : Int) (K : Nat → List (Value × Int)) (w : World) (who : Nat → Role) (e : Ending) (w' : World) : Prop :=
  e = .returned (.bool true) ∧ ∃ who' f', Hz B w' b who' n f' K ∧ W.grownBy w' none ∧ Fr w w' who who' (fun g => w.heap.size ≤ g)
theorem HzE.g {W w : World} {B b : Nat} {n : Int} {K : Nat → List (Value × Int)} {who : Nat → Role} {e : Ending} {w' : World} (h : HzE W B b n K w who e w') : HzG W B b n K e w' := by
  obtain ⟨h1, who', f', h2, h3, _⟩ := h
  exact ⟨h1, who', f', K, h2, h3, fun c _ => Nat.le_add_right _ _⟩

end Go.Proofs.YtklenjmfalljgaaDoor

/- Lists that are nil have no room. -/
namespace Go.Proofs.YtklenjmfalljgaaDoor

/-- A nil list has no room. -/
def nilA (x : Value) : Prop := ∀ n c, x = .slice none n c → n = 0 ∧ c = 0
/-- A nil list of a program has no room. -/
def ProgNil (W : World) (pv : Value) : Prop := ∀ g o n cap t rv, pv = .agg #[.slice (some ⟨g, o, none⟩) n cap] → t < n → W.cell? ⟨g, o + t, none⟩ = some rv → nilA rv

end Go.Proofs.YtklenjmfalljgaaDoor

/- What stands behind a place of a function's text. -/
namespace Go.Proofs.YtklenjmfalljgaaDoor

/-- Does the text begin with region n? -/
def atR (n : Nat) : Code → Bool
  | .region k _ _ => Nat.beq k n
  | .seq a _ => atR n a
  | .block _ c => atR n c
  | .scope c => atR n c
  | .loop c => atR n c
  | _ => false
/-- The statements from region n on, to the end of their row. -/
def tailAt (n : Nat) : Code → Option Code
  | .seq a b => match atR n a with
    | true => some (.seq a b)
    | false => match tailAt n a with
      | some c => some c
      | none => tailAt n b
  | .block _ c => tailAt n c
  | .scope c => tailAt n c
  | .loop c => tailAt n c
  | .cond _ a b => match tailAt n a with
    | some c => some c
    | none => tailAt n b
  | _ => none
/-- The statements of a function from region n on. -/
def tailOf (f : Func) (n : Nat) : Code := match f.body with
  | some c => (tailAt n c).getD .skip
  | none => .skip

end Go.Proofs.YtklenjmfalljgaaDoor

/- The hands' again: behind the programs, the schedule. -/
namespace Go.Proofs.YtklenjmfalljgaaDoor
open Go.RowKit
attribute [local go_sem] Go.World.cell?_alloc_some

theorem owns_nilA {w : World} {base : Nat} {e : TypeId} {size : Nat} {v : Value} {n : Nat} {xs : List Value} (h : w.ownsRow base e size v n xs) : nilA v := by
  intro n' c' e
  rcases h.2 with ⟨e1, _⟩ | ⟨g, cap, cur, hv, _⟩
  · rw [e1] at e; simp at e; omega
  · rw [hv] at e; simp at e
theorem ints_ofA {B : Nat} {w : World} {ao : Option Addr} {cap : Nat} {l : List Int} (h : IntsAt B w (.slice ao l.length cap) l) : ∀ b, ao = some b → ∀ j u, (ints l)[j]? = some u → w.cell? (b.add j) = some u := by
  rintro b rfl j u hj
  obtain ⟨a, c, e, _, h2⟩ := h
  have hl := (List.getElem?_eq_some_iff.1 hj).1
  rw [ints_len] at hl
  obtain ⟨g', o', e1, e2, e3⟩ := h2 j hl
  simp only [Value.slice.injEq] at e
  rw [e1] at e
  simp only [Option.some.injEq] at e
  obtain ⟨rfl, _⟩ := e
  have hadd : (⟨g', o', none⟩ : Addr).add j = ⟨g', o' + j, none⟩ := by unfold Addr.add; split <;> simp_all
  rw [hadd, e3]
  have : (ints l)[j]? = some (.int .i64 l[j]) := by simp [ints, hl]
  rw [this] at hj; exact hj
/-- The first two change places. -/
def swp : List Int → List Int
  | x :: y :: r => y :: x :: r
  | l => l
theorem swp_len (l : List Int) : (swp l).length = l.length := by
  unfold swp; split <;> simp
theorem swp_short {l : List Int} (h : ¬ 1 < l.length) : swp l = l := by
  match l, h with
  | [], _ => rfl
  | [x], _ => rfl
  | x :: y :: r, h => simp at h
theorem swp_set {l : List Int} (h : 1 < l.length) : ((ints l).set 0 (.int .i64 l[1])).set 1 (.int .i64 (l[0]'(by omega))) = ints (swp l) := by
  match l, h with
  | x :: y :: r, _ => rfl
/-- In the midst: k numbers are the other list's. -/
def mixI (s t : List Int) (k : Nat) : List Int := t.take k ++ s.drop k
theorem mixI_len {s t : List Int} (h : t.length = s.length) (k : Nat) (hk : k ≤ s.length) : (mixI s t k).length = s.length := by simp [mixI]; omega
theorem mixI_zero (s t : List Int) : mixI s t 0 = s := by simp [mixI]
theorem mixI_end {s t : List Int} (h : t.length = s.length) (k : Nat) (hk : s.length ≤ k) : mixI s t k = t := by
  unfold mixI; rw [List.take_of_length_le (by omega), List.drop_of_length_le hk, List.append_nil]
theorem mixI_next {s t : List Int} (h : t.length = s.length) (k : Nat) (hk : k < s.length) : (lentRow (mixI s t k)).setIfInBounds k (.int .i64 (t[k]'(by omega))) = lentRow (mixI s t (k + 1)) := by
  have e1 : mixI s t (k + 1) = (mixI s t k).set k (t[k]'(by omega)) := by
    unfold mixI
    rw [List.take_succ_eq_append_getElem (by omega : k < t.length), List.set_append, if_neg (by simp; omega)]
    have : k - (t.take k).length = 0 := by simp; omega
    rw [this]
    have e2 : s.drop k = s[k] :: s.drop (k + 1) := List.drop_eq_getElem_cons hk
    rw [e2, List.set_cons_zero]
    simp only [List.append_assoc, List.cons_append, List.nil_append]
  rw [e1]
  unfold lentRow ints
  rw [List.map_set]
  simp only [List.setIfInBounds_toArray]
  congr 1
  rw [List.set_append, if_pos (by simp [mixI]; omega)]

/-- What asked answers of one question, whoever asks. -/
def AskC (wh : Int) : Prop := ∀ (p : List (List Ins)) (s : List Int) (xv lv pv sv : Value) (w : World), ShpAt w → ProgAt w xv p → IntsAt w.heap.size w lv s → nilA lv → ProgAt w pv p → IntsAt w.heap.size w sv s → nilA sv → p.length ≤ 5864062014634 → (∀ c ∈ p, c.length ≤ 4398046510976) →
  Calls Tryd.prog 67 #[.int .i64 wh, xv, lv, pv, sv] w fun e w' => e = .returned (.bool true) ∧ w.grownBy w' none

set_option maxHeartbeats 4000000 in
set_option maxRecDepth 100000 in
theorem againTail {W : World} {B : Nat} {w : World} {b : Nat} {who : Nat → Role} {n : Int} {f : Nat → Value} {K : Nat → List (Value × Int)} {gs g n9 n12 qc sc : Nat} {so qa : Option Addr} {s : List Int} {p : List (List Ins)} {LC : List (Nat × List Ins × Value)} {wh : Int}
    (h : Lx B w b who n f K (EL [(gs, s, .slice so s.length sc)] LC [(g, p.length)]) [(gs, s, .slice so s.length sc)] LC [(g, p.length)] 0) (hW : W.grownBy w none) (hWB : W.heap.size ≤ B) (hS : ShpAt W) (hI : IntsAt W.heap.size W (.slice so s.length sc) s) (hnil : nilA (.slice so s.length sc)) (hsl : s.length ≤ 17592186043904)
    (hp : LC.map (·.2.1) = p) (hpl : p.length ≤ 5864062014634) (hpc : ∀ c ∈ p, c.length ≤ 4398046510976) (HA : Hid (AskC wh))
    (HB : Hid (∀ w', w.heap.size ≤ w'.heap.size → (∀ g', g' < w.heap.size → g' ≠ gs → (∀ k, who g' ≠ .lrow k) → w'.heap[g']? = w.heap[g']?) → ProgAt w' (.agg #[.slice qa p.length qc]) p ∧ w'.cell? ⟨n12, 0, none⟩ = some (.slice qa p.length qc) ∧ w'.cell? ⟨n9, 0, none⟩ = some (.slice (some ⟨g, 0, none⟩) p.length (p.length + 2))))
    {Q : Exit → Act → World → Prop} {c2 c4 c5 c6 c7 c8 c13 c14 c15 c16 c17 c18 c19 c20 c21 c22 c23 c24 c25 c26 c27 c28 c29 c30 c31 c32 c33 c34 c35 c36 c37 c38 c39 c40 c41 c42 c43 c44 c45 c46 c47 c48 c49 c50 c51 c52 c53 c54 c55 c56 c57 c58 c59 c60 c61 c62 c63 c64 c65 c66 c67 c68 c69 c70 c71 c72 c73 c74 c75 c76 c77 c78 c79 c80 c81 c82 c83 c84 c85 c86 c87 c88 c89 c90 c91 c92 c93 c94 c95 c96 c97 c98 c99 c100 c101 c102 c103 c104 c105 c106 c107 c108 c109 c110 c111 c112 c113 c114 c115 c116 c117 c118 c119 c120 c121 c122 c123 c124 c125 c126 c127 c128 c129 c130 c131 c132 c133 c134 c135 c136 c137 c138 c139 : Value} (HQP : Hid (∀ c a d v w, Q (.panic c) (Act.put a (some d) v) w → Q (.panic c) a w))
    (HQ : Hid (∀ {z0 z1 z2 z3 z4 z5 z6 z7 z9 z10 z11 z12 z13 z14 z15 z16 z17 z18 z19 z20 z21 z22 z23 z24 z25 z26 z27 z28 z29 z30 z31 z32 z33 z34 z35 z36 z37 z38 z39 z40 z41 z42 z43 z44 z45 z46 z47 z48 z49 z50 z51 z52 z53 z54 z55 z56 z57 z58 z59 z60 z61 z62 z63 z64 z65 z66 z67 z68 z69 z70 z71 z72 z73 z74 z75 z76 z77 z78 z79 z80 z81 z82 z83 z84 z85 z86 z87 z88 z89 z90 z91 z92 z93 z94 z95 z96 z97 z98 z99 z100 z101 z102 z103 z104 z105 z106 z107 z108 z109 z110 z111 z112 z113 z114 z115 z116 z117 z118 z119 z120 z121 z122 z123 z124 z125 z126 z127 z128 z129 z130 z131 z132 z133 z134 z135 z136 z137 z138 z139 : Value} (f' : Nat → Value) (w' : World), Hz B w' b who n f' K → W.grownBy w' none → Q .ret ⟨#[z0, z1, z2, z3, z4, z5, z6, z7, .bool true, z9, z10, z11, z12, z13, z14, z15, z16, z17, z18, z19, z20, z21, z22, z23, z24, z25, z26, z27, z28, z29, z30, z31, z32, z33, z34, z35, z36, z37, z38, z39, z40, z41, z42, z43, z44, z45, z46, z47, z48, z49, z50, z51, z52, z53, z54, z55, z56, z57, z58, z59, z60, z61, z62, z63, z64, z65, z66, z67, z68, z69, z70, z71, z72, z73, z74, z75, z76, z77, z78, z79, z80, z81, z82, z83, z84, z85, z86, z87, z88, z89, z90, z91, z92, z93, z94, z95, z96, z97, z98, z99, z100, z101, z102, z103, z104, z105, z106, z107, z108, z109, z110, z111, z112, z113, z114, z115, z116, z117, z118, z119, z120, z121, z122, z123, z124, z125, z126, z127, z128, z129, z130, z131, z132, z133, z134, z135, z136, z137, z138, z139], []⟩ w')) :
    Code.wp Tryd.prog (tailOf Tryd.f30 18) Q ⟨#[.pointer (some ⟨b, 0, none⟩), .int .i64 wh, c2, .slice so s.length sc, c4, c5, c6, c7, c8, .pointer (some ⟨n9, 0, none⟩), .slice (some ⟨gs, 0, none⟩) s.length (s.length + 2), .bool true, .pointer (some ⟨n12, 0, none⟩), c13, c14, c15, c16, c17, c18, c19, c20, c21, c22, c23, c24, c25, c26, c27, c28, c29, c30, c31, c32, c33, c34, c35, c36, c37, c38, c39, c40, c41, c42, c43, c44, c45, c46, c47, c48, c49, c50, c51, c52, c53, c54, c55, c56, c57, c58, c59, c60, c61, c62, c63, c64, c65, c66, c67, c68, c69, c70, c71, c72, c73, c74, c75, c76, c77, c78, c79, c80, c81, c82, c83, c84, c85, c86, c87, c88, c89, c90, c91, c92, c93, c94, c95, c96, c97, c98, c99, c100, c101, c102, c103, c104, c105, c106, c107, c108, c109, c110, c111, c112, c113, c114, c115, c116, c117, c118, c119, c120, c121, c122, c123, c124, c125, c126, c127, c128, c129, c130, c131, c132, c133, c134, c135, c136, c137, c138, c139], []⟩ w := by
  conv => arg 2; whnf
  obtain ⟨i0, hi0, hz0, hz1, hz2⟩ := info_parts info_int
  have HX := hide h
  have HW := hide hW
  have HS := hide hS
  have HI := hide hI
  have HP := hide hp
  have HPC := hide hpc
  have hIw : IntsAt w.heap.size w (.slice so s.length sc) s := (hI.pres (pres_grown hW)).mono hW.size
  have HIW := hide hIw
  have HSO : Hid (so = none → s.length = 0 ∧ sc = 0) := fun e => hnil _ _ (by rw [e])
  have HNW : Hid (∀ ad, so = some ad → ∀ j u, (ints s)[j]? = some u → w.cell? (ad.add j) = some u) := ints_ofA hIw
  have hil : (ints s).length = s.length * 1 := by rw [ints_len]; omega
  have h63 : 0 + s.length ≤ maxLen := by unfold maxLen; omega
  have q0 : (s.length : Int) ≤ 17592186043904 := by omega
  clear h hW hS hI hp hpc hnil hIw
  go_upto_if 90 with (at_builtin; refine wpList_append_any rfl _ _ _ rfl w.heap.size 3 i0 _ 1 8 Tryd.underlying22 hi0 hz0 hz1 hz2 rfl (by omega) (.slice none 0 0) 0 [] rfl ⟨rfl, Or.inl ⟨rfl, rfl⟩⟩ so s.length sc (ints s) rfl hil HSO.out HNW.out (ints_one _) h63 (by omega) (Nat.le_refl _) ?_; intro ta tn tc w1 hown1 hg1)
  simp only [Nat.zero_add, List.nil_append] at hown1
  have htn := owns_lenq hown1
  subst htn
  have HG1 : Hid (w.grownBy w1 none) := hg1
  have HO1 := hide hown1
  clear hown1 hg1 hil h63 HSO HNW
  go_cut [16] from 85 to 100 (fun tv w' => Hid (∃ ta tc, tv = .slice ta s.length tc ∧ w'.ownsRow w.heap.size 3 1 tv s.length (ints (swp s)) ∧ w.grownBy w' none))
  case first =>
    by_cases hs1 : 1 < s.length
    · have t1 : (1 : Int) < s.length := by omega
      obtain ⟨tg, hta, htg, hfz⟩ : ∃ tg, ta = some ⟨tg, 0, none⟩ ∧ w.heap.size ≤ tg ∧ ∀ o, w1.frozen? ⟨tg, o, none⟩ = false := by
        rcases HO1.out.2 with ⟨_, e⟩ | ⟨g, cap, cur, hv, hb', hh, _⟩
        · omega
        · simp only [Value.slice.injEq] at hv
          exact ⟨g, hv.1, hb', fun o => by simp [World.frozen?, hh]⟩
      subst hta
      obtain ⟨sg, sf, hso, d0, d1⟩ : ∃ sg sf, so = some ⟨sg, sf, none⟩ ∧ w1.cell? ⟨sg, sf, none⟩ = some (.int .i64 (s[0]'(by omega))) ∧ w1.cell? ⟨sg, sf + 1, none⟩ = some (.int .i64 s[1]) := by
        obtain ⟨ao, cap, e, _, h⟩ := HIW.out
        simp only [Value.slice.injEq] at e
        obtain ⟨g1, o1, e1, _, k1⟩ := h 0 (by omega)
        obtain ⟨g2, o2, e2, _, k2⟩ := h 1 hs1
        rw [e1] at e2
        simp only [Option.some.injEq, Addr.mk.injEq, and_true] at e2
        obtain ⟨rfl, rfl⟩ := e2
        exact ⟨g1, o1, by rw [e.1]; exact e1, pres_grown HG1.out _ _ k1, pres_grown HG1.out _ _ k2⟩
      have hsl2 : sg < w.heap.size := by
        obtain ⟨ao, cap, e, _, h⟩ := HIW.out
        simp only [Value.slice.injEq] at e
        obtain ⟨g1, o1, e1, k0, _⟩ := h 0 (by omega)
        rw [← e.1, hso] at e1
        simp only [Option.some.injEq, Addr.mk.injEq, and_true] at e1
        omega
      subst hso
      have hne1 : tg ≠ sg := by omega
      have hne2 : sg ≠ tg := by omega
      have f0 := hfz 0
      have f1 := hfz 1
      have u0 : w1.cell? ⟨tg, 0, none⟩ = some (.int .i64 (s[0]'(by omega))) := by rw [HO1.out.cellAt _ (by omega)]; simp [ints]
      have u1 : w1.cell? ⟨tg, 1, none⟩ = some (.int .i64 s[1]) := by rw [HO1.out.cellAt _ (by omega)]; simp [ints]
      have HNX : Hid (((w1.setCell ⟨tg, 0, none⟩ (.int .i64 s[1])).setCell ⟨tg, 1, none⟩ (.int .i64 (s[0]'(by omega)))).ownsRow w.heap.size 3 1 (.slice (some ⟨tg, 0, none⟩) s.length tc) s.length (ints (swp s))) := by
        unfold Hid; rw [← swp_set hs1]; exact owns_setCell (owns_setCell HO1.out 0 _) 1 _
      have HNG : Hid (w.grownBy ((w1.setCell ⟨tg, 0, none⟩ (.int .i64 s[1])).setCell ⟨tg, 1, none⟩ (.int .i64 (s[0]'(by omega)))) none) := grown_setNew (grown_setNew HG1.out htg) htg
      generalize s[0]'(by omega) = y0 at *
      generalize s[1] = y1 at *
      clear hfz
      go_wp2_with fail
      go_meet
      exact ⟨_, _, rfl, HNX.out, HNG.out⟩
    · have t1 : (s.length : Int) ≤ 1 := by omega
      have HE : Hid (swp s = s) := swp_short hs1
      go_wp2_with fail
      go_meet
      exact ⟨_, _, rfl, by rw [HE.out]; exact HO1.out, HG1.out⟩
  case rest =>
  obtain ⟨ta2, tc2, rfl, ho2, hg2⟩ := hcut.out
  clear hcut HO1 HG1
  obtain ⟨w2, hw2⟩ : ∃ w2, w2 = wc := ⟨_, rfl⟩
  rw [← hw2] at ho2 hg2 ⊢
  clear hw2
  have HX2 := hide (HX.out.grown hg2)
  have HW2 : Hid (W.grownBy w2 none) := grown_trans HW.out hg2
  have HG2 := hide hg2
  have HO2 := hide ho2
  have HTL := hide (swp_len s)
  have hxr := HX2.out.lr.r 0 (by omega)
  have hxl : (EL [(gs, s, .slice so s.length sc)] LC [(g, p.length)] 0).length = 1 := rfl
  obtain ⟨r0, rc, hr0, d1⟩ := row_cell hxr (i := 0) (by rw [hxl]; omega)
  rw [hxl] at hr0
  have d1' : w2.cell? ⟨r0, 0, none⟩ = some (.slice (some ⟨gs, 0, none⟩) (s.length + 2) (s.length + 2)) := d1
  have d0 : w2.cell? ⟨b, 0, none⟩ = some (.slice (some ⟨r0, 0, none⟩) 1 rc) := by rw [← hr0]; exact HX2.out.cell (by omega)
  have hgsb : w2.heap[gs]? = some (.cells (lentRow s) 3 (0, 0)) := (HX2.out.le.li (gs, s, .slice so s.length sc) (by simp)).1
  have wgs : who gs = .lent := (HX2.out.le.li (gs, s, .slice so s.length sc) (by simp)).2.1
  have wr0 : who r0 = .lrow 0 := HX2.out.lr.wr 0 (by omega) r0 (by rw [hr0]; rfl)
  have wb : who b = .hands := HX2.out.hs.1.wb
  have nb : b ≠ gs := fun e => by rw [e, wgs] at wb; cases wb
  have nr : r0 ≠ gs := fun e => by rw [e, wgs] at wr0; cases wr0
  have HD0 := hide d0
  have HD1 := hide d1'
  have H0 : Hid (Chg w2 w2 (fun g' => g' = gs) ∧ w2.heap[gs]? = some (.cells (lentRow (mixI s (swp s) 0)) 3 (0, 0))) := ⟨Chg.refl _ _, by rw [mixI_zero]; exact hgsb⟩
  clear ho2 hg2 hxr hxl d1 d1' d0 hgsb hr0
  go_wp2_with fail
  go_loopw [17] (fun kv w' => ∃ k : Nat, k ≤ s.length ∧ kv = .int .i64 k ∧ Hid (Chg w2 w' (fun g' => g' = gs) ∧ w'.heap[gs]? = some (.cells (lentRow (mixI s (swp s) k)) 3 (0, 0)))) (fun kv _ => s.length - (intOf kv).toNat)
  case atStart => exact ⟨0, Nat.zero_le _, rfl, H0⟩
  case round =>
    clear H0
    obtain ⟨k, hk, rfl, HK⟩ := hrel
    obtain ⟨w3, hw3⟩ : ∃ w3, w3 = wr := ⟨_, rfl⟩
    rw [← hw3] at HK ⊢
    clear hw3
    by_cases hlt : k < s.length
    · have t0 : (0 : Int) ≤ (k : Int) := by omega
      have t1 : (k : Int) < s.length := by omega
      have t2 : (k : Int) < (s.length : Int) + 2 := by omega
      have hkt : k < (swp s).length := by have := HTL.out; omega
      obtain ⟨tg, hta, htg⟩ : ∃ tg, ta2 = some ⟨tg, 0, none⟩ ∧ w.heap.size ≤ tg := by
        rcases HO2.out.2 with ⟨_, e⟩ | ⟨g, cap, cur, hv, hb', hh, _⟩
        · omega
        · simp only [Value.slice.injEq] at hv
          exact ⟨g, hv.1, hb'⟩
      subst hta
      have ngt : tg ≠ gs := fun e => by
        have := (HX.out.hs.1.dom gs (by rw [wgs]; simp)).2
        omega
      have k0 := HK.out.1.cell HD0.out (by simpa using nb)
      have k1 := HK.out.1.cell HD1.out (by simpa using nr)
      have k2 : w3.cell? ⟨tg, k, none⟩ = some (.int .i64 (swp s)[k]) := by
        refine HK.out.1.cell ?_ (by simpa using ngt)
        rw [HO2.out.cellAt _ (by omega)]; simp [ints, hkt]
      have fz : w3.frozen? ⟨gs, k, none⟩ = false := by simp [World.frozen?, HK.out.2]
      have hcu : ∃ u, w3.cell? ⟨gs, k, none⟩ = some u := by
        have hl := lentRow_len (mixI s (swp s) k)
        rw [mixI_len HTL.out k hk] at hl
        exact ⟨_, by simp only [World.cell?, HK.out.2]; exact Array.getElem?_eq_getElem (by omega)⟩
      obtain ⟨u0, ku⟩ := hcu
      have HNX : Hid (Chg w2 (w3.setCell ⟨gs, k, none⟩ (.int .i64 (swp s)[k])) (fun g' => g' = gs) ∧ (w3.setCell ⟨gs, k, none⟩ (.int .i64 (swp s)[k])).heap[gs]? = some (.cells (lentRow (mixI s (swp s) (k + 1))) 3 (0, 0))) :=
        ⟨HK.out.1.set rfl, by rw [heap_setCell_same w3 gs k _ _ _ HK.out.2, mixI_next HTL.out k hlt]⟩
      generalize hx : (swp s)[k] = x at *
      clear hx HK
      go_upto_region 26 with fail
      refine wp_region_head (fun u => u.cell? ⟨b, 0, none⟩ = some (.slice (some ⟨r0, 0, none⟩) 1 rc) ∧ u.cell? ⟨r0, 0, none⟩ = some (.slice (some ⟨gs, 0, none⟩) (s.length + 2) (s.length + 2)) ∧ u.cell? ⟨tg, k, none⟩ = some (.int .i64 x)) 12 (by kernel_rfl) (by kernel_rfl) ⟨k0, k1, k2⟩ ?_
      intro hHeld
      refine wpHead_take (i := 0) (v := ?vva0) rfl (by kernel_rfl) (fun c _ _ h => HQP.out c _ _ _ _ h) (Or.inl ⟨by rfl, ?hya0⟩) hHeld ?resta0
      case hya0 => (rintro u ⟨hu0, hu1, hu2⟩; go_simp; try with_reducible rfl)
      simp only [Act.put, List.setIfInBounds_toArray]
      refine wpHead_take (i := 1) (v := ?vva1) rfl (by kernel_rfl) (fun c _ _ h => HQP.out c _ _ _ _ h) (Or.inl ⟨by rfl, ?hya1⟩) hHeld ?resta1
      case hya1 => (rintro u ⟨hu0, hu1, hu2⟩; go_simp; try with_reducible rfl)
      simp only [Act.put]
      refine wpHead_take (i := 2) (v := ?vva2) rfl (by kernel_rfl) (fun c _ _ h => HQP.out c _ _ _ _ h) (Or.inl ⟨by rfl, ?hya2⟩) hHeld ?resta2
      case hya2 => (rintro u ⟨hu0, hu1, hu2⟩; go_simp; try with_reducible rfl)
      simp only [Act.put]
      refine wpHead_take (i := 3) (v := ?vva3) rfl (by kernel_rfl) (fun c _ _ h => HQP.out c _ _ _ _ h) (Or.inl ⟨by rfl, ?hya3⟩) hHeld ?resta3
      case hya3 => (rintro u ⟨hu0, hu1, hu2⟩; go_simp; try with_reducible rfl)
      simp only [Act.put]
      refine wpHead_take (i := 4) (v := ?vva4) rfl (by kernel_rfl) (fun c _ _ h => HQP.out c _ _ _ _ h) (Or.inl ⟨by rfl, ?hya4⟩) hHeld ?resta4
      case hya4 => (rintro u ⟨hu0, hu1, hu2⟩; go_simp; try with_reducible rfl)
      simp only [Act.put]
      refine wpHead_take (i := 5) (v := ?vva5) rfl (by kernel_rfl) (fun c _ _ h => HQP.out c _ _ _ _ h) (Or.inl ⟨by rfl, ?hya5⟩) hHeld ?resta5
      case hya5 => (rintro u ⟨hu0, hu1, hu2⟩; go_simp; try with_reducible rfl)
      simp only [Act.put]
      refine wpHead_take (i := 6) (v := ?vva6) rfl (by kernel_rfl) (fun c _ _ h => HQP.out c _ _ _ _ h) (Or.inl ⟨by rfl, ?hya6⟩) hHeld ?resta6
      case hya6 => (rintro u ⟨hu0, hu1, hu2⟩; go_simp; try with_reducible rfl)
      simp only [Act.put]
      refine wpHead_take (i := 7) (v := ?vva7) rfl (by kernel_rfl) (fun c _ _ h => HQP.out c _ _ _ _ h) (Or.inl ⟨by rfl, ?hya7⟩) hHeld ?resta7
      case hya7 => (rintro u ⟨hu0, hu1, hu2⟩; go_simp; try with_reducible rfl)
      simp only [Act.put]
      refine wpHead_take (i := 8) (v := ?vva8) rfl (by kernel_rfl) (fun c _ _ h => HQP.out c _ _ _ _ h) (Or.inl ⟨by rfl, ?hya8⟩) hHeld ?resta8
      case hya8 => (rintro u ⟨hu0, hu1, hu2⟩; go_simp; try with_reducible rfl)
      simp only [Act.put]
      refine wpHead_take (i := 9) (v := ?vva9) rfl (by kernel_rfl) (fun c _ _ h => HQP.out c _ _ _ _ h) (Or.inl ⟨by rfl, ?hya9⟩) hHeld ?resta9
      case hya9 => (rintro u ⟨hu0, hu1, hu2⟩; go_simp; try with_reducible rfl)
      simp only [Act.put]
      refine wpHead_take (i := 10) (v := ?vva10) rfl (by kernel_rfl) (fun c _ _ h => HQP.out c _ _ _ _ h) (Or.inl ⟨by rfl, ?hya10⟩) hHeld ?resta10
      case hya10 => (rintro u ⟨hu0, hu1, hu2⟩; go_simp; try with_reducible rfl)
      simp only [Act.put]
      refine wpHead_take (i := 11) (v := ?vva11) rfl (by kernel_rfl) (fun c _ _ h => HQP.out c _ _ _ _ h) (Or.inl ⟨by rfl, ?hya11⟩) hHeld ?resta11
      case hya11 => (rintro u ⟨hu0, hu1, hu2⟩; go_simp; try with_reducible rfl)
      simp only [Act.put]
      refine wpHead_last rfl (by kernel_rfl) (by kernel_rfl) (by rfl) ?_
      go_simp
      clear hHeld
      go_wp2_with fail
      go_roundw
      case rel => exact ⟨k + 1, by omega, by go_num, ⟨⟨HNX.out.1.os, HNX.out.1.tape, HNX.out.1.output, HNX.out.1.size, HNX.out.1.blk⟩, HNX.out.2⟩⟩
      case measure => simp [intOf]; omega
    · have t1 : (s.length : Int) ≤ (k : Int) := by omega
      have hb3 := HK.out.2
      rw [mixI_end HTL.out k (by omega)] at hb3
      have hxr := HX2.out.lr.r 1 (by omega)
      have hxl : (EL [(gs, s, .slice so s.length sc)] LC [(g, p.length)] 1).length = 1 := rfl
      obtain ⟨g1, rc1, hf1, d1⟩ := row_cell hxr (i := 0) (by rw [hxl]; omega)
      rw [hxl] at hf1
      have wg1 : who g1 = .lrow 1 := HX2.out.lr.wr 1 (by omega) g1 (by rw [hf1]; rfl)
      have ng1 : g1 ≠ gs := fun e => by rw [e, wgs] at wg1; cases wg1
      have e0 : w3.cell? ⟨b, 1, none⟩ = some (.slice (some ⟨g1, 0, none⟩) 1 rc1) := HK.out.1.cell (by rw [← hf1]; exact HX2.out.cell (by omega)) (by simpa using nb)
      obtain ⟨u1, e1⟩ : ∃ u, w3.cell? ⟨g1, 0, none⟩ = some u := ⟨_, HK.out.1.cell d1 (by simpa using ng1)⟩
      have fz : w3.frozen? ⟨g1, 0, none⟩ = false := by
        have hlt := (HX2.out.hs.1.dom g1 (by rw [wg1]; simp)).2
        have := free_at (i := 0) (by rw [hf1] at hxr; rw [hxl] at hxr; exact hxr)
        simp only [World.frozen?, HK.out.1.blk g1 hlt (by simpa using ng1)] at this ⊢
        exact this
      have hto : ∀ q, (Value.slice ta2 s.length tc2).ownBlock = some q → w.heap.size ≤ q := fun q e => owns_block HO2.out q e
      have hoo : w3.ownsRow w.heap.size 3 1 (.slice ta2 s.length tc2) s.length (ints (swp s)) := owns_same HO2.out (fun q e => by
        refine HK.out.1.blk q (owns_ltH HO2.out q e) (fun e2 => ?_)
        have h1 := hto q e
        have h2 := (HX.out.hs.1.dom gs (by rw [wgs]; simp)).2
        omega)
      rw [← HTL.out] at hoo
      have hvo : valOther who (.slice ta2 (swp s).length tc2) := fun q o l c e hl => by
        simp only [Value.slice.injEq] at e
        obtain ⟨e1, e2, _⟩ := e
        have h1 : w.heap.size ≤ q := by
          rcases hoo.2 with ⟨e3, _⟩ | ⟨g', cap', cur, hv, hb', _⟩
          · simp only [Value.slice.injEq] at e3
            rw [e3.1] at e1; cases e1
          · simp only [Value.slice.injEq] at hv
            rw [hv.1] at e1
            simp only [Option.some.injEq, Addr.mk.injEq, and_true] at e1
            omega
        by_cases ho : who q = .other
        · exact ho
        · exact absurd (HX.out.hs.1.dom q ho).2 (by omega)
      obtain ⟨hx4, hf4⟩ := HX2.out.reints HK.out.1 hf1 hb3 HTL.out (owns_ints hoo) hvo
      obtain ⟨w4, hw4⟩ : ∃ w4, w4 = w3.setCell ⟨g1, 0, none⟩ (.slice ta2 s.length tc2) := ⟨_, rfl⟩
      have hw4' : w3.setCell ⟨g1, 0, none⟩ (.slice ta2 (swp s).length tc2) = w4 := by rw [hw4, HTL.out]
      rw [hw4'] at hx4 hf4
      have HW4 : Hid (W.grownBy w4 none) := hf4.base HW2.out hWB (fun g e => (HX2.out.hs.1.dom g e).1) (fun _ e => e.elim)
      obtain ⟨hq4, c12, c9⟩ := HB.out w4 (Nat.le_trans HG2.out.size hf4.size) (fun g' h1 h2 h3 => by
        rw [hw4, Below.heap_setCell _ _ _ _ (by simp only; exact fun e => h3 1 (by rw [e]; exact wg1)), HK.out.1.blk g' (Nat.lt_of_lt_of_le h1 HG2.out.size) h2]
        exact HG2.out.block g' h1 (by simp))
      have hgb : w4.heap[g]? = some (.cells (lentRows LC) 29 (0, 0)) := by
        have := (hx4.le.lr 0 (by simp)).1
        simp only [List.getElem_cons_zero, List.take_zero, List.map_nil, List.sum_nil, List.drop_zero] at this
        rw [List.take_of_length_le (by rw [← HP.out]; simp)] at this
        exact this
      have hPx : ProgAt w4 (.agg #[.slice (some ⟨g, 0, none⟩) p.length (p.length + 2)]) p := lent_prog (LC0 := []) (by simpa using hx4.le) hgb HP.out _
      have hli := hx4.le.li (gs, swp s, .slice ta2 (swp s).length tc2) (by simp)
      have hIx := lent_ints hli.1
      have hIt := hli.2.2.1
      have HAS := hide (HA.out p (swp s) _ _ _ _ w4 (HS.out.pres (pres_grown HW4.out)) hPx hIx (fun _ _ e => by simp at e) hq4 hIt (owns_nilA hoo) hpl HPC.out)
      simp only [HTL.out] at HAS
      have HX4 := hide hx4
      have hpt : pt b = .pointer (some ⟨b, 0, none⟩) := rfl
      clear hx4 hf4 hq4 hgb hPx hli hIx hIt hoo hvo hto d1 hxr hxl hb3 HK
      go_upto_region 28 with fail
      rw [← hw4]
      clear hw4 hw4' e0 e1 fz
      go_wp2_with fail
      refine HAS.out.mono ?_
      clear HAS
      rintro e w5 ⟨rfl, hg5⟩
      have HW5 : Hid (W.grownBy w5 none) := grown_trans HW4.out hg5
      have HX5 := hide (HX4.out.grown hg5)
      have HBK := hide (back_g B w5 b who n f K _ _ _ HX5.out (by simp) (by have := congrArg List.length HP.out; simp at this; omega) (by simp))
      clear hg5 c12 c9
      rw [hpt] at HBK
      go_wp2_with fail
      refine HBK.out.mono ?_
      clear HBK
      rintro e w6 ⟨rfl, f6, hz6, hf6⟩
      have HZ6 := hide hz6
      have HW6 : Hid (W.grownBy w6 none) := hf6.base HW5.out hWB (fun g e => (HX5.out.hs.1.dom g e).1) (fun _ e => e.elim)
      clear hz6 hf6
      go_wp2_with fail
      exact HQ.out f6 _ HZ6.out HW6.out

end Go.Proofs.YtklenjmfalljgaaDoor
