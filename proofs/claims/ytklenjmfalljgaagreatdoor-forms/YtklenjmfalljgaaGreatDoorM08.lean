/- The texts Hgm. -/
import Derived.Test.YtklenjmfalljgaaGreatDoorM07

/- The walk of the hands' back, whole. -/
namespace Go.Proofs.YtklenjmfalljgaaGreatDoor
open Go.RowKit
attribute [local go_sem] Go.World.cell?_alloc_some

theorem row_cell {w : World} {B : Nat} {T : TypeId} {v : Value} {E : List Value} (h : w.ownsRow B T 1 v E.length E) {i : Nat} (hi : i < E.length) : ∃ g cap, v = .slice (some ⟨g, 0, none⟩) E.length cap ∧ w.cell? ⟨g, i, none⟩ = some E[i] := by
  obtain ⟨g, cap, e, _, _⟩ := h.form (by omega)
  refine ⟨g, cap, e, ?_⟩
  rw [e] at h
  rw [h.cellAt i (by omega), List.getElem?_eq_getElem hi]
theorem nodup_take {l : List Nat} (h : l.Nodup) {i : Nat} (hi : i < l.length) : l[i] ∉ l.take i := by
  intro hm
  have h2 := h
  rw [← List.take_append_drop i l, List.nodup_append] at h2
  exact h2.2.2 _ hm _ (by rw [List.drop_eq_getElem_cons hi]; exact List.mem_cons_self) rfl

set_option maxRecDepth 100000 in
set_option maxHeartbeats 4000000 in
theorem back_g (B : Nat) (w : World) (b : Nat) (who : Nat → Role) (n : Int) (f : Nat → Value) (K : Nat → List (Value × Int)) (LI : List (Nat × List Int × Value)) (LC : List (Nat × List Ins × Value)) (LR : List (Nat × Nat))
    (h : Lx B w b who n f K (EL LI LC LR) LI LC LR 0) (hLI : LI.length ≤ 1000) (hLC : LC.length ≤ 5864062014634) (hLR : LR.length ≤ 1000) :
    Calls Tryz.prog 29 #[pt b] w fun e w' => e = .returned (.bool true) ∧ ∃ f', Hz B w' b who n f' K ∧ Fr w w' who who (fun _ => False) := by
  have HX := hide h
  have hpt : pt b = .pointer (some ⟨b, 0, none⟩) := rfl
  rw [hpt]
  have c0 := h.cell (o := 0) (by omega)
  have c1 := h.cell (o := 1) (by omega)
  have c2 := h.cell (o := 2) (by omega)
  have c3 := h.cell (o := 3) (by omega)
  have c4 := h.cell (o := 4) (by omega)
  have r0 : w.ownsRow B 25 1 (f 0) (EL LI LC LR 0).length (EL LI LC LR 0) := h.lr.r 0 (by omega)
  have r1 : w.ownsRow B 25 1 (f 1) (EL LI LC LR 1).length (EL LI LC LR 1) := h.lr.r 1 (by omega)
  have r2 : w.ownsRow B 75 1 (f 2) (EL LI LC LR 2).length (EL LI LC LR 2) := h.lr.r 2 (by omega)
  have r3 : w.ownsRow B 75 1 (f 3) (EL LI LC LR 3).length (EL LI LC LR 3) := h.lr.r 3 (by omega)
  have r4 : w.ownsRow B 22 1 (f 4) (EL LI LC LR 4).length (EL LI LC LR 4) := h.lr.r 4 (by omega)
  have l0 : (EL LI LC LR 0).length = LI.length := by simp [EL]
  have l1 : (EL LI LC LR 1).length = LI.length := by simp [EL]
  have l2 : (EL LI LC LR 2).length = LC.length := by simp [EL]
  have l3 : (EL LI LC LR 3).length = LC.length := by simp [EL]
  have l4 : (EL LI LC LR 4).length = LR.length := by simp [EL]
  have wr := h.lr.wr
  have HR0 := hide r0
  have HR1 := hide r1
  have HR2 := hide r2
  have HR3 := hide r3
  have HR4 := hide r4
  obtain ⟨a0, b0, d0, e0⟩ := owns_form r0
  obtain ⟨a1, b1, d1, e1⟩ := owns_form r1
  obtain ⟨a2, b2, d2, e2⟩ := owns_form r2
  obtain ⟨a3, b3, d3, e3⟩ := owns_form r3
  obtain ⟨a4, b4, d4, e4⟩ := owns_form r4
  have hb0 : b0 = LI.length := by rw [e0] at r0; have := owns_lenq r0; omega
  have hb1 : b1 = LI.length := by rw [e1] at r1; have := owns_lenq r1; omega
  have hb2 : b2 = LC.length := by rw [e2] at r2; have := owns_lenq r2; omega
  have hb3 : b3 = LC.length := by rw [e3] at r3; have := owns_lenq r3; omega
  have hb4 : b4 = LR.length := by rw [e4] at r4; have := owns_lenq r4; omega
  subst hb0 hb1 hb2 hb3 hb4
  rw [e0] at c0
  rw [e1] at c1
  rw [e2] at c2
  rw [e3] at c3
  rw [e4] at c4
  have HE0 := hide e0
  have HE1 := hide e1
  have HE2 := hide e2
  have HE3 := hide e3
  have HE4 := hide e4
  have HC0 := hide c0
  have HC1 := hide c1
  have HC2 := hide c2
  have HC3 := hide c3
  have HC4 := hide c4
  have HWR := hide wr
  have HL := hide h.le.lt
  have HND := hide h.le.nd
  -- what is in the front of a list of lent blocks is lent
  have HSL : Hid (∀ g, (g ∈ LR.map (·.1) ∨ g ∈ LC.map (·.1) ∨ g ∈ LI.map (·.1)) → who g = .lent) := fun g e => (h.le.lt g (by
    rcases e with e | e | e
    · exact List.mem_append.2 (Or.inr (List.mem_append.2 (Or.inr e)))
    · exact List.mem_append.2 (Or.inr (List.mem_append.2 (Or.inl e)))
    · exact List.mem_append.2 (Or.inl e))).2
  have HBN : Hid (who b = .hands) := h.hs.1.wb
  clear h hpt r0 r1 r2 r3 r4 l0 l1 l2 l3 l4 e0 e1 e2 e3 e4 wr c0 c1 c2 c3 c4
  have q0 : (LI.length : Int) ≤ 1000 := by omega
  have q1 : (LC.length : Int) ≤ 5864062014634 := by omega
  have q2 : (LR.length : Int) ≤ 1000 := by omega
  go_enter Tryz.func29, Tryz.ntmps29
  go_wp2_with fail
  go_loopw [3, 4, 5] (fun ok cv iv w' => ∃ i off : Nat, i ≤ LR.length ∧ ok = .bool true ∧ cv = .int .i64 off ∧ Hid (((LR.take i).map (·.2)).sum = off) ∧ iv = .int .i64 i ∧ Hid (Chg w w' (fun g => g ∈ (LR.take i).map (·.1)))) (fun _ _ iv _ => LR.length - (intOf iv).toNat)
  case atStart => exact ⟨0, 0, Nat.zero_le _, rfl, rfl, hide rfl, rfl, hide (Chg.refl _ _)⟩
  case round =>
    obtain ⟨i, off, hi, rfl, rfl, HOF, rfl, HG⟩ := hrel
    obtain ⟨w5, hw5⟩ : ∃ w5, w5 = wr := ⟨_, rfl⟩
    rw [← hw5] at HG ⊢
    clear hw5
    have hSl : ∀ g, g ∈ (LR.take i).map (·.1) → who g = .lent := fun g e => HSL.out g (Or.inl (by
      obtain ⟨x, hx, rfl⟩ := List.mem_map.1 e
      exact List.mem_map.2 ⟨x, List.mem_of_mem_take hx, rfl⟩))
    have hbS : ¬ b ∈ (LR.take i).map (·.1) := fun e => by have := hSl b e; rw [HBN.out] at this; cases this
    have k4 := HG.out.cell HC4.out hbS
    by_cases hlt : i < LR.length
    · obtain ⟨g4, cp4, e4, r4⟩ := row_cell HR4.out (i := i) (by simp [EL]; exact hlt)
      have hr4 : w.cell? ⟨g4, i, none⟩ = some (sl2 LR[i].1 LR[i].2) := by simpa [EL] using r4
      rw [HE4.out] at e4
      simp only [Value.slice.injEq] at e4
      obtain ⟨e4a, e4b, e4c⟩ := e4
      clear e4b
      subst e4a e4c
      have hw4 : who g4 = .lrow 4 := HWR.out 4 (by omega) g4 (by rw [HE4.out]; rfl)
      have k5 := HG.out.cell hr4 (fun e => by have := hSl g4 e; rw [hw4] at this; cases this)
      obtain ⟨hblk, hwg, hm20⟩ := HX.out.le.lr i hlt
      have hrin := HX.out.le.row_in i hlt
      have hgS : ¬ LR[i].1 ∈ (LR.take i).map (·.1) := by
        have hnd : (LR.map (·.1)).Nodup := by
          have := HND.out
          rw [List.nodup_append] at this
          have h2 := this.2.1
          rw [List.nodup_append] at h2
          exact h2.2.1
        have := nodup_take hnd (i := i) (by simpa using hlt)
        rw [← List.map_take] at this
        simpa using this
      have HTS : Hid (((LR.take (i + 1)).map (·.2)).sum = ((LR.take i).map (·.2)).sum + LR[i].2) := by
        unfold Hid; rw [List.take_succ_eq_append_getElem hlt, List.map_append, List.sum_append]; simp
      have HTF : Hid ((LR.take (i + 1)).map (·.1) = (LR.take i).map (·.1) ++ [LR[i].1]) := by
        unfold Hid; rw [List.take_succ_eq_append_getElem hlt, List.map_append]; rfl
      have hgm : LR[i].1 ∈ LR.map (·.1) := List.mem_map.2 ⟨_, List.getElem_mem hlt, rfl⟩
      have HGC : Hid (LR[i].1 ∉ LC.map (·.1)) := fun e => by
        have := HND.out
        rw [List.nodup_append] at this
        have h2 := this.2.1
        rw [List.nodup_append] at h2
        exact h2.2.2 _ e _ hgm rfl
      have HSC : Hid (∀ g, g ∈ (LR.take i).map (·.1) → g ∉ LC.map (·.1)) := fun g e e2 => by
        have := HND.out
        rw [List.nodup_append] at this
        have h2 := this.2.1
        rw [List.nodup_append] at h2
        obtain ⟨x, hx, rfl⟩ := List.mem_map.1 e
        exact h2.2.2 _ e2 _ (List.mem_map.2 ⟨x, List.mem_of_mem_take hx, rfl⟩) rfl
      have hOff := HOF.out
      rw [hOff] at hblk hrin HTS
      generalize LR[i] = x at *
      obtain ⟨g, m⟩ := x
      simp only at hr4 k5 hblk hwg hm20 hrin hgS HTS HTF HGC
      clear hr4 hgm hOff
      have hLl : ((LC.drop off).take m).length = m := by rw [List.length_take, List.length_drop]; omega
      have k6 : w5.cell? ⟨g, m, none⟩ = some (.slice none 0 0) := HG.out.cell (by simp only [World.cell?, hblk]; have := lentRows_end0 ((LC.drop off).take m); rw [hLl] at this; exact this) hgS
      have k7 : w5.cell? ⟨g, m + 1, none⟩ = some (.slice none 0 0) := HG.out.cell (by simp only [World.cell?, hblk]; have := lentRows_end1 ((LC.drop off).take m); rw [hLl] at this; exact this) hgS
      have HRW : Hid (∀ k (hk : k < m), w.cell? ⟨g, k, none⟩ = some (slC (LC[off + k]'(Nat.lt_of_lt_of_le (Nat.add_lt_add_left hk off) hrin)))) := fun k hk => by
        simp only [World.cell?, hblk]
        rw [lentRows_at _ k (by omega)]
        simp
      have HBK := hide hblk
      have t0 : (0 : Int) ≤ (i : Int) := by omega
      have t1 : (i : Int) < LR.length := by omega
      have t2 : (m : Int) ≤ 5864062014634 := by omega
      have t3 : (0 : Int) ≤ (m : Int) := by omega
      have t4 : (off : Int) + m ≤ LC.length := by omega
      have t5 : (m : Int) < (m : Int) + 2 := by omega
      have t6 : (m : Int) + 1 < (m : Int) + 2 := by omega
      unfold sl2 at k5
      clear hblk hLl
      go_wp2_with fail
      go_loopw [3, 4, 8] (fun ok cv kv w' => ∃ k q : Nat, k ≤ m ∧ ok = .bool true ∧ cv = .int .i64 q ∧ Hid (off + k = q) ∧ kv = .int .i64 k ∧ Hid (Chg w w' (fun g => g ∈ (LR.take i).map (·.1)))) (fun _ _ kv _ => m - (intOf kv).toNat)
      case atStart => exact ⟨0, off, Nat.zero_le _, rfl, rfl, hide rfl, rfl, HG⟩
      case round =>
        clear k4 k5 k6 k7
        obtain ⟨k, q, hk, rfl, rfl, HOK, rfl, HG7⟩ := hrel
        obtain ⟨w7, hw7⟩ : ∃ w7, w7 = wr := ⟨_, rfl⟩
        rw [← hw7] at HG7 ⊢
        clear hw7
        by_cases hkl : k < m
        · have hoq := HOK.out
          have hy : q < LC.length := by omega
          obtain ⟨g3, cp3, e3, r3⟩ := row_cell HR3.out (i := q) (by simp [EL]; omega)
          have hr3 : w.cell? ⟨g3, q, none⟩ = some LC[q].2.2 := by simpa [EL] using r3
          rw [HE3.out] at e3
          simp only [Value.slice.injEq] at e3
          obtain ⟨e3a, e3b, e3c⟩ := e3
          clear e3b
          subst e3a e3c
          have hw3 : who g3 = .lrow 3 := HWR.out 3 (by omega) g3 (by rw [HE3.out]; rfl)
          have m3 := HG7.out.cell HC3.out hbS
          have m4 := HG7.out.cell hr3 (fun e => by have := hSl g3 e; rw [hw3] at this; cases this)
          have m5 := HG7.out.cell (HRW.out k hkl) hgS
          simp only [hoq] at m5
          obtain ⟨y1, y2, y3, y4, y5⟩ := HX.out.le.lc LC[q] (List.getElem_mem hy)
          have hyS : ¬ LC[q].1 ∈ (LR.take i).map (·.1) := fun e => HSC.out _ e (List.mem_map.2 ⟨_, List.getElem_mem hy, rfl⟩)
          have hC : CodeAt w7 (slC LC[q]) LC[q].2.1 := lentCode_at (by rw [HG7.out.blk _ (Array.getElem?_eq_some_iff.1 y1).1 hyS]; exact y1) _
          have hD : CodeAt w7 LC[q].2.2 LC[q].2.1 := code_oth y3 y4 (fun g' h1 h2 => HG7.out.blk g' h1 (fun e => by have := hSl g' e; rw [h2] at this; cases this))
          generalize LC[q] = y at *
          obtain ⟨yg, yc, yv⟩ := y
          simp only [slC] at m4 m5 hC hD y5
          obtain ⟨ya, yb, rfl⟩ : ∃ ya yb, yv = .slice ya yc.length yb := ⟨_, _, hD.choose_spec.choose_spec.1⟩
          have callS : ∀ (d : Nat) (os : Array Obj), Calls Tryz.prog 54 #[.slice (some ⟨yg, 0, none⟩) yc.length (yc.length + 2), .slice ya yc.length yb] (Sort.grow (redrawn w7 d) os) fun e w'' => e = .returned (.bool true) ∧ ∃ p : Regrown, w'' = Sort.grow (redrawn w7 p.d) p.os := by
            intro d os
            have hbel := grown_below' (below_regrown w7 d os)
            refine Calls.regrown_of ((sameCode_m yc _ _ _ (CodeAt.pres hC (pres_grown hbel)) (CodeAt.pres hD (pres_grown hbel)) y5).mono ?_)
            rintro e w' ⟨rfl, hl⟩
            refine ⟨by simp, ?_⟩
            have := grown_of_like (r := none) hl
            exact ⟨this.os, this.tape, this.output, this.size, fun k hk => this.block k hk (by simp)⟩
          have n3 := fun d os => cell_regrown m3 d os
          have n4 := fun d os => cell_regrown m4 d os
          have n5 := fun d os => cell_regrown m5 d os
          have s0 : (0 : Int) ≤ (k : Int) := by omega
          have s1 : (k : Int) < m := by omega
          have s2 : (k : Int) < (m : Int) + 2 := by omega
          have s3 : (0 : Int) ≤ (q : Int) := by omega
          have s4 : (q : Int) < LC.length := by omega
          clear hC hD y1 y2 y3 y4 r3 hr3
          clear hoq hy hyS
          go_wp2_with fail
          refine wp_region_quiet_below (by kernel_rfl) (by kernel_rfl) ?_
          repeat (quiet_step (exact callS _ _))
          refine wpQuiet_nil ?_
          intro w8 hw8
          obtain ⟨⟨dq, osq⟩, hw8⟩ := hw8
          have hB8 := below_regrown w7 dq osq
          rw [← hw8] at hB8
          have HG8 := hide (HG7.out.below hB8)
          clear hw8 callS n3 n4 n5 hB8 m3 m4 m5
          go_wp2_with fail
          go_roundw
          case rel => exact ⟨k + 1, q + 1, by omega, rfl, by go_num, hide (by have := HOK.out; omega), by go_num, HG8⟩
          case measure => simp [intOf]; omega
        · have hkm : k = m := by omega
          have u1 : (m : Int) ≤ (k : Int) := by omega
          have HQ : Hid (((LR.take (i + 1)).map (·.2)).sum = q) := by unfold Hid; rw [HTS.out]; have := HOK.out; omega
          have HOV : Hid (Chg w w7 (fun g' => g' ∈ (LR.take (i + 1)).map (·.1)) ∧ ∃ R : Array Value, R.size = m + 2 ∧ w7.heap[g]? = some (.cells R 75 (0, 0))) := by
            refine ⟨HG7.out.mono (fun g' e => by rw [HTF.out]; exact List.mem_append.2 (Or.inl e)), _, ?_, by rw [HG7.out.blk g (Array.getElem?_eq_some_iff.1 HBK.out).1 hgS]; exact HBK.out⟩
            rw [lentRows_size, List.length_take, List.length_drop]; omega
          have hgin : g ∈ (LR.take (i + 1)).map (·.1) := by rw [HTF.out]; exact List.mem_append.2 (Or.inr (by simp))
          clear HG7 hkm HOK
          go_wp2_with fail
          go_loopw [10] (fun kv w' => ∃ k : Nat, k ≤ m + 2 ∧ kv = .int .i64 k ∧ Hid (Chg w w' (fun g' => g' ∈ (LR.take (i + 1)).map (·.1)) ∧ ∃ R : Array Value, R.size = m + 2 ∧ w'.heap[g]? = some (.cells R 75 (0, 0)))) (fun kv _ => m + 2 - (intOf kv).toNat)
          case atStart => exact ⟨0, by omega, rfl, HOV⟩
          case round =>
            clear HOV
            obtain ⟨k, hk, rfl, HO⟩ := hrel
            obtain ⟨w9, hw9⟩ : ∃ w9, w9 = wr := ⟨_, rfl⟩
            rw [← hw9] at HO ⊢
            clear hw9
            by_cases hk2 : k < m + 2
            · obtain ⟨hch, R, hRs, hRr⟩ := HO.out
              obtain ⟨u, y0⟩ : ∃ u, w9.cell? ⟨g, k, none⟩ = some u := ⟨R[k]'(by omega), by simp only [World.cell?, hRr]; exact Array.getElem?_eq_getElem _⟩
              have y1 : w9.frozen? ⟨g, k, none⟩ = false := by simp [World.frozen?, hRr]
              have HNX : Hid (Chg w (w9.setCell ⟨g, k, none⟩ (.slice none 0 0)) (fun g' => g' ∈ (LR.take (i + 1)).map (·.1)) ∧ ∃ R : Array Value, R.size = m + 2 ∧ (w9.setCell ⟨g, k, none⟩ (.slice none 0 0)).heap[g]? = some (.cells R 75 (0, 0))) :=
                ⟨hch.set hgin, R.setIfInBounds k (.slice none 0 0), by simpa using hRs, heap_setCell_same w9 g k R _ _ hRr⟩
              have z0 : (0 : Int) ≤ (k : Int) := by omega
              have z1 : (k : Int) < (m : Int) + 2 := by omega
              clear hRr hRs hch
              go_wp2_with fail
              go_roundw
              case rel => exact ⟨k + 1, by omega, by go_num, HNX⟩
              case measure => simp [intOf]; omega
            · have z1 : (m : Int) + 2 ≤ (k : Int) := by omega
              go_wp2_with fail
              go_roundw
              case rel => exact ⟨i + 1, q, by omega, rfl, rfl, HQ, by go_num, hide HO.out.1⟩
              case measure => simp [intOf]; omega
    · have ei : i = LR.length := by omega
      have t1 : (LR.length : Int) ≤ (i : Int) := by omega
      have HG4 : Hid (Chg w w5 (fun g => g ∈ LR.map (·.1) ∨ g ∈ (LC.take 0).map (·.1))) := by
        have := HG.out
        rw [ei, List.take_length] at this
        exact this.mono (fun g e => Or.inl e)
      clear HG hSl hbS HOF ei
      go_wp2_with fail
      go_loopw [3, 11] (fun ok iv w' => ∃ j : Nat, j ≤ LC.length ∧ ok = .bool true ∧ iv = .int .i64 j ∧ Hid (Chg w w' (fun g => g ∈ LR.map (·.1) ∨ g ∈ (LC.take j).map (·.1)))) (fun _ iv _ => LC.length - (intOf iv).toNat)
      case atStart => exact ⟨0, Nat.zero_le _, rfl, rfl, HG4⟩
      case round =>
        clear HG4 k4
        obtain ⟨j, hj, rfl, rfl, HG⟩ := hrel
        obtain ⟨w7, hw7⟩ : ∃ w7, w7 = wr := ⟨_, rfl⟩
        rw [← hw7] at HG ⊢
        clear hw7
        have hSl : ∀ g, (g ∈ LR.map (·.1) ∨ g ∈ (LC.take j).map (·.1)) → who g = .lent := fun g e => HSL.out g (by
          rcases e with e | e
          · exact Or.inl e
          · obtain ⟨x, hx, rfl⟩ := List.mem_map.1 e
            exact Or.inr (Or.inl (List.mem_map.2 ⟨x, List.mem_of_mem_take hx, rfl⟩)))
        have hbS : ¬ (b ∈ LR.map (·.1) ∨ b ∈ (LC.take j).map (·.1)) := fun e => by have := hSl b e; rw [HBN.out] at this; cases this
        have k2 := HG.out.cell HC2.out hbS
        by_cases hlt : j < LC.length
        · obtain ⟨g2, cp2, e2, r2⟩ := row_cell HR2.out (i := j) (by simp [EL]; exact hlt)
          have hr2 : w.cell? ⟨g2, j, none⟩ = some (sl2 LC[j].1 LC[j].2.1.length) := by simpa [EL] using r2
          rw [HE2.out] at e2
          simp only [Value.slice.injEq] at e2
          obtain ⟨e2a, e2b, e2c⟩ := e2
          clear e2b
          subst e2a e2c
          obtain ⟨g3, cp3, e3, r3⟩ := row_cell HR3.out (i := j) (by simp [EL]; exact hlt)
          have hr3 : w.cell? ⟨g3, j, none⟩ = some LC[j].2.2 := by simpa [EL] using r3
          rw [HE3.out] at e3
          simp only [Value.slice.injEq] at e3
          obtain ⟨e3a, e3b, e3c⟩ := e3
          clear e3b
          subst e3a e3c
          have hw2 : who g2 = .lrow 2 := HWR.out 2 (by omega) g2 (by rw [HE2.out]; rfl)
          have hw3 : who g3 = .lrow 3 := HWR.out 3 (by omega) g3 (by rw [HE3.out]; rfl)
          have m2 := HG.out.cell hr2 (fun e => by have := hSl g2 e; rw [hw2] at this; cases this)
          have m3 := HG.out.cell HC3.out hbS
          have m4 := HG.out.cell hr3 (fun e => by have := hSl g3 e; rw [hw3] at this; cases this)
          obtain ⟨y1, y2, y3, y4, y5⟩ := HX.out.le.lc LC[j] (List.getElem_mem hlt)
          have hyS : ¬ (LC[j].1 ∈ LR.map (·.1) ∨ LC[j].1 ∈ (LC.take j).map (·.1)) := by
            have hnd := HND.out
            rw [List.nodup_append] at hnd
            have h2 := hnd.2.1
            rw [List.nodup_append] at h2
            rintro (e | e)
            · exact h2.2.2 _ (List.mem_map.2 ⟨_, List.getElem_mem hlt, rfl⟩) _ e rfl
            · have := nodup_take h2.1 (i := j) (by simpa using hlt)
              rw [← List.map_take] at this
              exact this (by simpa using e)
          have hblk7 : w7.heap[LC[j].1]? = some (.cells (lentCode LC[j].2.1) 74 (0, 0)) := by rw [HG.out.blk _ (Array.getElem?_eq_some_iff.1 y1).1 hyS]; exact y1
          have hC : CodeAt w7 (slC LC[j]) LC[j].2.1 := lentCode_at hblk7 _
          have hD : CodeAt w7 LC[j].2.2 LC[j].2.1 := code_oth y3 y4 (fun g' h1 h2 => HG.out.blk g' h1 (fun e => by have := hSl g' e; rw [h2] at this; cases this))
          have HTF : Hid ((LC.take (j + 1)).map (·.1) = (LC.take j).map (·.1) ++ [LC[j].1]) := by
            unfold Hid; rw [List.take_succ_eq_append_getElem hlt, List.map_append]; rfl
          generalize LC[j] = y at *
          obtain ⟨yg, yc, yv⟩ := y
          simp only [slC, sl2] at m2 m4 hC hD y5 hblk7 HTF
          obtain ⟨ya, yb, rfl⟩ : ∃ ya yb, yv = .slice ya yc.length yb := ⟨_, _, hD.choose_spec.choose_spec.1⟩
          have callS : ∀ (d : Nat) (os : Array Obj), Calls Tryz.prog 54 #[.slice (some ⟨yg, 0, none⟩) yc.length (yc.length + 2), .slice ya yc.length yb] (Sort.grow (redrawn w7 d) os) fun e w'' => e = .returned (.bool true) ∧ ∃ p : Regrown, w'' = Sort.grow (redrawn w7 p.d) p.os := by
            intro d os
            have hbel := grown_below' (below_regrown w7 d os)
            refine Calls.regrown_of ((sameCode_m yc _ _ _ (CodeAt.pres hC (pres_grown hbel)) (CodeAt.pres hD (pres_grown hbel)) y5).mono ?_)
            rintro e w' ⟨rfl, hl⟩
            refine ⟨by simp, ?_⟩
            have := grown_of_like (r := none) hl
            exact ⟨this.os, this.tape, this.output, this.size, fun k hk => this.block k hk (by simp)⟩
          have n3 := fun d os => cell_regrown m3 d os
          have n4 := fun d os => cell_regrown m4 d os
          have s0 : (0 : Int) ≤ (j : Int) := by omega
          have s1 : (j : Int) < LC.length := by omega
          have s2 : (yc.length : Int) ≤ 4398046510976 := by omega
          have s3 : (0 : Int) ≤ (yc.length : Int) := by omega
          have s4 : (yc.length : Int) ≤ (yc.length : Int) + 2 := by omega
          have s5 : (yc.length : Int) < (yc.length : Int) + 2 := by omega
          have s6 : (yc.length : Int) + 1 < (yc.length : Int) + 2 := by omega
          have HB7 := hide hblk7
          clear hC hD y1 y2 y3 y4 r2 r3 hr2 hr3 hblk7 hyS
          go_wp2_with fail
          refine wp_region_quiet_below (by kernel_rfl) (by kernel_rfl) ?_
          repeat (quiet_step (exact callS _ _))
          refine wpQuiet_nil ?_
          intro w8 hw8
          obtain ⟨⟨dq, osq⟩, hw8⟩ := hw8
          have hB8 := below_regrown w7 dq osq
          rw [← hw8] at hB8
          have hblk8 : w8.heap[yg]? = some (.cells (lentCode yc) 74 (0, 0)) := by rw [hB8.block yg (Array.getElem?_eq_some_iff.1 HB7.out).1]; exact HB7.out
          have p0 : w8.cell? ⟨yg, yc.length * 4, none⟩ = some (.int .i64 (-77000000)) := by simp only [World.cell?, hblk8]; exact (lentCode_end yc 0 (by omega)).1
          have p1 : w8.cell? ⟨yg, yc.length * 4 + 1, none⟩ = some (.int .i64 0) := by simp only [World.cell?, hblk8]; exact (lentCode_end yc 1 (by omega)).1
          have p2 : w8.cell? ⟨yg, yc.length * 4 + 2, none⟩ = some (.int .i64 0) := by simp only [World.cell?, hblk8]; exact (lentCode_end yc 2 (by omega)).1
          have p3 : w8.cell? ⟨yg, yc.length * 4 + 3, none⟩ = some (.int .i64 0) := by simp only [World.cell?, hblk8]; exact (lentCode_end yc 3 (by omega)).1
          have p4 : w8.cell? ⟨yg, (yc.length + 1) * 4, none⟩ = some (.int .i64 (-77000000)) := by simp only [World.cell?, hblk8]; exact (lentCode_end yc 0 (by omega)).2
          have p5 : w8.cell? ⟨yg, (yc.length + 1) * 4 + 1, none⟩ = some (.int .i64 0) := by simp only [World.cell?, hblk8]; exact (lentCode_end yc 1 (by omega)).2
          have p6 : w8.cell? ⟨yg, (yc.length + 1) * 4 + 2, none⟩ = some (.int .i64 0) := by simp only [World.cell?, hblk8]; exact (lentCode_end yc 2 (by omega)).2
          have p7 : w8.cell? ⟨yg, (yc.length + 1) * 4 + 3, none⟩ = some (.int .i64 0) := by simp only [World.cell?, hblk8]; exact (lentCode_end yc 3 (by omega)).2
          have HOV : Hid (Chg w w8 (fun g => g ∈ LR.map (·.1) ∨ g ∈ (LC.take (j + 1)).map (·.1)) ∧ ∃ R : Array Value, R.size = (yc.length + 2) * 4 ∧ w8.heap[yg]? = some (.cells R 74 (0, 0))) :=
            ⟨(HG.out.below hB8).mono (fun g e => e.imp id (fun e => by rw [HTF.out]; exact List.mem_append.2 (Or.inl e))), _, lentCode_size yc, hblk8⟩
          have hgin : yg ∈ LR.map (·.1) ∨ yg ∈ (LC.take (j + 1)).map (·.1) := Or.inr (by rw [HTF.out]; exact List.mem_append.2 (Or.inr (by simp)))
          clear hw8 callS n3 n4 hB8 m2 m3 m4 k2 hblk8 HB7
          go_wp2_with fail
          clear p0 p1 p2 p3 p4 p5 p6 p7
          go_loopw [15] (fun kv w' => ∃ k : Nat, k ≤ yc.length + 2 ∧ kv = .int .i64 k ∧ Hid (Chg w w' (fun g => g ∈ LR.map (·.1) ∨ g ∈ (LC.take (j + 1)).map (·.1)) ∧ ∃ R : Array Value, R.size = (yc.length + 2) * 4 ∧ w'.heap[yg]? = some (.cells R 74 (0, 0)))) (fun kv _ => yc.length + 2 - (intOf kv).toNat)
          case atStart => exact ⟨0, by omega, rfl, HOV⟩
          case round =>
            clear HOV
            obtain ⟨k, hk, rfl, HO⟩ := hrel
            obtain ⟨w9, hw9⟩ : ∃ w9, w9 = wr := ⟨_, rfl⟩
            rw [← hw9] at HO ⊢
            clear hw9
            by_cases hk2 : k < yc.length + 2
            · obtain ⟨hch, R, hRs, hRr⟩ := HO.out
              obtain ⟨u0, y0⟩ : ∃ u, w9.cell? ⟨yg, k * 4, none⟩ = some u := ⟨R[k * 4]'(by omega), by simp only [World.cell?, hRr]; exact Array.getElem?_eq_getElem _⟩
              obtain ⟨u1, y1⟩ : ∃ u, w9.cell? ⟨yg, k * 4 + 1, none⟩ = some u := ⟨R[k * 4 + 1]'(by omega), by simp only [World.cell?, hRr]; exact Array.getElem?_eq_getElem _⟩
              obtain ⟨u2, y2⟩ : ∃ u, w9.cell? ⟨yg, k * 4 + 2, none⟩ = some u := ⟨R[k * 4 + 2]'(by omega), by simp only [World.cell?, hRr]; exact Array.getElem?_eq_getElem _⟩
              obtain ⟨u3, y3⟩ : ∃ u, w9.cell? ⟨yg, k * 4 + 3, none⟩ = some u := ⟨R[k * 4 + 3]'(by omega), by simp only [World.cell?, hRr]; exact Array.getElem?_eq_getElem _⟩
              have v0 : w9.frozen? ⟨yg, k * 4, none⟩ = false := by simp [World.frozen?, hRr]
              have v1 : w9.frozen? ⟨yg, k * 4 + 1, none⟩ = false := by simp [World.frozen?, hRr]
              have v2 : w9.frozen? ⟨yg, k * 4 + 2, none⟩ = false := by simp [World.frozen?, hRr]
              have v3 : w9.frozen? ⟨yg, k * 4 + 3, none⟩ = false := by simp [World.frozen?, hRr]
              have HNX : Hid (Chg w ((((w9.setCell ⟨yg, k * 4, none⟩ (.int .i64 1)).setCell ⟨yg, k * 4 + 1, none⟩ (.int .i64 0)).setCell ⟨yg, k * 4 + 2, none⟩ (.int .i64 0)).setCell ⟨yg, k * 4 + 3, none⟩ (.int .i64 99)) (fun g => g ∈ LR.map (·.1) ∨ g ∈ (LC.take (j + 1)).map (·.1)) ∧
                  ∃ R : Array Value, R.size = (yc.length + 2) * 4 ∧ ((((w9.setCell ⟨yg, k * 4, none⟩ (.int .i64 1)).setCell ⟨yg, k * 4 + 1, none⟩ (.int .i64 0)).setCell ⟨yg, k * 4 + 2, none⟩ (.int .i64 0)).setCell ⟨yg, k * 4 + 3, none⟩ (.int .i64 99)).heap[yg]? = some (.cells R 74 (0, 0))) := by
                refine ⟨(((hch.set hgin).set hgin).set hgin).set hgin, _, ?_, heap_setCell_same _ yg _ _ _ _ (heap_setCell_same _ yg _ _ _ _ (heap_setCell_same _ yg _ _ _ _ (heap_setCell_same w9 yg _ R _ _ hRr)))⟩
                simpa using hRs
              have z0 : (0 : Int) ≤ (k : Int) := by omega
              have z1 : (k : Int) < (yc.length : Int) + 2 := by omega
              clear hRr hRs hch
              go_wp2_with fail
              go_roundw
              case rel => exact ⟨k + 1, by omega, by go_num, HNX⟩
              case measure => simp [intOf]; omega
            · have z1 : (yc.length : Int) + 2 ≤ (k : Int) := by omega
              go_wp2_with fail
              go_roundw
              case rel => exact ⟨j + 1, by omega, rfl, by go_num, hide HO.out.1⟩
              case measure => simp [intOf]; omega
        · have ej : j = LC.length := by omega
          have t2 : (LC.length : Int) ≤ (j : Int) := by omega
          have HG6 : Hid (Chg w w7 (fun g => (g ∈ LR.map (·.1) ∨ g ∈ LC.map (·.1)) ∨ g ∈ (LI.take 0).map (·.1))) := by
            have := HG.out
            rw [ej, List.take_length] at this
            exact this.mono (fun g e => Or.inl e)
          clear HG hSl hbS ej
          go_wp2_with fail
          go_loopw [3, 16] (fun ok iv w' => ∃ j : Nat, j ≤ LI.length ∧ ok = .bool true ∧ iv = .int .i64 j ∧ Hid (Chg w w' (fun g => (g ∈ LR.map (·.1) ∨ g ∈ LC.map (·.1)) ∨ g ∈ (LI.take j).map (·.1)))) (fun _ iv _ => LI.length - (intOf iv).toNat)
          case atStart => exact ⟨0, Nat.zero_le _, rfl, rfl, HG6⟩
          case round =>
            clear HG6 k2
            obtain ⟨j, hj, rfl, rfl, HG⟩ := hrel
            obtain ⟨w7, hw7⟩ : ∃ w7, w7 = wr := ⟨_, rfl⟩
            rw [← hw7] at HG ⊢
            clear hw7
            have hSl : ∀ g, ((g ∈ LR.map (·.1) ∨ g ∈ LC.map (·.1)) ∨ g ∈ (LI.take j).map (·.1)) → who g = .lent := fun g e => HSL.out g (by
              rcases e with (e | e) | e
              · exact Or.inl e
              · exact Or.inr (Or.inl e)
              · obtain ⟨x, hx, rfl⟩ := List.mem_map.1 e
                exact Or.inr (Or.inr (List.mem_map.2 ⟨x, List.mem_of_mem_take hx, rfl⟩)))
            have hbS : ¬ ((b ∈ LR.map (·.1) ∨ b ∈ LC.map (·.1)) ∨ b ∈ (LI.take j).map (·.1)) := fun e => by have := hSl b e; rw [HBN.out] at this; cases this
            have k0 := HG.out.cell HC0.out hbS
            by_cases hlt : j < LI.length
            · obtain ⟨g2, cp2, e2, r2⟩ := row_cell HR0.out (i := j) (by simp [EL]; exact hlt)
              have hr2 : w.cell? ⟨g2, j, none⟩ = some (sl2 LI[j].1 LI[j].2.1.length) := by simpa [EL] using r2
              rw [HE0.out] at e2
              simp only [Value.slice.injEq] at e2
              obtain ⟨e2a, e2b, e2c⟩ := e2
              clear e2b
              subst e2a e2c
              obtain ⟨g3, cp3, e3, r3⟩ := row_cell HR1.out (i := j) (by simp [EL]; exact hlt)
              have hr3 : w.cell? ⟨g3, j, none⟩ = some LI[j].2.2 := by simpa [EL] using r3
              rw [HE1.out] at e3
              simp only [Value.slice.injEq] at e3
              obtain ⟨e3a, e3b, e3c⟩ := e3
              clear e3b
              subst e3a e3c
              have hw2 : who g2 = .lrow 0 := HWR.out 0 (by omega) g2 (by rw [HE0.out]; rfl)
              have hw3 : who g3 = .lrow 1 := HWR.out 1 (by omega) g3 (by rw [HE1.out]; rfl)
              have m2 := HG.out.cell hr2 (fun e => by have := hSl g2 e; rw [hw2] at this; cases this)
              have m3 := HG.out.cell HC1.out hbS
              have m4 := HG.out.cell hr3 (fun e => by have := hSl g3 e; rw [hw3] at this; cases this)
              obtain ⟨y1, y2, y3, y4, y5⟩ := HX.out.le.li LI[j] (List.getElem_mem hlt)
              have hyS : ¬ ((LI[j].1 ∈ LR.map (·.1) ∨ LI[j].1 ∈ LC.map (·.1)) ∨ LI[j].1 ∈ (LI.take j).map (·.1)) := by
                have hnd := HND.out
                rw [List.nodup_append] at hnd
                have hm : LI[j].1 ∈ LI.map (·.1) := List.mem_map.2 ⟨_, List.getElem_mem hlt, rfl⟩
                rintro ((e | e) | e)
                · exact hnd.2.2 _ hm _ (List.mem_append.2 (Or.inr e)) rfl
                · exact hnd.2.2 _ hm _ (List.mem_append.2 (Or.inl e)) rfl
                · have := nodup_take hnd.1 (i := j) (by simpa using hlt)
                  rw [← List.map_take] at this
                  exact this (by simpa using e)
              have hblk7 : w7.heap[LI[j].1]? = some (.cells (lentRow LI[j].2.1) 3 (0, 0)) := by rw [HG.out.blk _ (Array.getElem?_eq_some_iff.1 y1).1 hyS]; exact y1
              have hC := lent_ints hblk7
              have hD : IntsAt w7.heap.size w7 LI[j].2.2 LI[j].2.1 := ints_oth y3 y4 HG.out.size (fun g' h1 h2 => HG.out.blk g' h1 (fun e => by have := hSl g' e; rw [h2] at this; cases this))
              have HTF : Hid ((LI.take (j + 1)).map (·.1) = (LI.take j).map (·.1) ++ [LI[j].1]) := by
                unfold Hid; rw [List.take_succ_eq_append_getElem hlt, List.map_append]; rfl
              generalize LI[j] = y at *
              obtain ⟨yg, yc, yv⟩ := y
              simp only [sl2] at m2 m4 hC hD y5 hblk7 HTF
              obtain ⟨ya, yb, rfl⟩ := hD.form
              have callS : ∀ (d : Nat) (os : Array Obj), Calls Tryz.prog 45 #[.slice (some ⟨yg, 0, none⟩) yc.length (yc.length + 2), .slice ya yc.length yb] (Sort.grow (redrawn w7 d) os) fun e w'' => e = .returned (.bool true) ∧ ∃ p : Regrown, w'' = Sort.grow (redrawn w7 p.d) p.os := by
                intro d os
                have hbel := grown_below' (below_regrown w7 d os)
                refine Calls.regrown_of ((same_m yc yc _ _ _ ((hC.pres (pres_grown hbel)).mono hbel.size) ((hD.pres (pres_grown hbel)).mono hbel.size) (by omega)).mono ?_)
                rintro e w' ⟨rfl, hl⟩
                refine ⟨by simp, ?_⟩
                have := grown_of_like (r := none) hl
                exact ⟨this.os, this.tape, this.output, this.size, fun k hk => this.block k hk (by simp)⟩
              have n3 := fun d os => cell_regrown m3 d os
              have n4 := fun d os => cell_regrown m4 d os
              have s0 : (0 : Int) ≤ (j : Int) := by omega
              have s1 : (j : Int) < LI.length := by omega
              have s2 : (yc.length : Int) ≤ 17592186043904 := by omega
              have s3 : (0 : Int) ≤ (yc.length : Int) := by omega
              have s4 : (yc.length : Int) ≤ (yc.length : Int) + 2 := by omega
              have s5 : (yc.length : Int) < (yc.length : Int) + 2 := by omega
              have s6 : (yc.length : Int) + 1 < (yc.length : Int) + 2 := by omega
              have HB7 := hide hblk7
              clear hC hD y1 y2 y3 y4 r2 r3 hr2 hr3 hblk7 hyS
              go_wp2_with fail
              refine wp_region_quiet_below (by kernel_rfl) (by kernel_rfl) ?_
              repeat (quiet_step (exact callS _ _))
              refine wpQuiet_nil ?_
              intro w8 hw8
              obtain ⟨⟨dq, osq⟩, hw8⟩ := hw8
              have hB8 := below_regrown w7 dq osq
              rw [← hw8] at hB8
              have hblk8 : w8.heap[yg]? = some (.cells (lentRow yc) 3 (0, 0)) := by rw [hB8.block yg (Array.getElem?_eq_some_iff.1 HB7.out).1]; exact HB7.out
              have p0 : w8.cell? ⟨yg, yc.length, none⟩ = some (.int .i64 (-77000000)) := by simp only [World.cell?, hblk8]; exact lentRow_ink0 yc
              have p1 : w8.cell? ⟨yg, yc.length + 1, none⟩ = some (.int .i64 (-77000000)) := by simp only [World.cell?, hblk8]; exact lentRow_ink1 yc
              have HOV : Hid (Chg w w8 (fun g => (g ∈ LR.map (·.1) ∨ g ∈ LC.map (·.1)) ∨ g ∈ (LI.take (j + 1)).map (·.1)) ∧ ∃ R : Array Value, R.size = yc.length + 2 ∧ w8.heap[yg]? = some (.cells R 3 (0, 0))) :=
                ⟨(HG.out.below hB8).mono (fun g e => e.imp id (fun e => by rw [HTF.out]; exact List.mem_append.2 (Or.inl e))), _, lentRow_len yc, hblk8⟩
              have hgin : (yg ∈ LR.map (·.1) ∨ yg ∈ LC.map (·.1)) ∨ yg ∈ (LI.take (j + 1)).map (·.1) := Or.inr (by rw [HTF.out]; exact List.mem_append.2 (Or.inr (by simp)))
              clear hw8 callS n3 n4 hB8 m2 m3 m4 k0 hblk8 HB7
              go_wp2_with fail
              clear p0 p1
              go_loopw [20] (fun kv w' => ∃ k : Nat, k ≤ yc.length + 2 ∧ kv = .int .i64 k ∧ Hid (Chg w w' (fun g => (g ∈ LR.map (·.1) ∨ g ∈ LC.map (·.1)) ∨ g ∈ (LI.take (j + 1)).map (·.1)) ∧ ∃ R : Array Value, R.size = yc.length + 2 ∧ w'.heap[yg]? = some (.cells R 3 (0, 0)))) (fun kv _ => yc.length + 2 - (intOf kv).toNat)
              case atStart => exact ⟨0, by omega, rfl, HOV⟩
              case round =>
                clear HOV
                obtain ⟨k, hk, rfl, HO⟩ := hrel
                obtain ⟨w9, hw9⟩ : ∃ w9, w9 = wr := ⟨_, rfl⟩
                rw [← hw9] at HO ⊢
                clear hw9
                by_cases hk2 : k < yc.length + 2
                · obtain ⟨hch, R, hRs, hRr⟩ := HO.out
                  obtain ⟨u0, y0⟩ : ∃ u, w9.cell? ⟨yg, k, none⟩ = some u := ⟨R[k]'(by omega), by simp only [World.cell?, hRr]; exact Array.getElem?_eq_getElem _⟩
                  have v0 : w9.frozen? ⟨yg, k, none⟩ = false := by simp [World.frozen?, hRr]
                  have HNX : Hid (Chg w (w9.setCell ⟨yg, k, none⟩ (.int .i64 3)) (fun g => (g ∈ LR.map (·.1) ∨ g ∈ LC.map (·.1)) ∨ g ∈ (LI.take (j + 1)).map (·.1)) ∧ ∃ R : Array Value, R.size = yc.length + 2 ∧ (w9.setCell ⟨yg, k, none⟩ (.int .i64 3)).heap[yg]? = some (.cells R 3 (0, 0))) :=
                    ⟨hch.set hgin, R.setIfInBounds k (.int .i64 3), by simpa using hRs, heap_setCell_same w9 yg k R _ _ hRr⟩
                  have z0 : (0 : Int) ≤ (k : Int) := by omega
                  have z1 : (k : Int) < (yc.length : Int) + 2 := by omega
                  clear hRr hRs hch
                  go_wp2_with fail
                  go_roundw
                  case rel => exact ⟨k + 1, by omega, by go_num, HNX⟩
                  case measure => simp [intOf]; omega
                · have z1 : (yc.length : Int) + 2 ≤ (k : Int) := by omega
                  go_wp2_with fail
                  go_roundw
                  case rel => exact ⟨j + 1, by omega, rfl, by go_num, hide HO.out.1⟩
                  case measure => simp [intOf]; omega
            · have t3 : (LI.length : Int) ≤ (j : Int) := by omega
              have hHB : HB w7 b f := HX.out.hs.1.blk.same (HG.out.blk b HX.out.low.2 hbS)
              have HFIN := hide (HX.out.free HG.out hSl)
              have x4 : w7.cell? ⟨b, 4, none⟩ = some (f 4) := hHB.cell (by omega)
              have x2 : w7.cell? ⟨b, 2, none⟩ = some (f 2) := hHB.cell (by omega)
              have x3 : w7.cell? ⟨b, 3, none⟩ = some (f 3) := hHB.cell (by omega)
              have x0 : w7.cell? ⟨b, 0, none⟩ = some (f 0) := hHB.cell (by omega)
              have x1 : w7.cell? ⟨b, 1, none⟩ = some (f 1) := hHB.cell (by omega)
              rw [HE0.out] at x0
              have f4 := hHB.frozen 4
              have f2 := hHB.frozen 2
              have f3 := hHB.frozen 3
              have f0 := hHB.frozen 0
              have f1 := hHB.frozen 1
              clear hHB k0
              go_wp2_with fail
              go_ret
              obtain ⟨f', h1, h2⟩ := HFIN.out
              exact ⟨rfl, ⟨f', h1⟩, h2⟩

end Go.Proofs.YtklenjmfalljgaaGreatDoor
