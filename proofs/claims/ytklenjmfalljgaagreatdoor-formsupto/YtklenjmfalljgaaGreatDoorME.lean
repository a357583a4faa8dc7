/- The texts Hgm Hgn Hgd0 Hgv Rfa Rfb Rfc. -/
import Derived.Test.YtklenjmfalljgaaGreatDoorMD
import Derived.ChangeKeysEq
import Derived.Deep.DeepCutAuto
import Derived.Deep.Cut

/- The walk of the hands' back, whole. -/
namespace Go.Proofs.YtklenjmfalljgaaGreatDoor
open Go.RowKit
attribute [local go_sem] Go.World.cell?_alloc_some

theorem row_cell {w : World} {B : Nat} {T : TypeId} {v : Value} {E : List Value} (h : w.ownsRow B T 1 v E.length E) {i : Nat} (hi : i < E.length) : ∃ g cap, v = .slice (some ⟨g, 0, none⟩) E.length cap ∧ w.cell? ⟨g, i, none⟩ = some E[i] := by
  obtain ⟨g, cap, e, _, _⟩ := h.form (by omega)
  refine ⟨g, cap, e, ?_⟩
  rw [e] at h
  rw [h.cellAt i (by omega), List.getElem?_eq_getElem hi]
theorem nodup_take {l : List Nat} (h : l.Nodup) {i : Nat} (hi : i < l.length) : l[i] ∉ l.take i := by
  intro hm
  have h2 := h
  rw [← List.take_append_drop i l, List.nodup_append] at h2
  exact h2.2.2 _ hm _ (by rw [List.drop_eq_getElem_cons hi]; exact List.mem_cons_self) rfl

set_option maxRecDepth 100000 in
set_option maxHeartbeats 4000000 in
theorem back_g (B : Nat) (w : World) (b : Nat) (who : Nat → Role) (n : Int) (f : Nat → Value) (K : Nat → List (Value × Int)) (LI : List (Nat × List Int × Value)) (LC : List (Nat × List Ins × Value)) (LR : List (Nat × Nat))
    (h : Lx B w b who n f K (EL LI LC LR) LI LC LR 0) (hLI : LI.length ≤ 1000) (hLC : LC.length ≤ 6000000) (hLR : LR.length ≤ 1000) :
    Calls Tryz.prog 29 #[pt b] w fun e w' => e = .returned (.bool true) ∧ ∃ f', Hz B w' b who n f' K ∧ Fr w w' who who (fun _ => False) := by
  have HX := hide h
  have hpt : pt b = .pointer (some ⟨b, 0, none⟩) := rfl
  rw [hpt]
  have c0 := h.cell (o := 0) (by omega)
  have c1 := h.cell (o := 1) (by omega)
  have c2 := h.cell (o := 2) (by omega)
  have c3 := h.cell (o := 3) (by omega)
  have c4 := h.cell (o := 4) (by omega)
  have r0 : w.ownsRow B 25 1 (f 0) (EL LI LC LR 0).length (EL LI LC LR 0) := h.lr.r 0 (by omega)
  have r1 : w.ownsRow B 25 1 (f 1) (EL LI LC LR 1).length (EL LI LC LR 1) := h.lr.r 1 (by omega)
  have r2 : w.ownsRow B 75 1 (f 2) (EL LI LC LR 2).length (EL LI LC LR 2) := h.lr.r 2 (by omega)
  have r3 : w.ownsRow B 75 1 (f 3) (EL LI LC LR 3).length (EL LI LC LR 3) := h.lr.r 3 (by omega)
  have r4 : w.ownsRow B 22 1 (f 4) (EL LI LC LR 4).length (EL LI LC LR 4) := h.lr.r 4 (by omega)
  have l0 : (EL LI LC LR 0).length = LI.length := by simp [EL]
  have l1 : (EL LI LC LR 1).length = LI.length := by simp [EL]
  have l2 : (EL LI LC LR 2).length = LC.length := by simp [EL]
  have l3 : (EL LI LC LR 3).length = LC.length := by simp [EL]
  have l4 : (EL LI LC LR 4).length = LR.length := by simp [EL]
  have wr := h.lr.wr
  have HR0 := hide r0
  have HR1 := hide r1
  have HR2 := hide r2
  have HR3 := hide r3
  have HR4 := hide r4
  obtain ⟨a0, b0, d0, e0⟩ := owns_form r0
  obtain ⟨a1, b1, d1, e1⟩ := owns_form r1
  obtain ⟨a2, b2, d2, e2⟩ := owns_form r2
  obtain ⟨a3, b3, d3, e3⟩ := owns_form r3
  obtain ⟨a4, b4, d4, e4⟩ := owns_form r4
  have hb0 : b0 = LI.length := by rw [e0] at r0; have := owns_lenq r0; omega
  have hb1 : b1 = LI.length := by rw [e1] at r1; have := owns_lenq r1; omega
  have hb2 : b2 = LC.length := by rw [e2] at r2; have := owns_lenq r2; omega
  have hb3 : b3 = LC.length := by rw [e3] at r3; have := owns_lenq r3; omega
  have hb4 : b4 = LR.length := by rw [e4] at r4; have := owns_lenq r4; omega
  subst hb0 hb1 hb2 hb3 hb4
  rw [e0] at c0
  rw [e1] at c1
  rw [e2] at c2
  rw [e3] at c3
  rw [e4] at c4
  have HE0 := hide e0
  have HE1 := hide e1
  have HE2 := hide e2
  have HE3 := hide e3
  have HE4 := hide e4
  have HC0 := hide c0
  have HC1 := hide c1
  have HC2 := hide c2
  have HC3 := hide c3
  have HC4 := hide c4
  have HWR := hide wr
  have HL := hide h.le.lt
  have HND := hide h.le.nd
  -- what is in the front of a list of lent blocks is lent
  have HSL : Hid (∀ g, (g ∈ LR.map (·.1) ∨ g ∈ LC.map (·.1) ∨ g ∈ LI.map (·.1)) → who g = .lent) := fun g e => (h.le.lt g (by
    rcases e with e | e | e
    · exact List.mem_append.2 (Or.inr (List.mem_append.2 (Or.inr e)))
    · exact List.mem_append.2 (Or.inr (List.mem_append.2 (Or.inl e)))
    · exact List.mem_append.2 (Or.inl e))).2
  have HBN : Hid (who b = .hands) := h.hs.1.wb
  clear h hpt r0 r1 r2 r3 r4 l0 l1 l2 l3 l4 e0 e1 e2 e3 e4 wr c0 c1 c2 c3 c4
  have q0 : (LI.length : Int) ≤ 1000 := by omega
  have q1 : (LC.length : Int) ≤ 6000000 := by omega
  have q2 : (LR.length : Int) ≤ 1000 := by omega
  go_enter Tryz.func29, Tryz.ntmps29
  go_wp2_with fail
  go_loopw [3, 4, 5] (fun ok cv iv w' => ∃ i off : Nat, i ≤ LR.length ∧ ok = .bool true ∧ cv = .int .i64 off ∧ Hid (((LR.take i).map (·.2)).sum = off) ∧ iv = .int .i64 i ∧ Hid (Chg w w' (fun g => g ∈ (LR.take i).map (·.1)))) (fun _ _ iv _ => LR.length - (intOf iv).toNat)
  case atStart => exact ⟨0, 0, Nat.zero_le _, rfl, rfl, hide rfl, rfl, hide (Chg.refl _ _)⟩
  case round =>
    obtain ⟨i, off, hi, rfl, rfl, HOF, rfl, HG⟩ := hrel
    obtain ⟨w5, hw5⟩ : ∃ w5, w5 = wr := ⟨_, rfl⟩
    rw [← hw5] at HG ⊢
    clear hw5
    have hSl : ∀ g, g ∈ (LR.take i).map (·.1) → who g = .lent := fun g e => HSL.out g (Or.inl (by
      obtain ⟨x, hx, rfl⟩ := List.mem_map.1 e
      exact List.mem_map.2 ⟨x, List.mem_of_mem_take hx, rfl⟩))
    have hbS : ¬ b ∈ (LR.take i).map (·.1) := fun e => by have := hSl b e; rw [HBN.out] at this; cases this
    have k4 := HG.out.cell HC4.out hbS
    by_cases hlt : i < LR.length
    · obtain ⟨g4, cp4, e4, r4⟩ := row_cell HR4.out (i := i) (by simp [EL]; exact hlt)
      have hr4 : w.cell? ⟨g4, i, none⟩ = some (sl2 LR[i].1 LR[i].2) := by simpa [EL] using r4
      rw [HE4.out] at e4
      simp only [Value.slice.injEq] at e4
      obtain ⟨e4a, e4b, e4c⟩ := e4
      clear e4b
      subst e4a e4c
      have hw4 : who g4 = .lrow 4 := HWR.out 4 (by omega) g4 (by rw [HE4.out]; rfl)
      have k5 := HG.out.cell hr4 (fun e => by have := hSl g4 e; rw [hw4] at this; cases this)
      obtain ⟨hblk, hwg, hm20⟩ := HX.out.le.lr i hlt
      have hrin := HX.out.le.row_in i hlt
      have hgS : ¬ LR[i].1 ∈ (LR.take i).map (·.1) := by
        have hnd : (LR.map (·.1)).Nodup := by
          have := HND.out
          rw [List.nodup_append] at this
          have h2 := this.2.1
          rw [List.nodup_append] at h2
          exact h2.2.1
        have := nodup_take hnd (i := i) (by simpa using hlt)
        rw [← List.map_take] at this
        simpa using this
      have HTS : Hid (((LR.take (i + 1)).map (·.2)).sum = ((LR.take i).map (·.2)).sum + LR[i].2) := by
        unfold Hid; rw [List.take_succ_eq_append_getElem hlt, List.map_append, List.sum_append]; simp
      have HTF : Hid ((LR.take (i + 1)).map (·.1) = (LR.take i).map (·.1) ++ [LR[i].1]) := by
        unfold Hid; rw [List.take_succ_eq_append_getElem hlt, List.map_append]; rfl
      have hgm : LR[i].1 ∈ LR.map (·.1) := List.mem_map.2 ⟨_, List.getElem_mem hlt, rfl⟩
      have HGC : Hid (LR[i].1 ∉ LC.map (·.1)) := fun e => by
        have := HND.out
        rw [List.nodup_append] at this
        have h2 := this.2.1
        rw [List.nodup_append] at h2
        exact h2.2.2 _ e _ hgm rfl
      have HSC : Hid (∀ g, g ∈ (LR.take i).map (·.1) → g ∉ LC.map (·.1)) := fun g e e2 => by
        have := HND.out
        rw [List.nodup_append] at this
        have h2 := this.2.1
        rw [List.nodup_append] at h2
        obtain ⟨x, hx, rfl⟩ := List.mem_map.1 e
        exact h2.2.2 _ e2 _ (List.mem_map.2 ⟨x, List.mem_of_mem_take hx, rfl⟩) rfl
      have hOff := HOF.out
      rw [hOff] at hblk hrin HTS
      generalize LR[i] = x at *
      obtain ⟨g, m⟩ := x
      simp only at hr4 k5 hblk hwg hm20 hrin hgS HTS HTF HGC
      clear hr4 hgm hOff
      have hLl : ((LC.drop off).take m).length = m := by rw [List.length_take, List.length_drop]; omega
      have k6 : w5.cell? ⟨g, m, none⟩ = some (.slice none 0 0) := HG.out.cell (by simp only [World.cell?, hblk]; have := lentRows_end0 ((LC.drop off).take m); rw [hLl] at this; exact this) hgS
      have k7 : w5.cell? ⟨g, m + 1, none⟩ = some (.slice none 0 0) := HG.out.cell (by simp only [World.cell?, hblk]; have := lentRows_end1 ((LC.drop off).take m); rw [hLl] at this; exact this) hgS
      have HRW : Hid (∀ k (hk : k < m), w.cell? ⟨g, k, none⟩ = some (slC (LC[off + k]'(Nat.lt_of_lt_of_le (Nat.add_lt_add_left hk off) hrin)))) := fun k hk => by
        simp only [World.cell?, hblk]
        rw [lentRows_at _ k (by omega)]
        simp
      have HBK := hide hblk
      have t0 : (0 : Int) ≤ (i : Int) := by omega
      have t1 : (i : Int) < LR.length := by omega
      have t2 : (m : Int) ≤ 1048576 := by omega
      have t3 : (0 : Int) ≤ (m : Int) := by omega
      have t4 : (off : Int) + m ≤ LC.length := by omega
      have t5 : (m : Int) < (m : Int) + 2 := by omega
      have t6 : (m : Int) + 1 < (m : Int) + 2 := by omega
      unfold sl2 at k5
      clear hblk hLl
      go_wp2_with fail
      go_loopw [3, 4, 8] (fun ok cv kv w' => ∃ k q : Nat, k ≤ m ∧ ok = .bool true ∧ cv = .int .i64 q ∧ Hid (off + k = q) ∧ kv = .int .i64 k ∧ Hid (Chg w w' (fun g => g ∈ (LR.take i).map (·.1)))) (fun _ _ kv _ => m - (intOf kv).toNat)
      case atStart => exact ⟨0, off, Nat.zero_le _, rfl, rfl, hide rfl, rfl, HG⟩
      case round =>
        clear k4 k5 k6 k7
        obtain ⟨k, q, hk, rfl, rfl, HOK, rfl, HG7⟩ := hrel
        obtain ⟨w7, hw7⟩ : ∃ w7, w7 = wr := ⟨_, rfl⟩
        rw [← hw7] at HG7 ⊢
        clear hw7
        by_cases hkl : k < m
        · have hoq := HOK.out
          have hy : q < LC.length := by omega
          obtain ⟨g3, cp3, e3, r3⟩ := row_cell HR3.out (i := q) (by simp [EL]; omega)
          have hr3 : w.cell? ⟨g3, q, none⟩ = some LC[q].2.2 := by simpa [EL] using r3
          rw [HE3.out] at e3
          simp only [Value.slice.injEq] at e3
          obtain ⟨e3a, e3b, e3c⟩ := e3
          clear e3b
          subst e3a e3c
          have hw3 : who g3 = .lrow 3 := HWR.out 3 (by omega) g3 (by rw [HE3.out]; rfl)
          have m3 := HG7.out.cell HC3.out hbS
          have m4 := HG7.out.cell hr3 (fun e => by have := hSl g3 e; rw [hw3] at this; cases this)
          have m5 := HG7.out.cell (HRW.out k hkl) hgS
          simp only [hoq] at m5
          obtain ⟨y1, y2, y3, y4, y5⟩ := HX.out.le.lc LC[q] (List.getElem_mem hy)
          have hyS : ¬ LC[q].1 ∈ (LR.take i).map (·.1) := fun e => HSC.out _ e (List.mem_map.2 ⟨_, List.getElem_mem hy, rfl⟩)
          have hC : CodeAt w7 (slC LC[q]) LC[q].2.1 := lentCode_at (by rw [HG7.out.blk _ (Array.getElem?_eq_some_iff.1 y1).1 hyS]; exact y1) _
          have hD : CodeAt w7 LC[q].2.2 LC[q].2.1 := code_oth y3 y4 (fun g' h1 h2 => HG7.out.blk g' h1 (fun e => by have := hSl g' e; rw [h2] at this; cases this))
          generalize LC[q] = y at *
          obtain ⟨yg, yc, yv⟩ := y
          simp only [slC] at m4 m5 hC hD y5
          obtain ⟨ya, yb, rfl⟩ : ∃ ya yb, yv = .slice ya yc.length yb := ⟨_, _, hD.choose_spec.choose_spec.1⟩
          have callS : ∀ (d : Nat) (os : Array Obj), Calls Tryz.prog 54 #[.slice (some ⟨yg, 0, none⟩) yc.length (yc.length + 2), .slice ya yc.length yb] (Sort.grow (redrawn w7 d) os) fun e w'' => e = .returned (.bool true) ∧ ∃ p : Regrown, w'' = Sort.grow (redrawn w7 p.d) p.os := by
            intro d os
            have hbel := grown_below' (below_regrown w7 d os)
            refine Calls.regrown_of ((sameCode_m yc _ _ _ (CodeAt.pres hC (pres_grown hbel)) (CodeAt.pres hD (pres_grown hbel)) y5).mono ?_)
            rintro e w' ⟨rfl, hl⟩
            refine ⟨by simp, ?_⟩
            have := grown_of_like (r := none) hl
            exact ⟨this.os, this.tape, this.output, this.size, fun k hk => this.block k hk (by simp)⟩
          have n3 := fun d os => cell_regrown m3 d os
          have n4 := fun d os => cell_regrown m4 d os
          have n5 := fun d os => cell_regrown m5 d os
          have s0 : (0 : Int) ≤ (k : Int) := by omega
          have s1 : (k : Int) < m := by omega
          have s2 : (k : Int) < (m : Int) + 2 := by omega
          have s3 : (0 : Int) ≤ (q : Int) := by omega
          have s4 : (q : Int) < LC.length := by omega
          clear hC hD y1 y2 y3 y4 r3 hr3
          clear hoq hy hyS
          go_wp2_with fail
          refine wp_region_quiet_below (by kernel_rfl) (by kernel_rfl) ?_
          repeat (quiet_step (exact callS _ _))
          refine wpQuiet_nil ?_
          intro w8 hw8
          obtain ⟨⟨dq, osq⟩, hw8⟩ := hw8
          have hB8 := below_regrown w7 dq osq
          rw [← hw8] at hB8
          have HG8 := hide (HG7.out.below hB8)
          clear hw8 callS n3 n4 n5 hB8 m3 m4 m5
          go_wp2_with fail
          go_roundw
          case rel => exact ⟨k + 1, q + 1, by omega, rfl, by go_num, hide (by have := HOK.out; omega), by go_num, HG8⟩
          case measure => simp [intOf]; omega
        · have hkm : k = m := by omega
          have u1 : (m : Int) ≤ (k : Int) := by omega
          have HQ : Hid (((LR.take (i + 1)).map (·.2)).sum = q) := by unfold Hid; rw [HTS.out]; have := HOK.out; omega
          have HOV : Hid (Chg w w7 (fun g' => g' ∈ (LR.take (i + 1)).map (·.1)) ∧ ∃ R : Array Value, R.size = m + 2 ∧ w7.heap[g]? = some (.cells R 75 (0, 0))) := by
            refine ⟨HG7.out.mono (fun g' e => by rw [HTF.out]; exact List.mem_append.2 (Or.inl e)), _, ?_, by rw [HG7.out.blk g (Array.getElem?_eq_some_iff.1 HBK.out).1 hgS]; exact HBK.out⟩
            rw [lentRows_size, List.length_take, List.length_drop]; omega
          have hgin : g ∈ (LR.take (i + 1)).map (·.1) := by rw [HTF.out]; exact List.mem_append.2 (Or.inr (by simp))
          clear HG7 hkm HOK
          go_wp2_with fail
          go_loopw [10] (fun kv w' => ∃ k : Nat, k ≤ m + 2 ∧ kv = .int .i64 k ∧ Hid (Chg w w' (fun g' => g' ∈ (LR.take (i + 1)).map (·.1)) ∧ ∃ R : Array Value, R.size = m + 2 ∧ w'.heap[g]? = some (.cells R 75 (0, 0)))) (fun kv _ => m + 2 - (intOf kv).toNat)
          case atStart => exact ⟨0, by omega, rfl, HOV⟩
          case round =>
            clear HOV
            obtain ⟨k, hk, rfl, HO⟩ := hrel
            obtain ⟨w9, hw9⟩ : ∃ w9, w9 = wr := ⟨_, rfl⟩
            rw [← hw9] at HO ⊢
            clear hw9
            by_cases hk2 : k < m + 2
            · obtain ⟨hch, R, hRs, hRr⟩ := HO.out
              obtain ⟨u, y0⟩ : ∃ u, w9.cell? ⟨g, k, none⟩ = some u := ⟨R[k]'(by omega), by simp only [World.cell?, hRr]; exact Array.getElem?_eq_getElem _⟩
              have y1 : w9.frozen? ⟨g, k, none⟩ = false := by simp [World.frozen?, hRr]
              have HNX : Hid (Chg w (w9.setCell ⟨g, k, none⟩ (.slice none 0 0)) (fun g' => g' ∈ (LR.take (i + 1)).map (·.1)) ∧ ∃ R : Array Value, R.size = m + 2 ∧ (w9.setCell ⟨g, k, none⟩ (.slice none 0 0)).heap[g]? = some (.cells R 75 (0, 0))) :=
                ⟨hch.set hgin, R.setIfInBounds k (.slice none 0 0), by simpa using hRs, heap_setCell_same w9 g k R _ _ hRr⟩
              have z0 : (0 : Int) ≤ (k : Int) := by omega
              have z1 : (k : Int) < (m : Int) + 2 := by omega
              clear hRr hRs hch
              go_wp2_with fail
              go_roundw
              case rel => exact ⟨k + 1, by omega, by go_num, HNX⟩
              case measure => simp [intOf]; omega
            · have z1 : (m : Int) + 2 ≤ (k : Int) := by omega
              go_wp2_with fail
              go_roundw
              case rel => exact ⟨i + 1, q, by omega, rfl, rfl, HQ, by go_num, hide HO.out.1⟩
              case measure => simp [intOf]; omega
    · have ei : i = LR.length := by omega
      have t1 : (LR.length : Int) ≤ (i : Int) := by omega
      have HG4 : Hid (Chg w w5 (fun g => g ∈ LR.map (·.1) ∨ g ∈ (LC.take 0).map (·.1))) := by
        have := HG.out
        rw [ei, List.take_length] at this
        exact this.mono (fun g e => Or.inl e)
      clear HG hSl hbS HOF ei
      go_wp2_with fail
      go_loopw [3, 11] (fun ok iv w' => ∃ j : Nat, j ≤ LC.length ∧ ok = .bool true ∧ iv = .int .i64 j ∧ Hid (Chg w w' (fun g => g ∈ LR.map (·.1) ∨ g ∈ (LC.take j).map (·.1)))) (fun _ iv _ => LC.length - (intOf iv).toNat)
      case atStart => exact ⟨0, Nat.zero_le _, rfl, rfl, HG4⟩
      case round =>
        clear HG4 k4
        obtain ⟨j, hj, rfl, rfl, HG⟩ := hrel
        obtain ⟨w7, hw7⟩ : ∃ w7, w7 = wr := ⟨_, rfl⟩
        rw [← hw7] at HG ⊢
        clear hw7
        have hSl : ∀ g, (g ∈ LR.map (·.1) ∨ g ∈ (LC.take j).map (·.1)) → who g = .lent := fun g e => HSL.out g (by
          rcases e with e | e
          · exact Or.inl e
          · obtain ⟨x, hx, rfl⟩ := List.mem_map.1 e
            exact Or.inr (Or.inl (List.mem_map.2 ⟨x, List.mem_of_mem_take hx, rfl⟩)))
        have hbS : ¬ (b ∈ LR.map (·.1) ∨ b ∈ (LC.take j).map (·.1)) := fun e => by have := hSl b e; rw [HBN.out] at this; cases this
        have k2 := HG.out.cell HC2.out hbS
        by_cases hlt : j < LC.length
        · obtain ⟨g2, cp2, e2, r2⟩ := row_cell HR2.out (i := j) (by simp [EL]; exact hlt)
          have hr2 : w.cell? ⟨g2, j, none⟩ = some (sl2 LC[j].1 LC[j].2.1.length) := by simpa [EL] using r2
          rw [HE2.out] at e2
          simp only [Value.slice.injEq] at e2
          obtain ⟨e2a, e2b, e2c⟩ := e2
          clear e2b
          subst e2a e2c
          obtain ⟨g3, cp3, e3, r3⟩ := row_cell HR3.out (i := j) (by simp [EL]; exact hlt)
          have hr3 : w.cell? ⟨g3, j, none⟩ = some LC[j].2.2 := by simpa [EL] using r3
          rw [HE3.out] at e3
          simp only [Value.slice.injEq] at e3
          obtain ⟨e3a, e3b, e3c⟩ := e3
          clear e3b
          subst e3a e3c
          have hw2 : who g2 = .lrow 2 := HWR.out 2 (by omega) g2 (by rw [HE2.out]; rfl)
          have hw3 : who g3 = .lrow 3 := HWR.out 3 (by omega) g3 (by rw [HE3.out]; rfl)
          have m2 := HG.out.cell hr2 (fun e => by have := hSl g2 e; rw [hw2] at this; cases this)
          have m3 := HG.out.cell HC3.out hbS
          have m4 := HG.out.cell hr3 (fun e => by have := hSl g3 e; rw [hw3] at this; cases this)
          obtain ⟨y1, y2, y3, y4, y5⟩ := HX.out.le.lc LC[j] (List.getElem_mem hlt)
          have hyS : ¬ (LC[j].1 ∈ LR.map (·.1) ∨ LC[j].1 ∈ (LC.take j).map (·.1)) := by
            have hnd := HND.out
            rw [List.nodup_append] at hnd
            have h2 := hnd.2.1
            rw [List.nodup_append] at h2
            rintro (e | e)
            · exact h2.2.2 _ (List.mem_map.2 ⟨_, List.getElem_mem hlt, rfl⟩) _ e rfl
            · have := nodup_take h2.1 (i := j) (by simpa using hlt)
              rw [← List.map_take] at this
              exact this (by simpa using e)
          have hblk7 : w7.heap[LC[j].1]? = some (.cells (lentCode LC[j].2.1) 74 (0, 0)) := by rw [HG.out.blk _ (Array.getElem?_eq_some_iff.1 y1).1 hyS]; exact y1
          have hC : CodeAt w7 (slC LC[j]) LC[j].2.1 := lentCode_at hblk7 _
          have hD : CodeAt w7 LC[j].2.2 LC[j].2.1 := code_oth y3 y4 (fun g' h1 h2 => HG.out.blk g' h1 (fun e => by have := hSl g' e; rw [h2] at this; cases this))
          have HTF : Hid ((LC.take (j + 1)).map (·.1) = (LC.take j).map (·.1) ++ [LC[j].1]) := by
            unfold Hid; rw [List.take_succ_eq_append_getElem hlt, List.map_append]; rfl
          generalize LC[j] = y at *
          obtain ⟨yg, yc, yv⟩ := y
          simp only [slC, sl2] at m2 m4 hC hD y5 hblk7 HTF
          obtain ⟨ya, yb, rfl⟩ : ∃ ya yb, yv = .slice ya yc.length yb := ⟨_, _, hD.choose_spec.choose_spec.1⟩
          have callS : ∀ (d : Nat) (os : Array Obj), Calls Tryz.prog 54 #[.slice (some ⟨yg, 0, none⟩) yc.length (yc.length + 2), .slice ya yc.length yb] (Sort.grow (redrawn w7 d) os) fun e w'' => e = .returned (.bool true) ∧ ∃ p : Regrown, w'' = Sort.grow (redrawn w7 p.d) p.os := by
            intro d os
            have hbel := grown_below' (below_regrown w7 d os)
            refine Calls.regrown_of ((sameCode_m yc _ _ _ (CodeAt.pres hC (pres_grown hbel)) (CodeAt.pres hD (pres_grown hbel)) y5).mono ?_)
            rintro e w' ⟨rfl, hl⟩
            refine ⟨by simp, ?_⟩
            have := grown_of_like (r := none) hl
            exact ⟨this.os, this.tape, this.output, this.size, fun k hk => this.block k hk (by simp)⟩
          have n3 := fun d os => cell_regrown m3 d os
          have n4 := fun d os => cell_regrown m4 d os
          have s0 : (0 : Int) ≤ (j : Int) := by omega
          have s1 : (j : Int) < LC.length := by omega
          have s2 : (yc.length : Int) ≤ 1048576 := by omega
          have s3 : (0 : Int) ≤ (yc.length : Int) := by omega
          have s4 : (yc.length : Int) ≤ (yc.length : Int) + 2 := by omega
          have s5 : (yc.length : Int) < (yc.length : Int) + 2 := by omega
          have s6 : (yc.length : Int) + 1 < (yc.length : Int) + 2 := by omega
          have HB7 := hide hblk7
          clear hC hD y1 y2 y3 y4 r2 r3 hr2 hr3 hblk7 hyS
          go_wp2_with fail
          refine wp_region_quiet_below (by kernel_rfl) (by kernel_rfl) ?_
          repeat (quiet_step (exact callS _ _))
          refine wpQuiet_nil ?_
          intro w8 hw8
          obtain ⟨⟨dq, osq⟩, hw8⟩ := hw8
          have hB8 := below_regrown w7 dq osq
          rw [← hw8] at hB8
          have hblk8 : w8.heap[yg]? = some (.cells (lentCode yc) 74 (0, 0)) := by rw [hB8.block yg (Array.getElem?_eq_some_iff.1 HB7.out).1]; exact HB7.out
          have p0 : w8.cell? ⟨yg, yc.length * 4, none⟩ = some (.int .i64 (-77000000)) := by simp only [World.cell?, hblk8]; exact (lentCode_end yc 0 (by omega)).1
          have p1 : w8.cell? ⟨yg, yc.length * 4 + 1, none⟩ = some (.int .i64 0) := by simp only [World.cell?, hblk8]; exact (lentCode_end yc 1 (by omega)).1
          have p2 : w8.cell? ⟨yg, yc.length * 4 + 2, none⟩ = some (.int .i64 0) := by simp only [World.cell?, hblk8]; exact (lentCode_end yc 2 (by omega)).1
          have p3 : w8.cell? ⟨yg, yc.length * 4 + 3, none⟩ = some (.int .i64 0) := by simp only [World.cell?, hblk8]; exact (lentCode_end yc 3 (by omega)).1
          have p4 : w8.cell? ⟨yg, (yc.length + 1) * 4, none⟩ = some (.int .i64 (-77000000)) := by simp only [World.cell?, hblk8]; exact (lentCode_end yc 0 (by omega)).2
          have p5 : w8.cell? ⟨yg, (yc.length + 1) * 4 + 1, none⟩ = some (.int .i64 0) := by simp only [World.cell?, hblk8]; exact (lentCode_end yc 1 (by omega)).2
          have p6 : w8.cell? ⟨yg, (yc.length + 1) * 4 + 2, none⟩ = some (.int .i64 0) := by simp only [World.cell?, hblk8]; exact (lentCode_end yc 2 (by omega)).2
          have p7 : w8.cell? ⟨yg, (yc.length + 1) * 4 + 3, none⟩ = some (.int .i64 0) := by simp only [World.cell?, hblk8]; exact (lentCode_end yc 3 (by omega)).2
          have HOV : Hid (Chg w w8 (fun g => g ∈ LR.map (·.1) ∨ g ∈ (LC.take (j + 1)).map (·.1)) ∧ ∃ R : Array Value, R.size = (yc.length + 2) * 4 ∧ w8.heap[yg]? = some (.cells R 74 (0, 0))) :=
            ⟨(HG.out.below hB8).mono (fun g e => e.imp id (fun e => by rw [HTF.out]; exact List.mem_append.2 (Or.inl e))), _, lentCode_size yc, hblk8⟩
          have hgin : yg ∈ LR.map (·.1) ∨ yg ∈ (LC.take (j + 1)).map (·.1) := Or.inr (by rw [HTF.out]; exact List.mem_append.2 (Or.inr (by simp)))
          clear hw8 callS n3 n4 hB8 m2 m3 m4 k2 hblk8 HB7
          go_wp2_with fail
          clear p0 p1 p2 p3 p4 p5 p6 p7
          go_loopw [15] (fun kv w' => ∃ k : Nat, k ≤ yc.length + 2 ∧ kv = .int .i64 k ∧ Hid (Chg w w' (fun g => g ∈ LR.map (·.1) ∨ g ∈ (LC.take (j + 1)).map (·.1)) ∧ ∃ R : Array Value, R.size = (yc.length + 2) * 4 ∧ w'.heap[yg]? = some (.cells R 74 (0, 0)))) (fun kv _ => yc.length + 2 - (intOf kv).toNat)
          case atStart => exact ⟨0, by omega, rfl, HOV⟩
          case round =>
            clear HOV
            obtain ⟨k, hk, rfl, HO⟩ := hrel
            obtain ⟨w9, hw9⟩ : ∃ w9, w9 = wr := ⟨_, rfl⟩
            rw [← hw9] at HO ⊢
            clear hw9
            by_cases hk2 : k < yc.length + 2
            · obtain ⟨hch, R, hRs, hRr⟩ := HO.out
              obtain ⟨u0, y0⟩ : ∃ u, w9.cell? ⟨yg, k * 4, none⟩ = some u := ⟨R[k * 4]'(by omega), by simp only [World.cell?, hRr]; exact Array.getElem?_eq_getElem _⟩
              obtain ⟨u1, y1⟩ : ∃ u, w9.cell? ⟨yg, k * 4 + 1, none⟩ = some u := ⟨R[k * 4 + 1]'(by omega), by simp only [World.cell?, hRr]; exact Array.getElem?_eq_getElem _⟩
              obtain ⟨u2, y2⟩ : ∃ u, w9.cell? ⟨yg, k * 4 + 2, none⟩ = some u := ⟨R[k * 4 + 2]'(by omega), by simp only [World.cell?, hRr]; exact Array.getElem?_eq_getElem _⟩
              obtain ⟨u3, y3⟩ : ∃ u, w9.cell? ⟨yg, k * 4 + 3, none⟩ = some u := ⟨R[k * 4 + 3]'(by omega), by simp only [World.cell?, hRr]; exact Array.getElem?_eq_getElem _⟩
              have v0 : w9.frozen? ⟨yg, k * 4, none⟩ = false := by simp [World.frozen?, hRr]
              have v1 : w9.frozen? ⟨yg, k * 4 + 1, none⟩ = false := by simp [World.frozen?, hRr]
              have v2 : w9.frozen? ⟨yg, k * 4 + 2, none⟩ = false := by simp [World.frozen?, hRr]
              have v3 : w9.frozen? ⟨yg, k * 4 + 3, none⟩ = false := by simp [World.frozen?, hRr]
              have HNX : Hid (Chg w ((((w9.setCell ⟨yg, k * 4, none⟩ (.int .i64 1)).setCell ⟨yg, k * 4 + 1, none⟩ (.int .i64 0)).setCell ⟨yg, k * 4 + 2, none⟩ (.int .i64 0)).setCell ⟨yg, k * 4 + 3, none⟩ (.int .i64 99)) (fun g => g ∈ LR.map (·.1) ∨ g ∈ (LC.take (j + 1)).map (·.1)) ∧
                  ∃ R : Array Value, R.size = (yc.length + 2) * 4 ∧ ((((w9.setCell ⟨yg, k * 4, none⟩ (.int .i64 1)).setCell ⟨yg, k * 4 + 1, none⟩ (.int .i64 0)).setCell ⟨yg, k * 4 + 2, none⟩ (.int .i64 0)).setCell ⟨yg, k * 4 + 3, none⟩ (.int .i64 99)).heap[yg]? = some (.cells R 74 (0, 0))) := by
                refine ⟨(((hch.set hgin).set hgin).set hgin).set hgin, _, ?_, heap_setCell_same _ yg _ _ _ _ (heap_setCell_same _ yg _ _ _ _ (heap_setCell_same _ yg _ _ _ _ (heap_setCell_same w9 yg _ R _ _ hRr)))⟩
                simpa using hRs
              have z0 : (0 : Int) ≤ (k : Int) := by omega
              have z1 : (k : Int) < (yc.length : Int) + 2 := by omega
              clear hRr hRs hch
              go_wp2_with fail
              go_roundw
              case rel => exact ⟨k + 1, by omega, by go_num, HNX⟩
              case measure => simp [intOf]; omega
            · have z1 : (yc.length : Int) + 2 ≤ (k : Int) := by omega
              go_wp2_with fail
              go_roundw
              case rel => exact ⟨j + 1, by omega, rfl, by go_num, hide HO.out.1⟩
              case measure => simp [intOf]; omega
        · have ej : j = LC.length := by omega
          have t2 : (LC.length : Int) ≤ (j : Int) := by omega
          have HG6 : Hid (Chg w w7 (fun g => (g ∈ LR.map (·.1) ∨ g ∈ LC.map (·.1)) ∨ g ∈ (LI.take 0).map (·.1))) := by
            have := HG.out
            rw [ej, List.take_length] at this
            exact this.mono (fun g e => Or.inl e)
          clear HG hSl hbS ej
          go_wp2_with fail
          go_loopw [3, 16] (fun ok iv w' => ∃ j : Nat, j ≤ LI.length ∧ ok = .bool true ∧ iv = .int .i64 j ∧ Hid (Chg w w' (fun g => (g ∈ LR.map (·.1) ∨ g ∈ LC.map (·.1)) ∨ g ∈ (LI.take j).map (·.1)))) (fun _ iv _ => LI.length - (intOf iv).toNat)
          case atStart => exact ⟨0, Nat.zero_le _, rfl, rfl, HG6⟩
          case round =>
            clear HG6 k2
            obtain ⟨j, hj, rfl, rfl, HG⟩ := hrel
            obtain ⟨w7, hw7⟩ : ∃ w7, w7 = wr := ⟨_, rfl⟩
            rw [← hw7] at HG ⊢
            clear hw7
            have hSl : ∀ g, ((g ∈ LR.map (·.1) ∨ g ∈ LC.map (·.1)) ∨ g ∈ (LI.take j).map (·.1)) → who g = .lent := fun g e => HSL.out g (by
              rcases e with (e | e) | e
              · exact Or.inl e
              · exact Or.inr (Or.inl e)
              · obtain ⟨x, hx, rfl⟩ := List.mem_map.1 e
                exact Or.inr (Or.inr (List.mem_map.2 ⟨x, List.mem_of_mem_take hx, rfl⟩)))
            have hbS : ¬ ((b ∈ LR.map (·.1) ∨ b ∈ LC.map (·.1)) ∨ b ∈ (LI.take j).map (·.1)) := fun e => by have := hSl b e; rw [HBN.out] at this; cases this
            have k0 := HG.out.cell HC0.out hbS
            by_cases hlt : j < LI.length
            · obtain ⟨g2, cp2, e2, r2⟩ := row_cell HR0.out (i := j) (by simp [EL]; exact hlt)
              have hr2 : w.cell? ⟨g2, j, none⟩ = some (sl2 LI[j].1 LI[j].2.1.length) := by simpa [EL] using r2
              rw [HE0.out] at e2
              simp only [Value.slice.injEq] at e2
              obtain ⟨e2a, e2b, e2c⟩ := e2
              clear e2b
              subst e2a e2c
              obtain ⟨g3, cp3, e3, r3⟩ := row_cell HR1.out (i := j) (by simp [EL]; exact hlt)
              have hr3 : w.cell? ⟨g3, j, none⟩ = some LI[j].2.2 := by simpa [EL] using r3
              rw [HE1.out] at e3
              simp only [Value.slice.injEq] at e3
              obtain ⟨e3a, e3b, e3c⟩ := e3
              clear e3b
              subst e3a e3c
              have hw2 : who g2 = .lrow 0 := HWR.out 0 (by omega) g2 (by rw [HE0.out]; rfl)
              have hw3 : who g3 = .lrow 1 := HWR.out 1 (by omega) g3 (by rw [HE1.out]; rfl)
              have m2 := HG.out.cell hr2 (fun e => by have := hSl g2 e; rw [hw2] at this; cases this)
              have m3 := HG.out.cell HC1.out hbS
              have m4 := HG.out.cell hr3 (fun e => by have := hSl g3 e; rw [hw3] at this; cases this)
              obtain ⟨y1, y2, y3, y4, y5⟩ := HX.out.le.li LI[j] (List.getElem_mem hlt)
              have hyS : ¬ ((LI[j].1 ∈ LR.map (·.1) ∨ LI[j].1 ∈ LC.map (·.1)) ∨ LI[j].1 ∈ (LI.take j).map (·.1)) := by
                have hnd := HND.out
                rw [List.nodup_append] at hnd
                have hm : LI[j].1 ∈ LI.map (·.1) := List.mem_map.2 ⟨_, List.getElem_mem hlt, rfl⟩
                rintro ((e | e) | e)
                · exact hnd.2.2 _ hm _ (List.mem_append.2 (Or.inr e)) rfl
                · exact hnd.2.2 _ hm _ (List.mem_append.2 (Or.inl e)) rfl
                · have := nodup_take hnd.1 (i := j) (by simpa using hlt)
                  rw [← List.map_take] at this
                  exact this (by simpa using e)
              have hblk7 : w7.heap[LI[j].1]? = some (.cells (lentRow LI[j].2.1) 3 (0, 0)) := by rw [HG.out.blk _ (Array.getElem?_eq_some_iff.1 y1).1 hyS]; exact y1
              have hC := lent_ints hblk7
              have hD : IntsAt w7.heap.size w7 LI[j].2.2 LI[j].2.1 := ints_oth y3 y4 HG.out.size (fun g' h1 h2 => HG.out.blk g' h1 (fun e => by have := hSl g' e; rw [h2] at this; cases this))
              have HTF : Hid ((LI.take (j + 1)).map (·.1) = (LI.take j).map (·.1) ++ [LI[j].1]) := by
                unfold Hid; rw [List.take_succ_eq_append_getElem hlt, List.map_append]; rfl
              generalize LI[j] = y at *
              obtain ⟨yg, yc, yv⟩ := y
              simp only [sl2] at m2 m4 hC hD y5 hblk7 HTF
              obtain ⟨ya, yb, rfl⟩ := hD.form
              have callS : ∀ (d : Nat) (os : Array Obj), Calls Tryz.prog 45 #[.slice (some ⟨yg, 0, none⟩) yc.length (yc.length + 2), .slice ya yc.length yb] (Sort.grow (redrawn w7 d) os) fun e w'' => e = .returned (.bool true) ∧ ∃ p : Regrown, w'' = Sort.grow (redrawn w7 p.d) p.os := by
                intro d os
                have hbel := grown_below' (below_regrown w7 d os)
                refine Calls.regrown_of ((same_m yc yc _ _ _ ((hC.pres (pres_grown hbel)).mono hbel.size) ((hD.pres (pres_grown hbel)).mono hbel.size) (by omega)).mono ?_)
                rintro e w' ⟨rfl, hl⟩
                refine ⟨by simp, ?_⟩
                have := grown_of_like (r := none) hl
                exact ⟨this.os, this.tape, this.output, this.size, fun k hk => this.block k hk (by simp)⟩
              have n3 := fun d os => cell_regrown m3 d os
              have n4 := fun d os => cell_regrown m4 d os
              have s0 : (0 : Int) ≤ (j : Int) := by omega
              have s1 : (j : Int) < LI.length := by omega
              have s2 : (yc.length : Int) ≤ 1048576 := by omega
              have s3 : (0 : Int) ≤ (yc.length : Int) := by omega
              have s4 : (yc.length : Int) ≤ (yc.length : Int) + 2 := by omega
              have s5 : (yc.length : Int) < (yc.length : Int) + 2 := by omega
              have s6 : (yc.length : Int) + 1 < (yc.length : Int) + 2 := by omega
              have HB7 := hide hblk7
              clear hC hD y1 y2 y3 y4 r2 r3 hr2 hr3 hblk7 hyS
              go_wp2_with fail
              refine wp_region_quiet_below (by kernel_rfl) (by kernel_rfl) ?_
              repeat (quiet_step (exact callS _ _))
              refine wpQuiet_nil ?_
              intro w8 hw8
              obtain ⟨⟨dq, osq⟩, hw8⟩ := hw8
              have hB8 := below_regrown w7 dq osq
              rw [← hw8] at hB8
              have hblk8 : w8.heap[yg]? = some (.cells (lentRow yc) 3 (0, 0)) := by rw [hB8.block yg (Array.getElem?_eq_some_iff.1 HB7.out).1]; exact HB7.out
              have p0 : w8.cell? ⟨yg, yc.length, none⟩ = some (.int .i64 (-77000000)) := by simp only [World.cell?, hblk8]; exact lentRow_ink0 yc
              have p1 : w8.cell? ⟨yg, yc.length + 1, none⟩ = some (.int .i64 (-77000000)) := by simp only [World.cell?, hblk8]; exact lentRow_ink1 yc
              have HOV : Hid (Chg w w8 (fun g => (g ∈ LR.map (·.1) ∨ g ∈ LC.map (·.1)) ∨ g ∈ (LI.take (j + 1)).map (·.1)) ∧ ∃ R : Array Value, R.size = yc.length + 2 ∧ w8.heap[yg]? = some (.cells R 3 (0, 0))) :=
                ⟨(HG.out.below hB8).mono (fun g e => e.imp id (fun e => by rw [HTF.out]; exact List.mem_append.2 (Or.inl e))), _, lentRow_len yc, hblk8⟩
              have hgin : (yg ∈ LR.map (·.1) ∨ yg ∈ LC.map (·.1)) ∨ yg ∈ (LI.take (j + 1)).map (·.1) := Or.inr (by rw [HTF.out]; exact List.mem_append.2 (Or.inr (by simp)))
              clear hw8 callS n3 n4 hB8 m2 m3 m4 k0 hblk8 HB7
              go_wp2_with fail
              clear p0 p1
              go_loopw [20] (fun kv w' => ∃ k : Nat, k ≤ yc.length + 2 ∧ kv = .int .i64 k ∧ Hid (Chg w w' (fun g => (g ∈ LR.map (·.1) ∨ g ∈ LC.map (·.1)) ∨ g ∈ (LI.take (j + 1)).map (·.1)) ∧ ∃ R : Array Value, R.size = yc.length + 2 ∧ w'.heap[yg]? = some (.cells R 3 (0, 0)))) (fun kv _ => yc.length + 2 - (intOf kv).toNat)
              case atStart => exact ⟨0, by omega, rfl, HOV⟩
              case round =>
                clear HOV
                obtain ⟨k, hk, rfl, HO⟩ := hrel
                obtain ⟨w9, hw9⟩ : ∃ w9, w9 = wr := ⟨_, rfl⟩
                rw [← hw9] at HO ⊢
                clear hw9
                by_cases hk2 : k < yc.length + 2
                · obtain ⟨hch, R, hRs, hRr⟩ := HO.out
                  obtain ⟨u0, y0⟩ : ∃ u, w9.cell? ⟨yg, k, none⟩ = some u := ⟨R[k]'(by omega), by simp only [World.cell?, hRr]; exact Array.getElem?_eq_getElem _⟩
                  have v0 : w9.frozen? ⟨yg, k, none⟩ = false := by simp [World.frozen?, hRr]
                  have HNX : Hid (Chg w (w9.setCell ⟨yg, k, none⟩ (.int .i64 3)) (fun g => (g ∈ LR.map (·.1) ∨ g ∈ LC.map (·.1)) ∨ g ∈ (LI.take (j + 1)).map (·.1)) ∧ ∃ R : Array Value, R.size = yc.length + 2 ∧ (w9.setCell ⟨yg, k, none⟩ (.int .i64 3)).heap[yg]? = some (.cells R 3 (0, 0))) :=
                    ⟨hch.set hgin, R.setIfInBounds k (.int .i64 3), by simpa using hRs, heap_setCell_same w9 yg k R _ _ hRr⟩
                  have z0 : (0 : Int) ≤ (k : Int) := by omega
                  have z1 : (k : Int) < (yc.length : Int) + 2 := by omega
                  clear hRr hRs hch
                  go_wp2_with fail
                  go_roundw
                  case rel => exact ⟨k + 1, by omega, by go_num, HNX⟩
                  case measure => simp [intOf]; omega
                · have z1 : (yc.length : Int) + 2 ≤ (k : Int) := by omega
                  go_wp2_with fail
                  go_roundw
                  case rel => exact ⟨j + 1, by omega, rfl, by go_num, hide HO.out.1⟩
                  case measure => simp [intOf]; omega
            · have t3 : (LI.length : Int) ≤ (j : Int) := by omega
              have hHB : HB w7 b f := HX.out.hs.1.blk.same (HG.out.blk b HX.out.low.2 hbS)
              have HFIN := hide (HX.out.free HG.out hSl)
              have x4 : w7.cell? ⟨b, 4, none⟩ = some (f 4) := hHB.cell (by omega)
              have x2 : w7.cell? ⟨b, 2, none⟩ = some (f 2) := hHB.cell (by omega)
              have x3 : w7.cell? ⟨b, 3, none⟩ = some (f 3) := hHB.cell (by omega)
              have x0 : w7.cell? ⟨b, 0, none⟩ = some (f 0) := hHB.cell (by omega)
              have x1 : w7.cell? ⟨b, 1, none⟩ = some (f 1) := hHB.cell (by omega)
              rw [HE0.out] at x0
              have f4 := hHB.frozen 4
              have f2 := hHB.frozen 2
              have f3 := hHB.frozen 3
              have f0 := hHB.frozen 0
              have f1 := hHB.frozen 1
              clear hHB k0
              go_wp2_with fail
              go_ret
              obtain ⟨f', h1, h2⟩ := HFIN.out
              exact ⟨rfl, ⟨f', h1⟩, h2⟩

end Go.Proofs.YtklenjmfalljgaaGreatDoor

/- The walk of the hands' holds, whole. -/
namespace Go.Proofs.YtklenjmfalljgaaGreatDoor
open Go.RowKit

theorem run_eq4h (a b c d : Int) (w : World) : (Op.equalIn 10000 29 (.agg #[.int .i64 a, .int .i64 b, .int .i64 c, .int .i64 d]) (.agg #[.int .i64 a, .int .i64 b, .int .i64 c, .int .i64 d])).run Tryz.prog w = .ok true w := by
  obtain ⟨i0, hi0, hz0, hz1, hz2⟩ := info_parts info_int
  have hc : Tryz.prog.cellsOf 3 = 1 := by simp [Program.cellsOf, hi0, hz1]
  have hk : Tryz.prog.plainKey 3 = true := by simp [Program.plainKey, Tryz.underlying3]
  rw [show (10000 : Nat) = 9999 + 1 from rfl, run_equalIn_array w 9999 _ _ (n := 4) (e := 3) (by first | exact Tryz.underlying29 | kernel_rfl) hi0, hc]
  have he : ∀ (d : Nat) (v : Int), (Op.equalIn (d + 1) 3 (.int .i64 v) (.int .i64 v)).run Tryz.prog w = .ok true w := fun d v => by
    rw [run_equalIn_int w d _ _ .i64 v v Tryz.underlying3]; simp
  have hq := he 9998
  simp only [Nat.reduceAdd] at hq
  have p0 := run_part_plain w hk (xs := #[.int .i64 a, .int .i64 b, .int .i64 c, .int .i64 d]) (off := 0) rfl
  have p1 := run_part_plain w hk (xs := #[.int .i64 a, .int .i64 b, .int .i64 c, .int .i64 d]) (off := 1) rfl
  have p2 := run_part_plain w hk (xs := #[.int .i64 a, .int .i64 b, .int .i64 c, .int .i64 d]) (off := 2) rfl
  have p3 := run_part_plain w hk (xs := #[.int .i64 a, .int .i64 b, .int .i64 c, .int .i64 d]) (off := 3) rfl
  simp [List.range, List.range.loop, Op.eqItems, Sem.run_bind, p0, p1, p2, p3, hq, Result.andThen_ok]
attribute [local go_sem] Go.World.cell?_alloc_some run_eq4h

theorem kept_read {c : Nat} {w : World} {who : Nat → Role} {v : Value} {m : Int} (h : KeptC c w who (v, m)) (hc : c ≠ 4) : ∃ xa xl xc, v = .slice xa xl xc ∧ xl ≤ 1000 ∧ ∀ j, j < xl → ∃ g, xa = some ⟨g, 0, none⟩ ∧ ∀ t u, (elC m c)[t]? = some u → w.cell? ⟨g, j * (elC m c).length + t, none⟩ = some u := by
  rcases h with e | ⟨g, len, cap, e, hl, hin⟩
  · exact ⟨none, 0, 0, e, by omega, fun j hj => by omega⟩
  · exact ⟨some ⟨g, 0, none⟩, len, cap, e, hl, fun j hj => ⟨g, rfl, (keptIn_plain hc).1 hin j hj⟩⟩
theorem kept_read4 {w : World} {who : Nat → Role} {v : Value} {m : Int} (h : KeptC 4 w who (v, m)) : ∃ xa xl xc, v = .slice xa xl xc ∧ xl ≤ 1000 ∧ ∀ j, j < xl → ∃ g g' cap', xa = some ⟨g, 0, none⟩ ∧ w.cell? ⟨g, j, none⟩ = some (.slice (some ⟨g', 0, none⟩) 1 cap') ∧ w.heap[g']? = some (.cells (elC m 3).toArray 74 (0, 0)) := by
  rcases h with e | ⟨g, len, cap, e, hl, hin⟩
  · exact ⟨none, 0, 0, e, by omega, fun j hj => by omega⟩
  · refine ⟨some ⟨g, 0, none⟩, len, cap, e, hl, fun j hj => ?_⟩
    obtain ⟨g', cap', h1, h2, _⟩ := keptIn_four.1 hin j hj
    exact ⟨g, g', cap', rfl, h1, h2⟩
theorem two_rows {w : World} {B : Nat} {T : TypeId} {v u : Value} {L : List (Value × Int)} (h1 : w.ownsRow B T 1 v L.length (L.map (·.1))) (h2 : w.ownsRow B 3 1 u L.length (ints (L.map (·.2)))) {i : Nat} (hi : i < L.length) :
    ∃ g c g' c', v = .slice (some ⟨g, 0, none⟩) L.length c ∧ u = .slice (some ⟨g', 0, none⟩) L.length c' ∧ w.cell? ⟨g, i, none⟩ = some L[i].1 ∧ w.cell? ⟨g', i, none⟩ = some (.int .i64 L[i].2) := by
  obtain ⟨g, c, e, _, _⟩ := h1.form (by omega)
  obtain ⟨g', c', e', _, _⟩ := h2.form (by omega)
  refine ⟨g, c, g', c', e, e', ?_, ?_⟩
  · rw [e] at h1; rw [h1.cellAt i (by omega)]; simp [hi]
  · rw [e'] at h2; rw [h2.cellAt i (by omega)]; simp [ints, hi]

set_option maxRecDepth 100000 in
set_option maxHeartbeats 4000000 in
theorem holds_g (B : Nat) (w : World) (b : Nat) (who : Nat → Role) (n : Int) (f : Nat → Value) (K : Nat → List (Value × Int)) (hH : HsK B w b who n f K) (hK : ∀ c, c < 5 → (K c).length ≤ 6000000000000) :
    Calls Tryz.prog 35 #[pt b] w fun e w' => e = .returned (.bool true) ∧ Like w' w := by
  have HH := hide hH
  have hpt : pt b = .pointer (some ⟨b, 0, none⟩) := rfl
  rw [hpt]
  have hK0 := hK 0 (by omega)
  have rl0 : w.ownsRow B 25 1 (f 6) (K 0).length ((K 0).map (·.1)) := hH.1.lst 0 (by omega)
  have rm0 : w.ownsRow B 3 1 (f 7) (K 0).length (ints ((K 0).map (·.2))) := by have := hH.1.mrk 0 (by omega); simpa [marksOf] using this
  have HL0 := hide rl0
  have HM0 := hide rm0
  have cl0 := hH.1.blk.cell (o := 6) (by omega)
  have cm0 := hH.1.blk.cell (o := 7) (by omega)
  obtain ⟨la0, lb0, lc0, el0⟩ := owns_form rl0
  obtain ⟨ma0, mb0, mc0, em0⟩ := owns_form rm0
  rw [el0] at cl0 rl0
  rw [em0] at cm0 rm0
  have hlb0 := owns_lenq rl0
  have hmb0 := owns_lenq rm0
  subst hlb0 hmb0
  have HCL0 := hide cl0
  have HCM0 := hide cm0
  have HEL0 := hide el0
  have HEM0 := hide em0
  have HKP0 := hide (fun x hx => (hH.1.kept 0 (by omega) x hx).1)
  clear rl0 rm0 cl0 cm0 el0 em0
  have hK1 := hK 1 (by omega)
  have rl1 : w.ownsRow B 28 1 (f 8) (K 1).length ((K 1).map (·.1)) := hH.1.lst 1 (by omega)
  have rm1 : w.ownsRow B 3 1 (f 9) (K 1).length (ints ((K 1).map (·.2))) := by have := hH.1.mrk 1 (by omega); simpa [marksOf] using this
  have HL1 := hide rl1
  have HM1 := hide rm1
  have cl1 := hH.1.blk.cell (o := 8) (by omega)
  have cm1 := hH.1.blk.cell (o := 9) (by omega)
  obtain ⟨la1, lb1, lc1, el1⟩ := owns_form rl1
  obtain ⟨ma1, mb1, mc1, em1⟩ := owns_form rm1
  rw [el1] at cl1 rl1
  rw [em1] at cm1 rm1
  have hlb1 := owns_lenq rl1
  have hmb1 := owns_lenq rm1
  subst hlb1 hmb1
  have HCL1 := hide cl1
  have HCM1 := hide cm1
  have HEL1 := hide el1
  have HEM1 := hide em1
  have HKP1 := hide (fun x hx => (hH.1.kept 1 (by omega) x hx).1)
  clear rl1 rm1 cl1 cm1 el1 em1
  have hK2 := hK 2 (by omega)
  have rl2 : w.ownsRow B 30 1 (f 10) (K 2).length ((K 2).map (·.1)) := hH.1.lst 2 (by omega)
  have rm2 : w.ownsRow B 3 1 (f 11) (K 2).length (ints ((K 2).map (·.2))) := by have := hH.1.mrk 2 (by omega); simpa [marksOf] using this
  have HL2 := hide rl2
  have HM2 := hide rm2
  have cl2 := hH.1.blk.cell (o := 10) (by omega)
  have cm2 := hH.1.blk.cell (o := 11) (by omega)
  obtain ⟨la2, lb2, lc2, el2⟩ := owns_form rl2
  obtain ⟨ma2, mb2, mc2, em2⟩ := owns_form rm2
  rw [el2] at cl2 rl2
  rw [em2] at cm2 rm2
  have hlb2 := owns_lenq rl2
  have hmb2 := owns_lenq rm2
  subst hlb2 hmb2
  have HCL2 := hide cl2
  have HCM2 := hide cm2
  have HEL2 := hide el2
  have HEM2 := hide em2
  have HKP2 := hide (fun x hx => (hH.1.kept 2 (by omega) x hx).1)
  clear rl2 rm2 cl2 cm2 el2 em2
  have hK3 := hK 3 (by omega)
  have rl3 : w.ownsRow B 75 1 (f 12) (K 3).length ((K 3).map (·.1)) := hH.1.lst 3 (by omega)
  have rm3 : w.ownsRow B 3 1 (f 13) (K 3).length (ints ((K 3).map (·.2))) := by have := hH.1.mrk 3 (by omega); simpa [marksOf] using this
  have HL3 := hide rl3
  have HM3 := hide rm3
  have cl3 := hH.1.blk.cell (o := 12) (by omega)
  have cm3 := hH.1.blk.cell (o := 13) (by omega)
  obtain ⟨la3, lb3, lc3, el3⟩ := owns_form rl3
  obtain ⟨ma3, mb3, mc3, em3⟩ := owns_form rm3
  rw [el3] at cl3 rl3
  rw [em3] at cm3 rm3
  have hlb3 := owns_lenq rl3
  have hmb3 := owns_lenq rm3
  subst hlb3 hmb3
  have HCL3 := hide cl3
  have HCM3 := hide cm3
  have HEL3 := hide el3
  have HEM3 := hide em3
  have HKP3 := hide (fun x hx => (hH.1.kept 3 (by omega) x hx).1)
  clear rl3 rm3 cl3 cm3 el3 em3
  have hK4 := hK 4 (by omega)
  have rl4 : w.ownsRow B 22 1 (f 14) (K 4).length ((K 4).map (·.1)) := hH.1.lst 4 (by omega)
  have rm4 : w.ownsRow B 3 1 (f 15) (K 4).length (ints ((K 4).map (·.2))) := by have := hH.1.mrk 4 (by omega); simpa [marksOf] using this
  have HL4 := hide rl4
  have HM4 := hide rm4
  have cl4 := hH.1.blk.cell (o := 14) (by omega)
  have cm4 := hH.1.blk.cell (o := 15) (by omega)
  obtain ⟨la4, lb4, lc4, el4⟩ := owns_form rl4
  obtain ⟨ma4, mb4, mc4, em4⟩ := owns_form rm4
  rw [el4] at cl4 rl4
  rw [em4] at cm4 rm4
  have hlb4 := owns_lenq rl4
  have hmb4 := owns_lenq rm4
  subst hlb4 hmb4
  have HCL4 := hide cl4
  have HCM4 := hide cm4
  have HEL4 := hide el4
  have HEM4 := hide em4
  have HKP4 := hide (fun x hx => (hH.1.kept 4 (by omega) x hx).1)
  clear rl4 rm4 cl4 cm4 el4 em4
  have HLL : Hid (∀ w', Like w' w → ∀ a, w'.cell? a = w.cell? a) := fun w' hl a => by simp [World.cell?, hl.1]
  clear hH hK hpt
  have qK0 : ((K 0).length : Int) ≤ 6000000000000 := by omega
  generalize hk0 : K 0 = L0 at *
  clear hk0
  have qK1 : ((K 1).length : Int) ≤ 6000000000000 := by omega
  generalize hk1 : K 1 = L1 at *
  clear hk1
  have qK2 : ((K 2).length : Int) ≤ 6000000000000 := by omega
  generalize hk2 : K 2 = L2 at *
  clear hk2
  have qK3 : ((K 3).length : Int) ≤ 6000000000000 := by omega
  generalize hk3 : K 3 = L3 at *
  clear hk3
  have qK4 : ((K 4).length : Int) ≤ 6000000000000 := by omega
  generalize hk4 : K 4 = L4 at *
  clear hk4
  go_enter Tryz.func35, Tryz.ntmps35
  go_wp2_with fail
  go_loopw [3] (fun i w' => ∃ k : Nat, k ≤ L0.length ∧ i = .int .i64 k ∧ Hid (Like w' w)) (fun i _ => L0.length - (intOf i).toNat)
  case atStart => exact ⟨0, Nat.zero_le _, rfl, hide (like_refl _)⟩
  case round =>
    skip
    obtain ⟨k, hk, rfl, HLK⟩ := hrel
    obtain ⟨w5, hw5⟩ : ∃ w5, w5 = wr := ⟨_, rfl⟩
    rw [← hw5] at HLK ⊢
    clear hw5
    have e6 : w5.cell? ⟨b, 6, none⟩ = some (.slice la0 L0.length lc0) := by rw [HLL.out w5 HLK.out]; exact HCL0.out
    by_cases hlt : k < L0.length
    · obtain ⟨og, oc, mg, mc, eo, em, d0, d1⟩ := two_rows HL0.out HM0.out hlt
      rw [HEL0.out] at eo
      rw [HEM0.out] at em
      simp only [Value.slice.injEq, true_and] at eo em
      obtain ⟨rfl, rfl⟩ := eo
      obtain ⟨rfl, rfl⟩ := em
      have HKT := hide (HKP0.out L0[k] (List.getElem_mem hlt))
      have q0 : (0 : Int) ≤ (k : Int) := by omega
      have q1 : (k : Int) < L0.length := by omega
      generalize L0[k] = x at *
      obtain ⟨xv, xm⟩ := x
      simp only at d0 d1
      obtain ⟨xa, xl, xc, hxv, hxl, hxc⟩ := kept_read HKT.out (by omega)
      subst hxv
      have HXC := hide hxc
      clear hxc HKT
      have e7 : w5.cell? ⟨og, k, none⟩ = some (.slice xa xl xc) := by rw [HLL.out w5 HLK.out]; exact d0
      have qx : (xl : Int) ≤ 1000 := by omega
      go_wp2_with fail
      go_loopw [4] (fun i w' => ∃ j : Nat, j ≤ xl ∧ i = .int .i64 j ∧ Hid (Like w' w)) (fun i _ => xl - (intOf i).toNat)
      case atStart => exact ⟨0, Nat.zero_le _, rfl, HLK⟩
      case round =>
        clear e6 e7 HLK
        obtain ⟨j, hj, rfl, HLJ⟩ := hrel
        obtain ⟨w7, hw7⟩ : ∃ w7, w7 = wr := ⟨_, rfl⟩
        rw [← hw7] at HLJ ⊢
        clear hw7
        have f6 : w7.cell? ⟨b, 6, none⟩ = some (.slice (some ⟨og, 0, none⟩) L0.length lc0) := by rw [HLL.out w7 HLJ.out]; exact HCL0.out
        have f7 : w7.cell? ⟨b, 7, none⟩ = some (.slice (some ⟨mg, 0, none⟩) L0.length mc0) := by rw [HLL.out w7 HLJ.out]; exact HCM0.out
        have k0 : w7.cell? ⟨og, k, none⟩ = some (.slice xa xl xc) := by rw [HLL.out w7 HLJ.out]; exact d0
        have k1 : w7.cell? ⟨mg, k, none⟩ = some (.int .i64 xm) := by rw [HLL.out w7 HLJ.out]; exact d1
        by_cases hjl : j < xl
        · obtain ⟨g, rfl, hcj⟩ := HXC.out j hjl
          have g0 : w7.cell? ⟨g, j, none⟩ = some (.int .i64 xm) := by rw [HLL.out w7 HLJ.out]; exact (by simpa [elC] using hcj 0 _ rfl)
          have q2 : (0 : Int) ≤ (j : Int) := by omega
          have q3 : (j : Int) < xl := by omega
          clear hcj d0 d1
          go_wp2_with fail
          go_quiet (fail)
          go_wp2_with fail
          go_roundw
          case rel => exact ⟨j + 1, by omega, by go_num, hide (like_dn HLJ.out _)⟩
          case measure => simp [intOf]; omega
        · have q3 : (xl : Int) ≤ (j : Int) := by omega
          clear d0 d1
          go_wp2_with fail
          go_roundw
          case rel => exact ⟨k + 1, by omega, by go_num, HLJ⟩
          case measure => simp [intOf]; omega
    · have q1 : (L0.length : Int) ≤ (k : Int) := by omega
      go_wp2_with fail
      go_loopw [5] (fun i w' => ∃ k : Nat, k ≤ L1.length ∧ i = .int .i64 k ∧ Hid (Like w' w)) (fun i _ => L1.length - (intOf i).toNat)
      case atStart => exact ⟨0, Nat.zero_le _, rfl, HLK⟩
      case round =>
        clear HLK
        obtain ⟨k, hk, rfl, HLK⟩ := hrel
        obtain ⟨w5, hw5⟩ : ∃ w5, w5 = wr := ⟨_, rfl⟩
        rw [← hw5] at HLK ⊢
        clear hw5
        have e6 : w5.cell? ⟨b, 8, none⟩ = some (.slice la1 L1.length lc1) := by rw [HLL.out w5 HLK.out]; exact HCL1.out
        by_cases hlt : k < L1.length
        · obtain ⟨og, oc, mg, mc, eo, em, d0, d1⟩ := two_rows HL1.out HM1.out hlt
          rw [HEL1.out] at eo
          rw [HEM1.out] at em
          simp only [Value.slice.injEq, true_and] at eo em
          obtain ⟨rfl, rfl⟩ := eo
          obtain ⟨rfl, rfl⟩ := em
          have HKT := hide (HKP1.out L1[k] (List.getElem_mem hlt))
          have q0 : (0 : Int) ≤ (k : Int) := by omega
          have q1 : (k : Int) < L1.length := by omega
          generalize L1[k] = x at *
          obtain ⟨xv, xm⟩ := x
          simp only at d0 d1
          obtain ⟨xa, xl, xc, hxv, hxl, hxc⟩ := kept_read HKT.out (by omega)
          subst hxv
          have HXC := hide hxc
          clear hxc HKT
          have e7 : w5.cell? ⟨og, k, none⟩ = some (.slice xa xl xc) := by rw [HLL.out w5 HLK.out]; exact d0
          have qx : (xl : Int) ≤ 1000 := by omega
          go_wp2_with fail
          go_loopw [6] (fun i w' => ∃ j : Nat, j ≤ xl ∧ i = .int .i64 j ∧ Hid (Like w' w)) (fun i _ => xl - (intOf i).toNat)
          case atStart => exact ⟨0, Nat.zero_le _, rfl, HLK⟩
          case round =>
            clear e6 e7 HLK
            obtain ⟨j, hj, rfl, HLJ⟩ := hrel
            obtain ⟨w7, hw7⟩ : ∃ w7, w7 = wr := ⟨_, rfl⟩
            rw [← hw7] at HLJ ⊢
            clear hw7
            have f6 : w7.cell? ⟨b, 8, none⟩ = some (.slice (some ⟨og, 0, none⟩) L1.length lc1) := by rw [HLL.out w7 HLJ.out]; exact HCL1.out
            have f7 : w7.cell? ⟨b, 9, none⟩ = some (.slice (some ⟨mg, 0, none⟩) L1.length mc1) := by rw [HLL.out w7 HLJ.out]; exact HCM1.out
            have k0 : w7.cell? ⟨og, k, none⟩ = some (.slice xa xl xc) := by rw [HLL.out w7 HLJ.out]; exact d0
            have k1 : w7.cell? ⟨mg, k, none⟩ = some (.int .i64 xm) := by rw [HLL.out w7 HLJ.out]; exact d1
            by_cases hjl : j < xl
            · obtain ⟨g, rfl, hcj⟩ := HXC.out j hjl
              have g0 : w7.cell? ⟨g, j * 2, none⟩ = some (.int .i64 xm) := by rw [HLL.out w7 HLJ.out]; exact hcj 0 _ rfl
              have g1 : w7.cell? ⟨g, j * 2 + 1, none⟩ = some (.int .i64 0) := by rw [HLL.out w7 HLJ.out]; exact hcj 1 _ rfl
              have q2 : (0 : Int) ≤ (j : Int) := by omega
              have q3 : (j : Int) < xl := by omega
              clear hcj d0 d1
              go_wp2_with fail
              go_quiet (fail)
              go_wp2_with fail
              go_roundw
              case rel => exact ⟨j + 1, by omega, by go_num, hide (like_dn HLJ.out _)⟩
              case measure => simp [intOf]; omega
            · have q3 : (xl : Int) ≤ (j : Int) := by omega
              clear d0 d1
              go_wp2_with fail
              go_roundw
              case rel => exact ⟨k + 1, by omega, by go_num, HLJ⟩
              case measure => simp [intOf]; omega
        · have q1 : (L1.length : Int) ≤ (k : Int) := by omega
          go_wp2_with fail
          go_loopw [7] (fun i w' => ∃ k : Nat, k ≤ L2.length ∧ i = .int .i64 k ∧ Hid (Like w' w)) (fun i _ => L2.length - (intOf i).toNat)
          case atStart => exact ⟨0, Nat.zero_le _, rfl, HLK⟩
          case round =>
            clear HLK
            obtain ⟨k, hk, rfl, HLK⟩ := hrel
            obtain ⟨w5, hw5⟩ : ∃ w5, w5 = wr := ⟨_, rfl⟩
            rw [← hw5] at HLK ⊢
            clear hw5
            have e6 : w5.cell? ⟨b, 10, none⟩ = some (.slice la2 L2.length lc2) := by rw [HLL.out w5 HLK.out]; exact HCL2.out
            by_cases hlt : k < L2.length
            · obtain ⟨og, oc, mg, mc, eo, em, d0, d1⟩ := two_rows HL2.out HM2.out hlt
              rw [HEL2.out] at eo
              rw [HEM2.out] at em
              simp only [Value.slice.injEq, true_and] at eo em
              obtain ⟨rfl, rfl⟩ := eo
              obtain ⟨rfl, rfl⟩ := em
              have HKT := hide (HKP2.out L2[k] (List.getElem_mem hlt))
              have q0 : (0 : Int) ≤ (k : Int) := by omega
              have q1 : (k : Int) < L2.length := by omega
              generalize L2[k] = x at *
              obtain ⟨xv, xm⟩ := x
              simp only at d0 d1
              obtain ⟨xa, xl, xc, hxv, hxl, hxc⟩ := kept_read HKT.out (by omega)
              subst hxv
              have HXC := hide hxc
              clear hxc HKT
              have e7 : w5.cell? ⟨og, k, none⟩ = some (.slice xa xl xc) := by rw [HLL.out w5 HLK.out]; exact d0
              have qx : (xl : Int) ≤ 1000 := by omega
              go_wp2_with fail
              go_loopw [8] (fun i w' => ∃ j : Nat, j ≤ xl ∧ i = .int .i64 j ∧ Hid (Like w' w)) (fun i _ => xl - (intOf i).toNat)
              case atStart => exact ⟨0, Nat.zero_le _, rfl, HLK⟩
              case round =>
                clear e6 e7 HLK
                obtain ⟨j, hj, rfl, HLJ⟩ := hrel
                obtain ⟨w7, hw7⟩ : ∃ w7, w7 = wr := ⟨_, rfl⟩
                rw [← hw7] at HLJ ⊢
                clear hw7
                have f6 : w7.cell? ⟨b, 10, none⟩ = some (.slice (some ⟨og, 0, none⟩) L2.length lc2) := by rw [HLL.out w7 HLJ.out]; exact HCL2.out
                have f7 : w7.cell? ⟨b, 11, none⟩ = some (.slice (some ⟨mg, 0, none⟩) L2.length mc2) := by rw [HLL.out w7 HLJ.out]; exact HCM2.out
                have k0 : w7.cell? ⟨og, k, none⟩ = some (.slice xa xl xc) := by rw [HLL.out w7 HLJ.out]; exact d0
                have k1 : w7.cell? ⟨mg, k, none⟩ = some (.int .i64 xm) := by rw [HLL.out w7 HLJ.out]; exact d1
                by_cases hjl : j < xl
                · obtain ⟨g, rfl, hcj⟩ := HXC.out j hjl
                  have g0 : w7.cell? ⟨g, j * 4, none⟩ = some (.int .i64 xm) := by rw [HLL.out w7 HLJ.out]; exact hcj 0 _ rfl
                  have g1 : w7.cell? ⟨g, j * 4 + 1, none⟩ = some (.int .i64 1) := by rw [HLL.out w7 HLJ.out]; exact hcj 1 _ rfl
                  have g2 : w7.cell? ⟨g, j * 4 + 2, none⟩ = some (.int .i64 2) := by rw [HLL.out w7 HLJ.out]; exact hcj 2 _ rfl
                  have g3 : w7.cell? ⟨g, j * 4 + 3, none⟩ = some (.int .i64 3) := by rw [HLL.out w7 HLJ.out]; exact hcj 3 _ rfl
                  have q2 : (0 : Int) ≤ (j : Int) := by omega
                  have q3 : (j : Int) < xl := by omega
                  clear hcj d0 d1
                  go_wp2_with fail
                  go_quiet (fail)
                  go_wp2_with fail
                  go_roundw
                  case rel => exact ⟨j + 1, by omega, by go_num, hide (like_dn HLJ.out _)⟩
                  case measure => simp [intOf]; omega
                · have q3 : (xl : Int) ≤ (j : Int) := by omega
                  clear d0 d1
                  go_wp2_with fail
                  go_roundw
                  case rel => exact ⟨k + 1, by omega, by go_num, HLJ⟩
                  case measure => simp [intOf]; omega
            · have q1 : (L2.length : Int) ≤ (k : Int) := by omega
              go_wp2_with fail
              go_loopw [9] (fun i w' => ∃ k : Nat, k ≤ L3.length ∧ i = .int .i64 k ∧ Hid (Like w' w)) (fun i _ => L3.length - (intOf i).toNat)
              case atStart => exact ⟨0, Nat.zero_le _, rfl, HLK⟩
              case round =>
                clear HLK
                obtain ⟨k, hk, rfl, HLK⟩ := hrel
                obtain ⟨w5, hw5⟩ : ∃ w5, w5 = wr := ⟨_, rfl⟩
                rw [← hw5] at HLK ⊢
                clear hw5
                have e6 : w5.cell? ⟨b, 12, none⟩ = some (.slice la3 L3.length lc3) := by rw [HLL.out w5 HLK.out]; exact HCL3.out
                by_cases hlt : k < L3.length
                · obtain ⟨og, oc, mg, mc, eo, em, d0, d1⟩ := two_rows HL3.out HM3.out hlt
                  rw [HEL3.out] at eo
                  rw [HEM3.out] at em
                  simp only [Value.slice.injEq, true_and] at eo em
                  obtain ⟨rfl, rfl⟩ := eo
                  obtain ⟨rfl, rfl⟩ := em
                  have HKT := hide (HKP3.out L3[k] (List.getElem_mem hlt))
                  have q0 : (0 : Int) ≤ (k : Int) := by omega
                  have q1 : (k : Int) < L3.length := by omega
                  generalize L3[k] = x at *
                  obtain ⟨xv, xm⟩ := x
                  simp only at d0 d1
                  obtain ⟨xa, xl, xc, hxv, hxl, hxc⟩ := kept_read HKT.out (by omega)
                  subst hxv
                  have HXC := hide hxc
                  clear hxc HKT
                  have e7 : w5.cell? ⟨og, k, none⟩ = some (.slice xa xl xc) := by rw [HLL.out w5 HLK.out]; exact d0
                  have qx : (xl : Int) ≤ 1000 := by omega
                  go_wp2_with fail
                  go_loopw [10] (fun i w' => ∃ j : Nat, j ≤ xl ∧ i = .int .i64 j ∧ Hid (Like w' w)) (fun i _ => xl - (intOf i).toNat)
                  case atStart => exact ⟨0, Nat.zero_le _, rfl, HLK⟩
                  case round =>
                    clear e6 e7 HLK
                    obtain ⟨j, hj, rfl, HLJ⟩ := hrel
                    obtain ⟨w7, hw7⟩ : ∃ w7, w7 = wr := ⟨_, rfl⟩
                    rw [← hw7] at HLJ ⊢
                    clear hw7
                    have f6 : w7.cell? ⟨b, 12, none⟩ = some (.slice (some ⟨og, 0, none⟩) L3.length lc3) := by rw [HLL.out w7 HLJ.out]; exact HCL3.out
                    have f7 : w7.cell? ⟨b, 13, none⟩ = some (.slice (some ⟨mg, 0, none⟩) L3.length mc3) := by rw [HLL.out w7 HLJ.out]; exact HCM3.out
                    have k0 : w7.cell? ⟨og, k, none⟩ = some (.slice xa xl xc) := by rw [HLL.out w7 HLJ.out]; exact d0
                    have k1 : w7.cell? ⟨mg, k, none⟩ = some (.int .i64 xm) := by rw [HLL.out w7 HLJ.out]; exact d1
                    by_cases hjl : j < xl
                    · obtain ⟨g, rfl, hcj⟩ := HXC.out j hjl
                      have g0 : w7.cell? ⟨g, j * 4, none⟩ = some (.int .i64 xm) := by rw [HLL.out w7 HLJ.out]; exact hcj 0 _ rfl
                      have g1 : w7.cell? ⟨g, j * 4 + 1, none⟩ = some (.int .i64 0) := by rw [HLL.out w7 HLJ.out]; exact hcj 1 _ rfl
                      have g2 : w7.cell? ⟨g, j * 4 + 2, none⟩ = some (.int .i64 0) := by rw [HLL.out w7 HLJ.out]; exact hcj 2 _ rfl
                      have g3 : w7.cell? ⟨g, j * 4 + 3, none⟩ = some (.int .i64 0) := by rw [HLL.out w7 HLJ.out]; exact hcj 3 _ rfl
                      have q2 : (0 : Int) ≤ (j : Int) := by omega
                      have q3 : (j : Int) < xl := by omega
                      clear hcj d0 d1
                      go_wp2_with fail
                      go_quiet (fail)
                      go_wp2_with fail
                      go_roundw
                      case rel => exact ⟨j + 1, by omega, by go_num, hide (like_dn HLJ.out _)⟩
                      case measure => simp [intOf]; omega
                    · have q3 : (xl : Int) ≤ (j : Int) := by omega
                      clear d0 d1
                      go_wp2_with fail
                      go_roundw
                      case rel => exact ⟨k + 1, by omega, by go_num, HLJ⟩
                      case measure => simp [intOf]; omega
                · have q1 : (L3.length : Int) ≤ (k : Int) := by omega
                  go_wp2_with fail
                  go_loopw [11] (fun i w' => ∃ k : Nat, k ≤ L4.length ∧ i = .int .i64 k ∧ Hid (Like w' w)) (fun i _ => L4.length - (intOf i).toNat)
                  case atStart => exact ⟨0, Nat.zero_le _, rfl, HLK⟩
                  case round =>
                    clear HLK
                    obtain ⟨k, hk, rfl, HLK⟩ := hrel
                    obtain ⟨w5, hw5⟩ : ∃ w5, w5 = wr := ⟨_, rfl⟩
                    rw [← hw5] at HLK ⊢
                    clear hw5
                    have e6 : w5.cell? ⟨b, 14, none⟩ = some (.slice la4 L4.length lc4) := by rw [HLL.out w5 HLK.out]; exact HCL4.out
                    by_cases hlt : k < L4.length
                    · obtain ⟨og, oc, mg, mc, eo, em, d0, d1⟩ := two_rows HL4.out HM4.out hlt
                      rw [HEL4.out] at eo
                      rw [HEM4.out] at em
                      simp only [Value.slice.injEq, true_and] at eo em
                      obtain ⟨rfl, rfl⟩ := eo
                      obtain ⟨rfl, rfl⟩ := em
                      have HKT := hide (HKP4.out L4[k] (List.getElem_mem hlt))
                      have q0 : (0 : Int) ≤ (k : Int) := by omega
                      have q1 : (k : Int) < L4.length := by omega
                      generalize L4[k] = x at *
                      obtain ⟨xv, xm⟩ := x
                      simp only at d0 d1
                      obtain ⟨xa, xl, xc, hxv, hxl, hxc⟩ := kept_read4 HKT.out
                      subst hxv
                      have HXC := hide hxc
                      clear hxc HKT
                      have e7 : w5.cell? ⟨og, k, none⟩ = some (.slice xa xl xc) := by rw [HLL.out w5 HLK.out]; exact d0
                      have qx : (xl : Int) ≤ 1000 := by omega
                      go_wp2_with fail
                      go_loopw [12] (fun i w' => ∃ j : Nat, j ≤ xl ∧ i = .int .i64 j ∧ Hid (Like w' w)) (fun i _ => xl - (intOf i).toNat)
                      case atStart => exact ⟨0, Nat.zero_le _, rfl, HLK⟩
                      case round =>
                        clear e6 e7 HLK
                        obtain ⟨j, hj, rfl, HLJ⟩ := hrel
                        obtain ⟨w7, hw7⟩ : ∃ w7, w7 = wr := ⟨_, rfl⟩
                        rw [← hw7] at HLJ ⊢
                        clear hw7
                        have f6 : w7.cell? ⟨b, 14, none⟩ = some (.slice (some ⟨og, 0, none⟩) L4.length lc4) := by rw [HLL.out w7 HLJ.out]; exact HCL4.out
                        have f7 : w7.cell? ⟨b, 15, none⟩ = some (.slice (some ⟨mg, 0, none⟩) L4.length mc4) := by rw [HLL.out w7 HLJ.out]; exact HCM4.out
                        have k0 : w7.cell? ⟨og, k, none⟩ = some (.slice xa xl xc) := by rw [HLL.out w7 HLJ.out]; exact d0
                        have k1 : w7.cell? ⟨mg, k, none⟩ = some (.int .i64 xm) := by rw [HLL.out w7 HLJ.out]; exact d1
                        by_cases hjl : j < xl
                        · obtain ⟨g, g', cap', rfl, hcj, hcb⟩ := HXC.out j hjl
                          have g0 : w7.cell? ⟨g, j, none⟩ = some (.slice (some ⟨g', 0, none⟩) 1 cap') := by rw [HLL.out w7 HLJ.out]; exact hcj
                          have g1 : w7.cell? ⟨g', 0, none⟩ = some (.int .i64 xm) := by rw [HLL.out w7 HLJ.out]; simp [World.cell?, hcb, elC]
                          have g2 : w7.cell? ⟨g', 1, none⟩ = some (.int .i64 0) := by rw [HLL.out w7 HLJ.out]; simp [World.cell?, hcb, elC]
                          have g3 : w7.cell? ⟨g', 2, none⟩ = some (.int .i64 0) := by rw [HLL.out w7 HLJ.out]; simp [World.cell?, hcb, elC]
                          have g4 : w7.cell? ⟨g', 3, none⟩ = some (.int .i64 0) := by rw [HLL.out w7 HLJ.out]; simp [World.cell?, hcb, elC]
                          have q2 : (0 : Int) ≤ (j : Int) := by omega
                          have q3 : (j : Int) < xl := by omega
                          clear hcj hcb d0 d1
                          go_wp2_with fail
                          go_quiet (fail)
                          go_wp2_with fail
                          go_roundw
                          case rel => exact ⟨j + 1, by omega, by go_num, hide (like_dn HLJ.out _)⟩
                          case measure => simp [intOf]; omega
                        · have q3 : (xl : Int) ≤ (j : Int) := by omega
                          clear d0 d1
                          go_wp2_with fail
                          go_roundw
                          case rel => exact ⟨k + 1, by omega, by go_num, HLJ⟩
                          case measure => simp [intOf]; omega
                    · have q1 : (L4.length : Int) ≤ (k : Int) := by omega
                      go_wp2_with fail
                      go_ret
                      exact ⟨rfl, HLK.out⟩

end Go.Proofs.YtklenjmfalljgaaGreatDoor

/- The walk of keepInts, whole. -/
namespace Go.Proofs.YtklenjmfalljgaaGreatDoor
open Go.RowKit
attribute [local go_sem] Go.World.cell?_alloc_some

theorem set_el0 (m : Int) (xs : List Value) (k len : Nat) (hx : xs.length = len * 1) (hk : k < len) : (((List.replicate k (elC m 0)).flatten ++ xs.drop (k * 1)).set (k) (.int .i64 m)) = (List.replicate (k + 1) (elC m 0)).flatten ++ xs.drop ((k + 1) * 1) := by
  obtain ⟨ys, hy⟩ : ∃ ys, ys = (List.replicate k (elC m 0)).flatten := ⟨_, rfl⟩
  have hyl : ys.length = k * 1 := by rw [hy]; exact flat_rep_len _ _
  rw [← flat_rep_snoc, ← hy]
  have h1 : 1 ≤ (xs.drop (k * 1)).length := by rw [List.length_drop]; omega
  have h2 : xs.drop ((k + 1) * 1) = (xs.drop (k * 1)).drop 1 := by rw [List.drop_drop]; congr 1 <;> omega
  rw [h2]
  generalize xs.drop (k * 1) = zs at h1
  obtain ⟨z0, rest, rfl⟩ : ∃ z0 rest, zs = z0 :: rest := by
    match zs, h1 with
    | z0 :: rest, _ => exact ⟨z0, rest, rfl⟩
  rw [List.set_append, if_neg (by omega)]
  have e : k - ys.length = 0 := by omega
  rw [e]
  simp [elC]

set_option maxRecDepth 100000 in
set_option maxHeartbeats 2000000 in
theorem keepInts_g (B : Nat) (w : World) (b : Nat) (who : Nat → Role) (n : Int) (f : Nat → Value) (K : Nat → List (Value × Int)) (lv : Value) (len : Nat) (xs : List Value) (hH : HsK B w b who n f K) (hl : w.ownsRow B 3 1 lv len xs) (ho : ∀ g, lv.ownBlock = some g → who g = .other)
    (hn0 : 0 ≤ n) (hn1 : n ≤ 10000000000000) (hK : (K 0).length ≤ 5000000000000) (ha : len ≤ 900) :
    Calls Tryz.prog 46 #[pt b, lv] w fun e w' => (∃ v, e = .returned v) ∧ ∃ who' f' K', HsK B w' b who' (n + 1) f' K' ∧ After 0 w w' who who' f f' K K' (fun g => lv.ownBlock = some g) := by
  obtain ⟨i0, hi0, hz0, hz1, hz2⟩ := info_parts info_int
  obtain ⟨i1, hi1, hy0, hy1, hy2⟩ := info_parts info_ints
  obtain ⟨i2, hi2, hx0, hx1, hx2⟩ := info_parts info_int
  have hxl := hl.1
  obtain ⟨x1, x2, x3, rfl⟩ := owns_form hl
  have hx2 := (owns_lenq hl).symm
  subst hx2
  have HM := hide (mark_g hH.1 hn0 (by omega))
  have HO := hide ho
  have H0 : Hid (WrG B 0 w (w.setCell ⟨b, 5, none⟩ (.int .i64 (n + 1))) b who (n + 1) f (setF f 5 (.int .i64 (n + 1))) K (.slice x1 len x3) len xs (-77000000 - (n + 1)) 0) := by
    refine ⟨⟨hH.1.setCnt _, hH.2⟩, ?_, ?_, fun o ho => setF_ne _ _ (by omega)⟩
    · have hbo : (Value.slice x1 len x3).ownBlock ≠ some b := fun e => by have := ho b e; rw [hH.1.wb] at this; cases this
      have h5 := ownsRow_setCell_other (a := ⟨b, 5, none⟩) hl hbo (.int .i64 (n + 1))
      have e5 : (List.replicate 0 (elC (-77000000 - (n + 1)) 0)).flatten ++ xs.drop (0 * (elC (-77000000 - (n + 1)) 0).length) = xs := by simp
      rw [e5]; exact h5
    · exact Fr.set (Or.inl (by rw [hH.1.wb]; simp))
  have hpt : pt b = .pointer (some ⟨b, 0, none⟩) := rfl
  rw [hpt] at *
  clear hH hl ho hpt
  generalize hm : -77000000 - (n + 1) = m at *
  have HMM := hide hm
  clear hm
  go_enter Tryz.func46, Tryz.ntmps46
  go_wp2_with (go_at_call 57; refine HM.out.mono ?_; rintro e w1 ⟨rfl, rfl⟩)
  go_loopw [5] (fun i w' => ∃ k : Nat, k ≤ len ∧ i = .int .i64 k ∧ Hid (WrG B 0 w w' b who (n + 1) f (setF f 5 (.int .i64 (n + 1))) K (.slice x1 len x3) len xs m k)) (fun i _ => len - (intOf i).toNat)
  case atStart => exact ⟨0, Nat.zero_le _, rfl, H0⟩
  case round =>
    clear H0 HM
    obtain ⟨k, hk, rfl, HI⟩ := hrel
    obtain ⟨w5, hw5⟩ : ∃ w5, w5 = wr := ⟨_, rfl⟩
    rw [← hw5] at HI ⊢
    clear hw5
    by_cases hlt : k < len
    · obtain ⟨g, cp, e0, _, _⟩ := HI.out.row.form (by omega)
      have hrow : w5.ownsRow B 3 1 (.slice x1 len x3) len ((List.replicate k (elC m 0)).flatten ++ xs.drop (k * 1)) := HI.out.row
      rw [e0] at hrow
      simp only [Value.slice.injEq, true_and] at e0
      obtain ⟨rfl, rfl⟩ := e0
      have hgo := HO.out g rfl
      obtain ⟨u0, y0⟩ : ∃ u, w5.cell? ⟨g, k, none⟩ = some u := cell_at hrow (by omega)
      have z0 : w5.frozen? ⟨g, k, none⟩ = false := free_at hrow
      have HNX : Hid (WrG B 0 w (w5.setCell ⟨g, k, none⟩ (.int .i64 m)) b who (n + 1) f (setF f 5 (.int .i64 (n + 1))) K (.slice (some ⟨g, 0, none⟩) len x3) len xs m (k + 1)) := by
        have hs := HI.out
        refine ⟨(hs.hs.setOther hgo), ?_, ?_, hs.lent⟩
        · have h9 := (owns_setCell hrow (k) (.int .i64 m))
          have e9 := set_el0 m xs k len hxl hlt
          rw [e9] at h9
          exact h9
        · exact (hs.fr).trans (Fr.set (Or.inr rfl))
      have q0 : (0 : Int) ≤ (k : Int) := by omega
      have q1 : (k : Int) < len := by omega
      clear hrow hgo
      go_wp2_with fail
      go_roundw
      case rel => exact ⟨k + 1, by omega, by go_num, HNX⟩
      case measure => simp [intOf]; omega
    · have ek : k = len := by omega
      have q1 : (len : Int) ≤ (k : Int) := by omega
      have HS : Hid (∃ who1, KpG B 0 w w5 b who who1 (n + 1) m f (setF f 5 (.int .i64 (n + 1))) K K (.slice x1 len x3) len 0 (fun g => (Value.slice x1 len x3).ownBlock = some g)) := by
        have hi := HI.out
        rw [ek] at hi
        exact hi.kp (by omega) hxl (by omega) HO.out
      clear HI ek
      go_wp2_with fail
      go_loopw [1, 6] (fun lv' i w' => ∃ (k : Nat) (who' : Nat → Role) (f' : Nat → Value) (K' : Nat → List (Value × Int)), k ≤ 4 ∧ i = .int .i64 k ∧ Hid (KpG B 0 w w' b who who' (n + 1) m f f' K K' lv' (len + k) k (fun g => (Value.slice x1 len x3).ownBlock = some g))) (fun _ i _ => 4 - (intOf i).toNat)
      case atStart =>
        obtain ⟨who1, h1⟩ := HS.out
        exact ⟨0, who1, _, K, by omega, rfl, hide h1⟩
      case round =>
        clear HS
        obtain ⟨j, who', f', K', hj, rfl, HK⟩ := hrel
        obtain ⟨w7, hw7⟩ : ∃ w7, w7 = wr := ⟨_, rfl⟩
        rw [← hw7] at HK ⊢
        clear hw7
        have rO : w7.ownsRow B 25 1 (f' 6) (K' 0).length ((K' 0).map (·.1)) := HK.out.hs.lst 0 (by omega)
        have rM : w7.ownsRow B 3 1 (f' 7) (K' 0).length (ints ((K' 0).map (·.2))) := by have := HK.out.hs.mrk 0 (by omega); simpa [marksOf] using this
        have rL : w7.ownsRow B 3 1 u1 (len + j) (List.replicate (len + j) (elC m 0)).flatten := HK.out.cu.row
        have HLE : Hid ((K' 0).length = (K 0).length + j) := HK.out.len
        have c6 : w7.cell? ⟨b, 6, none⟩ = some (f' 6) := HK.out.hs.blk.cell (by omega)
        have hbase : B ≤ w7.heap.size := by have := HK.out.hs.blk.lt; have := (HK.out.hs.dom b (by rw [HK.out.hs.wb]; simp)).1; omega
        obtain ⟨l1, l2, l3, rfl⟩ := owns_form rL
        have hl2 := owns_lenq rL
        subst hl2
        obtain ⟨o1, o2, o3, eO⟩ := owns_form rO
        rw [eO] at rO c6
        have ho2 := owns_lenq rO
        subst ho2
        have hLL : (K' 0).length ≤ 5000000000003 ∨ ¬ j < 4 := by have := HLE.out; omega
        have HRL := hide rL
        have HRO := hide rO
        have HEO := hide eO
        have HRM := hide rM
        clear rL rO rM eO
        by_cases hj4 : j < 4
        · have hLL : (K' 0).length ≤ 5000000000003 := by omega
          have z2 : (j : Int) < 4 := by omega
          have h63a : (K' 0).length + 1 ≤ maxLen := by unfold maxLen; omega
          have h63c : len + j + 1 ≤ maxLen := by unfold maxLen; omega
          have HPU : Hid (∀ {o : Obj} {g6 c6 : Nat} {w6 : World}, w6.ownsRow B 25 1 (.slice (some ⟨g6, 0, none⟩) ((K' 0).length + 1) c6) ((K' 0).length + 1) ((K' 0).map (·.1) ++ [.slice l1 (len + j) l3]) →
              (((Value.slice o1 (K' 0).length o3).ownBlock = some g6 ∧ (w7.alloc o).grownBy w6 (some g6)) ∨ (g6 = w7.heap.size + 1 ∧ (w7.alloc o).grownBy w6 none)) →
              HB w6 b f' ∧ ∃ who'' f'', KpA B 0 w (w6.setCell ⟨b, 6, none⟩ (.slice (some ⟨g6, 0, none⟩) ((K' 0).length + 1) c6)) b who who'' (n + 1) m f f'' K K' (.slice l1 (len + j) l3) (len + j) j (fun g => (Value.slice x1 len x3).ownBlock = some g) ∧ f'' 7 = f' 7) := by
            intro o g6 c6 w6 hown key
            rw [← HEO.out] at key
            exact HK.out.push (by omega) hown key
          generalize hKl : (K' 0).length = N at *
          generalize hKm : (K' 0).map (·.1) = L1 at *
          have HKl := hide hKl
          clear hKl hKm
          go_upto_region 9 with (at_builtin; go_must (refine wpList_append_keeps rfl _ _ _ rfl B 25 i1 _ 1 24 Tryz.underlying38 hi1 hy0 hy1 hy2 rfl (by omega) (.slice o1 N o3) N L1 rfl (owns_alloc HRO.out) ⟨w7.heap.size, 0, none⟩ 1 1 [.slice l1 (len + j) l3] rfl rfl (World.news_of_block (cs := #[.slice l1 (len + j) l3]) (t := 25) (fr := (0, 0)) (heap_alloc_new w7 _)) (by simp [Value.oneCell']) (by omega) h63a (by omega) (by simp; omega) (w7.heap.size + 1) (by simp) ?_); intro g8 cap8 w8 hown8 key8 hlt8; have hb8 := (HPU.out hown8 key8).1; have p6 : w8.cell? ⟨b, 6, none⟩ = some (.slice o1 N o3) := (by rw [hb8.cell (by omega), HEO.out]); have p7 := hb8.frozen 6)
          obtain ⟨_, who9, f9, hk9, e9⟩ := HPU.out hown8 key8
          generalize w8.setCell ⟨b, 6, none⟩ (.slice (some ⟨g8, 0, none⟩) (N + 1) cap8) = w9 at *
          have HK9 := hide hk9
          have rM9 : w9.ownsRow B 3 1 (f9 7) N (ints ((K' 0).map (·.2))) := by
            have := hk9.hs.mrk 0 (by omega)
            rw [← HKl.out]
            simpa [marksOf] using this
          have c7 : w9.cell? ⟨b, 7, none⟩ = some (f9 7) := hk9.hs.blk.cell (by omega)
          obtain ⟨m1, m2, m3, eM⟩ := owns_form rM9
          rw [eM] at rM9 c7
          have hm2 := (owns_lenq rM9).symm
          subst hm2
          have hbase9 : B ≤ w9.heap.size := by have := hk9.hs.blk.lt; have := (hk9.hs.dom b (by rw [hk9.hs.wb]; simp)).1; omega
          have HRM9 := hide rM9
          have HEM := hide eM
          clear hown8 key8 hb8 p6 p7 hlt8 c6 hk9 e9 HPU rM9 eM HEO HRO HRM
          go_upto_region 10 with (at_builtin; go_must (refine wpList_append_keeps rfl _ _ _ rfl B 3 i2 _ 1 8 Tryz.underlying25 hi2 hx0 hx1 hx2 rfl (by omega) (.slice m1 N m3) N (ints ((K' 0).map (·.2))) rfl (owns_alloc HRM9.out) ⟨w9.heap.size, 0, none⟩ 1 1 [.int .i64 m] rfl rfl (World.news_of_block (cs := #[.int .i64 m]) (t := 3) (fr := (0, 0)) (heap_alloc_new w9 _)) (by simp [Value.oneCell']) (by omega) h63a (by omega) (by simp; omega) (w9.heap.size + 1) (by simp) ?_); intro g10 cap10 w10 hown10 key10 hlt10; have hb10 := (HK9.out.tell (by omega) (M1 := m1) (M3 := m3) HEM.out HKl.out hown10 key10).1; have p6 : w10.cell? ⟨b, 7, none⟩ = some (.slice m1 N m3) := (by rw [hb10.cell (by omega), HEM.out]); have p7 := hb10.frozen 7)
          obtain ⟨_, who11, f11, hk11⟩ := HK9.out.tell (by omega) (M1 := m1) (M3 := m3) HEM.out HKl.out hown10 key10
          generalize w10.setCell ⟨b, 7, none⟩ (.slice (some ⟨g10, 0, none⟩) (N + 1) cap10) = w11 at *
          have HK11 := hide hk11
          have HRL11 : Hid (w11.ownsRow B 3 1 (.slice l1 (len + j) l3) (len + j) (List.replicate (len + j) (elC m 0)).flatten) := hk11.cu.row
          have hbase11 : B ≤ w11.heap.size := by have := hk11.hs.blk.lt; have := (hk11.hs.dom b (by rw [hk11.hs.wb]; simp)).1; omega
          clear hown10 key10 hb10 p6 p7 hlt10 c7 hk11 HK9 HRM9 HEM HRL
          go_wp2_with (at_builtin; go_must (refine wpList_append_keeps rfl _ _ _ rfl B 3 i0 _ 1 8 Tryz.underlying25 hi0 hz0 hz1 hz2 rfl (by omega) (.slice l1 (len + j) l3) (len + j) (List.replicate (len + j) (elC m 0)).flatten rfl (owns_alloc HRL11.out) ⟨w11.heap.size, 0, none⟩ 1 1 [.int .i64 m] rfl rfl (World.news_of_block (cs := #[.int .i64 m]) (t := 3) (fr := (0, 0)) (heap_alloc_new w11 _)) (by simp [Value.oneCell']) (by omega) h63c (by omega) (by simp; omega) (w11.heap.size + 1) (by simp) ?_); intro g12 cap12 w12 hown12 key12 hlt12; have HK13 := hide (HK11.out.grow (by omega) (by omega) hown12 key12); clear hown12 key12 hlt12)
          go_roundw
          case rel =>
            obtain ⟨who13, h13⟩ := HK13.out
            exact ⟨j + 1, who13, _, _, by omega, by go_num, hide h13⟩
          case measure => simp [intOf]; omega
        · have z2 : (4 : Int) ≤ (j : Int) := by omega
          have HE : Hid (∃ who' f' K', HsK B w7 b who' (n + 1) f' K' ∧ After 0 w w7 who who' f f' K K' (fun g => (Value.slice x1 len x3).ownBlock = some g)) := by
            have ej : j = 4 := by omega
            have hk := HK.out
            rw [ej] at hk
            exact hk.done
          go_wp2_with fail
          go_end0
          exact ⟨⟨_, rfl⟩, HE.out⟩

end Go.Proofs.YtklenjmfalljgaaGreatDoor

/- What the hands' walks have in common. -/
namespace Go.Proofs.YtklenjmfalljgaaGreatDoor
open Go.RowKit

theorem val_other {B : Nat} {W w : World} {b : Nat} {who : Nat → Role} {n : Int} {f : Nat → Value} {K : Nat → List (Value × Int)} {sv : Value} {s : List Int} (hH : HsK B w b who n f K) (hWB : W.heap.size ≤ B) (hI : IntsAt W.heap.size W sv s) : valOther who sv := by
  intro g o l c e hl
  obtain ⟨ao, cap, rfl, _, h⟩ := hI
  simp only [Value.slice.injEq] at e
  obtain ⟨e1, e2, _⟩ := e
  obtain ⟨g', o', e3, e4, _⟩ := h 0 (by omega)
  rw [e1] at e3
  simp only [Option.some.injEq, Addr.mk.injEq, and_true] at e3
  by_cases ho : who g = .other
  · exact ho
  · have := (hH.1.dom g ho).1
    omega
/-- What a walk of the hands leaves that answers true. -/
def HzG (W : World) (B b : Nat) (n : Int) (K : Nat → List (Value × Int)) (e : Ending) (w' : World) : Prop :=
  e = .returned (.bool true) ∧ ∃ who' f' K', Hz B w' b who' n f' K' ∧ W.grownBy w' none ∧ ∀ c, c < 5 → (K' c).length ≤ (K c).length + 4

end Go.Proofs.YtklenjmfalljgaaGreatDoor

/- The reference's Check: pure, and its walk. -/
namespace Go.Proofs.YtklenjmfalljgaaGreatDoor
open Go.RowKit
attribute [local go_sem] Go.World.cell?_alloc_some

def shapeR (op : Int) : Int × Int × Int :=
  if op = 1 then (4, 0, 1) else if 2 ≤ op ∧ op ≤ 7 then (4, 4, 0) else if op = 8 then (4, 0, 2) else if op = 9 ∨ op = 10 then (3, 0, 0) else if op = 11 then (4, 0, 0) else (-1, 0, 0)
def belowR (v n : Int) : Bool := v == 0 || (decide (0 < v) && decide (v < n))
def placeR (c v n : Int) : Bool := c == 1 || v == 0 || (c == 2 && decide (0 < v) && decide (v ≤ n))
def insR (i : Ins) (n : Int) : Bool := !decide ((shapeR i.op).1 < 0) && belowR i.a (shapeR i.op).1 && belowR i.b (shapeR i.op).2.1 && placeR (shapeR i.op).2.2 i.n n

theorem belowR_four (v : Int) : belowR v 4 = belowB v 4 := by
  unfold belowR belowB; rw [Bool.eq_iff_iff]; simp; omega
theorem belowR_three (v : Int) : belowR v 3 = belowB v 3 := by
  unfold belowR belowB; rw [Bool.eq_iff_iff]; simp; omega
theorem belowR_zero (v : Int) : belowR v 0 = (v == 0) := by
  unfold belowR; rw [Bool.eq_iff_iff]; simp; omega
theorem placeR_two (v n : Int) (hn : 0 ≤ n) : placeR 2 v n = belowB v (n + 1) := by
  unfold placeR belowB; rw [Bool.eq_iff_iff]; simp; omega
theorem insR_eq (i : Ins) (n : Int) (hn : 0 ≤ n) : insR i n = vIns i n := by
  obtain ⟨op, a, b, m⟩ := i
  by_cases h : 1 ≤ op ∧ op ≤ 11
  · have hc : op = 1 ∨ op = 2 ∨ op = 3 ∨ op = 4 ∨ op = 5 ∨ op = 6 ∨ op = 7 ∨ op = 8 ∨ op = 9 ∨ op = 10 ∨ op = 11 := by omega
    have z0 : placeR 0 m n = (m == 0) := by unfold placeR; simp
    have z1 : placeR 1 m n = true := by unfold placeR; simp
    have z2 := placeR_two m n hn
    rcases hc with rfl | rfl | rfl | rfl | rfl | rfl | rfl | rfl | rfl | rfl | rfl <;> simp [insR, vIns, shapeR, shp, fitsB, belowR_four, belowR_three, belowR_zero, z0, z1, z2, Bool.and_assoc]
  · have hs : shapeR op = (-1, 0, 0) := by
      unfold shapeR
      rw [if_neg (by omega), if_neg (by omega), if_neg (by omega), if_neg (by omega), if_neg (by omega)]
    have hv : vIns ⟨op, a, b, m⟩ n = false := by
      simp only [vIns]
      by_cases h1 : 1 ≤ op
      · have : ¬ op ≤ 11 := by omega
        simp [this]
      · simp [h1]
    rw [hv]
    simp [insR, hs]

set_option maxHeartbeats 400000 in
theorem rbelow_m (v n : Int) (w : World) : Calls Tryz.prog 56 #[.int .i64 v, .int .i64 n] w fun e w' => e = .returned (.bool (belowR v n)) ∧ w' = w := by
  by_cases h0 : v = 0
  · have HB : Hid (belowR v n = true) := by unfold Hid belowR; simp [h0]
    subst h0
    go_enter Tryz.func56, Tryz.ntmps56
    go_wp2_with fail
    go_ret
    exact ⟨by rw [HB.out]; rfl, rfl⟩
  · have h0' : (v == 0) = false := by simpa using h0
    by_cases h1 : 0 < v
    · by_cases h2 : v < n
      · have HB : Hid (belowR v n = true) := by unfold Hid belowR; simp [h1, h2]
        go_enter Tryz.func56, Tryz.ntmps56
        go_wp2_with fail
        go_ret
        exact ⟨by rw [HB.out]; rfl, rfl⟩
      · have HB : Hid (belowR v n = false) := by unfold Hid belowR; simp [h0, h2]
        have h3 : n ≤ v := by omega
        go_enter Tryz.func56, Tryz.ntmps56
        go_wp2_with fail
        go_ret
        exact ⟨by rw [HB.out]; rfl, rfl⟩
    · have HB : Hid (belowR v n = false) := by unfold Hid belowR; simp [h0, h1]
      have h3 : v ≤ 0 := by omega
      go_enter Tryz.func56, Tryz.ntmps56
      go_wp2_with fail
      go_ret
      exact ⟨by rw [HB.out]; rfl, rfl⟩

def shapeV (x : Int × Int × Int) : Value := .tuple #[.int .i64 x.1, .int .i64 x.2.1, .int .i64 x.2.2]
set_option maxHeartbeats 1000000 in
theorem shape_m (op : Int) (w : World) : Calls Tryz.prog 55 #[.int .i64 op] w fun e w' => e = .returned (shapeV (shapeR op)) ∧ w' = w := by
  by_cases h : 1 ≤ op ∧ op ≤ 11
  · have hc : op = 1 ∨ op = 2 ∨ op = 3 ∨ op = 4 ∨ op = 5 ∨ op = 6 ∨ op = 7 ∨ op = 8 ∨ op = 9 ∨ op = 10 ∨ op = 11 := by omega
    rcases hc with rfl | rfl | rfl | rfl | rfl | rfl | rfl | rfl | rfl | rfl | rfl
    all_goals
      go_enter Tryz.func55, Tryz.ntmps55
      go_wp2_with fail
      refine bodyPost_ret (v := shapeV (shapeR _)) (by simp [results, Tryz.results55, go_sem, shapeV, shapeR]) rfl ⟨rfl, rfl⟩
  · have hs : shapeR op = (-1, 0, 0) := by
      unfold shapeR
      rw [if_neg (by omega), if_neg (by omega), if_neg (by omega), if_neg (by omega), if_neg (by omega)]
    have n1 : (op == 1) = false := by simp; omega
    have n2 : (op == 2) = false := by simp; omega
    have n3 : (op == 3) = false := by simp; omega
    have n4 : (op == 4) = false := by simp; omega
    have n5 : (op == 5) = false := by simp; omega
    have n6 : (op == 6) = false := by simp; omega
    have n7 : (op == 7) = false := by simp; omega
    have n8 : (op == 8) = false := by simp; omega
    have n9 : (op == 9) = false := by simp; omega
    have n10 : (op == 10) = false := by simp; omega
    have n11 : (op == 11) = false := by simp; omega
    rw [hs]
    clear hs h
    go_enter Tryz.func55, Tryz.ntmps55
    go_wp2_with fail
    refine bodyPost_ret (v := shapeV (-1, 0, 0)) (by simp [results, Tryz.results55, go_sem, shapeV]) rfl ⟨rfl, rfl⟩

end Go.Proofs.YtklenjmfalljgaaGreatDoor

/- The walk of the reference's Check. -/
namespace Go.Proofs.YtklenjmfalljgaaGreatDoor
open Go.RowKit
attribute [local go_sem] Go.World.cell?_alloc_some

def chkR (p : List (List Ins)) : Bool := decide (1 ≤ p.length) && (decide (p.length ≤ 4) && p.all fun c => decide (c.length ≤ 16) && c.all fun i => insR i c.length)
theorem chkR_eq (p : List (List Ins)) : chkR p = vProg p := by
  unfold chkR vProg vCode
  congr 2
  congr 1
  funext c
  congr 2
  funext i
  exact insR_eq i _ (by omega)

theorem all_split {α : Type} (l : List α) (f : α → Bool) (k : Nat) (hk : k < l.length) (h : f l[k] = false) : l.all f = false := by
  rw [List.all_eq_false]
  exact ⟨_, List.getElem_mem hk, by simp [h]⟩
theorem take_all {α : Type} (l : List α) (f : α → Bool) (k : Nat) (hk : k < l.length) (h : (l.take k).all f = true) (h2 : f l[k] = true) : (l.take (k + 1)).all f = true := by
  rw [List.take_succ_eq_append_getElem hk, List.all_append, h]; simp [h2]

set_option maxRecDepth 100000 in
set_option maxHeartbeats 4000000 in
theorem refcheck_m (p : List (List Ins)) (pv : Value) (w : World) (hP : ProgAt w pv p) (hp : p.length ≤ 1048576) (hpc : ∀ c ∈ p, c.length ≤ 1048576) :
    Calls Tryz.prog 32 #[pv] w fun e w' => e = .returned (.int .i64 (checkN p)) ∧ w.grownBy w' none := by
  have HP := hide hP
  have HPC := hide hpc
  obtain ⟨ao, cap, rfl⟩ := hP.form
  clear hP hpc
  have q0 : (p.length : Int) ≤ 1048576 := by omega
  have HN1 : Hid (chkR p = false → checkN p = 1) := fun e => by rw [chkR_eq] at e; unfold checkN; simp [e]
  have HN0 : Hid (chkR p = true → checkN p = 0) := fun e => by rw [chkR_eq] at e; unfold checkN; simp [e]
  by_cases hlen : 1 ≤ p.length ∧ p.length ≤ 4
  · have g1 : (1 : Int) ≤ p.length := by omega
    have g4 : (p.length : Int) ≤ 4 := by omega
    have HCK : Hid (∀ r, (p.all fun c => decide (c.length ≤ 16) && c.all fun i => insR i c.length) = r → chkR p = r) := fun r e => by unfold chkR; rw [e]; simp [hlen.1, hlen.2]
    go_enter Tryz.func32, Tryz.ntmps32
    go_wp2_with fail
    have hg1 : w.grownBy (w.alloc (.cells #[.slice ao p.length cap] 24)) none := grown_alloc (grown_refl _ _)
    have hB1 := heap_alloc_new w (.cells #[.slice ao p.length cap] 24)
    generalize w.alloc (.cells #[.slice ao p.length cap] 24) = w1 at hg1 hB1 ⊢
    have HB1 := hide hB1
    have HG1 := hide hg1
    have hbx : w.heap.size < w1.heap.size := (Array.getElem?_eq_some_iff.1 hB1).1
    clear hg1 hB1
    go_loopw [3] (fun i w' => ∃ t : Nat, t ≤ p.length ∧ i = .int .i64 t ∧ Hid (w1.grownBy w' none) ∧ Hid ((p.take t).all (fun c => decide (c.length ≤ 16) && c.all fun i => insR i c.length) = true)) (fun i _ => p.length - (intOf i).toNat)
    case atStart => exact ⟨0, Nat.zero_le _, rfl, hide (grown_refl _ _), by simp [Hid]⟩
    case round =>
      obtain ⟨t, ht, rfl, HG, HA⟩ := hrel
      obtain ⟨w5, hw5⟩ : ∃ w5, w5 = wr := ⟨_, rfl⟩
      rw [← hw5] at HG ⊢
      clear hw5
      have c0 : w5.cell? ⟨w.heap.size, 0, none⟩ = some (.slice ao p.length cap) := pres_grown HG.out _ _ (by have := HB1.out; simp [World.cell?, this])
      by_cases hlt : t < p.length
      · obtain ⟨ao', cap', e1, hcell⟩ := HP.out
        obtain ⟨pg, po, e2, rv, r1, r2⟩ := hcell t hlt
        simp only [Value.agg.injEq, Array.mk.injEq, List.cons.injEq, Value.slice.injEq, and_true, true_and] at e1
        obtain ⟨e1, e1'⟩ := e1
        subst e1 e1' e2
        have hpl : p[t].length ≤ 1048576 := HPC.out _ (List.getElem_mem hlt)
        obtain ⟨ca, cc, rfl, hci⟩ := r2
        have d0 : w5.cell? ⟨pg, po + t, none⟩ = some (.slice ca p[t].length cc) := pres_grown (grown_trans HG1.out HG.out) _ _ r1
        have HF : Hid (∀ r, (decide (p[t].length ≤ 16) && p[t].all fun i => insR i p[t].length) = r → (r = false → (p.all fun c => decide (c.length ≤ 16) && c.all fun i => insR i c.length) = false) ∧ (r = true → (p.take (t + 1)).all (fun c => decide (c.length ≤ 16) && c.all fun i => insR i c.length) = true)) := fun r e =>
          ⟨fun e2 => all_split p _ t hlt (by rw [e, e2]), fun e2 => take_all p _ t hlt HA.out (by rw [e, e2])⟩
        have HD0 := hide r1
        have HCI := hide hci
        clear hcell r1 hci
        generalize p[t] = c at *
        have t0 : (0 : Int) ≤ (t : Int) := by omega
        have t1 : (t : Int) < p.length := by omega
        have t2 : (c.length : Int) ≤ 1048576 := by omega
        by_cases h16 : c.length ≤ 16
        · have t3 : (c.length : Int) ≤ 16 := by omega
          go_wp2_with fail
          go_loopw [5] (fun i w' => ∃ k : Nat, k ≤ c.length ∧ i = .int .i64 k ∧ Hid (w1.grownBy w' none) ∧ Hid ((c.take k).all (fun i => insR i c.length) = true)) (fun i _ => c.length - (intOf i).toNat)
          case atStart => exact ⟨0, Nat.zero_le _, rfl, HG, by simp [Hid]⟩
          case round =>
            clear c0 d0 HG
            obtain ⟨k, hk, rfl, HG, HA2⟩ := hrel
            obtain ⟨w7, hw7⟩ : ∃ w7, w7 = wr := ⟨_, rfl⟩
            rw [← hw7] at HG ⊢
            clear hw7
            by_cases hkl : k < c.length
            · obtain ⟨ig, io, rfl, x1, x2, x3, x4⟩ := HCI.out k hkl
              have hGW := grown_trans HG1.out HG.out
              have c0 : w7.cell? ⟨w.heap.size, 0, none⟩ = some (.slice (some ⟨pg, po, none⟩) p.length cap) := pres_grown HG.out _ _ (by have := HB1.out; simp [World.cell?, this])
              have d0 : w7.cell? ⟨pg, po + t, none⟩ = some (.slice (some ⟨ig, io, none⟩) c.length cc) := pres_grown hGW _ _ HD0.out
              have y1 := pres_grown hGW _ _ x1
              have y2 := pres_grown hGW _ _ x2
              have y3 := pres_grown hGW _ _ x3
              have y4 := pres_grown hGW _ _ x4
              have HF2 : Hid (∀ r, insR c[k] c.length = r → (r = false → (c.all fun i => insR i c.length) = false) ∧ (r = true → (c.take (k + 1)).all (fun i => insR i c.length) = true)) := fun r e =>
                ⟨fun e2 => all_split c _ k hkl (by rw [e, e2]), fun e2 => take_all c _ k hkl HA2.out (by rw [e, e2])⟩
              clear x1 x2 x3 x4 hGW
              generalize c[k] = ins at *
              obtain ⟨op, ia, ib, im⟩ := ins
              simp only at y1 y2 y3 y4
              have s0 : (0 : Int) ≤ (k : Int) := by omega
              have s1 : (k : Int) < c.length := by omega
              go_wp2_with fail
              have hg8 : w7.grownBy (w7.alloc (.cells #[.int .i64 op, .int .i64 ia, .int .i64 ib, .int .i64 im] 74)) none := grown_alloc (grown_refl _ _)
              have hb8 := heap_alloc_new w7 (.cells #[.int .i64 op, .int .i64 ia, .int .i64 ib, .int .i64 im] 74)
              generalize w7.alloc (.cells #[.int .i64 op, .int .i64 ia, .int .i64 ib, .int .i64 im] 74) = w8 at hg8 hb8 ⊢
              have z1 : w8.cell? ⟨w7.heap.size, 1, none⟩ = some (.int .i64 ia) := by simp [World.cell?, hb8]
              have z2 : w8.cell? ⟨w7.heap.size, 2, none⟩ = some (.int .i64 ib) := by simp [World.cell?, hb8]
              have z3 : w8.cell? ⟨w7.heap.size, 3, none⟩ = some (.int .i64 im) := by simp [World.cell?, hb8]
              have HG8 := hide (grown_trans HG.out hg8)
              clear hg8 hb8 y1 y2 y3 y4 d0 c0 HG
              refine (shape_m op w8).mono ?_
              rintro e w9 ⟨rfl, hw9⟩
              have hw9 := hw9.symm
              subst hw9
              have HIR : Hid (∀ r, (!decide ((shapeR op).1 < 0) && belowR ia (shapeR op).1 && belowR ib (shapeR op).2.1 && placeR (shapeR op).2.2 im c.length) = r → insR ⟨op, ia, ib, im⟩ c.length = r) := fun r e => e
              have hc3 : (shapeR op).2.2 = 0 ∨ (shapeR op).2.2 = 1 ∨ (shapeR op).2.2 = 2 := by
                unfold shapeR; repeat' split
                all_goals simp
              have ha0 : (shapeR op).1 = -1 ∨ 0 ≤ (shapeR op).1 := by
                unfold shapeR; repeat' split
                all_goals simp
              unfold shapeV
              generalize shapeR op = sr at *
              obtain ⟨sa, sb, sc⟩ := sr
              simp only at HIR hc3 ha0 ⊢
              go_wp2_with fail
              refine (rbelow_m ia sa w8).mono ?_
              rintro e w9 ⟨rfl, hw9⟩
              have hw9 := hw9.symm
              subst hw9
              go_wp2_with fail
              refine (rbelow_m ib sb w8).mono ?_
              rintro e w9 ⟨rfl, hw9⟩
              have hw9 := hw9.symm
              subst hw9
              generalize belowR ia sa = xb at *
              generalize belowR ib sb = yb at *
              have HPL : Hid (∀ r, placeR sc im c.length = r → insR ⟨op, ia, ib, im⟩ c.length = (!decide (sa < 0) && xb && yb && r)) := fun r e => HIR.out _ (by rw [e])
              clear HIR
              go_upto_region 16 with fail
              go_cut [12] (fun zv w' => zv = .bool (placeR sc im c.length) ∧ w' = w8)
              case first =>
                by_cases him : im = 0
                · have hpl2 : placeR sc im c.length = true := by unfold placeR; simp [him]
                  have him' : (im == 0) = true := by simpa using him
                  rcases hc3 with rfl | rfl | rfl
                  all_goals
                    go_wp2_with fail
                    go_meet
                    exact ⟨by rw [hpl2], rfl⟩
                · have him' : (im == 0) = false := by simpa using him
                  rcases hc3 with rfl | rfl | rfl
                  · have hpl2 : placeR 0 im c.length = false := by unfold placeR; simp [him]
                    go_wp2_with fail
                    go_meet
                    exact ⟨by rw [hpl2], rfl⟩
                  · have hpl2 : placeR 1 im c.length = true := by unfold placeR; simp
                    go_wp2_with fail
                    go_meet
                    exact ⟨by rw [hpl2], rfl⟩
                  · by_cases hip : 0 < im
                    · by_cases hic : im ≤ (c.length : Int)
                      · have hpl2 : placeR 2 im c.length = true := by unfold placeR; simp [hip, hic]
                        go_wp2_with fail
                        go_meet
                        exact ⟨by rw [hpl2], rfl⟩
                      · have hpl2 : placeR 2 im c.length = false := by unfold placeR; simp [him, hic]
                        have hic' : (c.length : Int) < im := by omega
                        go_wp2_with fail
                        go_meet
                        exact ⟨by rw [hpl2], rfl⟩
                    · have hpl2 : placeR 2 im c.length = false := by unfold placeR; simp [him, hip]
                      have hip' : im ≤ 0 := by omega
                      go_wp2_with fail
                      go_meet
                      exact ⟨by rw [hpl2], rfl⟩
              case rest =>
              obtain ⟨rfl, hwc⟩ := hcut
              have hwc2 := hwc.symm
              subst hwc2
              generalize placeR sc im c.length = zb at *
              have HIN := hide (HPL.out zb rfl)
              clear HPL z1 z2 z3 hc3
              go_upto_region 17 with fail
              go_cut [101] (fun bv w' => bv = .bool (!insR ⟨op, ia, ib, im⟩ c.length) ∧ w' = w8)
              case first =>
                rcases ha0 with rfl | ha0
                · have hin : insR ⟨op, ia, ib, im⟩ c.length = false := by rw [HIN.out]; simp
                  go_wp2_with fail
                  go_meet
                  exact ⟨by rw [hin]; rfl, rfl⟩
                · have hna : ¬ sa < 0 := by omega
                  have hin : insR ⟨op, ia, ib, im⟩ c.length = (xb && yb && zb) := by rw [HIN.out]; simp [hna]
                  cases xb <;> cases yb <;> cases zb
                  all_goals
                    go_wp2_with fail
                    go_meet
                    exact ⟨by rw [hin]; rfl, rfl⟩
              case rest =>
              obtain ⟨rfl, hwc⟩ := hcut
              have hwc2 := hwc.symm
              subst hwc2
              clear HIN ha0
              have HFx := hide (HF2.out (insR ⟨op, ia, ib, im⟩ c.length) rfl)
              clear HF2
              generalize insR ⟨op, ia, ib, im⟩ c.length = rb at *
              cases rb
              · have HE : Hid (checkN p = 1) := by
                  refine HN1.out (HCK.out _ ?_)
                  refine (HF.out _ rfl).1 ?_
                  rw [HFx.out.1 rfl]; simp
                go_wp2_with fail
                go_ret
                exact ⟨by rw [HE.out]; rfl, grown_trans HG1.out HG8.out⟩
              · have HA3 := hide (HFx.out.2 rfl)
                go_wp2_with fail
                go_roundw
                case rel => exact ⟨k + 1, by omega, by go_num, HG8, HA3⟩
                case measure => simp [intOf]; omega
            · have s1 : (c.length : Int) ≤ (k : Int) := by omega
              have HA4 : Hid ((p.take (t + 1)).all (fun c => decide (c.length ≤ 16) && c.all fun i => insR i c.length) = true) := by
                refine (HF.out _ rfl).2 ?_
                have := HA2.out
                rw [List.take_of_length_le (by omega)] at this
                rw [this]; simp [h16]
              go_wp2_with fail
              go_roundw
              case rel => exact ⟨t + 1, by omega, by go_num, HG, HA4⟩
              case measure => simp [intOf]; omega
        · have t3 : (16 : Int) < c.length := by omega
          have HE : Hid (checkN p = 1) := by
            refine HN1.out (HCK.out _ ?_)
            refine (HF.out _ rfl).1 ?_
            simp [h16]
          go_wp2_with fail
          go_ret
          exact ⟨by rw [HE.out]; rfl, grown_trans HG1.out HG.out⟩
      · have t1 : (p.length : Int) ≤ (t : Int) := by omega
        have HE : Hid (checkN p = 0) := by
          refine HN0.out (HCK.out _ ?_)
          have := HA.out
          rw [List.take_of_length_le (by omega)] at this
          exact this
        go_wp2_with fail
        go_ret
        exact ⟨by rw [HE.out]; rfl, grown_trans HG1.out HG.out⟩
  · have HE : Hid (checkN p = 1) := HN1.out (by
      unfold chkR
      by_cases h1 : 1 ≤ p.length
      · have h4 : ¬ p.length ≤ 4 := by omega
        simp [h4]
      · simp [h1])
    by_cases h1 : p.length < 1
    · have g1 : (p.length : Int) < 1 := by omega
      go_enter Tryz.func32, Tryz.ntmps32
      go_wp2_with fail
      go_ret
      exact ⟨by rw [HE.out]; rfl, grown_alloc (grown_refl _ _)⟩
    · have g1 : (1 : Int) ≤ p.length := by omega
      have g4 : (4 : Int) < p.length := by omega
      go_enter Tryz.func32, Tryz.ntmps32
      go_wp2_with fail
      go_ret
      exact ⟨by rw [HE.out]; rfl, grown_alloc (grown_refl _ _)⟩

end Go.Proofs.YtklenjmfalljgaaGreatDoor

/- The reference's run: done, ready, reckon, said of cells. -/
namespace Go.Proofs.YtklenjmfalljgaaGreatDoor
open Go.RowKit
attribute [local go_sem] Go.World.cell?_alloc_some

set_option maxHeartbeats 400000 in
theorem rdone_m (b ab n cap c2 g o t len c : Nat) (ao : Option Addr) (x : Int) (w : World) (ht : t < n) (ht4 : t < 4) (hlen : len ≤ 16)
    (hp : w.cell? ⟨b, 0, none⟩ = some (.slice (some ⟨g, o, none⟩) n cap)) (ha : w.cell? ⟨b, 1, none⟩ = some (.slice (some ⟨ab, 0, none⟩) n c2))
    (hr : w.cell? ⟨g, o + t, none⟩ = some (.slice ao len c)) (hx : w.cell? ⟨ab, t, none⟩ = some (.int .i64 x)) :
    Calls Tryz.prog 82 #[.pointer (some ⟨b, 0, none⟩), .int .i64 t] w fun e w' => e = .returned (.bool (decide ((len : Int) ≤ x))) ∧ Like w' w := by
  have h1 : (0 : Int) ≤ (t : Int) := by omega
  have h2 : (t : Int) < 4 := by omega
  have h3 : (t : Int) < n := by omega
  have h4 : (len : Int) ≤ 16 := by omega
  go_enter Tryz.func82, Tryz.ntmps82
  go_wp2
  go_region
  all_goals (go_wp2; go_ret; exact ⟨rfl, rfl, rfl, rfl, rfl⟩)

set_option maxHeartbeats 400000 in
theorem rready_done (b ab n cap c2 g o t len c : Nat) (ao : Option Addr) (x : Int) (w : World) (ht : t < n) (ht4 : t < 4) (hlen : len ≤ 16) (hd : (len : Int) ≤ x)
    (hp : w.cell? ⟨b, 0, none⟩ = some (.slice (some ⟨g, o, none⟩) n cap)) (ha : w.cell? ⟨b, 1, none⟩ = some (.slice (some ⟨ab, 0, none⟩) n c2))
    (hr : w.cell? ⟨g, o + t, none⟩ = some (.slice ao len c)) (hx : w.cell? ⟨ab, t, none⟩ = some (.int .i64 x)) :
    Calls Tryz.prog 80 #[.pointer (some ⟨b, 0, none⟩), .int .i64 t] w fun e w' => e = .returned (.bool false) ∧ w.grownBy w' none := by
  go_enter Tryz.func80, Tryz.ntmps80
  go_wp2_with fail
  refine (rdone_m b ab n cap c2 g o t len c ao x w ht ht4 hlen hp ha hr hx).mono ?_
  rintro e w' ⟨rfl, hl⟩
  simp only [hd, decide_true]
  go_wp2
  go_ret
  exact ⟨rfl, grown_like (grown_refl _ _) hl⟩

set_option maxHeartbeats 4000000 in
theorem rready_m (b ab n cap c2 g o t len c h ho k : Nat) (i : Ins) (ow : Int) (w : World) (ht : t < n) (ht4 : t < 4) (hlen : len ≤ 16) (hk : k < len)
    (ha0 : 0 ≤ i.a) (ha4 : i.op = 9 → i.a < 3)
    (hp : w.cell? ⟨b, 0, none⟩ = some (.slice (some ⟨g, o, none⟩) n cap)) (ha : w.cell? ⟨b, 1, none⟩ = some (.slice (some ⟨ab, 0, none⟩) n c2))
    (hr : w.cell? ⟨g, o + t, none⟩ = some (.slice (some ⟨h, ho, none⟩) len c)) (hx : w.cell? ⟨ab, t, none⟩ = some (.int .i64 k))
    (y1 : w.cell? ⟨h, ho + k * 4, none⟩ = some (.int .i64 i.op)) (y2 : w.cell? ⟨h, ho + k * 4 + 1, none⟩ = some (.int .i64 i.a))
    (y3 : w.cell? ⟨h, ho + k * 4 + 2, none⟩ = some (.int .i64 i.b)) (y4 : w.cell? ⟨h, ho + k * 4 + 3, none⟩ = some (.int .i64 i.n))
    (_hb : b < w.heap.size) (hown : i.op = 9 → w.cell? ⟨b, 7 + i.a.toNat, none⟩ = some (.int .i64 ow)) :
    Calls Tryz.prog 80 #[.pointer (some ⟨b, 0, none⟩), .int .i64 t] w fun e w' => e = .returned (.bool (!(i.op == 9) || decide (ow < 0))) ∧ w.grownBy w' none := by
  obtain ⟨op, a, ib, im⟩ := i
  simp only at *
  have h1 : (0 : Int) ≤ (t : Int) := by omega
  have h2 : (t : Int) < 4 := by omega
  have h3 : (t : Int) < n := by omega
  have h4 : (0 : Int) ≤ (k : Int) := by omega
  have h5 : (k : Int) < len := by omega
  have hne : decide ((len : Int) ≤ (k : Int)) = false := by simp; omega
  go_enter Tryz.func80, Tryz.ntmps80
  go_wp2_with fail
  refine (rdone_m b ab n cap c2 g o t len c _ k w ht ht4 hlen hp ha hr hx).mono ?_
  rintro e w1 ⟨rfl, hl⟩
  have hg1 : w.grownBy w1 none := grown_like (grown_refl _ _) hl
  have HG := hide hg1
  simp only [hne]
  replace hp := pres_grown hg1 _ _ hp
  replace ha := pres_grown hg1 _ _ ha
  replace hr := pres_grown hg1 _ _ hr
  replace hx := pres_grown hg1 _ _ hx
  replace y1 := pres_grown hg1 _ _ y1
  replace y2 := pres_grown hg1 _ _ y2
  replace y3 := pres_grown hg1 _ _ y3
  replace y4 := pres_grown hg1 _ _ y4
  replace hown : Hid (op = 9 → w1.cell? ⟨b, 7 + a.toNat, none⟩ = some (.int .i64 ow)) := fun e => pres_grown hg1 _ _ (hown e)
  clear hg1 hl
  have n1 := World.new_ne w1 _ hp
  have n2 := World.new_ne w1 _ hr
  have n3 := World.new_ne w1 _ hx
  have n4 := World.new_ne w1 _ y1
  simp only at n1 n2 n3 n4
  have m1 := Ne.symm n1
  have m2 := Ne.symm n2
  have m3 := Ne.symm n3
  have m4 := Ne.symm n4
  by_cases h9 : op = 9
  · subst h9
    have hown := hown.out rfl
    have ha3 := ha4 rfl
    obtain ⟨l, rfl⟩ : ∃ l : Nat, a = l := ⟨a.toNat, by omega⟩
    simp only [Int.toNat_natCast] at hown
    have h6 : (l : Int) < 3 := by omega
    clear ha4
    go_wp2
    go_region
    go_wp2
    go_quiet (fail)
    go_wp2
    go_ret
    exact ⟨by simp, grown_drewN _ (grown_drew (grown_alloc HG.out))⟩
  · have h9' : (op != 9) = true := by simpa using h9
    have h9'' : (op == 9) = false := by simpa using h9
    clear ha4 h9
    go_wp2
    go_region
    go_wp2
    go_quiet (fail)
    go_wp2
    go_ret
    exact ⟨by simp [h9''], grown_drewN _ (grown_drew (grown_alloc HG.out))⟩

def reckonR (op a b : Int) : Int × Bool :=
  if op = 4 then (wrap64 (a + b), true) else if op = 5 then (wrap64 (a - b), true) else if op = 6 then (wrap64 (a * b), true) else if b = 0 then (a, false) else (wrap64 (a.tdiv b), true)

set_option maxHeartbeats 4000000 in
theorem reckon_m (op a b : Int) (w : World) (h : op = 4 ∨ op = 5 ∨ op = 6 ∨ op = 7) :
    Calls Tryz.prog 114 #[.int .i64 op, .int .i64 a, .int .i64 b] w fun e w' => e = .returned (.tuple #[.int .i64 (reckonR op a b).1, .bool (reckonR op a b).2]) ∧ w' = w := by
  rcases h with rfl | rfl | rfl | rfl
  · go_enter Tryz.func114, Tryz.ntmps114
    go_wp2_with fail
    refine bodyPost_ret (v := .tuple #[.int .i64 (wrap64 (a + b)), .bool true]) (by simp [results, Tryz.results114, go_sem]) rfl ⟨rfl, rfl⟩
  · go_enter Tryz.func114, Tryz.ntmps114
    go_wp2_with fail
    refine bodyPost_ret (v := .tuple #[.int .i64 (wrap64 (a - b)), .bool true]) (by simp [results, Tryz.results114, go_sem]) rfl ⟨rfl, rfl⟩
  · go_enter Tryz.func114, Tryz.ntmps114
    go_wp2_with fail
    refine bodyPost_ret (v := .tuple #[.int .i64 (wrap64 (a * b)), .bool true]) (by simp [results, Tryz.results114, go_sem]) rfl ⟨rfl, rfl⟩
  · have HR : Hid (reckonR 7 a b = if b = 0 then (a, false) else (wrap64 (a.tdiv b), true)) := by unfold Hid reckonR; simp
    by_cases h0 : b = 0
    · subst h0
      go_enter Tryz.func114, Tryz.ntmps114
      go_wp2_with fail
      refine bodyPost_ret (v := .tuple #[.int .i64 a, .bool false]) (by simp [results, Tryz.results114, go_sem]) rfl ⟨by rw [HR.out]; rfl, rfl⟩
    · have h0' : (b == 0) = false := by simpa using h0
      by_cases hm : b = -1
      · subst hm
        have HT : Hid (a.tdiv (-1) = -a) := by unfold Hid; simp
        go_enter Tryz.func114, Tryz.ntmps114
        go_wp2_with fail
        refine bodyPost_ret (v := .tuple #[.int .i64 (wrap64 (-a)), .bool true]) (by simp [results, Tryz.results114, go_sem]) rfl ⟨by rw [HR.out, if_neg h0, HT.out], rfl⟩
      · have hm' : (b == -1) = false := by simpa using hm
        go_enter Tryz.func114, Tryz.ntmps114
        go_wp2_with fail
        refine bodyPost_ret (v := .tuple #[.int .i64 (wrap64 (a.tdiv b)), .bool true]) (by simp [results, Tryz.results114, go_sem]) rfl ⟨by rw [HR.out, if_neg h0], rfl⟩

end Go.Proofs.YtklenjmfalljgaaGreatDoor
