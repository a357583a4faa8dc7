/- The walk of Locked. -/
import Derived.Test.YtklenjmfalljgaaDoorLckA
namespace Go.Proofs.YtklenjmfalljgaaDoor
open Go.RowKit
attribute [local go_sem] Go.World.cell?_alloc_some

set_option maxHeartbeats 8000000 in
set_option maxRecDepth 100000 in
theorem locked_m (adds ch : List Int) (lk : Int) (addv chv : Value) (w : World) (hS : ShpAt w) (hC : IntsAt w.heap.size w addv adds) (hbC : ∀ k (hk : k < adds.length), isInt adds[k])
    (hD : IntsAt w.heap.size w chv ch) (hbD : ∀ k (hk : k < ch.length), isInt ch[k]) (hlk : isInt lk) :
    Calls Tryd.prog 3 #[addv, chv, .int .i64 lk] w fun e w' => e = .returned (.bool true) ∧ w.grownBy w' none := by
  obtain ⟨i0, hi0, hz0, hz1, hz2⟩ := info_parts info_ins
  obtain ⟨i1, hi1, hy0, hy1, hy2⟩ := info_parts info_code
  obtain ⟨i2, hi2, hx0, hx1, hx2⟩ := info_parts info_int
  obtain ⟨ao, acap, rfl, _, hC⟩ := hC
  have HSh := hide hS
  have HC := hide hC
  have HBC := hide hbC
  have HD := hide hD
  have HBD := hide hbD
  have hk0 := pickN_range lk 3 (by omega)
  have HPK := hide (pick_m lk 3 (by omega) (by omega) hlk.1 hlk.2)
  clear hS hC hbC hD hbD hlk
  generalize pickN lk 3 = k at *
  go_enter Tryd.func3, Tryd.ntmps3
  go_wp2_with fail
  refine (HPK.out _).mono ?_
  clear HPK
  rintro e w3 ⟨rfl, rfl⟩
  go_wp2_with fail
  go_loopw [9, 11] (fun s i w' => ∃ t : Nat, t ≤ adds.length ∧ t ≤ 4 ∧ i = .int .i64 t ∧ s = .int .i64 (sumN (addN adds) t) ∧ Hid (LkOut w k adds t w')) (fun _ i _ => adds.length - (intOf i).toNat)
  case atStart =>
    refine ⟨0, Nat.zero_le _, by omega, rfl, rfl, .slice none 0 0, .slice none 0 0, ?_, heap_alloc_new2 w _ _, RowsAt.nil _ _, RowsAt.nil _ _, fun q e => (by cases e), grown_alloc (grown_alloc (grown_refl _ _)), by simp⟩
    rw [Below.heap_alloc _ _ _ (by simp)]; exact heap_alloc_new w _
  case round =>
    obtain ⟨t, ht, ht4, rfl, rfl, HO⟩ := hrel
    obtain ⟨w4, hw4⟩ : ∃ w4, w4 = wr := ⟨_, rfl⟩
    subst hw4
    by_cases hgo : t < adds.length ∧ t < 4
    · obtain ⟨hlt, hlt4⟩ := hgo
      obtain ⟨ag, ago, rfl, _, hac⟩ := HC.out t hlt
      have hg4 : w.grownBy w4 none := by obtain ⟨_, _, _, _, _, _, _, hg, _⟩ := HO.out; exact hg
      have hac' := pres_grown hg4 _ _ hac
      have hbd := HBC.out t hlt
      have q0 : (0 : Int) ≤ (t : Int) := by omega
      have q1 : (t : Int) < adds.length := by omega
      have q2 : (t : Int) < 4 := by omega
      have hm := pickN_range adds[t] 1000 (by omega)
      have HPA := hide (pick_m adds[t] 1000 (by omega) (by omega) hbd.1 hbd.2)
      have HMe : Hid (addN adds t = pickN adds[t] 1000) := by unfold Hid addN; simp [hlt]
      clear hac hg4
      generalize pickN adds[t] 1000 = m at *
      go_wp2_with fail
      refine (HPA.out _).mono ?_
      clear HPA hac'
      rintro e w5 ⟨rfl, rfl⟩
      go_wp2_with fail
      generalize hw6 : w5.alloc (Obj.cells #[Value.int IntKind.i64 2, Value.int IntKind.i64 2, Value.int IntKind.i64 3, Value.int IntKind.i64 0, Value.int IntKind.i64 1, Value.int IntKind.i64 1, Value.int IntKind.i64 0, Value.int IntKind.i64 m, Value.int IntKind.i64 4, Value.int IntKind.i64 2, Value.int IntKind.i64 1, Value.int IntKind.i64 0, Value.int IntKind.i64 3, Value.int IntKind.i64 3, Value.int IntKind.i64 2, Value.int IntKind.i64 0] 28) = w6
      have hs6 : w6.heap.size = w5.heap.size + 1 := by rw [← hw6]; simp
      have HG56 : Hid (w5.grownBy w6 none) := by unfold Hid; rw [← hw6]; exact grown_alloc (grown_refl _ _)
      have HAB : Hid (w6.heap[w5.heap.size]? = some (.cells (addCells m) 28 (0, 0))) := by unfold Hid; rw [← hw6]; exact heap_alloc_new w5 _
      clear hw6
      go_loopw [14, 15] (fun lv i w' => ∃ r : Nat, r ≤ 2 ∧ i = .int .i64 r ∧ Hid (w'.ownsRow (w5.heap.size + 1) 28 4 lv (r * 6) (insCells (repC k m r)) ∧ w6.grownBy w' none)) (fun _ i _ => 2 - (intOf i).toNat)
      case atStart => exact ⟨0, by omega, rfl, ⟨rfl, Or.inl ⟨rfl, rfl⟩⟩, grown_refl _ _⟩
      case round =>
        obtain ⟨r, hr, rfl, HL⟩ := hrel
        obtain ⟨w7, hw7⟩ : ∃ w7, w7 = wr := ⟨_, rfl⟩
        subst hw7
        by_cases hr2 : r < 2
        · obtain ⟨l1, l2⟩ := HL.out
          have L1 := hide l1
          have L2 := hide l2
          have hs7 := l2.size
          have hob := owns_block l1
          have g0 : (r : Int) < 2 := by omega
          have g1 : (0 : Int) ≤ (r : Int) := by omega
          clear l1 l2 HL
          have h63a : r * 6 + 1 ≤ maxLen := by unfold maxLen; omega
          have h63b : r * 6 + 1 + 4 ≤ maxLen := by unfold maxLen; omega
          have h63c : r * 6 + 1 + 4 + 1 ≤ maxLen := by unfold maxLen; omega
          go_upto_region 15 with (at_builtin; refine wpList_append_lies _ rfl _ _ _ rfl (w5.heap.size + 1) 28 i0 _ 4 32 Tryd.underlying29 hi0 hz0 hz1 hz2 rfl (by omega) u14 (r * 6) (insCells (repC k m r)) rfl (owns_alloc L1.out) ⟨w7.heap.size, 0, none⟩ 1 1 (insV ⟨9, k, 0, 0⟩) rfl rfl (World.news_of_block (cs := #[.int .i64 9, .int .i64 k, .int .i64 0, .int .i64 0]) (t := 28) (fr := (0, 0)) (heap_alloc_new w7 _)) (insV_one _) (by omega) h63a (by omega) (by simp; omega) (w7.heap.size + 1) (by simp) ?_; intro g8 cap8 w8 hown8 hgrow8 hat8 hlt8)
          have HO8 := hide hown8
          have HG68 : Hid (w6.grownBy w8 none) := grown_row (grown_alloc L2.out) hgrow8 (fun q e => by have := hob q e; omega)
          have HAB8 : Hid (w8.heap[w5.heap.size]? = some (.cells (addCells m) 28 (0, 0))) := by unfold Hid; rw [HG68.out.block _ (by omega) (by simp)]; exact HAB.out
          clear hown8 hgrow8 hat8
          go_upto_region 16 with (at_builtin; refine wpList_append_lies _ rfl _ _ _ rfl (w5.heap.size + 1) 28 i0 _ 4 32 Tryd.underlying29 hi0 hz0 hz1 hz2 rfl (by omega) (.slice (some ⟨g8, 0, none⟩) (r * 6 + 1) cap8) (r * 6 + 1) (insCells (repC k m r) ++ insV ⟨9, k, 0, 0⟩) rfl HO8.out ⟨w5.heap.size, 0, none⟩ 4 4 (insCells (addC m)) rfl rfl (World.news_of_block (cs := addCells m) (t := 28) (fr := (0, 0)) HAB8.out) (by simp [insCells, addC, insV, Value.oneCell']) (by omega) h63b (by omega) (by have := HG68.out.size; omega) w8.heap.size rfl ?_; intro g9 cap9 w9 hown9 hgrow9 hat9 hlt9)
          have HO9 := hide hown9
          have HG69 : Hid (w6.grownBy w9 none) := grown_row HG68.out hgrow9 (fun q e => by have := owns_block HO8.out q e; omega)
          clear hown9 hgrow9 hat9
          go_wp2_with (at_builtin; refine wpList_append_lies _ rfl _ _ _ rfl (w5.heap.size + 1) 28 i0 _ 4 32 Tryd.underlying29 hi0 hz0 hz1 hz2 rfl (by omega) (.slice (some ⟨g9, 0, none⟩) (r * 6 + 1 + 4) cap9) (r * 6 + 1 + 4) (insCells (repC k m r) ++ insV ⟨9, k, 0, 0⟩ ++ insCells (addC m)) rfl (owns_alloc HO9.out) ⟨w9.heap.size, 0, none⟩ 1 1 (insV ⟨10, k, 0, 0⟩) rfl rfl (World.news_of_block (cs := #[.int .i64 10, .int .i64 k, .int .i64 0, .int .i64 0]) (t := 28) (fr := (0, 0)) (heap_alloc_new w9 _)) (insV_one _) (by omega) h63c (by omega) (by simp; have := HG69.out.size; omega) (w9.heap.size + 1) (by simp) ?_; intro g10 cap10 w10 hown10 hgrow10 hat10 hlt10)
          have HNX : Hid (w10.ownsRow (w5.heap.size + 1) 28 4 (.slice (some ⟨g10, 0, none⟩) (r * 6 + 1 + 4 + 1) cap10) ((r + 1) * 6) (insCells (repC k m (r + 1))) ∧ w6.grownBy w10 none) := by
            refine ⟨?_, grown_row (grown_alloc HG69.out) hgrow10 (fun q e => by have := owns_block HO9.out q e; omega)⟩
            have e1 : (r + 1) * 6 = r * 6 + 1 + 4 + 1 := by omega
            have e2 : insCells (repC k m (r + 1)) = insCells (repC k m r) ++ insV ⟨9, k, 0, 0⟩ ++ insCells (addC m) ++ insV ⟨10, k, 0, 0⟩ := by simp [repC, halfC, insCells]
            rw [e1, e2]; exact hown10
          clear hown10 hgrow10 hat10
          go_wp2
          go_roundw
          case rel => exact ⟨r + 1, by omega, by go_num, HNX⟩
          case measure => simp [intOf]; omega
        · have er : r = 2 := by omega
          have g0 : (2 : Int) ≤ (r : Int) := by omega
          obtain ⟨l1, l2⟩ := HL.out
          rw [er] at l1
          have hl7 : w7.ownsRow (w5.heap.size + 1) 28 4 u14 12 (insCells (lockC k m)) := by simpa [repC, lockC] using l1
          obtain ⟨la, ln, lc, rfl⟩ := owns_form hl7
          obtain ⟨tv, bv, j1, j2, j3, j4, j5, j6, j7⟩ := HO.out
          obtain ⟨rows, p1, _⟩ := id j3
          rw [lockRows_len] at p1
          obtain ⟨rows2, p2, _⟩ := id j4
          rw [bareRows_len] at p2
          obtain ⟨ta, tn, tc, rfl⟩ := owns_form p1
          obtain ⟨ba, bn, bc, rfl⟩ := owns_form p2
          have hg57 : w5.grownBy w7 none := grown_trans HG56.out l2
          have B1 : w7.heap[w.heap.size]? = some (.cells #[.slice ta tn tc] 25 (0, 0)) := by rw [hg57.block _ (by omega) (by simp)]; exact j1
          have B2 : w7.heap[w.heap.size + 1]? = some (.cells #[.slice ba bn bc] 25 (0, 0)) := by rw [hg57.block _ (by omega) (by simp)]; exact j2
          have c1 : w7.cell? ⟨w.heap.size, 0, none⟩ = some (.slice ta tn tc) := by simp [World.cell?, B1]
          have c2 : w7.cell? ⟨w.heap.size + 1, 0, none⟩ = some (.slice ba bn bc) := by simp [World.cell?, B2]
          have hab : w7.heap[w5.heap.size]? = some (.cells (addCells m) 28 (0, 0)) := by rw [l2.block _ (by omega) (by simp)]; exact HAB.out
          have hs7 : w5.heap.size + 1 ≤ w7.heap.size := by have := l2.size; omega
          have PT7 : Hid (w7.ownsRow (w.heap.size + 2) 29 1 (.slice ta tn tc) t rows) := owns_grown p1 hg57 (fun _ e => by cases e)
          have PB7 : Hid (w7.ownsRow (w.heap.size + 2) 29 1 (.slice ba bn bc) t rows2) := owns_grown p2 hg57 (fun _ e => by cases e)
          have HB1 := hide B1
          have HB2 := hide B2
          have J1 := hide j1
          have J2 := hide j2
          have J3 := hide j3
          have J4 := hide j4
          have J5 := hide j5
          have J6 := hide j6
          have P1 := hide p1
          have P2 := hide p2
          have HG57 := hide hg57
          have HL7 := hide hl7
          have HAB7 := hide hab
          have hbt := owns_block p1
          have hbb := owns_block p2
          have HSB := hide (sumN_le (f := addN adds) (b := 1000) (n := t) (fun j _ => addN_range adds j))
          have hsb0 := HSB.out.1
          have hsb1 : sumN (addN adds) t ≤ 4000 := by have := HSB.out.2; omega
          have HSE : Hid (sumN (addN adds) (t + 1) = sumN (addN adds) t + m) := by unfold Hid; simp only [sumN, HMe.out]
          have h63 : t + 1 ≤ maxLen := by unfold maxLen; omega
          clear l1 l2 j1 j2 j3 j4 j5 j6 p1 p2 hg57 hl7 hab B1 B2 HL HO HAB HG56 er
          generalize sumN (addN adds) t = sm at *
          go_upto_region 18 with (at_builtin; refine wpList_append_lies _ rfl _ _ _ rfl (w.heap.size + 2) 29 i1 _ 1 24 Tryd.underlying23 hi1 hy0 hy1 hy2 rfl (by omega) (.slice ta tn tc) t rows rfl (owns_alloc PT7.out) ⟨w7.heap.size, 0, none⟩ 1 1 [.slice la ln lc] rfl rfl (World.news_of_block (cs := #[.slice la ln lc]) (t := 29) (fr := (0, 0)) (heap_alloc_new w7 _)) (by simp [Value.oneCell']) (by omega) h63 (by omega) (by simp; omega) (w7.heap.size + 1) (by simp) ?_; intro g11 c11 w11 hown11 hgrow11 hat11 hlt11; have b11 : w11.heap[w.heap.size]? = some (.cells #[.slice ta tn tc] 25 (0, 0)) := (by rw [hgrow11.block _ (by simp; omega) (fun e => by have := hbt _ e.symm; omega), Below.heap_alloc _ _ _ (by omega)]; exact HB1.out); have c6 : w11.cell? ⟨w.heap.size, 0, none⟩ = some (.slice ta tn tc) := (by simp [World.cell?, b11]); have c6f : w11.frozen? ⟨w.heap.size, 0, none⟩ = false := (by simp [World.frozen?, b11]); clear b11)
          have B11 : w11.heap[w.heap.size + 1]? = some (.cells #[.slice ba bn bc] 25 (0, 0)) := by rw [hgrow11.block _ (by simp; omega) (fun e => by have := hbt _ e.symm; omega), Below.heap_alloc _ _ _ (by omega)]; exact HB2.out
          have c8 : w11.cell? ⟨w.heap.size + 1, 0, none⟩ = some (.slice ba bn bc) := by simp [World.cell?, B11]
          have HB11 := hide B11
          have PB12 : Hid ((w11.setCell ⟨w.heap.size, 0, none⟩ (.slice (some ⟨g11, 0, none⟩) (t + 1) c11)).ownsRow (w.heap.size + 2) 29 1 (.slice ba bn bc) t rows2) :=
            ownsRow_setCell_below (owns_step (owns_alloc PB7.out) hgrow11 (fun q e => J5.out q e)) (by simp) _
          have hs11 : w7.heap.size + 1 ≤ w11.heap.size := by have := hgrow11.size; simpa using this
          have HOWN11 := hide hown11
          have HGROW11 := hide hgrow11
          have HAT11 := hide hat11
          clear hown11 hgrow11 hat11 B11 c6 c6f
          go_wp2_with (at_builtin; refine wpList_append_lies _ rfl _ _ _ rfl (w.heap.size + 2) 29 i1 _ 1 24 Tryd.underlying23 hi1 hy0 hy1 hy2 rfl (by omega) (.slice ba bn bc) t rows2 rfl (owns_alloc PB12.out) ⟨w11.heap.size, 0, none⟩ 1 1 [.slice (some ⟨w5.heap.size, 0, none⟩) 4 4] rfl rfl (World.news_of_block (cs := #[.slice (some ⟨w5.heap.size, 0, none⟩) 4 4]) (t := 29) (fr := (0, 0)) (by have := heap_alloc_new (w11.setCell ⟨w.heap.size, 0, none⟩ (.slice (some ⟨g11, 0, none⟩) (t + 1) c11)) (.cells #[.slice (some ⟨w5.heap.size, 0, none⟩) 4 4] 29); simpa using this)) (by simp [Value.oneCell']) (by omega) h63 (by omega) (by simp; omega) (w11.heap.size + 1) (by simp) ?_; intro g13 c13 w13 hown13 hgrow13 hat13 hlt13; have b13 : w13.heap[w.heap.size + 1]? = some (.cells #[.slice ba bn bc] 25 (0, 0)) := (by rw [hgrow13.block _ (by simp; omega) (fun e => by have := hbb _ e.symm; omega), Below.heap_alloc _ _ _ (by simp; omega), Below.heap_setCell _ _ _ _ (by simp)]; exact HB11.out); have c9 : w13.cell? ⟨w.heap.size + 1, 0, none⟩ = some (.slice ba bn bc) := (by simp [World.cell?, b13]); have c9f : w13.frozen? ⟨w.heap.size + 1, 0, none⟩ = false := (by simp [World.frozen?, b13]); clear b13)
          have HNX : Hid (LkOut w k adds (t + 1) (w13.setCell ⟨w.heap.size + 1, 0, none⟩ (.slice (some ⟨g13, 0, none⟩) (t + 1) c13))) :=
            lk_step J1.out J2.out J3.out J4.out J5.out J6.out j7 P1.out P2.out HMe.out HG57.out hs7 HL7.out HAB7.out HOWN11.out HGROW11.out HAT11.out hown13 hgrow13 hat13
          clear hown13 hgrow13 hat13
          go_wp2
          go_roundw
          case rel => exact ⟨t + 1, by omega, by omega, by go_num, by rw [HSE.out], HNX⟩
          case measure => simp [intOf]; omega
    · have HNG : Hid (¬ (t < adds.length ∧ t < 4)) := hgo
      obtain ⟨tv, bv, j1, j2, j3, j4, j5, j6, j7⟩ := HO.out
      obtain ⟨rows, p1, _⟩ := id j3
      rw [lockRows_len] at p1
      obtain ⟨rows2, p2, _⟩ := id j4
      rw [bareRows_len] at p2
      obtain ⟨ta, tq, tc, rfl⟩ := owns_form p1
      obtain ⟨ba, tn, bc, rfl⟩ := owns_form p2
      have et := owns_lenq p1
      have eb := owns_lenq p2
      subst et eb
      have c1 : w4.cell? ⟨w.heap.size, 0, none⟩ = some (.slice ta tn tc) := by simp [World.cell?, j1]
      have c2 : w4.cell? ⟨w.heap.size + 1, 0, none⟩ = some (.slice ba tn bc) := by simp [World.cell?, j2]
      have HPT := hide j3.progAt
      have HPB := hide j4.progAt
      have J6 := hide j6
      have HSB := hide (sumN_le (f := addN adds) (b := 1000) (n := tn) (fun j _ => addN_range adds j))
      clear j1 j2 j3 j4 j5 j6 p1 p2 HO
      have HLR : Hid (∀ {a : List Int}, Sched (lockRows k adds tn) a → ((a.length = 48 ∨ a.length = 200) ∨ (runS (lockRows k adds tn) a).kind ≠ 5) → (runS (lockRows k adds tn) a).kind = 3 ∧ (runS (lockRows k adds tn) a).st.vars 3 = 2 * sumN (addN adds) tn) := fun hs h48 => by
        obtain ⟨kn, hkn⟩ := Int.eq_ofNat_of_zero_le hk0.1
        exact locked_run (k := kn) ht4 (fun j _ => addN_range adds j) (lockRows_len k adds tn) (fun j hj => by rw [← hkn]; exact lockRows_code k adds hj) hs h48
      have HBR : Hid (∀ {a : List Int}, Sched (bareRows adds tn) a → ((a.length = 48 ∨ a.length = 200) ∨ (runS (bareRows adds tn) a).kind ≠ 5) → (runS (bareRows adds tn) a).kind = 3 ∧ 0 ≤ (runS (bareRows adds tn) a).st.vars 3 ∧ (runS (bareRows adds tn) a).st.vars 3 ≤ sumN (addN adds) tn) := fun hs h48 =>
        bare_run ht4 (fun j _ => addN_range adds j) (bareRows_len adds tn) (fun j hj => bareRows_code adds hj) hs h48
      have hsb0 := HSB.out.1
      have hsb1 : sumN (addN adds) tn ≤ 4000 := by have := HSB.out.2; omega
      have hq : ((tn : Int) < adds.length ∧ (4 : Int) ≤ (tn : Int)) ∨ (adds.length : Int) ≤ (tn : Int) := by
        by_cases h : tn < adds.length
        · left
          by_cases h4 : tn < 4
          · exact absurd ⟨h, h4⟩ HNG.out
          · omega
        · right; omega
      have HIMP : Hid (tn = 0 → ¬ ((tn : Int) < adds.length ∧ (4 : Int) ≤ (tn : Int))) := fun h => by omega
      rcases hq with ⟨hq1, hq2⟩ | hq1
      all_goals
        by_cases h0 : tn = 0
        · first
            | (exfalso; omega)
            | (subst h0; go_wp2_with fail; refine (awake_m _ (HSh.out.pres (pres_grown J6.out))).mono ?_; rintro e w5 ⟨rfl, hg⟩; have HGE : Hid (w.grownBy w5 none) := grown_trans J6.out hg; clear hg; go_wp2; go_ret; exact ⟨rfl, HGE.out⟩)
        · have q1 : ((tn : Int) == 0) = false := by simpa using h0
          have h1 : 1 ≤ tn := by omega
          obtain ⟨da, dc, rfl, _, hdc⟩ := HD.out
          have HDC := hide hdc
          clear hdc
          go_wp2_with fail
          go_loopw [16, 17] (fun lv i w' => ∃ r : Nat, r ≤ 48 ∧ i = .int .i64 r ∧ Hid (w'.ownsRow w4.heap.size 3 1 lv r (ints (allN ch r)) ∧ w4.grownBy w' none)) (fun _ i _ => 48 - (intOf i).toNat)
          case atStart => exact ⟨0, by omega, rfl, ⟨rfl, Or.inl ⟨rfl, rfl⟩⟩, grown_refl _ _⟩
          case round =>
            obtain ⟨r, hr, rfl, HL⟩ := hrel
            obtain ⟨w5, hw5⟩ : ∃ w5, w5 = wr := ⟨_, rfl⟩
            subst hw5
            by_cases hr48 : r < 48
            · obtain ⟨l1, l2⟩ := HL.out
              have L1 := hide l1
              have L2 := hide l2
              have hs5 := l2.size
              have hob := owns_block l1
              clear HL
              have g0 : (r : Int) < 48 := by omega
              have g1 : (0 : Int) ≤ (r : Int) := by omega
              have h63 : r + 1 ≤ maxLen := by unfold maxLen; omega
              by_cases hrc : r < ch.length
              · obtain ⟨dg, dgo, rfl, _, hdv⟩ := HDC.out r hrc
                have dv : w5.cell? ⟨dg, dgo + r, none⟩ = some (.int .i64 ch[r]) := pres_grown l2 _ _ (pres_grown J6.out _ _ hdv)
                have HXS : Hid (ints (allN ch (r + 1)) = ints (allN ch r) ++ [.int .i64 ch[r]]) := by unfold Hid; rw [allN_succ]; simp [ints, hrc]
                have g2 : (r : Int) < ch.length := by omega
                generalize ch[r] = c at *
                clear l1 l2 hdv
                go_wp2_with (at_builtin; refine wpList_append_lies _ rfl _ _ _ rfl w4.heap.size 3 i2 _ 1 8 Tryd.underlying22 hi2 hx0 hx1 hx2 rfl (by omega) u16 r (ints (allN ch r)) rfl (owns_alloc L1.out) ⟨w5.heap.size, 0, none⟩ 1 1 [.int .i64 c] rfl rfl (World.news_of_block (cs := #[.int .i64 c]) (t := 3) (fr := (0, 0)) (heap_alloc_new w5 _)) (by simp [Value.oneCell']) (by omega) h63 (by omega) (by simp; omega) (w5.heap.size + 1) (by simp) ?_; intro g6 cap6 w6 hown6 hgrow hat hlt6)
                have HNX : Hid (w6.ownsRow w4.heap.size 3 1 (.slice (some ⟨g6, 0, none⟩) (r + 1) cap6) (r + 1) (ints (allN ch (r + 1))) ∧ w4.grownBy w6 none) := by
                  refine ⟨?_, grown_row (grown_alloc L2.out) hgrow (fun q e => hob q e)⟩
                  rw [HXS.out]; exact hown6
                clear hown6 hgrow hat
                go_wp2
                go_roundw
                case rel => exact ⟨r + 1, by omega, by go_num, HNX⟩
                case measure => simp [intOf]; omega
              · have HXS : Hid (ints (allN ch (r + 1)) = ints (allN ch r) ++ [.int .i64 0]) := by unfold Hid; rw [allN_succ]; simp [ints, hrc]
                have g2 : (ch.length : Int) ≤ (r : Int) := by omega
                clear l1 l2
                go_wp2_with (at_builtin; refine wpList_append_lies _ rfl _ _ _ rfl w4.heap.size 3 i2 _ 1 8 Tryd.underlying22 hi2 hx0 hx1 hx2 rfl (by omega) u16 r (ints (allN ch r)) rfl (owns_alloc L1.out) ⟨w5.heap.size, 0, none⟩ 1 1 [.int .i64 0] rfl rfl (World.news_of_block (cs := #[.int .i64 0]) (t := 3) (fr := (0, 0)) (heap_alloc_new w5 _)) (by simp [Value.oneCell']) (by omega) h63 (by omega) (by simp; omega) (w5.heap.size + 1) (by simp) ?_; intro g6 cap6 w6 hown6 hgrow hat hlt6)
                have HNX : Hid (w6.ownsRow w4.heap.size 3 1 (.slice (some ⟨g6, 0, none⟩) (r + 1) cap6) (r + 1) (ints (allN ch (r + 1))) ∧ w4.grownBy w6 none) := by
                  refine ⟨?_, grown_row (grown_alloc L2.out) hgrow (fun q e => hob q e)⟩
                  rw [HXS.out]; exact hown6
                clear hown6 hgrow hat
                go_wp2
                go_roundw
                case rel => exact ⟨r + 1, by omega, by go_num, HNX⟩
                case measure => simp [intOf]; omega
            · have er : r = 48 := by omega
              have g0 : (48 : Int) ≤ (r : Int) := by omega
              obtain ⟨l1, l2⟩ := HL.out
              rw [er] at l1
              have hall : IntsAt w5.heap.size w5 u16 (allN ch 48) := by
                apply owns_ints (base := w4.heap.size)
                rw [allN_len]; exact l1
              have HLB := hide (allN_range HBD.out 48)
              have hal := allN_len ch 48
              have HAL := hide hall
              have HG5 : Hid (w.grownBy w5 none) := grown_trans J6.out l2
              have d1 : w5.cell? ⟨w.heap.size, 0, none⟩ = some (.slice ta tn tc) := pres_grown l2 _ _ c1
              have d2 : w5.cell? ⟨w.heap.size + 1, 0, none⟩ = some (.slice ba tn bc) := pres_grown l2 _ _ c2
              have hS1 := hide (schedule_m (lockRows k adds tn) (allN ch 48) (.agg #[.slice ta tn tc]) u16 w5 (HSh.out.pres (pres_grown HG5.out)) (lockRows_valid ⟨hk0.1, by omega⟩ adds h1 ht4) (HPT.out.pres (pres_grown l2)) HAL.out HLB.out)
              have HPB5 := hide (HPB.out.pres (pres_grown l2))
              generalize allN ch 48 = al at *
              clear l1 l2 HL er hall c1 c2
              go_wp2_with fail
              refine hS1.out.mono ?_
              clear hS1
              rintro e w6 ⟨sv, rv, a, rfl, hrow, ⟨st, gt, rfl, ho1, ho2⟩, hsd, h200, hor, hg6⟩
              obtain ⟨k3, kv⟩ := HLR.out hsd (by rw [hal] at hor; exact hor)
              obtain ⟨s1, s2, s3, rfl⟩ := owns_form hrow
              obtain ⟨x1, x2, x3, rfl⟩ := owns_form ho1
              obtain ⟨y1, y2, y3, rfl⟩ := owns_form ho2
              rw [k3, kv]
              have HG6 := hide hg6
              have hs56 := hg6.size
              have e1 : w6.cell? ⟨w.heap.size, 0, none⟩ = some (.slice ta tn tc) := pres_grown hg6 _ _ d1
              have e2 : w6.cell? ⟨w.heap.size + 1, 0, none⟩ = some (.slice ba tn bc) := pres_grown hg6 _ _ d2
              have HAL6 := hide (((HAL.out).pres (pres_grown hg6)).mono hs56)
              clear hrow ho1 ho2 hsd h200 hor hg6 d1 d2 k3 kv
              generalize (runS (lockRows k adds tn) a).thread = z1 at *
              generalize (runS (lockRows k adds tn) a).at_ = z2 at *
              generalize (runS (lockRows k adds tn) a).st.vars 0 = z3 at *
              generalize (runS (lockRows k adds tn) a).st.vars 1 = z4 at *
              generalize (runS (lockRows k adds tn) a).st.vars 2 = z5 at *
              go_wp2_with fail
              have hS2 := hide (schedule_m (bareRows adds tn) al (.agg #[.slice ba tn bc]) u16 (w6.alloc (.cells #[.int .i64 3, .int .i64 z1, .int .i64 z2, .slice x1 x2 x3, .int .i64 z3, .int .i64 z4, .int .i64 z5, .int .i64 (2 * sumN (addN adds) tn), .slice y1 y2 y3] 37)) (HSh.out.pres (pres_grown (grown_alloc (grown_trans HG5.out HG6.out)))) (bareRows_valid adds h1 ht4) (HPB5.out.pres (pres_grown (grown_alloc HG6.out))) ((HAL6.out.pres (pres_grown (grown_alloc (grown_refl _ _)))).mono (by simp)) HLB.out)
              refine hS2.out.mono ?_
              clear hS2
              rintro e w7 ⟨sv, rv, b, rfl, hrow, ⟨st, gt, rfl, ho1, ho2⟩, hsd, h200, hor, hg7⟩
              obtain ⟨k3, kv0, kv1⟩ := HBR.out hsd (by rw [hal] at hor; exact hor)
              obtain ⟨s4, s5, s6, rfl⟩ := owns_form hrow
              obtain ⟨x4, x5, x6, rfl⟩ := owns_form ho1
              obtain ⟨y4, y5, y6, rfl⟩ := owns_form ho2
              rw [k3]
              have hB7 : w7.heap[w6.heap.size]? = some (.cells #[.int .i64 3, .int .i64 z1, .int .i64 z2, .slice x1 x2 x3, .int .i64 z3, .int .i64 z4, .int .i64 z5, .int .i64 (2 * sumN (addN adds) tn), .slice y1 y2 y3] 37 (0, 0)) := by rw [hg7.block _ (by simp) (by simp)]; exact heap_alloc_new w6 _
              obtain ⟨n0, n1, n2, n3, n4, n5, n6, n7, n8, _⟩ := nine_cells hB7
              have HEND : Hid (w.grownBy w7 none) := grown_trans (grown_alloc (grown_trans HG5.out HG6.out)) hg7
              have hs67 : w6.heap.size < w7.heap.size := (Array.getElem?_eq_some_iff.1 hB7).1
              clear hrow ho1 ho2 hsd h200 hor hg7 k3 hB7 e1 e2
              generalize (runS (bareRows adds tn) b).thread = z6 at *
              generalize (runS (bareRows adds tn) b).at_ = z7 at *
              generalize (runS (bareRows adds tn) b).st.vars 0 = z8 at *
              generalize (runS (bareRows adds tn) b).st.vars 1 = z9 at *
              generalize (runS (bareRows adds tn) b).st.vars 2 = z10 at *
              generalize (runS (bareRows adds tn) b).st.vars 3 = v3 at *
              generalize sumN (addN adds) tn = sm at *
              go_wp2_with fail
              go_ret
              exact ⟨rfl, grown_alloc HEND.out⟩

end Go.Proofs.YtklenjmfalljgaaDoor
