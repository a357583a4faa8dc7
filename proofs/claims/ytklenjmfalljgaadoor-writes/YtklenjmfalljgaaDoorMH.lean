/- The texts Rdi Rdj Rdk Rdl Rdm Rdn Rdo. -/
import Derived.Test.YtklenjmfalljgaaDoorMG

/- The walk of the reader's check. -/
namespace Go.Proofs.YtklenjmfalljgaaDoor
open Go.RowKit
attribute [local go_sem] Go.World.cell?_alloc_some

theorem byt_take (s : ByteArray) (k : Nat) (_h : k ≤ s.size) : byt (s.extract 0 k) = (byt s).take k := by
  unfold byt
  rw [ByteArray.data_extract, Array.toList_extract, List.map_take]
  simp

set_option maxRecDepth 100000 in
set_option maxHeartbeats 2000000 in
theorem check_r (W w : World) (b k : Nat) (s : ByteArray) (h : RdS W w b s k) (hs : s.size ≤ 9223372036854775806) :
    Calls Tryd.prog 118 #[pt b] w (Rd W b s (fun _ _ _ => True) (rdLit (leB 4 (crcN ((byt s).take k))) ((byt s).drop k))) := by
  have HH := hide h
  have hpt : pt b = .pointer (some ⟨b, 0, none⟩) := rfl
  rw [hpt]
  clear h hpt
  have c0 := HH.out.c0
  have c1 := HH.out.c1
  have q0 : (0 : Int) ≤ (k : Int) := by omega
  have q1 : (k : Int) ≤ s.size := by have := HH.out.le; omega
  have q2 : k ≤ s.size := HH.out.le
  have HCK := hide (checkOf_m (s.extract 0 k) w.drew (by simp; omega))
  rw [byt_take s k q2] at HCK
  have hC : crcN ((byt s).take k) < 4294967296 := crcN_lt _ (fun x hx => byt_lt s x (List.mem_of_mem_take hx))
  generalize crcN ((byt s).take k) = C at *
  go_enter Tryd.func118, Tryd.ntmps118
  go_wp2_with fail
  go_still_tail 9, (by kernel_rfl)
  have HH1 : Hid (RdS W w.drew b s k) := HH.out.grown (grown_drew (grown_refl _ _))
  clear c0 c1 HH
  go_wp2_with (go_at_call 113; refine HCK.out.mono ?_; rintro e w2 ⟨rfl, hl2⟩; have HS2 := hide (HH1.out.grown (grown_of_like hl2)); clear hl2)
  go_loopw [14] (fun i w' => ∃ (j k' : Nat), j ≤ 4 ∧ i = .int .i64 j ∧ Hid (RdS W w' b s k') ∧ Hid (rdLit ((leB 4 C).drop j) ((byt s).drop k') = rdLit (leB 4 C) ((byt s).drop k))) (fun i _ => 4 - (intOf i).toNat)
  case atStart => exact ⟨0, k, by omega, rfl, HS2, hide rfl⟩
  case round =>
    obtain ⟨j, k', hj, rfl, HS, HE⟩ := hrel
    obtain ⟨w5, hw5'⟩ : ∃ w5, w5 = wr := ⟨_, rfl⟩
    rw [← hw5'] at HS ⊢
    clear hw5'
    have hcs : j = 0 ∨ j = 1 ∨ j = 2 ∨ j = 3 ∨ j = 4 := by omega
    rcases hcs with rfl | rfl | rfl | rfl | rfl
    · have HX : Hid ((leB 4 C).drop 0 = (C % 256) :: (leB 4 C).drop 1) := by unfold Hid; simp [leB, Nat.div_div_eq_div_mul]
      have qw : IntKind.i64.wrap 0 = 0 := by decide
      by_cases hk : k' < s.size
      · have HB := hide (byt_cons s k' hk)
        have HNX := hide (next_ok W w5.drew b k' s (HS.out.grown (grown_drew (grown_refl _ _))) hs hk)
        generalize s[k'].toNat = y at *
        by_cases hy : y = C % 256
        · have qy : ((y : Int) == IntKind.u8.wrap ((C : Int))) = true := by rw [IntKind.wrap_u8']; simp; omega
          have HE2 : Hid (rdLit ((leB 4 C).drop (1)) ((byt s).drop (k' + 1)) = rdLit (leB 4 C) ((byt s).drop k)) := by
            unfold Hid; rw [← HE.out, HB.out, HX.out, rdLit, if_pos hy]
          clear hy
          go_wp2_with fail
          refine wp_region_head (fun _ => True) 8 (by kernel_rfl) (by kernel_rfl) trivial ?_
          intro hHeld
          refine wpHead_take (i := 0) (v := ?vv0_1) rfl (by kernel_rfl) (fun _ _ _ h => h) (Or.inl ⟨by rfl, ?hy0_1⟩) trivial ?rest0_1
          case hy0_1 => (intro u hu; go_simp; try with_reducible rfl)
          simp only [Act.put, List.setIfInBounds_toArray]
          refine wpHead_take (i := 2) (v := ?vv2_2) rfl (by kernel_rfl) (fun _ _ _ h => h) (Or.inl ⟨by rfl, ?hy2_2⟩) trivial ?rest2_2
          case hy2_2 => (intro u hu; go_simp; try with_reducible rfl)
          simp only [Act.put]
          refine wpHead_take (i := 3) (v := ?vv3_3) rfl (by kernel_rfl) (fun _ _ _ h => h) (Or.inl ⟨by rfl, ?hy3_3⟩) trivial ?rest3_3
          case hy3_3 => (intro u hu; go_simp; try with_reducible rfl)
          simp only [Act.put]
          refine wpHead_take (i := 4) (v := ?vv4_4) rfl (by kernel_rfl) (fun _ _ _ h => h) (Or.inl ⟨by rfl, ?hy4_4⟩) trivial ?rest4_4
          case hy4_4 => (intro u hu; go_simp; try with_reducible rfl)
          simp only [Act.put]
          refine wpHead_take (i := 5) (v := ?vv5_5) rfl (by kernel_rfl) (fun _ _ _ h => h) (Or.inl ⟨by rfl, ?hy5_5⟩) trivial ?rest5_5
          case hy5_5 => (intro u hu; go_simp; try with_reducible rfl)
          simp only [Act.put]
          refine wpHead_take (i := 6) (v := ?vv6_6) rfl (by kernel_rfl) (fun _ _ _ h => h) (Or.inl ⟨by rfl, ?hy6_6⟩) trivial ?rest6_6
          case hy6_6 => (intro u hu; go_simp; try with_reducible rfl)
          simp only [Act.put]
          refine wpHead_alone (i := 1) rfl (by kernel_rfl) (by kernel_rfl) (by rfl) ?_
          intro K1 hK1
          have HK1 := hide hK1
          clear hK1
          go_simp
          refine HNX.out.mono ?_
          rintro e w6 ⟨rfl, hS6⟩
          have HS6 := hide hS6
          clear hS6
          refine HK1.out _ _ trivial ?_
          clear HK1
          try simp only [Act.put, List.setIfInBounds_toArray]
          refine wpHead_take (i := 7) (v := ?vv7_7) rfl (by kernel_rfl) (fun _ _ _ h => h) (Or.inl ⟨by rfl, ?hy7_7⟩) trivial ?rest7_7
          case hy7_7 => (intro u hu; go_simp; try with_reducible rfl)
          simp only [Act.put]
          refine wpHead_last rfl (by kernel_rfl) (by kernel_rfl) (by rfl) ?_
          go_simp
          refine (must_ok _).mono ?_
          rintro e w7 ⟨⟨v7, rfl⟩, rfl⟩
          go_wp2_with fail
          go_roundw
          case rel => exact ⟨1, k' + 1, by omega, by first | rfl | go_num, HS6, HE2⟩
          case measure => simp [intOf]
        · have qy : ((y : Int) == IntKind.u8.wrap ((C : Int))) = false := by rw [IntKind.wrap_u8']; simp; omega
          have HE2 : Hid (rdLit (leB 4 C) ((byt s).drop k) = none) := by
            unfold Hid; rw [← HE.out, HB.out, HX.out, rdLit, if_neg hy]
          clear hy
          go_wp2_with fail
          refine wp_region_head (fun _ => True) 8 (by kernel_rfl) (by kernel_rfl) trivial ?_
          intro hHeld
          refine wpHead_take (i := 0) (v := ?vv0_8) rfl (by kernel_rfl) (fun _ _ _ h => h) (Or.inl ⟨by rfl, ?hy0_8⟩) trivial ?rest0_8
          case hy0_8 => (intro u hu; go_simp; try with_reducible rfl)
          simp only [Act.put, List.setIfInBounds_toArray]
          refine wpHead_take (i := 2) (v := ?vv2_9) rfl (by kernel_rfl) (fun _ _ _ h => h) (Or.inl ⟨by rfl, ?hy2_9⟩) trivial ?rest2_9
          case hy2_9 => (intro u hu; go_simp; try with_reducible rfl)
          simp only [Act.put]
          refine wpHead_take (i := 3) (v := ?vv3_10) rfl (by kernel_rfl) (fun _ _ _ h => h) (Or.inl ⟨by rfl, ?hy3_10⟩) trivial ?rest3_10
          case hy3_10 => (intro u hu; go_simp; try with_reducible rfl)
          simp only [Act.put]
          refine wpHead_take (i := 4) (v := ?vv4_11) rfl (by kernel_rfl) (fun _ _ _ h => h) (Or.inl ⟨by rfl, ?hy4_11⟩) trivial ?rest4_11
          case hy4_11 => (intro u hu; go_simp; try with_reducible rfl)
          simp only [Act.put]
          refine wpHead_take (i := 5) (v := ?vv5_12) rfl (by kernel_rfl) (fun _ _ _ h => h) (Or.inl ⟨by rfl, ?hy5_12⟩) trivial ?rest5_12
          case hy5_12 => (intro u hu; go_simp; try with_reducible rfl)
          simp only [Act.put]
          refine wpHead_take (i := 6) (v := ?vv6_13) rfl (by kernel_rfl) (fun _ _ _ h => h) (Or.inl ⟨by rfl, ?hy6_13⟩) trivial ?rest6_13
          case hy6_13 => (intro u hu; go_simp; try with_reducible rfl)
          simp only [Act.put]
          refine wpHead_alone (i := 1) rfl (by kernel_rfl) (by kernel_rfl) (by rfl) ?_
          intro K1 hK1
          have HK1 := hide hK1
          clear hK1
          go_simp
          refine HNX.out.mono ?_
          rintro e w6 ⟨rfl, hS6⟩
          have HS6 := hide hS6
          clear hS6
          refine HK1.out _ _ trivial ?_
          clear HK1
          try simp only [Act.put, List.setIfInBounds_toArray]
          refine wpHead_take (i := 7) (v := ?vv7_14) rfl (by kernel_rfl) (fun _ _ _ h => h) (Or.inl ⟨by rfl, ?hy7_14⟩) trivial ?rest7_14
          case hy7_14 => (intro u hu; go_simp; try with_reducible rfl)
          simp only [Act.put]
          refine wpHead_last rfl (by kernel_rfl) (by kernel_rfl) (by rfl) ?_
          go_simp
          refine (must_not _).mono ?_
          rintro e w7 ⟨rfl, rfl⟩
          exact ⟨rfl, Or.inl ⟨HE2.out, rfl, HS6.out.base⟩⟩
      · have e0 : Hid ((byt s).drop k' = []) := List.drop_eq_nil_iff.2 (by rw [byt_len]; omega)
        have HNX := hide (next_no W w5.drew b k' s (HS.out.grown (grown_drew (grown_refl _ _))) hs hk)
        have HE2 : Hid (rdLit (leB 4 C) ((byt s).drop k) = none) := by
          unfold Hid; rw [← HE.out, e0.out, HX.out, rdLit]
        go_wp2_with fail
        refine wp_region_head (fun _ => True) 8 (by kernel_rfl) (by kernel_rfl) trivial ?_
        intro hHeld
        refine wpHead_take (i := 0) (v := ?vv0_15) rfl (by kernel_rfl) (fun _ _ _ h => h) (Or.inl ⟨by rfl, ?hy0_15⟩) trivial ?rest0_15
        case hy0_15 => (intro u hu; go_simp; try with_reducible rfl)
        simp only [Act.put, List.setIfInBounds_toArray]
        refine wpHead_take (i := 2) (v := ?vv2_16) rfl (by kernel_rfl) (fun _ _ _ h => h) (Or.inl ⟨by rfl, ?hy2_16⟩) trivial ?rest2_16
        case hy2_16 => (intro u hu; go_simp; try with_reducible rfl)
        simp only [Act.put]
        refine wpHead_take (i := 3) (v := ?vv3_17) rfl (by kernel_rfl) (fun _ _ _ h => h) (Or.inl ⟨by rfl, ?hy3_17⟩) trivial ?rest3_17
        case hy3_17 => (intro u hu; go_simp; try with_reducible rfl)
        simp only [Act.put]
        refine wpHead_take (i := 4) (v := ?vv4_18) rfl (by kernel_rfl) (fun _ _ _ h => h) (Or.inl ⟨by rfl, ?hy4_18⟩) trivial ?rest4_18
        case hy4_18 => (intro u hu; go_simp; try with_reducible rfl)
        simp only [Act.put]
        refine wpHead_take (i := 5) (v := ?vv5_19) rfl (by kernel_rfl) (fun _ _ _ h => h) (Or.inl ⟨by rfl, ?hy5_19⟩) trivial ?rest5_19
        case hy5_19 => (intro u hu; go_simp; try with_reducible rfl)
        simp only [Act.put]
        refine wpHead_take (i := 6) (v := ?vv6_20) rfl (by kernel_rfl) (fun _ _ _ h => h) (Or.inl ⟨by rfl, ?hy6_20⟩) trivial ?rest6_20
        case hy6_20 => (intro u hu; go_simp; try with_reducible rfl)
        simp only [Act.put]
        refine wpHead_alone (i := 1) rfl (by kernel_rfl) (by kernel_rfl) (by rfl) ?_
        intro K1 hK1
        have HK1 := hide hK1
        clear hK1
        go_simp
        refine HNX.out.mono ?_
        rintro e w6 ⟨rfl, hS6⟩
        exact ⟨rfl, Or.inl ⟨HE2.out, rfl, hS6⟩⟩
    · have HX : Hid ((leB 4 C).drop 1 = (C / 256 % 256) :: (leB 4 C).drop 2) := by unfold Hid; simp [leB, Nat.div_div_eq_div_mul]
      have qw : IntKind.i64.wrap 8 = 8 := by decide
      by_cases hk : k' < s.size
      · have HB := hide (byt_cons s k' hk)
        have HNX := hide (next_ok W w5.drew b k' s (HS.out.grown (grown_drew (grown_refl _ _))) hs hk)
        generalize s[k'].toNat = y at *
        by_cases hy : y = C / 256 % 256
        · have qy : ((y : Int) == IntKind.u8.wrap ((C : Int) / 256)) = true := by rw [IntKind.wrap_u8']; simp; omega
          have HE2 : Hid (rdLit ((leB 4 C).drop (2)) ((byt s).drop (k' + 1)) = rdLit (leB 4 C) ((byt s).drop k)) := by
            unfold Hid; rw [← HE.out, HB.out, HX.out, rdLit, if_pos hy]
          clear hy
          go_wp2_with fail
          refine wp_region_head (fun _ => True) 8 (by kernel_rfl) (by kernel_rfl) trivial ?_
          intro hHeld
          refine wpHead_take (i := 0) (v := ?vv0_21) rfl (by kernel_rfl) (fun _ _ _ h => h) (Or.inl ⟨by rfl, ?hy0_21⟩) trivial ?rest0_21
          case hy0_21 => (intro u hu; go_simp; try with_reducible rfl)
          simp only [Act.put, List.setIfInBounds_toArray]
          refine wpHead_take (i := 2) (v := ?vv2_22) rfl (by kernel_rfl) (fun _ _ _ h => h) (Or.inl ⟨by rfl, ?hy2_22⟩) trivial ?rest2_22
          case hy2_22 => (intro u hu; go_simp; try with_reducible rfl)
          simp only [Act.put]
          refine wpHead_take (i := 3) (v := ?vv3_23) rfl (by kernel_rfl) (fun _ _ _ h => h) (Or.inl ⟨by rfl, ?hy3_23⟩) trivial ?rest3_23
          case hy3_23 => (intro u hu; go_simp; try with_reducible rfl)
          simp only [Act.put]
          refine wpHead_take (i := 4) (v := ?vv4_24) rfl (by kernel_rfl) (fun _ _ _ h => h) (Or.inl ⟨by rfl, ?hy4_24⟩) trivial ?rest4_24
          case hy4_24 => (intro u hu; go_simp; try with_reducible rfl)
          simp only [Act.put]
          refine wpHead_take (i := 5) (v := ?vv5_25) rfl (by kernel_rfl) (fun _ _ _ h => h) (Or.inl ⟨by rfl, ?hy5_25⟩) trivial ?rest5_25
          case hy5_25 => (intro u hu; go_simp; try with_reducible rfl)
          simp only [Act.put]
          refine wpHead_take (i := 6) (v := ?vv6_26) rfl (by kernel_rfl) (fun _ _ _ h => h) (Or.inl ⟨by rfl, ?hy6_26⟩) trivial ?rest6_26
          case hy6_26 => (intro u hu; go_simp; try with_reducible rfl)
          simp only [Act.put]
          refine wpHead_alone (i := 1) rfl (by kernel_rfl) (by kernel_rfl) (by rfl) ?_
          intro K1 hK1
          have HK1 := hide hK1
          clear hK1
          go_simp
          refine HNX.out.mono ?_
          rintro e w6 ⟨rfl, hS6⟩
          have HS6 := hide hS6
          clear hS6
          refine HK1.out _ _ trivial ?_
          clear HK1
          try simp only [Act.put, List.setIfInBounds_toArray]
          refine wpHead_take (i := 7) (v := ?vv7_27) rfl (by kernel_rfl) (fun _ _ _ h => h) (Or.inl ⟨by rfl, ?hy7_27⟩) trivial ?rest7_27
          case hy7_27 => (intro u hu; go_simp; try with_reducible rfl)
          simp only [Act.put]
          refine wpHead_last rfl (by kernel_rfl) (by kernel_rfl) (by rfl) ?_
          go_simp
          refine (must_ok _).mono ?_
          rintro e w7 ⟨⟨v7, rfl⟩, rfl⟩
          go_wp2_with fail
          go_roundw
          case rel => exact ⟨2, k' + 1, by omega, by first | rfl | go_num, HS6, HE2⟩
          case measure => simp [intOf]
        · have qy : ((y : Int) == IntKind.u8.wrap ((C : Int) / 256)) = false := by rw [IntKind.wrap_u8']; simp; omega
          have HE2 : Hid (rdLit (leB 4 C) ((byt s).drop k) = none) := by
            unfold Hid; rw [← HE.out, HB.out, HX.out, rdLit, if_neg hy]
          clear hy
          go_wp2_with fail
          refine wp_region_head (fun _ => True) 8 (by kernel_rfl) (by kernel_rfl) trivial ?_
          intro hHeld
          refine wpHead_take (i := 0) (v := ?vv0_28) rfl (by kernel_rfl) (fun _ _ _ h => h) (Or.inl ⟨by rfl, ?hy0_28⟩) trivial ?rest0_28
          case hy0_28 => (intro u hu; go_simp; try with_reducible rfl)
          simp only [Act.put, List.setIfInBounds_toArray]
          refine wpHead_take (i := 2) (v := ?vv2_29) rfl (by kernel_rfl) (fun _ _ _ h => h) (Or.inl ⟨by rfl, ?hy2_29⟩) trivial ?rest2_29
          case hy2_29 => (intro u hu; go_simp; try with_reducible rfl)
          simp only [Act.put]
          refine wpHead_take (i := 3) (v := ?vv3_30) rfl (by kernel_rfl) (fun _ _ _ h => h) (Or.inl ⟨by rfl, ?hy3_30⟩) trivial ?rest3_30
          case hy3_30 => (intro u hu; go_simp; try with_reducible rfl)
          simp only [Act.put]
          refine wpHead_take (i := 4) (v := ?vv4_31) rfl (by kernel_rfl) (fun _ _ _ h => h) (Or.inl ⟨by rfl, ?hy4_31⟩) trivial ?rest4_31
          case hy4_31 => (intro u hu; go_simp; try with_reducible rfl)
          simp only [Act.put]
          refine wpHead_take (i := 5) (v := ?vv5_32) rfl (by kernel_rfl) (fun _ _ _ h => h) (Or.inl ⟨by rfl, ?hy5_32⟩) trivial ?rest5_32
          case hy5_32 => (intro u hu; go_simp; try with_reducible rfl)
          simp only [Act.put]
          refine wpHead_take (i := 6) (v := ?vv6_33) rfl (by kernel_rfl) (fun _ _ _ h => h) (Or.inl ⟨by rfl, ?hy6_33⟩) trivial ?rest6_33
          case hy6_33 => (intro u hu; go_simp; try with_reducible rfl)
          simp only [Act.put]
          refine wpHead_alone (i := 1) rfl (by kernel_rfl) (by kernel_rfl) (by rfl) ?_
          intro K1 hK1
          have HK1 := hide hK1
          clear hK1
          go_simp
          refine HNX.out.mono ?_
          rintro e w6 ⟨rfl, hS6⟩
          have HS6 := hide hS6
          clear hS6
          refine HK1.out _ _ trivial ?_
          clear HK1
          try simp only [Act.put, List.setIfInBounds_toArray]
          refine wpHead_take (i := 7) (v := ?vv7_34) rfl (by kernel_rfl) (fun _ _ _ h => h) (Or.inl ⟨by rfl, ?hy7_34⟩) trivial ?rest7_34
          case hy7_34 => (intro u hu; go_simp; try with_reducible rfl)
          simp only [Act.put]
          refine wpHead_last rfl (by kernel_rfl) (by kernel_rfl) (by rfl) ?_
          go_simp
          refine (must_not _).mono ?_
          rintro e w7 ⟨rfl, rfl⟩
          exact ⟨rfl, Or.inl ⟨HE2.out, rfl, HS6.out.base⟩⟩
      · have e0 : Hid ((byt s).drop k' = []) := List.drop_eq_nil_iff.2 (by rw [byt_len]; omega)
        have HNX := hide (next_no W w5.drew b k' s (HS.out.grown (grown_drew (grown_refl _ _))) hs hk)
        have HE2 : Hid (rdLit (leB 4 C) ((byt s).drop k) = none) := by
          unfold Hid; rw [← HE.out, e0.out, HX.out, rdLit]
        go_wp2_with fail
        refine wp_region_head (fun _ => True) 8 (by kernel_rfl) (by kernel_rfl) trivial ?_
        intro hHeld
        refine wpHead_take (i := 0) (v := ?vv0_35) rfl (by kernel_rfl) (fun _ _ _ h => h) (Or.inl ⟨by rfl, ?hy0_35⟩) trivial ?rest0_35
        case hy0_35 => (intro u hu; go_simp; try with_reducible rfl)
        simp only [Act.put, List.setIfInBounds_toArray]
        refine wpHead_take (i := 2) (v := ?vv2_36) rfl (by kernel_rfl) (fun _ _ _ h => h) (Or.inl ⟨by rfl, ?hy2_36⟩) trivial ?rest2_36
        case hy2_36 => (intro u hu; go_simp; try with_reducible rfl)
        simp only [Act.put]
        refine wpHead_take (i := 3) (v := ?vv3_37) rfl (by kernel_rfl) (fun _ _ _ h => h) (Or.inl ⟨by rfl, ?hy3_37⟩) trivial ?rest3_37
        case hy3_37 => (intro u hu; go_simp; try with_reducible rfl)
        simp only [Act.put]
        refine wpHead_take (i := 4) (v := ?vv4_38) rfl (by kernel_rfl) (fun _ _ _ h => h) (Or.inl ⟨by rfl, ?hy4_38⟩) trivial ?rest4_38
        case hy4_38 => (intro u hu; go_simp; try with_reducible rfl)
        simp only [Act.put]
        refine wpHead_take (i := 5) (v := ?vv5_39) rfl (by kernel_rfl) (fun _ _ _ h => h) (Or.inl ⟨by rfl, ?hy5_39⟩) trivial ?rest5_39
        case hy5_39 => (intro u hu; go_simp; try with_reducible rfl)
        simp only [Act.put]
        refine wpHead_take (i := 6) (v := ?vv6_40) rfl (by kernel_rfl) (fun _ _ _ h => h) (Or.inl ⟨by rfl, ?hy6_40⟩) trivial ?rest6_40
        case hy6_40 => (intro u hu; go_simp; try with_reducible rfl)
        simp only [Act.put]
        refine wpHead_alone (i := 1) rfl (by kernel_rfl) (by kernel_rfl) (by rfl) ?_
        intro K1 hK1
        have HK1 := hide hK1
        clear hK1
        go_simp
        refine HNX.out.mono ?_
        rintro e w6 ⟨rfl, hS6⟩
        exact ⟨rfl, Or.inl ⟨HE2.out, rfl, hS6⟩⟩
    · have HX : Hid ((leB 4 C).drop 2 = (C / 65536 % 256) :: (leB 4 C).drop 3) := by unfold Hid; simp [leB, Nat.div_div_eq_div_mul]
      have qw : IntKind.i64.wrap 16 = 16 := by decide
      by_cases hk : k' < s.size
      · have HB := hide (byt_cons s k' hk)
        have HNX := hide (next_ok W w5.drew b k' s (HS.out.grown (grown_drew (grown_refl _ _))) hs hk)
        generalize s[k'].toNat = y at *
        by_cases hy : y = C / 65536 % 256
        · have qy : ((y : Int) == IntKind.u8.wrap ((C : Int) / 65536)) = true := by rw [IntKind.wrap_u8']; simp; omega
          have HE2 : Hid (rdLit ((leB 4 C).drop (3)) ((byt s).drop (k' + 1)) = rdLit (leB 4 C) ((byt s).drop k)) := by
            unfold Hid; rw [← HE.out, HB.out, HX.out, rdLit, if_pos hy]
          clear hy
          go_wp2_with fail
          refine wp_region_head (fun _ => True) 8 (by kernel_rfl) (by kernel_rfl) trivial ?_
          intro hHeld
          refine wpHead_take (i := 0) (v := ?vv0_41) rfl (by kernel_rfl) (fun _ _ _ h => h) (Or.inl ⟨by rfl, ?hy0_41⟩) trivial ?rest0_41
          case hy0_41 => (intro u hu; go_simp; try with_reducible rfl)
          simp only [Act.put, List.setIfInBounds_toArray]
          refine wpHead_take (i := 2) (v := ?vv2_42) rfl (by kernel_rfl) (fun _ _ _ h => h) (Or.inl ⟨by rfl, ?hy2_42⟩) trivial ?rest2_42
          case hy2_42 => (intro u hu; go_simp; try with_reducible rfl)
          simp only [Act.put]
          refine wpHead_take (i := 3) (v := ?vv3_43) rfl (by kernel_rfl) (fun _ _ _ h => h) (Or.inl ⟨by rfl, ?hy3_43⟩) trivial ?rest3_43
          case hy3_43 => (intro u hu; go_simp; try with_reducible rfl)
          simp only [Act.put]
          refine wpHead_take (i := 4) (v := ?vv4_44) rfl (by kernel_rfl) (fun _ _ _ h => h) (Or.inl ⟨by rfl, ?hy4_44⟩) trivial ?rest4_44
          case hy4_44 => (intro u hu; go_simp; try with_reducible rfl)
          simp only [Act.put]
          refine wpHead_take (i := 5) (v := ?vv5_45) rfl (by kernel_rfl) (fun _ _ _ h => h) (Or.inl ⟨by rfl, ?hy5_45⟩) trivial ?rest5_45
          case hy5_45 => (intro u hu; go_simp; try with_reducible rfl)
          simp only [Act.put]
          refine wpHead_take (i := 6) (v := ?vv6_46) rfl (by kernel_rfl) (fun _ _ _ h => h) (Or.inl ⟨by rfl, ?hy6_46⟩) trivial ?rest6_46
          case hy6_46 => (intro u hu; go_simp; try with_reducible rfl)
          simp only [Act.put]
          refine wpHead_alone (i := 1) rfl (by kernel_rfl) (by kernel_rfl) (by rfl) ?_
          intro K1 hK1
          have HK1 := hide hK1
          clear hK1
          go_simp
          refine HNX.out.mono ?_
          rintro e w6 ⟨rfl, hS6⟩
          have HS6 := hide hS6
          clear hS6
          refine HK1.out _ _ trivial ?_
          clear HK1
          try simp only [Act.put, List.setIfInBounds_toArray]
          refine wpHead_take (i := 7) (v := ?vv7_47) rfl (by kernel_rfl) (fun _ _ _ h => h) (Or.inl ⟨by rfl, ?hy7_47⟩) trivial ?rest7_47
          case hy7_47 => (intro u hu; go_simp; try with_reducible rfl)
          simp only [Act.put]
          refine wpHead_last rfl (by kernel_rfl) (by kernel_rfl) (by rfl) ?_
          go_simp
          refine (must_ok _).mono ?_
          rintro e w7 ⟨⟨v7, rfl⟩, rfl⟩
          go_wp2_with fail
          go_roundw
          case rel => exact ⟨3, k' + 1, by omega, by first | rfl | go_num, HS6, HE2⟩
          case measure => simp [intOf]
        · have qy : ((y : Int) == IntKind.u8.wrap ((C : Int) / 65536)) = false := by rw [IntKind.wrap_u8']; simp; omega
          have HE2 : Hid (rdLit (leB 4 C) ((byt s).drop k) = none) := by
            unfold Hid; rw [← HE.out, HB.out, HX.out, rdLit, if_neg hy]
          clear hy
          go_wp2_with fail
          refine wp_region_head (fun _ => True) 8 (by kernel_rfl) (by kernel_rfl) trivial ?_
          intro hHeld
          refine wpHead_take (i := 0) (v := ?vv0_48) rfl (by kernel_rfl) (fun _ _ _ h => h) (Or.inl ⟨by rfl, ?hy0_48⟩) trivial ?rest0_48
          case hy0_48 => (intro u hu; go_simp; try with_reducible rfl)
          simp only [Act.put, List.setIfInBounds_toArray]
          refine wpHead_take (i := 2) (v := ?vv2_49) rfl (by kernel_rfl) (fun _ _ _ h => h) (Or.inl ⟨by rfl, ?hy2_49⟩) trivial ?rest2_49
          case hy2_49 => (intro u hu; go_simp; try with_reducible rfl)
          simp only [Act.put]
          refine wpHead_take (i := 3) (v := ?vv3_50) rfl (by kernel_rfl) (fun _ _ _ h => h) (Or.inl ⟨by rfl, ?hy3_50⟩) trivial ?rest3_50
          case hy3_50 => (intro u hu; go_simp; try with_reducible rfl)
          simp only [Act.put]
          refine wpHead_take (i := 4) (v := ?vv4_51) rfl (by kernel_rfl) (fun _ _ _ h => h) (Or.inl ⟨by rfl, ?hy4_51⟩) trivial ?rest4_51
          case hy4_51 => (intro u hu; go_simp; try with_reducible rfl)
          simp only [Act.put]
          refine wpHead_take (i := 5) (v := ?vv5_52) rfl (by kernel_rfl) (fun _ _ _ h => h) (Or.inl ⟨by rfl, ?hy5_52⟩) trivial ?rest5_52
          case hy5_52 => (intro u hu; go_simp; try with_reducible rfl)
          simp only [Act.put]
          refine wpHead_take (i := 6) (v := ?vv6_53) rfl (by kernel_rfl) (fun _ _ _ h => h) (Or.inl ⟨by rfl, ?hy6_53⟩) trivial ?rest6_53
          case hy6_53 => (intro u hu; go_simp; try with_reducible rfl)
          simp only [Act.put]
          refine wpHead_alone (i := 1) rfl (by kernel_rfl) (by kernel_rfl) (by rfl) ?_
          intro K1 hK1
          have HK1 := hide hK1
          clear hK1
          go_simp
          refine HNX.out.mono ?_
          rintro e w6 ⟨rfl, hS6⟩
          have HS6 := hide hS6
          clear hS6
          refine HK1.out _ _ trivial ?_
          clear HK1
          try simp only [Act.put, List.setIfInBounds_toArray]
          refine wpHead_take (i := 7) (v := ?vv7_54) rfl (by kernel_rfl) (fun _ _ _ h => h) (Or.inl ⟨by rfl, ?hy7_54⟩) trivial ?rest7_54
          case hy7_54 => (intro u hu; go_simp; try with_reducible rfl)
          simp only [Act.put]
          refine wpHead_last rfl (by kernel_rfl) (by kernel_rfl) (by rfl) ?_
          go_simp
          refine (must_not _).mono ?_
          rintro e w7 ⟨rfl, rfl⟩
          exact ⟨rfl, Or.inl ⟨HE2.out, rfl, HS6.out.base⟩⟩
      · have e0 : Hid ((byt s).drop k' = []) := List.drop_eq_nil_iff.2 (by rw [byt_len]; omega)
        have HNX := hide (next_no W w5.drew b k' s (HS.out.grown (grown_drew (grown_refl _ _))) hs hk)
        have HE2 : Hid (rdLit (leB 4 C) ((byt s).drop k) = none) := by
          unfold Hid; rw [← HE.out, e0.out, HX.out, rdLit]
        go_wp2_with fail
        refine wp_region_head (fun _ => True) 8 (by kernel_rfl) (by kernel_rfl) trivial ?_
        intro hHeld
        refine wpHead_take (i := 0) (v := ?vv0_55) rfl (by kernel_rfl) (fun _ _ _ h => h) (Or.inl ⟨by rfl, ?hy0_55⟩) trivial ?rest0_55
        case hy0_55 => (intro u hu; go_simp; try with_reducible rfl)
        simp only [Act.put, List.setIfInBounds_toArray]
        refine wpHead_take (i := 2) (v := ?vv2_56) rfl (by kernel_rfl) (fun _ _ _ h => h) (Or.inl ⟨by rfl, ?hy2_56⟩) trivial ?rest2_56
        case hy2_56 => (intro u hu; go_simp; try with_reducible rfl)
        simp only [Act.put]
        refine wpHead_take (i := 3) (v := ?vv3_57) rfl (by kernel_rfl) (fun _ _ _ h => h) (Or.inl ⟨by rfl, ?hy3_57⟩) trivial ?rest3_57
        case hy3_57 => (intro u hu; go_simp; try with_reducible rfl)
        simp only [Act.put]
        refine wpHead_take (i := 4) (v := ?vv4_58) rfl (by kernel_rfl) (fun _ _ _ h => h) (Or.inl ⟨by rfl, ?hy4_58⟩) trivial ?rest4_58
        case hy4_58 => (intro u hu; go_simp; try with_reducible rfl)
        simp only [Act.put]
        refine wpHead_take (i := 5) (v := ?vv5_59) rfl (by kernel_rfl) (fun _ _ _ h => h) (Or.inl ⟨by rfl, ?hy5_59⟩) trivial ?rest5_59
        case hy5_59 => (intro u hu; go_simp; try with_reducible rfl)
        simp only [Act.put]
        refine wpHead_take (i := 6) (v := ?vv6_60) rfl (by kernel_rfl) (fun _ _ _ h => h) (Or.inl ⟨by rfl, ?hy6_60⟩) trivial ?rest6_60
        case hy6_60 => (intro u hu; go_simp; try with_reducible rfl)
        simp only [Act.put]
        refine wpHead_alone (i := 1) rfl (by kernel_rfl) (by kernel_rfl) (by rfl) ?_
        intro K1 hK1
        have HK1 := hide hK1
        clear hK1
        go_simp
        refine HNX.out.mono ?_
        rintro e w6 ⟨rfl, hS6⟩
        exact ⟨rfl, Or.inl ⟨HE2.out, rfl, hS6⟩⟩
    · have HX : Hid ((leB 4 C).drop 3 = (C / 16777216 % 256) :: (leB 4 C).drop 4) := by unfold Hid; simp [leB, Nat.div_div_eq_div_mul]
      have qw : IntKind.i64.wrap 24 = 24 := by decide
      by_cases hk : k' < s.size
      · have HB := hide (byt_cons s k' hk)
        have HNX := hide (next_ok W w5.drew b k' s (HS.out.grown (grown_drew (grown_refl _ _))) hs hk)
        generalize s[k'].toNat = y at *
        by_cases hy : y = C / 16777216 % 256
        · have qy : ((y : Int) == IntKind.u8.wrap ((C : Int) / 16777216)) = true := by rw [IntKind.wrap_u8']; simp; omega
          have HE2 : Hid (rdLit ((leB 4 C).drop (4)) ((byt s).drop (k' + 1)) = rdLit (leB 4 C) ((byt s).drop k)) := by
            unfold Hid; rw [← HE.out, HB.out, HX.out, rdLit, if_pos hy]
          clear hy
          go_wp2_with fail
          refine wp_region_head (fun _ => True) 8 (by kernel_rfl) (by kernel_rfl) trivial ?_
          intro hHeld
          refine wpHead_take (i := 0) (v := ?vv0_61) rfl (by kernel_rfl) (fun _ _ _ h => h) (Or.inl ⟨by rfl, ?hy0_61⟩) trivial ?rest0_61
          case hy0_61 => (intro u hu; go_simp; try with_reducible rfl)
          simp only [Act.put, List.setIfInBounds_toArray]
          refine wpHead_take (i := 2) (v := ?vv2_62) rfl (by kernel_rfl) (fun _ _ _ h => h) (Or.inl ⟨by rfl, ?hy2_62⟩) trivial ?rest2_62
          case hy2_62 => (intro u hu; go_simp; try with_reducible rfl)
          simp only [Act.put]
          refine wpHead_take (i := 3) (v := ?vv3_63) rfl (by kernel_rfl) (fun _ _ _ h => h) (Or.inl ⟨by rfl, ?hy3_63⟩) trivial ?rest3_63
          case hy3_63 => (intro u hu; go_simp; try with_reducible rfl)
          simp only [Act.put]
          refine wpHead_take (i := 4) (v := ?vv4_64) rfl (by kernel_rfl) (fun _ _ _ h => h) (Or.inl ⟨by rfl, ?hy4_64⟩) trivial ?rest4_64
          case hy4_64 => (intro u hu; go_simp; try with_reducible rfl)
          simp only [Act.put]
          refine wpHead_take (i := 5) (v := ?vv5_65) rfl (by kernel_rfl) (fun _ _ _ h => h) (Or.inl ⟨by rfl, ?hy5_65⟩) trivial ?rest5_65
          case hy5_65 => (intro u hu; go_simp; try with_reducible rfl)
          simp only [Act.put]
          refine wpHead_take (i := 6) (v := ?vv6_66) rfl (by kernel_rfl) (fun _ _ _ h => h) (Or.inl ⟨by rfl, ?hy6_66⟩) trivial ?rest6_66
          case hy6_66 => (intro u hu; go_simp; try with_reducible rfl)
          simp only [Act.put]
          refine wpHead_alone (i := 1) rfl (by kernel_rfl) (by kernel_rfl) (by rfl) ?_
          intro K1 hK1
          have HK1 := hide hK1
          clear hK1
          go_simp
          refine HNX.out.mono ?_
          rintro e w6 ⟨rfl, hS6⟩
          have HS6 := hide hS6
          clear hS6
          refine HK1.out _ _ trivial ?_
          clear HK1
          try simp only [Act.put, List.setIfInBounds_toArray]
          refine wpHead_take (i := 7) (v := ?vv7_67) rfl (by kernel_rfl) (fun _ _ _ h => h) (Or.inl ⟨by rfl, ?hy7_67⟩) trivial ?rest7_67
          case hy7_67 => (intro u hu; go_simp; try with_reducible rfl)
          simp only [Act.put]
          refine wpHead_last rfl (by kernel_rfl) (by kernel_rfl) (by rfl) ?_
          go_simp
          refine (must_ok _).mono ?_
          rintro e w7 ⟨⟨v7, rfl⟩, rfl⟩
          go_wp2_with fail
          go_roundw
          case rel => exact ⟨4, k' + 1, by omega, by first | rfl | go_num, HS6, HE2⟩
          case measure => simp [intOf]
        · have qy : ((y : Int) == IntKind.u8.wrap ((C : Int) / 16777216)) = false := by rw [IntKind.wrap_u8']; simp; omega
          have HE2 : Hid (rdLit (leB 4 C) ((byt s).drop k) = none) := by
            unfold Hid; rw [← HE.out, HB.out, HX.out, rdLit, if_neg hy]
          clear hy
          go_wp2_with fail
          refine wp_region_head (fun _ => True) 8 (by kernel_rfl) (by kernel_rfl) trivial ?_
          intro hHeld
          refine wpHead_take (i := 0) (v := ?vv0_68) rfl (by kernel_rfl) (fun _ _ _ h => h) (Or.inl ⟨by rfl, ?hy0_68⟩) trivial ?rest0_68
          case hy0_68 => (intro u hu; go_simp; try with_reducible rfl)
          simp only [Act.put, List.setIfInBounds_toArray]
          refine wpHead_take (i := 2) (v := ?vv2_69) rfl (by kernel_rfl) (fun _ _ _ h => h) (Or.inl ⟨by rfl, ?hy2_69⟩) trivial ?rest2_69
          case hy2_69 => (intro u hu; go_simp; try with_reducible rfl)
          simp only [Act.put]
          refine wpHead_take (i := 3) (v := ?vv3_70) rfl (by kernel_rfl) (fun _ _ _ h => h) (Or.inl ⟨by rfl, ?hy3_70⟩) trivial ?rest3_70
          case hy3_70 => (intro u hu; go_simp; try with_reducible rfl)
          simp only [Act.put]
          refine wpHead_take (i := 4) (v := ?vv4_71) rfl (by kernel_rfl) (fun _ _ _ h => h) (Or.inl ⟨by rfl, ?hy4_71⟩) trivial ?rest4_71
          case hy4_71 => (intro u hu; go_simp; try with_reducible rfl)
          simp only [Act.put]
          refine wpHead_take (i := 5) (v := ?vv5_72) rfl (by kernel_rfl) (fun _ _ _ h => h) (Or.inl ⟨by rfl, ?hy5_72⟩) trivial ?rest5_72
          case hy5_72 => (intro u hu; go_simp; try with_reducible rfl)
          simp only [Act.put]
          refine wpHead_take (i := 6) (v := ?vv6_73) rfl (by kernel_rfl) (fun _ _ _ h => h) (Or.inl ⟨by rfl, ?hy6_73⟩) trivial ?rest6_73
          case hy6_73 => (intro u hu; go_simp; try with_reducible rfl)
          simp only [Act.put]
          refine wpHead_alone (i := 1) rfl (by kernel_rfl) (by kernel_rfl) (by rfl) ?_
          intro K1 hK1
          have HK1 := hide hK1
          clear hK1
          go_simp
          refine HNX.out.mono ?_
          rintro e w6 ⟨rfl, hS6⟩
          have HS6 := hide hS6
          clear hS6
          refine HK1.out _ _ trivial ?_
          clear HK1
          try simp only [Act.put, List.setIfInBounds_toArray]
          refine wpHead_take (i := 7) (v := ?vv7_74) rfl (by kernel_rfl) (fun _ _ _ h => h) (Or.inl ⟨by rfl, ?hy7_74⟩) trivial ?rest7_74
          case hy7_74 => (intro u hu; go_simp; try with_reducible rfl)
          simp only [Act.put]
          refine wpHead_last rfl (by kernel_rfl) (by kernel_rfl) (by rfl) ?_
          go_simp
          refine (must_not _).mono ?_
          rintro e w7 ⟨rfl, rfl⟩
          exact ⟨rfl, Or.inl ⟨HE2.out, rfl, HS6.out.base⟩⟩
      · have e0 : Hid ((byt s).drop k' = []) := List.drop_eq_nil_iff.2 (by rw [byt_len]; omega)
        have HNX := hide (next_no W w5.drew b k' s (HS.out.grown (grown_drew (grown_refl _ _))) hs hk)
        have HE2 : Hid (rdLit (leB 4 C) ((byt s).drop k) = none) := by
          unfold Hid; rw [← HE.out, e0.out, HX.out, rdLit]
        go_wp2_with fail
        refine wp_region_head (fun _ => True) 8 (by kernel_rfl) (by kernel_rfl) trivial ?_
        intro hHeld
        refine wpHead_take (i := 0) (v := ?vv0_75) rfl (by kernel_rfl) (fun _ _ _ h => h) (Or.inl ⟨by rfl, ?hy0_75⟩) trivial ?rest0_75
        case hy0_75 => (intro u hu; go_simp; try with_reducible rfl)
        simp only [Act.put, List.setIfInBounds_toArray]
        refine wpHead_take (i := 2) (v := ?vv2_76) rfl (by kernel_rfl) (fun _ _ _ h => h) (Or.inl ⟨by rfl, ?hy2_76⟩) trivial ?rest2_76
        case hy2_76 => (intro u hu; go_simp; try with_reducible rfl)
        simp only [Act.put]
        refine wpHead_take (i := 3) (v := ?vv3_77) rfl (by kernel_rfl) (fun _ _ _ h => h) (Or.inl ⟨by rfl, ?hy3_77⟩) trivial ?rest3_77
        case hy3_77 => (intro u hu; go_simp; try with_reducible rfl)
        simp only [Act.put]
        refine wpHead_take (i := 4) (v := ?vv4_78) rfl (by kernel_rfl) (fun _ _ _ h => h) (Or.inl ⟨by rfl, ?hy4_78⟩) trivial ?rest4_78
        case hy4_78 => (intro u hu; go_simp; try with_reducible rfl)
        simp only [Act.put]
        refine wpHead_take (i := 5) (v := ?vv5_79) rfl (by kernel_rfl) (fun _ _ _ h => h) (Or.inl ⟨by rfl, ?hy5_79⟩) trivial ?rest5_79
        case hy5_79 => (intro u hu; go_simp; try with_reducible rfl)
        simp only [Act.put]
        refine wpHead_take (i := 6) (v := ?vv6_80) rfl (by kernel_rfl) (fun _ _ _ h => h) (Or.inl ⟨by rfl, ?hy6_80⟩) trivial ?rest6_80
        case hy6_80 => (intro u hu; go_simp; try with_reducible rfl)
        simp only [Act.put]
        refine wpHead_alone (i := 1) rfl (by kernel_rfl) (by kernel_rfl) (by rfl) ?_
        intro K1 hK1
        have HK1 := hide hK1
        clear hK1
        go_simp
        refine HNX.out.mono ?_
        rintro e w6 ⟨rfl, hS6⟩
        exact ⟨rfl, Or.inl ⟨HE2.out, rfl, hS6⟩⟩
    · have HE2 : Hid (rdLit (leB 4 C) ((byt s).drop k) = some ((), (byt s).drop k')) := by
        unfold Hid; rw [← HE.out]; rfl
      go_wp2_with fail
      go_end0
      exact Or.inr ⟨(), _, _, k', HE2.out, rfl, trivial, HS.out, rfl⟩

end Go.Proofs.YtklenjmfalljgaaDoor

/- The walk of artifact.Check. -/
namespace Go.Proofs.YtklenjmfalljgaaDoor
open Go.RowKit
attribute [local go_sem] Go.World.cell?_alloc_some

def inB (x lo hi : Int) : Bool := decide (lo ≤ x) && decide (x ≤ hi)

set_option maxRecDepth 100000 in
set_option maxHeartbeats 400000 in
theorem within_m (x lo hi : Int) (w : World) : Calls Tryd.prog 110 #[.int .i64 x, .int .i64 lo, .int .i64 hi] w fun e w' => e = .returned (.bool (inB x lo hi)) ∧ w' = w := by
  by_cases h1 : lo ≤ x
  · by_cases h2 : x ≤ hi
    · have HB : Hid (inB x lo hi = true) := by unfold Hid inB; simp [h1, h2]
      go_enter Tryd.func110, Tryd.ntmps110
      go_wp2_with fail
      go_ret
      exact ⟨by first | rfl | (rw [HB.out]; rfl), rfl⟩
    · have HB : Hid (inB x lo hi = false) := by unfold Hid inB; simp [h2]
      have q2 : decide (x ≤ hi) = false := by simp; omega
      go_enter Tryd.func110, Tryd.ntmps110
      go_wp2_with fail
      go_ret
      exact ⟨by first | rfl | (rw [HB.out]; rfl), rfl⟩
  · have HB : Hid (inB x lo hi = false) := by unfold Hid inB; simp [h1]
    have q2 : decide (lo ≤ x) = false := by simp; omega
    go_enter Tryd.func110, Tryd.ntmps110
    go_wp2_with fail
    go_ret
    exact ⟨by first | rfl | (rw [HB.out]; rfl), rfl⟩

theorem verOk_in (a b c : Int) : verOk (a, b, c) = (inB a 1 5 && inB b 0 3 && inB c 0 500) := rfl

set_option maxRecDepth 100000 in
set_option maxHeartbeats 400000 in
theorem validVerdict_m (v : Int × Int × Int) (w : World) : Calls Tryd.prog 75 #[verA v] w fun e w' => e = .returned (.bool (verOk v)) ∧ w.grownBy w' none := by
  obtain ⟨a, b, c⟩ := v
  unfold verA
  cases h1 : inB a 1 5 with
  | false =>
    have HV : Hid (verOk (a, b, c) = false) := by unfold Hid; rw [verOk_in]; simp only [h1]; rfl
    go_enter Tryd.func75, Tryd.ntmps75
    go_wp2_with (go_at_call 110; refine (within_m _ _ _ _).mono ?_; rintro e w1 ⟨rfl, rfl⟩)
    go_ret
    exact ⟨by rw [HV.out]; rfl, grown_alloc (grown_refl _ _)⟩
  | true =>
    cases h2 : inB b 0 3 with
    | false =>
      have HV : Hid (verOk (a, b, c) = false) := by unfold Hid; rw [verOk_in]; simp only [h1, h2]; rfl
      go_enter Tryd.func75, Tryd.ntmps75
      go_wp2_with (go_at_call 110; refine (within_m _ _ _ _).mono ?_; rintro e w1 ⟨rfl, rfl⟩)
      go_ret
      exact ⟨by rw [HV.out]; rfl, grown_alloc (grown_refl _ _)⟩
    | true =>
      cases h3 : inB c 0 500 with
      | false =>
        have HV : Hid (verOk (a, b, c) = false) := by unfold Hid; rw [verOk_in]; simp only [h1, h2, h3]; rfl
        go_enter Tryd.func75, Tryd.ntmps75
        go_wp2_with (go_at_call 110; refine (within_m _ _ _ _).mono ?_; rintro e w1 ⟨rfl, rfl⟩)
        go_ret
        exact ⟨by rw [HV.out]; rfl, grown_alloc (grown_refl _ _)⟩
      | true =>
        have HV : Hid (verOk (a, b, c) = true) := by unfold Hid; rw [verOk_in]; simp only [h1, h2, h3]; rfl
        go_enter Tryd.func75, Tryd.ntmps75
        go_wp2_with (go_at_call 110; refine (within_m _ _ _ _).mono ?_; rintro e w1 ⟨rfl, rfl⟩)
        go_ret
        exact ⟨by rw [HV.out]; rfl, grown_alloc (grown_refl _ _)⟩

end Go.Proofs.YtklenjmfalljgaaDoor

/- The walk of artifact.Check. -/
namespace Go.Proofs.YtklenjmfalljgaaDoor
open Go.RowKit
attribute [local go_sem] Go.World.cell?_alloc_some

/-- An artifact's value: the program's threads, the schedule, the verdict. -/
def artA (tv sv : Value) (v : Int × Int × Int) : Value := .agg #[tv, sv, .int .i64 v.1, .int .i64 v.2.1, .int .i64 v.2.2]

set_option maxRecDepth 100000 in
set_option maxHeartbeats 400000 in
theorem acheck_m (a : Art) (tv sv : Value) (w : World) (hSh : ShpAt w) (hP : ProgAt w (.agg #[tv]) a.prog) (hS : IntsAt w.heap.size w sv a.sch) :
    Calls Tryd.prog 41 #[artA tv sv a.ver] w fun e w' => e = .returned (.int .i64 (artE a)) ∧ w.grownBy w' none := by
  obtain ⟨p, l, v⟩ := a
  obtain ⟨v1, v2, v3⟩ := v
  simp only at hP hS ⊢
  have HP := hide hP
  have HS := hide hS
  obtain ⟨ta, tc, e1⟩ := hP.form
  simp only [Value.agg.injEq, Array.mk.injEq, List.cons.injEq, and_true] at e1
  subst e1
  obtain ⟨sa, sc, rfl⟩ := hS.form
  have HSh := hide hSh
  clear hP hS hSh
  unfold artA
  simp only
  have hg1 : w.grownBy (w.alloc (.cells #[.slice ta p.length tc, .slice sa l.length sc, .int .i64 v1, .int .i64 v2, .int .i64 v3] 51)) none := grown_alloc (grown_refl _ _)
  have HB1 : Hid ((w.alloc (.cells #[.slice ta p.length tc, .slice sa l.length sc, .int .i64 v1, .int .i64 v2, .int .i64 v3] 51)).heap[w.heap.size]? = some (.cells #[.slice ta p.length tc, .slice sa l.length sc, .int .i64 v1, .int .i64 v2, .int .i64 v3] 51 (0, 0))) := heap_alloc_new _ _
  have HV1 := hide (valid_m p _ _ (ShpAt.pres HSh.out (pres_grown hg1)) (HP.out.pres (pres_grown hg1)))
  have HG1 := hide hg1
  clear hg1
  cases hv : vProg p with
  | false =>
    have HA : Hid (artE ⟨p, l, (v1, v2, v3)⟩ = 1) := by unfold Hid artE; rw [if_neg (by rw [hv]; simp)]
    rw [hv] at HV1
    clear hv
    go_enter Tryd.func41, Tryd.ntmps41
    go_wp2_with (go_at_call 74; refine HV1.out.mono ?_; rintro e w2 ⟨rfl, hg2⟩)
    go_ret
    exact ⟨by rw [HA.out]; rfl, grown_trans HG1.out hg2⟩
  | true =>
    rw [hv] at HV1
    have HAV := hide hv
    clear hv
    go_enter Tryd.func41, Tryd.ntmps41
    go_wp2_with fail
    refine HV1.out.mono ?_
    rintro e w2 ⟨rfl, hg2⟩
    have HG2 := hide (grown_trans HG1.out hg2)
    have hB2 : w2.heap[w.heap.size]? = some (.cells #[.slice ta p.length tc, .slice sa l.length sc, .int .i64 v1, .int .i64 v2, .int .i64 v3] 51 (0, 0)) := by
      rw [hg2.block _ (by simp) (by simp)]; exact HB1.out
    have k1 : w2.cell? ⟨w.heap.size, 1, none⟩ = some (.slice sa l.length sc) := by simp [World.cell?, hB2]
    have HV2 := hide (valid_t l (.slice sa l.length sc) w2 ((HS.out.pres (pres_grown HG2.out)).mono HG2.out.size))
    have HB2 := hide hB2
    clear hg2 hB2
    cases hv2 : validS l with
    | false =>
      have HA : Hid (artE ⟨p, l, (v1, v2, v3)⟩ = 2) := by unfold Hid artE; rw [if_pos HAV.out, if_neg (by rw [hv2]; simp)]
      rw [hv2] at HV2
      clear hv2
      go_wp2_with (go_at_call 60; refine HV2.out.mono ?_; rintro e w3 ⟨rfl, hg3⟩)
      go_ret
      exact ⟨by rw [HA.out]; rfl, grown_trans HG2.out hg3⟩
    | true =>
      rw [hv2] at HV2
      have HAS := hide hv2
      clear hv2
      go_wp2_with fail
      refine HV2.out.mono ?_
      rintro e w3 ⟨rfl, hg3⟩
      have HG3 := hide (grown_trans HG2.out hg3)
      have hB3 : w3.heap[w.heap.size]? = some (.cells #[.slice ta p.length tc, .slice sa l.length sc, .int .i64 v1, .int .i64 v2, .int .i64 v3] 51 (0, 0)) := by
        rw [hg3.block _ (Array.getElem?_eq_some_iff.1 HB2.out).1 (by simp)]; exact HB2.out
      have k2 : w3.cell? ⟨w.heap.size, 2, none⟩ = some (.int .i64 v1) := by simp [World.cell?, hB3]
      have k3 : w3.cell? ⟨w.heap.size, 3, none⟩ = some (.int .i64 v2) := by simp [World.cell?, hB3]
      have k4 : w3.cell? ⟨w.heap.size, 4, none⟩ = some (.int .i64 v3) := by simp [World.cell?, hB3]
      have HV3 := hide (validVerdict_m (v1, v2, v3) w3)
      clear hg3 hB3 k1
      cases hv3 : verOk (v1, v2, v3) with
      | false =>
        have HA : Hid (artE ⟨p, l, (v1, v2, v3)⟩ = 2) := by unfold Hid artE; rw [if_pos HAV.out, if_neg (by rw [hv3]; simp)]
        rw [hv3] at HV3
        clear hv3
        go_wp2_with (go_at_call 75; refine HV3.out.mono ?_; rintro e w4 ⟨rfl, hg4⟩)
        go_ret
        exact ⟨by rw [HA.out]; rfl, grown_trans HG3.out hg4⟩
      | true =>
        have HA : Hid (artE ⟨p, l, (v1, v2, v3)⟩ = 0) := by unfold Hid artE; rw [if_pos HAV.out, if_pos ⟨HAS.out, hv3⟩]
        rw [hv3] at HV3
        clear hv3
        go_wp2_with (go_at_call 75; refine HV3.out.mono ?_; rintro e w4 ⟨rfl, hg4⟩)
        go_ret
        exact ⟨by rw [HA.out]; rfl, grown_trans HG3.out hg4⟩

end Go.Proofs.YtklenjmfalljgaaDoor

/- The walk of the reader's artifact. -/
namespace Go.Proofs.YtklenjmfalljgaaDoor
open Go.RowKit
attribute [local go_sem] Go.World.cell?_alloc_some

theorem ThrAt.low {L L' B : Nat} {w : World} {tv : Value} {p : List (List Ins)} (h : ThrAt L B w tv p) (hl : L' ≤ L) : ThrAt L' B w tv p := by
  obtain ⟨rows, h1, h2, h3, h4⟩ := h
  refine ⟨rows, owns_mono h1 hl, h2, fun j hj => ?_, h4⟩
  obtain ⟨rv, e1, e2, e3⟩ := h3 j hj
  exact ⟨rv, e1, owns_mono e2 hl, e3⟩

def decT (l : List Nat) (a : Art) (r3 : List Nat) : Option Art := if r3 = leB 4 (crcN (l.take (l.length - r3.length))) ∧ artE a = 0 then some a else none
def decV (l : List Nat) (p : List (List Ins)) (s : List Int) (r : List Nat) : Option Art := match rdVer r with
  | none => none
  | some (v, r3) => decT l ⟨p, s, v⟩ r3
def decS (l : List Nat) (p : List (List Ins)) (r : List Nat) : Option Art := match rdSched r with
  | none => none
  | some (s, r2) => decV l p s r2
def decP (l : List Nat) (r : List Nat) : Option Art := match rdProg r with
  | none => none
  | some (p, r1) => decS l p r1
theorem decB_head {l r0 : List Nat} (h : rdLit [82, 82, 1] l = some ((), r0)) : decB l = decP l r0 := by
  have e := (rdLit_ok _ _ _).1 h
  have e' : l = 82 :: 82 :: 1 :: r0 := e
  have e2 : rdArt l = match rdProg r0 with
    | none => none
    | some (p, r1) => match rdSched r1 with
      | none => none
      | some (s, r2) => match rdVer r2 with
        | none => none
        | some (v, r3) => some (⟨p, s, v⟩, r3) := by rw [e']; rfl
  unfold decB
  rw [e2]
  unfold decP decS decV decT
  cases rdProg r0 with
  | none => rfl
  | some x =>
    obtain ⟨p, r1⟩ := x
    simp only
    cases rdSched r1 with
    | none => rfl
    | some x =>
      obtain ⟨s, r2⟩ := x
      simp only
      cases rdVer r2 with
      | none => rfl
      | some x => rfl
theorem decT_lit {l : List Nat} {k : Nat} (hk : k ≤ l.length) (a : Art) : decT l a (l.drop k) = if rdLit (leB 4 (crcN (l.take k))) (l.drop k) = some ((), []) ∧ artE a = 0 then some a else none := by
  unfold decT
  have e : l.length - (l.drop k).length = k := by simp; omega
  rw [e]
  have e2 : (rdLit (leB 4 (crcN (l.take k))) (l.drop k) = some ((), [])) = (l.drop k = leB 4 (crcN (l.take k))) := by rw [rdLit_ok, List.append_nil]
  simp only [e2]
theorem ShpAt.past {w w' : World} {b : Nat} (h : ShpAt w) (hg : w.grownBy w' (some b)) (hb : b ≠ 0) : ShpAt w' := fun o j h1 h2 => by
  have := h o j h1 h2
  rw [hg.cell_far _ (World.block_lt_of_cell? _ _ this) (by simpa using Ne.symm hb)]; exact this
theorem decB_nohead {l : List Nat} (h : rdLit [82, 82, 1] l = none) : decB l = none := by
  cases hd : decB l with
  | none => rfl
  | some a =>
    obtain ⟨r, h1, _⟩ := dec_parts hd
    obtain ⟨r0, e⟩ := rdArt_head h1
    have : rdLit [82, 82, 1] l = some ((), r0) := (rdLit_ok _ _ _).2 e
    rw [this] at h; cases h

/-- The artifact that is being read. -/
structure ArS (W w : World) (b : Nat) (s : ByteArray) (k c d L : Nat) (tv sv : Value) (p : List (List Ins)) (l : List Int) (v : Int × Int × Int) (us : Array Value) : Prop where
  ins : InS W w b s k 51 c d #[tv, sv, .int .i64 v.1, .int .i64 v.2.1, .int .i64 v.2.2] us
  thr : ThrAt L w.heap.size w tv p
  own : w.ownsRow L 3 1 sv l.length (ints l)
  lb : b < L
  lc : c < L
  ld : d < L

theorem ArS.call {W w w' : World} {b k k' c d L : Nat} {s : ByteArray} {tv sv : Value} {p : List (List Ins)} {l : List Int} {v : Int × Int × Int} {us : Array Value} (h : ArS W w b s k c d L tv sv p l v us) (h' : RdS w w' b s k') : ArS W w' b s k' c d L tv sv p l v us :=
  ⟨h.ins.call h', (h.thr.step h'.base (fun q e => by simp only [Option.some.injEq] at e; have := h.lb; omega)).mono h'.base.size, owns_rd h.own h'.base h.lb, h.lb, h.lc, h.ld⟩

theorem owns_below {w : World} {base : Nat} {e : TypeId} {size : Nat} {v : Value} {n : Nat} {xs : List Value} {g o : Nat} {u : Value} (h : w.ownsRow base e size v n xs) (hg : g < base) : (w.setCell ⟨g, o, none⟩ u).ownsRow base e size v n xs :=
  owns_grown h (grown_set (w := w) (b := g) (o := o) (v := u)) (fun k e => by simp only [Option.some.injEq] at e; omega)
theorem thr_below {L : Nat} {w : World} {tv : Value} {p : List (List Ins)} {g o : Nat} {u : Value} (h : ThrAt L w.heap.size w tv p) (hg : g < L) : ThrAt L (w.setCell ⟨g, o, none⟩ u).heap.size (w.setCell ⟨g, o, none⟩ u) tv p :=
  (h.step (grown_set (w := w) (b := g) (o := o) (v := u)) (fun q e => by simp only [Option.some.injEq] at e; omega)).mono (by simp)

theorem ArS.setS {W w : World} {b k c d L : Nat} {s : ByteArray} {tv sv sv' : Value} {p : List (List Ins)} {l l' : List Int} {v : Int × Int × Int} {us : Array Value} (h : ArS W w b s k c d L tv sv p l v us) (h' : w.ownsRow L 3 1 sv' l'.length (ints l')) : ArS W (w.setCell ⟨c, 1, none⟩ sv') b s k c d L tv sv' p l' v us :=
  ⟨by simpa using h.ins.set 1 sv', thr_below h.thr h.lc, owns_below h' h.lc, h.lb, h.lc, h.ld⟩
theorem ArS.setV {W w : World} {b k c d L : Nat} {s : ByteArray} {tv sv : Value} {p : List (List Ins)} {l : List Int} {v : Int × Int × Int} {us : Array Value} (h : ArS W w b s k c d L tv sv p l v us) (x : Int × Int × Int) :
    ArS W (((w.setCell ⟨c, 2, none⟩ (.int .i64 x.1)).setCell ⟨c, 3, none⟩ (.int .i64 x.2.1)).setCell ⟨c, 4, none⟩ (.int .i64 x.2.2)) b s k c d L tv sv p l x us :=
  ⟨by simpa using ((h.ins.set 2 (.int .i64 x.1)).set 3 (.int .i64 x.2.1)).set 4 (.int .i64 x.2.2), thr_below (thr_below (thr_below h.thr h.lc) h.lc) h.lc, owns_below (owns_below (owns_below h.own h.lc) h.lc) h.lc, h.lb, h.lc, h.ld⟩
theorem ArS.first {W w : World} {b k c d L : Nat} {s : ByteArray} {tv : Value} {p : List (List Ins)} {us : Array Value} (h : InS W w b s k 51 c d #[.slice none 0 0, .slice none 0 0, .int .i64 0, .int .i64 0, .int .i64 0] us) (ht : ThrAt L w.heap.size w tv p) (hb : b < L) (hc : c < L) (hd : d < L) :
    ArS W (w.setCell ⟨c, 0, none⟩ tv) b s k c d L tv (.slice none 0 0) p [] (0, 0, 0) us :=
  ⟨by simpa using h.set 0 tv, thr_below ht hc, ⟨rfl, Or.inl ⟨rfl, rfl⟩⟩, hb, hc, hd⟩
theorem ArS.out {W w : World} {b k c d L : Nat} {s : ByteArray} {tv sv : Value} {p : List (List Ins)} {l : List Int} {v : Int × Int × Int} {us : Array Value} (h : ArS W w b s k c d L tv sv p l v us) (hu : us.size = 5) :
    ArS W (((((w.setCell ⟨d, 0, none⟩ tv).setCell ⟨d, 1, none⟩ sv).setCell ⟨d, 2, none⟩ (.int .i64 v.1)).setCell ⟨d, 3, none⟩ (.int .i64 v.2.1)).setCell ⟨d, 4, none⟩ (.int .i64 v.2.2)) b s k c d L tv sv p l v #[tv, sv, .int .i64 v.1, .int .i64 v.2.1, .int .i64 v.2.2] := by
  obtain ⟨us⟩ := us
  match us, hu with
  | [a0, a1, a2, a3, a4], _ =>
    exact ⟨by simpa using ((((h.ins.rset 0 tv).rset 1 sv).rset 2 (.int .i64 v.1)).rset 3 (.int .i64 v.2.1)).rset 4 (.int .i64 v.2.2),
      thr_below (thr_below (thr_below (thr_below (thr_below h.thr h.ld) h.ld) h.ld) h.ld) h.ld, owns_below (owns_below (owns_below (owns_below (owns_below h.own h.ld) h.ld) h.ld) h.ld) h.ld, h.lb, h.lc, h.ld⟩

end Go.Proofs.YtklenjmfalljgaaDoor

/- The walk of the reader's artifact. -/
namespace Go.Proofs.YtklenjmfalljgaaDoor
open Go.RowKit
attribute [local go_sem] Go.World.cell?_alloc_some

/-- How the reader of an artifact ends. -/
def ReadS (W : World) (b L : Nat) (s : ByteArray) (e : Ending) (w' : World) : Prop :=
  (decB (byt s) = none ∧ Refused e ∧ W.grownBy w' (some b)) ∨
  ∃ a tv sv, decB (byt s) = some a ∧ e = .returned (artA tv sv a.ver) ∧ ThrAt L w'.heap.size w' tv a.prog ∧ w'.ownsRow L 3 1 sv a.sch.length (ints a.sch) ∧ W.grownBy w' (some b)

set_option maxRecDepth 100000 in
set_option maxHeartbeats 2000000 in
theorem artifact_r (w : World) (b : Nat) (s : ByteArray) (hSh : ShpAt w) (hb0 : b ≠ 0) (h : RdS w w b s 0) (hs : s.size ≤ 9223372036854775806) :
    Calls Tryd.prog 81 #[pt b] w (ReadS w b (w.heap.size + 2) s) := by
  have HH := hide h
  have HSh := hide hSh
  have hbw := h.lt
  have hpt : pt b = .pointer (some ⟨b, 0, none⟩) := rfl
  rw [hpt] at *
  clear h hSh
  go_enter Tryd.func81, Tryd.ntmps81
  go_wp2_with fail
  have I0 := InS.start (T := 51) HH.out #[.slice none 0 0, .slice none 0 0, .int .i64 0, .int .i64 0, .int .i64 0] #[.slice none 0 0, .slice none 0 0, .int .i64 0, .int .i64 0, .int .i64 0]
  generalize hw1 : (w.alloc (.cells #[.slice none 0 0, .slice none 0 0, .int .i64 0, .int .i64 0, .int .i64 0] 51)).alloc (.cells #[.slice none 0 0, .slice none 0 0, .int .i64 0, .int .i64 0, .int .i64 0] 51) = w1 at I0 ⊢
  have hz1 : w.heap.size + 2 ≤ w1.heap.size := by rw [← hw1]; simp
  clear hw1
  refine (head_r w1 w1 b 0 s I0.rd.self hs).mono ?_
  rintro e w2 (⟨hr, rfl, hg⟩ | ⟨_, r1, v, k1, hr, rfl, _, hS, rfl⟩)
  · have HR : Hid (decB (byt s) = none) := decB_nohead hr
    have HG := hide (grown_trans I0.rd.base hg)
    clear hr hg I0
    go_wp2_with fail
    exact ⟨rfl, Or.inl ⟨HR.out, rfl, HG.out⟩⟩
  have HR1 : Hid (decB (byt s) = decP (byt s) ((byt s).drop k1)) := decB_head hr
  have I1 := I0.call hS
  have hz2 : w.heap.size + 2 ≤ w2.heap.size := Nat.le_trans hz1 hS.base.size
  have HI1 := hide I1
  clear I0 hS hr I1
  go_wp2_with fail
  refine (program_r w2 w2 b k1 s HI1.out.rd.self hs).mono ?_
  rintro e w3 (⟨hr, rfl, hg⟩ | ⟨p, r1, v, k2, hr, rfl, hv, hS, rfl⟩)
  · have HR : Hid (decB (byt s) = none) := by unfold Hid; rw [HR1.out, decP, hr]
    have HG := hide (grown_trans HI1.out.rd.base hg)
    clear hr hg
    go_wp2_with fail
    exact ⟨rfl, Or.inl ⟨HR.out, rfl, HG.out⟩⟩
  have HR2 : Hid (decB (byt s) = decS (byt s) p ((byt s).drop k2)) := by unfold Hid; rw [HR1.out, decP, hr]
  obtain ⟨hp4, tv, rfl, ht⟩ := hv
  obtain ⟨t1, t2, t3, rfl⟩ := owns_form ht.choose_spec.1
  have HT3 : Hid (ThrAt (w.heap.size + 2) w3.heap.size w3 (.slice t1 t2 t3) p) := ht.low (by omega)
  have I3 := HI1.out.call hS
  have HI3 := hide I3
  have c3 : w3.cell? ⟨w.heap.size + 1, 0, none⟩ = some (.slice none 0 0) := by simpa using I3.cell 0
  have f3 := I3.free 0
  clear ht hS hr I3
  go_wp2_with fail
  have A4 := ArS.first HI3.out HT3.out (by omega) (by omega) (by omega)
  clear c3 f3 HI3 HT3 HI1
  generalize w3.setCell ⟨w.heap.size + 1, 0, none⟩ (.slice t1 t2 t3) = w4 at A4 ⊢
  have hz4 : w.heap.size + 2 ≤ w4.heap.size := by
    have := A4.ins.rd.base.size
    have h5 := (Array.getElem?_eq_some_iff.1 A4.ins.var).1
    omega
  refine (schedule_r w4 w4 b k2 s A4.ins.rd.self hs).mono ?_
  rintro e w5 (⟨hr, rfl, hg⟩ | ⟨l, r1, sv, k3, hr, rfl, hv, hS, rfl⟩)
  · have HR : Hid (decB (byt s) = none) := by unfold Hid; rw [HR2.out, decS, hr]
    have HG := hide (grown_trans A4.ins.rd.base hg)
    clear hr hg A4
    go_wp2_with fail
    exact ⟨rfl, Or.inl ⟨HR.out, rfl, HG.out⟩⟩
  have HR3 : Hid (decB (byt s) = decV (byt s) p l ((byt s).drop k3)) := by unfold Hid; rw [HR2.out, decS, hr]
  obtain ⟨s1, s2, s3, rfl⟩ := owns_form hv.2
  have HO5 : Hid (w5.ownsRow (w.heap.size + 2) 3 1 (.slice s1 s2 s3) l.length (ints l)) := owns_mono hv.2 hz4
  have HA5 := hide (A4.call hS)
  have c5 : w5.cell? ⟨w.heap.size + 1, 1, none⟩ = some (.slice none 0 0) := by simpa using HA5.out.ins.cell 1
  have f5 := HA5.out.ins.free 1
  clear hv hS hr A4
  go_wp2_with fail
  have A6 := HA5.out.setS HO5.out
  clear c5 f5 HA5 HO5
  generalize w5.setCell ⟨w.heap.size + 1, 1, none⟩ (.slice s1 s2 s3) = w6 at A6 ⊢
  refine (ver_r w6 w6 b k3 s A6.ins.rd.self hs).mono ?_
  rintro e w7 (⟨hr, rfl, hg⟩ | ⟨x, r1, v7, k4, hr, rfl, rfl, hS, rfl⟩)
  · have HR : Hid (decB (byt s) = none) := by unfold Hid; rw [HR3.out, decV, hr]
    have HG := hide (grown_trans A6.ins.rd.base hg)
    clear hr hg A6
    go_wp2_with fail
    exact ⟨rfl, Or.inl ⟨HR.out, rfl, HG.out⟩⟩
  have HR4 : Hid (decB (byt s) = decT (byt s) ⟨p, l, x⟩ ((byt s).drop k4)) := by unfold Hid; rw [HR3.out, decV, hr]
  have HA7 := hide (A6.call hS)
  obtain ⟨x1, x2, x3⟩ := x
  have c7 : w7.cell? ⟨w.heap.size + 1, 2, none⟩ = some (.int .i64 0) := by simpa using HA7.out.ins.cell 2
  have c8 : w7.cell? ⟨w.heap.size + 1, 3, none⟩ = some (.int .i64 0) := by simpa using HA7.out.ins.cell 3
  have c9 : w7.cell? ⟨w.heap.size + 1, 4, none⟩ = some (.int .i64 0) := by simpa using HA7.out.ins.cell 4
  have f7 := HA7.out.ins.free 2
  have f8 := HA7.out.ins.free 3
  have f9 := HA7.out.ins.free 4
  clear hS hr A6
  unfold verA
  go_wp2_with fail
  have A8 := HA7.out.setV (x1, x2, x3)
  simp only at A8
  clear c7 c8 c9 f7 f8 f9 HA7
  generalize ((w7.setCell ⟨w.heap.size + 1, 2, none⟩ (.int .i64 x1)).setCell ⟨w.heap.size + 1, 3, none⟩ (.int .i64 x2)).setCell ⟨w.heap.size + 1, 4, none⟩ (.int .i64 x3) = w8 at A8 ⊢
  refine (check_r w8 w8 b k4 s A8.ins.rd.self hs).mono ?_
  rintro e w9 (⟨hr, rfl, hg⟩ | ⟨_, r1, v9, k5, hr, rfl, _, hS, rfl⟩)
  · have HR : Hid (decB (byt s) = none) := by
      unfold Hid; rw [HR4.out, decT_lit (by rw [byt_len]; exact A8.ins.rd.le), if_neg (by rw [hr]; simp)]
    have HG := hide (grown_trans A8.ins.rd.base hg)
    clear hr hg A8
    go_wp2_with fail
    exact ⟨rfl, Or.inl ⟨HR.out, rfl, HG.out⟩⟩
  have HR5 : Hid (decB (byt s) = if (byt s).drop k5 = [] ∧ artE ⟨p, l, (x1, x2, x3)⟩ = 0 then some ⟨p, l, (x1, x2, x3)⟩ else none) := by
    unfold Hid; rw [HR4.out, decT_lit (by rw [byt_len]; exact A8.ins.rd.le), hr]
    simp
  have HA9 := hide (A8.call hS)
  have c0 := HA9.out.ins.rd.c0
  have c1 := HA9.out.ins.rd.c1
  have hk5 := HA9.out.ins.rd.le
  clear hS A8 hr
  by_cases hend : ¬ k5 = s.size
  · have qe : ((k5 : Int) == (s.size : Int)) = false := by simp; omega
    have HR : Hid (decB (byt s) = none) := by
      unfold Hid; rw [HR5.out, if_neg]
      intro h
      have := List.drop_eq_nil_iff.1 h.1
      rw [byt_len] at this
      omega
    clear hend
    go_wp2_with fail
    go_still_tail 10, (by kernel_rfl)
    go_wp2_with (go_at_call 119; refine (must_not _).mono ?_; rintro e w7 ⟨rfl, rfl⟩)
    exact ⟨rfl, Or.inl ⟨HR.out, rfl, grown_drew HA9.out.ins.rd.base⟩⟩
  have qe : ((k5 : Int) == (s.size : Int)) = true := by simp; omega
  have HR6 : Hid (decB (byt s) = if artE ⟨p, l, (x1, x2, x3)⟩ = 0 then some ⟨p, l, (x1, x2, x3)⟩ else none) := by
    have e : (byt s).drop k5 = [] := List.drop_eq_nil_iff.2 (by rw [byt_len]; omega)
    unfold Hid; rw [HR5.out, e]; simp
  have HA10 := hide (HA9.out.call (HA9.out.ins.rd.self.grown (grown_drew (grown_refl _ _))))
  have d0 : w9.cell? ⟨w.heap.size + 1, 0, none⟩ = some (.slice t1 t2 t3) := by simpa using HA9.out.ins.cell 0
  have d1 : w9.cell? ⟨w.heap.size + 1, 1, none⟩ = some (.slice s1 s2 s3) := by simpa using HA9.out.ins.cell 1
  have d2 : w9.cell? ⟨w.heap.size + 1, 2, none⟩ = some (.int .i64 x1) := by simpa using HA9.out.ins.cell 2
  have d3 : w9.cell? ⟨w.heap.size + 1, 3, none⟩ = some (.int .i64 x2) := by simpa using HA9.out.ins.cell 3
  have d4 : w9.cell? ⟨w.heap.size + 1, 4, none⟩ = some (.int .i64 x3) := by simpa using HA9.out.ins.cell 4
  clear hend HR5
  have HSh9 : Hid (ShpAt w9.drew) := ShpAt.past HSh.out HA10.out.ins.rd.base hb0
  have HCK := hide (acheck_m ⟨p, l, (x1, x2, x3)⟩ (.slice t1 t2 t3) (.slice s1 s2 s3) w9.drew HSh9.out HA10.out.thr.progAt (owns_ints HA10.out.own))
  unfold artA at HCK
  simp only at HCK
  go_wp2_with fail
  go_still_tail 10, (by kernel_rfl)
  go_wp2_with (first | (go_at_call 119; refine (must_ok _).mono ?_; rintro e w11 ⟨⟨v11, rfl⟩, rfl⟩))
  refine HCK.out.mono ?_
  rintro e w12 ⟨rfl, hg12⟩
  have A12 := HA10.out.call (HA10.out.ins.rd.self.grown hg12)
  have HA12 := hide A12
  clear c0 c1 d0 d1 d2 d3 d4 HA9 HA10 HCK hg12
  by_cases hok : artE ⟨p, l, (x1, x2, x3)⟩ = 0
  · have d0 : w12.cell? ⟨w.heap.size + 1, 0, none⟩ = some (.slice t1 t2 t3) := by simpa using A12.ins.cell 0
    have d1 : w12.cell? ⟨w.heap.size + 1, 1, none⟩ = some (.slice s1 s2 s3) := by simpa using A12.ins.cell 1
    have d2 : w12.cell? ⟨w.heap.size + 1, 2, none⟩ = some (.int .i64 x1) := by simpa using A12.ins.cell 2
    have d3 : w12.cell? ⟨w.heap.size + 1, 3, none⟩ = some (.int .i64 x2) := by simpa using A12.ins.cell 3
    have d4 : w12.cell? ⟨w.heap.size + 1, 4, none⟩ = some (.int .i64 x3) := by simpa using A12.ins.cell 4
    have r0 : w12.cell? ⟨w.heap.size, 0, none⟩ = some (.slice none 0 0) := by simpa using A12.ins.rcell 0
    have r1 : w12.cell? ⟨w.heap.size, 1, none⟩ = some (.slice none 0 0) := by simpa using A12.ins.rcell 1
    have r2 : w12.cell? ⟨w.heap.size, 2, none⟩ = some (.int .i64 0) := by simpa using A12.ins.rcell 2
    have r3 : w12.cell? ⟨w.heap.size, 3, none⟩ = some (.int .i64 0) := by simpa using A12.ins.rcell 3
    have r4 : w12.cell? ⟨w.heap.size, 4, none⟩ = some (.int .i64 0) := by simpa using A12.ins.rcell 4
    have g0 := A12.ins.rfree 0
    have g1 := A12.ins.rfree 1
    have g2 := A12.ins.rfree 2
    have g3 := A12.ins.rfree 3
    have g4 := A12.ins.rfree 4
    have HR : Hid (decB (byt s) = some ⟨p, l, (x1, x2, x3)⟩) := by unfold Hid; rw [HR6.out, if_pos hok]
    rw [hok]
    clear hok A12 HR6
    go_wp2_with (go_at_call 119; refine (must_ok _).mono ?_; rintro e w13 ⟨⟨v13, rfl⟩, rfl⟩)
    have J := HA12.out.out rfl
    simp only at J
    clear d0 d1 d2 d3 d4 r0 r1 r2 r3 r4 g0 g1 g2 g3 g4 HA12
    generalize hwz : (((((w13.setCell ⟨w.heap.size, 0, none⟩ (.slice t1 t2 t3)).setCell ⟨w.heap.size, 1, none⟩ (.slice s1 s2 s3)).setCell ⟨w.heap.size, 2, none⟩ (.int .i64 x1)).setCell ⟨w.heap.size, 3, none⟩ (.int .i64 x2)).setCell ⟨w.heap.size, 4, none⟩ (.int .i64 x3)) = wz at J ⊢
    have e0 : wz.cell? ⟨w.heap.size, 0, none⟩ = some (.slice t1 t2 t3) := by simpa using J.ins.rcell 0
    have e1 : wz.cell? ⟨w.heap.size, 1, none⟩ = some (.slice s1 s2 s3) := by simpa using J.ins.rcell 1
    have e2 : wz.cell? ⟨w.heap.size, 2, none⟩ = some (.int .i64 x1) := by simpa using J.ins.rcell 2
    have e3 : wz.cell? ⟨w.heap.size, 3, none⟩ = some (.int .i64 x2) := by simpa using J.ins.rcell 3
    have e4 : wz.cell? ⟨w.heap.size, 4, none⟩ = some (.int .i64 x3) := by simpa using J.ins.rcell 4
    refine bodyPost_ret (v := .agg #[.slice t1 t2 t3, .slice s1 s2 s3, .int .i64 x1, .int .i64 x2, .int .i64 x3]) ?_ rfl ?_
    · simp [results, Tryd.results81, go_sem, e0, e1, e2, e3, e4]
    · exact Or.inr ⟨⟨p, l, (x1, x2, x3)⟩, _, _, HR.out, rfl, J.thr, J.own, J.ins.rd.base⟩
  · have qn : (artE ⟨p, l, (x1, x2, x3)⟩ == 0) = false := by simpa using hok
    have HR : Hid (decB (byt s) = none) := by unfold Hid; rw [HR6.out, if_neg hok]
    clear hok A12 HR6
    generalize artE ⟨p, l, (x1, x2, x3)⟩ = ee at *
    go_wp2_with (go_at_call 119; refine (must_not _).mono ?_; rintro e w13 ⟨rfl, rfl⟩)
    exact ⟨rfl, Or.inl ⟨HR.out, rfl, HA12.out.ins.rd.base⟩⟩

end Go.Proofs.YtklenjmfalljgaaDoor

/- The walks of Read, who recovers, and of Decode. -/
namespace Go.Proofs.YtklenjmfalljgaaDoor
open Go.RowKit
attribute [local go_sem] Go.World.cell?_alloc_some

set_option maxRecDepth 100000 in
set_option maxHeartbeats 1000000 in
theorem catch_idle (pa pe : Addr) (w : World) :
    CallsD Tryd.prog 80 #[.pointer (some pa), .pointer (some pe)] .returning w fun e u' w' => e = .returned (.tuple #[]) ∧ u' = .returning ∧ w' = w := by
  refine callsD_of_wpS Tryd.func80 rfl fun c₀ cs hu => ?_
  apply wpS_seq
  apply wpS_region
  simp [wpOpsS, go_sem, recoverD, hu, Tryd.ntmps80, Exit.thenS]
  refine wpS_of_wp ?_
  have hrep : Array.replicate 11 undef = #[undef, undef, undef, undef, undef, undef, undef, undef, undef, undef, undef] := rfl
  simp only [hrep, List.append_toArray, List.setIfInBounds_toArray, List.set_cons_succ, List.set_cons_zero, List.cons_append, List.nil_append]
  go_wp2_with fail
  cases c₀
  simp_all [bodyPostS, results, Tryd.results80]

set_option maxRecDepth 100000 in
set_option maxHeartbeats 1000000 in
theorem catch_refused (ba be : Nat) (older : List PanicEntry) (a0 a1 a2 a3 a4 a5 : Value) (w : World) (hA : w.heap[ba]? = some (.cells #[a0, a1, a2, a3, a4] 51 (0, 0))) (hE : w.heap[be]? = some (.cells #[a5] 43 (0, 0))) (hab : ba ≠ be) :
    CallsD Tryd.prog 80 #[pt ba, pt be] (.panicking ({ v := .iface 146 (.int .i64 3), recovered := false } :: older)) w fun e u' w' => e = .returned (.tuple #[]) ∧ u' = .panicking ({ v := .iface 146 (.int .i64 3), recovered := true } :: older) ∧
      w' = ((((((w.setCell ⟨ba, 0, none⟩ (.slice none 0 0)).setCell ⟨ba, 1, none⟩ (.slice none 0 0)).setCell ⟨ba, 2, none⟩ (.int .i64 0)).setCell ⟨ba, 3, none⟩ (.int .i64 0)).setCell ⟨ba, 4, none⟩ (.int .i64 0)).setCell ⟨be, 0, none⟩ (.int .i64 3)) := by
  unfold pt
  refine callsD_of_wpS Tryd.func80 rfl fun c₀ cs hu => ?_
  apply wpS_seq
  apply wpS_region
  simp [wpOpsS, go_sem, recoverD, hu, Tryd.ntmps80, Exit.thenS]
  refine wpS_of_wp ?_
  have hrep : Array.replicate 11 undef = #[undef, undef, undef, undef, undef, undef, undef, undef, undef, undef, undef] := rfl
  simp only [hrep, List.append_toArray, List.setIfInBounds_toArray, List.set_cons_succ, List.set_cons_zero, List.cons_append, List.nil_append]
  have d0 : w.cell? ⟨ba, 0, none⟩ = some a0 := by simp [World.cell?, hA]
  have d1 : w.cell? ⟨ba, 1, none⟩ = some a1 := by simp [World.cell?, hA]
  have d2 : w.cell? ⟨ba, 2, none⟩ = some a2 := by simp [World.cell?, hA]
  have d3 : w.cell? ⟨ba, 3, none⟩ = some a3 := by simp [World.cell?, hA]
  have d4 : w.cell? ⟨ba, 4, none⟩ = some a4 := by simp [World.cell?, hA]
  have d5 : w.cell? ⟨be, 0, none⟩ = some a5 := by simp [World.cell?, hE]
  have z0 : w.frozen? ⟨ba, 0, none⟩ = false := by simp [World.frozen?, hA]
  have z1 : w.frozen? ⟨ba, 1, none⟩ = false := by simp [World.frozen?, hA]
  have z2 : w.frozen? ⟨ba, 2, none⟩ = false := by simp [World.frozen?, hA]
  have z3 : w.frozen? ⟨ba, 3, none⟩ = false := by simp [World.frozen?, hA]
  have z4 : w.frozen? ⟨ba, 4, none⟩ = false := by simp [World.frozen?, hA]
  have z5 : w.frozen? ⟨be, 0, none⟩ = false := by simp [World.frozen?, hE]
  have hba : ¬ be = ba := fun e => hab e.symm
  have hab' : ¬ ba = be := hab
  clear hA hE
  have hta : ∀ w : World, (Instr.typeAssert (.iface 146 (.int .i64 3)) 20 146 true).run Tryd.prog w = .ok (.tuple #[.int .i64 3, .bool true]) w := fun _ => by kernel_rfl
  go_wp2_with fail
  simp [bodyPostS, results, Tryd.results80]

/-- How bytes are read: who reads them has what he gets for himself alone. -/
def DecS (w : World) (L : Nat) (s : ByteArray) (e : Ending) (w' : World) : Prop := w.grownBy w' none ∧
  ((decB (byt s) = none ∧ e = .returned (.tuple #[artA (.slice none 0 0) (.slice none 0 0) (0, 0, 0), .int .i64 3])) ∨
  ∃ a tv sv, decB (byt s) = some a ∧ e = .returned (.tuple #[artA tv sv a.ver, .int .i64 0]) ∧ ThrAt L w'.heap.size w' tv a.prog ∧ w'.ownsRow L 3 1 sv a.sch.length (ints a.sch))

theorem two_set (w : World) (ba be : Nat) (a0 a1 a2 a3 a4 a5 : Value) (hA : w.heap[ba]? = some (.cells #[a0, a1, a2, a3, a4] 51 (0, 0))) (hE : w.heap[be]? = some (.cells #[a5] 43 (0, 0))) (hab : ba ≠ be) (b0 b1 b2 b3 b4 b5 : Value) :
    let w' := (((((w.setCell ⟨ba, 0, none⟩ b0).setCell ⟨ba, 1, none⟩ b1).setCell ⟨ba, 2, none⟩ b2).setCell ⟨ba, 3, none⟩ b3).setCell ⟨ba, 4, none⟩ b4).setCell ⟨be, 0, none⟩ b5
    w'.cell? ⟨ba, 0, none⟩ = some b0 ∧ w'.cell? ⟨ba, 1, none⟩ = some b1 ∧ w'.cell? ⟨ba, 2, none⟩ = some b2 ∧ w'.cell? ⟨ba, 3, none⟩ = some b3 ∧ w'.cell? ⟨ba, 4, none⟩ = some b4 ∧ w'.cell? ⟨be, 0, none⟩ = some b5 ∧
      (w'.os = w.os ∧ w'.tape = w.tape ∧ w'.output = w.output ∧ w'.heap.size = w.heap.size ∧ ∀ k, k ≠ ba → k ≠ be → w'.heap[k]? = w.heap[k]?) := by
  have h1 := heap_setCell_same w ba 0 _ _ b0 hA
  have h2 := heap_setCell_same _ ba 1 _ _ b1 h1
  have h3 := heap_setCell_same _ ba 2 _ _ b2 h2
  have h4 := heap_setCell_same _ ba 3 _ _ b3 h3
  have h5 := heap_setCell_same _ ba 4 _ _ b4 h4
  have g5 : ((((((w.setCell ⟨ba, 0, none⟩ b0).setCell ⟨ba, 1, none⟩ b1).setCell ⟨ba, 2, none⟩ b2).setCell ⟨ba, 3, none⟩ b3).setCell ⟨ba, 4, none⟩ b4)).heap[be]? = some (.cells #[a5] 43 (0, 0)) := by
    rw [heap_setCell_other _ _ _ _ (Ne.symm hab), heap_setCell_other _ _ _ _ (Ne.symm hab), heap_setCell_other _ _ _ _ (Ne.symm hab), heap_setCell_other _ _ _ _ (Ne.symm hab), heap_setCell_other _ _ _ _ (Ne.symm hab)]; exact hE
  have h6 := heap_setCell_same _ be 0 _ _ b5 g5
  have g6 : (((((((w.setCell ⟨ba, 0, none⟩ b0).setCell ⟨ba, 1, none⟩ b1).setCell ⟨ba, 2, none⟩ b2).setCell ⟨ba, 3, none⟩ b3).setCell ⟨ba, 4, none⟩ b4)).setCell ⟨be, 0, none⟩ b5).heap[ba]? = some (.cells #[b0, b1, b2, b3, b4] 51 (0, 0)) := by
    rw [heap_setCell_other _ _ _ _ hab]; exact h5
  refine ⟨?_, ?_, ?_, ?_, ?_, ?_, ?_⟩
  · simp [World.cell?, g6]
  · simp [World.cell?, g6]
  · simp [World.cell?, g6]
  · simp [World.cell?, g6]
  · simp [World.cell?, g6]
  · simp [World.cell?, h6]
  · have hg : w.grownBy (((((w.setCell ⟨ba, 0, none⟩ b0).setCell ⟨ba, 1, none⟩ b1).setCell ⟨ba, 2, none⟩ b2).setCell ⟨ba, 3, none⟩ b3).setCell ⟨ba, 4, none⟩ b4) (some ba) := grown_trans (grown_trans (grown_trans (grown_trans grown_set grown_set) grown_set) grown_set) grown_set
    have hg2 : (((((w.setCell ⟨ba, 0, none⟩ b0).setCell ⟨ba, 1, none⟩ b1).setCell ⟨ba, 2, none⟩ b2).setCell ⟨ba, 3, none⟩ b3).setCell ⟨ba, 4, none⟩ b4).grownBy ((((((w.setCell ⟨ba, 0, none⟩ b0).setCell ⟨ba, 1, none⟩ b1).setCell ⟨ba, 2, none⟩ b2).setCell ⟨ba, 3, none⟩ b3).setCell ⟨ba, 4, none⟩ b4).setCell ⟨be, 0, none⟩ b5) (some be) := grown_set
    refine ⟨hg2.os.trans hg.os, hg2.tape.trans hg.tape, hg2.output.trans hg.output, by simp, fun k h1 h2 => ?_⟩
    rw [heap_setCell_other _ _ _ _ h2, heap_setCell_other _ _ _ _ h1, heap_setCell_other _ _ _ _ h1, heap_setCell_other _ _ _ _ h1, heap_setCell_other _ _ _ _ h1, heap_setCell_other _ _ _ _ h1]

theorem grown_two {w w3 w4 wz : World} {b ba be : Nat} (h : w.grownBy w3 none) (h' : w3.grownBy w4 (some b)) (hz : wz.os = w4.os ∧ wz.tape = w4.tape ∧ wz.output = w4.output ∧ wz.heap.size = w4.heap.size ∧ ∀ k, k ≠ ba → k ≠ be → wz.heap[k]? = w4.heap[k]?)
    (hb : w.heap.size ≤ b) (ha : w.heap.size ≤ ba) (he : w.heap.size ≤ be) : w.grownBy wz none :=
  ⟨hz.1.trans (h'.os.trans h.os), hz.2.1.trans (h'.tape.trans h.tape), hz.2.2.1.trans (h'.output.trans h.output), by rw [hz.2.2.2.1]; exact Nat.le_trans h.size h'.size, fun k hk _ => by
    rw [hz.2.2.2.2 k (by omega) (by omega), h'.block k (Nat.lt_of_lt_of_le hk h.size) (fun e => by simp only [Option.some.injEq] at e; omega)]; exact h.block k hk (by simp)⟩

theorem grown_rd {w w3 w4 : World} {b : Nat} (h : w.grownBy w3 none) (h' : w3.grownBy w4 (some b)) (hb : w.heap.size ≤ b) : w.grownBy w4 none :=
  ⟨h'.os.trans h.os, h'.tape.trans h.tape, h'.output.trans h.output, Nat.le_trans h.size h'.size, fun k hk _ => by
    rw [h'.block k (Nat.lt_of_lt_of_le hk h.size) (fun e => by simp only [Option.some.injEq] at e; omega)]; exact h.block k hk (by simp)⟩

set_option maxRecDepth 100000 in
set_option maxHeartbeats 1000000 in
theorem read_m (s : ByteArray) (w : World) (hSh : ShpAt w) (hs : s.size ≤ 9223372036854775806) :
    Calls Tryd.prog 43 #[.string s] w (DecS w (w.heap.size + 5) s) := by
  have hmf : ∀ (fn : Fn) (first cap : Array Value) (w : World), (Instr.makeFunc fn first cap).run Tryd.prog w = .ok (.func fn first cap) w := fun _ _ _ _ => rfl
  have HSh := hide hSh
  clear hSh
  go_enter_defers Tryd.func43, Tryd.ntmps43
  go_wp2_with fail
  have hg3 : w.grownBy (((w.alloc (.cells #[.slice none 0 0, .slice none 0 0, .int .i64 0, .int .i64 0, .int .i64 0] 51)).alloc (.cells #[.int .i64 0] 43)).alloc (.cells #[.string s, .int .i64 0] 148)) none := grown_alloc (grown_alloc (grown_alloc (grown_refl _ _)))
  have hA3 : (((w.alloc (.cells #[.slice none 0 0, .slice none 0 0, .int .i64 0, .int .i64 0, .int .i64 0] 51)).alloc (.cells #[.int .i64 0] 43)).alloc (.cells #[.string s, .int .i64 0] 148)).heap[w.heap.size]? = some (.cells #[.slice none 0 0, .slice none 0 0, .int .i64 0, .int .i64 0, .int .i64 0] 51 (0, 0)) := by
    rw [Below.heap_alloc _ _ _ (by simp; omega), Below.heap_alloc _ _ _ (by simp)]; exact heap_alloc_new _ _
  have hE3 : (((w.alloc (.cells #[.slice none 0 0, .slice none 0 0, .int .i64 0, .int .i64 0, .int .i64 0] 51)).alloc (.cells #[.int .i64 0] 43)).alloc (.cells #[.string s, .int .i64 0] 148)).heap[w.heap.size + 1]? = some (.cells #[.int .i64 0] 43 (0, 0)) := by
    rw [Below.heap_alloc _ _ _ (by simp)]
    have := heap_alloc_new (w.alloc (.cells #[.slice none 0 0, .slice none 0 0, .int .i64 0, .int .i64 0, .int .i64 0] 51)) (.cells #[.int .i64 0] 43)
    simpa using this
  have hR3 : (((w.alloc (.cells #[.slice none 0 0, .slice none 0 0, .int .i64 0, .int .i64 0, .int .i64 0] 51)).alloc (.cells #[.int .i64 0] 43)).alloc (.cells #[.string s, .int .i64 0] 148)).heap[w.heap.size + 1 + 1]? = some (.cells #[.string s, .int .i64 0] 148 (0, 0)) := by
    have := heap_alloc_new ((w.alloc (.cells #[.slice none 0 0, .slice none 0 0, .int .i64 0, .int .i64 0, .int .i64 0] 51)).alloc (.cells #[.int .i64 0] 43)) (.cells #[.string s, .int .i64 0] 148)
    simpa using this
  have hz3 : (((w.alloc (.cells #[.slice none 0 0, .slice none 0 0, .int .i64 0, .int .i64 0, .int .i64 0] 51)).alloc (.cells #[.int .i64 0] 43)).alloc (.cells #[.string s, .int .i64 0] 148)).heap.size = w.heap.size + 3 := by simp
  generalize (((w.alloc (.cells #[.slice none 0 0, .slice none 0 0, .int .i64 0, .int .i64 0, .int .i64 0] 51)).alloc (.cells #[.int .i64 0] 43)).alloc (.cells #[.string s, .int .i64 0] 148)) = w3 at hg3 hA3 hE3 hR3 hz3 ⊢
  have HAR := hide (artifact_r w3 (w.heap.size + 1 + 1) s (ShpAt.pres HSh.out (pres_grown hg3)) (by omega) ⟨hR3, grown_refl _ _, Nat.zero_le _⟩ hs)
  have HL : Hid (w3.heap.size + 2 = w.heap.size + 5) := by unfold Hid; omega
  have HG3 := hide hg3
  have hblk : ∀ w4, w3.grownBy w4 (some (w.heap.size + 1 + 1)) → w4.heap[w.heap.size]? = some (.cells #[.slice none 0 0, .slice none 0 0, .int .i64 0, .int .i64 0, .int .i64 0] 51 (0, 0)) ∧ w4.heap[w.heap.size + 1]? = some (.cells #[.int .i64 0] 43 (0, 0)) := fun w4 hg =>
    ⟨by rw [hg.block _ (by omega) (by simp only [ne_eq, Option.some.injEq]; omega)]; exact hA3, by rw [hg.block _ (by omega) (by simp only [ne_eq, Option.some.injEq]; omega)]; exact hE3⟩
  have HBK := hide hblk
  clear hg3 hA3 hE3 hR3 hz3 hblk
  refine HAR.out.mono ?_
  rintro e w4 (⟨hr, rfl, hg⟩ | ⟨a, tv, sv, hr, rfl, ht, ho, hg⟩)
  · have HR := hide hr
    obtain ⟨hA4, hE4⟩ := HBK.out w4 hg
    have HG := hide hg
    clear hr hg
    go_wp2_with fail
    refine leaves_cons (f := 80) (args := #[pt w.heap.size, pt (w.heap.size + 1)]) (by simp) (by simp [go_sem, pt]) ?_
    refine (catch_refused w.heap.size (w.heap.size + 1) [] _ _ _ _ _ _ w4 hA4 hE4 (by omega)).mono ?_
    rintro e u' w5 ⟨rfl, rfl, rfl⟩
    have J := two_set w4 w.heap.size (w.heap.size + 1) _ _ _ _ _ _ hA4 hE4 (by omega) (.slice none 0 0) (.slice none 0 0) (.int .i64 0) (.int .i64 0) (.int .i64 0) (.int .i64 3)
    generalize ((((((w4.setCell ⟨w.heap.size, 0, none⟩ (.slice none 0 0)).setCell ⟨w.heap.size, 1, none⟩ (.slice none 0 0)).setCell ⟨w.heap.size, 2, none⟩ (.int .i64 0)).setCell ⟨w.heap.size, 3, none⟩ (.int .i64 0)).setCell ⟨w.heap.size, 4, none⟩ (.int .i64 0)).setCell ⟨w.heap.size + 1, 0, none⟩ (.int .i64 3)) = wz at J ⊢
    obtain ⟨e0, e1, e2, e3, e4, e5, hz⟩ := J
    simp [Leaves, settle, results, Tryd.results43, go_sem, e0, e1, e2, e3, e4, e5]
    refine ⟨grown_two HG3.out HG.out hz (by omega) (by omega) (by omega), Or.inl ⟨HR.out, rfl⟩⟩
  · have HR := hide hr
    obtain ⟨hA4, hE4⟩ := HBK.out w4 hg
    have HG := hide hg
    obtain ⟨t1, t2, t3, rfl⟩ := owns_form ht.choose_spec.1
    obtain ⟨s1, s2, s3, rfl⟩ := owns_form ho
    obtain ⟨p, l, x1, x2, x3⟩ := a
    have HT := hide ht
    have HO := hide ho
    have d0 : w4.cell? ⟨w.heap.size, 0, none⟩ = some (.slice none 0 0) := by simp [World.cell?, hA4]
    have z0 : w4.frozen? ⟨w.heap.size, 0, none⟩ = false := by simp [World.frozen?, hA4]
    have d1 : w4.cell? ⟨w.heap.size, 1, none⟩ = some (.slice none 0 0) := by simp [World.cell?, hA4]
    have z1 : w4.frozen? ⟨w.heap.size, 1, none⟩ = false := by simp [World.frozen?, hA4]
    have d2 : w4.cell? ⟨w.heap.size, 2, none⟩ = some (.int .i64 0) := by simp [World.cell?, hA4]
    have z2 : w4.frozen? ⟨w.heap.size, 2, none⟩ = false := by simp [World.frozen?, hA4]
    have d3 : w4.cell? ⟨w.heap.size, 3, none⟩ = some (.int .i64 0) := by simp [World.cell?, hA4]
    have z3 : w4.frozen? ⟨w.heap.size, 3, none⟩ = false := by simp [World.frozen?, hA4]
    have d4 : w4.cell? ⟨w.heap.size, 4, none⟩ = some (.int .i64 0) := by simp [World.cell?, hA4]
    have z4 : w4.frozen? ⟨w.heap.size, 4, none⟩ = false := by simp [World.frozen?, hA4]
    have d5 : w4.cell? ⟨w.heap.size + 1, 0, none⟩ = some (.int .i64 0) := by simp [World.cell?, hE4]
    have z5 : w4.frozen? ⟨w.heap.size + 1, 0, none⟩ = false := by simp [World.frozen?, hE4]
    clear hr hg ht ho
    unfold artA
    simp only at HT HO ⊢
    go_wp2_with fail
    refine leaves_cons (f := 80) (args := #[pt w.heap.size, pt (w.heap.size + 1)]) (by simp) (by simp [go_sem, pt]) ?_
    refine (catch_idle ⟨w.heap.size, 0, none⟩ ⟨w.heap.size + 1, 0, none⟩ _).mono ?_
    rintro e u' w5 ⟨rfl, rfl, rfl⟩
    have J := two_set w4 w.heap.size (w.heap.size + 1) _ _ _ _ _ _ hA4 hE4 (by omega) (.slice t1 t2 t3) (.slice s1 s2 s3) (.int .i64 x1) (.int .i64 x2) (.int .i64 x3) (.int .i64 0)
    have HT5 := hide (thr_below (g := w.heap.size + 1) (o := 0) (u := .int .i64 0) (thr_below (g := w.heap.size) (o := 4) (u := .int .i64 x3) (thr_below (g := w.heap.size) (o := 3) (u := .int .i64 x2) (thr_below (g := w.heap.size) (o := 2) (u := .int .i64 x1) (thr_below (g := w.heap.size) (o := 1) (u := .slice s1 s2 s3) (thr_below (g := w.heap.size) (o := 0) (u := .slice t1 t2 t3) HT.out (by have := HL.out; omega)) (by have := HL.out; omega)) (by have := HL.out; omega)) (by have := HL.out; omega)) (by have := HL.out; omega)) (by have := HL.out; omega))
    have HO5 := hide (owns_below (g := w.heap.size + 1) (o := 0) (u := .int .i64 0) (owns_below (g := w.heap.size) (o := 4) (u := .int .i64 x3) (owns_below (g := w.heap.size) (o := 3) (u := .int .i64 x2) (owns_below (g := w.heap.size) (o := 2) (u := .int .i64 x1) (owns_below (g := w.heap.size) (o := 1) (u := .slice s1 s2 s3) (owns_below (g := w.heap.size) (o := 0) (u := .slice t1 t2 t3) HO.out (by have := HL.out; omega)) (by have := HL.out; omega)) (by have := HL.out; omega)) (by have := HL.out; omega)) (by have := HL.out; omega)) (by have := HL.out; omega))
    generalize ((((((w4.setCell ⟨w.heap.size, 0, none⟩ (.slice t1 t2 t3)).setCell ⟨w.heap.size, 1, none⟩ (.slice s1 s2 s3)).setCell ⟨w.heap.size, 2, none⟩ (.int .i64 x1)).setCell ⟨w.heap.size, 3, none⟩ (.int .i64 x2)).setCell ⟨w.heap.size, 4, none⟩ (.int .i64 x3)).setCell ⟨w.heap.size + 1, 0, none⟩ (.int .i64 0)) = wz at J HT5 HO5 ⊢
    obtain ⟨e0, e1, e2, e3, e4, e5, hz⟩ := J
    simp [Leaves, settle, results, Tryd.results43, go_sem, e0, e1, e2, e3, e4, e5]
    have HT6 := HT5.out
    have HO6 := HO5.out
    rw [HL.out] at HT6 HO6
    exact ⟨grown_two HG3.out HG.out hz (by omega) (by omega) (by omega), Or.inr ⟨_, _, _, HR.out, rfl, HT6, HO6⟩⟩

end Go.Proofs.YtklenjmfalljgaaDoor

/- The walk of Decode. -/
namespace Go.Proofs.YtklenjmfalljgaaDoor
open Go.RowKit
attribute [local go_sem] Go.World.cell?_alloc_some

theorem one_set (w : World) (ba : Nat) (a0 a1 a2 a3 a4 : Value) (hA : w.heap[ba]? = some (.cells #[a0, a1, a2, a3, a4] 51 (0, 0))) (b0 b1 b2 b3 b4 : Value) :
    let w' := ((((w.setCell ⟨ba, 0, none⟩ b0).setCell ⟨ba, 1, none⟩ b1).setCell ⟨ba, 2, none⟩ b2).setCell ⟨ba, 3, none⟩ b3).setCell ⟨ba, 4, none⟩ b4
    w'.cell? ⟨ba, 0, none⟩ = some b0 ∧ w'.cell? ⟨ba, 1, none⟩ = some b1 ∧ w'.cell? ⟨ba, 2, none⟩ = some b2 ∧ w'.cell? ⟨ba, 3, none⟩ = some b3 ∧ w'.cell? ⟨ba, 4, none⟩ = some b4 ∧ w.grownBy w' (some ba) := by
  have h1 := heap_setCell_same w ba 0 _ _ b0 hA
  have h2 := heap_setCell_same _ ba 1 _ _ b1 h1
  have h3 := heap_setCell_same _ ba 2 _ _ b2 h2
  have h4 := heap_setCell_same _ ba 3 _ _ b3 h3
  have h5 := heap_setCell_same _ ba 4 _ _ b4 h4
  refine ⟨?_, ?_, ?_, ?_, ?_, grown_trans (grown_trans (grown_trans (grown_trans grown_set grown_set) grown_set) grown_set) grown_set⟩
  · simp [World.cell?, h5]
  · simp [World.cell?, h5]
  · simp [World.cell?, h5]
  · simp [World.cell?, h5]
  · simp [World.cell?, h5]

set_option maxRecDepth 100000 in
set_option maxHeartbeats 1000000 in
theorem decode_m (s : ByteArray) (w : World) (hSh : ShpAt w) (hs : s.size ≤ 9223372036854775806) :
    Calls Tryd.prog 19 #[.string s] w (DecS w (w.heap.size + 6) s) := by
  have HSh := hide hSh
  clear hSh
  go_enter Tryd.func19, Tryd.ntmps19
  go_wp2_with fail
  have hg1 : w.grownBy (w.alloc (.cells #[.slice none 0 0, .slice none 0 0, .int .i64 0, .int .i64 0, .int .i64 0] 51)) none := grown_alloc (grown_refl _ _)
  have hA1 := heap_alloc_new w (.cells #[.slice none 0 0, .slice none 0 0, .int .i64 0, .int .i64 0, .int .i64 0] 51)
  have hz1 : (w.alloc (.cells #[.slice none 0 0, .slice none 0 0, .int .i64 0, .int .i64 0, .int .i64 0] 51)).heap.size = w.heap.size + 1 := by simp
  generalize w.alloc (.cells #[.slice none 0 0, .slice none 0 0, .int .i64 0, .int .i64 0, .int .i64 0] 51) = w1 at hg1 hA1 hz1 ⊢
  have HRD := hide (read_m s w1 (ShpAt.pres HSh.out (pres_grown hg1)) hs)
  have HL : Hid (w1.heap.size + 5 = w.heap.size + 6) := by unfold Hid; omega
  rw [HL.out] at HRD
  have HG1 := hide hg1
  refine HRD.out.mono ?_
  rintro e w2 ⟨hg2, hr⟩
  have hA2 : w2.heap[w.heap.size]? = some (.cells #[.slice none 0 0, .slice none 0 0, .int .i64 0, .int .i64 0, .int .i64 0] 51 (0, 0)) := by
    rw [hg2.block _ (by omega) (by simp)]; exact hA1
  have HG2 := hide (grown_trans HG1.out hg2)
  clear hg1 hA1 hg2 hz1
  rcases hr with ⟨hr, rfl⟩ | ⟨a, tv, sv, hr, rfl, ht, ho⟩
  · have HR := hide hr
    have d0 : w2.cell? ⟨w.heap.size, 0, none⟩ = some (.slice none 0 0) := by simp [World.cell?, hA2]
    have z0 : w2.frozen? ⟨w.heap.size, 0, none⟩ = false := by simp [World.frozen?, hA2]
    have d1 : w2.cell? ⟨w.heap.size, 1, none⟩ = some (.slice none 0 0) := by simp [World.cell?, hA2]
    have z1 : w2.frozen? ⟨w.heap.size, 1, none⟩ = false := by simp [World.frozen?, hA2]
    have d2 : w2.cell? ⟨w.heap.size, 2, none⟩ = some (.int .i64 0) := by simp [World.cell?, hA2]
    have z2 : w2.frozen? ⟨w.heap.size, 2, none⟩ = false := by simp [World.frozen?, hA2]
    have d3 : w2.cell? ⟨w.heap.size, 3, none⟩ = some (.int .i64 0) := by simp [World.cell?, hA2]
    have z3 : w2.frozen? ⟨w.heap.size, 3, none⟩ = false := by simp [World.frozen?, hA2]
    have d4 : w2.cell? ⟨w.heap.size, 4, none⟩ = some (.int .i64 0) := by simp [World.cell?, hA2]
    have z4 : w2.frozen? ⟨w.heap.size, 4, none⟩ = false := by simp [World.frozen?, hA2]
    clear hr
    unfold artA
    simp only
    go_wp2_with fail
    have J := one_set w2 w.heap.size _ _ _ _ _ hA2 (.slice none 0 0) (.slice none 0 0) (.int .i64 0) (.int .i64 0) (.int .i64 0)
    clear d0 d1 d2 d3 d4 z0 z1 z2 z3 z4
    generalize (((((w2.setCell ⟨w.heap.size, 0, none⟩ (.slice none 0 0)).setCell ⟨w.heap.size, 1, none⟩ (.slice none 0 0)).setCell ⟨w.heap.size, 2, none⟩ (.int .i64 0)).setCell ⟨w.heap.size, 3, none⟩ (.int .i64 0)).setCell ⟨w.heap.size, 4, none⟩ (.int .i64 0)) = wz at J ⊢
    obtain ⟨e0, e1, e2, e3, e4, hz⟩ := J
    refine bodyPost_ret (v := .tuple #[.agg #[.slice none 0 0, .slice none 0 0, .int .i64 0, .int .i64 0, .int .i64 0], .int .i64 3]) ?_ rfl ?_
    · simp [results, Tryd.results19, go_sem, e0, e1, e2, e3, e4]
    · exact ⟨grown_rd HG2.out hz (Nat.le_refl _), Or.inl ⟨HR.out, rfl⟩⟩
  · have HR := hide hr
    obtain ⟨t1, t2, t3, rfl⟩ := owns_form ht.choose_spec.1
    obtain ⟨s1, s2, s3, rfl⟩ := owns_form ho
    obtain ⟨p, l, x1, x2, x3⟩ := a
    have HT := hide ht
    have HO := hide ho
    have d0 : w2.cell? ⟨w.heap.size, 0, none⟩ = some (.slice none 0 0) := by simp [World.cell?, hA2]
    have z0 : w2.frozen? ⟨w.heap.size, 0, none⟩ = false := by simp [World.frozen?, hA2]
    have d1 : w2.cell? ⟨w.heap.size, 1, none⟩ = some (.slice none 0 0) := by simp [World.cell?, hA2]
    have z1 : w2.frozen? ⟨w.heap.size, 1, none⟩ = false := by simp [World.frozen?, hA2]
    have d2 : w2.cell? ⟨w.heap.size, 2, none⟩ = some (.int .i64 0) := by simp [World.cell?, hA2]
    have z2 : w2.frozen? ⟨w.heap.size, 2, none⟩ = false := by simp [World.frozen?, hA2]
    have d3 : w2.cell? ⟨w.heap.size, 3, none⟩ = some (.int .i64 0) := by simp [World.cell?, hA2]
    have z3 : w2.frozen? ⟨w.heap.size, 3, none⟩ = false := by simp [World.frozen?, hA2]
    have d4 : w2.cell? ⟨w.heap.size, 4, none⟩ = some (.int .i64 0) := by simp [World.cell?, hA2]
    have z4 : w2.frozen? ⟨w.heap.size, 4, none⟩ = false := by simp [World.frozen?, hA2]
    clear hr ht ho
    unfold artA
    simp only at HT HO ⊢
    go_wp2_with fail
    have J := one_set w2 w.heap.size _ _ _ _ _ hA2 (.slice t1 t2 t3) (.slice s1 s2 s3) (.int .i64 x1) (.int .i64 x2) (.int .i64 x3)
    have HT5 := hide (thr_below (g := w.heap.size) (o := 4) (u := .int .i64 x3) (thr_below (g := w.heap.size) (o := 3) (u := .int .i64 x2) (thr_below (g := w.heap.size) (o := 2) (u := .int .i64 x1) (thr_below (g := w.heap.size) (o := 1) (u := .slice s1 s2 s3) (thr_below (g := w.heap.size) (o := 0) (u := .slice t1 t2 t3) HT.out (by omega)) (by omega)) (by omega)) (by omega)) (by omega))
    have HO5 := hide (owns_below (g := w.heap.size) (o := 4) (u := .int .i64 x3) (owns_below (g := w.heap.size) (o := 3) (u := .int .i64 x2) (owns_below (g := w.heap.size) (o := 2) (u := .int .i64 x1) (owns_below (g := w.heap.size) (o := 1) (u := .slice s1 s2 s3) (owns_below (g := w.heap.size) (o := 0) (u := .slice t1 t2 t3) HO.out (by omega)) (by omega)) (by omega)) (by omega)) (by omega))
    clear d0 d1 d2 d3 d4 z0 z1 z2 z3 z4
    generalize (((((w2.setCell ⟨w.heap.size, 0, none⟩ (.slice t1 t2 t3)).setCell ⟨w.heap.size, 1, none⟩ (.slice s1 s2 s3)).setCell ⟨w.heap.size, 2, none⟩ (.int .i64 x1)).setCell ⟨w.heap.size, 3, none⟩ (.int .i64 x2)).setCell ⟨w.heap.size, 4, none⟩ (.int .i64 x3)) = wz at J HT5 HO5 ⊢
    obtain ⟨e0, e1, e2, e3, e4, hz⟩ := J
    refine bodyPost_ret (v := .tuple #[.agg #[.slice t1 t2 t3, .slice s1 s2 s3, .int .i64 x1, .int .i64 x2, .int .i64 x3], .int .i64 0]) ?_ rfl ?_
    · simp [results, Tryd.results19, go_sem, e0, e1, e2, e3, e4]
    · exact ⟨grown_rd HG2.out hz (Nat.le_refl _), Or.inr ⟨_, _, _, HR.out, rfl, HT5.out, HO5.out⟩⟩

end Go.Proofs.YtklenjmfalljgaaDoor
