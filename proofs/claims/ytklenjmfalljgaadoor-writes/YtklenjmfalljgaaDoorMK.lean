/- The texts Wrt5 Wrt4 Wrt6 Wrt7 Wqd Hgz Hha Hgw Ctr Hhw Nil Arg. -/
import Derived.Test.YtklenjmfalljgaaDoorMJ
import Derived.Lib.SlBytesConst
import Derived.Test.YtklenjmfalljgaaDoorRows
import Derived.Deep.Slices
import Derived.Deep.DeepHandedRow
import Derived.Deep.DeepWitnessRowRef
import Derived.LaidMore
import Derived.Carry
import Derived.ProofKit
import Derived.OpenShut

/- The walk of the writer's check. -/
namespace Go.Proofs.YtklenjmfalljgaaDoor
open Go.RowKit
attribute [local go_sem] Go.World.cell?_alloc_some

set_option maxRecDepth 100000 in
set_option maxHeartbeats 2000000 in
theorem check_w (W : World) (b : Nat) (w : World) (bv : Value) (l : List Nat) (h : WrS W w b bv l) (hl : l.length ≤ 900000) (h256 : ∀ x ∈ l, x < 256) :
    Calls Tryd.prog 79 #[pt b] w (Wrote W w b bv (l ++ leB 4 (crcN l))) := by
  have HH := hide h
  have hpt : pt b = .pointer (some ⟨b, 0, none⟩) := rfl
  rw [hpt] at *
  have c0 := h.cell
  have cv := h.row.str
  have HCK := hide (checkOf_m (bs l) w (by rw [bs_size]; omega))
  rw [byt_bs h256] at HCK
  have hC := crcN_lt l h256
  generalize crcN l = C at *
  obtain ⟨x1, x3, rfl⟩ := h.row.form
  clear h h256 hpt
  go_enter Tryd.func79, Tryd.ntmps79
  go_wp2_with (go_at_call 113; refine HCK.out.mono ?_; rintro e w2 ⟨rfl, hl2⟩; have HS2 := hide (HH.out.grown (grown_of_like hl2)); have HT2 := hide ((WrT.refl w b (.slice x1 l.length x3)).grown (grown_of_like hl2)); clear hl2)
  clear c0 cv
  go_loopw [10] (fun i w' => ∃ (j : Nat) (bv' : Value), j ≤ 4 ∧ i = .int .i64 j ∧ Hid (WrS W w' b bv' (l ++ (leB 4 C).take j)) ∧ Hid (WrT w w' b (.slice x1 l.length x3) bv')) (fun i _ => 4 - (intOf i).toNat)
  case atStart => exact ⟨0, _, by omega, rfl, hide (by simpa using HS2.out), HT2⟩
  case round =>
    clear HH HS2 HT2 HCK
    obtain ⟨j, bv3, hj, rfl, HS, HT⟩ := hrel
    obtain ⟨w5, hw5'⟩ : ∃ w5, w5 = wr := ⟨_, rfl⟩
    rw [← hw5'] at HS HT ⊢
    clear hw5'
    have hcs : j = 0 ∨ j = 1 ∨ j = 2 ∨ j = 3 ∨ j = 4 := by omega
    rcases hcs with rfl | rfl | rfl | rfl | rfl
    · have HX : Hid ((leB 4 C).take 1 = (leB 4 C).take 0 ++ [C % 256]) := by unfold Hid; simp [leB, Nat.div_div_eq_div_mul]
      have qw : IntKind.i64.wrap 0 = 0 := by decide
      have qx : IntKind.u8.wrap ((C : Int)) = ((C % 256 : Nat) : Int) := by rw [IntKind.wrap_u8']; omega
      have hll : (l ++ (leB 4 C).take 0).length ≤ 1000000 := by simp; omega
      generalize C % 256 = y at *
      generalize hL : l ++ (leB 4 C).take 0 = L at *
      have HL := hide hL
      clear hL
      obtain ⟨y1, y3, rfl⟩ := HS.out.row.form
      have cq : w5.cell? ⟨b, 0, none⟩ = some (.slice y1 L.length y3) := HS.out.cell
      go_wp2_with fail
      refine wp_region_head (fun u => u.cell? ⟨b, 0, none⟩ = some (.slice y1 L.length y3)) 14 (by kernel_rfl) (by kernel_rfl) ?_ ?_
      · simp [go_sem, cq]
      intro hHeld
      refine wpHead_take (i := 0) (v := ?vv0_1) rfl (by kernel_rfl) (fun _ _ _ h => h) (Or.inl ⟨by rfl, ?hy0_1⟩) (by assumption) ?rest0_1
      case hy0_1 => (intro u hu; go_simp; try with_reducible rfl)
      simp only [Act.put, List.setIfInBounds_toArray]
      refine wpHead_take (i := 1) (v := ?vv1_2) rfl (by kernel_rfl) (fun _ _ _ h => h) (Or.inl ⟨by rfl, ?hy1_2⟩) (by assumption) ?rest1_2
      case hy1_2 => (intro u hu; go_simp; try with_reducible rfl)
      simp only [Act.put]
      refine wpHead_take (i := 2) (v := ?vv2_3) rfl (by kernel_rfl) (fun _ _ _ h => h) (Or.inl ⟨by rfl, ?hy2_3⟩) (by assumption) ?rest2_3
      case hy2_3 => (intro u hu; go_simp; try with_reducible rfl)
      simp only [Act.put]
      refine wpHead_take (i := 3) (v := ?vv3_4) rfl (by kernel_rfl) (fun _ _ _ h => h) (Or.inl ⟨by rfl, ?hy3_4⟩) (by assumption) ?rest3_4
      case hy3_4 => (intro u hu; go_simp; try with_reducible rfl)
      simp only [Act.put]
      refine wpHead_take (i := 4) (v := ?vv4_5) rfl (by kernel_rfl) (fun _ _ _ h => h) (Or.inl ⟨by rfl, ?hy4_5⟩) (by assumption) ?rest4_5
      case hy4_5 => (intro u hu; go_simp; try with_reducible rfl)
      simp only [Act.put]
      refine wpHead_take (i := 5) (v := ?vv5_6) rfl (by kernel_rfl) (fun _ _ _ h => h) (Or.inl ⟨by rfl, ?hy5_6⟩) (by assumption) ?rest5_6
      case hy5_6 => (intro u hu; go_simp; try with_reducible rfl)
      simp only [Act.put]
      refine wpHead_take (i := 6) (v := ?vv6_7) rfl (by kernel_rfl) (fun _ _ _ h => h) (Or.inl ⟨by rfl, ?hy6_7⟩) (by assumption) ?rest6_7
      case hy6_7 => (intro u hu; go_simp; try with_reducible rfl)
      simp only [Act.put]
      refine wpHead_take (i := 7) (v := ?vv7_8) rfl (by kernel_rfl) (fun _ _ _ h => h) (Or.inl ⟨by rfl, ?hy7_8⟩) (by assumption) ?rest7_8
      case hy7_8 => (intro u hu; go_simp; try with_reducible rfl)
      simp only [Act.put]
      refine wpHead_take (i := 8) (v := ?vv8_9) rfl (by kernel_rfl) (fun _ _ _ h => h) (Or.inl ⟨by rfl, ?hy8_9⟩) (by assumption) ?rest8_9
      case hy8_9 => (intro u hu; go_simp; try with_reducible rfl)
      simp only [Act.put]
      refine wpHead_take (i := 9) (v := ?vv9_10) rfl (by kernel_rfl) (fun _ _ _ h => h) (Or.inl ⟨by rfl, ?hy9_10⟩) (by assumption) ?rest9_10
      case hy9_10 => (intro u hu; go_simp; try with_reducible rfl)
      simp only [Act.put]
      have HSd : Hid (WrS W w5.drew b (.slice y1 L.length y3) L) := HS.out.grown (grown_drew (grown_refl _ _))
      have HTd : Hid (WrT w w5.drew b (.slice x1 l.length x3) (.slice y1 L.length y3)) := HT.out.grown (grown_drew (grown_refl _ _))
      have hWd : W.heap.size ≤ w5.heap.size := HS.out.base.size
      refine wpHead_alone (i := 10) rfl (by kernel_rfl) (by kernel_rfl) (by rfl) ?_
      intro K10 hK10
      have HK10 := hide hK10
      clear hK10
      go_simp
      refine HK10.out _ _ (pres_grown (grown_alloc (grown_refl _ _)) _ _ HSd.out.cell) ?_
      clear HK10
      try simp only [Act.put, List.setIfInBounds_toArray]
      refine wpHead_alone (i := 11) rfl (by kernel_rfl) (by kernel_rfl) (by rfl) ?_
      intro K11 hK11
      have HK11 := hide hK11
      clear hK11
      refine wp_append_m _ (.tmp 17) (.tmp 23) (by rfl) W.heap.size (.slice y1 L.length y3) L.length (u8s L) (by rfl) HSd.out.row.alloc w5.heap.size (.int .u8 (y : Int)) (by rfl) (heap_alloc_new w5.drew _) rfl (by omega) (by simp; omega) (w5.heap.size + 1) (by simp) ?_
      intro g6 cap6 w6 hown6 hgrow6 hat6 hlt6
      obtain ⟨p1, p2, p3, p4⟩ := HSd.out.push hown6 hgrow6 hat6
      have P1 : Hid (WrS W (w6.setCell ⟨b, 0, none⟩ (.slice (some ⟨g6, 0, none⟩) (L.length + 1) cap6)) b (.slice (some ⟨g6, 0, none⟩) (L.length + 1) cap6) (l ++ (leB 4 C).take 1)) := by
        unfold Hid
        rw [HX.out, ← List.append_assoc, HL.out]
        exact p1
      have P4 := hide (HTd.out.trans p4)
      clear p1 p4 hown6 hgrow6 hat6 hlt6
      refine HK11.out _ _ p2 ?_
      clear HK11
      try simp only [Act.put, List.setIfInBounds_toArray]
      refine wpHead_take (i := 12) (v := ?vv12_0b) rfl (by kernel_rfl) (fun _ _ _ h => h) (Or.inl ⟨by rfl, ?hy12_0b⟩) (by assumption) ?rest12_0b
      case hy12_0b => (intro u hu; go_simp; try with_reducible rfl)
      simp only [Act.put]
      refine wpHead_take (i := 13) (v := ?vv13_0b) rfl (by kernel_rfl) (fun _ _ _ h => h) (Or.inl ⟨by rfl, ?hy13_0b⟩) (by assumption) ?rest13_0b
      case hy13_0b => (intro u hu; go_simp; try with_reducible rfl)
      simp only [Act.put]
      refine wpHead_last rfl (by kernel_rfl) (by kernel_rfl) (by rfl) ?_
      go_simp
      go_wp2
      go_roundw
      case rel => exact ⟨1, _, by omega, by first | rfl | go_num, P1, P4⟩
      case measure => simp [intOf]
    · have HX : Hid ((leB 4 C).take 2 = (leB 4 C).take 1 ++ [C / 256 % 256]) := by unfold Hid; simp [leB, Nat.div_div_eq_div_mul]
      have qw : IntKind.i64.wrap 8 = 8 := by decide
      have qx : IntKind.u8.wrap ((C : Int) / 256) = ((C / 256 % 256 : Nat) : Int) := by rw [IntKind.wrap_u8']; omega
      have hll : (l ++ (leB 4 C).take 1).length ≤ 1000000 := by simp [leB_len]; omega
      generalize C / 256 % 256 = y at *
      generalize hL : l ++ (leB 4 C).take 1 = L at *
      have HL := hide hL
      clear hL
      obtain ⟨y1, y3, rfl⟩ := HS.out.row.form
      have cq : w5.cell? ⟨b, 0, none⟩ = some (.slice y1 L.length y3) := HS.out.cell
      go_wp2_with fail
      refine wp_region_head (fun u => u.cell? ⟨b, 0, none⟩ = some (.slice y1 L.length y3)) 14 (by kernel_rfl) (by kernel_rfl) ?_ ?_
      · simp [go_sem, cq]
      intro hHeld
      refine wpHead_take (i := 0) (v := ?vv0_11) rfl (by kernel_rfl) (fun _ _ _ h => h) (Or.inl ⟨by rfl, ?hy0_11⟩) (by assumption) ?rest0_11
      case hy0_11 => (intro u hu; go_simp; try with_reducible rfl)
      simp only [Act.put, List.setIfInBounds_toArray]
      refine wpHead_take (i := 1) (v := ?vv1_12) rfl (by kernel_rfl) (fun _ _ _ h => h) (Or.inl ⟨by rfl, ?hy1_12⟩) (by assumption) ?rest1_12
      case hy1_12 => (intro u hu; go_simp; try with_reducible rfl)
      simp only [Act.put]
      refine wpHead_take (i := 2) (v := ?vv2_13) rfl (by kernel_rfl) (fun _ _ _ h => h) (Or.inl ⟨by rfl, ?hy2_13⟩) (by assumption) ?rest2_13
      case hy2_13 => (intro u hu; go_simp; try with_reducible rfl)
      simp only [Act.put]
      refine wpHead_take (i := 3) (v := ?vv3_14) rfl (by kernel_rfl) (fun _ _ _ h => h) (Or.inl ⟨by rfl, ?hy3_14⟩) (by assumption) ?rest3_14
      case hy3_14 => (intro u hu; go_simp; try with_reducible rfl)
      simp only [Act.put]
      refine wpHead_take (i := 4) (v := ?vv4_15) rfl (by kernel_rfl) (fun _ _ _ h => h) (Or.inl ⟨by rfl, ?hy4_15⟩) (by assumption) ?rest4_15
      case hy4_15 => (intro u hu; go_simp; try with_reducible rfl)
      simp only [Act.put]
      refine wpHead_take (i := 5) (v := ?vv5_16) rfl (by kernel_rfl) (fun _ _ _ h => h) (Or.inl ⟨by rfl, ?hy5_16⟩) (by assumption) ?rest5_16
      case hy5_16 => (intro u hu; go_simp; try with_reducible rfl)
      simp only [Act.put]
      refine wpHead_take (i := 6) (v := ?vv6_17) rfl (by kernel_rfl) (fun _ _ _ h => h) (Or.inl ⟨by rfl, ?hy6_17⟩) (by assumption) ?rest6_17
      case hy6_17 => (intro u hu; go_simp; try with_reducible rfl)
      simp only [Act.put]
      refine wpHead_take (i := 7) (v := ?vv7_18) rfl (by kernel_rfl) (fun _ _ _ h => h) (Or.inl ⟨by rfl, ?hy7_18⟩) (by assumption) ?rest7_18
      case hy7_18 => (intro u hu; go_simp; try with_reducible rfl)
      simp only [Act.put]
      refine wpHead_take (i := 8) (v := ?vv8_19) rfl (by kernel_rfl) (fun _ _ _ h => h) (Or.inl ⟨by rfl, ?hy8_19⟩) (by assumption) ?rest8_19
      case hy8_19 => (intro u hu; go_simp; try with_reducible rfl)
      simp only [Act.put]
      refine wpHead_take (i := 9) (v := ?vv9_20) rfl (by kernel_rfl) (fun _ _ _ h => h) (Or.inl ⟨by rfl, ?hy9_20⟩) (by assumption) ?rest9_20
      case hy9_20 => (intro u hu; go_simp; try with_reducible rfl)
      simp only [Act.put]
      have HSd : Hid (WrS W w5.drew b (.slice y1 L.length y3) L) := HS.out.grown (grown_drew (grown_refl _ _))
      have HTd : Hid (WrT w w5.drew b (.slice x1 l.length x3) (.slice y1 L.length y3)) := HT.out.grown (grown_drew (grown_refl _ _))
      have hWd : W.heap.size ≤ w5.heap.size := HS.out.base.size
      refine wpHead_alone (i := 10) rfl (by kernel_rfl) (by kernel_rfl) (by rfl) ?_
      intro K10 hK10
      have HK10 := hide hK10
      clear hK10
      go_simp
      refine HK10.out _ _ (pres_grown (grown_alloc (grown_refl _ _)) _ _ HSd.out.cell) ?_
      clear HK10
      try simp only [Act.put, List.setIfInBounds_toArray]
      refine wpHead_alone (i := 11) rfl (by kernel_rfl) (by kernel_rfl) (by rfl) ?_
      intro K11 hK11
      have HK11 := hide hK11
      clear hK11
      refine wp_append_m _ (.tmp 17) (.tmp 23) (by rfl) W.heap.size (.slice y1 L.length y3) L.length (u8s L) (by rfl) HSd.out.row.alloc w5.heap.size (.int .u8 (y : Int)) (by rfl) (heap_alloc_new w5.drew _) rfl (by omega) (by simp; omega) (w5.heap.size + 1) (by simp) ?_
      intro g6 cap6 w6 hown6 hgrow6 hat6 hlt6
      obtain ⟨p1, p2, p3, p4⟩ := HSd.out.push hown6 hgrow6 hat6
      have P1 : Hid (WrS W (w6.setCell ⟨b, 0, none⟩ (.slice (some ⟨g6, 0, none⟩) (L.length + 1) cap6)) b (.slice (some ⟨g6, 0, none⟩) (L.length + 1) cap6) (l ++ (leB 4 C).take 2)) := by
        unfold Hid
        rw [HX.out, ← List.append_assoc, HL.out]
        exact p1
      have P4 := hide (HTd.out.trans p4)
      clear p1 p4 hown6 hgrow6 hat6 hlt6
      refine HK11.out _ _ p2 ?_
      clear HK11
      try simp only [Act.put, List.setIfInBounds_toArray]
      refine wpHead_take (i := 12) (v := ?vv12_1b) rfl (by kernel_rfl) (fun _ _ _ h => h) (Or.inl ⟨by rfl, ?hy12_1b⟩) (by assumption) ?rest12_1b
      case hy12_1b => (intro u hu; go_simp; try with_reducible rfl)
      simp only [Act.put]
      refine wpHead_take (i := 13) (v := ?vv13_1b) rfl (by kernel_rfl) (fun _ _ _ h => h) (Or.inl ⟨by rfl, ?hy13_1b⟩) (by assumption) ?rest13_1b
      case hy13_1b => (intro u hu; go_simp; try with_reducible rfl)
      simp only [Act.put]
      refine wpHead_last rfl (by kernel_rfl) (by kernel_rfl) (by rfl) ?_
      go_simp
      go_wp2
      go_roundw
      case rel => exact ⟨2, _, by omega, by first | rfl | go_num, P1, P4⟩
      case measure => simp [intOf]
    · have HX : Hid ((leB 4 C).take 3 = (leB 4 C).take 2 ++ [C / 65536 % 256]) := by unfold Hid; simp [leB, Nat.div_div_eq_div_mul]
      have qw : IntKind.i64.wrap 16 = 16 := by decide
      have qx : IntKind.u8.wrap ((C : Int) / 65536) = ((C / 65536 % 256 : Nat) : Int) := by rw [IntKind.wrap_u8']; omega
      have hll : (l ++ (leB 4 C).take 2).length ≤ 1000000 := by simp [leB_len]; omega
      generalize C / 65536 % 256 = y at *
      generalize hL : l ++ (leB 4 C).take 2 = L at *
      have HL := hide hL
      clear hL
      obtain ⟨y1, y3, rfl⟩ := HS.out.row.form
      have cq : w5.cell? ⟨b, 0, none⟩ = some (.slice y1 L.length y3) := HS.out.cell
      go_wp2_with fail
      refine wp_region_head (fun u => u.cell? ⟨b, 0, none⟩ = some (.slice y1 L.length y3)) 14 (by kernel_rfl) (by kernel_rfl) ?_ ?_
      · simp [go_sem, cq]
      intro hHeld
      refine wpHead_take (i := 0) (v := ?vv0_21) rfl (by kernel_rfl) (fun _ _ _ h => h) (Or.inl ⟨by rfl, ?hy0_21⟩) (by assumption) ?rest0_21
      case hy0_21 => (intro u hu; go_simp; try with_reducible rfl)
      simp only [Act.put, List.setIfInBounds_toArray]
      refine wpHead_take (i := 1) (v := ?vv1_22) rfl (by kernel_rfl) (fun _ _ _ h => h) (Or.inl ⟨by rfl, ?hy1_22⟩) (by assumption) ?rest1_22
      case hy1_22 => (intro u hu; go_simp; try with_reducible rfl)
      simp only [Act.put]
      refine wpHead_take (i := 2) (v := ?vv2_23) rfl (by kernel_rfl) (fun _ _ _ h => h) (Or.inl ⟨by rfl, ?hy2_23⟩) (by assumption) ?rest2_23
      case hy2_23 => (intro u hu; go_simp; try with_reducible rfl)
      simp only [Act.put]
      refine wpHead_take (i := 3) (v := ?vv3_24) rfl (by kernel_rfl) (fun _ _ _ h => h) (Or.inl ⟨by rfl, ?hy3_24⟩) (by assumption) ?rest3_24
      case hy3_24 => (intro u hu; go_simp; try with_reducible rfl)
      simp only [Act.put]
      refine wpHead_take (i := 4) (v := ?vv4_25) rfl (by kernel_rfl) (fun _ _ _ h => h) (Or.inl ⟨by rfl, ?hy4_25⟩) (by assumption) ?rest4_25
      case hy4_25 => (intro u hu; go_simp; try with_reducible rfl)
      simp only [Act.put]
      refine wpHead_take (i := 5) (v := ?vv5_26) rfl (by kernel_rfl) (fun _ _ _ h => h) (Or.inl ⟨by rfl, ?hy5_26⟩) (by assumption) ?rest5_26
      case hy5_26 => (intro u hu; go_simp; try with_reducible rfl)
      simp only [Act.put]
      refine wpHead_take (i := 6) (v := ?vv6_27) rfl (by kernel_rfl) (fun _ _ _ h => h) (Or.inl ⟨by rfl, ?hy6_27⟩) (by assumption) ?rest6_27
      case hy6_27 => (intro u hu; go_simp; try with_reducible rfl)
      simp only [Act.put]
      refine wpHead_take (i := 7) (v := ?vv7_28) rfl (by kernel_rfl) (fun _ _ _ h => h) (Or.inl ⟨by rfl, ?hy7_28⟩) (by assumption) ?rest7_28
      case hy7_28 => (intro u hu; go_simp; try with_reducible rfl)
      simp only [Act.put]
      refine wpHead_take (i := 8) (v := ?vv8_29) rfl (by kernel_rfl) (fun _ _ _ h => h) (Or.inl ⟨by rfl, ?hy8_29⟩) (by assumption) ?rest8_29
      case hy8_29 => (intro u hu; go_simp; try with_reducible rfl)
      simp only [Act.put]
      refine wpHead_take (i := 9) (v := ?vv9_30) rfl (by kernel_rfl) (fun _ _ _ h => h) (Or.inl ⟨by rfl, ?hy9_30⟩) (by assumption) ?rest9_30
      case hy9_30 => (intro u hu; go_simp; try with_reducible rfl)
      simp only [Act.put]
      have HSd : Hid (WrS W w5.drew b (.slice y1 L.length y3) L) := HS.out.grown (grown_drew (grown_refl _ _))
      have HTd : Hid (WrT w w5.drew b (.slice x1 l.length x3) (.slice y1 L.length y3)) := HT.out.grown (grown_drew (grown_refl _ _))
      have hWd : W.heap.size ≤ w5.heap.size := HS.out.base.size
      refine wpHead_alone (i := 10) rfl (by kernel_rfl) (by kernel_rfl) (by rfl) ?_
      intro K10 hK10
      have HK10 := hide hK10
      clear hK10
      go_simp
      refine HK10.out _ _ (pres_grown (grown_alloc (grown_refl _ _)) _ _ HSd.out.cell) ?_
      clear HK10
      try simp only [Act.put, List.setIfInBounds_toArray]
      refine wpHead_alone (i := 11) rfl (by kernel_rfl) (by kernel_rfl) (by rfl) ?_
      intro K11 hK11
      have HK11 := hide hK11
      clear hK11
      refine wp_append_m _ (.tmp 17) (.tmp 23) (by rfl) W.heap.size (.slice y1 L.length y3) L.length (u8s L) (by rfl) HSd.out.row.alloc w5.heap.size (.int .u8 (y : Int)) (by rfl) (heap_alloc_new w5.drew _) rfl (by omega) (by simp; omega) (w5.heap.size + 1) (by simp) ?_
      intro g6 cap6 w6 hown6 hgrow6 hat6 hlt6
      obtain ⟨p1, p2, p3, p4⟩ := HSd.out.push hown6 hgrow6 hat6
      have P1 : Hid (WrS W (w6.setCell ⟨b, 0, none⟩ (.slice (some ⟨g6, 0, none⟩) (L.length + 1) cap6)) b (.slice (some ⟨g6, 0, none⟩) (L.length + 1) cap6) (l ++ (leB 4 C).take 3)) := by
        unfold Hid
        rw [HX.out, ← List.append_assoc, HL.out]
        exact p1
      have P4 := hide (HTd.out.trans p4)
      clear p1 p4 hown6 hgrow6 hat6 hlt6
      refine HK11.out _ _ p2 ?_
      clear HK11
      try simp only [Act.put, List.setIfInBounds_toArray]
      refine wpHead_take (i := 12) (v := ?vv12_2b) rfl (by kernel_rfl) (fun _ _ _ h => h) (Or.inl ⟨by rfl, ?hy12_2b⟩) (by assumption) ?rest12_2b
      case hy12_2b => (intro u hu; go_simp; try with_reducible rfl)
      simp only [Act.put]
      refine wpHead_take (i := 13) (v := ?vv13_2b) rfl (by kernel_rfl) (fun _ _ _ h => h) (Or.inl ⟨by rfl, ?hy13_2b⟩) (by assumption) ?rest13_2b
      case hy13_2b => (intro u hu; go_simp; try with_reducible rfl)
      simp only [Act.put]
      refine wpHead_last rfl (by kernel_rfl) (by kernel_rfl) (by rfl) ?_
      go_simp
      go_wp2
      go_roundw
      case rel => exact ⟨3, _, by omega, by first | rfl | go_num, P1, P4⟩
      case measure => simp [intOf]
    · have HX : Hid ((leB 4 C).take 4 = (leB 4 C).take 3 ++ [C / 16777216 % 256]) := by unfold Hid; simp [leB, Nat.div_div_eq_div_mul]
      have qw : IntKind.i64.wrap 24 = 24 := by decide
      have qx : IntKind.u8.wrap ((C : Int) / 16777216) = ((C / 16777216 % 256 : Nat) : Int) := by rw [IntKind.wrap_u8']; omega
      have hll : (l ++ (leB 4 C).take 3).length ≤ 1000000 := by simp [leB_len]; omega
      generalize C / 16777216 % 256 = y at *
      generalize hL : l ++ (leB 4 C).take 3 = L at *
      have HL := hide hL
      clear hL
      obtain ⟨y1, y3, rfl⟩ := HS.out.row.form
      have cq : w5.cell? ⟨b, 0, none⟩ = some (.slice y1 L.length y3) := HS.out.cell
      go_wp2_with fail
      refine wp_region_head (fun u => u.cell? ⟨b, 0, none⟩ = some (.slice y1 L.length y3)) 14 (by kernel_rfl) (by kernel_rfl) ?_ ?_
      · simp [go_sem, cq]
      intro hHeld
      refine wpHead_take (i := 0) (v := ?vv0_31) rfl (by kernel_rfl) (fun _ _ _ h => h) (Or.inl ⟨by rfl, ?hy0_31⟩) (by assumption) ?rest0_31
      case hy0_31 => (intro u hu; go_simp; try with_reducible rfl)
      simp only [Act.put, List.setIfInBounds_toArray]
      refine wpHead_take (i := 1) (v := ?vv1_32) rfl (by kernel_rfl) (fun _ _ _ h => h) (Or.inl ⟨by rfl, ?hy1_32⟩) (by assumption) ?rest1_32
      case hy1_32 => (intro u hu; go_simp; try with_reducible rfl)
      simp only [Act.put]
      refine wpHead_take (i := 2) (v := ?vv2_33) rfl (by kernel_rfl) (fun _ _ _ h => h) (Or.inl ⟨by rfl, ?hy2_33⟩) (by assumption) ?rest2_33
      case hy2_33 => (intro u hu; go_simp; try with_reducible rfl)
      simp only [Act.put]
      refine wpHead_take (i := 3) (v := ?vv3_34) rfl (by kernel_rfl) (fun _ _ _ h => h) (Or.inl ⟨by rfl, ?hy3_34⟩) (by assumption) ?rest3_34
      case hy3_34 => (intro u hu; go_simp; try with_reducible rfl)
      simp only [Act.put]
      refine wpHead_take (i := 4) (v := ?vv4_35) rfl (by kernel_rfl) (fun _ _ _ h => h) (Or.inl ⟨by rfl, ?hy4_35⟩) (by assumption) ?rest4_35
      case hy4_35 => (intro u hu; go_simp; try with_reducible rfl)
      simp only [Act.put]
      refine wpHead_take (i := 5) (v := ?vv5_36) rfl (by kernel_rfl) (fun _ _ _ h => h) (Or.inl ⟨by rfl, ?hy5_36⟩) (by assumption) ?rest5_36
      case hy5_36 => (intro u hu; go_simp; try with_reducible rfl)
      simp only [Act.put]
      refine wpHead_take (i := 6) (v := ?vv6_37) rfl (by kernel_rfl) (fun _ _ _ h => h) (Or.inl ⟨by rfl, ?hy6_37⟩) (by assumption) ?rest6_37
      case hy6_37 => (intro u hu; go_simp; try with_reducible rfl)
      simp only [Act.put]
      refine wpHead_take (i := 7) (v := ?vv7_38) rfl (by kernel_rfl) (fun _ _ _ h => h) (Or.inl ⟨by rfl, ?hy7_38⟩) (by assumption) ?rest7_38
      case hy7_38 => (intro u hu; go_simp; try with_reducible rfl)
      simp only [Act.put]
      refine wpHead_take (i := 8) (v := ?vv8_39) rfl (by kernel_rfl) (fun _ _ _ h => h) (Or.inl ⟨by rfl, ?hy8_39⟩) (by assumption) ?rest8_39
      case hy8_39 => (intro u hu; go_simp; try with_reducible rfl)
      simp only [Act.put]
      refine wpHead_take (i := 9) (v := ?vv9_40) rfl (by kernel_rfl) (fun _ _ _ h => h) (Or.inl ⟨by rfl, ?hy9_40⟩) (by assumption) ?rest9_40
      case hy9_40 => (intro u hu; go_simp; try with_reducible rfl)
      simp only [Act.put]
      have HSd : Hid (WrS W w5.drew b (.slice y1 L.length y3) L) := HS.out.grown (grown_drew (grown_refl _ _))
      have HTd : Hid (WrT w w5.drew b (.slice x1 l.length x3) (.slice y1 L.length y3)) := HT.out.grown (grown_drew (grown_refl _ _))
      have hWd : W.heap.size ≤ w5.heap.size := HS.out.base.size
      refine wpHead_alone (i := 10) rfl (by kernel_rfl) (by kernel_rfl) (by rfl) ?_
      intro K10 hK10
      have HK10 := hide hK10
      clear hK10
      go_simp
      refine HK10.out _ _ (pres_grown (grown_alloc (grown_refl _ _)) _ _ HSd.out.cell) ?_
      clear HK10
      try simp only [Act.put, List.setIfInBounds_toArray]
      refine wpHead_alone (i := 11) rfl (by kernel_rfl) (by kernel_rfl) (by rfl) ?_
      intro K11 hK11
      have HK11 := hide hK11
      clear hK11
      refine wp_append_m _ (.tmp 17) (.tmp 23) (by rfl) W.heap.size (.slice y1 L.length y3) L.length (u8s L) (by rfl) HSd.out.row.alloc w5.heap.size (.int .u8 (y : Int)) (by rfl) (heap_alloc_new w5.drew _) rfl (by omega) (by simp; omega) (w5.heap.size + 1) (by simp) ?_
      intro g6 cap6 w6 hown6 hgrow6 hat6 hlt6
      obtain ⟨p1, p2, p3, p4⟩ := HSd.out.push hown6 hgrow6 hat6
      have P1 : Hid (WrS W (w6.setCell ⟨b, 0, none⟩ (.slice (some ⟨g6, 0, none⟩) (L.length + 1) cap6)) b (.slice (some ⟨g6, 0, none⟩) (L.length + 1) cap6) (l ++ (leB 4 C).take 4)) := by
        unfold Hid
        rw [HX.out, ← List.append_assoc, HL.out]
        exact p1
      have P4 := hide (HTd.out.trans p4)
      clear p1 p4 hown6 hgrow6 hat6 hlt6
      refine HK11.out _ _ p2 ?_
      clear HK11
      try simp only [Act.put, List.setIfInBounds_toArray]
      refine wpHead_take (i := 12) (v := ?vv12_3b) rfl (by kernel_rfl) (fun _ _ _ h => h) (Or.inl ⟨by rfl, ?hy12_3b⟩) (by assumption) ?rest12_3b
      case hy12_3b => (intro u hu; go_simp; try with_reducible rfl)
      simp only [Act.put]
      refine wpHead_take (i := 13) (v := ?vv13_3b) rfl (by kernel_rfl) (fun _ _ _ h => h) (Or.inl ⟨by rfl, ?hy13_3b⟩) (by assumption) ?rest13_3b
      case hy13_3b => (intro u hu; go_simp; try with_reducible rfl)
      simp only [Act.put]
      refine wpHead_last rfl (by kernel_rfl) (by kernel_rfl) (by rfl) ?_
      go_simp
      go_wp2
      go_roundw
      case rel => exact ⟨4, _, by omega, by first | rfl | go_num, P1, P4⟩
      case measure => simp [intOf]
    · go_wp2_with fail
      go_end0
      refine ⟨⟨_, rfl⟩, bv3, ?_, HT.out⟩
      have := HS.out
      rwa [List.take_of_length_le (by rw [leB_len]; exact Nat.le_refl _)] at this

end Go.Proofs.YtklenjmfalljgaaDoor

/- The walk of the writer's program. -/
namespace Go.Proofs.YtklenjmfalljgaaDoor
open Go.RowKit
attribute [local go_sem] Go.World.cell?_alloc_some

theorem vProg_len16 {p : List (List Ins)} (h : vProg p = true) : p.length ≤ 4 ∧ ∀ c ∈ p, c.length ≤ 16 := by
  simp only [vProg, Bool.and_eq_true, decide_eq_true_eq, List.all_eq_true] at h
  refine ⟨h.2.1, fun c hc => ?_⟩
  have := h.2.2 c hc
  simp only [vCode, Bool.and_eq_true, decide_eq_true_eq] at this
  exact this.1
theorem flat_len {α : Type} (f : α → List Nat) (B : Nat) (q : List α) (h : ∀ x ∈ q, (f x).length ≤ B) : (q.flatMap f).length ≤ B * q.length := by
  induction q with
  | nil => simp
  | cons x q ih =>
    have h1 := h x (by simp)
    have h2 := ih (fun y hy => h y (by simp [hy]))
    rw [List.flatMap_cons, List.length_append, List.length_cons, Nat.mul_succ]
    omega
theorem take_flat {α : Type} (f : α → List Nat) (q : List α) (k : Nat) (h : k < q.length) : (q.take (k + 1)).flatMap f = (q.take k).flatMap f ++ f q[k] := by
  rw [List.take_succ_eq_append_getElem h, List.flatMap_append]; simp
theorem wInt_len {n : Int} (h : n ≤ 9223372036854775807) : (wInt n).length ≤ 10 := numB_ten (by omega)
theorem insB_len {i : Ins} (h : insInt i) : (insB i).length ≤ 40 := by
  obtain ⟨⟨a1, a2⟩, ⟨b1, b2⟩, ⟨c1, c2⟩, ⟨d1, d2⟩⟩ := h
  unfold insB
  have h1 := wInt_len a2
  have h2 := wInt_len b2
  have h3 := wInt_len c2
  have h4 : (numB (zig i.n)).length ≤ 10 := numB_ten (by unfold zig; split <;> omega)
  simp only [List.length_append]
  omega
theorem codeB_len {c : List Ins} (h : c.length ≤ 16) (hi : ∀ i ∈ c, insInt i) : (codeB c).length ≤ 650 := by
  unfold codeB
  have h1 := wInt_len (n := c.length) (by omega)
  have h2 := flat_len insB 40 c (fun i h => insB_len (hi i h))
  simp only [List.length_append]
  omega
theorem progB_len {p : List (List Ins)} (hv : vProg p = true) (hi : ∀ c ∈ p, ∀ i ∈ c, insInt i) : (progB p).length ≤ 2610 := by
  obtain ⟨h4, h16⟩ := vProg_len16 hv
  unfold progB
  have h1 := wInt_len (n := p.length) (by omega)
  have h2 := flat_len codeB 650 p (fun c h => codeB_len (h16 c h) (hi c h))
  simp only [List.length_append]
  omega

set_option maxRecDepth 100000 in
set_option maxHeartbeats 1000000 in
theorem program_w (W : World) (b : Nat) (p : List (List Ins)) (pv : Value) (w : World) (bv : Value) (l : List Nat) (h : WrS W w b bv l) (hl : l.length ≤ 900) (hP : ProgAt W pv p) (hv : vProg p = true) (hi : ∀ c ∈ p, ∀ i ∈ c, insInt i) :
    Calls Tryd.prog 76 #[pt b, pv] w (Wrote W w b bv (l ++ progB p)) := by
  obtain ⟨ao, cap, rfl, hPc⟩ := hP
  have HH := hide h
  have HP := hide hPc
  have hpt : pt b = .pointer (some ⟨b, 0, none⟩) := rfl
  rw [hpt] at *
  clear h hPc
  go_enter Tryd.func76, Tryd.ntmps76
  go_wp2_with fail
  have L0 := WrL.start HH.out 25 #[.slice ao p.length cap]
  have T0 : WrT w (w.alloc (.cells #[.slice ao p.length cap] 25)) b bv bv := (WrT.refl _ _ _).grown (grown_alloc (grown_refl _ _))
  generalize w.alloc (.cells #[.slice ao p.length cap] 25) = w1 at L0 T0 ⊢
  have hp4 : p.length ≤ 4 := (vProg_len16 hv).1
  refine (whole_w W b p.length (by omega) (by omega) w1 bv l L0.wr (by omega)).mono ?_
  rintro e w2 ⟨⟨v2, rfl⟩, bv2, hs2, ht2⟩
  have L2 := L0.call hs2 ht2
  have T2 := T0.trans ht2
  have c2 : w2.cell? ⟨w.heap.size, 0, none⟩ = some (.slice ao p.length cap) := by simpa using L2.cell 0
  have HL := hide L2.wr
  have HT := hide T2
  have HV := hide (vProg_len16 hv).2
  have HI := hide hi
  clear L2 T2 L0 T0 hs2 ht2 hv hi
  go_wp2_with fail
  clear c2
  go_loopw [16] (fun i w' => ∃ (t : Nat) (bv' : Value), t ≤ p.length ∧ i = .int .i64 t ∧ Hid (WrS W w' b bv' (l ++ wInt p.length ++ (p.take t).flatMap codeB)) ∧ Hid (WrT w w' b bv bv')) (fun i _ => p.length - (intOf i).toNat)
  case atStart => exact ⟨0, bv2, Nat.zero_le _, rfl, hide (by simpa using HL.out), HT⟩
  case round =>
    clear HL HT
    obtain ⟨t, bv3, ht, rfl, HW, HT3⟩ := hrel
    obtain ⟨w5, hw5⟩ : ∃ w5, w5 = wr := ⟨_, rfl⟩
    rw [← hw5] at HW HT3 ⊢
    clear hw5
    by_cases hlt : t < p.length
    · obtain ⟨g, o, rfl, rv, c0, hcode⟩ := HP.out t hlt
      obtain ⟨ca, cc, rfl, hC⟩ := hcode
      have d0 := pres_grown HW.out.base _ _ c0
      have HC := hide hC
      have q0 : (0 : Int) ≤ (t : Int) := by omega
      have q1 : (t : Int) < p.length := by omega
      have hc16 : p[t].length ≤ 16 := HV.out _ (List.getElem_mem hlt)
      have HIc := hide (HI.out p[t] (List.getElem_mem hlt))
      have HTk := hide (take_flat codeB p t hlt)
      have HLen : Hid ((l ++ wInt p.length ++ (p.take t).flatMap codeB).length ≤ 4000) := by
        unfold Hid
        have h1 := wInt_len (n := p.length) (by omega)
        have h2 := flat_len codeB 650 (p.take t) (fun c h => codeB_len (HV.out c (List.mem_of_mem_take h)) (HI.out c (List.mem_of_mem_take h)))
        simp only [List.length_append, List.length_take] at h2 ⊢
        have h3 : 650 * min t p.length ≤ 650 * 4 := Nat.mul_le_mul_left _ (by omega)
        omega
      generalize hl1 : l ++ wInt p.length ++ (p.take t).flatMap codeB = l1 at HW HLen ⊢
      have HL1 := hide hl1
      clear hl1
      generalize p[t] = c at *
      clear c0 hC
      go_wp2_with fail
      refine (whole_w W b c.length (by omega) (by omega) w5 bv3 l1 HW.out (by have := HLen.out; omega)).mono ?_
      rintro e w6 ⟨⟨v6, rfl⟩, bv6, hs6, ht6⟩
      have H6 := hide hs6
      have T6 := hide (HT3.out.trans ht6)
      clear hs6 ht6 HW HT3 d0
      go_wp2_with fail
      go_loopw [26] (fun i w' => ∃ (k : Nat) (bv' : Value), k ≤ c.length ∧ i = .int .i64 k ∧ Hid (WrS W w' b bv' (l1 ++ wInt c.length ++ (c.take k).flatMap insB)) ∧ Hid (WrT w w' b bv bv')) (fun i _ => c.length - (intOf i).toNat)
      case atStart => exact ⟨0, bv6, Nat.zero_le _, rfl, hide (by simpa using H6.out), T6⟩
      case round =>
        clear H6 T6
        obtain ⟨k, bv7, hk, rfl, HW, HT3⟩ := hrel
        obtain ⟨w7, hw7⟩ : ∃ w7, w7 = wr := ⟨_, rfl⟩
        rw [← hw7] at HW HT3 ⊢
        clear hw7
        by_cases hkl : k < c.length
        · obtain ⟨g', o', rfl, c0, c1, c2, c3⟩ := HC.out k hkl
          have hpr := pres_grown HW.out.base
          have d0 := hpr _ _ c0
          have d1 := hpr _ _ c1
          have d2 := hpr _ _ c2
          have d3 := hpr _ _ c3
          have k0 : (0 : Int) ≤ (k : Int) := by omega
          have k1 : (k : Int) < c.length := by omega
          obtain ⟨⟨a1, a2⟩, ⟨b1, b2⟩, ⟨e1, e2⟩, ⟨n1, n2⟩⟩ := HIc.out c[k] (List.getElem_mem hkl)
          have HTi := hide (take_flat insB c k hkl)
          have HLi : Hid ((l1 ++ wInt c.length ++ (c.take k).flatMap insB).length ≤ 5000) := by
            unfold Hid
            have h1 := wInt_len (n := c.length) (by omega)
            have h2 := flat_len insB 40 (c.take k) (fun i h => insB_len (HIc.out i (List.mem_of_mem_take h)))
            simp only [List.length_append, List.length_take] at h2 ⊢
            have h3 : 40 * min k c.length ≤ 40 * 16 := Nat.mul_le_mul_left _ (by omega)
            have := HLen.out
            omega
          generalize hl2 : l1 ++ wInt c.length ++ (c.take k).flatMap insB = l2 at HW HLi ⊢
          have HL2 := hide hl2
          clear hl2
          clear c0 c1 c2 c3 hpr
          have hz : (c[k] : Ins) = ⟨c[k].op, c[k].a, c[k].b, c[k].n⟩ := rfl
          have HZ : Hid (insB c[k] = wInt c[k].op ++ (wInt c[k].a ++ (wInt c[k].b ++ numB (zig c[k].n)))) := rfl
          clear hz
          generalize c[k].op = x0 at *
          generalize c[k].a = x1 at *
          generalize c[k].b = x2 at *
          generalize c[k].n = x3 at *
          have y0 := wInt_len a2
          have y1 := wInt_len b2
          have y2 := wInt_len e2
          go_wp2_with fail
          have L0 := WrL.start HW.out 28 #[.int .i64 x0, .int .i64 x1, .int .i64 x2, .int .i64 x3]
          have T0 : WrT w (w7.alloc (.cells #[.int .i64 x0, .int .i64 x1, .int .i64 x2, .int .i64 x3] 28)) b bv bv7 := HT3.out.grown (grown_alloc (grown_refl _ _))
          clear d0 d1 d2 d3
          generalize w7.alloc (.cells #[.int .i64 x0, .int .i64 x1, .int .i64 x2, .int .i64 x3] 28) = u0 at L0 T0 ⊢
          refine (whole_w W b x0 a1 a2 u0 bv7 l2 L0.wr (by have := HLi.out; omega)).mono ?_
          rintro e u1 ⟨⟨v1, rfl⟩, bw1, hs1, ht1⟩
          have L1 := L0.call hs1 ht1
          have T1 := T0.trans ht1
          have m1 : u1.cell? ⟨w7.heap.size, 1, none⟩ = some (.int .i64 x1) := by simpa using L1.cell 1
          have HL := hide L1
          have HT := hide T1
          clear L1 T1 L0 T0 hs1 ht1 HW HT3
          go_wp2_with fail
          have L1 := HL.out
          have T1 := HT.out
          clear HL HT m1
          refine (whole_w W b x1 b1 b2 u1 bw1 (l2 ++ wInt x0) L1.wr (by have := HLi.out; simp only [List.length_append]; omega)).mono ?_
          rintro e u2 ⟨⟨v2, rfl⟩, bw2, hs2, ht2⟩
          have L2 := L1.call hs2 ht2
          have T2 := T1.trans ht2
          have m2 : u2.cell? ⟨w7.heap.size, 2, none⟩ = some (.int .i64 x2) := by simpa using L2.cell 2
          have HL := hide L2
          have HT := hide T2
          clear L2 T2 L1 T1 hs2 ht2
          go_wp2_with fail
          have L2 := HL.out
          have T2 := HT.out
          clear HL HT m2
          refine (whole_w W b x2 e1 e2 u2 bw2 (l2 ++ wInt x0 ++ wInt x1) L2.wr (by have := HLi.out; simp only [List.length_append]; omega)).mono ?_
          rintro e u3 ⟨⟨v3, rfl⟩, bw3, hs3, ht3⟩
          have L3 := L2.call hs3 ht3
          have T3 := T2.trans ht3
          have m3 : u3.cell? ⟨w7.heap.size, 3, none⟩ = some (.int .i64 x3) := by simpa using L3.cell 3
          have HL := hide L3
          have HT := hide T3
          clear L3 T3 L2 T2 hs3 ht3
          go_wp2_with fail
          have L3 := HL.out
          have T3 := HT.out
          clear HL HT m3
          refine (signed_w W b x3 n1 n2 u3 bw3 (l2 ++ wInt x0 ++ wInt x1 ++ wInt x2) L3.wr (by have := HLi.out; simp only [List.length_append]; omega)).mono ?_
          rintro e u4 ⟨⟨v4, rfl⟩, bw4, hs4, ht4⟩
          have T4 := hide (T3.trans ht4)
          have S4 : Hid (WrS W u4 b bw4 (l1 ++ wInt c.length ++ (c.take (k + 1)).flatMap insB)) := by
            unfold Hid
            rw [HTi.out, HZ.out, ← List.append_assoc (l1 ++ wInt c.length), HL2.out]
            simpa [List.append_assoc] using hs4
          clear L3 T3 hs4 ht4
          go_wp2_with fail
          go_roundw
          case rel => exact ⟨k + 1, bw4, by omega, by first | rfl | go_num, S4, T4⟩
          case measure => simp [intOf]; omega
        · have k1 : ¬ (k : Int) < c.length := by omega
          have hkc : k = c.length := by omega
          have S5 : Hid (WrS W w7 b bv7 (l ++ wInt p.length ++ (p.take (t + 1)).flatMap codeB)) := by
            unfold Hid
            rw [HTk.out, ← List.append_assoc (l ++ wInt p.length), HL1.out]
            have := HW.out
            rw [hkc, List.take_length] at this
            simpa [codeB, List.append_assoc] using this
          clear hkc
          go_wp2_with fail
          go_roundw
          case rel => exact ⟨t + 1, bv7, by omega, by first | rfl | go_num, S5, HT3⟩
          case measure => simp [intOf]; omega
    · have q1 : ¬ (t : Int) < p.length := by omega
      have htp : t = p.length := by omega
      have S5 : Hid (WrS W w5 b bv3 (l ++ progB p)) := by
        unfold Hid progB
        have := HW.out
        rw [htp, List.take_length] at this
        simpa [List.append_assoc] using this
      clear htp
      go_wp2_with fail
      go_end0
      exact ⟨⟨_, rfl⟩, bv3, S5.out, HT3.out⟩

end Go.Proofs.YtklenjmfalljgaaDoor

/- The walk of the writer's schedule. -/
namespace Go.Proofs.YtklenjmfalljgaaDoor
open Go.RowKit
attribute [local go_sem] Go.World.cell?_alloc_some

theorem runB_len {x : Int × Int} (h : 0 ≤ x.1 ∧ x.1 ≤ 63 ∧ 1 ≤ x.2 ∧ x.2 ≤ 500) : (runB x).length ≤ 20 := by
  unfold runB
  have h1 := wInt_len (n := x.1) (by omega)
  have h2 := wInt_len (n := x.2) (by omega)
  simp only [List.length_append]
  omega
theorem valid_500 {s : List Int} (h : validS s = true) : s.length ≤ 500 := by
  simp only [validS, Bool.and_eq_true, decide_eq_true_eq] at h
  exact h.1
theorem schB_len {s : List Int} (h : validS s = true) : (schB s).length ≤ 10010 := by
  unfold schB
  have h0 := valid_500 h
  have h3 := grp_len s
  have h1 := wInt_len (n := (grp s).length) (by omega)
  have h2 := flat_len runB 20 (grp s) (fun x hx => runB_len (grp_valid h x hx))
  have h4 : 20 * (grp s).length ≤ 20 * 500 := Nat.mul_le_mul_left _ (by omega)
  simp only [List.length_append]
  omega

set_option maxRecDepth 100000 in
set_option maxHeartbeats 2000000 in
theorem schedule_w (W : World) (b : Nat) (s : List Int) (sv : Value) (w : World) (bv : Value) (l : List Nat) (h : WrS W w b bv l) (hl : l.length ≤ 5000) (hI : IntsAt W.heap.size W sv s) (hv : validS s = true) :
    Calls Tryd.prog 77 #[pt b, sv] w (Wrote W w b bv (l ++ schB s)) := by
  have HH := hide h
  have HOF := hide (of_m s sv w ((hI.pres (pres_grown h.base)).mono h.base.size) (valid_500 hv))
  have HV := hide (grp_valid hv)
  have hq5 : (grp s).length ≤ 500 := by have := grp_len s; have := valid_500 hv; omega
  obtain ⟨sa, sc, rfl⟩ := hI.form
  have hpt : pt b = .pointer (some ⟨b, 0, none⟩) := rfl
  rw [hpt] at *
  unfold schB
  generalize grp s = q at *
  clear h hI hv hpt
  go_enter Tryd.func77, Tryd.ntmps77
  go_wp2_with fail
  refine HOF.out.mono ?_
  rintro e w1 ⟨r1, r2, r3, rfl, ho, hg⟩
  have hr2 := owns_lenq ho
  subst hr2
  have HO := hide ho
  have HS1 := hide (HH.out.grown hg)
  have HT1 := hide ((WrT.refl w b bv).grown hg)
  have HZ : Hid (w.heap.size ≤ w1.heap.size) := hg.size
  have HFR : Hid (∀ k, r1 = some k → k.block ≠ b ∧ bv.ownBlock ≠ some k.block) := by
    intro k hk
    have h1 := owns_block ho k.block (by rw [hk]; rfl)
    have h2 := HH.out.lt
    refine ⟨by omega, fun e => ?_⟩
    have := HH.out.row.lt _ e
    omega
  clear ho hg HOF
  go_wp2_with fail
  refine (whole_w W b q.length (by omega) (by omega) w1 bv l HS1.out (by omega)).mono ?_
  rintro e w2 ⟨⟨v2, rfl⟩, bv2, hs2, ht2⟩
  have HS2 := hide hs2
  have HT2 := hide ht2
  clear hs2 ht2
  go_wp2_with fail
  go_loopw [15] (fun i w' => ∃ (k : Nat) (bv' : Value), k ≤ q.length ∧ i = .int .i64 k ∧ Hid (WrS W w' b bv' (l ++ wInt q.length ++ (q.take k).flatMap runB)) ∧ Hid (WrT w1 w' b bv bv')) (fun i _ => q.length - (intOf i).toNat)
  case atStart => exact ⟨0, bv2, Nat.zero_le _, rfl, hide (by simpa using HS2.out), HT2⟩
  case round =>
    clear HS2 HT2
    obtain ⟨k, bv7, hk, rfl, HW, HT3⟩ := hrel
    obtain ⟨w7, hw7⟩ : ∃ w7, w7 = wr := ⟨_, rfl⟩
    rw [← hw7] at HW HT3 ⊢
    clear hw7
    by_cases hkl : k < q.length
    · obtain ⟨g, cap, he, hgb, hgl⟩ := HO.out.form (by omega)
      simp only [Value.slice.injEq, true_and] at he
      obtain ⟨rfl, rfl⟩ := he
      obtain ⟨f0, f1⟩ := flat_at q k hkl
      have hfr := HFR.out ⟨g, 0, none⟩ rfl
      have hbl : w7.heap[g]? = w1.heap[g]? := HT3.out.keep g hgl hfr.1 hfr.2
      have hlen2 := flatS_len q
      have d0 : w7.cell? ⟨g, k * 2, none⟩ = some (.int .i64 q[k].1) := by
        rw [World.cell?_of_block (w := w1) hbl, HO.out.cellAt _ (by omega)]; exact f0
      have d1 : w7.cell? ⟨g, k * 2 + 1, none⟩ = some (.int .i64 q[k].2) := by
        rw [World.cell?_of_block (w := w1) hbl, HO.out.cellAt _ (by omega)]; exact f1
      have k0 : (0 : Int) ≤ (k : Int) := by omega
      have k1 : (k : Int) < q.length := by omega
      obtain ⟨a1, a2, b1, b2⟩ := HV.out q[k] (List.getElem_mem hkl)
      have HTi := hide (take_flat runB q k hkl)
      have HLi : Hid ((l ++ wInt q.length ++ (q.take k).flatMap runB).length ≤ 20000) := by
        unfold Hid
        have h1 := wInt_len (n := q.length) (by omega)
        have h2 := flat_len runB 20 (q.take k) (fun i h => runB_len (HV.out i (List.mem_of_mem_take h)))
        simp only [List.length_append, List.length_take] at h2 ⊢
        have h3 : 20 * min k q.length ≤ 20 * 500 := Nat.mul_le_mul_left _ (by omega)
        omega
      generalize hl2 : l ++ wInt q.length ++ (q.take k).flatMap runB = l2 at HW HLi ⊢
      have HL2 := hide hl2
      have HZ2 : Hid (runB q[k] = wInt q[k].1 ++ wInt q[k].2) := rfl
      clear hl2 f0 f1 hfr hbl hlen2
      generalize q[k].1 = x0 at *
      generalize q[k].2 = x1 at *
      have y0 := wInt_len (n := x0) (by omega)
      go_wp2_with fail
      have L0 := WrL.start HW.out 161 #[.int .i64 x0, .int .i64 x1]
      have T0 : WrT w1 (w7.alloc (.cells #[.int .i64 x0, .int .i64 x1] 161)) b bv bv7 := HT3.out.grown (grown_alloc (grown_refl _ _))
      clear d0 d1
      generalize w7.alloc (.cells #[.int .i64 x0, .int .i64 x1] 161) = u0 at L0 T0 ⊢
      refine (whole_w W b x0 a1 (by omega) u0 bv7 l2 L0.wr (by have := HLi.out; omega)).mono ?_
      rintro e u1 ⟨⟨v1, rfl⟩, bw1, hs1, ht1⟩
      have L1 := L0.call hs1 ht1
      have T1 := T0.trans ht1
      have m1 : u1.cell? ⟨w7.heap.size, 1, none⟩ = some (.int .i64 x1) := by simpa using L1.cell 1
      have HL := hide L1
      have HT := hide T1
      clear L1 T1 L0 T0 hs1 ht1 HW HT3
      go_wp2_with fail
      have L1 := HL.out
      have T1 := HT.out
      clear HL HT m1
      refine (whole_w W b x1 (by omega) (by omega) u1 bw1 (l2 ++ wInt x0) L1.wr (by have := HLi.out; simp only [List.length_append]; omega)).mono ?_
      rintro e u2 ⟨⟨v2, rfl⟩, bw2, hs2, ht2⟩
      have T4 := hide (T1.trans ht2)
      have S4 : Hid (WrS W u2 b bw2 (l ++ wInt q.length ++ (q.take (k + 1)).flatMap runB)) := by
        unfold Hid
        rw [HTi.out, HZ2.out, ← List.append_assoc (l ++ wInt q.length), HL2.out]
        simpa [List.append_assoc] using hs2
      clear L1 T1 hs2 ht2
      go_wp2_with fail
      go_roundw
      case rel => exact ⟨k + 1, bw2, by omega, by first | rfl | go_num, S4, T4⟩
      case measure => simp [intOf]; omega
    · have k1 : ¬ (k : Int) < q.length := by omega
      have hkc : k = q.length := by omega
      have S5 : Hid (WrS W w7 b bv7 (l ++ (wInt q.length ++ q.flatMap runB))) := by
        unfold Hid
        have := HW.out
        rw [hkc, List.take_length] at this
        simpa [List.append_assoc] using this
      clear hkc
      go_wp2_with fail
      go_end0
      exact ⟨⟨_, rfl⟩, bv7, S5.out, HT1.out.trans HT3.out⟩

end Go.Proofs.YtklenjmfalljgaaDoor

/- The walks of Write and Encode. -/
namespace Go.Proofs.YtklenjmfalljgaaDoor
open Go.RowKit
attribute [local go_sem] Go.World.cell?_alloc_some

theorem wInt_256 (n : Int) : ∀ x ∈ wInt n, x < 256 := numB_lt _
theorem flat_256 {α : Type} (f : α → List Nat) (q : List α) (h : ∀ y ∈ q, ∀ x ∈ f y, x < 256) : ∀ x ∈ q.flatMap f, x < 256 := by
  intro x hx
  obtain ⟨y, hy, hx⟩ := List.mem_flatMap.1 hx
  exact h y hy x hx
theorem app_256 {a b : List Nat} (ha : ∀ x ∈ a, x < 256) (hb : ∀ x ∈ b, x < 256) : ∀ x ∈ a ++ b, x < 256 := by
  intro x hx
  rcases List.mem_append.1 hx with h | h
  · exact ha x h
  · exact hb x h
theorem bodyB_256 (a : Art) : ∀ x ∈ bodyB a, x < 256 := by
  unfold bodyB progB schB verB
  refine app_256 (by decide) (app_256 (app_256 (wInt_256 _) (flat_256 _ _ fun c _ => ?_)) (app_256 (app_256 (wInt_256 _) (flat_256 _ _ fun r _ => ?_)) (app_256 (wInt_256 _) (app_256 (wInt_256 _) (wInt_256 _)))))
  · unfold codeB
    refine app_256 (wInt_256 _) (flat_256 _ _ fun i _ => ?_)
    unfold insB
    exact app_256 (wInt_256 _) (app_256 (wInt_256 _) (app_256 (wInt_256 _) (numB_lt _)))
  · unfold runB
    exact app_256 (wInt_256 _) (wInt_256 _)
theorem encB_len (a : Art) (h : artE a = 0) (hi : ∀ c ∈ a.prog, ∀ i ∈ c, insInt i) : 10 ≤ (encB a).length ∧ (encB a).length ≤ 20000 := by
  have hp : vProg a.prog = true := by
    unfold artE at h; split at h <;> simp_all
  rw [artE, if_pos hp] at h
  have hs : validS a.sch = true ∧ verOk a.ver = true := by
    split at h <;> simp_all
  have h1 := progB_len hp hi
  have h2 := schB_len hs.1
  have hv := hs.2
  simp only [verOk, Bool.and_eq_true, decide_eq_true_eq] at hv
  have h3 := wInt_len (n := a.ver.1) (by omega)
  have h4 := wInt_len (n := a.ver.2.1) (by omega)
  have h5 := wInt_len (n := a.ver.2.2) (by omega)
  have pos : ∀ n : Int, 1 ≤ (wInt n).length := fun n => by unfold wInt; by_cases hn : n.toNat < 128; rw [numB_small hn]; simp; rw [numB_big hn]; simp
  have p1 := pos a.ver.1
  have p2 := pos a.ver.2.1
  have p3 := pos a.ver.2.2
  unfold encB bodyB verB
  simp only [List.length_append, leB_len, List.length_cons, List.length_nil]
  omega

set_option maxRecDepth 100000 in
set_option maxHeartbeats 2000000 in
theorem write_m (a : Art) (tv sv : Value) (w : World) (hP : ProgAt w (.agg #[tv]) a.prog) (hS : IntsAt w.heap.size w sv a.sch) (hE : artE a = 0) (hi : ∀ c ∈ a.prog, ∀ i ∈ c, insInt i) :
    Calls Tryd.prog 42 #[artA tv sv a.ver] w fun e w' => e = .returned (.string (bs (encB a))) ∧ w.grownBy w' none := by
  have hp : vProg a.prog = true := by
    unfold artE at hE; split at hE <;> simp_all
  have hs : validS a.sch = true ∧ verOk a.ver = true := by
    rw [artE, if_pos hp] at hE
    split at hE <;> simp_all
  have HENC : Hid (encB a = [82, 82, 1] ++ progB a.prog ++ schB a.sch ++ verB a.ver ++ leB 4 (crcN ([82, 82, 1] ++ progB a.prog ++ schB a.sch ++ verB a.ver))) := by
    unfold Hid encB bodyB; simp [List.append_assoc]
  have H256 : Hid (∀ x ∈ [82, 82, 1] ++ progB a.prog ++ schB a.sch ++ verB a.ver, x < 256) := by
    have := bodyB_256 a
    unfold Hid
    unfold bodyB at this
    simpa [List.append_assoc] using this
  generalize encB a = E at *
  obtain ⟨p, l, v1, v2, v3⟩ := a
  simp only at hP hS hi hp hs HENC H256 ⊢
  have hv := hs.2
  simp only [verOk, Bool.and_eq_true, decide_eq_true_eq] at hv
  have HPl := hide (progB_len hp hi)
  have HSl := hide (schB_len hs.1)
  have HP := hide hP
  have HS := hide hS
  have HVP := hide hp
  have HVS := hide hs.1
  have HI := hide hi
  obtain ⟨ta, tc, e1⟩ := hP.form
  simp only [Value.agg.injEq, Array.mk.injEq, List.cons.injEq, and_true] at e1
  subst e1
  obtain ⟨sa, sc, rfl⟩ := hS.form
  clear hP hS hE hi hp hs
  unfold artA
  simp only
  have kc := Lib.run_convert_bytes_const (P := Tryd.prog) (w.alloc (.cells #[.slice ta p.length tc, .slice sa l.length sc, .int .i64 v1, .int .i64 v2, .int .i64 v3] 51)) 105 5 #[.int .u8 82, .int .u8 82, .int .u8 1] 3 3 Tryd.underlying105 Tryd.underlying5
  have ez : (w.alloc (.cells #[.slice ta p.length tc, .slice sa l.length sc, .int .i64 v1, .int .i64 v2, .int .i64 v3] 51)).heap.size = w.heap.size + 1 := by simp
  rw [ez] at kc
  go_enter Tryd.func42, Tryd.ntmps42
  go_wp2_with fail
  clear kc ez
  have hgA : w.grownBy (w.alloc (.cells #[.slice ta p.length tc, .slice sa l.length sc, .int .i64 v1, .int .i64 v2, .int .i64 v3] 51)) none := grown_alloc (grown_refl _ _)
  have hbA := heap_alloc_new w (.cells #[.slice ta p.length tc, .slice sa l.length sc, .int .i64 v1, .int .i64 v2, .int .i64 v3] 51)
  have hzA : (w.alloc (.cells #[.slice ta p.length tc, .slice sa l.length sc, .int .i64 v1, .int .i64 v2, .int .i64 v3] 51)).heap.size = w.heap.size + 1 := by simp
  generalize w.alloc (.cells #[.slice ta p.length tc, .slice sa l.length sc, .int .i64 v1, .int .i64 v2, .int .i64 v3] 51) = W at hgA hbA hzA ⊢
  have HPW := hide (HP.out.pres (pres_grown hgA))
  have HSW : Hid (IntsAt W.heap.size W (.slice sa l.length sc) l) := (HS.out.pres (pres_grown hgA)).mono hgA.size
  have HGA := hide hgA
  have e0 : W.cell? ⟨w.heap.size, 0, none⟩ = some (.slice ta p.length tc) := by simp [World.cell?, hbA]
  have e1 : W.cell? ⟨w.heap.size, 1, none⟩ = some (.slice sa l.length sc) := by simp [World.cell?, hbA]
  have e2 : W.cell? ⟨w.heap.size, 2, none⟩ = some (.int .i64 v1) := by simp [World.cell?, hbA]
  have e3 : W.cell? ⟨w.heap.size, 3, none⟩ = some (.int .i64 v2) := by simp [World.cell?, hbA]
  have e4 : W.cell? ⟨w.heap.size, 4, none⟩ = some (.int .i64 v3) := by simp [World.cell?, hbA]
  have hSt : WrS W ((W.alloc (.cells #[.int .u8 82, .int .u8 82, .int .u8 1] 5 (3, 4))).alloc (.cells #[.slice (some ⟨w.heap.size + 1, 0, none⟩) 3 3] 144)) (w.heap.size + 1 + 1) (.slice (some ⟨w.heap.size + 1, 0, none⟩) 3 3) [82, 82, 1] := by
    refine ⟨?_, Or.inr ⟨w.heap.size + 1, #[.int .u8 82, .int .u8 82, .int .u8 1], rfl, by omega, ?_, rfl, rfl⟩, by simp [Value.ownBlock], by omega, grown_alloc (grown_alloc (grown_refl _ _))⟩
    · have := heap_alloc_new (W.alloc (.cells #[.int .u8 82, .int .u8 82, .int .u8 1] 5 (3, 4))) (.cells #[.slice (some ⟨w.heap.size + 1, 0, none⟩) 3 3] 144)
      simpa [hzA] using this
    · rw [Below.heap_alloc _ _ _ (by simp; omega)]
      have := heap_alloc_new W (.cells #[.int .u8 82, .int .u8 82, .int .u8 1] 5 (3, 4))
      rwa [hzA] at this
  generalize (W.alloc (.cells #[.int .u8 82, .int .u8 82, .int .u8 1] 5 (3, 4))).alloc (.cells #[.slice (some ⟨w.heap.size + 1, 0, none⟩) 3 3] 144) = w3 at hSt ⊢
  generalize w.heap.size + 1 + 1 = b at hSt ⊢
  clear hgA hbA hzA HP HS
  refine (program_w W b p (.agg #[.slice ta p.length tc]) w3 _ [82, 82, 1] hSt (by decide) HPW.out HVP.out HI.out).mono ?_
  rintro e w4 ⟨⟨u4, rfl⟩, bv4, hs4, ht4⟩
  have d1 := pres_grown hs4.base _ _ e1
  have HS4 := hide hs4
  clear hs4 ht4 hSt e0 e1
  go_wp2_with fail
  refine (schedule_w W b l (.slice sa l.length sc) w4 bv4 ([82, 82, 1] ++ progB p) HS4.out (by have := HPl.out; simp only [List.length_append, List.length_cons, List.length_nil]; omega) HSW.out HVS.out).mono ?_
  rintro e w5 ⟨⟨u5, rfl⟩, bv5, hs5, ht5⟩
  have d2 := pres_grown hs5.base _ _ e2
  have d3 := pres_grown hs5.base _ _ e3
  have d4 := pres_grown hs5.base _ _ e4
  have HS5 := hide hs5
  clear hs5 ht5 HS4 d1 e2 e3 e4
  go_wp2_with fail
  refine (verdict_w W b (v1, v2, v3) (by simp only; omega) (by simp only; omega) (by simp only; omega) w5 bv5 ([82, 82, 1] ++ progB p ++ schB l) HS5.out (by have := HPl.out; have := HSl.out; simp only [List.length_append, List.length_cons, List.length_nil]; omega)).mono ?_
  rintro e w6 ⟨⟨u6, rfl⟩, bv6, hs6, ht6⟩
  have HS6 := hide hs6
  clear hs6 ht6 HS5 d2 d3 d4
  have HVl : Hid ((verB (v1, v2, v3)).length ≤ 30) := by
    unfold Hid verB
    have h3 := wInt_len (n := v1) (by omega)
    have h4 := wInt_len (n := v2) (by omega)
    have h5 := wInt_len (n := v3) (by omega)
    simp only [List.length_append]
    omega
  go_wp2_with fail
  refine (check_w W b w6 bv6 ([82, 82, 1] ++ progB p ++ schB l ++ verB (v1, v2, v3)) HS6.out (by have := HPl.out; have := HSl.out; have := HVl.out; simp only [List.length_append, List.length_cons, List.length_nil]; omega) H256.out).mono ?_
  rintro e w7 ⟨⟨u7, rfl⟩, bv7, hs7, ht7⟩
  rw [← HENC.out] at hs7
  have HS7 := hide hs7
  have d5 := hs7.cell
  have d6 := hs7.row.str
  obtain ⟨x1, x3, rfl⟩ := hs7.row.form
  clear hs7 ht7 HS6
  go_wp2_with fail
  go_ret
  exact ⟨rfl, grown_trans HGA.out HS7.out.base⟩

set_option maxRecDepth 100000 in
set_option maxHeartbeats 2000000 in
theorem encode_m (a : Art) (tv sv : Value) (w : World) (hSh : ShpAt w) (hP : ProgAt w (.agg #[tv]) a.prog) (hS : IntsAt w.heap.size w sv a.sch) (hE : artE a = 0) (hi : ∀ c ∈ a.prog, ∀ i ∈ c, insInt i) :
    Calls Tryd.prog 18 #[artA tv sv a.ver] w fun e w' => e = .returned (.tuple #[.string (bs (encB a)), .int .i64 0]) ∧ w.grownBy w' none := by
  have hfm := hP.form
  obtain ⟨ta, tc, e1⟩ := hfm
  simp only [Value.agg.injEq, Array.mk.injEq, List.cons.injEq, and_true] at e1
  obtain ⟨sa, sc, e2⟩ := hS.form
  subst e1 e2
  have hgA : w.grownBy (w.alloc (.cells #[.slice ta a.prog.length tc, .slice sa a.sch.length sc, .int .i64 a.ver.1, .int .i64 a.ver.2.1, .int .i64 a.ver.2.2] 51)) none := grown_alloc (grown_refl _ _)
  have hbA := heap_alloc_new w (.cells #[.slice ta a.prog.length tc, .slice sa a.sch.length sc, .int .i64 a.ver.1, .int .i64 a.ver.2.1, .int .i64 a.ver.2.2] 51)
  have HA := hide (acheck_m a (.slice ta a.prog.length tc) (.slice sa a.sch.length sc) _ (ShpAt.pres hSh (pres_grown hgA)) (hP.pres (pres_grown hgA)) ((hS.pres (pres_grown hgA)).mono hgA.size))
  rw [hE] at HA
  have HW := hide (fun (w' : World) (hg : w.grownBy w' none) => write_m a (.slice ta a.prog.length tc) (.slice sa a.sch.length sc) w' (hP.pres (pres_grown hg)) ((hS.pres (pres_grown hg)).mono hg.size) hE hi)
  clear hSh hP hS hE hi
  unfold artA at *
  go_enter Tryd.func18, Tryd.ntmps18
  go_wp2_with fail
  generalize w.alloc (.cells #[.slice ta a.prog.length tc, .slice sa a.sch.length sc, .int .i64 a.ver.1, .int .i64 a.ver.2.1, .int .i64 a.ver.2.2] 51) = W at hgA hbA HA ⊢
  refine HA.out.mono ?_
  rintro e w2 ⟨rfl, hg2⟩
  have hb2 : w2.heap[w.heap.size]? = some (.cells #[.slice ta a.prog.length tc, .slice sa a.sch.length sc, .int .i64 a.ver.1, .int .i64 a.ver.2.1, .int .i64 a.ver.2.2] 51 (0, 0)) := by
    rw [hg2.block _ (Array.getElem?_eq_some_iff.1 hbA).1 (by simp)]; exact hbA
  have e0 : w2.cell? ⟨w.heap.size, 0, none⟩ = some (.slice ta a.prog.length tc) := by simp [World.cell?, hb2]
  have e1 : w2.cell? ⟨w.heap.size, 1, none⟩ = some (.slice sa a.sch.length sc) := by simp [World.cell?, hb2]
  have e2 : w2.cell? ⟨w.heap.size, 2, none⟩ = some (.int .i64 a.ver.1) := by simp [World.cell?, hb2]
  have e3 : w2.cell? ⟨w.heap.size, 3, none⟩ = some (.int .i64 a.ver.2.1) := by simp [World.cell?, hb2]
  have e4 : w2.cell? ⟨w.heap.size, 4, none⟩ = some (.int .i64 a.ver.2.2) := by simp [World.cell?, hb2]
  have HG2 := hide (grown_trans hgA hg2)
  clear hg2 hb2 hbA hgA
  go_wp2_with fail
  refine (HW.out w2 HG2.out).mono ?_
  rintro e w3 ⟨rfl, hg3⟩
  have HG3 := hide (grown_trans HG2.out hg3)
  clear hg3 e0 e1 e2 e3 e4
  go_wp2_with fail
  refine bodyPost_ret (v := .tuple #[.string (bs (encB a)), .int .i64 0]) (by simp [results, Tryd.results18, go_sem]) rfl ?_
  exact ⟨rfl, HG3.out⟩

end Go.Proofs.YtklenjmfalljgaaDoor

/- The product's Encode, whatever it is handed: it answers as the reference's does. -/
namespace Go.Proofs.YtklenjmfalljgaaDoor
open Go.RowKit
attribute [local go_sem] Go.World.cell?_alloc_some

set_option maxRecDepth 100000 in
set_option maxHeartbeats 2000000 in
theorem encode_e (a : Art) (tv sv : Value) (w : World) (hSh : ShpAt w) (hP : ProgAt w (.agg #[tv]) a.prog) (hS : IntsAt w.heap.size w sv a.sch) (hE : artE a ≠ 0) :
    Calls Tryd.prog 18 #[artA tv sv a.ver] w fun e w' => e = .returned (.tuple #[.string ⟨#[]⟩, .int .i64 (artE a)]) ∧ w.grownBy w' none := by
  have hfm := hP.form
  obtain ⟨ta, tc, e1⟩ := hfm
  simp only [Value.agg.injEq, Array.mk.injEq, List.cons.injEq, and_true] at e1
  obtain ⟨sa, sc, e2⟩ := hS.form
  subst e1 e2
  have hgA : w.grownBy (w.alloc (.cells #[.slice ta a.prog.length tc, .slice sa a.sch.length sc, .int .i64 a.ver.1, .int .i64 a.ver.2.1, .int .i64 a.ver.2.2] 51)) none := grown_alloc (grown_refl _ _)
  have HA := hide (acheck_m a (.slice ta a.prog.length tc) (.slice sa a.sch.length sc) _ (ShpAt.pres hSh (pres_grown hgA)) (hP.pres (pres_grown hgA)) ((hS.pres (pres_grown hgA)).mono hgA.size))
  clear hSh hP hS
  unfold artA at *
  generalize artE a = ee at *
  have hne : (ee != 0) = true := by simpa using hE
  clear hE
  go_enter Tryd.func18, Tryd.ntmps18
  go_wp2_with fail
  generalize w.alloc (.cells #[.slice ta a.prog.length tc, .slice sa a.sch.length sc, .int .i64 a.ver.1, .int .i64 a.ver.2.1, .int .i64 a.ver.2.2] 51) = W at hgA HA ⊢
  refine HA.out.mono ?_
  rintro e w2 ⟨rfl, hg2⟩
  have HG2 := hide (grown_trans hgA hg2)
  clear hg2 hgA HA
  go_wp2_with fail
  refine bodyPost_ret (v := .tuple #[.string ⟨#[]⟩, .int .i64 ee]) (by simp [results, Tryd.results18, go_sem]) rfl ?_
  exact ⟨rfl, HG2.out⟩

theorem encode_all (p : List (List Ins)) (s : List Int) (k0 k1 k2 : Int) (tv sv : Value) (w : World) (hSh : ShpAt w) (hP : ProgAt w (.agg #[tv]) p) (hS : IntsAt w.heap.size w sv s) (hi : ∀ c ∈ p, ∀ i ∈ c, nInt i) :
    Calls Tryd.prog 18 #[.agg #[tv, sv, .int .i64 k0, .int .i64 k1, .int .i64 k2]] w fun e w' => e = .returned (refAns ⟨p, s, (k0, k1, k2)⟩) ∧ w.grownBy w' none := by
  by_cases h0 : artE ⟨p, s, (k0, k1, k2)⟩ = 0
  · have hra : refAns ⟨p, s, (k0, k1, k2)⟩ = .tuple #[.string (bs (encB ⟨p, s, (k0, k1, k2)⟩)), .int .i64 0] := by unfold refAns; rw [if_pos h0]
    rw [hra]
    refine encode_m ⟨p, s, (k0, k1, k2)⟩ tv sv w hSh hP hS h0 (fun c hc i hi' => ?_)
    have hp := (artE_zero h0).1
    simp only [vProg, Bool.and_eq_true, List.all_eq_true] at hp
    have h2 := hp.2.2 c hc
    simp only [vCode, Bool.and_eq_true, List.all_eq_true, decide_eq_true_eq] at h2
    obtain ⟨g1, g2, g3⟩ := vIns_small (h2.2 i hi')
    exact small_int ⟨g1, g2, g3, hi c hc i hi'⟩
  · have hra : refAns ⟨p, s, (k0, k1, k2)⟩ = .tuple #[.string ⟨#[]⟩, .int .i64 (artE ⟨p, s, (k0, k1, k2)⟩)] := by unfold refAns; rw [if_neg h0]
    rw [hra]
    exact encode_e ⟨p, s, (k0, k1, k2)⟩ tv sv w hSh hP hS h0

/-- What both Encodes answer, by its form. -/
theorem refAns_form (a : Art) : ∃ S E, refAns a = .tuple #[.string S, .int .i64 E] := by
  unfold refAns
  by_cases h : artE a = 0
  · rw [if_pos h]; exact ⟨_, _, rfl⟩
  · rw [if_neg h]; exact ⟨_, _, rfl⟩

end Go.Proofs.YtklenjmfalljgaaDoor

/- The walk of the hands' encoded. -/
namespace Go.Proofs.YtklenjmfalljgaaDoor
open Go.RowKit
attribute [local go_sem] Go.World.cell?_alloc_some

theorem five_cells {w : World} {g : Nat} {x0 x1 x2 x3 x4 : Value} {t : TypeId} (h : w.heap[g]? = some (.cells #[x0, x1, x2, x3, x4] t (0, 0))) : w.cell? ⟨g, 0, none⟩ = some x0 ∧ w.cell? ⟨g, 1, none⟩ = some x1 ∧ w.cell? ⟨g, 2, none⟩ = some x2 ∧ w.cell? ⟨g, 3, none⟩ = some x3 ∧ w.cell? ⟨g, 4, none⟩ = some x4 := by
  simp [World.cell?, h]
theorem num_mW (n : Int) (w : World) : Calls Tryd.prog 47 #[.int .i64 n] w fun e w' => e = .returned (.int .i64 n) ∧ w' = w := by
  go_enter Tryd.func47, Tryd.ntmps47
  go_wp2_with fail
  go_ret
  exact ⟨rfl, rfl⟩

set_option maxHeartbeats 4000000 in
set_option maxRecDepth 100000 in
theorem encoded_e (W : World) (B : Nat) (w : World) (b : Nat) (who : Nat → Role) (n : Int) (f : Nat → Value) (K : Nat → List (Value × Int)) (tv sv : Value) (p : List (List Ins)) (s : List Int) (k0 k1 k2 : Int)
    (h : Hz B w b who n f K) (hW : W.grownBy w none) (hWB : W.heap.size ≤ B) (hS : ShpAt W) (hP : ProgAt W (.agg #[tv]) p) (hI : IntsAt W.heap.size W sv s) (hpl : p.length ≤ 5864062014634) (hpc : ∀ c ∈ p, c.length ≤ 4398046510976) (hsl : s.length ≤ 17592186043904) (hni : ∀ c ∈ p, ∀ i ∈ c, nInt i) :
    Calls Tryd.prog 20 #[pt b, .agg #[tv, sv, .int .i64 k0, .int .i64 k1, .int .i64 k2]] w (HzE W B b n K w who) := by
  obtain ⟨ao, cap, htv⟩ := hP.form
  simp only [Value.agg.injEq, Array.mk.injEq, List.cons.injEq, and_true] at htv
  subst htv
  obtain ⟨so, sc, rfl⟩ := hI.form
  have HH := hide h
  have HW := hide hW
  have HS := hide hS
  have HP := hide hP
  have HI := hide hI
  have HPC := hide hpc
  have HNI := hide hni
  have hpt : pt b = .pointer (some ⟨b, 0, none⟩) := rfl
  clear h hW hS hP hI hpc hni
  rw [hpt]
  go_enter Tryd.func20, Tryd.ntmps20
  go_upto_region 1 with fail
  obtain ⟨w0, hw0⟩ : ∃ w0, w0 = w.alloc (.cells #[.slice ao p.length cap, .slice so s.length sc, .int .i64 k0, .int .i64 k1, .int .i64 k2] 51) := ⟨_, rfl⟩
  have HB0 : Hid (w0.heap[w.heap.size]? = some (.cells #[.slice ao p.length cap, .slice so s.length sc, .int .i64 k0, .int .i64 k1, .int .i64 k2] 51 (0, 0))) := by unfold Hid; rw [hw0]; exact heap_alloc_new w _
  have HG0 : Hid (w.grownBy w0 none) := by unfold Hid; rw [hw0]; exact grown_alloc (grown_refl _ _)
  rw [← hw0]
  clear hw0
  have HST : Hid (∀ u : World, u.heap[w.heap.size]? = w0.heap[w.heap.size]? → u.cell? ⟨w.heap.size, 0, none⟩ = some (.slice ao p.length cap) ∧ u.cell? ⟨w.heap.size, 1, none⟩ = some (.slice so s.length sc) ∧ u.cell? ⟨w.heap.size, 2, none⟩ = some (.int .i64 k0) ∧ u.cell? ⟨w.heap.size, 3, none⟩ = some (.int .i64 k1) ∧ u.cell? ⟨w.heap.size, 4, none⟩ = some (.int .i64 k2)) := fun u hu => by
    obtain ⟨e0, e1, e2, e3, e4⟩ := five_cells (show u.heap[w.heap.size]? = some (.cells #[.slice ao p.length cap, .slice so s.length sc, .int .i64 k0, .int .i64 k1, .int .i64 k2] 51 (0, 0)) by rw [hu]; exact HB0.out)
    exact ⟨e0, e1, e2, e3, e4⟩
  have HW0 : Hid (W.grownBy w0.drew none) := grown_drew (grown_trans HW.out HG0.out)
  have HPG := hide (program_g W B w0.drew b who n f K [] [] [] (.agg #[.slice ao p.length cap]) p (HH.out.lx.grown (grown_drew HG0.out)) HW0.out hWB HP.out hpl HPC.out (by simpa using hpl) (by simp))
  rw [hpt] at HPG
  have hwo : who w.heap.size = .other := by
    by_cases e : who w.heap.size = .other
    · exact e
    · exact absurd (HH.out.1.1.dom _ e).2 (by omega)
  have HWO := hide hwo
  have HL0 : Hid (w.heap.size < w0.heap.size) := (Array.getElem?_eq_some_iff.1 HB0.out).1
  clear hwo
  refine wp_region_head (fun u => u.cell? ⟨w.heap.size, 0, none⟩ = some (.slice ao p.length cap) ∧ u.cell? ⟨w.heap.size, 1, none⟩ = some (.slice so s.length sc) ∧ u.cell? ⟨w.heap.size, 2, none⟩ = some (.int .i64 k0) ∧ u.cell? ⟨w.heap.size, 3, none⟩ = some (.int .i64 k1) ∧ u.cell? ⟨w.heap.size, 4, none⟩ = some (.int .i64 k2)) 16 (by kernel_rfl) (by kernel_rfl) (HST.out w0.drew rfl) ?_
  intro hHeld
  refine wpHead_take (i := 0) (v := ?vv1) rfl (by kernel_rfl) (fun _ _ _ h => h) (Or.inl ⟨by kernel_rfl, ?hy1⟩) hHeld ?rest1
  case hy1 => (rintro u ⟨hu0, hu1, hu2, hu3, hu4⟩; go_simp; try with_reducible rfl)
  simp only [Act.put, List.setIfInBounds_toArray]
  refine wpHead_take (i := 1) (v := ?vv2) rfl (by kernel_rfl) (fun _ _ _ h => h) (Or.inl ⟨by kernel_rfl, ?hy2⟩) hHeld ?rest2
  case hy2 => (rintro u ⟨hu0, hu1, hu2, hu3, hu4⟩; go_simp; try with_reducible rfl)
  simp only [Act.put]
  refine wpHead_take (i := 2) (v := ?vv3) rfl (by kernel_rfl) (fun _ _ _ h => h) (Or.inl ⟨by kernel_rfl, ?hy3⟩) hHeld ?rest3
  case hy3 => (rintro u ⟨hu0, hu1, hu2, hu3, hu4⟩; go_simp; try with_reducible rfl)
  simp only [Act.put]
  refine wpHead_take (i := 4) (v := ?vv4) rfl (by kernel_rfl) (fun _ _ _ h => h) (Or.inl ⟨by kernel_rfl, ?hy4⟩) hHeld ?rest4
  case hy4 => (rintro u ⟨hu0, hu1, hu2, hu3, hu4⟩; go_simp; try with_reducible rfl)
  simp only [Act.put]
  refine wpHead_take (i := 5) (v := ?vv5) rfl (by kernel_rfl) (fun _ _ _ h => h) (Or.inl ⟨by kernel_rfl, ?hy5⟩) hHeld ?rest5
  case hy5 => (rintro u ⟨hu0, hu1, hu2, hu3, hu4⟩; go_simp; try with_reducible rfl)
  simp only [Act.put]
  refine wpHead_take (i := 6) (v := ?vv6) rfl (by kernel_rfl) (fun _ _ _ h => h) (Or.inl ⟨by kernel_rfl, ?hy6⟩) hHeld ?rest6
  case hy6 => (rintro u ⟨hu0, hu1, hu2, hu3, hu4⟩; go_simp; try with_reducible rfl)
  simp only [Act.put]
  refine wpHead_take (i := 8) (v := ?vv7) rfl (by kernel_rfl) (fun _ _ _ h => h) (Or.inl ⟨by kernel_rfl, ?hy7⟩) hHeld ?rest7
  case hy7 => (rintro u ⟨hu0, hu1, hu2, hu3, hu4⟩; go_simp; try with_reducible rfl)
  simp only [Act.put]
  refine wpHead_take (i := 9) (v := ?vv8) rfl (by kernel_rfl) (fun _ _ _ h => h) (Or.inl ⟨by kernel_rfl, ?hy8⟩) hHeld ?rest8
  case hy8 => (rintro u ⟨hu0, hu1, hu2, hu3, hu4⟩; go_simp; try with_reducible rfl)
  simp only [Act.put]
  refine wpHead_alone (i := 3) rfl (by kernel_rfl) (by kernel_rfl) (by kernel_rfl) ?_
  intro K3 hK3
  have HK3 := hide hK3
  clear hK3
  go_simp
  refine (HPG.out).mono ?_
  clear HPG
  rintro e w1 ⟨g, LC1, who1, f1, rfl, hx1, hlc, hf1, hb1⟩
  obtain ⟨hbx, hwx⟩ := hf1.oth w.heap.size HL0.out HWO.out (fun e => e)
  have HBX1 : Hid (w1.heap[w.heap.size]? = w0.heap[w.heap.size]?) := hbx
  have HW1 : Hid (W.grownBy w1 none) := hf1.base HW0.out hWB (fun g e => (HH.out.1.1.dom g e).1) (fun _ e => e.elim)
  have HF1 : Hid (Fr w w1 who who1 (fun g => w.heap.size ≤ g)) := (Fr.grown (grown_drew HG0.out)).step0 hf1
  have hll : LC1.length = p.length := by rw [← hlc]; simp
  simp only [List.nil_append] at hx1
  have HSG := hide (schedule_g B w1 b who1 n f1 K [] LC1 [(g, p.length)] 0 (.slice so s.length sc) s hx1 ((HI.out.pres (pres_grown HW1.out)).mono HW1.out.size) (val_other hx1.hs hWB HI.out) hsl (by simp))
  rw [hpt] at HSG
  have HX1 := hide hx1
  have HLC := hide hlc
  have HWX := hide hwx
  have HLL := hide hll
  have HL1 : Hid (w.heap.size < w1.heap.size) := by unfold Hid; have := hf1.size; have := HL0.out; simp only [World.drew] at *; omega
  clear hx1 hlc hf1 hb1 hbx hwx hll
  have hHeld1 := HST.out w1 HBX1.out
  refine HK3.out _ _ hHeld1 ?_
  clear HK3
  try simp only [Act.put, List.setIfInBounds_toArray]
  refine wpHead_alone (i := 7) rfl (by kernel_rfl) (by kernel_rfl) (by kernel_rfl) ?_
  intro K7 hK7
  have HK7 := hide hK7
  clear hK7
  go_simp
  refine (HSG.out).mono ?_
  clear HSG
  rintro e w2 ⟨gs, who2, f2, rfl, hx2, hf2⟩
  simp only [List.nil_append] at hx2
  have HW2 : Hid (W.grownBy w2 none) := hf2.base HW1.out hWB (fun g e => (HX1.out.hs.1.dom g e).1) (fun _ e => e.elim)
  have HF2 : Hid (Fr w w2 who who2 (fun g => w.heap.size ≤ g)) := HF1.out.step0 hf2
  obtain ⟨hbx, hwx⟩ := hf2.oth w.heap.size HL1.out HWX.out (fun e => e)
  have HBX2 : Hid (w2.heap[w.heap.size]? = w0.heap[w.heap.size]?) := hbx.trans HBX1.out
  have HWX2 := hide hwx
  have hgb : w2.heap[g]? = some (.cells (lentRows LC1) 29 (0, 0)) := by
    have := (hx2.le.lr 0 (by simp)).1
    simp only [List.getElem_cons_zero, List.take_zero, List.map_nil, List.sum_nil, List.drop_zero] at this
    rw [List.take_of_length_le (by rw [HLL.out]; omega)] at this
    exact this
  have hPx : ProgAt w2 (.agg #[.slice (some ⟨g, 0, none⟩) p.length (p.length + 2)]) p := lent_prog (LC0 := []) (by simpa using hx2.le) hgb HLC.out _
  have hIx : IntsAt w2.heap.size w2 (.slice (some ⟨gs, 0, none⟩) s.length (s.length + 2)) s := lent_ints (hx2.le.li (gs, s, .slice so s.length sc) (by simp)).1
  have HEN := hide (encode_all p s k0 k1 k2 _ _ w2 (HS.out.pres (pres_grown HW2.out)) hPx hIx HNI.out)
  have HX2 := hide hx2
  have HL2 : Hid (w.heap.size < w2.heap.size) := by unfold Hid; have := hf2.size; have := HL1.out; omega
  clear hx2 hf2 hbx hwx hgb hPx hIx
  have hHeld2 := HST.out w2 HBX2.out
  obtain ⟨SS, EE, hSE⟩ := refAns_form ⟨p, s, (k0, k1, k2)⟩
  rw [hSE] at HEN
  have HSE := hide hSE
  clear hSE
  refine HK7.out _ _ hHeld2 ?_
  clear HK7
  try simp only [Act.put, List.setIfInBounds_toArray]
  refine wpHead_take (i := 10) (v := ?vv9) rfl (by kernel_rfl) (fun _ _ _ h => h) (Or.inl ⟨by kernel_rfl, ?hy9⟩) hHeld2 ?rest9
  case hy9 => (rintro u ⟨hu0, hu1, hu2, hu3, hu4⟩; go_simp; try with_reducible rfl)
  simp only [Act.put, List.setIfInBounds_toArray]
  refine wpHead_alone (i := 11) rfl (by kernel_rfl) (by kernel_rfl) (by kernel_rfl) ?_
  intro K11 hK11
  have HK11 := hide hK11
  clear hK11
  go_simp
  refine (HEN.out).mono ?_
  clear HEN
  rintro e w3 ⟨rfl, hg3⟩
  have HG23 := hide hg3
  have HBX3 : Hid (w3.heap[w.heap.size]? = w0.heap[w.heap.size]?) := by unfold Hid; rw [hg3.block _ HL2.out (by simp)]; exact HBX2.out
  have HW3 : Hid (W.grownBy w3 none) := grown_trans HW2.out hg3
  clear hg3
  have hHeld3 := HST.out w3 HBX3.out
  refine HK11.out _ _ hHeld3 ?_
  clear HK11
  try simp only [Act.put, List.setIfInBounds_toArray]
  refine wpHead_take (i := 12) (v := ?vv10) rfl (by kernel_rfl) (fun _ _ _ h => h) (Or.inl ⟨by kernel_rfl, ?hy10⟩) hHeld3 ?rest10
  case hy10 => (rintro u ⟨hu0, hu1, hu2, hu3, hu4⟩; go_simp; try with_reducible rfl)
  simp only [Act.put, List.setIfInBounds_toArray]
  refine wpHead_take (i := 13) (v := ?vv11) rfl (by kernel_rfl) (fun _ _ _ h => h) (Or.inl ⟨by kernel_rfl, ?hy11⟩) hHeld3 ?rest11
  case hy11 => (rintro u ⟨hu0, hu1, hu2, hu3, hu4⟩; go_simp; try with_reducible rfl)
  simp only [Act.put]
  refine wpHead_take (i := 14) (v := ?vv12) rfl (by kernel_rfl) (fun _ _ _ h => h) (Or.inl ⟨by kernel_rfl, ?hy12⟩) hHeld3 ?rest12
  case hy12 => (rintro u ⟨hu0, hu1, hu2, hu3, hu4⟩; go_simp; try with_reducible rfl)
  simp only [Act.put]
  refine wpHead_take (i := 15) (v := ?vv13) rfl (by kernel_rfl) (fun _ _ _ h => h) (Or.inl ⟨by kernel_rfl, ?hy13⟩) hHeld3 ?rest13
  case hy13 => (rintro u ⟨hu0, hu1, hu2, hu3, hu4⟩; go_simp; try with_reducible rfl)
  simp only [Act.put]
  refine wpHead_last rfl (by kernel_rfl) (by kernel_rfl) (by kernel_rfl) ?_
  go_simp
  clear hHeld hHeld1 hHeld2 hHeld3
  have HBK := hide (back_g B w3 b who2 n f2 K _ _ _ (HX2.out.grown HG23.out) (by simp) (by rw [HLL.out]; omega) (by simp))
  rw [hpt] at HBK
  go_wp2_with fail
  refine HBK.out.mono ?_
  clear HBK
  rintro e w4 ⟨rfl, f4, hz4, hf4⟩
  have HW4 : Hid (W.grownBy w4 none) := hf4.base HW3.out hWB (fun g e => (HX2.out.hs.1.dom g e).1) (fun _ e => e.elim)
  have HF4 : Hid (Fr w w4 who who2 (fun g => w.heap.size ≤ g)) := (HF2.out.stepG HG23.out).step0 hf4
  have HBX4 : Hid (w4.heap[w.heap.size]? = w0.heap[w.heap.size]?) := by
    unfold Hid; rw [(hf4.oth w.heap.size (Nat.lt_of_lt_of_le HL2.out HG23.out.size) HWX2.out (fun e => e)).1]; exact HBX3.out
  obtain ⟨d0, d1, d2, d3, d4⟩ := HST.out w4 HBX4.out
  have HRF := hide (refencode_m p s k0 k1 k2 (.slice ao p.length cap) (.slice so s.length sc) w4 (HP.out.pres (pres_grown HW4.out)) ((HI.out.pres (pres_grown HW4.out)).mono HW4.out.size) hpl HPC.out HNI.out)
  rw [HSE.out] at HRF
  have HZ4 := hide hz4
  clear hz4 hf4
  go_wp2_with fail
  refine HRF.out.mono ?_
  clear HRF d0 d1 d2 d3 d4
  rintro e w5 ⟨hg5, rfl⟩
  have HG45 := hide hg5
  clear hg5
  go_wp2_with (go_at_call 47; refine (num_mW _ _).mono ?_; rintro e w9 ⟨rfl, hw9⟩; have hw9' := hw9.symm; subst hw9')
  go_ret
  exact ⟨by simp, who2, f4, ⟨HZ4.out.1.grown HG45.out, HZ4.out.2⟩, grown_trans HW4.out HG45.out, HF4.out.stepG HG45.out⟩
theorem encoded_g (W : World) (B : Nat) (w : World) (b : Nat) (who : Nat → Role) (n : Int) (f : Nat → Value) (K : Nat → List (Value × Int)) (tv sv : Value) (p : List (List Ins)) (s : List Int) (k0 k1 k2 : Int)
    (h : Hz B w b who n f K) (hW : W.grownBy w none) (hWB : W.heap.size ≤ B) (hS : ShpAt W) (hP : ProgAt W (.agg #[tv]) p) (hI : IntsAt W.heap.size W sv s) (hpl : p.length ≤ 5864062014634) (hpc : ∀ c ∈ p, c.length ≤ 4398046510976) (hsl : s.length ≤ 17592186043904) (hni : ∀ c ∈ p, ∀ i ∈ c, nInt i) :
    Calls Tryd.prog 20 #[pt b, .agg #[tv, sv, .int .i64 k0, .int .i64 k1, .int .i64 k2]] w (HzG W B b n K) :=
  (encoded_e W B w b who n f K tv sv p s k0 k1 k2 h hW hWB hS hP hI hpl hpc hsl hni).mono fun _ _ h => h.g

end Go.Proofs.YtklenjmfalljgaaDoor

/- The walk of the hands' decoded. -/
namespace Go.Proofs.YtklenjmfalljgaaDoor
open Go.RowKit
attribute [local go_sem] Go.World.cell?_alloc_some

set_option maxHeartbeats 4000000 in
set_option maxRecDepth 100000 in
theorem decoded_g (W : World) (B : Nat) (w : World) (b : Nat) (who : Nat → Role) (n : Int) (f : Nat → Value) (K : Nat → List (Value × Int)) (s : ByteArray)
    (h : Hz B w b who n f K) (hW : W.grownBy w none) (hWB : W.heap.size ≤ B) (hS : ShpAt W) (hs : s.size ≤ 9223372036854775000) (hn0 : 0 ≤ n) (hn1 : n ≤ 8000000000000) (hK : ∀ c, c < 5 → (K c).length ≤ 4900000000000) :
    Calls Tryd.prog 22 #[pt b, .string s] w (HzD W B b n K) := by
  have HH := hide h
  have HW := hide hW
  have HS := hide hS
  have HK := hide hK
  have hpt : pt b = .pointer (some ⟨b, 0, none⟩) := rfl
  have HSM := hide (decOut_small s)
  have HDM := hide (fun (u : World) (hu : W.grownBy u none) => decode_m s u (HS.out.pres (pres_grown hu)) (by omega))
  have HRM := hide (fun (u : World) => refdecode_m s u hs)
  clear h hW hS hK
  rw [hpt]
  go_enter Tryd.func22, Tryd.ntmps22
  go_wp2_with fail
  refine (HDM.out _ HW.out).mono ?_
  clear HDM
  intro e w1 hD
  obtain ⟨hg1, tv, sv, he, ht1, ho1⟩ := hD.form
  clear hD
  subst he
  have HRF : Hid (∀ u e u', RDec u s e u' → u.grownBy u' none ∧ ∃ tv sv, e = .returned (.tuple #[.agg #[tv, sv, .int .i64 (decOut s).1.ver.1, .int .i64 (decOut s).1.ver.2.1, .int .i64 (decOut s).1.ver.2.2], .int .i64 (decOut s).2]) ∧ ProgAt u' (.agg #[tv]) (decOut s).1.prog ∧ IntsAt u'.heap.size u' sv (decOut s).1.sch) := fun u e u' h => h.form
  generalize decOut s = D at *
  obtain ⟨⟨p, sc, k0, k1, k2⟩, ce⟩ := D
  simp only at ht1 ho1 HRF HSM
  obtain ⟨t1, t2, t3, rfl⟩ := owns_form ht1.choose_spec.1
  obtain ⟨s1, s2, s3, rfl⟩ := owns_form ho1
  have ht2 := owns_lenq ht1.choose_spec.1
  have hs2 := owns_lenq ho1
  subst ht2 hs2
  have HT1 := hide ht1
  have HO1 := hide ho1
  have HG1 := hide hg1
  clear ht1 ho1 hg1
  go_upto_region 2 with fail
  obtain ⟨w2, hw2⟩ : ∃ w2, w2 = w1.alloc (.cells #[.slice t1 p.length t3, .slice s1 sc.length s3, .int .i64 k0, .int .i64 k1, .int .i64 k2] 51) := ⟨_, rfl⟩
  have HB2 : Hid (w2.heap[w1.heap.size]? = some (.cells #[.slice t1 p.length t3, .slice s1 sc.length s3, .int .i64 k0, .int .i64 k1, .int .i64 k2] 51 (0, 0))) := by unfold Hid; rw [hw2]; exact heap_alloc_new w1 _
  have HG12 : Hid (w1.grownBy w2 none) := by unfold Hid; rw [hw2]; exact grown_alloc (grown_refl _ _)
  rw [← hw2]
  clear hw2
  have HN5 : Hid (w.heap.size ≤ w1.heap.size ∧ w1.heap.size < w2.heap.size) := ⟨HG1.out.size, (Array.getElem?_eq_some_iff.1 HB2.out).1⟩
  generalize hn5 : w1.heap.size = n5 at *
  have HE5 := hide hn5
  clear hn5
  go_wp2_with fail
  refine (HRM.out w2).mono ?_
  clear HRM
  intro e w3 hR
  obtain ⟨hg3, rv, yv, he, hp3, hi3⟩ := HRF.out _ _ _ hR
  clear hR HRF
  subst he
  obtain ⟨ra, rc, hrv⟩ := hp3.form
  simp only [Value.agg.injEq, Array.mk.injEq, List.cons.injEq, and_true] at hrv
  subst hrv
  obtain ⟨ya, yc, rfl⟩ := hi3.form
  have HG23 := hide hg3
  have HP3 := hide hp3
  have HI3 := hide hi3
  clear hg3 hp3 hi3
  go_upto_region 3 with fail
  obtain ⟨w4, hw4⟩ : ∃ w4, w4 = w3.alloc (.cells #[.slice ra p.length rc, .slice ya sc.length yc, .int .i64 k0, .int .i64 k1, .int .i64 k2] 51) := ⟨_, rfl⟩
  have HB4 : Hid (w4.heap[w3.heap.size]? = some (.cells #[.slice ra p.length rc, .slice ya sc.length yc, .int .i64 k0, .int .i64 k1, .int .i64 k2] 51 (0, 0))) := by unfold Hid; rw [hw4]; exact heap_alloc_new w3 _
  have HG34 : Hid (w3.grownBy w4 none) := by unfold Hid; rw [hw4]; exact grown_alloc (grown_refl _ _)
  rw [← hw4]
  clear hw4
  generalize hn7 : w3.heap.size = n7 at *
  have HE7 := hide hn7
  clear hn7
  have HG24 : Hid (w2.grownBy w4 none) := grown_trans HG23.out HG34.out
  have HG14 : Hid (w1.grownBy w4 none) := grown_trans HG12.out HG24.out
  have HST : Hid (∀ u : World, w4.grownBy u none → (u.cell? ⟨n5, 0, none⟩ = some (.slice t1 p.length t3) ∧ u.cell? ⟨n5, 1, none⟩ = some (.slice s1 sc.length s3) ∧ u.cell? ⟨n5, 2, none⟩ = some (.int .i64 k0) ∧ u.cell? ⟨n5, 3, none⟩ = some (.int .i64 k1) ∧ u.cell? ⟨n5, 4, none⟩ = some (.int .i64 k2)) ∧ (u.cell? ⟨n7, 0, none⟩ = some (.slice ra p.length rc) ∧ u.cell? ⟨n7, 1, none⟩ = some (.slice ya sc.length yc) ∧ u.cell? ⟨n7, 2, none⟩ = some (.int .i64 k0) ∧ u.cell? ⟨n7, 3, none⟩ = some (.int .i64 k1) ∧ u.cell? ⟨n7, 4, none⟩ = some (.int .i64 k2))) := fun u hu =>
    ⟨five_cells (by rw [(grown_trans HG24.out hu).block n5 HN5.out.2 (by simp)]; exact HB2.out), five_cells (by rw [hu.block n7 (Array.getElem?_eq_some_iff.1 HB4.out).1 (by simp)]; exact HB4.out)⟩
  have HP1 : Hid (ProgAt w1 (.agg #[.slice t1 p.length t3]) p) := HT1.out.progAt
  have HSP := hide (sameProgram_m p _ _ w4 (HP1.out.pres (pres_grown HG14.out)) (HP3.out.pres (pres_grown HG34.out)) (by have := HSM.out.1; omega) (fun c hc => by have := HSM.out.2.1 c hc; omega))
  obtain ⟨⟨a0, a1, a2, a3, a4⟩, b0, b1, b2, b3, b4⟩ := HST.out w4 (grown_refl _ _)
  clear a1 a2 a3 a4 b1 b2 b3 b4
  go_wp2_with fail
  refine HSP.out.mono ?_
  clear HSP a0 b0
  rintro e w5 ⟨rfl, hg5⟩
  have HG45 := hide hg5
  have HG15 : Hid (w1.grownBy w5 none) := grown_trans HG14.out hg5
  have HSI := hide (same_m sc sc (.slice s1 sc.length s3) (.slice ya sc.length yc) w5 (owns_ints (owns_grown HO1.out HG15.out (fun _ e => by cases e))) ((HI3.out.pres (pres_grown (grown_trans HG34.out hg5))).mono (by have := HE7.out; have := (grown_trans HG34.out hg5).size; omega)) (by have := HSM.out.2.2; omega))
  rw [show (sc == sc) = true by simp] at HSI
  obtain ⟨⟨a0, a1, a2, a3, a4⟩, b0, b1, b2, b3, b4⟩ := HST.out w5 hg5
  clear hg5 a0 a2 a3 a4 b0 b2 b3 b4
  go_wp2_with fail
  refine HSI.out.mono ?_
  clear HSI a1 b1
  rintro e w6 ⟨rfl, hl6⟩
  have HG46 : Hid (w4.grownBy w6 none) := grown_trans HG45.out (grown_of_like hl6)
  have HG16 : Hid (w1.grownBy w6 none) := grown_trans HG14.out HG46.out
  have HG06 : Hid (w.grownBy w6 none) := grown_trans HG1.out HG16.out
  clear hl6
  obtain ⟨⟨a0, a1, a2, a3, a4⟩, b0, b1, b2, b3, b4⟩ := HST.out w6 HG46.out
  clear a1 b0 b1
  go_upto_region 6 with (go_at_call 47; refine (num_mW _ _).mono ?_; rintro e w9 ⟨rfl, hw9⟩; have hw9' := hw9.symm; subst hw9')
  clear a2 a3 a4 b2 b3 b4
  -- what came out is kept
  have hlow : B ≤ w.heap.size := by have := HH.out.1.1.dom b (by rw [HH.out.1.1.wb]; simp); omega
  obtain ⟨T, hTl, hTD⟩ := thrD_of HT1.out (fun c hc => by have := HSM.out.2.1 c hc; omega)
  have hT4 : T.length ≤ 4 := by have := HSM.out.1; omega
  have hoth : ∀ q, w.heap.size ≤ q → who q = .other := fun q hq => by
    by_cases ho : who q = .other
    · exact ho
    · exact absurd (HH.out.1.1.dom q ho).2 (by omega)
  have HOT := hide hoth
  have HTD := hide hTD
  have HK1 := hide (keepProgram_g B w6 b who n f K (.slice t1 p.length t3) T (HH.out.1.grown HG06.out) ((hTD.grown HG16.out).low (by omega)) (fun q e => hoth q (by have := owns_block hTD.row q e; omega)) (fun x hx q e => hoth q (by have := owns_block (hTD.el x hx).1 q e; omega)) hn0 (by omega) (by have := HK.out 3 (by omega); omega) (by have := HK.out 4 (by omega); omega) (by omega))
  rw [hpt] at HK1
  clear hTD hoth
  go_wp2_with fail
  refine HK1.out.mono ?_
  clear HK1 a0
  rintro e w7 ⟨⟨v7, rfl⟩, who7, f7, K7, hH7, hF7, hf7, hk3, hk4, hko⟩
  have HW6 : Hid (W.grownBy w6 none) := grown_trans HW.out HG06.out
  have hex : ∀ q, ((Value.slice t1 p.length t3).ownBlock = some q ∨ ∃ x ∈ T, x.1.ownBlock = some q) → w.heap.size ≤ q ∧ q < n5 := fun q e => by
    rcases e with e | ⟨x, hx, e⟩
    · have h1 := owns_block HTD.out.row q e
      have h2 := owns_ltH HTD.out.row q e
      have := HE5.out
      omega
    · have h1 := owns_block (HTD.out.el x hx).1 q e
      have h2 := owns_ltH (HTD.out.el x hx).1 q e
      have := HE5.out
      omega
  have HW7 : Hid (W.grownBy w7 none) := hF7.base HW6.out hWB (fun g e => (HH.out.1.1.dom g e).1) (fun q e => by have := (hex q e).1; have := HW.out.size; omega)
  have hn56 : n5 < w6.heap.size := by have := HN5.out.2; have := (grown_trans HG24.out HG46.out).size; omega
  have a1 : w7.cell? ⟨n5, 1, none⟩ = some (.slice s1 sc.length s3) := by
    rw [World.cell?_of_block (hF7.oth n5 hn56 (HOT.out n5 HN5.out.1) (fun e => by have := (hex n5 e).2; omega)).1]
    exact (HST.out w6 HG46.out).1.2.1
  have hOi : w6.ownsRow (w.heap.size + 6) 3 1 (.slice s1 sc.length s3) sc.length (ints sc) := owns_grown HO1.out HG16.out (fun _ e => by cases e)
  have hsv : ∀ q, (Value.slice s1 sc.length s3).ownBlock = some q → w7.heap[q]? = w6.heap[q]? ∧ who7 q = .other := fun q e => by
    refine hF7.oth q (owns_ltH hOi q e) (HOT.out q (by have := owns_block hOi q e; omega)) (fun h => ?_)
    rcases h with h | ⟨x, hx, h⟩
    · exact owns_types hOi (HTD.out.grown HG16.out).row (by decide) q e h
    · exact owns_types hOi ((HTD.out.grown HG16.out).el x hx).1 (by decide) q e h
  have HSV := hide (fun q e => (And.intro (owns_block hOi q e) (hsv q e).2 : w.heap.size + 6 ≤ q ∧ who7 q = .other))
  have HK2 := hide (keepInts_g B w7 b who7 (n + T.length + 1) f7 K7 (.slice s1 sc.length s3) sc.length _ hH7 (owns_mono (owns_same hOi (fun q e => (hsv q e).1)) (by omega)) (fun q e => (hsv q e).2) (by omega) (by omega) (by rw [hko 0 (by omega) (by omega)]; have := HK.out 0 (by omega); omega) (by have := HSM.out.2.2; omega))
  rw [hpt] at HK2
  have HH7 := hide hH7
  have HKB : Hid (∀ c, c < 5 → (K7 c).length ≤ (K c).length + 16 ∧ (c = 0 → K7 c = K c)) := fun c hc => by
    refine ⟨?_, fun e => hko c (by omega) (by omega)⟩
    by_cases e3 : c = 3
    · subst e3; omega
    · by_cases e4 : c = 4
      · subst e4; omega
      · rw [hko c e3 e4]; omega
  have HF7 := hide hf7
  clear hH7 hF7 hf7 hk3 hk4 hko hsv hOi hex
  go_wp2_with fail
  refine HK2.out.mono ?_
  clear HK2 a1
  rintro e w8 ⟨⟨v8, rfl⟩, who8, f8, K8, hH8, hA8⟩
  have HW8 : Hid (W.grownBy w8 none) := hA8.fr.base HW7.out hWB (fun g e => (HH7.out.1.dom g e).1) (fun q e => by have := (HSV.out q e).1; have := HW.out.size; omega)
  have HZ8 : Hid (Hz B w8 b who8 (n + T.length + 1 + 1) f8 K8) := ⟨hH8, fun k hk => by rw [hA8.lent k hk, HF7.out k hk]; exact HH.out.2 k hk⟩
  have HK8 : Hid (∀ c, c < 5 → (K8 c).length ≤ (K c).length + 16) := fun c hc => by
    by_cases e : c = 0
    · subst e; have := hA8.len; rw [(HKB.out 0 (by omega)).2 rfl] at this; omega
    · rw [hA8.oth c e]; exact (HKB.out c hc).1
  have HHO := hide (holds_g B w8 b who8 (n + T.length + 1 + 1) f8 K8 hH8 (fun c hc => by have := HK8.out c hc; have := HK.out c hc; omega))
  rw [hpt] at HHO
  clear hH8 hA8
  go_wp2_with fail
  refine HHO.out.mono ?_
  clear HHO
  rintro e w9 ⟨rfl, hl9⟩
  have HG89 : Hid (w8.grownBy w9 none) := grown_of_like hl9
  clear hl9
  go_wp2_with fail
  go_ret
  exact ⟨by simp, _, who8, f8, K8, by omega, by omega, ⟨HZ8.out.1.grown HG89.out, HZ8.out.2⟩, grown_trans HW8.out HG89.out, HK8.out⟩

end Go.Proofs.YtklenjmfalljgaaDoor

/- Hands that were just made. -/
namespace Go.Proofs.YtklenjmfalljgaaDoor
open Go.RowKit

def f00 : Nat → Value := fun k => if k = 5 then .int .i64 0 else .slice none 0 0
/-- Hands that were just made. -/
theorem Hz.start {w : World} {b : Nat} (h : w.heap[b]? = some (.cells (hcl f00) 62 (0, 0))) : Hz b w b (setW (fun _ => .other) b .hands) 0 f00 (fun _ => []) := by
  have hnil : ∀ k, k ≠ 5 → f00 k = .slice none 0 0 := fun k hk => by unfold f00; rw [if_neg hk]
  refine ⟨⟨⟨h, rfl, fun c hc => ?_, fun c hc => ?_, fun c hc g e => ?_, fun c hc g e => ?_, setW_at _ _ _, fun c hc x hx => (by cases hx), fun g e => ?_⟩, fun c hc x hx => (by cases hx)⟩, fun k hk => hnil k (by omega)⟩
  · rw [hnil _ (by omega)]; exact ⟨rfl, Or.inl ⟨rfl, rfl⟩⟩
  · rw [hnil _ (by omega)]; exact ⟨rfl, Or.inl ⟨rfl, rfl⟩⟩
  · rw [hnil _ (by omega)] at e; cases e
  · rw [hnil _ (by omega)] at e; cases e
  · by_cases e2 : g = b
    · subst e2; exact ⟨Nat.le_refl _, (Array.getElem?_eq_some_iff.1 h).1⟩
    · rw [setW_ne _ _ e2] at e; exact absurd rfl e

end Go.Proofs.YtklenjmfalljgaaDoor

/- The laws' counter: the document's program P, made. -/
namespace Go.Proofs.YtklenjmfalljgaaDoor
open Go.RowKit
attribute [local go_sem] Go.World.cell?_alloc_some

def ctrC : List Ins := [⟨2, 0, 0, 0⟩, ⟨1, 1, 0, 1⟩, ⟨4, 0, 1, 0⟩, ⟨3, 0, 0, 0⟩]
def ctrP : List (List Ins) := [ctrC, ctrC]
def ctrV : Array Value := #[.int .i64 2, .int .i64 0, .int .i64 0, .int .i64 0, .int .i64 1, .int .i64 1, .int .i64 0, .int .i64 1, .int .i64 4, .int .i64 0, .int .i64 1, .int .i64 0, .int .i64 3, .int .i64 0, .int .i64 0, .int .i64 0]

theorem ctr_code {w : World} {g : Nat} {ty : TypeId} (h : w.heap[g]? = some (.cells ctrV ty (0, 0))) : CodeAt w (.slice (some ⟨g, 0, none⟩) 4 4) ctrC := by
  refine ⟨some ⟨g, 0, none⟩, 4, rfl, fun k hk => ⟨g, 0, rfl, ?_⟩⟩
  have hk4 : k = 0 ∨ k = 1 ∨ k = 2 ∨ k = 3 := by simp [ctrC] at hk; omega
  simp only [World.cell?, h]
  rcases hk4 with rfl | rfl | rfl | rfl <;> exact ⟨rfl, rfl, rfl, rfl⟩

theorem ctr_prog {w : World} {g g2 : Nat} {ty ty2 : TypeId} (h : w.heap[g]? = some (.cells ctrV ty (0, 0))) (h2 : w.heap[g2]? = some (.cells #[.slice (some ⟨g, 0, none⟩) 4 4, .slice (some ⟨g, 0, none⟩) 4 4] ty2 (0, 0))) :
    ProgAt w (.agg #[.slice (some ⟨g2, 0, none⟩) 2 2]) ctrP := by
  refine ⟨some ⟨g2, 0, none⟩, 2, rfl, fun t ht => ⟨g2, 0, rfl, .slice (some ⟨g, 0, none⟩) 4 4, ?_, ?_⟩⟩
  · have ht2 : t = 0 ∨ t = 1 := by simp [ctrP] at ht; omega
    simp only [World.cell?, h2]
    rcases ht2 with rfl | rfl <;> rfl
  · have ht2 : t = 0 ∨ t = 1 := by simp [ctrP] at ht; omega
    rcases ht2 with rfl | rfl <;> exact ctr_code h

set_option maxHeartbeats 1000000 in
theorem counter_m (w : World) : Calls Tryd.prog 17 #[] w fun e w' => ∃ pv, e = .returned pv ∧ ProgAt w' pv ctrP ∧ w.grownBy w' none := by
  go_enter Tryd.func17, Tryd.ntmps17
  go_wp2_with fail
  refine bodyPost_ret (v := .agg #[.slice (some ⟨w.heap.size + 1 + 1, 0, none⟩) 2 2]) ?_ rfl ⟨_, rfl, ctr_prog (g := w.heap.size + 1) (ty := 28) (ty2 := 29) ?_ ?_, grown_alloc (grown_alloc (grown_alloc (grown_refl _ _)))⟩
  · simp [results, Tryd.results17, go_sem]
  · rw [Below.heap_alloc _ _ _ (by simp)]
    have := heap_alloc_new (w.alloc (.cells #[.slice (some ⟨w.heap.size + 1 + 1, 0, none⟩) 2 2] 25)) (.cells ctrV 28)
    simp only [World.size_alloc] at this
    exact this
  · have := heap_alloc_new ((w.alloc (.cells #[.slice (some ⟨w.heap.size + 1 + 1, 0, none⟩) 2 2] 25)).alloc (.cells ctrV 28)) (.cells #[.slice (some ⟨w.heap.size + 1, 0, none⟩) 4 4, .slice (some ⟨w.heap.size + 1, 0, none⟩) 4 4] 29)
    simp only [World.size_alloc] at this
    exact this

end Go.Proofs.YtklenjmfalljgaaDoor

/- The walk of Writes. -/
namespace Go.Proofs.YtklenjmfalljgaaDoor
open Go.RowKit
attribute [local go_sem] Go.World.cell?_alloc_some

def exA : Art := ⟨ctrP, [0, 0, 7], (2, 0, 2)⟩
theorem exA_ok : artE exA = 0 := by decide +kernel
theorem exA_int : ∀ c ∈ exA.prog, ∀ i ∈ c, nInt i := by
  intro c hc i hi
  have hc' : c = ctrC := by simpa [exA, ctrP] using hc
  subst hc'
  simp only [ctrC, List.mem_cons, List.not_mem_nil, or_false] at hi
  unfold nInt
  rcases hi with rfl | rfl | rfl | rfl <;> decide
theorem nInt_small {a : Art} (h : artE a = 0) (hi : ∀ c ∈ a.prog, ∀ i ∈ c, nInt i) : ∀ c ∈ a.prog, ∀ i ∈ c, insInt i := by
  intro c hc i hi'
  have hp := (artE_zero h).1
  simp only [vProg, Bool.and_eq_true, List.all_eq_true] at hp
  have h2 := hp.2.2 c hc
  simp only [vCode, Bool.and_eq_true, List.all_eq_true, decide_eq_true_eq] at h2
  obtain ⟨g1, g2, g3⟩ := vIns_small (h2.2 i hi')
  exact small_int ⟨g1, g2, g3, hi c hc i hi'⟩
/-- What Encode answers of any artifact: a short string. -/
theorem refAns_short (a : Art) (hi : ∀ c ∈ a.prog, ∀ i ∈ c, nInt i) : ∃ S E, refAns a = .tuple #[.string S, .int .i64 E] ∧ S.size ≤ 20000 := by
  unfold refAns
  by_cases h : artE a = 0
  · rw [if_pos h]
    refine ⟨_, _, rfl, ?_⟩
    have := (encB_len a h (nInt_small h hi)).2
    rw [bs_size]; exact this
  · rw [if_neg h]; exact ⟨_, _, rfl, Nat.zero_le _⟩
theorem exA_ans : refAns exA = .tuple #[.string (bs (encB exA)), .int .i64 0] := by unfold refAns; rw [if_pos exA_ok]
theorem exA_dec : decOut (bs (encB exA)) = (exA, 0) := decOut_some (by rw [byt_bs (encB_lt _)]; exact dec_enc exA exA_ok (nInt_small exA_ok exA_int))
theorem ints_lit3 {w : World} {g : Nat} {ty : TypeId} (h : w.heap[g]? = some (.cells #[.int .i64 0, .int .i64 0, .int .i64 7] ty (0, 0))) : IntsAt w.heap.size w (.slice (some ⟨g, 0, none⟩) 3 3) [0, 0, 7] := by
  refine ⟨some ⟨g, 0, none⟩, 3, rfl, Nat.le_refl _, fun k hk => ⟨g, 0, rfl, (Array.getElem?_eq_some_iff.1 h).1, ?_⟩⟩
  simp only [World.cell?, h]
  have hk' : k < 3 := hk
  rcases (by omega : k = 0 ∨ k = 1 ∨ k = 2) with rfl | rfl | rfl <;> rfl

set_option maxHeartbeats 4000000 in
set_option maxRecDepth 100000 in
theorem writes_m (W : World) (tv sv : Value) (p : List (List Ins)) (s : List Int) (k0 k1 k2 : Int) (x : ByteArray) (hS : ShpAt W) (hP : ProgAt W (.agg #[tv]) p) (hI : IntsAt W.heap.size W sv s) (hpl : p.length ≤ 5864062014634) (hpc : ∀ c ∈ p, c.length ≤ 4398046510976) (hsl : s.length ≤ 17592186043904) (hni : ∀ c ∈ p, ∀ i ∈ c, nInt i) (hx : x.size ≤ 9223372036854775000) :
    Calls Tryd.prog 6 #[.agg #[tv, sv, .int .i64 k0, .int .i64 k1, .int .i64 k2], .string x] W fun e w' => e = .returned (.bool true) ∧ W.grownBy w' none := by
  obtain ⟨ao, cap, htv⟩ := hP.form
  simp only [Value.agg.injEq, Array.mk.injEq, List.cons.injEq, and_true] at htv
  subst htv
  obtain ⟨so, sc, rfl⟩ := hI.form
  have HS := hide hS
  have HP := hide hP
  have HI := hide hI
  have HPC := hide hpc
  have HNI := hide hni
  have hpt : ∀ q, pt q = .pointer (some ⟨q, 0, none⟩) := fun _ => rfl
  clear hS hP hI hpc hni
  go_enter Tryd.func6, Tryd.ntmps6
  go_upto_region 1 with fail
  obtain ⟨w0, hw0⟩ : ∃ w0, w0 = W.alloc (.cells #[.slice ao p.length cap, .slice so s.length sc, .int .i64 k0, .int .i64 k1, .int .i64 k2] 51) := ⟨_, rfl⟩
  have HB0 : Hid (w0.heap[W.heap.size]? = some (.cells #[.slice ao p.length cap, .slice so s.length sc, .int .i64 k0, .int .i64 k1, .int .i64 k2] 51 (0, 0))) := by unfold Hid; rw [hw0]; exact heap_alloc_new W _
  have HG0 : Hid (W.grownBy w0 none) := by unfold Hid; rw [hw0]; exact grown_alloc (grown_refl _ _)
  rw [← hw0]
  clear hw0
  have HST : Hid (∀ u : World, w0.grownBy u none → u.cell? ⟨W.heap.size, 0, none⟩ = some (.slice ao p.length cap) ∧ u.cell? ⟨W.heap.size, 1, none⟩ = some (.slice so s.length sc) ∧ u.cell? ⟨W.heap.size, 2, none⟩ = some (.int .i64 k0) ∧ u.cell? ⟨W.heap.size, 3, none⟩ = some (.int .i64 k1) ∧ u.cell? ⟨W.heap.size, 4, none⟩ = some (.int .i64 k2)) := fun u hu =>
    five_cells (by rw [hu.block _ (Array.getElem?_eq_some_iff.1 HB0.out).1 (by simp)]; exact HB0.out)
  have HCT := hide (fun u => counter_m u)
  go_wp2_with fail
  refine (HCT.out _).mono ?_
  clear HCT
  rintro e w1 ⟨cv, rfl, hcp, hg1⟩
  have HCP := hide hcp
  have HG1 := hide hg1
  obtain ⟨ca, cc, hcv⟩ := hcp.form
  subst hcv
  clear hcp hg1
  go_upto_region 2 with fail
  obtain ⟨w2, hw2⟩ : ∃ w2, w2 = (w1.alloc (.cells #[.int .i64 0, .int .i64 0, .int .i64 7] 3)).alloc (.cells #[.slice ca ctrP.length cc, .slice (some ⟨w1.heap.size, 0, none⟩) 3 3, .int .i64 2, .int .i64 0, .int .i64 2] 51) := ⟨_, rfl⟩
  rw [← hw2]
  have HG12 : Hid (w1.grownBy w2 none) := by unfold Hid; rw [hw2]; exact grown_alloc (grown_alloc (grown_refl _ _))
  have HL2 : Hid (IntsAt w2.heap.size w2 (.slice (some ⟨w1.heap.size, 0, none⟩) 3 3) [0, 0, 7]) := by
    unfold Hid; rw [hw2]
    exact ints_lit3 (by rw [Below.heap_alloc _ _ _ (by simp)]; exact heap_alloc_new w1 _)
  have hb2 : w2.heap[w1.heap.size + 1]? = some (.cells #[.slice ca ctrP.length cc, .slice (some ⟨w1.heap.size, 0, none⟩) 3 3, .int .i64 2, .int .i64 0, .int .i64 2] 51 (0, 0)) := by
    rw [hw2]
    have := heap_alloc_new (w1.alloc (.cells #[.int .i64 0, .int .i64 0, .int .i64 7] 3)) (.cells #[.slice ca ctrP.length cc, .slice (some ⟨w1.heap.size, 0, none⟩) 3 3, .int .i64 2, .int .i64 0, .int .i64 2] 51)
    simpa using this
  clear hw2
  obtain ⟨d0, d1, d2, d3, d4⟩ := five_cells hb2
  clear hb2
  have HW2 : Hid (W.grownBy w2 none) := grown_trans HG0.out (grown_trans HG1.out HG12.out)
  have HEN := hide (encode_all ctrP [0, 0, 7] 2 0 2 (.slice ca ctrP.length cc) _ w2 (HS.out.pres (pres_grown HW2.out)) (HCP.out.pres (pres_grown HG12.out)) HL2.out exA_int)
  rw [show refAns ⟨ctrP, [0, 0, 7], (2, 0, 2)⟩ = .tuple #[.string (bs (encB exA)), .int .i64 0] from exA_ans] at HEN
  have HXS : Hid ((bs (encB exA)).size ≤ 20000) := by unfold Hid; rw [bs_size]; exact (encB_len exA exA_ok (nInt_small exA_ok exA_int)).2
  have HXD := hide exA_dec
  generalize bs (encB exA) = xs at *
  go_wp2_with fail
  refine HEN.out.mono ?_
  clear HEN d0 d1 d2 d3 d4 HL2 HCP
  rintro e w3 ⟨rfl, hg3⟩
  have HW3 : Hid (W.grownBy w3 none) := grown_trans HW2.out hg3
  have HG03 : Hid (w0.grownBy w3 none) := grown_trans (grown_trans HG1.out HG12.out) hg3
  clear hg3 HW2 HG12 HG1
  have HDM := hide (decode_m xs w3 (HS.out.pres (pres_grown HW3.out)) (by have := HXS.out; omega))
  go_wp2_with fail
  refine HDM.out.mono ?_
  clear HDM
  intro e w4 hD
  obtain ⟨hg4, tv, sv, he, ht4, ho4⟩ := hD.form
  clear hD
  rw [HXD.out] at he ht4 ho4
  simp only [exA] at he ht4 ho4
  obtain ⟨y1, y2, y3, rfl⟩ := owns_form ht4.choose_spec.1
  obtain ⟨z1, z2, z3, rfl⟩ := owns_form ho4
  have hz2 := owns_lenq ho4
  subst hz2
  subst he
  obtain ⟨vg, hvg⟩ : ∃ vg, z1 = some ⟨vg, 0, none⟩ := by
    rcases ho4.2 with ⟨_, e⟩ | ⟨g, cap, cur, hv, _⟩
    · simp at e
    · simp only [Value.slice.injEq] at hv
      exact ⟨g, hv.1⟩
  subst hvg
  have HG04 : Hid (w0.grownBy w4 none) := grown_trans HG03.out hg4
  have k2 : w4.cell? ⟨vg, 2, none⟩ = some (.int .i64 7) := by rw [ho4.cellAt _ (by simp)]; rfl
  have HK2 := hide k2
  clear hg4 ht4 ho4 k2
  go_upto_region 4 with fail
  obtain ⟨w5, hw5⟩ : ∃ w5, w5 = w4.alloc (.cells #[.slice y1 y2 y3, .slice (some ⟨vg, 0, none⟩) 3 z3, .int .i64 2, .int .i64 0, .int .i64 2] 51) := ⟨_, rfl⟩
  have hg45 : w4.grownBy w5 none := by rw [hw5]; exact grown_alloc (grown_refl _ _)
  have c1 : w5.cell? ⟨w4.heap.size, 1, none⟩ = some (.slice (some ⟨vg, 0, none⟩) 3 z3) := by
    have hb : w5.heap[w4.heap.size]? = some (.cells #[.slice y1 y2 y3, .slice (some ⟨vg, 0, none⟩) 3 z3, .int .i64 2, .int .i64 0, .int .i64 2] 51 (0, 0)) := by rw [hw5]; exact heap_alloc_new w4 _
    simp [World.cell?, hb]
  rw [← hw5]
  clear hw5
  have k2 := pres_grown hg45 _ _ HK2.out
  have HG05 : Hid (w0.grownBy w5 none) := grown_trans HG04.out hg45
  have HW5 : Hid (W.grownBy w5 none) := grown_trans HG0.out HG05.out
  clear hg45 HG04 HG03 HW3 HK2
  go_upto_region 7 with fail
  clear c1 k2
  obtain ⟨w6, hw6⟩ : ∃ w6, w6 = w5.alloc (.cells (hcl f00) 62) := ⟨_, rfl⟩
  have hw6' : w5.alloc (.cells #[.slice none 0 0, .slice none 0 0, .slice none 0 0, .slice none 0 0, .slice none 0 0, .int .i64 0, .slice none 0 0, .slice none 0 0, .slice none 0 0, .slice none 0 0, .slice none 0 0, .slice none 0 0, .slice none 0 0, .slice none 0 0, .slice none 0 0, .slice none 0 0] 62) = w6 := by rw [hw6]; rfl
  rw [hw6']
  have HG56 : Hid (w5.grownBy w6 none) := by unfold Hid; rw [hw6]; exact grown_alloc (grown_refl _ _)
  have hz6 : Hz w5.heap.size w6 w5.heap.size (setW (fun _ => .other) w5.heap.size .hands) 0 f00 (fun _ => []) := Hz.start (by rw [hw6]; exact heap_alloc_new w5 _)
  have HS5 := hide (HS.out.pres (pres_grown HW5.out))
  have HP5 : Hid (ProgAt w5 (.agg #[.slice ao p.length cap]) p) := HP.out.pres (pres_grown HW5.out)
  have HI5 : Hid (IntsAt w5.heap.size w5 (.slice so s.length sc) s) := (HI.out.pres (pres_grown HW5.out)).mono HW5.out.size
  obtain ⟨SS, EE, hSE, hSZ⟩ := refAns_short ⟨p, s, (k0, k1, k2)⟩ HNI.out
  have HSE := hide hSE
  have hSZ' : SS.size ≤ 9223372036854775000 := by omega
  have HE1 := hide (encoded_g w5 w5.heap.size w6 w5.heap.size _ 0 f00 _ (.slice ao p.length cap) (.slice so s.length sc) p s k0 k1 k2 hz6 HG56.out (Nat.le_refl _) HS5.out HP5.out HI5.out hpl HPC.out hsl HNI.out)
  rw [hpt] at HE1
  obtain ⟨a0, a1, a2, a3, a4⟩ := HST.out w6 (grown_trans HG05.out HG56.out)
  clear hw6 hw6' hz6 hSE hSZ
  go_wp2_with fail
  refine HE1.out.mono ?_
  clear HE1 a0 a1 a2 a3 a4
  rintro e w7 ⟨rfl, who7, f7, K7, hz7, hg7, hk7⟩
  have HZ7 := hide hz7
  have HG57 := hide hg7
  have HK7 : Hid (∀ c, c < 5 → (K7 c).length ≤ 4) := fun c hc => by have := hk7 c hc; simpa using this
  have HRE := hide (refencode_m p s k0 k1 k2 (.slice ao p.length cap) (.slice so s.length sc) w7 (HP5.out.pres (pres_grown hg7)) ((HI5.out.pres (pres_grown hg7)).mono hg7.size) hpl HPC.out HNI.out)
  rw [HSE.out] at HRE
  obtain ⟨a0, a1, a2, a3, a4⟩ := HST.out w7 (grown_trans HG05.out hg7)
  clear hz7 hg7 hk7
  go_wp2_with fail
  refine HRE.out.mono ?_
  clear HRE a0 a1 a2 a3 a4
  rintro e w8 ⟨hg8, rfl⟩
  have HD1 := hide (decoded_g w5 w5.heap.size w8 w5.heap.size who7 0 f7 K7 SS ⟨HZ7.out.1.grown hg8, HZ7.out.2⟩ (grown_trans HG57.out hg8) (Nat.le_refl _) HS5.out hSZ' (by omega) (by omega) (fun c hc => by have := HK7.out c hc; omega))
  rw [hpt] at HD1
  clear hg8 HZ7
  go_wp2_with fail
  refine HD1.out.mono ?_
  clear HD1
  rintro e w9 ⟨rfl, n9, who9, f9, K9, hn9, hn9', hz9, hg9, hk9⟩
  have HK9 : Hid (∀ c, c < 5 → (K9 c).length ≤ 20) := fun c hc => by have := hk9 c hc; have := HK7.out c hc; omega
  have HD2 := hide (decoded_g w5 w5.heap.size w9 w5.heap.size who9 n9 f9 K9 x hz9 hg9 (Nat.le_refl _) HS5.out hx (by omega) (by omega) (fun c hc => by have := HK9.out c hc; omega))
  rw [hpt] at HD2
  clear hz9 hg9 hk9
  go_wp2_with fail
  refine HD2.out.mono ?_
  clear HD2
  rintro e w10 ⟨rfl, n10, who10, f10, K10, hn10, hn10', hz10, hg10, hk10⟩
  have HK10 : Hid (∀ c, c < 5 → (K10 c).length ≤ 36) := fun c hc => by have := hk10 c hc; have := HK9.out c hc; omega
  have HD3 := hide (decoded_g w5 w5.heap.size w10 w5.heap.size who10 n10 f10 K10 SS hz10 hg10 (Nat.le_refl _) HS5.out hSZ' (by omega) (by omega) (fun c hc => by have := HK10.out c hc; omega))
  rw [hpt] at HD3
  clear hz10 hg10 hk10
  go_wp2_with fail
  refine HD3.out.mono ?_
  clear HD3
  rintro e w11 ⟨rfl, n11, who11, f11, K11, _, _, hz11, hg11, hk11⟩
  have HG11 : Hid (W.grownBy w11 none) := grown_trans HW5.out hg11
  clear hz11 hg11 hk11
  go_wp2_with fail
  go_ret
  exact ⟨by simp, HG11.out⟩

end Go.Proofs.YtklenjmfalljgaaDoor

/- Lists that are nil have no room. -/
namespace Go.Proofs.YtklenjmfalljgaaDoor

/-- A nil list has no room. -/
def nilA (x : Value) : Prop := ∀ n c, x = .slice none n c → n = 0 ∧ c = 0
/-- A nil list of a program has no room. -/
def ProgNil (W : World) (pv : Value) : Prop := ∀ g o n cap t rv, pv = .agg #[.slice (some ⟨g, o, none⟩) n cap] → t < n → W.cell? ⟨g, o + t, none⟩ = some rv → nilA rv

end Go.Proofs.YtklenjmfalljgaaDoor

/- From the rows' readings to the walks' facts. -/
namespace Go.Proofs.YtklenjmfalljgaaDoor
open Go.ChangeShapes Go.WideShapes Go.ChangeAt Go.RowKit

theorem own : ownKnob Tryd.prog.godebug = none := by kernel_rfl
theorem laidOut : laidOutB Tryd.prog = true := by kernel_rfl
theorem gShp : Tryd.prog.globalNamed "rerun/machine.shapes" = some 0 := by kernel_rfl
theorem tShp : (Tryd.prog.globals[0]?).map (·.type) = some 263 := by kernel_rfl
theorem cInt : Tryd.prog.cellsOf 3 = 1 := by kernel_rfl
theorem cInts : Tryd.prog.cellsOf 22 = 1 := by kernel_rfl
theorem cShape : Tryd.prog.cellsOf 262 = 3 := by kernel_rfl
theorem cKind : Tryd.prog.cellsOf 260 = 1 := by kernel_rfl

theorem grown_below {w w' : World} (h : w.grownBy w' none) : Below w.heap.size w w' := ⟨h.os, h.tape, h.output, h.size, fun k hk => h.block k hk (by simp)⟩

theorem lt_cell {w : World} {a : Addr} {v : Value} (h : w.cell? a = some v) : a.block < w.heap.size := by
  unfold World.cell? at h
  split at h
  · rename_i hh; exact (Array.getElem?_eq_some_iff.1 hh).1
  · cases h

theorem addr_form {w : World} {a : Addr} {j : Nat} {v : Value} (h0 : a.spot = none) (h : w.cell? (a.add j) = some v) : w.cell? ⟨a.block, a.off + j, none⟩ = some v := by
  have e : a.add j = ⟨a.block, a.off + j, none⟩ := by
    obtain ⟨b, o, s⟩ := a
    simp only at h0
    subst h0
    unfold Addr.add; split <;> simp_all
  rw [e] at h; exact h

section
variable {H : Type} {enc : TypeId × Value → H} {W : World}

end

theorem shp_tab (o j : Nat) (ho : o < 12) (hj : j < 3) (l : List (DataW Unit)) (h : (DataW.agg l : DataW Unit) = (match (Rows.laid_rerun_machine_shapes : DataW Unit) with | .agg l => l[o]?.getD .nil | _ => .nil)) : l[j]? = some (.lit (.int .i64 (shp o j))) := by
  have ho' : o = 0 ∨ o = 1 ∨ o = 2 ∨ o = 3 ∨ o = 4 ∨ o = 5 ∨ o = 6 ∨ o = 7 ∨ o = 8 ∨ o = 9 ∨ o = 10 ∨ o = 11 := by omega
  have hj' : j = 0 ∨ j = 1 ∨ j = 2 := by omega
  rcases ho' with rfl | rfl | rfl | rfl | rfl | rfl | rfl | rfl | rfl | rfl | rfl | rfl <;> (simp [Rows.laid_rerun_machine_shapes] at h; subst h; rcases hj' with rfl | rfl | rfl <;> rfl)

theorem shp_one {W : World} {g0 : Nat} {t0 : TypeId} {cs0 : Array Value} {f0 : Nat} {p0 : List MemPlace} (hg0 : Tryd.prog.globalNamed "rerun/machine.shapes" = some g0) (ht0 : (Tryd.prog.globals[g0]?).map (·.type) = some t0) (hv0 : W.var? Tryd.prog "rerun/machine.shapes" = some cs0)
    (hd0 : DataW.trod (fun _ => ()) Tryd.prog W 0 (fun _ => true) false f0 t0 cs0.toList = some (Rows.laid_rerun_machine_shapes, p0)) : ShpAt W := by
  obtain rfl := Option.some.inj (gShp.symm.trans hg0)
  obtain rfl := Option.some.inj (tShp.symm.trans ht0)
  obtain ⟨xs, m1, rfl, hx1, hlen, hn12, hel⟩ := DataW.trod_array Tryd.underlying263 hd0
  simp only [Prod.mk.injEq] at hx1
  intro o j ho hj
  have hox : o < xs.length := by omega
  have h1 := hel o ho
  rw [cShape, List.getElem?_eq_getElem hox] at h1
  obtain ⟨ys, m2, rfl, hy1, hylen, hn3, hfe⟩ := DataW.trod_struct Tryd.underlying262 h1
  have hdo : (DataW.agg (ys.map (·.1)) : DataW Unit) = xs[o].1 := by rw [hy1]
  have hxo : (xs.map (·.1))[o]? = some xs[o].1 := by simp [hox]
  have hdat : (DataW.agg (ys.map (·.1)) : DataW Unit) = (match (Rows.laid_rerun_machine_shapes : DataW Unit) with | .agg l => l[o]?.getD .nil | _ => .nil) := by
    rw [hdo, hx1.1]; simp [hox]
  have hyj := shp_tab o j ho hj _ hdat
  have hjl : j < ys.length := by rw [hn3]; simpa using hj
  have hf : DataW.trod (fun _ => ()) Tryd.prog W 0 (fun _ => true) false m2 260 ((((cs0.toList.drop (o * 3)).take 3).drop j).take 1) = some ys[j] := by
    have hj' : j = 0 ∨ j = 1 ∨ j = 2 := by omega
    rcases hj' with rfl | rfl | rfl
    · have := hfe 0 _ rfl; rw [List.getElem?_eq_getElem hjl] at this; simpa [cKind] using this
    · have := hfe 1 _ rfl; rw [List.getElem?_eq_getElem hjl] at this; simpa [cKind] using this
    · have := hfe 2 _ rfl; rw [List.getElem?_eq_getElem hjl] at this; simpa [cKind] using this
  obtain ⟨k, e1, e2, _⟩ := DataW.trod_int Tryd.underlying260 hf
  have hk : k = shp o j := by
    rw [List.getElem?_map, List.getElem?_eq_getElem hjl, e2] at hyj
    simpa using hyj
  have hcell := World.var?_cell hg0 hv0 (o * 3 + j)
  have hc : cs0[o * 3 + j]? = some (.int .i64 k) := by
    have h0 := congrArg (fun l => l[0]?) e1
    simp [hj] at h0
    exact h0
  rw [hk] at hc
  rw [hcell]; exact hc

theorem shp_of_laid {W : World} (h : laidMetH Tryd.prog [("rerun/machine.shapes", Rows.laid_rerun_machine_shapes)] W) : ShpAt W := by
  rw [MakeChecks.laidMetH_plain _ _ _ (by kernel_rfl)] at h
  obtain ⟨ps, ⟨g0, t0, cs0, f0, p0, q0, hg0, ht0, hv0, hd0, _, _⟩, _, _⟩ := h
  exact shp_one hg0 ht0 hv0 hd0

end Go.Proofs.YtklenjmfalljgaaDoor
