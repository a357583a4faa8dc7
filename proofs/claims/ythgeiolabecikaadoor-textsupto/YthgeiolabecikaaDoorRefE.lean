/- The walk of the reference's Parse. -/
import Derived.Test.YthgeiolabecikaaDoorRefD
namespace Go.Proofs.YthgeiolabecikaaDoor
open Go.RowKit
attribute [local go_sem] Go.World.cell?_alloc_some

def parV (p : ParP) (v : Value) : Value := .tuple #[v, .int .i64 p.at_, .int .i64 (parE p.ok)]

theorem search_step (l : List Nat) (k : Nat) : searchR l (k + 1) = if viable (-1) (l.take (k + 1)) = true then k + 1 else searchR l k := rfl

set_option maxRecDepth 100000 in
set_option maxHeartbeats 400000 in
theorem refparse_m (s : ByteArray) (w : World) (hs : s.size ≤ 1048576) :
    Calls Tryd.prog 58 #[.string s] w fun e w' => ∃ x y z, e = .returned (parV (parseR (byt s)) (.slice x y z)) ∧ w'.ownsRow w.heap.size 3 1 (.slice x y z) (parseR (byt s)).out.length (ints (parseR (byt s)).out) ∧ w.grownBy w' none := by
  have hnil : ∀ w4 : World, w4.ownsRow w.heap.size 3 1 (.slice none 0 0) ([] : List Int).length (ints []) := fun w4 => ⟨rfl, Or.inl ⟨rfl, rfl⟩⟩
  have HNIL := hide hnil
  clear hnil
  by_cases h0 : s.toList = []
  · have HE : Hid (parseR (byt s) = ⟨[], 0, true⟩) := by unfold Hid; rw [(byt_nil s).2 h0]; rfl
    go_enter Tryd.func58, Tryd.ntmps58
    go_wp2_with fail
    refine bodyPost_ret (v := .tuple #[.slice none 0 0, .int .i64 0, .int .i64 0]) (by simp [results, Tryd.results58, go_sem]) rfl ?_
    exact ⟨none, 0, 0, by rw [HE.out]; rfl, by rw [HE.out]; exact HNIL.out _, grown_refl _ _⟩
  · have hie : s.toList.isEmpty = false := by simpa using h0
    have HR : Hid (parseR (byt s) = match wholeR (partsR (byt s)) (-1) [] with
        | some (o, _) => if 500 < o.length then ⟨[], 0, false⟩ else ⟨o, 0, true⟩
        | none => ⟨[], searchR (byt s) (byt s).length, false⟩) := by
      unfold Hid
      conv => lhs; unfold parseR
      rw [if_neg (fun e => h0 ((byt_nil s).1 e))]
      cases wholeR (partsR (byt s)) (-1) [] <;> rfl
    clear h0
    have HPW : Hid (∀ (u : ByteArray), u.size ≤ 1048576 → ∀ w2 : World, w.grownBy w2 none → Calls Tryd.prog 87 #[.string u] w2 fun e w' => ∃ (L : List ByteArray) (x : Option Addr) (z : Nat), e = .returned (.slice x L.length z) ∧ L.map byt = partsR (byt u) ∧ (∀ y ∈ L, y.size ≤ 1048576) ∧ StrsAt w' (.slice x L.length z) L ∧ w.grownBy w' none ∧ L.length ≤ z ∧ L.length ≤ 9223372036854775806) := by
      intro u hu w2 hg2
      refine (parts_m u w2 hu).mono ?_
      rintro e w3 ⟨L, x, z, rfl, h1, h2, h3, h4⟩
      have hz : L.length ≤ z ∧ z ≤ maxLen := by
        rcases h3.2 with ⟨e1, e2⟩ | ⟨_, _, _, e1, _, _, e2, e3, _⟩
        · simp only [Value.slice.injEq] at e1; exact ⟨by omega, by unfold maxLen; omega⟩
        · simp only [Value.slice.injEq, true_and] at e1; exact ⟨by omega, by omega⟩
      have hL : L.length ≤ u.size + 1 := by
        have e1 := congrArg List.length h1
        rw [List.length_map] at e1
        have : ∀ l : List Nat, (partsR l).length ≤ l.length + 1 := by
          intro l
          induction l with
          | nil => simp [partsR]
          | cons b r ih =>
            unfold partsR
            split
            · simp; omega
            · simp
              omega
        have := this (byt u)
        rw [byt_len] at this; omega
      exact ⟨L, x, z, rfl, h1, fun y hy => by have := h2 y hy; omega, owns_strs h3, grown_trans hg2 h4, hz.1, by omega⟩
    go_enter Tryd.func58, Tryd.ntmps58
    go_wp2_with fail
    refine (HPW.out s hs w (grown_refl _ _)).mono ?_
    rintro e w1 ⟨L, x, z, rfl, h1, h2, h3, h4, h5, h6⟩
    have HG1 := hide h4
    have HWH := hide (whole_m L (.slice x L.length z) w1 h3 (fun y hy => by have := h2 y hy; omega) h6)
    rw [h1] at HWH
    clear h1 h2 h3 h4 h5 h6
    go_wp2_with fail
    refine HWH.out.mono ?_
    clear HWH
    rintro e w2 ⟨y1, y2, y3, rfl, ho2, hg2, hl2⟩
    have HG2 : Hid (w.grownBy w2 none) := grown_trans HG1.out hg2
    have HO2 : Hid (w2.ownsRow w.heap.size 3 1 (.slice y1 y2 y3) (outOf (wholeR (partsR (byt s)) (-1) [])).length (ints (outOf (wholeR (partsR (byt s)) (-1) [])))) := owns_mono ho2 HG1.out.size
    have hy2 := owns_lenq ho2
    clear ho2 hg2
    generalize wholeR (partsR (byt s)) (-1) [] = W at *
    cases W with
    | some oa =>
      obtain ⟨o, a⟩ := oa
      simp only [wholeV, outOf] at *
      subst hy2
      by_cases h5 : 500 < o.length
      · have HE : Hid (parseR (byt s) = ⟨[], 0, false⟩) := by unfold Hid; rw [HR.out, if_pos h5]
        have h5' : 500 < (o.length : Int) := by omega
        go_wp2_with fail
        refine bodyPost_ret (v := .tuple #[.slice none 0 0, .int .i64 0, .int .i64 4]) (by simp [results, Tryd.results58, go_sem]) rfl ?_
        exact ⟨none, 0, 0, by rw [HE.out]; rfl, by rw [HE.out]; exact HNIL.out _, HG2.out⟩
      · have HE : Hid (parseR (byt s) = ⟨o, 0, true⟩) := by unfold Hid; rw [HR.out, if_neg h5]
        have h5' : ¬ 500 < (o.length : Int) := by omega
        go_wp2_with fail
        refine bodyPost_ret (v := .tuple #[.slice y1 o.length y3, .int .i64 0, .int .i64 0]) (by simp [results, Tryd.results58, go_sem]) rfl ?_
        exact ⟨y1, o.length, y3, by rw [HE.out]; rfl, by rw [HE.out]; exact HO2.out, HG2.out⟩
    | none =>
      simp only [wholeV, outOf] at *
      have HE : Hid (parseR (byt s) = ⟨[], searchR (byt s) s.size, false⟩) := by unfold Hid; rw [HR.out, byt_len]
      clear HR HO2
      go_wp2_with fail
      go_loopw [8] (fun kv w' => ∃ k : Nat, k ≤ s.size ∧ kv = .int .i64 k ∧ Hid (searchR (byt s) k = searchR (byt s) s.size) ∧ Hid (w.grownBy w' none)) (fun kv _ => (intOf kv).toNat)
      case atStart => exact ⟨s.size, Nat.le_refl _, rfl, hide rfl, HG2⟩
      case round =>
        obtain ⟨k, hk, rfl, HS, HG⟩ := hrel
        obtain ⟨w5, hw5⟩ : ∃ w5, w5 = wr := ⟨_, rfl⟩
        subst hw5
        cases k with
        | zero =>
          have HE2 : Hid (parseR (byt s) = ⟨[], 0, false⟩) := by unfold Hid; rw [HE.out, ← HS.out]; rfl
          go_wp2_with fail
          refine bodyPost_ret (v := .tuple #[.slice none 0 0, .int .i64 0, .int .i64 4]) (by simp [results, Tryd.results58, go_sem]) rfl ?_
          exact ⟨none, 0, 0, by rw [HE2.out]; rfl, by rw [HE2.out]; exact HNIL.out _, HG.out⟩
        | succ k =>
          have hst := search_step (byt s) k
          rw [HS.out] at hst
          have hkk : ((k + 1 : Nat) : Int) = (k : Int) + 1 := by omega
          obtain ⟨m, hm⟩ : ∃ m, m = k + 1 := ⟨_, rfl⟩
          rw [← hm] at hst hk ⊢
          have q0 : (0 : Int) < (m : Int) := by omega
          have q1 : (m : Int) ≤ s.size := by omega
          have hext : (s.extract 0 m).size ≤ 1048576 := by simp; omega
          have hbe : byt (s.extract 0 m) = (byt s).take m := by rw [byt_extract, List.drop_zero]
          have HPU := hide (HPW.out (s.extract 0 m) hext w5 HG.out)
          rw [hbe] at HPU
          have HST := hide hst
          have HKM := hide hm
          clear hst hext hbe HS hkk hm
          go_wp2_with fail
          refine HPU.out.mono ?_
          clear HPU
          rintro e w6 ⟨M, x', z', rfl, m1, m2, m3, m4, m5, m6⟩
          have hMne : 0 < M.length := by
            have := congrArg List.length m1
            rw [List.length_map] at this
            have h2 := List.length_pos_iff.2 (parts_ne ((byt s).take m))
            omega
          obtain ⟨j, hj⟩ : ∃ j, M.length = j + 1 := ⟨M.length - 1, by omega⟩
          have hjlt : j < M.length := by omega
          have m3' := m3
          obtain ⟨ao, cp, e3, hcell⟩ := m3'
          simp only [Value.slice.injEq, true_and] at e3
          obtain ⟨rfl, rfl⟩ := e3
          obtain ⟨g, o, rfl, c0⟩ := hcell j hjlt
          have HIN := hide (m3.init j (by omega))
          have hdl : (M.take j).map byt = (partsR ((byt s).take m)).dropLast := by
            rw [← m1, List.dropLast_eq_take, List.length_map, hj, Nat.add_sub_cancel, List.map_take]
          have hgl : (partsR ((byt s).take m)).getLastD [] = byt M[j] := by
            rw [← m1]
            rw [List.getLastD_eq_getLast?, List.getLast?_eq_getElem?, List.length_map, hj, Nat.add_sub_cancel, List.getElem?_map, List.getElem?_eq_getElem hjlt]; rfl
          have HWH := hide (whole_m (M.take j) (.slice (some ⟨g, o, none⟩) j z') w6 HIN.out (fun y hy => by have := m2 y (List.mem_of_mem_take hy); omega) (by simp; omega))
          rw [hdl] at HWH
          have HV : Hid (viable (-1) ((byt s).take m) = match wholeR (partsR ((byt s).take m)).dropLast (-1) [] with
              | none => false
              | some (_, a) => beginsR (byt M[j]) a) := by
            unfold Hid viable
            rw [hgl]
            cases wholeR (partsR ((byt s).take m)).dropLast (-1) [] <;> rfl
          have HMJ := hide (m2 M[j] (List.getElem_mem hjlt))
          have HG6 := hide m4
          have hjz : (j : Int) ≤ (z' : Int) := by omega
          have hjz2 : (j : Int) + 1 ≤ (z' : Int) := by omega
          generalize M[j] = mj at *
          rw [hj]
          have hj0 : (0 : Int) ≤ (j : Int) := by omega
          have hj1 : (j : Int) < (j : Int) + 1 := by omega
          have hj9 : (j : Int) ≤ 9223372036854775805 := by omega
          clear m1 m2 m3 m4 m5 hcell hdl hgl HIN hMne hjlt m6 hj
          go_wp2_with (go_at_call 86; refine HWH.out.mono ?_)
          clear HWH
          rintro e w7 ⟨a1, a2, a3, rfl, ho7, hg7, hl7⟩
          have HG7 : Hid (w.grownBy w7 none) := grown_trans HG6.out hg7
          have d0 := pres_grown hg7 _ _ c0
          clear ho7 hg7 hl7 c0
          cases hW : wholeR (partsR ((byt s).take m)).dropLast (-1) [] with
          | none =>
            rw [hW] at HV
            simp only [wholeV]
            have HNX : Hid (searchR (byt s) k = searchR (byt s) s.size) := by
              unfold Hid; rw [HST.out, HV.out, if_neg (by simp)]
            go_wp2_with fail
            go_roundw
            case rel => exact ⟨k, by have := HKM.out; omega, by rw [HKM.out]; go_num, HNX, HG7⟩
            case measure => have := HKM.out; simp [intOf]; omega
          | some oa =>
            obtain ⟨o', a⟩ := oa
            rw [hW] at HV
            simp only [wholeV]
            simp only at HV
            have HB := hide (rbegins_m mj a w7 (by have := HMJ.out; omega))
            cases hbg : beginsR (byt mj) a with
            | true =>
              have HE2 : Hid (parseR (byt s) = ⟨[], m, false⟩) := by unfold Hid; rw [HE.out, HST.out, HV.out, hbg, if_pos rfl]
              rw [hbg] at HB
              go_wp2_with (go_at_call 88; refine HB.out.mono ?_; rintro e w8 ⟨hl8, rfl⟩)
              refine bodyPost_ret (v := .tuple #[.slice none 0 0, .int .i64 m, .int .i64 4]) (by simp [results, Tryd.results58, go_sem]) rfl ?_
              exact ⟨none, 0, 0, by rw [HE2.out]; rfl, by rw [HE2.out]; exact HNIL.out _, grown_like HG7.out hl8⟩
            | false =>
              have HNX : Hid (searchR (byt s) k = searchR (byt s) s.size) := by
                unfold Hid; rw [HST.out, HV.out, hbg, if_neg (by simp)]
              rw [hbg] at HB
              go_wp2_with (go_at_call 88; refine HB.out.mono ?_; rintro e w8 ⟨hl8, rfl⟩; have HG8 : Hid (w.grownBy w8 none) := grown_like HG7.out hl8; clear hl8)
              go_roundw
              case rel => exact ⟨k, by have := HKM.out; omega, by rw [HKM.out]; go_num, HNX, HG8⟩
              case measure => have := HKM.out; simp [intOf]; omega

end Go.Proofs.YthgeiolabecikaaDoor
