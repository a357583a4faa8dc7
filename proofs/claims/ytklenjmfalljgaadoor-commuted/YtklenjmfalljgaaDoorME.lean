/- The texts Fhi Svd Fhj Tch Cma Ins Prg Prg2 PureD Eq4. -/
import Derived.Test.YtklenjmfalljgaaDoorMD
import Derived.BigQuiet
import Derived.Deep.QuietTactic
import Derived.ChangeKeysEq

/- The walks of slices.Equal and of rerunkeep's same. -/
namespace Go.Proofs.YtklenjmfalljgaaDoor
open Go.RowKit
attribute [local go_sem] Go.World.cell?_alloc_some

theorem likeR (w : World) : Like w w := ⟨rfl, rfl, rfl, rfl⟩
theorem likeDn {w' w : World} (h : Like w' w) (n : Nat) : Like (w'.drewN n) w := by
  obtain ⟨a, b, c, d⟩ := h; exact ⟨a, b, c, d⟩

set_option maxHeartbeats 1000000 in
theorem eqInts_m (l m : List Int) (v u : Value) (w : World) (hI : IntsAt w.heap.size w v l) (hJ : IntsAt w.heap.size w u m) (hln : l.length ≤ 9223372036854775806) :
    Calls Tryd.prog 70 #[v, u] w fun e w' => e = .returned (.bool (l == m)) ∧ Like w' w := by
  obtain ⟨ao, cap, rfl, hcap, hc⟩ := hI
  obtain ⟨bo, dap, rfl, hdap, hd⟩ := hJ
  by_cases hlen : l.length = m.length
  · have HC := hide hc
    have HD := hide hd
    clear hc hd
    have hl2 : (l.length : Int) = m.length := by omega
    have hl3 : ((l.length : Int) != (m.length : Int)) = false := by simp; omega
    have HLN := hide hlen
    go_enter Tryd.func70, Tryd.ntmps70
    clear hlen hl2
    go_wp2_with fail
    go_loopw [13] (fun i w' => ∃ k : Nat, k ≤ l.length ∧ i = .int .i64 k ∧ Hid (Like w' w) ∧ Hid (l.take k = m.take k)) (fun i _ => l.length - (intOf i).toNat)
    case atStart => exact ⟨0, Nat.zero_le _, rfl, hide (likeR _), by simp [Hid]⟩
    case round =>
      obtain ⟨k, hk, rfl, HK, HA⟩ := hrel
      obtain ⟨w5, hw5⟩ : ∃ w5, w5 = wr := ⟨_, rfl⟩
      subst hw5
      by_cases hlt : k < l.length
      · have hlt2 : k < m.length := by have := HLN.out; omega
        obtain ⟨g, o, rfl, _, c0⟩ := HC.out k hlt
        obtain ⟨g2, o2, rfl, _, c1⟩ := HD.out k hlt2
        have cL : ∀ a, w5.cell? a = w.cell? a := fun a => by simp [World.cell?, HK.out.1]
        have d0 : w5.cell? ⟨g, o + k, none⟩ = some (.int .i64 l[k]) := by rw [cL]; exact c0
        have d1 : w5.cell? ⟨g2, o2 + k, none⟩ = some (.int .i64 m[k]) := by rw [cL]; exact c1
        have hk0 : (0 : Int) ≤ (k : Int) := by omega
        have hk1 : (k : Int) < l.length := by omega
        have hk2 : (k : Int) < m.length := by omega
        have HT1 : Hid (l.take (k + 1) = l.take k ++ [l[k]]) := List.take_succ_eq_append_getElem hlt
        have HT2 : Hid (m.take (k + 1) = m.take k ++ [m[k]]) := List.take_succ_eq_append_getElem hlt2
        clear cL c0 c1
        by_cases heq : l[k] = m[k]
        · have hq : (l[k] != m[k]) = false := by simpa using heq
          have HA1 : Hid (l.take (k + 1) = m.take (k + 1)) := by unfold Hid; rw [HT1.out, HT2.out, HA.out, heq]
          clear heq HT1 HT2
          generalize l[k] = x at *
          generalize m[k] = y at *
          go_wp2_with fail
          go_quiet (fail)
          go_wp2_with fail
          go_roundw
          case rel => exact ⟨k + 1, by omega, by go_num, hide (likeDn HK.out _), HA1⟩
          case measure => simp [intOf]; omega
        · have hq : (l[k] != m[k]) = true := by simpa using heq
          have HE : Hid ((l == m) = false) := by
            unfold Hid
            simp only [beq_eq_false_iff_ne]
            intro e
            apply heq
            simp [e]
          clear heq HT1 HT2
          generalize l[k] = x at *
          generalize m[k] = y at *
          go_wp2_with fail
          go_quiet (fail)
          go_wp2_with fail
          go_ret
          exact ⟨by rw [HE.out]; rfl, likeDn HK.out _⟩
      · have HE : Hid ((l == m) = true) := by
          unfold Hid
          have h1 := HA.out
          rw [List.take_of_length_le (by omega), List.take_of_length_le (by have := HLN.out; omega)] at h1
          simpa using h1
        have q2 : (l.length : Int) ≤ (k : Int) := by omega
        go_wp2_with fail
        go_ret
        exact ⟨by rw [HE.out]; rfl, HK.out⟩
  · have HE : Hid ((l == m) = false) := by
      unfold Hid
      simp only [beq_eq_false_iff_ne]
      intro e; exact hlen (by rw [e])
    have hl3 : ((l.length : Int) != (m.length : Int)) = true := by simp; omega
    clear hc hd
    go_enter Tryd.func70, Tryd.ntmps70
    go_wp2_with fail
    go_ret
    exact ⟨by rw [HE.out]; rfl, likeR _⟩


set_option maxHeartbeats 1000000 in
theorem keepSame_m (l m : List Int) (v u : Value) (w : World) (hI : IntsAt w.heap.size w v l) (hJ : IntsAt w.heap.size w u m) (hln : l.length ≤ 9223372036854775806) :
    Calls Tryd.prog 34 #[v, u] w fun e w' => e = .returned (.bool (l == m)) ∧ Like w' w := by
  obtain ⟨ao, cap, rfl, hcap, hc⟩ := hI
  obtain ⟨bo, dap, rfl, hdap, hd⟩ := hJ
  by_cases hlen : l.length = m.length
  · have HC := hide hc
    have HD := hide hd
    clear hc hd
    have hl2 : (l.length : Int) = m.length := by omega
    have hl3 : ((l.length : Int) != (m.length : Int)) = false := by simp; omega
    have HLN := hide hlen
    go_enter Tryd.func34, Tryd.ntmps34
    clear hlen hl2
    go_wp2_with fail
    go_loopw [5] (fun i w' => ∃ k : Nat, k ≤ l.length ∧ i = .int .i64 k ∧ Hid (Like w' w) ∧ Hid (l.take k = m.take k)) (fun i _ => l.length - (intOf i).toNat)
    case atStart => exact ⟨0, Nat.zero_le _, rfl, hide (likeR _), by simp [Hid]⟩
    case round =>
      obtain ⟨k, hk, rfl, HK, HA⟩ := hrel
      obtain ⟨w5, hw5⟩ : ∃ w5, w5 = wr := ⟨_, rfl⟩
      subst hw5
      by_cases hlt : k < l.length
      · have hlt2 : k < m.length := by have := HLN.out; omega
        obtain ⟨g, o, rfl, _, c0⟩ := HC.out k hlt
        obtain ⟨g2, o2, rfl, _, c1⟩ := HD.out k hlt2
        have cL : ∀ a, w5.cell? a = w.cell? a := fun a => by simp [World.cell?, HK.out.1]
        have d0 : w5.cell? ⟨g, o + k, none⟩ = some (.int .i64 l[k]) := by rw [cL]; exact c0
        have d1 : w5.cell? ⟨g2, o2 + k, none⟩ = some (.int .i64 m[k]) := by rw [cL]; exact c1
        have hk0 : (0 : Int) ≤ (k : Int) := by omega
        have hk1 : (k : Int) < l.length := by omega
        have hk2 : (k : Int) < m.length := by omega
        have HT1 : Hid (l.take (k + 1) = l.take k ++ [l[k]]) := List.take_succ_eq_append_getElem hlt
        have HT2 : Hid (m.take (k + 1) = m.take k ++ [m[k]]) := List.take_succ_eq_append_getElem hlt2
        clear cL c0 c1
        by_cases heq : l[k] = m[k]
        · have hq : (l[k] != m[k]) = false := by simpa using heq
          have HA1 : Hid (l.take (k + 1) = m.take (k + 1)) := by unfold Hid; rw [HT1.out, HT2.out, HA.out, heq]
          clear heq HT1 HT2
          generalize l[k] = x at *
          generalize m[k] = y at *
          go_wp2_with fail
          go_quiet (fail)
          go_wp2_with fail
          go_roundw
          case rel => exact ⟨k + 1, by omega, by go_num, hide (likeDn HK.out _), HA1⟩
          case measure => simp [intOf]; omega
        · have hq : (l[k] != m[k]) = true := by simpa using heq
          have HE : Hid ((l == m) = false) := by
            unfold Hid
            simp only [beq_eq_false_iff_ne]
            intro e
            apply heq
            simp [e]
          clear heq HT1 HT2
          generalize l[k] = x at *
          generalize m[k] = y at *
          go_wp2_with fail
          go_quiet (fail)
          go_wp2_with fail
          go_ret
          exact ⟨by rw [HE.out]; rfl, likeDn HK.out _⟩
      · have HE : Hid ((l == m) = true) := by
          unfold Hid
          have h1 := HA.out
          rw [List.take_of_length_le (by omega), List.take_of_length_le (by have := HLN.out; omega)] at h1
          simpa using h1
        have q2 : (l.length : Int) ≤ (k : Int) := by omega
        go_wp2_with fail
        go_ret
        exact ⟨by rw [HE.out]; rfl, HK.out⟩
  · have HE : Hid ((l == m) = false) := by
      unfold Hid
      simp only [beq_eq_false_iff_ne]
      intro e; exact hlen (by rw [e])
    have hl3 : ((l.length : Int) != (m.length : Int)) = true := by simp; omega
    clear hc hd
    go_enter Tryd.func34, Tryd.ntmps34
    go_wp2_with fail
    go_ret
    exact ⟨by rw [HE.out]; rfl, likeR _⟩


end Go.Proofs.YtklenjmfalljgaaDoor

/- The walk of SameVerdict. -/
namespace Go.Proofs.YtklenjmfalljgaaDoor
open Go.RowKit
attribute [local go_sem] Go.World.cell?_alloc_some

def verdV (o : Out) : Value := .agg #[.int .i64 o.kind, .int .i64 o.thread, .int .i64 o.at_]

set_option maxHeartbeats 1000000 in
set_option maxRecDepth 100000 in
theorem sameVerdict_m (a b : Out) (w : World) : Calls Tryd.prog 69 #[verdV a, verdV b] w fun e w' => e = .returned (.bool (likeV a b)) ∧ w.grownBy w' none := by
  obtain ⟨al, ak, av, aa, ast⟩ := a
  obtain ⟨bs, bk, bt, ba, bst⟩ := b
  unfold verdV
  simp only
  have HG : Hid (∀ x y, w.grownBy ((w.alloc x).alloc y) none) := fun x y => grown_alloc (grown_alloc (grown_refl _ _))
  by_cases h2 : ak = 2
  · by_cases h3 : bk = 2
    · have HE : Hid (likeV ⟨al, ak, av, aa, ast⟩ ⟨bs, bk, bt, ba, bst⟩ = true) := by unfold Hid likeV; simp [h2, h3]
      subst h2 h3
      go_enter Tryd.func69, Tryd.ntmps69
      go_wp2_with fail
      go_ret
      exact ⟨by rw [HE.out]; rfl, HG.out _ _⟩
    · have HE : Hid (likeV ⟨al, ak, av, aa, ast⟩ ⟨bs, bk, bt, ba, bst⟩ = false) := by unfold Hid likeV; simp [h2, h3]
      have hb : (bk == 2) = false := by simpa using h3
      subst h2
      clear h3
      go_enter Tryd.func69, Tryd.ntmps69
      go_wp2_with fail
      go_ret
      exact ⟨by rw [HE.out]; rfl, HG.out _ _⟩
  · have HE : Hid (likeV ⟨al, ak, av, aa, ast⟩ ⟨bs, bk, bt, ba, bst⟩ = (ak == bk && av == bt && aa == ba)) := by unfold Hid likeV; simp [h2]
    have ha : (ak == 2) = false := by simpa using h2
    clear h2
    go_enter Tryd.func69, Tryd.ntmps69
    go_wp2_with fail
    all_goals (go_ret; refine ⟨?_, HG.out _ _⟩; rw [HE.out]; simp [*])

end Go.Proofs.YtklenjmfalljgaaDoor

/- The walk of Same. -/
namespace Go.Proofs.YtklenjmfalljgaaDoor
open Go.RowKit
attribute [local go_sem] Go.World.cell?_alloc_some

theorem lists_two {W : World} {so sp : Option Addr} {a b : List Int} {sc sd : Nat} {t : TypeId} {g : Nat} (hg : W.heap.size = g) : ListsAt (W.alloc (.cells #[.slice so a.length sc, .slice sp b.length sd] t)) (.slice (some ⟨g, 0, none⟩) 2 2) [a, b] := by
  subst hg
  have h := heap_alloc_new W (.cells #[.slice so a.length sc, .slice sp b.length sd] t)
  refine ⟨W.heap.size, 0, 2, rfl, fun k hk => ?_⟩
  have hk0 : k = 0 ∨ k = 1 := by simp at hk; omega
  rcases hk0 with rfl | rfl
  · exact ⟨so, sc, by simp only [World.cell?, h]; rfl⟩
  · exact ⟨sp, sd, by simp only [World.cell?, h]; rfl⟩
theorem checks_none {p : List (List Ins)} {a b : List Int} (h0 : checkRunsN p [a, b] = 0) : vProg p = true ∧ a.length ≤ 500 ∧ b.length ≤ 500 := by
  unfold checkRunsN at h0
  by_cases hv : vProg p = true
  · by_cases h5 : a.length ≤ 500
    · by_cases h6 : b.length ≤ 500
      · exact ⟨hv, h5, h6⟩
      · simp [hv, h5, h6] at h0
    · simp [hv, h5] at h0
  · simp [hv] at h0

def sameS (p : List (List Ins)) (a b : List Int) : Bool := likeV (runS p a) (runS p b) && (formS p (runS p a) == formS p (runS p b))
/-- What Same answers. -/
def Samed (p : List (List Ins)) (a b : List Int) (w : World) (e : Ending) (w' : World) : Prop :=
  w.grownBy w' none ∧ ((checkRunsN p [a, b] = 0 ∧ e = .returned (.tuple #[.bool (sameS p a b), .int .i64 0])) ∨ (checkRunsN p [a, b] ≠ 0 ∧ e = .returned (.tuple #[.bool false, .int .i64 (checkRunsN p [a, b])])))

set_option maxHeartbeats 4000000 in
set_option maxRecDepth 100000 in
theorem sameP_m (p : List (List Ins)) (a b : List Int) (pv av bv : Value) (w : World) (hS : ShpAt w) (hP : ProgAt w pv p) (hI : IntsAt w.heap.size w av a) (hJ : IntsAt w.heap.size w bv b) :
    Calls Tryd.prog 32 #[pv, av, bv] w (Samed p a b w) := by
  have HSh := hide hS
  have HP := hide hP
  have HI := hide hI
  have HJ := hide hJ
  obtain ⟨ao, cap, rfl⟩ := hP.form
  obtain ⟨so, sc, rfl⟩ := hI.form
  obtain ⟨sp, sd, rfl⟩ := hJ.form
  clear hS hP hI hJ
  go_enter Tryd.func32, Tryd.ntmps32
  go_wp2_with fail
  have hg0 : ∀ x y, w.grownBy ((w.alloc x).alloc y) none := fun x y => grown_alloc (grown_alloc (grown_refl _ _))
  refine (checkRun_m p [a, b] _ _ _ (HSh.out.pres (pres_grown (hg0 _ _))) (HP.out.pres (pres_grown (hg0 _ _))) (lists_two (by simp)) (by simp)).mono ?_
  rintro e w1 ⟨rfl, hg1⟩
  have HG1 : Hid (w.grownBy w1 none) := grown_trans (hg0 _ _) hg1
  have hb0 : w1.heap[w.heap.size]? = some (.cells #[.slice ao p.length cap] 25 (0, 0)) := by
    rw [hg1.block w.heap.size (by simp; omega) (by simp), Below.heap_alloc _ _ _ (by simp)]; exact heap_alloc_new w _
  have c0 : w1.cell? ⟨w.heap.size, 0, none⟩ = some (.slice ao p.length cap) := by simp [World.cell?, hb0]
  clear hb0 hg1
  by_cases h0 : checkRunsN p [a, b] = 0
  · have H0 := hide h0
    obtain ⟨hv, h5, h6⟩ := checks_none h0
    have HV := hide hv
    rw [h0]
    clear h0 hv
    go_wp2_with fail
    refine (new_m HV.out (HP.out.pres (pres_grown HG1.out))).mono ?_
    rintro e w2 ⟨m, rfl, hM, hg2⟩
    have HM := hide hM
    have HG2 : Hid (w.grownBy w2 none) := grown_trans HG1.out hg2
    have c2 := pres_grown hg2 _ _ c0
    clear hM hg2 c0
    go_wp2_with fail
    refine (run_m HV.out HM.out (Nat.le_refl _) ((HI.out.pres (pres_grown HG2.out)).mono HG2.out.size) h5).mono ?_
    rintro e w3 ⟨rv, rfl, hR, hg3⟩
    have HG3 : Hid (w.grownBy w3 none) := grown_trans HG2.out hg3
    have HR := hide hR
    have c3 := pres_grown hg3 _ _ c2
    have HM3 : Hid (MachAt w2.heap.size w3 m p) := HM.out.grown' (Nat.le_refl _) hg3
    have hs23 := hg3.size
    obtain ⟨sv, gv, rfl, ho1, ho2⟩ := hR
    obtain ⟨x1, x2, x3, rfl⟩ := owns_form ho1
    obtain ⟨y1, y2, y3, rfl⟩ := owns_form ho2
    clear hg3 c2 ho1 ho2
    have HIb : Hid (IntsAt w2.heap.size w3 (.slice sp b.length sd) b) := (HJ.out.pres (pres_grown HG3.out)).mono HG2.out.size
    go_wp2_with fail
    refine (run_m HV.out HM3.out hs23 HIb.out h6).mono ?_
    rintro e w4 ⟨rv, rfl, hR4, hg4⟩
    have HG4 : Hid (w.grownBy w4 none) := grown_trans HG3.out hg4
    have HG34 := hide hg4
    have HR4 := hide hR4
    have c4 := pres_grown hg4 _ _ c3
    obtain ⟨sv, gv, rfl, ho1, ho2⟩ := hR4
    obtain ⟨z1, z2, z3, rfl⟩ := owns_form ho1
    obtain ⟨v1, v2, v3, rfl⟩ := owns_form ho2
    clear hg4 c3 ho1 ho2
    have HLF := hide (fun (w : World) (h : w3.grownBy w none) (hP : ProgAt w (.agg #[.slice ao p.length cap]) p) => layForm_run HV.out a h5 HR.out w h (.agg #[.slice ao p.length cap]) hP)
    have HLG := hide (fun (w : World) (h : w4.grownBy w none) (hP : ProgAt w (.agg #[.slice ao p.length cap]) p) => layForm_run HV.out b h6 HR4.out w h (.agg #[.slice ao p.length cap]) hP)
    have HSM : Hid (sameS p a b = (likeV (runS p a) (runS p b) && (formS p (runS p a) == formS p (runS p b)))) := rfl
    have HFL : Hid ((formS p (runS p a)).length ≤ 500) := by
      unfold Hid formS
      rw [formE_length]
      obtain ⟨xs, hSt⟩ := stood_of HV.out a
      rw [hSt.ev]
      have h1 := steps_le p a
      rw [hSt.st] at h1
      simp at h1
      omega
    clear HR HR4
    generalize hoa : runS p a = oa at *
    generalize hob : runS p b = ob at *
    clear hoa hob
    go_upto_region 6 with fail
    have HA5 : Hid (((w4.alloc (.cells #[.int .i64 oa.kind, .int .i64 oa.thread, .int .i64 oa.at_, .slice x1 x2 x3, .int .i64 (oa.st.vars 0), .int .i64 (oa.st.vars 1), .int .i64 (oa.st.vars 2), .int .i64 (oa.st.vars 3), .slice y1 y2 y3] 37)).alloc (.cells #[.int .i64 ob.kind, .int .i64 ob.thread, .int .i64 ob.at_, .slice z1 z2 z3, .int .i64 (ob.st.vars 0), .int .i64 (ob.st.vars 1), .int .i64 (ob.st.vars 2), .int .i64 (ob.st.vars 3), .slice v1 v2 v3] 37)).heap[w4.heap.size]? = some (.cells #[.int .i64 oa.kind, .int .i64 oa.thread, .int .i64 oa.at_, .slice x1 x2 x3, .int .i64 (oa.st.vars 0), .int .i64 (oa.st.vars 1), .int .i64 (oa.st.vars 2), .int .i64 (oa.st.vars 3), .slice y1 y2 y3] 37)) := by
      unfold Hid; rw [Below.heap_alloc _ _ _ (by simp)]; exact heap_alloc_new _ _
    have HB5 : Hid (((w4.alloc (.cells #[.int .i64 oa.kind, .int .i64 oa.thread, .int .i64 oa.at_, .slice x1 x2 x3, .int .i64 (oa.st.vars 0), .int .i64 (oa.st.vars 1), .int .i64 (oa.st.vars 2), .int .i64 (oa.st.vars 3), .slice y1 y2 y3] 37)).alloc (.cells #[.int .i64 ob.kind, .int .i64 ob.thread, .int .i64 ob.at_, .slice z1 z2 z3, .int .i64 (ob.st.vars 0), .int .i64 (ob.st.vars 1), .int .i64 (ob.st.vars 2), .int .i64 (ob.st.vars 3), .slice v1 v2 v3] 37)).heap[w4.heap.size + 1]? = some (.cells #[.int .i64 ob.kind, .int .i64 ob.thread, .int .i64 ob.at_, .slice z1 z2 z3, .int .i64 (ob.st.vars 0), .int .i64 (ob.st.vars 1), .int .i64 (ob.st.vars 2), .int .i64 (ob.st.vars 3), .slice v1 v2 v3] 37)) := by
      have := heap_alloc_new (w4.alloc (.cells #[.int .i64 oa.kind, .int .i64 oa.thread, .int .i64 oa.at_, .slice x1 x2 x3, .int .i64 (oa.st.vars 0), .int .i64 (oa.st.vars 1), .int .i64 (oa.st.vars 2), .int .i64 (oa.st.vars 3), .slice y1 y2 y3] 37)) (.cells #[.int .i64 ob.kind, .int .i64 ob.thread, .int .i64 ob.at_, .slice z1 z2 z3, .int .i64 (ob.st.vars 0), .int .i64 (ob.st.vars 1), .int .i64 (ob.st.vars 2), .int .i64 (ob.st.vars 3), .slice v1 v2 v3] 37)
      unfold Hid
      simpa using this
    have HG45 : Hid (w4.grownBy ((w4.alloc (.cells #[.int .i64 oa.kind, .int .i64 oa.thread, .int .i64 oa.at_, .slice x1 x2 x3, .int .i64 (oa.st.vars 0), .int .i64 (oa.st.vars 1), .int .i64 (oa.st.vars 2), .int .i64 (oa.st.vars 3), .slice y1 y2 y3] 37)).alloc (.cells #[.int .i64 ob.kind, .int .i64 ob.thread, .int .i64 ob.at_, .slice z1 z2 z3, .int .i64 (ob.st.vars 0), .int .i64 (ob.st.vars 1), .int .i64 (ob.st.vars 2), .int .i64 (ob.st.vars 3), .slice v1 v2 v3] 37)) none) := grown_alloc (grown_alloc (grown_refl _ _))
    generalize (w4.alloc (.cells #[.int .i64 oa.kind, .int .i64 oa.thread, .int .i64 oa.at_, .slice x1 x2 x3, .int .i64 (oa.st.vars 0), .int .i64 (oa.st.vars 1), .int .i64 (oa.st.vars 2), .int .i64 (oa.st.vars 3), .slice y1 y2 y3] 37)).alloc (.cells #[.int .i64 ob.kind, .int .i64 ob.thread, .int .i64 ob.at_, .slice z1 z2 z3, .int .i64 (ob.st.vars 0), .int .i64 (ob.st.vars 1), .int .i64 (ob.st.vars 2), .int .i64 (ob.st.vars 3), .slice v1 v2 v3] 37) = w5 at *
    have HST : Hid (∀ u, w5.grownBy u none → u.cell? ⟨w.heap.size, 0, none⟩ = some (.slice ao p.length cap) ∧ (u.cell? ⟨w4.heap.size, 0, none⟩ = some (.int .i64 oa.kind) ∧ u.cell? ⟨w4.heap.size, 1, none⟩ = some (.int .i64 oa.thread) ∧ u.cell? ⟨w4.heap.size, 2, none⟩ = some (.int .i64 oa.at_) ∧ u.cell? ⟨w4.heap.size, 3, none⟩ = some (.slice x1 x2 x3) ∧ u.cell? ⟨w4.heap.size, 4, none⟩ = some (.int .i64 (oa.st.vars 0)) ∧ u.cell? ⟨w4.heap.size, 5, none⟩ = some (.int .i64 (oa.st.vars 1)) ∧ u.cell? ⟨w4.heap.size, 6, none⟩ = some (.int .i64 (oa.st.vars 2)) ∧ u.cell? ⟨w4.heap.size, 7, none⟩ = some (.int .i64 (oa.st.vars 3)) ∧ u.cell? ⟨w4.heap.size, 8, none⟩ = some (.slice y1 y2 y3)) ∧ (u.cell? ⟨w4.heap.size + 1, 0, none⟩ = some (.int .i64 ob.kind) ∧ u.cell? ⟨w4.heap.size + 1, 1, none⟩ = some (.int .i64 ob.thread) ∧ u.cell? ⟨w4.heap.size + 1, 2, none⟩ = some (.int .i64 ob.at_) ∧ u.cell? ⟨w4.heap.size + 1, 3, none⟩ = some (.slice z1 z2 z3) ∧ u.cell? ⟨w4.heap.size + 1, 4, none⟩ = some (.int .i64 (ob.st.vars 0)) ∧ u.cell? ⟨w4.heap.size + 1, 5, none⟩ = some (.int .i64 (ob.st.vars 1)) ∧ u.cell? ⟨w4.heap.size + 1, 6, none⟩ = some (.int .i64 (ob.st.vars 2)) ∧ u.cell? ⟨w4.heap.size + 1, 7, none⟩ = some (.int .i64 (ob.st.vars 3)) ∧ u.cell? ⟨w4.heap.size + 1, 8, none⟩ = some (.slice v1 v2 v3))) := fun u hu => by
      have ka : u.heap[w4.heap.size]? = some (.cells #[.int .i64 oa.kind, .int .i64 oa.thread, .int .i64 oa.at_, .slice x1 x2 x3, .int .i64 (oa.st.vars 0), .int .i64 (oa.st.vars 1), .int .i64 (oa.st.vars 2), .int .i64 (oa.st.vars 3), .slice y1 y2 y3] 37) := by rw [hu.block _ (Array.getElem?_eq_some_iff.1 HA5.out).1 (by simp)]; exact HA5.out
      have kb : u.heap[w4.heap.size + 1]? = some (.cells #[.int .i64 ob.kind, .int .i64 ob.thread, .int .i64 ob.at_, .slice z1 z2 z3, .int .i64 (ob.st.vars 0), .int .i64 (ob.st.vars 1), .int .i64 (ob.st.vars 2), .int .i64 (ob.st.vars 3), .slice v1 v2 v3] 37) := by rw [hu.block _ (Array.getElem?_eq_some_iff.1 HB5.out).1 (by simp)]; exact HB5.out
      obtain ⟨p0, p1, p2, p3, p4, p5, p6, p7, p8, _⟩ := nine_cells ka
      obtain ⟨q0, q1, q2, q3, q4, q5, q6, q7, q8, _⟩ := nine_cells kb
      exact ⟨pres_grown (grown_trans HG45.out hu) _ _ c4, ⟨p0, p1, p2, p3, p4, p5, p6, p7, p8⟩, ⟨q0, q1, q2, q3, q4, q5, q6, q7, q8⟩⟩
    have HPq : Hid (∀ u, w5.grownBy u none → ProgAt u (.agg #[.slice ao p.length cap]) p) := fun u hu => HP.out.pres (pres_grown (grown_trans HG4.out (grown_trans HG45.out hu)))
    obtain ⟨_, ⟨ha0, ha1, ha2, _⟩, ⟨hb0, hb1, hb2, _⟩⟩ := HST.out w5 (grown_refl _ _)
    clear c4 HA5 HB5
    go_wp2_with fail
    refine (sameVerdict_m oa ob _).mono ?_
    rintro e w6 ⟨rfl, hg6⟩
    have HG56 := hide hg6
    have HG6 : Hid (w.grownBy w6 none) := grown_trans HG4.out (grown_trans HG45.out hg6)
    clear hg6 ha0 ha1 ha2 hb0 hb1 hb2
    cases hlk : likeV oa ob
    · have HE : Hid (sameS p a b = false) := by unfold Hid; rw [HSM.out, hlk]; rfl
      clear hlk
      go_wp2_with fail
      exact bodyPost_ret (v := .tuple #[.bool false, .int .i64 0]) (by simp [results, Tryd.results32, go_sem]) rfl ⟨HG6.out, Or.inl ⟨H0.out, by rw [HE.out]⟩⟩
    · have HE : Hid (sameS p a b = (formS p oa == formS p ob)) := by unfold Hid; rw [HSM.out, hlk]; rfl
      clear hlk
      have hSt6 := HST.out w6.drew (grown_drew HG56.out)
      go_wp2_with fail
      refine wp_region_head (fun u => u.cell? ⟨w.heap.size, 0, none⟩ = some (.slice ao p.length cap) ∧ (u.cell? ⟨w4.heap.size, 0, none⟩ = some (.int .i64 oa.kind) ∧ u.cell? ⟨w4.heap.size, 1, none⟩ = some (.int .i64 oa.thread) ∧ u.cell? ⟨w4.heap.size, 2, none⟩ = some (.int .i64 oa.at_) ∧ u.cell? ⟨w4.heap.size, 3, none⟩ = some (.slice x1 x2 x3) ∧ u.cell? ⟨w4.heap.size, 4, none⟩ = some (.int .i64 (oa.st.vars 0)) ∧ u.cell? ⟨w4.heap.size, 5, none⟩ = some (.int .i64 (oa.st.vars 1)) ∧ u.cell? ⟨w4.heap.size, 6, none⟩ = some (.int .i64 (oa.st.vars 2)) ∧ u.cell? ⟨w4.heap.size, 7, none⟩ = some (.int .i64 (oa.st.vars 3)) ∧ u.cell? ⟨w4.heap.size, 8, none⟩ = some (.slice y1 y2 y3)) ∧ (u.cell? ⟨w4.heap.size + 1, 0, none⟩ = some (.int .i64 ob.kind) ∧ u.cell? ⟨w4.heap.size + 1, 1, none⟩ = some (.int .i64 ob.thread) ∧ u.cell? ⟨w4.heap.size + 1, 2, none⟩ = some (.int .i64 ob.at_) ∧ u.cell? ⟨w4.heap.size + 1, 3, none⟩ = some (.slice z1 z2 z3) ∧ u.cell? ⟨w4.heap.size + 1, 4, none⟩ = some (.int .i64 (ob.st.vars 0)) ∧ u.cell? ⟨w4.heap.size + 1, 5, none⟩ = some (.int .i64 (ob.st.vars 1)) ∧ u.cell? ⟨w4.heap.size + 1, 6, none⟩ = some (.int .i64 (ob.st.vars 2)) ∧ u.cell? ⟨w4.heap.size + 1, 7, none⟩ = some (.int .i64 (ob.st.vars 3)) ∧ u.cell? ⟨w4.heap.size + 1, 8, none⟩ = some (.slice v1 v2 v3))) 8 (by kernel_rfl) (by kernel_rfl) hSt6 ?_
      intro hHeld
      refine wpHead_take (i := 0) (v := ?vva0) rfl (by kernel_rfl) (fun _ _ _ h => h) (Or.inl ⟨by rfl, ?hya0⟩) hHeld ?resta0
      case hya0 => (rintro u ⟨hu0, ⟨ha0, ha1, ha2, ha3, ha4, ha5, ha6, ha7, ha8⟩, ⟨hb0, hb1, hb2, hb3, hb4, hb5, hb6, hb7, hb8⟩⟩; go_simp; try with_reducible rfl)
      simp only [Act.put, List.setIfInBounds_toArray]
      refine wpHead_take (i := 1) (v := ?vva1) rfl (by kernel_rfl) (fun _ _ _ h => h) (Or.inl ⟨by rfl, ?hya1⟩) hHeld ?resta1
      case hya1 => (rintro u ⟨hu0, ⟨ha0, ha1, ha2, ha3, ha4, ha5, ha6, ha7, ha8⟩, ⟨hb0, hb1, hb2, hb3, hb4, hb5, hb6, hb7, hb8⟩⟩; go_simp; try with_reducible rfl)
      simp only [Act.put]
      refine wpHead_take (i := 3) (v := ?vva3) rfl (by kernel_rfl) (fun _ _ _ h => h) (Or.inl ⟨by rfl, ?hya3⟩) hHeld ?resta3
      case hya3 => (rintro u ⟨hu0, ⟨ha0, ha1, ha2, ha3, ha4, ha5, ha6, ha7, ha8⟩, ⟨hb0, hb1, hb2, hb3, hb4, hb5, hb6, hb7, hb8⟩⟩; go_simp; try with_reducible rfl)
      simp only [Act.put]
      refine wpHead_take (i := 4) (v := ?vva4) rfl (by kernel_rfl) (fun _ _ _ h => h) (Or.inl ⟨by rfl, ?hya4⟩) hHeld ?resta4
      case hya4 => (rintro u ⟨hu0, ⟨ha0, ha1, ha2, ha3, ha4, ha5, ha6, ha7, ha8⟩, ⟨hb0, hb1, hb2, hb3, hb4, hb5, hb6, hb7, hb8⟩⟩; go_simp; try with_reducible rfl)
      simp only [Act.put]
      refine wpHead_alone (i := 2) rfl (by kernel_rfl) (by kernel_rfl) (by rfl) ?_
      intro K2 hK2
      have HK2 := hide hK2
      clear hK2
      go_simp
      refine (HLF.out _ (grown_drew (grown_trans HG34.out (grown_trans HG45.out HG56.out))) (HPq.out _ (grown_drew HG56.out))).mono ?_
      rintro e w7 ⟨fa, rfl, hF7, hg7⟩
      obtain ⟨f1, f2, f3, rfl⟩ := owns_form hF7
      have hf2 := owns_lenq hF7
      subst hf2
      have HF7 := hide (owns_ints hF7)
      have HG67 : Hid (w6.grownBy w7 none) := grown_fromDrew hg7
      have hHeld7 := HST.out w7 (grown_trans HG56.out HG67.out)
      refine HK2.out _ _ hHeld7 ?_
      clear HK2 hF7 hg7
      try simp only [Act.put, List.setIfInBounds_toArray]
      refine wpHead_alone (i := 5) rfl (by kernel_rfl) (by kernel_rfl) (by rfl) ?_
      intro K5 hK5
      have HK5 := hide hK5
      clear hK5
      go_simp
      refine (HLG.out _ (grown_trans HG45.out (grown_trans HG56.out HG67.out)) (HPq.out _ (grown_trans HG56.out HG67.out))).mono ?_
      rintro e w8 ⟨fb, rfl, hF8, hg8⟩
      obtain ⟨g1, g2, g3, rfl⟩ := owns_form hF8
      have hg2 := owns_lenq hF8
      subst hg2
      have HF8 := hide (owns_ints hF8)
      have HG78 := hide hg8
      have HG58 : Hid (w5.grownBy w8 none) := grown_trans HG56.out (grown_trans HG67.out hg8)
      have hHeld8 := HST.out w8 HG58.out
      refine HK5.out _ _ hHeld8 ?_
      clear HK5 hF8 hg8
      try simp only [Act.put, List.setIfInBounds_toArray]
      refine wpHead_alone (i := 6) rfl (by kernel_rfl) (by kernel_rfl) (by rfl) ?_
      intro K6 hK6
      have HK6 := hide hK6
      clear hK6
      go_simp
      have hla : (formS p oa).length ≤ 9223372036854775806 := by
        obtain ⟨_, _, e, _⟩ := HF7.out
        have := HFL.out
        omega
      refine (eqInts_m (formS p oa) (formS p ob) _ _ w8 ((HF7.out.pres (pres_grown HG78.out)).mono HG78.out.size) HF8.out hla).mono ?_
      rintro e w9 ⟨rfl, hl9⟩
      have hg9 : w8.grownBy w9 none := grown_of_like hl9
      have HG9 : Hid (w.grownBy w9 none) := grown_trans (grown_trans HG4.out HG45.out) (grown_trans HG58.out hg9)
      have hHeld9 := HST.out w9 (grown_trans HG58.out hg9)
      refine HK6.out _ _ hHeld9 ?_
      clear HK6 hl9 hg9
      try simp only [Act.put, List.setIfInBounds_toArray]
      refine wpHead_take (i := 7) (v := ?vvb7) rfl (by kernel_rfl) (fun _ _ _ h => h) (Or.inl ⟨by rfl, ?hyb7⟩) hHeld9 ?restb7
      case hyb7 => (rintro u ⟨hu0, ⟨ha0, ha1, ha2, ha3, ha4, ha5, ha6, ha7, ha8⟩, ⟨hb0, hb1, hb2, hb3, hb4, hb5, hb6, hb7, hb8⟩⟩; go_simp; try with_reducible rfl)
      simp only [Act.put, List.setIfInBounds_toArray]
      refine wpHead_last rfl (by kernel_rfl) (by kernel_rfl) (by rfl) ?_
      go_simp
      generalize hz : (formS p oa == formS p ob) = z at *
      clear hz hHeld hHeld7 hHeld8 hHeld9
      go_wp2_with fail
      exact bodyPost_ret (v := .tuple #[.bool z, .int .i64 0]) (by simp [results, Tryd.results32, go_sem]) rfl ⟨HG9.out, Or.inl ⟨H0.out, by rw [HE.out]⟩⟩
  · have H0 := hide h0
    have hne : (checkRunsN p [a, b] != 0) = true := by simpa using h0
    clear h0
    generalize hE : checkRunsN p [a, b] = e at *
    have HE := hide hE
    clear hE
    go_wp2_with fail
    exact bodyPost_ret (v := .tuple #[.bool false, .int .i64 e]) (by simp [results, Tryd.results32, go_sem]) rfl ⟨HG1.out, Or.inr ⟨by rw [HE.out]; exact H0.out, by rw [HE.out]⟩⟩

end Go.Proofs.YtklenjmfalljgaaDoor

/- The walk of touches. -/
namespace Go.Proofs.YtklenjmfalljgaaDoor
open Go.RowKit
attribute [local go_sem] Go.World.cell?_alloc_some

/-- What an instruction has to do with what threads share, as rerunkeep tells it. -/
def touK (i : Ins) : Int := if i.op = 9 ∨ i.op = 10 then 1 else if i.op = 2 then 2 else if i.op = 3 then 3 else 0
def touW (i : Ins) : Int := if i.op = 9 ∨ i.op = 10 then i.a else if i.op = 2 then i.b else if i.op = 3 then i.a else 0

theorem grown_dn {w w' : World} (h : w.grownBy w' none) (n : Nat) : w.grownBy (w'.drewN n) none := grown_trans h (grown_of_like (by have := like_drewN w' n; exact this))

set_option maxHeartbeats 1000000 in
set_option maxRecDepth 100000 in
theorem touches_m (i : Ins) (w : World) : Calls Tryd.prog 35 #[.agg #[.int .i64 i.op, .int .i64 i.a, .int .i64 i.b, .int .i64 i.n]] w fun e w' => e = .returned (.tuple #[.int .i64 (touK i), .int .i64 (touW i)]) ∧ w.grownBy w' none := by
  obtain ⟨op, a, b, n⟩ := i
  simp only
  have HG : Hid (∀ x m, w.grownBy ((w.alloc x).drewN m) none) := fun x m => grown_dn (grown_alloc (grown_refl _ _)) m
  have HG0 : Hid (∀ x, w.grownBy (w.alloc x) none) := fun x => grown_alloc (grown_refl _ _)
  by_cases h9 : op = 9
  · have HK : Hid (touK ⟨op, a, b, n⟩ = 1 ∧ touW ⟨op, a, b, n⟩ = a) := by unfold Hid touK touW; simp [h9]
    subst h9
    go_enter Tryd.func35, Tryd.ntmps35
    go_wp2_with fail
    go_quiet (fail)
    go_wp2_with fail
    rw [HK.out.1, HK.out.2]
    exact bodyPost_ret (v := .tuple #[.int .i64 1, .int .i64 a]) (by simp [results, Tryd.results35, go_sem]) rfl ⟨rfl, HG.out _ _⟩
  · by_cases h10 : op = 10
    · have HK : Hid (touK ⟨op, a, b, n⟩ = 1 ∧ touW ⟨op, a, b, n⟩ = a) := by unfold Hid touK touW; simp [h10]
      subst h10
      go_enter Tryd.func35, Tryd.ntmps35
      go_wp2_with fail
      go_quiet (fail)
      go_wp2_with fail
      rw [HK.out.1, HK.out.2]
      exact bodyPost_ret (v := .tuple #[.int .i64 1, .int .i64 a]) (by simp [results, Tryd.results35, go_sem]) rfl ⟨rfl, HG.out _ _⟩
    · have e9 : (op == 9) = false := by simpa using h9
      have e10 : (op == 10) = false := by simpa using h10
      by_cases h2 : op = 2
      · have HK : Hid (touK ⟨op, a, b, n⟩ = 2 ∧ touW ⟨op, a, b, n⟩ = b) := by unfold Hid touK touW; simp [h2]
        subst h2
        clear h9 h10 e9 e10
        go_enter Tryd.func35, Tryd.ntmps35
        go_wp2_with fail
        go_quiet (fail)
        go_wp2_with fail
        rw [HK.out.1, HK.out.2]
        exact bodyPost_ret (v := .tuple #[.int .i64 2, .int .i64 b]) (by simp [results, Tryd.results35, go_sem]) rfl ⟨rfl, HG.out _ _⟩
      · have e2 : (op == 2) = false := by simpa using h2
        by_cases h3 : op = 3
        · have HK : Hid (touK ⟨op, a, b, n⟩ = 3 ∧ touW ⟨op, a, b, n⟩ = a) := by unfold Hid touK touW; simp [h3]
          subst h3
          clear h9 h10 h2 e9 e10 e2
          go_enter Tryd.func35, Tryd.ntmps35
          go_wp2_with fail
          go_quiet (fail)
          go_wp2_with fail
          rw [HK.out.1, HK.out.2]
          exact bodyPost_ret (v := .tuple #[.int .i64 3, .int .i64 a]) (by simp [results, Tryd.results35, go_sem]) rfl ⟨rfl, HG.out _ _⟩
        · have e3 : (op == 3) = false := by simpa using h3
          have HK : Hid (touK ⟨op, a, b, n⟩ = 0 ∧ touW ⟨op, a, b, n⟩ = 0) := by unfold Hid touK touW; simp [h9, h10, h2, h3]
          clear h9 h10 h2 h3
          go_enter Tryd.func35, Tryd.ntmps35
          go_wp2_with fail
          rw [HK.out.1, HK.out.2]
          exact bodyPost_ret (v := .tuple #[.int .i64 0, .int .i64 0]) (by simp [results, Tryd.results35, go_sem]) rfl ⟨rfl, HG0.out _⟩

end Go.Proofs.YtklenjmfalljgaaDoor

/- Commuted, round for round: what becomes of a schedule two of whose numbers change places. -/
namespace Go.Proofs.YtklenjmfalljgaaDoor

/-- Nothing to do with one another, as rerunkeep tells it. -/
def apartB (i j : Ins) : Bool := touK i == 0 || touK j == 0 || touW i != touW j || ((touK i == 1) != (touK j == 1)) || (touK i == 2 && touK j == 2)
theorem apart_clash {i j : Ins} (h1 : 0 ≤ i.a) (h2 : 0 ≤ i.b) (h3 : 0 ≤ j.a) (h4 : 0 ≤ j.b) : apartB i j = !clash (tou i) (tou j) := by
  have tk : ∀ x : Ins, 0 ≤ x.a → 0 ≤ x.b → touK x = ((tou x).1 : Int) ∧ touW x = ((tou x).2 : Int) := fun x ha hb => by
    unfold touK touW tou
    split
    · exact ⟨rfl, by simp; omega⟩
    · split
      · exact ⟨rfl, by simp; omega⟩
      · split
        · exact ⟨rfl, by simp; omega⟩
        · exact ⟨rfl, rfl⟩
  obtain ⟨a1, a2⟩ := tk i h1 h2
  obtain ⟨b1, b2⟩ := tk j h3 h4
  unfold apartB clash
  rw [a1, a2, b1, b2]
  generalize tou i = x
  generalize tou j = y
  have e0 : ∀ n m : Nat, ((n : Int) == (m : Int)) = (n == m) := fun n m => by rw [Bool.eq_iff_iff]; simp only [beq_iff_eq]; omega
  have f0 : ((x.1 : Int) == 0) = (x.1 == 0) := e0 x.1 0
  have f1 : ((y.1 : Int) == 0) = (y.1 == 0) := e0 y.1 0
  have f2 : ((x.1 : Int) == 1) = (x.1 == 1) := e0 x.1 1
  have f3 : ((y.1 : Int) == 1) = (y.1 == 1) := e0 y.1 1
  have f4 : ((x.1 : Int) == 2) = (x.1 == 2) := e0 x.1 2
  have f5 : ((y.1 : Int) == 2) = (y.1 == 2) := e0 y.1 2
  have f6 : ((x.2 : Int) != (y.2 : Int)) = (x.2 != y.2) := by unfold bne; rw [e0]
  rw [f0, f1, f2, f3, f4, f5, f6]
  unfold bne
  generalize (x.1 == 0) = c0
  generalize (y.1 == 0) = c1
  generalize (x.1 == 1) = c2
  generalize (y.1 == 1) = c3
  generalize (x.1 == 2) = c4
  generalize (y.1 == 2) = c5
  generalize (x.2 == y.2) = c6
  revert c0 c1 c2 c3 c4 c5 c6
  decide

/-- Two neighbours change places. -/
def swapL (a : List Int) (k : Nat) : List Int := (a.set k ((a[k + 1]?).getD 0)).set (k + 1) ((a[k]?).getD 0)
theorem swapL_len (a : List Int) (k : Nat) : (swapL a k).length = a.length := by simp [swapL]
theorem split2 {α : Type} (l : List α) {k : Nat} (h : k + 1 < l.length) : l = l.take k ++ l[k] :: l[k + 1] :: l.drop (k + 2) := by
  have h1 := List.take_append_drop k l
  rw [List.drop_eq_getElem_cons (by omega : k < l.length), List.drop_eq_getElem_cons h] at h1
  exact h1.symm
theorem swapL_cons (A B : List Int) (x y : Int) : swapL (A ++ x :: y :: B) A.length = A ++ y :: x :: B := by
  have h0 : (A ++ x :: y :: B)[A.length]? = some x := by rw [List.getElem?_append_right (Nat.le_refl _)]; simp
  have h1 : (A ++ x :: y :: B)[A.length + 1]? = some y := by rw [List.getElem?_append_right (by omega), Nat.add_sub_cancel_left]; rfl
  unfold swapL
  rw [h0, h1, List.set_append_right _ _ (Nat.le_refl _), Nat.sub_self]
  simp only [List.set_cons_zero, Option.getD_some]
  rw [List.set_append_right _ _ (by omega), Nat.add_sub_cancel_left]
  simp

theorem swap_ev {xs : List Ev} {k : Nat} (h : k + 1 < xs.length) : swapL (xs.map Ev.tI) k = (xs.take k ++ xs[k + 1] :: xs[k] :: xs.drop (k + 2)).map Ev.tI := by
  have e : xs.map Ev.tI = (xs.take k).map Ev.tI ++ xs[k].tI :: xs[k + 1].tI :: (xs.drop (k + 2)).map Ev.tI :=
    (congrArg (List.map Ev.tI) (split2 xs h)).trans (by rw [List.map_append]; rfl)
  have hl : ((xs.take k).map Ev.tI).length = k := by simp; omega
  rw [e]
  have := swapL_cons ((xs.take k).map Ev.tI) ((xs.drop (k + 2)).map Ev.tI) xs[k].tI xs[k + 1].tI
  rw [hl] at this
  rw [this]; simp

theorem EvRun.stood {p : List (List Ins)} {a : List Int} {xs : List Ev} (hp : vProg p = true) (h : EvRun p a xs) : Stood p (runS p a) xs := by
  obtain ⟨ys, hy⟩ := stood_of hp a
  have : ys = xs := by rw [← hy.ev, h.ev]
  rw [← this]; exact hy

theorem comm_round {p : List (List Ins)} {a : List Int} {k : Nat} (hp : vProg p = true) (hs : Sched p a) (hk : k + 1 < a.length) :
    ∃ t1 k1 t2 k2 : Nat, (runS p a).steps[k]? = some ((t1 : Int), (k1 : Int)) ∧ (runS p a).steps[k + 1]? = some ((t2 : Int), (k2 : Int)) ∧ a[k]? = some (t1 : Int) ∧ a[k + 1]? = some (t2 : Int) ∧ t1 < p.length ∧ k1 < (codeOf p t1).length ∧ t2 < p.length ∧ k2 < (codeOf p t2).length ∧
      (t1 ≠ t2 → ¬ ((runS p a).kind = 1 ∧ k + 2 = a.length) →
        (apartB (insAt p t1 k1) (insAt p t2 k2) = true → Sched p (swapL a k) ∧ (runS p (swapL a k)).kind = (runS p a).kind ∧ (runS p (swapL a k)).thread = (runS p a).thread ∧ (runS p (swapL a k)).at_ = (runS p a).at_ ∧ (runS p (swapL a k)).st = (runS p a).st ∧ formS p (runS p (swapL a k)) = formS p (runS p a) ∧ sameS p a (swapL a k) = true) ∧
        (apartB (insAt p t1 k1) (insAt p t2 k2) = false → (runS p (swapL a k)).kind ≠ 2 → (runS p (swapL a k)).steps.length = a.length → (runS p (swapL a k)).steps[k]? = some ((t2 : Int), (k2 : Int)) → (runS p (swapL a k)).steps[k + 1]? = some ((t1 : Int), (k1 : Int)) → (formS p (runS p a) == formS p (runS p (swapL a k))) = false ∧ sameS p a (swapL a k) = false)) := by
  obtain ⟨xs, hx⟩ := evRun_of hs
  have hst := hx.stood hp
  have hxl : xs.length = a.length := by rw [← hx.sch]; simp
  have hk' : k + 1 < xs.length := by omega
  obtain ⟨u1, u2, u3⟩ := hst.th _ (List.getElem_mem (by omega : k < xs.length))
  obtain ⟨v1, v2, v3⟩ := hst.th _ (List.getElem_mem hk')
  obtain ⟨k1, hk1⟩ := Int.eq_ofNat_of_zero_le u2
  obtain ⟨k2, hk2⟩ := Int.eq_ofNat_of_zero_le v2
  have b1 := hst.gd k (by omega)
  have b2 := hst.gd (k + 1) hk'
  have hi1 := vIns_ab (vProg_ins hp u1 (k := xs[k].k) (by omega))
  have hi2 := vIns_ab (vProg_ins hp v1 (k := xs[k + 1].k) (by omega))
  have hcl := apart_clash (i := insAt p xs[k].t xs[k].k) (j := insAt p xs[k + 1].t xs[k + 1].k) hi1.1 hi1.2.2.1 hi2.1 hi2.2.2.1
  have hsw : swapL a k = (xs.take k ++ xs[k + 1] :: xs[k] :: xs.drop (k + 2)).map Ev.tI := by
    have e := swap_ev hk'
    rw [hx.sch] at e; exact e
  refine ⟨xs[k].t, k1, xs[k + 1].t, k2, ?_, ?_, ?_, ?_, u1, by omega, v1, by omega, fun hne hnf => ⟨fun hap => ?_, fun hap g1 g2 g3 g4 => ?_⟩⟩
  · rw [hx.st, List.getElem?_map, List.getElem?_eq_getElem (by omega : k < xs.length)]; simp [Ev.pr, hk1]
  · rw [hx.st, List.getElem?_map, List.getElem?_eq_getElem hk']; simp [Ev.pr, hk2]
  · have e : a[k]? = (xs.map Ev.tI)[k]? := by rw [hx.sch]
    rw [e, List.getElem?_map, List.getElem?_eq_getElem (by omega : k < xs.length)]; rfl
  · have e : a[k + 1]? = (xs.map Ev.tI)[k + 1]? := by rw [hx.sch]
    rw [e, List.getElem?_map, List.getElem?_eq_getElem hk']; rfl
  · rw [← hk1, ← hk2, hcl] at hap
    have hd : depE p xs[k] xs[k + 1] = false := by
      unfold depE
      have n1 : xs[k].bad = false := by rw [b1]; simp; omega
      have n2 : xs[k + 1].bad = false := by
        rw [b2]
        cases hq : decide ((runS p a).kind = 1) with
        | false => rfl
        | true =>
          have h1 : (runS p a).kind = 1 := by simpa using hq
          simp; omega
      rw [n1, n2]
      simp [hne]
      simpa using hap
    have hx2 : EvRun p a (xs.take k ++ xs[k] :: xs[k + 1] :: xs.drop (k + 2)) := by rw [← split2 xs hk']; exact hx
    obtain ⟨w1, w2, w3, w4, w5, w6⟩ := hx2.swap hd
    rw [hsw]
    refine ⟨w1.sched, w2, w3, w4, w5, w6, ?_⟩
    unfold sameS
    rw [w6]
    have : likeV (runS p a) (runS p ((xs.take k ++ xs[k + 1] :: xs[k] :: xs.drop (k + 2)).map Ev.tI)) = true := by
      unfold likeV
      rw [w2, w3, w4]
      by_cases e : (runS p a).kind = 2 <;> simp [e]
    rw [this]; simp
  · rw [← hk1, ← hk2, hcl] at hap
    have hs' : Sched p (swapL a k) := ⟨g1, by rw [g2, swapL_len]⟩
    obtain ⟨ys, hy⟩ := evRun_of hs'
    have hyl : ys.length = a.length := by rw [← swapL_len a k, ← hy.sch]; simp
    have hky : k + 1 < ys.length := by omega
    rw [hy.st] at g3 g4
    simp [Ev.pr, (by omega : k < ys.length), hky] at g3 g4
    have e1 : ys[k].t = xs[k + 1].t := by omega
    have e2 : ys[k + 1].t = xs[k].t := by omega
    have hA : (ys.take k).map Ev.tI = (xs.take k).map Ev.tI := by
      rw [List.map_take, hy.sch, hsw, List.map_append, List.take_append_of_le_length (by simp; omega), List.take_of_length_le (by simp; omega)]
    have hf : formS p (runS p a) ≠ formS p (runS p (swapL a k)) := by
      unfold formS
      rw [hx.ev, hy.ev]
      have q1 := split2 xs hk'
      have q2 := split2 ys hky
      have d1 : depE p xs[k] xs[k + 1] = true := by
        unfold depE
        have : clash (tou (insAt p xs[k].t xs[k].k)) (tou (insAt p xs[k + 1].t xs[k + 1].k)) = true := by simpa using hap
        rw [this]; simp
      have d2 : depE p ys[k] ys[k + 1] = true := by
        unfold depE
        rw [e1, e2, g3.2, g4.2, ← hk1, ← hk2, clash_symm]
        have : clash (tou (insAt p xs[k].t xs[k].k)) (tou (insAt p xs[k + 1].t xs[k + 1].k)) = true := by simpa using hap
        rw [this]; simp
      have := form_other (A := xs.take k) (B := xs.drop (k + 2)) (A' := ys.take k) (B' := ys.drop (k + 2)) d1 d2 hne e2 e1 hA
      rw [← q1, ← q2] at this
      exact this
    have hb : (formS p (runS p a) == formS p (runS p (swapL a k))) = false := by simpa using hf
    refine ⟨hb, ?_⟩
    unfold sameS
    rw [hb]; simp

end Go.Proofs.YtklenjmfalljgaaDoor

/- The walks of instruction and program. -/
namespace Go.Proofs.YtklenjmfalljgaaDoor
open Go.RowKit
attribute [local go_sem] Go.World.cell?_alloc_some

def insM (n many : Int) : Ins :=
  if n % 11 = 0 then ⟨1, n / 11 % 3, 0, n / 132 % 5 - 1⟩
  else if n % 11 = 7 then ⟨8, n / 11 % 3, 0, n / 132 % (many + 1)⟩
  else if n % 11 = 8 then ⟨9, n / 11 % 3, 0, 0⟩
  else if n % 11 = 9 then ⟨10, n / 11 % 3, 0, 0⟩
  else if n % 11 = 10 then (if 0 < n / 33 % 4 then ⟨2, n / 11 % 3, n / 33 % 4, 0⟩ else ⟨11, n / 11 % 3, 0, 0⟩)
  else ⟨1 + n % 11, n / 11 % 3, n / 33 % 4, 0⟩

def insN (c many : Int) : Ins := insM (pickN c 1099511627776) many

theorem insM_valid (n many : Int) (_hn : 0 ≤ n) (hm : 0 ≤ many) : vIns (insM n many) many = true := by
  have a1 : 0 ≤ n / 11 % 3 ∧ n / 11 % 3 < 3 := by omega
  have b1 : 0 ≤ n / 33 % 4 ∧ n / 33 % 4 < 4 := by omega
  have e1 : 0 ≤ n % 11 ∧ n % 11 < 11 := by omega
  have j1 : 0 ≤ n / 132 % (many + 1) ∧ n / 132 % (many + 1) < many + 1 := ⟨Int.emod_nonneg _ (by omega), Int.emod_lt_of_pos _ (by omega)⟩
  have hc : n % 11 = 0 ∨ n % 11 = 1 ∨ n % 11 = 2 ∨ n % 11 = 3 ∨ n % 11 = 4 ∨ n % 11 = 5 ∨ n % 11 = 6 ∨ n % 11 = 7 ∨ n % 11 = 8 ∨ n % 11 = 9 ∨ n % 11 = 10 := by omega
  rcases hc with e | e | e | e | e | e | e | e | e | e | e
  all_goals
    unfold insM
    simp only [e]
    generalize n / 11 % 3 = A at *
    generalize n / 33 % 4 = B at *
    generalize n / 132 % (many + 1) = J at *
    simp [vIns, shp, fitsB, belowB]
  all_goals first | omega | (split <;> simp <;> omega)

set_option maxHeartbeats 2000000 in
set_option maxRecDepth 100000 in
theorem instruction_core (c many n : Int) (hpk : ∀ w, Calls Tryd.prog 12 #[.int .i64 c, .int .i64 1099511627776] w fun e w' => e = .returned (.int .i64 n) ∧ w' = w) (hn0 : 0 ≤ n) (hn1 : n < 1099511627776) (h0 : 0 ≤ many) (h16 : many ≤ 16) (w : World) :
    Calls Tryd.prog 37 #[.int .i64 c, .int .i64 many] w fun e w' => e = .returned (.agg #[.int .i64 (insM n many).op, .int .i64 (insM n many).a, .int .i64 (insM n many).b, .int .i64 (insM n many).n]) ∧ w.grownBy w' none := by
  have HPK := hide hpk
  clear hpk
  have hcc : n % 11 = 0 ∨ n % 11 = 1 ∨ n % 11 = 2 ∨ n % 11 = 3 ∨ n % 11 = 4 ∨ n % 11 = 5 ∨ n % 11 = 6 ∨ n % 11 = 7 ∨ n % 11 = 8 ∨ n % 11 = 9 ∨ n % 11 = 10 := by omega
  have HJ : Hid (0 ≤ n / 132 % (many + 1)) := Int.emod_nonneg _ (by omega)
  rcases hcc with e | e | e | e | e | e | e | e | e | e | e
  · have HE : Hid (insM n many = ⟨1, n / 11 % 3, 0, n / 132 % 5 - 1⟩) := by unfold Hid insM; simp [e]
    rw [HE.out]
    clear HE
    go_enter Tryd.func37, Tryd.ntmps37
    go_wp2_with fail
    refine (HPK.out _).mono ?_
    rintro e' w1 ⟨rfl, rfl⟩
    go_wp2_with fail
    refine bodyPost_ret (v := .agg #[.int .i64 (1), .int .i64 (n / 11 % 3), .int .i64 (0), .int .i64 (n / 132 % 5 - 1)]) ?_ rfl ⟨rfl, ?_⟩
    · simp [results, Tryd.results37, go_sem]
    · repeat (first | exact grown_refl _ _ | refine grown_alloc ?_ | refine grown_setNew ?_ (by simp; omega))
  · have HE : Hid (insM n many = ⟨2, n / 11 % 3, n / 33 % 4, 0⟩) := by unfold Hid insM; simp [e]
    rw [HE.out]
    clear HE
    go_enter Tryd.func37, Tryd.ntmps37
    go_wp2_with fail
    refine (HPK.out _).mono ?_
    rintro e' w1 ⟨rfl, rfl⟩
    go_wp2_with fail
    refine bodyPost_ret (v := .agg #[.int .i64 (2), .int .i64 (n / 11 % 3), .int .i64 (n / 33 % 4), .int .i64 (0)]) ?_ rfl ⟨rfl, ?_⟩
    · simp [results, Tryd.results37, go_sem]
    · repeat (first | exact grown_refl _ _ | refine grown_alloc ?_ | refine grown_setNew ?_ (by simp; omega))
  · have HE : Hid (insM n many = ⟨3, n / 11 % 3, n / 33 % 4, 0⟩) := by unfold Hid insM; simp [e]
    rw [HE.out]
    clear HE
    go_enter Tryd.func37, Tryd.ntmps37
    go_wp2_with fail
    refine (HPK.out _).mono ?_
    rintro e' w1 ⟨rfl, rfl⟩
    go_wp2_with fail
    refine bodyPost_ret (v := .agg #[.int .i64 (3), .int .i64 (n / 11 % 3), .int .i64 (n / 33 % 4), .int .i64 (0)]) ?_ rfl ⟨rfl, ?_⟩
    · simp [results, Tryd.results37, go_sem]
    · repeat (first | exact grown_refl _ _ | refine grown_alloc ?_ | refine grown_setNew ?_ (by simp; omega))
  · have HE : Hid (insM n many = ⟨4, n / 11 % 3, n / 33 % 4, 0⟩) := by unfold Hid insM; simp [e]
    rw [HE.out]
    clear HE
    go_enter Tryd.func37, Tryd.ntmps37
    go_wp2_with fail
    refine (HPK.out _).mono ?_
    rintro e' w1 ⟨rfl, rfl⟩
    go_wp2_with fail
    refine bodyPost_ret (v := .agg #[.int .i64 (4), .int .i64 (n / 11 % 3), .int .i64 (n / 33 % 4), .int .i64 (0)]) ?_ rfl ⟨rfl, ?_⟩
    · simp [results, Tryd.results37, go_sem]
    · repeat (first | exact grown_refl _ _ | refine grown_alloc ?_ | refine grown_setNew ?_ (by simp; omega))
  · have HE : Hid (insM n many = ⟨5, n / 11 % 3, n / 33 % 4, 0⟩) := by unfold Hid insM; simp [e]
    rw [HE.out]
    clear HE
    go_enter Tryd.func37, Tryd.ntmps37
    go_wp2_with fail
    refine (HPK.out _).mono ?_
    rintro e' w1 ⟨rfl, rfl⟩
    go_wp2_with fail
    refine bodyPost_ret (v := .agg #[.int .i64 (5), .int .i64 (n / 11 % 3), .int .i64 (n / 33 % 4), .int .i64 (0)]) ?_ rfl ⟨rfl, ?_⟩
    · simp [results, Tryd.results37, go_sem]
    · repeat (first | exact grown_refl _ _ | refine grown_alloc ?_ | refine grown_setNew ?_ (by simp; omega))
  · have HE : Hid (insM n many = ⟨6, n / 11 % 3, n / 33 % 4, 0⟩) := by unfold Hid insM; simp [e]
    rw [HE.out]
    clear HE
    go_enter Tryd.func37, Tryd.ntmps37
    go_wp2_with fail
    refine (HPK.out _).mono ?_
    rintro e' w1 ⟨rfl, rfl⟩
    go_wp2_with fail
    refine bodyPost_ret (v := .agg #[.int .i64 (6), .int .i64 (n / 11 % 3), .int .i64 (n / 33 % 4), .int .i64 (0)]) ?_ rfl ⟨rfl, ?_⟩
    · simp [results, Tryd.results37, go_sem]
    · repeat (first | exact grown_refl _ _ | refine grown_alloc ?_ | refine grown_setNew ?_ (by simp; omega))
  · have HE : Hid (insM n many = ⟨7, n / 11 % 3, n / 33 % 4, 0⟩) := by unfold Hid insM; simp [e]
    rw [HE.out]
    clear HE
    go_enter Tryd.func37, Tryd.ntmps37
    go_wp2_with fail
    refine (HPK.out _).mono ?_
    rintro e' w1 ⟨rfl, rfl⟩
    go_wp2_with fail
    refine bodyPost_ret (v := .agg #[.int .i64 (7), .int .i64 (n / 11 % 3), .int .i64 (n / 33 % 4), .int .i64 (0)]) ?_ rfl ⟨rfl, ?_⟩
    · simp [results, Tryd.results37, go_sem]
    · repeat (first | exact grown_refl _ _ | refine grown_alloc ?_ | refine grown_setNew ?_ (by simp; omega))
  · have HE : Hid (insM n many = ⟨8, n / 11 % 3, 0, n / 132 % (many + 1)⟩) := by unfold Hid insM; simp [e]
    rw [HE.out]
    clear HE
    go_enter Tryd.func37, Tryd.ntmps37
    go_wp2_with fail
    refine (HPK.out _).mono ?_
    rintro e' w1 ⟨rfl, rfl⟩
    go_wp2_with fail
    refine bodyPost_ret (v := .agg #[.int .i64 (8), .int .i64 (n / 11 % 3), .int .i64 (0), .int .i64 (n / 132 % (many + 1))]) ?_ rfl ⟨rfl, ?_⟩
    · simp [results, Tryd.results37, go_sem]
    · repeat (first | exact grown_refl _ _ | refine grown_alloc ?_ | refine grown_setNew ?_ (by simp; omega))
  · have HE : Hid (insM n many = ⟨9, n / 11 % 3, 0, 0⟩) := by unfold Hid insM; simp [e]
    rw [HE.out]
    clear HE
    go_enter Tryd.func37, Tryd.ntmps37
    go_wp2_with fail
    refine (HPK.out _).mono ?_
    rintro e' w1 ⟨rfl, rfl⟩
    go_wp2_with fail
    refine bodyPost_ret (v := .agg #[.int .i64 (9), .int .i64 (n / 11 % 3), .int .i64 (0), .int .i64 (0)]) ?_ rfl ⟨rfl, ?_⟩
    · simp [results, Tryd.results37, go_sem]
    · repeat (first | exact grown_refl _ _ | refine grown_alloc ?_ | refine grown_setNew ?_ (by simp; omega))
  · have HE : Hid (insM n many = ⟨10, n / 11 % 3, 0, 0⟩) := by unfold Hid insM; simp [e]
    rw [HE.out]
    clear HE
    go_enter Tryd.func37, Tryd.ntmps37
    go_wp2_with fail
    refine (HPK.out _).mono ?_
    rintro e' w1 ⟨rfl, rfl⟩
    go_wp2_with fail
    refine bodyPost_ret (v := .agg #[.int .i64 (10), .int .i64 (n / 11 % 3), .int .i64 (0), .int .i64 (0)]) ?_ rfl ⟨rfl, ?_⟩
    · simp [results, Tryd.results37, go_sem]
    · repeat (first | exact grown_refl _ _ | refine grown_alloc ?_ | refine grown_setNew ?_ (by simp; omega))
  · by_cases hb : 0 < n / 33 % 4
    · have HE : Hid (insM n many = ⟨2, n / 11 % 3, n / 33 % 4, 0⟩) := by unfold Hid insM; simp [e, hb]
      rw [HE.out]
      clear HE
      go_enter Tryd.func37, Tryd.ntmps37
      go_wp2_with fail
      refine (HPK.out _).mono ?_
      rintro e' w1 ⟨rfl, rfl⟩
      go_wp2_with fail
      refine bodyPost_ret (v := .agg #[.int .i64 (2), .int .i64 (n / 11 % 3), .int .i64 (n / 33 % 4), .int .i64 (0)]) ?_ rfl ⟨rfl, ?_⟩
      · simp [results, Tryd.results37, go_sem]
      · repeat (first | exact grown_refl _ _ | refine grown_alloc ?_ | refine grown_setNew ?_ (by simp; omega))
    · have HE : Hid (insM n many = ⟨11, n / 11 % 3, 0, 0⟩) := by unfold Hid insM; simp [e, hb]
      have hb2 : n / 33 % 4 ≤ 0 := by omega
      rw [HE.out]
      clear HE
      go_enter Tryd.func37, Tryd.ntmps37
      go_wp2_with fail
      refine (HPK.out _).mono ?_
      rintro e' w1 ⟨rfl, rfl⟩
      go_wp2_with fail
      refine bodyPost_ret (v := .agg #[.int .i64 (11), .int .i64 (n / 11 % 3), .int .i64 (0), .int .i64 (0)]) ?_ rfl ⟨rfl, ?_⟩
      · simp [results, Tryd.results37, go_sem]
      · repeat (first | exact grown_refl _ _ | refine grown_alloc ?_ | refine grown_setNew ?_ (by simp; omega))

theorem instruction_m (c many : Int) (hc : -9223372036854775808 ≤ c) (hc2 : c ≤ 9223372036854775807) (h0 : 0 ≤ many) (h16 : many ≤ 16) (w : World) :
    Calls Tryd.prog 37 #[.int .i64 c, .int .i64 many] w fun e w' => e = .returned (.agg #[.int .i64 (insN c many).op, .int .i64 (insN c many).a, .int .i64 (insN c many).b, .int .i64 (insN c many).n]) ∧ w.grownBy w' none :=
  instruction_core c many _ (pick_m c 1099511627776 (by omega) (by omega) hc hc2) (pickN_range c 1099511627776 (by omega)).1 (pickN_range c 1099511627776 (by omega)).2 h0 h16 w

end Go.Proofs.YtklenjmfalljgaaDoor

/- The walk of program. -/
namespace Go.Proofs.YtklenjmfalljgaaDoor
open Go.RowKit
attribute [local go_sem] Go.World.cell?_alloc_some

/-- Lists of numbers in memory. -/
def RawAt (w : World) (v : Value) (l : List (List Int)) : Prop :=
  ∃ ao cap, v = .slice ao l.length cap ∧ ∀ t (ht : t < l.length), ∃ g o, ao = some ⟨g, o, none⟩ ∧ ∃ rv, w.cell? ⟨g, o + t, none⟩ = some rv ∧ IntsAt w.heap.size w rv l[t]

def codeN (r : List Int) : List Ins := (r.take 16).map fun c => insN c (min r.length 16 : Nat)
def thrN (raw : List (List Int)) (k : Nat) : List (List Ins) := (raw.take k).map codeN
def progN (raw : List (List Int)) : List (List Ins) := if (thrN raw 4).length = 0 then [[]] else thrN raw 4

theorem codeN_len (r : List Int) : (codeN r).length = min r.length 16 := by simp [codeN, Nat.min_comm]

theorem codeN_valid (r : List Int) : vCode (codeN r) = true := by
  have hl := codeN_len r
  simp only [vCode, Bool.and_eq_true, decide_eq_true_eq, List.all_eq_true]
  refine ⟨by omega, fun i hi => ?_⟩
  simp only [codeN, List.mem_map] at hi
  obtain ⟨c, _, rfl⟩ := hi
  rw [hl]
  exact insM_valid _ _ (pickN_range c 1099511627776 (by omega)).1 (by omega)

theorem progN_valid (raw : List (List Int)) : vProg (progN raw) = true := by
  unfold progN
  by_cases h : (thrN raw 4).length = 0
  · rw [if_pos h]; decide
  · rw [if_neg h]
    simp only [vProg, Bool.and_eq_true, decide_eq_true_eq, List.all_eq_true]
    refine ⟨by omega, by simp [thrN]; omega, fun c hc => ?_⟩
    simp only [thrN, List.mem_map] at hc
    obtain ⟨r, _, rfl⟩ := hc
    exact codeN_valid r

def insV (i : Ins) : List Value := [.int .i64 i.op, .int .i64 i.a, .int .i64 i.b, .int .i64 i.n]
def insCells (c : List Ins) : List Value := c.flatMap insV
theorem insCells_len (c : List Ins) : (insCells c).length = c.length * 4 := by
  induction c with
  | nil => rfl
  | cons i c ih => simp only [insCells, List.flatMap_cons, List.length_append] at *; rw [ih]; simp [insV]; omega
theorem insCells_snoc (c : List Ins) (i : Ins) : insCells (c ++ [i]) = insCells c ++ insV i := by simp [insCells]
theorem insCells_get : ∀ (c : List Ins) (k : Nat) (hk : k < c.length), (insCells c)[k * 4]? = some (.int .i64 c[k].op) ∧ (insCells c)[k * 4 + 1]? = some (.int .i64 c[k].a) ∧ (insCells c)[k * 4 + 2]? = some (.int .i64 c[k].b) ∧ (insCells c)[k * 4 + 3]? = some (.int .i64 c[k].n)
  | [], k, hk => by simp at hk
  | i :: c, 0, hk => by simp [insCells, insV]
  | i :: c, k + 1, hk => by
    have h := insCells_get c k (by simpa using hk)
    have e : insCells (i :: c) = insV i ++ insCells c := by simp [insCells]
    have e4 : ∀ j, (insCells (i :: c))[(k + 1) * 4 + j]? = (insCells c)[k * 4 + j]? := fun j => by
      rw [e, List.getElem?_append_right (by simp [insV]; omega)]
      congr 1
      simp [insV]; omega
    refine ⟨?_, ?_, ?_, ?_⟩
    · have := e4 0; simp only [Nat.add_zero] at this; rw [this]; simpa using h.1
    · rw [e4 1]; simpa using h.2.1
    · rw [e4 2]; simpa using h.2.2.1
    · rw [e4 3]; simpa using h.2.2.2

/-- A thread's code in a row of the call's own. -/
def CodeRow (L B : Nat) (w : World) (v : Value) (c : List Ins) : Prop := w.ownsRow L 28 4 v c.length (insCells c) ∧ ∀ h, v.ownBlock = some h → h < B

theorem CodeRow.codeAt {L B : Nat} {w : World} {v : Value} {c : List Ins} (h : CodeRow L B w v c) : CodeAt w v c := by
  obtain ⟨h1, _⟩ := h
  rcases h1.2 with ⟨e, e0⟩ | ⟨g, cap, cur, hv, _⟩
  · refine ⟨none, 0, by rw [e, e0], fun k hk => by omega⟩
  · refine ⟨some ⟨g, 0, none⟩, cap, hv, fun k hk => ⟨g, 0, rfl, ?_⟩⟩
    rw [hv] at h1
    have q := insCells_get c k hk
    refine ⟨?_, ?_, ?_, ?_⟩
    · rw [Nat.zero_add, h1.cellAt _ (by omega)]; exact q.1
    · rw [Nat.zero_add, h1.cellAt _ (by omega)]; exact q.2.1
    · rw [Nat.zero_add, h1.cellAt _ (by omega)]; exact q.2.2.1
    · rw [Nat.zero_add, h1.cellAt _ (by omega)]; exact q.2.2.2

theorem owns_step {w w' : World} {base : Nat} {e : TypeId} {size : Nat} {v : Value} {n : Nat} {xs : List Value} {r : Option Nat} (h : w.ownsRow base e size v n xs) (hg : w.grownBy w' r) (hr : ∀ k, r = some k → v.ownBlock ≠ some k) : w'.ownsRow base e size v n xs := by
  obtain ⟨h1, h2⟩ := h
  refine ⟨h1, ?_⟩
  rcases h2 with h2 | ⟨g, cap, cur, hv, hb, hh, rest⟩
  · exact Or.inl h2
  · have hlt : g < w.heap.size := (Array.getElem?_eq_some_iff.1 hh).1
    refine Or.inr ⟨g, cap, cur, hv, hb, ?_, rest⟩
    rw [hg.block g hlt (fun e => hr g e.symm (by rw [hv]; rfl))]; exact hh

theorem owns_types {w : World} {b1 b2 e1 e2 z1 z2 : Nat} {v1 v2 : Value} {n1 n2 : Nat} {x1 x2 : List Value} (h1 : w.ownsRow b1 e1 z1 v1 n1 x1) (h2 : w.ownsRow b2 e2 z2 v2 n2 x2) (he : e1 ≠ e2) : ∀ k, v1.ownBlock = some k → v2.ownBlock ≠ some k := by
  intro k hk hk2
  rcases h1.2 with ⟨e, _⟩ | ⟨g, _, c1, hv, _, hh, _⟩
  · rw [e] at hk; cases hk
  · rcases h2.2 with ⟨e, _⟩ | ⟨g', _, c2, hv', _, hh', _⟩
    · rw [e] at hk2; cases hk2
    · rw [hv] at hk
      rw [hv'] at hk2
      have e1 : g = k := by simpa [Value.ownBlock] using hk
      have e2 : g' = k := by simpa [Value.ownBlock] using hk2
      rw [e1] at hh
      rw [e2, hh] at hh'
      simp at hh'
      exact he hh'.2

/-- The threads so far. -/
def ThrAt (L B : Nat) (w : World) (tv : Value) (p : List (List Ins)) : Prop :=
  ∃ rows, w.ownsRow L 29 1 tv p.length rows ∧ (∀ h, tv.ownBlock = some h → h < B) ∧ ∀ j (hj : j < p.length), ∃ rv, rows[j]? = some rv ∧ CodeRow L B w rv p[j]

theorem ThrAt.step {L B : Nat} {w w' : World} {tv : Value} {p : List (List Ins)} {r : Option Nat} (h : ThrAt L B w tv p) (hg : w.grownBy w' r) (hr : ∀ q, r = some q → q < L ∨ B ≤ q) : ThrAt L B w' tv p := by
  obtain ⟨rows, h1, h2, h3⟩ := h
  refine ⟨rows, owns_step h1 hg (fun k e e2 => ?_), h2, fun j hj => ?_⟩
  · have := h2 k e2; have := owns_block h1 k e2; rcases hr k e with q | q <;> omega
  · obtain ⟨rv, e1, e2, e3⟩ := h3 j hj
    refine ⟨rv, e1, owns_step e2 hg (fun k e e4 => ?_), e3⟩
    have := e3 k e4; have := owns_block e2 k e4; rcases hr k e with q | q <;> omega
theorem ThrAt.mono {L B B' : Nat} {w : World} {tv : Value} {p : List (List Ins)} (h : ThrAt L B w tv p) (hb : B ≤ B') : ThrAt L B' w tv p := by
  obtain ⟨rows, h1, h2, h3⟩ := h
  refine ⟨rows, h1, fun q e => Nat.lt_of_lt_of_le (h2 q e) hb, fun j hj => ?_⟩
  obtain ⟨rv, e1, e2, e3⟩ := h3 j hj
  exact ⟨rv, e1, e2, fun q e => Nat.lt_of_lt_of_le (e3 q e) hb⟩

theorem ThrAt.progAt {L B : Nat} {w : World} {tv : Value} {p : List (List Ins)} (h : ThrAt L B w tv p) : ProgAt w (.agg #[tv]) p := by
  obtain ⟨rows, h1, h2, h3⟩ := h
  rcases h1.2 with ⟨e, e0⟩ | ⟨g, cap, cur, hv, _⟩
  · refine ⟨none, 0, by rw [e, e0], fun k hk => by omega⟩
  · refine ⟨some ⟨g, 0, none⟩, cap, by rw [hv], fun j hj => ⟨g, 0, rfl, ?_⟩⟩
    obtain ⟨rv, e1, e2⟩ := h3 j hj
    rw [hv] at h1
    exact ⟨rv, by rw [Nat.zero_add, h1.cellAt j (by omega)]; exact e1, e2.codeAt⟩

/-- p.Threads = append(p.Threads, l): the worlds behind the append. -/
theorem ThrAt.snoc {L B : Nat} {w w1 w2 : World} {tv tv' lv : Value} {p : List (List Ins)} {c : List Ins} {rows : List Value} (h : ThrAt L B w tv p) (ho : w.ownsRow L 29 1 tv p.length rows) (hl : CodeRow L B w lv c) (hg1 : w.grownBy w1 none)
    (hg2 : w1.grownBy w2 tv.ownBlock) (ho2 : w2.ownsRow L 29 1 tv' (p.length + 1) (rows ++ [lv])) (hB : B ≤ w2.heap.size) (ht : ∀ q, tv'.ownBlock = some q → q < w2.heap.size) : ThrAt L w2.heap.size w2 tv' (p ++ [c]) := by
  obtain ⟨rows', h1, h2, h3⟩ := h
  have hrows : rows' = rows := by
    rcases h1.2 with ⟨e, e0⟩ | ⟨g, cap, cur, hv, _, hh, _, _, _, ht1⟩
    · have a1 := h1.1; have a2 := ho.1
      rw [e0] at a1 a2
      rw [List.length_eq_zero_iff.1 (by omega : rows'.length = 0), List.length_eq_zero_iff.1 (by omega : rows.length = 0)]
    · rcases ho.2 with ⟨e, e0⟩ | ⟨g', cap', cur', hv', _, hh', _, _, _, ht2⟩
      · rw [e] at hv; cases hv
      · rw [hv] at hv'
        simp at hv'
        obtain ⟨e1, e2⟩ := hv'
        rw [← e1, hh] at hh'
        simp at hh'
        rw [← ht1, ← ht2, hh']
  subst hrows
  have hrow : ∀ {rv : Value} {c : List Ins}, CodeRow L B w rv c → CodeRow L w2.heap.size w2 rv c := fun {rv c} hc => by
    have a1 := owns_step hc.1 hg1 (fun k e => by cases e)
    have a2 := owns_step h1 hg1 (fun k e => by cases e)
    exact ⟨owns_step a1 hg2 (fun k e => owns_types a2 a1 (by decide) k e), fun q e => Nat.lt_of_lt_of_le (hc.2 q e) hB⟩
  refine ⟨rows' ++ [lv], by simpa using ho2, ht, fun j hj => ?_⟩
  have hlr : rows'.length = p.length := by have := h1.1; omega
  by_cases hlt : j < p.length
  · obtain ⟨rv, e1, e2⟩ := h3 j hlt
    exact ⟨rv, by rw [List.getElem?_append_left (by omega)]; exact e1, by rw [List.getElem_append_left hlt]; exact hrow e2⟩
  · have ej : j = p.length := by simp at hj; omega
    subst ej
    exact ⟨lv, by rw [List.getElem?_append_right (by omega)]; simp [hlr], by simpa using hrow hl⟩

theorem info_ins : ((Tryd.prog.info? 28).map fun i => (i.zero, i.size, i.bytes)) = some (some (.agg #[.int .i64 0, .int .i64 0, .int .i64 0, .int .i64 0]), 4, 32) := by kernel_rfl
theorem info_code : ((Tryd.prog.info? 29).map fun i => (i.zero, i.size, i.bytes)) = some (some (.slice none 0 0), 1, 24) := by kernel_rfl

end Go.Proofs.YtklenjmfalljgaaDoor

/- The walk of program. -/
namespace Go.Proofs.YtklenjmfalljgaaDoor
open Go.RowKit
attribute [local go_sem] Go.World.cell?_alloc_some

def isInt (c : Int) : Prop := -9223372036854775808 ≤ c ∧ c ≤ 9223372036854775807

/-- In the midst of program. -/
def ProgOut (w : World) (raw : List (List Int)) (t : Nat) (w' : World) : Prop :=
  ∃ tv, w'.heap[w.heap.size + 1]? = some (.cells #[tv] 25 (0, 0)) ∧ ThrAt (w.heap.size + 2) w'.heap.size w' tv (thrN raw t) ∧ w.grownBy w' none ∧ w'.heap[w.heap.size]? = some (.cells #[.slice none 0 0] 25 (0, 0)) ∧ w.heap.size + 2 ≤ w'.heap.size

def ProgIn (w : World) (raw : List (List Int)) (t Bt k : Nat) (c : List Ins) (lv : Value) (w' : World) : Prop :=
  ∃ tv, w'.heap[w.heap.size + 1]? = some (.cells #[tv] 25 (0, 0)) ∧ ThrAt (w.heap.size + 2) Bt w' tv (thrN raw t) ∧ w'.ownsRow Bt 28 4 lv k (insCells (c.take k)) ∧ w.grownBy w' none ∧ w'.heap[w.heap.size]? = some (.cells #[.slice none 0 0] 25 (0, 0)) ∧ w.heap.size + 2 ≤ Bt ∧ Bt ≤ w'.heap.size

theorem owns_lt {w : World} {base e size : Nat} {v : Value} {n : Nat} {xs : List Value} (h : w.ownsRow base e size v n xs) : ∀ q, v.ownBlock = some q → q < w.heap.size := fun q eq => by
  rcases h.2 with ⟨e1, _⟩ | ⟨g', _, _, hv, _, hh, _⟩
  · rw [e1] at eq; cases eq
  · rw [hv] at eq
    have := (Array.getElem?_eq_some_iff.1 hh).1
    simp [Value.ownBlock] at eq
    omega

theorem thrN_succ (raw : List (List Int)) (t : Nat) (ht : t < raw.length) : thrN raw (t + 1) = thrN raw t ++ [codeN raw[t]] := by
  unfold thrN
  rw [List.take_succ_eq_append_getElem ht, List.map_append]; rfl
theorem thrN_len (raw : List (List Int)) (t : Nat) (ht : t ≤ raw.length) : (thrN raw t).length = t := by simp [thrN]; omega

theorem heap_alloc_new2 (w : World) (a b : Obj) : ((w.alloc a).alloc b).heap[w.heap.size + 1]? = some b := by
  have := heap_alloc_new (w.alloc a) b
  simpa using this

theorem insV_one (i : Ins) : ∀ v ∈ insV i, v.oneCell' = true := by
  intro v hv; simp only [insV, List.mem_cons, List.not_mem_nil, or_false] at hv
  rcases hv with rfl | rfl | rfl | rfl <;> rfl

set_option maxHeartbeats 8000000 in
set_option maxRecDepth 100000 in
theorem program_t (raw : List (List Int)) (rv : Value) (w : World) (hR : RawAt w rv raw) (hb : ∀ t (ht : t < raw.length) k (hk : k < raw[t].length), isInt raw[t][k]) :
    Calls Tryd.prog 15 #[rv] w fun e w' => ∃ tv, e = .returned (.agg #[tv]) ∧ ThrAt (w.heap.size + 2) w'.heap.size w' tv (progN raw) ∧ w.grownBy w' none := by
  obtain ⟨i0, hi0, hz0, hz1, hz2⟩ := info_parts info_ins
  obtain ⟨i1, hi1, hy0, hy1, hy2⟩ := info_parts info_code
  obtain ⟨ao, cap, rfl, hR⟩ := hR
  have HR := hide hR
  have HBd := hide hb
  clear hR hb
  go_enter Tryd.func15, Tryd.ntmps15
  go_wp2_with fail
  go_loopw [4] (fun i w' => ∃ t : Nat, t ≤ raw.length ∧ t ≤ 4 ∧ i = .int .i64 t ∧ Hid (ProgOut w raw t w')) (fun i _ => raw.length - (intOf i).toNat)
  case atStart =>
    refine ⟨0, Nat.zero_le _, by omega, rfl, .slice none 0 0, ?_, ⟨[], ⟨rfl, Or.inl ⟨rfl, rfl⟩⟩, fun h e => (by cases e), fun j hj => (by simp [thrN] at hj)⟩, grown_alloc (grown_alloc (grown_refl _ _)), ?_, by simp⟩
    · have := heap_alloc_new (w.alloc (.cells #[.slice none 0 0] 25)) (.cells #[.slice none 0 0] 25)
      simpa using this
    · rw [Below.heap_alloc _ _ _ (by simp)]; exact heap_alloc_new w _
  case round =>
    obtain ⟨t, ht, ht4, rfl, HO⟩ := hrel
    obtain ⟨w3, hw3⟩ : ∃ w3, w3 = wr := ⟨_, rfl⟩
    subst hw3
    by_cases hgo : t < raw.length ∧ t < 4
    · obtain ⟨hlt, hlt4⟩ := hgo
      obtain ⟨pg, po, rfl, r1, hr1, hr2⟩ := HR.out t hlt
      obtain ⟨ra, rc, rfl, _, hr3⟩ := hr2
      have hpr : Pres w w3 := by obtain ⟨tv, _, _, hg, _⟩ := HO.out; exact pres_grown hg
      have hr1' := hpr _ _ hr1
      have HBt := hide (HBd.out t hlt)
      have HR3 := hide hr3
      have HCN : Hid (thrN raw (t + 1) = thrN raw t ++ [codeN raw[t]]) := thrN_succ raw t hlt
      clear hpr hr3
      have q0 : (0 : Int) ≤ (t : Int) := by omega
      have q1 : (t : Int) < raw.length := by omega
      have q2 : (t : Int) < 4 := by omega
      generalize raw[t] = r at *
      by_cases h16 : 16 < r.length
      · have g16 : (16 : Int) < r.length := by omega
        have hCl : (codeN r).length = 16 := by rw [codeN_len]; omega
        have HCl := hide hCl
        have hML : 16 ≤ 16 := by omega
        have hMr : 16 ≤ r.length := by omega
        clear hCl
        go_wp2_with fail
        go_loopw [5, 7] (fun lv i w' => ∃ k : Nat, k ≤ 16 ∧ i = .int .i64 k ∧ Hid (ProgIn w raw t w3.heap.size k (codeN r) lv w')) (fun _ i _ => 16 - (intOf i).toNat)
        case atStart =>
          obtain ⟨tv, o1, o2, o3, o4, o5⟩ := HO.out
          exact ⟨0, Nat.zero_le _, rfl, tv, o1, o2, ⟨rfl, Or.inl ⟨rfl, rfl⟩⟩, o3, o4, o5, Nat.le_refl _⟩
        case round =>
          obtain ⟨k, hk, rfl, HJ⟩ := hrel
          obtain ⟨w4, hw4⟩ : ∃ w4, w4 = wr := ⟨_, rfl⟩
          subst hw4
          by_cases hkl : k < 16
          · have hg4 : w.grownBy w4 none := by obtain ⟨tv, _, _, _, hg, _⟩ := HJ.out; exact hg
            have hkr : k < r.length := by omega
            obtain ⟨ig, io, rfl, _, hic⟩ := HR3.out k hkr
            have hic' := pres_grown hg4 _ _ hic
            have hr1'' : w4.cell? ⟨pg, po + t, none⟩ = some (.slice (some ⟨ig, io, none⟩) r.length rc) := pres_grown hg4 _ _ hr1
            have hbd := HBt.out k hkr
            have q3 : (0 : Int) ≤ (k : Int) := by omega
            have q4 : (k : Int) < r.length := by omega
            have q5 : (k : Int) < 16 := by omega
            have HCk : Hid ((codeN r)[k]? = some (insN r[k] ((16 : Nat) : Int))) := by
              unfold Hid codeN
              have e : min r.length 16 = 16 := by omega
              rw [e]
              simp [List.getElem?_take, hkr]
              omega
            clear hic
            generalize r[k] = c at *
            go_wp2_with fail
            refine (instruction_m c _ hbd.1 hbd.2 (by omega) (by omega) _).mono ?_
            rintro e w5 ⟨rfl, hg5⟩
            have HG5 := hide hg5
            have hsz5 := hg5.size
            clear hg5 hic' hr1''
            generalize hins : insN c (16) = i at *
            clear hins
            have h63 : k + 1 ≤ maxLen := by unfold maxLen; omega
            obtain ⟨tv, j1, j2, j3, j4, j5, j6, j7⟩ := HJ.out
            go_wp2_with (at_builtin; refine wpList_append_lies _ rfl _ _ _ rfl w3.heap.size 28 i0 _ 4 32 Tryd.underlying29 hi0 hz0 hz1 hz2 rfl (by omega) u5 k (insCells ((codeN r).take k)) rfl (owns_grown j3 (grown_alloc (grown_alloc HG5.out)) (fun _ e => by cases e)) ⟨w5.heap.size + 1, 0, none⟩ 1 1 (insV i) rfl rfl (World.news_of_block (cs := #[.int .i64 i.op, .int .i64 i.a, .int .i64 i.b, .int .i64 i.n]) (t := 28) (fr := (0, 0)) (heap_alloc_new2 w5 _ _)) (insV_one i) (by omega) h63 (by omega) (by simp; omega) (w5.heap.size + 2) (by simp) ?_; intro g6 cap6 w6 hown6 hgrow hat hlt6)
            have HNX : Hid (ProgIn w raw t w3.heap.size (k + 1) (codeN r) (.slice (some ⟨g6, 0, none⟩) (k + 1) cap6) w6) := by
              have hob := owns_block j3
              have hgw : w4.grownBy ((w5.alloc (.cells #[.int .i64 i.op, .int .i64 i.a, .int .i64 i.b, .int .i64 i.n] 28)).alloc (.cells #[.int .i64 i.op, .int .i64 i.a, .int .i64 i.b, .int .i64 i.n] 28)) none := grown_alloc (grown_alloc HG5.out)
              have hsz6 := hgrow.size
              simp only [World.size_alloc] at hsz6
              have hfar : ∀ q, q < w3.heap.size → w6.heap[q]? = w4.heap[q]? := fun q hq => by
                rw [hgrow.block q (by simp; omega) (fun e => by have := hob q e.symm; omega), hgw.block q (by omega) (by simp)]
              have hkc : k < (codeN r).length := by rw [HCl.out]; omega
              refine ⟨tv, by rw [hfar _ (by omega)]; exact j1, (j2.step hgw (fun q e => by cases e)).step hgrow (fun q e => Or.inr (hob q e)), ?_, grown_row (grown_trans j4 hgw) hgrow (fun q e => by have := hob q e; have := j4.size; omega), by rw [hfar _ (by omega)]; exact j5, j6, by omega⟩
              rw [List.take_succ_eq_append_getElem hkc, insCells_snoc]
              have e1 : (codeN r)[k] = i := by
                have := HCk.out
                rw [List.getElem?_eq_getElem hkc] at this
                simpa using this
              rw [e1]; exact hown6
            clear j1 j2 j3 j4 j5 j6 j7 hgrow hown6 hat
            go_wp2
            go_roundw
            case rel => exact ⟨k + 1, by omega, by go_num, HNX⟩
            case measure => simp [intOf]; omega
          · have hke : k = 16 := by omega
            have q5 : (16 : Int) ≤ (k : Int) := by omega
            obtain ⟨tv, j1, j2, j3, j4, j5, j6, j7⟩ := HJ.out
            have HJ3 : Hid (CodeRow (w.heap.size + 2) w4.heap.size w4 u5 (codeN r)) := by
              refine ⟨?_, owns_lt j3⟩
              rw [List.take_of_length_le (by rw [HCl.out]; omega)] at j3
              rw [HCl.out, ← hke]
              exact owns_mono j3 (by omega)
            obtain ⟨rows, p1, p2, p3⟩ := j2
            have hTl : (thrN raw t).length = t := thrN_len raw t ht
            rw [hTl] at p1
            have P1 := hide p1
            have J2 : Hid (ThrAt (w.heap.size + 2) w3.heap.size w4 tv (thrN raw t)) := ⟨rows, by rw [hTl]; exact p1, p2, p3⟩
            obtain ⟨tva, tvn, tvc, rfl⟩ := owns_form p1
            have c1 : w4.cell? ⟨w.heap.size + 1, 0, none⟩ = some (.slice tva tvn tvc) := by simp [World.cell?, j1]
            have c1f : w4.frozen? ⟨w.heap.size + 1, 0, none⟩ = false := by simp [World.frozen?, j1]
            obtain ⟨la, ln, lc, rfl⟩ := owns_form HJ3.out.1
            have h63 : t + 1 ≤ maxLen := by unfold maxLen; omega
            have J1 := hide j1
            have J5 := hide j5
            have J4 := hide j4
            clear p1 p2 p3 j1 j5 j4 hke j3
            go_wp2_with (at_builtin; refine wpList_append_lies _ rfl _ _ _ rfl (w.heap.size + 2) 29 i1 _ 1 24 Tryd.underlying23 hi1 hy0 hy1 hy2 rfl (by omega) (.slice tva tvn tvc) t rows rfl (owns_alloc P1.out) ⟨w4.heap.size, 0, none⟩ 1 1 [.slice la ln lc] rfl rfl (World.news_of_block (cs := #[.slice la ln lc]) (t := 29) (fr := (0, 0)) (heap_alloc_new w4 _)) (by simp [Value.oneCell']) (by omega) h63 (by omega) (by simp; omega) (w4.heap.size + 1) (by simp) ?_; intro g6 cap6 w6 hown6 hgrow hat hlt6; have c6 : w6.cell? ⟨w.heap.size + 1, 0, none⟩ = some (.slice tva tvn tvc) := (by rw [hgrow.cell_far _ (by simp; omega) (fun e => by have := owns_block P1.out _ e.symm; simp at this), World.cell?_alloc_lt _ _ _ (by simp; omega)]; exact c1); have c6f : w6.frozen? ⟨w.heap.size + 1, 0, none⟩ = false := (by rw [hgrow.frozen_far _ (by simp; omega) (fun e => by have := owns_block P1.out _ e.symm; simp at this), World.frozen?_alloc_old _ _ _ (by simp; omega)]; exact c1f))
            have HNX : Hid (ProgOut w raw (t + 1) (w6.setCell ⟨w.heap.size + 1, 0, none⟩ (.slice (some ⟨g6, 0, none⟩) (t + 1) cap6))) := by
              have hob := owns_block P1.out
              have hsz6 := hgrow.size
              simp only [World.size_alloc] at hsz6
              have hfar : ∀ q, q < w.heap.size + 2 → w6.heap[q]? = w4.heap[q]? := fun q hq => by
                rw [hgrow.block q (by simp; omega) (fun e => by have := hob q e.symm; omega), Below.heap_alloc _ _ _ (by omega)]
              have hsn := ThrAt.snoc (J2.out.mono (by omega : w3.heap.size ≤ w4.heap.size)) (rows := rows) (by rw [hTl]; exact P1.out) HJ3.out (grown_alloc (grown_refl _ _)) hgrow (tv' := .slice (some ⟨g6, 0, none⟩) (t + 1) cap6) (by rw [hTl]; exact hown6) (by omega) (owns_lt hown6)
              refine ⟨.slice (some ⟨g6, 0, none⟩) (t + 1) cap6, ?_, ?_, ?_, ?_, by simp; omega⟩
              · have := heap_setCell_same w6 (w.heap.size + 1) 0 _ _ (.slice (some ⟨g6, 0, none⟩) (t + 1) cap6) (by rw [hfar _ (by omega)]; exact J1.out)
                simpa using this
              · rw [HCN.out, World.size_setCell]
                exact hsn.step grown_set (fun q e => by cases e; exact Or.inl (by omega))
              · exact grown_setNew (grown_row (grown_alloc J4.out) hgrow (fun q e => by have := hob q e; omega)) (by omega)
              · rw [Below.heap_setCell _ _ _ _ (by simp), hfar _ (by omega)]; exact J5.out
            clear hgrow hown6 hat
            go_wp2
            go_roundw
            case rel => exact ⟨t + 1, by omega, by omega, by go_num, HNX⟩
            case measure => simp [intOf]; omega
      · have g16 : (r.length : Int) ≤ 16 := by omega
        have hCl : (codeN r).length = r.length := by rw [codeN_len]; omega
        have HCl := hide hCl
        have hML : r.length ≤ 16 := by omega
        have hMr : r.length ≤ r.length := by omega
        clear hCl
        go_wp2_with fail
        go_loopw [5, 7] (fun lv i w' => ∃ k : Nat, k ≤ r.length ∧ i = .int .i64 k ∧ Hid (ProgIn w raw t w3.heap.size k (codeN r) lv w')) (fun _ i _ => r.length - (intOf i).toNat)
        case atStart =>
          obtain ⟨tv, o1, o2, o3, o4, o5⟩ := HO.out
          exact ⟨0, Nat.zero_le _, rfl, tv, o1, o2, ⟨rfl, Or.inl ⟨rfl, rfl⟩⟩, o3, o4, o5, Nat.le_refl _⟩
        case round =>
          obtain ⟨k, hk, rfl, HJ⟩ := hrel
          obtain ⟨w4, hw4⟩ : ∃ w4, w4 = wr := ⟨_, rfl⟩
          subst hw4
          by_cases hkl : k < r.length
          · have hg4 : w.grownBy w4 none := by obtain ⟨tv, _, _, _, hg, _⟩ := HJ.out; exact hg
            have hkr : k < r.length := by omega
            obtain ⟨ig, io, rfl, _, hic⟩ := HR3.out k hkr
            have hic' := pres_grown hg4 _ _ hic
            have hr1'' : w4.cell? ⟨pg, po + t, none⟩ = some (.slice (some ⟨ig, io, none⟩) r.length rc) := pres_grown hg4 _ _ hr1
            have hbd := HBt.out k hkr
            have q3 : (0 : Int) ≤ (k : Int) := by omega
            have q4 : (k : Int) < r.length := by omega
            have q5 : (k : Int) < (r.length : Int) := by omega
            have HCk : Hid ((codeN r)[k]? = some (insN r[k] ((r.length : Nat) : Int))) := by
              unfold Hid codeN
              have e : min r.length 16 = r.length := by omega
              rw [e]
              simp [List.getElem?_take, hkr]
              omega
            clear hic
            generalize r[k] = c at *
            go_wp2_with fail
            refine (instruction_m c _ hbd.1 hbd.2 (by omega) (by omega) _).mono ?_
            rintro e w5 ⟨rfl, hg5⟩
            have HG5 := hide hg5
            have hsz5 := hg5.size
            clear hg5 hic' hr1''
            generalize hins : insN c ((r.length : Int)) = i at *
            clear hins
            have h63 : k + 1 ≤ maxLen := by unfold maxLen; omega
            obtain ⟨tv, j1, j2, j3, j4, j5, j6, j7⟩ := HJ.out
            go_wp2_with (at_builtin; refine wpList_append_lies _ rfl _ _ _ rfl w3.heap.size 28 i0 _ 4 32 Tryd.underlying29 hi0 hz0 hz1 hz2 rfl (by omega) u5 k (insCells ((codeN r).take k)) rfl (owns_grown j3 (grown_alloc (grown_alloc HG5.out)) (fun _ e => by cases e)) ⟨w5.heap.size + 1, 0, none⟩ 1 1 (insV i) rfl rfl (World.news_of_block (cs := #[.int .i64 i.op, .int .i64 i.a, .int .i64 i.b, .int .i64 i.n]) (t := 28) (fr := (0, 0)) (heap_alloc_new2 w5 _ _)) (insV_one i) (by omega) h63 (by omega) (by simp; omega) (w5.heap.size + 2) (by simp) ?_; intro g6 cap6 w6 hown6 hgrow hat hlt6)
            have HNX : Hid (ProgIn w raw t w3.heap.size (k + 1) (codeN r) (.slice (some ⟨g6, 0, none⟩) (k + 1) cap6) w6) := by
              have hob := owns_block j3
              have hgw : w4.grownBy ((w5.alloc (.cells #[.int .i64 i.op, .int .i64 i.a, .int .i64 i.b, .int .i64 i.n] 28)).alloc (.cells #[.int .i64 i.op, .int .i64 i.a, .int .i64 i.b, .int .i64 i.n] 28)) none := grown_alloc (grown_alloc HG5.out)
              have hsz6 := hgrow.size
              simp only [World.size_alloc] at hsz6
              have hfar : ∀ q, q < w3.heap.size → w6.heap[q]? = w4.heap[q]? := fun q hq => by
                rw [hgrow.block q (by simp; omega) (fun e => by have := hob q e.symm; omega), hgw.block q (by omega) (by simp)]
              have hkc : k < (codeN r).length := by rw [HCl.out]; omega
              refine ⟨tv, by rw [hfar _ (by omega)]; exact j1, (j2.step hgw (fun q e => by cases e)).step hgrow (fun q e => Or.inr (hob q e)), ?_, grown_row (grown_trans j4 hgw) hgrow (fun q e => by have := hob q e; have := j4.size; omega), by rw [hfar _ (by omega)]; exact j5, j6, by omega⟩
              rw [List.take_succ_eq_append_getElem hkc, insCells_snoc]
              have e1 : (codeN r)[k] = i := by
                have := HCk.out
                rw [List.getElem?_eq_getElem hkc] at this
                simpa using this
              rw [e1]; exact hown6
            clear j1 j2 j3 j4 j5 j6 j7 hgrow hown6 hat
            go_wp2
            go_roundw
            case rel => exact ⟨k + 1, by omega, by go_num, HNX⟩
            case measure => simp [intOf]; omega
          · have hke : k = r.length := by omega
            have q5 : ((r.length : Int) : Int) ≤ (k : Int) := by omega
            obtain ⟨tv, j1, j2, j3, j4, j5, j6, j7⟩ := HJ.out
            have HJ3 : Hid (CodeRow (w.heap.size + 2) w4.heap.size w4 u5 (codeN r)) := by
              refine ⟨?_, owns_lt j3⟩
              rw [List.take_of_length_le (by rw [HCl.out]; omega)] at j3
              rw [HCl.out, ← hke]
              exact owns_mono j3 (by omega)
            obtain ⟨rows, p1, p2, p3⟩ := j2
            have hTl : (thrN raw t).length = t := thrN_len raw t ht
            rw [hTl] at p1
            have P1 := hide p1
            have J2 : Hid (ThrAt (w.heap.size + 2) w3.heap.size w4 tv (thrN raw t)) := ⟨rows, by rw [hTl]; exact p1, p2, p3⟩
            obtain ⟨tva, tvn, tvc, rfl⟩ := owns_form p1
            have c1 : w4.cell? ⟨w.heap.size + 1, 0, none⟩ = some (.slice tva tvn tvc) := by simp [World.cell?, j1]
            have c1f : w4.frozen? ⟨w.heap.size + 1, 0, none⟩ = false := by simp [World.frozen?, j1]
            obtain ⟨la, ln, lc, rfl⟩ := owns_form HJ3.out.1
            have h63 : t + 1 ≤ maxLen := by unfold maxLen; omega
            have J1 := hide j1
            have J5 := hide j5
            have J4 := hide j4
            clear p1 p2 p3 j1 j5 j4 hke j3
            go_wp2_with (at_builtin; refine wpList_append_lies _ rfl _ _ _ rfl (w.heap.size + 2) 29 i1 _ 1 24 Tryd.underlying23 hi1 hy0 hy1 hy2 rfl (by omega) (.slice tva tvn tvc) t rows rfl (owns_alloc P1.out) ⟨w4.heap.size, 0, none⟩ 1 1 [.slice la ln lc] rfl rfl (World.news_of_block (cs := #[.slice la ln lc]) (t := 29) (fr := (0, 0)) (heap_alloc_new w4 _)) (by simp [Value.oneCell']) (by omega) h63 (by omega) (by simp; omega) (w4.heap.size + 1) (by simp) ?_; intro g6 cap6 w6 hown6 hgrow hat hlt6; have c6 : w6.cell? ⟨w.heap.size + 1, 0, none⟩ = some (.slice tva tvn tvc) := (by rw [hgrow.cell_far _ (by simp; omega) (fun e => by have := owns_block P1.out _ e.symm; simp at this), World.cell?_alloc_lt _ _ _ (by simp; omega)]; exact c1); have c6f : w6.frozen? ⟨w.heap.size + 1, 0, none⟩ = false := (by rw [hgrow.frozen_far _ (by simp; omega) (fun e => by have := owns_block P1.out _ e.symm; simp at this), World.frozen?_alloc_old _ _ _ (by simp; omega)]; exact c1f))
            have HNX : Hid (ProgOut w raw (t + 1) (w6.setCell ⟨w.heap.size + 1, 0, none⟩ (.slice (some ⟨g6, 0, none⟩) (t + 1) cap6))) := by
              have hob := owns_block P1.out
              have hsz6 := hgrow.size
              simp only [World.size_alloc] at hsz6
              have hfar : ∀ q, q < w.heap.size + 2 → w6.heap[q]? = w4.heap[q]? := fun q hq => by
                rw [hgrow.block q (by simp; omega) (fun e => by have := hob q e.symm; omega), Below.heap_alloc _ _ _ (by omega)]
              have hsn := ThrAt.snoc (J2.out.mono (by omega : w3.heap.size ≤ w4.heap.size)) (rows := rows) (by rw [hTl]; exact P1.out) HJ3.out (grown_alloc (grown_refl _ _)) hgrow (tv' := .slice (some ⟨g6, 0, none⟩) (t + 1) cap6) (by rw [hTl]; exact hown6) (by omega) (owns_lt hown6)
              refine ⟨.slice (some ⟨g6, 0, none⟩) (t + 1) cap6, ?_, ?_, ?_, ?_, by simp; omega⟩
              · have := heap_setCell_same w6 (w.heap.size + 1) 0 _ _ (.slice (some ⟨g6, 0, none⟩) (t + 1) cap6) (by rw [hfar _ (by omega)]; exact J1.out)
                simpa using this
              · rw [HCN.out, World.size_setCell]
                exact hsn.step grown_set (fun q e => by cases e; exact Or.inl (by omega))
              · exact grown_setNew (grown_row (grown_alloc J4.out) hgrow (fun q e => by have := hob q e; omega)) (by omega)
              · rw [Below.heap_setCell _ _ _ _ (by simp), hfar _ (by omega)]; exact J5.out
            clear hgrow hown6 hat
            go_wp2
            go_roundw
            case rel => exact ⟨t + 1, by omega, by omega, by go_num, HNX⟩
            case measure => simp [intOf]; omega
    · obtain ⟨tv, j1, j2, j4, j5, j6⟩ := HO.out
      have hTe : thrN raw t = thrN raw 4 := by
        unfold thrN
        by_cases h4 : t = 4
        · rw [h4]
        · rw [List.take_of_length_le (by omega), List.take_of_length_le (by omega)]
      have hTl : (thrN raw t).length = t := thrN_len raw t ht
      have HT : Hid (ThrAt (w.heap.size + 2) w3.heap.size w3 tv (thrN raw 4)) := by rw [← hTe]; exact j2
      obtain ⟨rows, p1, p2, p3⟩ := j2
      rw [hTl] at p1
      have P1 := hide p1
      obtain ⟨tva, tvn, tvc, rfl⟩ := owns_form p1
      have hn := owns_lenq p1
      subst hn
      have c1 : w3.cell? ⟨w.heap.size + 1, 0, none⟩ = some (.slice tva tvn tvc) := by simp [World.cell?, j1]
      have c1f : w3.frozen? ⟨w.heap.size + 1, 0, none⟩ = false := by simp [World.frozen?, j1]
      have c2 : w3.cell? ⟨w.heap.size, 0, none⟩ = some (.slice none 0 0) := by simp [World.cell?, j5]
      have c2f : w3.frozen? ⟨w.heap.size, 0, none⟩ = false := by simp [World.frozen?, j5]
      have J1 := hide j1
      have J4 := hide j4
      have J5 := hide j5
      have HTe := hide hTe
      have HTl := hide hTl
      have HNG := hide hgo
      clear p1 p2 p3 j1 j4 j5 hgo hTe hTl
      have q0 : (0 : Int) ≤ (tvn : Int) := by omega
      by_cases h0 : tvn = 0
      · have hr0 : raw.length = 0 := by
          by_cases e : raw.length = 0
          · exact e
          · exact absurd ⟨by omega, by omega⟩ HNG.out
        subst h0
        have hrr : (raw.length : Int) ≤ 0 := by omega
        have HPN : Hid (progN raw = thrN raw 4 ++ [[]]) := by
          unfold Hid progN
          have e : (thrN raw 4).length = 0 := by rw [← HTe.out]; exact HTl.out
          rw [if_pos e, List.length_eq_zero_iff.1 e]; rfl
        go_wp2_with (at_builtin; refine wpList_append_lies _ rfl _ _ _ rfl (w.heap.size + 2) 29 i1 _ 1 24 Tryd.underlying23 hi1 hy0 hy1 hy2 rfl (by omega) (.slice tva 0 tvc) 0 rows rfl (owns_alloc P1.out) ⟨w3.heap.size, 0, none⟩ 1 1 [.slice none 0 0] rfl rfl (World.news_of_block (cs := #[.slice none 0 0]) (t := 29) (fr := (0, 0)) (heap_alloc_new w3 _)) (by simp [Value.oneCell']) (by omega) (by unfold maxLen; omega) (by omega) (by simp; omega) (w3.heap.size + 1) (by simp) ?_; intro g6 cap6 w6 hown6 hgrow hat hlt6; have c6 : w6.cell? ⟨w.heap.size + 1, 0, none⟩ = some (.slice tva 0 tvc) := (by rw [hgrow.cell_far _ (by simp; omega) (fun e => by have := owns_block P1.out _ e.symm; simp at this), World.cell?_alloc_lt _ _ _ (by simp; omega)]; exact c1); have c6f : w6.frozen? ⟨w.heap.size + 1, 0, none⟩ = false := (by rw [hgrow.frozen_far _ (by simp; omega) (fun e => by have := owns_block P1.out _ e.symm; simp at this), World.frozen?_alloc_old _ _ _ (by simp; omega)]; exact c1f); have c7 : w6.cell? ⟨w.heap.size, 0, none⟩ = some (.slice none 0 0) := (by rw [hgrow.cell_far _ (by simp; omega) (fun e => by have := owns_block P1.out _ e.symm; simp at this; omega), World.cell?_alloc_lt _ _ _ (by simp; omega)]; exact c2); have c7f : w6.frozen? ⟨w.heap.size, 0, none⟩ = false := (by rw [hgrow.frozen_far _ (by simp; omega) (fun e => by have := owns_block P1.out _ e.symm; simp at this; omega), World.frozen?_alloc_old _ _ _ (by simp; omega)]; exact c2f))
        have hob := owns_block P1.out
        have hsz6 := hgrow.size
        simp only [World.size_alloc] at hsz6
        have hsn := ThrAt.snoc HT.out (rows := rows) (lv := .slice none 0 0) (c := []) (by rw [← HTe.out, HTl.out]; exact P1.out) ⟨⟨rfl, Or.inl ⟨rfl, rfl⟩⟩, fun h e => by cases e⟩ (grown_alloc (grown_refl _ _)) hgrow (tv' := .slice (some ⟨g6, 0, none⟩) (0 + 1) cap6) (by rw [← HTe.out, HTl.out]; exact hown6) (by omega) (owns_lt hown6)
        rw [← HPN.out] at hsn
        refine bodyPost_ret (v := .agg #[.slice (some ⟨g6, 0, none⟩) (0 + 1) cap6]) ?_ rfl ⟨_, rfl, ?_, ?_⟩
        · simp [results, Tryd.results15, go_sem, c7]
        · exact ((hsn.step grown_set (fun q e => by cases e; exact Or.inl (by omega))).step grown_set (fun q e => by cases e; exact Or.inl (by omega))).mono (by simp)
        · exact grown_setNew (grown_setNew (grown_row (grown_alloc J4.out) hgrow (fun q e => by have := hob q e; omega)) (by omega)) (by omega)
      · have HPN : Hid (progN raw = thrN raw 4) := by
          unfold Hid progN
          have e : (thrN raw 4).length ≠ 0 := by rw [← HTe.out, HTl.out]; exact h0
          rw [if_neg e]
        have hne : ((tvn : Int) == 0) = false := by simpa using h0
        by_cases hlt : tvn < raw.length
        · have g1 : (tvn : Int) < raw.length := by omega
          have g2 : (4 : Int) ≤ tvn := by
            by_cases e : tvn < 4
            · exact absurd ⟨hlt, e⟩ HNG.out
            · omega
          go_wp2_with fail
          rw [HPN.out]
          refine bodyPost_ret (v := .agg #[.slice tva tvn tvc]) ?_ rfl ⟨_, rfl, ?_, ?_⟩
          · simp [results, Tryd.results15, go_sem, c2]
          · exact (HT.out.step grown_set (fun q e => by cases e; exact Or.inl (by omega))).mono (by simp)
          · exact grown_setNew J4.out (by omega)
        · have g1 : (raw.length : Int) ≤ tvn := by omega
          go_wp2_with fail
          rw [HPN.out]
          refine bodyPost_ret (v := .agg #[.slice tva tvn tvc]) ?_ rfl ⟨_, rfl, ?_, ?_⟩
          · simp [results, Tryd.results15, go_sem, c2]
          · exact (HT.out.step grown_set (fun q e => by cases e; exact Or.inl (by omega))).mono (by simp)
          · exact grown_setNew J4.out (by omega)

theorem program_m (raw : List (List Int)) (rv : Value) (w : World) (hR : RawAt w rv raw) (hb : ∀ t (ht : t < raw.length) k (hk : k < raw[t].length), isInt raw[t][k]) :
    Calls Tryd.prog 15 #[rv] w fun e w' => ∃ tv, e = .returned (.agg #[tv]) ∧ ProgAt w' (.agg #[tv]) (progN raw) ∧ w.grownBy w' none :=
  (program_t raw rv w hR hb).mono fun _ _ ⟨tv, h1, h2, h3⟩ => ⟨tv, h1, h2.progAt, h3⟩

end Go.Proofs.YtklenjmfalljgaaDoor

/- Threads that change places. -/
namespace Go.Proofs.YtklenjmfalljgaaDoor

/-- f and g turn the numbers below n into one another. -/
structure Ren (n : Nat) (f g : Nat → Nat) : Prop where
  lt : ∀ t, t < n → f t < n
  glt : ∀ t, t < n → g t < n
  fg : ∀ x, x < n → f (g x) = x
  gf : ∀ t, t < n → g (f t) = t

theorem Ren.inj {n : Nat} {f g : Nat → Nat} (R : Ren n f g) {a b : Nat} (ha : a < n) (hb : b < n) (h : f a = f b) : a = b := by
  rw [← R.gf a ha, ← R.gf b hb, h]

/-- Two states that differ by the threads' places alone: thread t of the second is thread f t of the first. -/
structure Alk (n : Nat) (f : Nat → Nat) (s s' : St) : Prop where
  vars : s'.vars = s.vars
  held : s'.held = s.held
  own : ∀ l, s.held l = true → ∃ y : Nat, y < n ∧ s'.own l = y ∧ s.own l = f y
  regs : ∀ t, t < n → s'.regs t = s.regs (f t)
  next : ∀ t, t < n → s'.next t = s.next (f t)

variable {n : Nat} {f g : Nat → Nat}

theorem Alk.zero : Alk n f St.zero St.zero := ⟨rfl, rfl, fun l h => by simp [St.zero] at h, fun _ _ => rfl, fun _ _ => rfl⟩

theorem Alk.setReg (R : Ren n f g) {s s' : St} (A : Alk n f s s') {t : Nat} (ht : t < n) (r : Nat) (v : Int) : Alk n f (s.setReg (f t) r v) (s'.setReg t r v) := by
  refine ⟨A.vars, A.held, A.own, fun t' h' => ?_, A.next⟩
  funext r'
  simp only [St.setReg]
  by_cases e : t' = t
  · simp [e, A.regs t ht]
  · have e2 : f t' ≠ f t := fun h => e (R.inj h' ht h)
    simp [e, e2, A.regs t' h']

theorem Alk.setVar {s s' : St} (A : Alk n f s s') (x : Nat) (v : Int) : Alk n f (s.setVar x v) (s'.setVar x v) := by
  refine ⟨?_, A.held, A.own, A.regs, A.next⟩
  simp only [St.setVar, A.vars]

theorem Alk.setNext (R : Ren n f g) {s s' : St} (A : Alk n f s s') {t : Nat} (ht : t < n) (v : Int) : Alk n f (s.setNext (f t) v) (s'.setNext t v) := by
  refine ⟨A.vars, A.held, A.own, A.regs, fun t' h' => ?_⟩
  simp only [St.setNext]
  by_cases e : t' = t
  · simp [e]
  · have e2 : f t' ≠ f t := fun h => e (R.inj h' ht h)
    simp [e, e2, A.next t' h']

theorem Alk.take {s s' : St} (A : Alk n f s s') {t : Nat} (ht : t < n) (l : Nat) : Alk n f (s.setLock l true (f t)) (s'.setLock l true t) := by
  refine ⟨A.vars, by simp only [St.setLock, A.held], fun l' h => ?_, A.regs, A.next⟩
  simp only [St.setLock] at h ⊢
  by_cases e : l' = l
  · simp only [e, if_true]; exact ⟨t, ht, rfl, rfl⟩
  · simp only [e, if_false] at h ⊢
    exact A.own l' h

theorem Alk.give {s s' : St} (A : Alk n f s s') (l : Nat) : Alk n f (s.setLock l false 0) (s'.setLock l false 0) := by
  refine ⟨A.vars, by simp only [St.setLock, A.held], fun l' h => ?_, A.regs, A.next⟩
  simp only [St.setLock] at h ⊢
  by_cases e : l' = l
  · simp [e] at h
  · simp only [e, if_false] at h ⊢
    exact A.own l' h

def RelP (n : Nat) (f : Nat → Nat) (x x' : Bool × St) : Prop := x'.1 = x.1 ∧ Alk n f x.2 x'.2

theorem act_ren (R : Ren n f g) {s s' : St} (A : Alk n f s s') {t : Nat} (ht : t < n) (i : Ins) : RelP n f (act (f t) i s) (act t i s') := by
  unfold act
  rw [A.regs t ht, A.vars, A.held]
  by_cases h1 : i.op = 1
  · rw [if_pos h1, if_pos h1]; exact ⟨rfl, A.setReg R ht _ _⟩
  rw [if_neg h1, if_neg h1]
  by_cases h1 : i.op = 2
  · rw [if_pos h1, if_pos h1]; exact ⟨rfl, A.setReg R ht _ _⟩
  rw [if_neg h1, if_neg h1]
  by_cases h1 : i.op = 3
  · rw [if_pos h1, if_pos h1]; exact ⟨rfl, A.setVar _ _⟩
  rw [if_neg h1, if_neg h1]
  by_cases h1 : i.op = 4
  · rw [if_pos h1, if_pos h1]; exact ⟨rfl, A.setReg R ht _ _⟩
  rw [if_neg h1, if_neg h1]
  by_cases h1 : i.op = 5
  · rw [if_pos h1, if_pos h1]; exact ⟨rfl, A.setReg R ht _ _⟩
  rw [if_neg h1, if_neg h1]
  by_cases h1 : i.op = 6
  · rw [if_pos h1, if_pos h1]; exact ⟨rfl, A.setReg R ht _ _⟩
  rw [if_neg h1, if_neg h1]
  by_cases h1 : i.op = 7
  · rw [if_pos h1, if_pos h1]
    by_cases h0 : s.regs (f t) i.b.toNat = 0
    · rw [if_pos h0, if_pos h0]; exact ⟨rfl, A⟩
    · rw [if_neg h0, if_neg h0]; exact ⟨rfl, A.setReg R ht _ _⟩
  rw [if_neg h1, if_neg h1]
  by_cases h1 : i.op = 8
  · rw [if_pos h1, if_pos h1]
    by_cases h0 : s.regs (f t) i.a.toNat = 0
    · rw [if_pos h0, if_pos h0]; exact ⟨rfl, A.setNext R ht _⟩
    · rw [if_neg h0, if_neg h0]; exact ⟨rfl, A⟩
  rw [if_neg h1, if_neg h1]
  by_cases h1 : i.op = 9
  · rw [if_pos h1, if_pos h1]; exact ⟨rfl, A.take ht _⟩
  rw [if_neg h1, if_neg h1]
  by_cases h1 : i.op = 10
  · rw [if_pos h1, if_pos h1]
    by_cases hh : s.held i.a.toNat = true
    · obtain ⟨y, hy, e1, e2⟩ := A.own _ hh
      by_cases h0 : y = t
      · rw [if_pos ⟨hh, by rw [e2, h0]⟩, if_pos ⟨hh, by rw [e1, h0]⟩]; exact ⟨rfl, A.give _⟩
      · have h2 : f y ≠ f t := fun h => h0 (R.inj hy ht h)
        rw [if_neg (fun h => h2 (by have := h.2; rw [e2] at this; omega)), if_neg (fun h => h0 (by have := h.2; rw [e1] at this; omega))]; exact ⟨rfl, A⟩
    · rw [if_neg (fun h => hh h.1), if_neg (fun h => hh h.1)]; exact ⟨rfl, A⟩
  rw [if_neg h1, if_neg h1]
  exact ⟨rfl, A⟩

/-- q is p with its threads' places changed. -/
structure Moved (p q : List (List Ins)) (f : Nat → Nat) : Prop where
  len : q.length = p.length
  code : ∀ t, t < p.length → codeOf q t = codeOf p (f t)

section
variable {p q : List (List Ins)} {s s' : St}

theorem done_ren (M : Moved p q f) (A : Alk p.length f s s') {t : Nat} (ht : t < p.length) : doneB q s' t = doneB p s (f t) := by simp [doneB, A.next t ht, M.code t ht]
theorem ready_ren (M : Moved p q f) (A : Alk p.length f s s') {t : Nat} (ht : t < p.length) : readyB q s' t = readyB p s (f t) := by
  simp [readyB, done_ren M A ht, insAt, A.next t ht, M.code t ht, A.held]
theorem step_ren (R : Ren p.length f g) (M : Moved p q f) (A : Alk p.length f s s') {t : Nat} (ht : t < p.length) : RelP p.length f (stepS p s (f t)) (stepS q s' t) := by
  have h := act_ren R (A.setNext R ht (s.next (f t) + 1)) ht (insAt p (f t) (s.next (f t)))
  unfold stepS
  rw [A.next t ht]
  have e : insAt q t (s.next (f t)) = insAt p (f t) (s.next (f t)) := by simp [insAt, M.code t ht]
  rw [e]; exact h

theorem ending_ren (R : Ren p.length f g) (M : Moved p q f) (A : Alk p.length f s s') : endingS q s' = endingS p s := by
  have h1 : (List.range q.length).any (readyB q s') = (List.range p.length).any (readyB p s) := by
    rw [Bool.eq_iff_iff, List.any_eq_true, List.any_eq_true, M.len]
    constructor
    · rintro ⟨t, h, e⟩
      have ht := List.mem_range.1 h
      exact ⟨f t, List.mem_range.2 (R.lt t ht), by rw [← ready_ren M A ht]; exact e⟩
    · rintro ⟨x, h, e⟩
      have hx := List.mem_range.1 h
      exact ⟨g x, List.mem_range.2 (R.glt x hx), by rw [ready_ren M A (R.glt x hx), R.fg x hx]; exact e⟩
  have h2 : (List.range q.length).all (doneB q s') = (List.range p.length).all (doneB p s) := by
    rw [Bool.eq_iff_iff, List.all_eq_true, List.all_eq_true, M.len]
    constructor
    · intro h x hx
      have hx := List.mem_range.1 hx
      have := h (g x) (List.mem_range.2 (R.glt x hx))
      rw [done_ren M A (R.glt x hx), R.fg x hx] at this; exact this
    · intro h t ht
      have ht := List.mem_range.1 ht
      rw [done_ren M A ht]
      exact h _ (List.mem_range.2 (R.lt t ht))
  unfold endingS
  rw [h1, h2]
end

/-- What is asked of the two runs. -/
structure SameRun (n : Nat) (f g : Nat → Nat) (o o' : Out) : Prop where
  len : o'.steps.length = o.steps.length
  kind : o'.kind = o.kind
  at_ : o'.at_ = o.at_
  thread : o.kind = 1 → 0 ≤ o.thread ∧ o.thread < n ∧ o'.thread = g o.thread.toNat
  st : Alk n f o.st o'.st

theorem follow_ren {p q : List (List Ins)} (R : Ren p.length f g) (M : Moved p q f) : ∀ (a : List Int) (i : Int) (s s' : St) (acc acc' : List (Int × Int)), Alk p.length f s s' → acc'.length = acc.length → (∀ x ∈ a, 0 ≤ x ∧ x < p.length) →
    SameRun p.length f g (follow p a i s acc) (follow q (a.map fun x => (g x.toNat : Int)) i s' acc')
  | [], i, s, s', acc, acc', A, hl, _ => by
    rw [List.map_nil, follow_nil, follow_nil]
    refine ⟨hl, ending_ren R M A, rfl, fun h => ?_, A⟩
    have := endingS_range p s
    simp only at h
    omega
  | t :: r, i, s, s', acc, acc', A, hl, hx => by
    obtain ⟨h0, h1⟩ := hx t (by simp)
    have ht : t.toNat < p.length := by omega
    have hg := R.glt _ ht
    have hfg := R.fg _ ht
    have hok : okAt q s' (g t.toNat : Int) = okAt p s t := by
      have e := ready_ren M A hg
      rw [hfg] at e
      simp only [okAt, belowB, M.len, Int.toNat_natCast, e]
      have : (0 : Int) ≤ (g t.toNat : Int) ∧ (g t.toNat : Int) < (p.length : Int) := by omega
      simp [this.1, this.2, h0, h1]
    have hs := step_ren R M A hg
    rw [hfg] at hs
    have hn := A.next _ hg
    rw [hfg] at hn
    rw [List.map_cons]
    by_cases hk : okAt p s t = true
    · rw [hk] at hok
      by_cases h2 : (stepS p s t.toNat).1 = true
      · have h2' : (stepS q s' (g t.toNat : Int).toNat).1 = true := by rw [Int.toNat_natCast, hs.1]; exact h2
        rw [follow_go p t r i s acc hk h2, follow_go q _ _ i s' acc' hok h2']
        exact follow_ren R M r (i + 1) _ _ _ _ (by rw [Int.toNat_natCast]; exact hs.2) (by simp [hl]) (fun x h => hx x (by simp [h]))
      · have h3 : (stepS p s t.toNat).1 = false := by simpa using h2
        have h3' : (stepS q s' (g t.toNat : Int).toNat).1 = false := by rw [Int.toNat_natCast, hs.1]; exact h3
        rw [follow_fail p t r i s acc hk h3, follow_fail q _ _ i s' acc' hok h3']
        exact ⟨by simp [hl], rfl, by simp [hn], fun _ => ⟨h0, h1, rfl⟩, by simpa using hs.2⟩
    · have hk2 : okAt p s t = false := by simpa using hk
      rw [hk2] at hok
      rw [follow_wrong p t r i s acc hk2, follow_wrong q _ _ i s' acc' hok]
      exact ⟨hl, rfl, rfl, fun h => by simp at h, A⟩

theorem sched_range {p : List (List Ins)} {a : List Int} (h : Sched p a) : ∀ x ∈ a, 0 ≤ x ∧ x < p.length := by
  intro x hx
  obtain ⟨k, hk, rfl⟩ := List.getElem_of_mem hx
  obtain ⟨s', acc', _, _, h3⟩ := sched_prefix h hk
  simp only [okAt, Bool.and_eq_true, belowB, decide_eq_true_eq] at h3
  exact h3.1

theorem run_ren {p q : List (List Ins)} (R : Ren p.length f g) (M : Moved p q f) {a : List Int} (h : Sched p a) : SameRun p.length f g (runS p a) (runS q (a.map fun x => (g x.toNat : Int))) :=
  follow_ren R M a 0 _ _ [] [] Alk.zero rfl (sched_range h)

/-- The turn by d places. -/
def turnF (n d t : Nat) : Nat := (t + d) % n
def turnG (n d x : Nat) : Nat := (x + n - d) % n
theorem turn_ren {n d : Nat} (h1 : 1 ≤ n) (h4 : n ≤ 4) (hd : d < n) : Ren n (turnF n d) (turnG n d) := by
  have hn : n = 1 ∨ n = 2 ∨ n = 3 ∨ n = 4 := by omega
  refine ⟨fun t ht => Nat.mod_lt _ (by omega), fun t ht => Nat.mod_lt _ (by omega), fun x hx => ?_, fun t ht => ?_⟩ <;>
    · unfold turnF turnG
      rcases hn with rfl | rfl | rfl | rfl <;> omega

end Go.Proofs.YtklenjmfalljgaaDoor

/- Equality of two equal arrays of four ints. -/
namespace Go.Proofs.YtklenjmfalljgaaDoor
open Go.RowKit

theorem run_eq4 (a b c d : Int) (w : World) : (Op.equalIn 10000 34 (.agg #[.int .i64 a, .int .i64 b, .int .i64 c, .int .i64 d]) (.agg #[.int .i64 a, .int .i64 b, .int .i64 c, .int .i64 d])).run Tryd.prog w = .ok true w := by
  obtain ⟨i0, hi0, hz0, hz1, hz2⟩ := info_parts info_int
  have hc : Tryd.prog.cellsOf 3 = 1 := by simp [Program.cellsOf, hi0, hz1]
  have hk : Tryd.prog.plainKey 3 = true := by simp [Program.plainKey, Tryd.underlying3]
  rw [show (10000 : Nat) = 9999 + 1 from rfl, run_equalIn_array w 9999 _ _ (n := 4) (e := 3) (by first | exact Tryd.underlying34 | kernel_rfl) hi0, hc]
  have he : ∀ (d : Nat) (v : Int), (Op.equalIn (d + 1) 3 (.int .i64 v) (.int .i64 v)).run Tryd.prog w = .ok true w := fun d v => by
    rw [run_equalIn_int w d _ _ .i64 v v Tryd.underlying3]; simp
  have hq := he 9998
  simp only [Nat.reduceAdd] at hq
  have p0 := run_part_plain w hk (xs := #[.int .i64 a, .int .i64 b, .int .i64 c, .int .i64 d]) (off := 0) rfl
  have p1 := run_part_plain w hk (xs := #[.int .i64 a, .int .i64 b, .int .i64 c, .int .i64 d]) (off := 1) rfl
  have p2 := run_part_plain w hk (xs := #[.int .i64 a, .int .i64 b, .int .i64 c, .int .i64 d]) (off := 2) rfl
  have p3 := run_part_plain w hk (xs := #[.int .i64 a, .int .i64 b, .int .i64 c, .int .i64 d]) (off := 3) rfl
  simp [List.range, List.range.loop, Op.eqItems, Sem.run_bind, p0, p1, p2, p3, hq, Result.andThen_ok]

end Go.Proofs.YtklenjmfalljgaaDoor
