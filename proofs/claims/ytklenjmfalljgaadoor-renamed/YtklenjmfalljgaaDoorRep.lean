/- The walks of Valid, Check, checkRun and Replay. -/
import Derived.Test.YtklenjmfalljgaaDoorNew2
namespace Go.Proofs.YtklenjmfalljgaaDoor
open Go.RowKit
attribute [local go_sem] Go.World.cell?_alloc_some

set_option maxHeartbeats 1000000 in
set_option maxRecDepth 100000 in
theorem valid_m (p : List (List Ins)) (pv : Value) (w : World) (hS : ShpAt w) (hP : ProgAt w pv p) :
    Calls Tryd.prog 74 #[pv] w fun e w' => e = .returned (.bool (vProg p)) ∧ w.grownBy w' none := by
  obtain ⟨ao, cap, rfl, hP⟩ := hP
  have HSh := hide hS
  have HP := hide hP
  clear hS hP
  by_cases h1 : 1 ≤ p.length
  · by_cases h4 : p.length ≤ 4
    · have g1 : (1 : Int) ≤ p.length := by omega
      have g4 : (p.length : Int) ≤ 4 := by omega
      have HV : Hid (vProg p = p.all vCode) := by unfold Hid; simp [vProg, h1, h4]
      go_enter Tryd.func74, Tryd.ntmps74
      go_wp2
      go_loopw [18] (fun i w' => ∃ k : Nat, k ≤ p.length ∧ i = .int .i64 k ∧ Hid (w.grownBy w' none) ∧ Hid ((p.take k).all vCode = true)) (fun i _ => p.length - (intOf i).toNat)
      case atStart => exact ⟨0, Nat.zero_le _, rfl, grown_alloc (grown_refl _ _), rfl⟩
      case round =>
        obtain ⟨k, hk, rfl, HG, HA⟩ := hrel
        by_cases hlt : k < p.length
        · obtain ⟨g, o, rfl, rv, c0, c1⟩ := HP.out k hlt
          have hpr := pres_grown HG.out
          have d0 := hpr _ _ c0
          have D1 := hide (c1.pres hpr)
          have HAs := hide (all_take_succ p vCode k hlt)
          have HSh' : Hid (ShpAt wr) := HSh.out.pres hpr
          clear c0 c1 hpr
          have hk0 : (0 : Int) ≤ (k : Int) := by omega
          have hk1 : (k : Int) < p.length := by omega
          generalize p[k] = c at *
          go_wp2_with fail
          refine (validThread_m c rv _ HSh'.out D1.out).mono ?_
          rintro e w1 ⟨rfl, hg1⟩
          have HG1 : Hid (w.grownBy w1 none) := grown_trans HG.out hg1
          clear hg1
          cases hv : vCode c
          · have HE : Hid (vProg p = false) := by
              unfold Hid
              rw [HV.out]
              have : (p.take (k + 1)).all vCode = false := by rw [HAs.out, hv]; simp
              rw [← List.take_append_drop (k + 1) p, List.all_append, this]; rfl
            go_wp2_with fail
            go_ret
            exact ⟨by rw [HE.out]; rfl, HG1⟩
          · have HA1 : Hid ((p.take (k + 1)).all vCode = true) := by unfold Hid; rw [HAs.out, hv, HA.out]; rfl
            clear HAs hv
            go_wp2
            go_roundw
            case rel => exact ⟨k + 1, by omega, by go_num, HG1, HA1⟩
            case measure => simp [intOf]; omega
        · have HE : Hid (vProg p = true) := by
            unfold Hid
            rw [HV.out]
            have := HA.out
            rw [List.take_of_length_le (by omega)] at this
            exact this
          go_wp2
          go_ret
          exact ⟨by rw [HE.out]; rfl, HG⟩
    · have HV : Hid (vProg p = false) := by unfold Hid; simp [vProg, h4]
      have g4 : (4 : Int) < p.length := by omega
      go_enter Tryd.func74, Tryd.ntmps74
      go_wp2
      go_ret
      exact ⟨by rw [HV.out]; rfl, grown_alloc (grown_refl _ _)⟩
  · have HV : Hid (vProg p = false) := by unfold Hid; simp [vProg, h1]
    have g1 : (p.length : Int) < 1 := by omega
    go_enter Tryd.func74, Tryd.ntmps74
    go_wp2
    go_ret
    exact ⟨by rw [HV.out]; rfl, grown_alloc (grown_refl _ _)⟩

theorem ProgAt.form {w : World} {pv : Value} {p : List (List Ins)} (h : ProgAt w pv p) : ∃ ao cap, pv = .agg #[.slice ao p.length cap] := by
  obtain ⟨ao, cap, e, _⟩ := h; exact ⟨ao, cap, e⟩

def checkN (p : List (List Ins)) : Int := if vProg p = true then 0 else 1
def checkRunN (p : List (List Ins)) (s : List Int) : Int := if vProg p = true then (if s.length ≤ 500 then 0 else 2) else 1

set_option maxHeartbeats 1000000 in
theorem check_m (p : List (List Ins)) (pv : Value) (w : World) (hS : ShpAt w) (hP : ProgAt w pv p) :
    Calls Tryd.prog 71 #[pv] w fun e w' => e = .returned (.int .i64 (checkN p)) ∧ w.grownBy w' none := by
  have HSh := hide hS
  have HP := hide hP
  obtain ⟨ao, cap, rfl⟩ := hP.form
  clear hS hP
  go_enter Tryd.func71, Tryd.ntmps71
  go_wp2_with fail
  refine (valid_m p _ _ (HSh.out.pres (pres_grown (grown_alloc (grown_refl _ _)))) (HP.out.pres (pres_grown (grown_alloc (grown_refl _ _))))).mono ?_
  rintro e w1 ⟨rfl, hg1⟩
  have HG1 : Hid (w.grownBy w1 none) := grown_trans (grown_alloc (grown_refl _ _)) hg1
  clear hg1
  cases hv : vProg p
  · have HE : Hid (checkN p = 1) := by unfold Hid checkN; simp [hv]
    go_wp2_with fail
    go_ret
    exact ⟨by rw [HE.out]; rfl, HG1⟩
  · have HE : Hid (checkN p = 0) := by unfold Hid checkN; simp [hv]
    go_wp2_with fail
    go_ret
    exact ⟨by rw [HE.out]; rfl, HG1⟩

/-- Lists of numbers in a row, by their lengths. -/
def ListsAt (w : World) (v : Value) (ss : List (List Int)) : Prop :=
  ∃ g o cap, v = .slice (some ⟨g, o, none⟩) ss.length cap ∧ ∀ k (hk : k < ss.length), ∃ so sc, w.cell? ⟨g, o + k, none⟩ = some (.slice so ss[k].length sc)
theorem lists_one {W : World} {so : Option Addr} {s : List Int} {sc : Nat} {t : TypeId} {g : Nat} (hg : W.heap.size = g) : ListsAt (W.alloc (.cells #[.slice so s.length sc] t)) (.slice (some ⟨g, 0, none⟩) 1 1) [s] := by
  subst hg
  refine ⟨W.heap.size, 0, 1, rfl, fun k hk => ⟨so, sc, ?_⟩⟩
  have hk0 : k = 0 := by simp at hk; omega
  subst hk0
  have h := heap_alloc_new W (.cells #[.slice so s.length sc] t)
  simp only [World.cell?, h]
  rfl
def checkRunsN (p : List (List Ins)) (ss : List (List Int)) : Int := if vProg p = true then (if ss.all (fun s => decide (s.length ≤ 500)) = true then 0 else 2) else 1
theorem checkRuns_one (p : List (List Ins)) (s : List Int) : checkRunsN p [s] = checkRunN p s := by simp [checkRunsN, checkRunN]

set_option maxHeartbeats 1000000 in
theorem checkRun_m (p : List (List Ins)) (ss : List (List Int)) (pv sv : Value) (w : World) (hS : ShpAt w) (hP : ProgAt w pv p) (hL : ListsAt w sv ss) (hn : ss.length ≤ 1000) :
    Calls Tryd.prog 38 #[pv, sv] w fun e w' => e = .returned (.int .i64 (checkRunsN p ss)) ∧ w.grownBy w' none := by
  have HSh := hide hS
  have HP := hide hP
  obtain ⟨ao, cap, rfl⟩ := hP.form
  obtain ⟨g, o, scap, rfl, hc⟩ := hL
  have HC := hide hc
  clear hS hP hc
  go_enter Tryd.func38, Tryd.ntmps38
  go_wp2_with fail
  refine (check_m p _ _ (HSh.out.pres (pres_grown (grown_alloc (grown_refl _ _)))) (HP.out.pres (pres_grown (grown_alloc (grown_refl _ _))))).mono ?_
  rintro e w1 ⟨rfl, hg1⟩
  have HG1 : Hid (w.grownBy w1 none) := grown_trans (grown_alloc (grown_refl _ _)) hg1
  clear hg1
  cases hv : vProg p
  · have HE : Hid (checkRunsN p ss = 1) := by unfold Hid checkRunsN; simp [hv]
    have e1 : checkN p = 1 := by unfold checkN; simp [hv]
    rw [e1]
    clear e1
    go_wp2_with fail
    go_ret
    exact ⟨by rw [HE.out]; rfl, HG1⟩
  · have e1 : checkN p = 0 := by unfold checkN; simp [hv]
    rw [e1]
    have HV : Hid (checkRunsN p ss = if ss.all (fun s => decide (s.length ≤ 500)) = true then 0 else 2) := by unfold Hid checkRunsN; rw [if_pos hv]
    clear e1 hv
    have hn' : (ss.length : Int) ≤ 1000 := by omega
    go_wp2_with fail
    go_loopw [15] (fun i w' => ∃ k : Nat, k ≤ ss.length ∧ i = .int .i64 k ∧ Hid (w.grownBy w' none) ∧ Hid ((ss.take k).all (fun s => decide (s.length ≤ 500)) = true)) (fun i _ => ss.length - (intOf i).toNat)
    case atStart => exact ⟨0, Nat.zero_le _, rfl, HG1, rfl⟩
    case round =>
      clear HG1
      obtain ⟨k, hk, rfl, HG, HA⟩ := hrel
      obtain ⟨w5, hw5⟩ : ∃ w5, w5 = wr := ⟨_, rfl⟩
      rw [← hw5] at HG ⊢
      clear hw5
      by_cases hlt : k < ss.length
      · obtain ⟨so, sc, c0⟩ := HC.out k hlt
        have d0 := pres_grown HG.out _ _ c0
        have HAs := hide (all_take_succ ss (fun s => decide (s.length ≤ 500)) k hlt)
        have HEx : Hid (ss[k].length ≤ 500 ∨ (ss.all (fun s => decide (s.length ≤ 500)) = false)) := by
          unfold Hid
          by_cases h5 : ss[k].length ≤ 500
          · exact Or.inl h5
          · right
            cases ha : ss.all (fun s => decide (s.length ≤ 500)) with
            | false => rfl
            | true =>
              rw [List.all_eq_true] at ha
              have := ha _ (List.getElem_mem hlt)
              simp at this; omega
        clear c0
        have hk0 : (0 : Int) ≤ (k : Int) := by omega
        have hk1 : (k : Int) < ss.length := by omega
        generalize ss[k] = s at *
        by_cases h5 : s.length ≤ 500
        · have h6 : (s.length : Int) ≤ 500 := by omega
          have HA1 : Hid ((ss.take (k + 1)).all (fun s => decide (s.length ≤ 500)) = true) := by unfold Hid; rw [HAs.out, HA.out]; simp [h5]
          clear HAs HEx
          go_wp2_with fail
          go_roundw
          case rel => exact ⟨k + 1, by omega, by go_num, HG, HA1⟩
          case measure => simp [intOf]; omega
        · have h6 : (500 : Int) < s.length := by omega
          have HE : Hid (checkRunsN p ss = 2) := by
            unfold Hid; rw [HV.out, if_neg]
            rw [HEx.out.resolve_left h5]; simp
          clear HAs HEx
          go_wp2_with fail
          go_ret
          exact ⟨by rw [HE.out]; rfl, HG⟩
      · have HE : Hid (checkRunsN p ss = 0) := by
          unfold Hid; rw [HV.out, if_pos]
          have := HA.out
          rwa [List.take_of_length_le (by omega)] at this
        go_wp2_with fail
        go_ret
        exact ⟨by rw [HE.out]; rfl, HG⟩

theorem IntsAt.mono {B B' : Nat} {w : World} {v : Value} {l : List Int} (h : IntsAt B w v l) (hb : B ≤ B') : IntsAt B' w v l := by
  obtain ⟨ao, cap, e, h1, h2⟩ := h
  refine ⟨ao, cap, e, h1, fun k hk => ?_⟩
  obtain ⟨g, o, e1, e2, e3⟩ := h2 k hk
  exact ⟨g, o, e1, by omega, e3⟩
theorem IntsAt.pres {B : Nat} {w w' : World} {v : Value} {l : List Int} (h : IntsAt B w v l) (hp : Pres w w') : IntsAt B w' v l := by
  obtain ⟨ao, cap, e, h1, h2⟩ := h
  refine ⟨ao, cap, e, h1, fun k hk => ?_⟩
  obtain ⟨g, o, e1, e2, e3⟩ := h2 k hk
  exact ⟨g, o, e1, e2, hp _ _ e3⟩
theorem IntsAt.form {B : Nat} {w : World} {v : Value} {l : List Int} (h : IntsAt B w v l) : ∃ ao cap, v = .slice ao l.length cap := by
  obtain ⟨ao, cap, e, _⟩ := h; exact ⟨ao, cap, e⟩

/-- What Replay answers. -/
def Replayed (p : List (List Ins)) (s : List Int) (w : World) (e : Ending) (w' : World) : Prop :=
  w.grownBy w' none ∧
  ((checkRunN p s = 0 ∧ ∃ rv, e = .returned (.tuple #[rv, .int .i64 0]) ∧ ResAt w.heap.size w' (runS p s) p.length rv) ∨
   (checkRunN p s ≠ 0 ∧ e = .returned (.tuple #[.agg #[.int .i64 0, .int .i64 0, .int .i64 0, .slice none 0 0, .int .i64 0, .int .i64 0, .int .i64 0, .int .i64 0, .slice none 0 0], .int .i64 (checkRunN p s)])))

set_option maxHeartbeats 4000000 in
set_option maxRecDepth 100000 in
theorem replay_m (p : List (List Ins)) (s : List Int) (pv sv : Value) (w : World) (hS : ShpAt w) (hP : ProgAt w pv p) (hI : IntsAt w.heap.size w sv s) :
    Calls Tryd.prog 16 #[pv, sv] w (Replayed p s w) := by
  have HSh := hide hS
  have HP := hide hP
  have HI := hide hI
  obtain ⟨ao, cap, rfl⟩ := hP.form
  obtain ⟨so, sc, rfl⟩ := hI.form
  clear hS hP hI
  go_enter Tryd.func16, Tryd.ntmps16
  go_wp2_with fail
  have hg0 : ∀ a b c, w.grownBy (((w.alloc a).alloc b).alloc c) none := fun a b c => grown_alloc (grown_alloc (grown_alloc (grown_refl _ _)))
  refine (checkRun_m p [s] _ _ _ (HSh.out.pres (pres_grown (hg0 _ _ _))) (HP.out.pres (pres_grown (hg0 _ _ _))) (lists_one (by simp)) (by simp)).mono ?_
  rw [checkRuns_one]
  rintro e w1 ⟨rfl, hg1⟩
  have HG1 : Hid (w.grownBy w1 none) := grown_trans (hg0 _ _ _) hg1
  have hsz1 : w.heap.size + 2 ≤ w1.heap.size := by have := hg1.size; simp at this; omega
  have hb0 : w1.heap[w.heap.size]? = some (.cells #[.slice ao p.length cap] 25 (0, 0)) := by
    rw [hg1.block w.heap.size (by simp; omega) (by simp), Below.heap_alloc _ _ _ (by simp; omega), Below.heap_alloc _ _ _ (by simp)]; exact heap_alloc_new w _
  have hb1 : w1.heap[w.heap.size + 1]? = some (.cells #[.int .i64 0, .int .i64 0, .int .i64 0, .slice none 0 0, .int .i64 0, .int .i64 0, .int .i64 0, .int .i64 0, .slice none 0 0] 37 (0, 0)) := by
    rw [hg1.block (w.heap.size + 1) (by simp) (by simp), Below.heap_alloc _ _ _ (by simp)]
    have := heap_alloc_new (w.alloc (.cells #[.slice ao p.length cap] 25)) (.cells #[.int .i64 0, .int .i64 0, .int .i64 0, .slice none 0 0, .int .i64 0, .int .i64 0, .int .i64 0, .int .i64 0, .slice none 0 0] 37)
    simpa using this
  have HB1 := hide hb1
  have c0 : w1.cell? ⟨w.heap.size, 0, none⟩ = some (.slice ao p.length cap) := by simp [World.cell?, hb0]
  clear hb0 hg1
  by_cases h0 : checkRunN p s = 0
  · have H0 := hide h0
    have hv : vProg p = true := by
      unfold checkRunN at h0
      by_cases hv : vProg p = true
      · exact hv
      · simp [hv] at h0
    have h5 : s.length ≤ 500 := by
      unfold checkRunN at h0
      by_cases h5 : s.length ≤ 500
      · exact h5
      · simp [hv, h5] at h0
    have HV := hide hv
    rw [h0]
    clear h0 hv hb1
    go_wp2_with fail
    refine (new_m HV.out (HP.out.pres (pres_grown HG1.out))).mono ?_
    rintro e w2 ⟨m, rfl, hM, hg2⟩
    have HM := hide hM
    have HG2 : Hid (w.grownBy w2 none) := grown_trans HG1.out hg2
    have hsz2 : w.heap.size + 2 ≤ w2.heap.size := by have := hg2.size; omega
    have HB2 : Hid (w2.heap[w.heap.size + 1]? = some (.cells #[.int .i64 0, .int .i64 0, .int .i64 0, .slice none 0 0, .int .i64 0, .int .i64 0, .int .i64 0, .int .i64 0, .slice none 0 0] 37 (0, 0))) := by
      unfold Hid; rw [hg2.block _ (by omega) (by simp)]; exact HB1.out
    clear hM hg2 c0
    go_wp2_with fail
    refine (run_m HV.out HM.out (Nat.le_refl _) ((HI.out.pres (pres_grown HG2.out)).mono (by omega)) h5).mono ?_
    rintro e w3 ⟨rv, rfl, ⟨sv, gv, rfl, ho1, ho2⟩, hg3⟩
    obtain ⟨x1, x2, x3, rfl⟩ := owns_form ho1
    obtain ⟨y1, y2, y3, rfl⟩ := owns_form ho2
    have HO1 := hide ho1
    have HO2 := hide ho2
    have HG3 : Hid (w.grownBy w3 none) := grown_trans HG2.out hg3
    have hrb : w3.heap[w.heap.size + 1]? = some (.cells #[.int .i64 0, .int .i64 0, .int .i64 0, .slice none 0 0, .int .i64 0, .int .i64 0, .int .i64 0, .int .i64 0, .slice none 0 0] 37 (0, 0)) := by
      rw [hg3.block _ (by omega) (by simp)]; exact HB2.out
    obtain ⟨r0, r1, r2, r3, r4, r5, r6, r7, r8, rf⟩ := nine_cells hrb
    have f0 := rf 0
    have f1 := rf 1
    have f2 := rf 2
    have f3 := rf 3
    have f4 := rf 4
    have f5 := rf 5
    have f6 := rf 6
    have f7 := rf 7
    have f8 := rf 8
    clear rf hrb ho1 ho2 hg3
    generalize hO : runS p s = o at *
    have HOe := hide hO
    clear hO
    go_wp2_with fail
    refine bodyPost_ret (v := .tuple #[.agg #[.int .i64 o.kind, .int .i64 o.thread, .int .i64 o.at_, .slice x1 x2 x3, .int .i64 (o.st.vars 0), .int .i64 (o.st.vars 1), .int .i64 (o.st.vars 2), .int .i64 (o.st.vars 3), .slice y1 y2 y3], .int .i64 0]) ?_ rfl ⟨?_, Or.inl ⟨H0.out, _, rfl, ?_⟩⟩
    · simp [results, Tryd.results16, go_sem, r0, r1, r2, r3, r4, r5, r6, r7, r8]
    · iterate 9 refine grown_setNew ?_ (by omega)
      exact HG3.out
    · rw [HOe.out]
      refine ⟨_, _, rfl, ?_, ?_⟩
      · refine owns_mono (base := w2.heap.size) ?_ (by omega)
        iterate 9 refine ownsRow_setCell_below ?_ (by simp; omega) _
        exact HO1.out
      · refine owns_mono (base := w2.heap.size) ?_ (by omega)
        iterate 9 refine ownsRow_setCell_below ?_ (by simp; omega) _
        exact HO2.out
  · have H0 := hide h0
    obtain ⟨r0, r1, r2, r3, r4, r5, r6, r7, r8, rf⟩ := nine_cells hb1
    have f0 := rf 0
    have f1 := rf 1
    have f2 := rf 2
    have f3 := rf 3
    have f4 := rf 4
    have f5 := rf 5
    have f6 := rf 6
    have f7 := rf 7
    have f8 := rf 8
    have hne : (checkRunN p s != 0) = true := by simpa using h0
    clear rf hb1 h0
    generalize hE : checkRunN p s = e at *
    have HE := hide hE
    clear hE
    go_wp2_with fail
    refine bodyPost_ret (v := .tuple #[.agg #[.int .i64 0, .int .i64 0, .int .i64 0, .slice none 0 0, .int .i64 0, .int .i64 0, .int .i64 0, .int .i64 0, .slice none 0 0], .int .i64 e]) ?_ rfl ⟨?_, Or.inr ⟨by rw [HE.out]; exact H0.out, by rw [HE.out]⟩⟩
    · simp [results, Tryd.results16, go_sem, r0, r1, r2, r3, r4, r5, r6, r7, r8]
    · iterate 9 refine grown_setNew ?_ (by omega)
      exact HG1.out

end Go.Proofs.YtklenjmfalljgaaDoor
