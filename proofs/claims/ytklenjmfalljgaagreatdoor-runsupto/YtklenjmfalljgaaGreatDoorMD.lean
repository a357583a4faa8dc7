/- The texts Rfg Rfh Ctr Eq4 Ask PureC Bas Hnd Hnd2 Hnd3 Hnd4 Hga. -/
import Derived.Test.YtklenjmfalljgaaGreatDoorMC
import Derived.ChangeKeysEq
import Derived.WalkSpells
import Derived.WalkLawsBesides
import Derived.Deep.Light
import Derived.Lib.QuietBelow
import Derived.BigQuiet
import Derived.Deep.QuietTactic
import Derived.Laws.CopyOwn

/- The reference's Play. -/
namespace Go.Proofs.YtklenjmfalljgaaGreatDoor
open Go.RowKit
attribute [local go_sem] Go.World.cell?_alloc_some

/-- What Play answers. -/
def Played (w : World) (n : Nat) (ps : Value) (o : Out) (e : Ending) (w' : World) : Prop :=
  ∃ b ab rb st, e = .returned (.pointer (some ⟨b, 0, none⟩)) ∧ RunAt w w' b ab rb n ps st o.st o.steps o.kind o.thread o.at_

set_option maxHeartbeats 4000000 in
set_option maxRecDepth 100000 in
theorem play_m (w : World) (ao : Option Addr) (cap : Nat) (p : List (List Ins)) (sv : Value) (sch : List Int) (hp : vProg p = true) (hP : ProgAt w (.agg #[.slice ao p.length cap]) p) (hI : IntsAt w.heap.size w sv sch) (h500 : sch.length ≤ 500) :
    Calls Tryz.prog 49 #[.agg #[.slice ao p.length cap], sv] w (Played w p.length (.slice ao p.length cap) (runS p sch)) := by
  have hn := vProg_len hp
  have HP := hide hP
  have HV := hide hp
  have HI := hide hI
  clear hp hP hI
  go_enter Tryz.func49, Tryz.ntmps49
  go_upto_region 2 with fail
  go_cut [6] (fun pv w' => ∃ b ab rb st, pv = .pointer (some ⟨b, 0, none⟩) ∧ RunAt w w' b ab rb p.length (.slice ao p.length cap) st St.zero [] 0 0 0)
  case first =>
    have hN : p.length = 1 ∨ p.length = 2 ∨ p.length = 3 ∨ p.length = 4 := by omega
    clear HP HV
    generalize p.length = n at *
    obtain ⟨hmA, hmB⟩ := makes n hN
    have n4 : (n : Int) ≤ 4 := by omega
    clear hN
    go_region
    all_goals go_wp2
    all_goals go_meet
    · first | exact ⟨_, _, _, _, rfl, (runAt_new1 w _ n _ _).like ⟨rfl, rfl, rfl, rfl⟩⟩ | exact ⟨_, _, _, _, rfl, (runAt_new2 w _ n _ _).like ⟨rfl, rfl, rfl, rfl⟩⟩
    · first | exact ⟨_, _, _, _, rfl, (runAt_new1 w _ n _ _).like ⟨rfl, rfl, rfl, rfl⟩⟩ | exact ⟨_, _, _, _, rfl, (runAt_new2 w _ n _ _).like ⟨rfl, rfl, rfl, rfl⟩⟩
  case rest =>
    obtain ⟨b, ab, rb, st0, rfl, hR0⟩ := hcut
    have HR0 := hide hR0
    clear hR0
    obtain ⟨so, sc, rfl, hsz, hcell⟩ := HI.out
    have HC := hide hcell
    clear hcell HI
    have q1 : (sch.length : Int) ≤ 500 := by omega
    have q2 : (p.length : Int) ≤ 4 := by omega
    go_wp2_with fail
    go_loopw [7] (fun i w' => ∃ (k : Nat) (s : St) (acc : List (Int × Int)) (st : Value), k ≤ sch.length ∧ i = .int .i64 k ∧ Hid (acc.length = k) ∧ Hid (RunAt w w' b ab rb p.length (.slice ao p.length cap) st s acc 0 0 0) ∧ Hid (Inv p s) ∧ Hid (LkOk s) ∧
      Hid (runS p sch = follow p (sch.drop k) k s acc)) (fun i _ => sch.length - (intOf i).toNat)
    case atStart => exact ⟨0, St.zero, [], st0, Nat.zero_le _, rfl, rfl, HR0, Inv.zero p, LkOk.zero, rfl⟩
    case round =>
      obtain ⟨k, s, acc, st, hk, rfl, HAL, HR, HIN, HLK, HF⟩ := hrel
      obtain ⟨w5, hw5⟩ : ∃ w5, w5 = wr := ⟨_, rfl⟩
      rw [← hw5] at HR ⊢
      clear hw5
      by_cases hlt : k < sch.length
      · obtain ⟨gb, go, rfl, hgb, hc⟩ := HC.out k hlt
        have hcr := pres_grown HR.out.frame _ _ hc
        clear hc
        have HD : Hid (sch.drop k = sch[k] :: sch.drop (k + 1)) := List.drop_eq_getElem_cons hlt
        generalize sch[k] = t at *
        have hk0 : (0 : Int) ≤ (k : Int) := by omega
        have hk1 : (k : Int) < sch.length := by omega
        obtain ⟨_, c11, c12, c13, f11, f12, f13⟩ := HR.out.vcells
        by_cases hb0 : 0 ≤ t
        · by_cases hb1 : t < p.length
          · obtain ⟨t', rfl⟩ := Int.eq_ofNat_of_zero_le hb0
            have ht' : t' < p.length := by omega
            go_wp2_with fail
            refine (rreadyS HV.out HP.out HR.out HIN.out HLK.out ht').mono ?_
            rintro e w6 ⟨rfl, hg6⟩
            have HR6 := hide (HR.out.grown hg6)
            replace hcr := pres_grown hg6 _ _ hcr
            clear hg6 c11 c12 c13 f11 f12 f13 HR
            obtain ⟨_, c11, c12, c13, f11, f12, f13⟩ := HR6.out.vcells
            cases hrd : readyB p s t'
            · have HW : Hid (runS p sch = ⟨acc, 2, 0, k, s⟩) := by
                unfold Hid
                rw [HF.out, HD.out]; exact follow_wrong _ _ _ _ _ _ (by simp [okAt, hrd])
              clear hrd
              go_wp2_with fail
              go_ret
              rw [HW.out]
              exact ⟨b, ab, rb, st, rfl, HR6.out.verdict 2 0 k⟩
            · have HK : Hid (okAt p s t' = true) := by
                unfold Hid okAt belowB
                simp [hrd, ht']
              have HDn : Hid (doneB p s t' = false) := by
                unfold Hid
                cases hd : doneB p s t' with
                | false => rfl
                | true => simp [readyB, hd] at hrd
              clear hrd c11 c12 c13 f11 f12 f13
              go_wp2_with fail
              refine (rstepS HV.out HP.out HR6.out HIN.out ht' HDn.out (by rw [HAL.out]; omega)).mono ?_
              rintro e w7 ⟨st', rfl, hR7⟩
              have HR7 := hide hR7
              clear hR7 HR6 hcr
              cases hstp : (stepS p s t').1
              · have HW : Hid (runS p sch = ⟨acc ++ [((t' : Int), s.next t')], 1, t', s.next t', (stepS p s t').2⟩) := by
                  unfold Hid
                  rw [HF.out, HD.out]; exact follow_fail _ _ _ _ _ _ HK.out (by simpa using hstp)
                clear hstp
                obtain ⟨lg, lc, rfl, l1, l2⟩ := HR7.out.last
                obtain ⟨c10, c11, c12, c13, f11, f12, f13⟩ := HR7.out.vcells
                have HLL : Hid (acc.length < 500) := by unfold Hid; rw [HAL.out]; omega
                generalize hgl : acc.length = L at *
                have HGL := hide hgl
                clear hgl
                have hL : (L : Int) < 500 := by have := HLL.out; omega
                go_wp2_with fail
                go_region
                have hg8 : w7.grownBy (w7.alloc (.cells #[.int .i64 t', .int .i64 (s.next t')] 84)).drew none := grown_drew (grown_alloc (grown_refl _ _))
                have hb8 : (w7.alloc (.cells #[.int .i64 t', .int .i64 (s.next t')] 84)).drew.heap[w7.heap.size]? = some (.cells #[.int .i64 t', .int .i64 (s.next t')] 84 (0, 0)) := heap_alloc_new w7 _
                generalize (w7.alloc (.cells #[.int .i64 t', .int .i64 (s.next t')] 84)).drew = w8 at hg8 hb8 ⊢
                have HR8 := hide (HR7.out.grown hg8)
                have z0 : w8.cell? ⟨w7.heap.size, 0, none⟩ = some (.int .i64 t') := by simp [World.cell?, hb8]
                have z1 : w8.cell? ⟨w7.heap.size, 1, none⟩ = some (.int .i64 (s.next t')) := by simp [World.cell?, hb8]
                clear hg8 hb8 c10 c11 c12 c13 f11 f12 f13 l1 l2 HR7
                obtain ⟨_, c11, c12, c13, f11, f12, f13⟩ := HR8.out.vcells
                go_wp2
                go_ret
                rw [HW.out]
                exact ⟨b, ab, rb, _, rfl, HR8.out.verdict 1 t' (s.next t')⟩
              · have HF2 : Hid (runS p sch = follow p (sch.drop (k + 1)) ((k + 1 : Nat) : Int) (stepS p s t').2 (acc ++ [((t' : Int), s.next t')])) := by
                  unfold Hid
                  rw [HF.out, HD.out, follow_go _ _ _ _ _ _ HK.out (by simpa using hstp)]
                  simp
                have HI2 := hide (HIN.out.step HV.out ht' HDn.out)
                have HL2 := hide (HLK.out.step p t')
                have HA2 : Hid ((acc ++ [((t' : Int), s.next t')]).length = k + 1) := by unfold Hid; rw [List.length_append, HAL.out]; rfl
                clear hstp
                go_wp2_with fail
                go_roundw
                case rel => exact ⟨k + 1, _, _, st', by omega, by go_num, HA2, HR7, HI2, HL2, HF2⟩
                case measure => simp [intOf]; omega
          · have hb1' : (p.length : Int) ≤ t := by omega
            have HW : Hid (runS p sch = ⟨acc, 2, 0, k, s⟩) := by
              unfold Hid
              rw [HF.out, HD.out]; exact follow_wrong _ _ _ _ _ _ (by simp [okAt, belowB, hb1])
            go_wp2_with fail
            go_ret
            rw [HW.out]
            exact ⟨b, ab, rb, st, rfl, HR.out.verdict 2 0 k⟩
        · have hb0' : t < 0 := by omega
          have HW : Hid (runS p sch = ⟨acc, 2, 0, k, s⟩) := by
            unfold Hid
            rw [HF.out, HD.out]; exact follow_wrong _ _ _ _ _ _ (by simp [okAt, belowB, hb0])
          go_wp2_with fail
          go_ret
          rw [HW.out]
          exact ⟨b, ab, rb, st, rfl, HR.out.verdict 2 0 k⟩
      · have HW : Hid (runS p sch = ⟨acc, endingS p s, 0, 0, s⟩) := by
          unfold Hid
          rw [HF.out, List.drop_eq_nil_of_le (by omega)]; rfl
        have hk1 : (sch.length : Int) ≤ (k : Int) := by omega
        clear HF HAL HC
        go_wp2_with fail
        go_loopw [11, 12, 13] (fun dv rv tv w' => ∃ t d r : Nat, t ≤ p.length ∧ dv = .int .i64 d ∧ rv = .int .i64 r ∧ tv = .int .i64 t ∧ d ≤ t ∧ r ≤ t ∧ Hid (d = t ↔ ∀ j, j < t → doneB p s j = true) ∧ Hid (r = 0 ↔ ∀ j, j < t → readyB p s j = false) ∧
          Hid (RunAt w w' b ab rb p.length (.slice ao p.length cap) st s acc 0 0 0)) (fun _ _ tv _ => p.length - (intOf tv).toNat)
        case atStart => exact ⟨0, 0, 0, Nat.zero_le _, rfl, rfl, rfl, Nat.le_refl _, Nat.le_refl _, ⟨fun _ j h => absurd h (by omega), fun _ => rfl⟩, ⟨fun _ j h => absurd h (by omega), fun _ => rfl⟩, HR⟩
        case round =>
          clear HR
          obtain ⟨t, d, r, ht, rfl, rfl, rfl, hd, hr, HD, HRd, HR⟩ := hrel
          obtain ⟨w6, hw6⟩ : ∃ w6, w6 = wr := ⟨_, rfl⟩
          rw [← hw6] at HR ⊢
          clear hw6
          by_cases hlt : t < p.length
          · have t0 : (0 : Int) ≤ (t : Int) := by omega
            have t1 : (t : Int) < p.length := by omega
            have d1 : (d : Int) ≤ 4 := by omega
            have r1 : (r : Int) ≤ 4 := by omega
            go_wp2_with fail
            refine (rdoneS HV.out HP.out HR.out HIN.out hlt).mono ?_
            rintro e w7 ⟨rfl, hg7⟩
            have HR7 := hide (HR.out.grown hg7)
            clear hg7 HR
            go_wp2_with fail
            refine (rreadyS HV.out HP.out HR7.out HIN.out HLK.out hlt).mono ?_
            rintro e w8 ⟨rfl, hg8⟩
            have HR8 := hide (HR7.out.grown hg8)
            clear hg8 HR7
            have HD2 : Hid ((if doneB p s t = true then d + 1 else d) = t + 1 ↔ ∀ j, j < t + 1 → doneB p s j = true) := by
              unfold Hid
              cases e : doneB p s t
              · simp only [Bool.false_eq_true, if_false]
                constructor
                · intro h; omega
                · intro h; have := h t (by omega); rw [e] at this; cases this
              · simp only [if_true]
                constructor
                · intro h j hj
                  by_cases hjt : j = t
                  · rw [hjt]; exact e
                  · exact HD.out.1 (by omega) j (by omega)
                · intro h
                  have := HD.out.2 (fun j hj => h j (by omega))
                  omega
            have HR2 : Hid ((if readyB p s t = true then r + 1 else r) = 0 ↔ ∀ j, j < t + 1 → readyB p s j = false) := by
              unfold Hid
              cases e : readyB p s t
              · simp only [Bool.false_eq_true, if_false]
                constructor
                · intro h j hj
                  by_cases hjt : j = t
                  · rw [hjt]; exact e
                  · exact HRd.out.1 h j (by omega)
                · intro h; exact HRd.out.2 (fun j hj => h j (by omega))
              · simp only [if_true]
                constructor
                · intro h; omega
                · intro h; have := h t (by omega); rw [e] at this; cases this
            clear HD HRd
            generalize doneB p s t = db at *
            generalize readyB p s t = rb' at *
            cases db <;> cases rb'
            all_goals
              go_wp2_with fail
              go_roundw
              case rel => exact ⟨t + 1, _, _, by omega, by go_num, by go_num, by go_num, by simp <;> omega, by simp <;> omega, HD2, HR2, HR8⟩
              case measure => simp [intOf]; omega
          · have t1 : (p.length : Int) ≤ (t : Int) := by omega
            obtain ⟨_, c11, c12, c13, f11, f12, f13⟩ := HR.out.vcells
            obtain rfl : t = p.length := by omega
            by_cases hr0 : r = 0
            · have hnr := HRd.out.1 hr0
              have HE := hide (ending_end hnr)
              subst hr0
              by_cases hdn : d = p.length
              · have hda := HD.out.1 hdn
                have HE3 : Hid (endingS p s = 3) := by
                  unfold Hid
                  rw [HE.out, endTo, if_pos]
                  rw [List.all_eq_true]
                  intro j hj
                  exact hda j (by simpa using hj)
                have hdb : ((d : Int) == (p.length : Int)) = true := by simp; omega
                clear hnr hda HD HRd HE hdn t1
                go_wp2_with fail
                go_ret
                rw [HW.out, HE3.out]
                exact ⟨b, ab, rb, st, rfl, ((HR.out.kind 5).kind 4).kind 3⟩
              · have HE4 : Hid (endingS p s = 4) := by
                  unfold Hid
                  rw [HE.out, endTo, if_neg]
                  intro h
                  rw [List.all_eq_true] at h
                  exact hdn (HD.out.2 (fun j hj => h j (by simpa using hj)))
                have hdb : ((d : Int) == (p.length : Int)) = false := by simp; omega
                clear hnr HD HRd HE hdn t1
                go_wp2_with fail
                go_ret
                rw [HW.out, HE4.out]
                exact ⟨b, ab, rb, st, rfl, (HR.out.kind 5).kind 4⟩
            · obtain ⟨j, hj, hrj⟩ : ∃ j, j < p.length ∧ readyB p s j = true := by
                by_cases hex : ∃ j, j < p.length ∧ readyB p s j = true
                · exact hex
                · exfalso
                  refine hr0 (HRd.out.2 (fun j hj => ?_))
                  cases e : readyB p s j
                  · rfl
                  · exact absurd ⟨j, hj, e⟩ hex
              have HE5 := hide (ending_open hj hrj)
              have hdn : d ≠ p.length := fun e => by
                have := HD.out.1 e j hj
                simp [readyB, this] at hrj
              have hdb : ((d : Int) == (p.length : Int)) = false := by simp; omega
              have hrb : ((r : Int) == 0) = false := by simp; omega
              clear HD HRd hdn hr0 hj hrj t1
              go_wp2_with fail
              go_ret
              rw [HW.out, HE5.out]
              exact ⟨b, ab, rb, st, rfl, HR.out.kind 5⟩

end Go.Proofs.YtklenjmfalljgaaGreatDoor

/- The reference's Replay. -/
namespace Go.Proofs.YtklenjmfalljgaaGreatDoor
open Go.RowKit
attribute [local go_sem] Go.World.cell?_alloc_some

/-- The run's registers, as a row of the call's own. -/
theorem RunAt.regRow {w0 w : World} {b ab rb n : Nat} {ps st : Value} {s : St} {acc : List (Int × Int)} {k th a : Int} (h : RunAt w0 w b ab rb n ps st s acc k th a) (hn : n ≤ 4) :
    w.ownsRow w0.heap.size 29 4 (.slice (some ⟨rb, 0, none⟩) n n) n (regsF n s) :=
  ⟨regsF_len n s, Or.inr ⟨rb, n, (regsF n s).toArray, rfl, h.rb0, h.regs, Nat.le_refl _, by unfold maxLen; omega, by simp [regsF_len], by rw [← regsF_len n s]; simp⟩⟩

set_option maxHeartbeats 4000000 in
set_option maxRecDepth 100000 in
theorem refreplay_m (p : List (List Ins)) (s : List Int) (pv sv : Value) (w : World) (hP : ProgAt w pv p) (hI : IntsAt w.heap.size w sv s) (hpl : p.length ≤ 1048576) (hpc : ∀ c ∈ p, c.length ≤ 1048576) :
    Calls Tryz.prog 30 #[pv, sv] w (Replayed p s w) := by
  have HP := hide hP
  have HI := hide hI
  have HPC := hide hpc
  obtain ⟨ao, cap, rfl⟩ := hP.form
  obtain ⟨so, sc, rfl⟩ := hI.form
  clear hP hI hpc
  go_enter Tryz.func30, Tryz.ntmps30
  go_wp2_with fail
  have hg0 : ∀ a b, w.grownBy ((w.alloc a).alloc b) none := fun a b => grown_alloc (grown_alloc (grown_refl _ _))
  refine (refcheck_m p _ _ (HP.out.pres (pres_grown (hg0 _ _))) hpl HPC.out).mono ?_
  rintro e w1 ⟨rfl, hg1⟩
  have HG1 : Hid (w.grownBy w1 none) := grown_trans (hg0 _ _) hg1
  have hsz1 : w.heap.size + 2 ≤ w1.heap.size := by have := hg1.size; simpa using this
  have hb0 : w1.heap[w.heap.size]? = some (.cells #[.slice ao p.length cap] 24 (0, 0)) := by
    rw [hg1.block w.heap.size (by simp; omega) (by simp), Below.heap_alloc _ _ _ (by simp)]; exact heap_alloc_new w _
  have hb1 : w1.heap[w.heap.size + 1]? = some (.cells #[.int .i64 0, .int .i64 0, .int .i64 0, .slice none 0 0, .int .i64 0, .int .i64 0, .int .i64 0, .int .i64 0, .slice none 0 0] 32 (0, 0)) := by
    rw [hg1.block (w.heap.size + 1) (by simp) (by simp)]
    have := heap_alloc_new (w.alloc (.cells #[.slice ao p.length cap] 24)) (.cells #[.int .i64 0, .int .i64 0, .int .i64 0, .slice none 0 0, .int .i64 0, .int .i64 0, .int .i64 0, .int .i64 0, .slice none 0 0] 32)
    simpa using this
  have HB1 := hide hb1
  have c0 : w1.cell? ⟨w.heap.size, 0, none⟩ = some (.slice ao p.length cap) := by simp [World.cell?, hb0]
  clear hb0 hg1
  obtain ⟨r0, r1, r2, r3, r4, r5, r6, r7, r8, rf⟩ := nine_cells hb1
  have f0 := rf 0
  have f1 := rf 1
  have f2 := rf 2
  have f3 := rf 3
  have f4 := rf 4
  have f5 := rf 5
  have f6 := rf 6
  have f7 := rf 7
  have f8 := rf 8
  clear rf hb1
  by_cases hv : vProg p = true
  · have e0 : checkN p = 0 := by simp [checkN, hv]
    have HV := hide hv
    have hlen := vProg_len hv
    rw [e0]
    clear e0 hv
    by_cases h5 : s.length ≤ 500
    · have h5' : (s.length : Int) ≤ 500 := by omega
      have H0 : Hid (checkRunN p s = 0) := by unfold Hid checkRunN; simp [HV.out, h5]
      go_wp2_with fail
      have HPl := hide (play_m w1 ao cap p _ s HV.out (HP.out.pres (pres_grown HG1.out)) ((HI.out.pres (pres_grown HG1.out)).mono HG1.out.size) h5)
      refine (unhide HPl).mono ?_
      clear HPl r0 r1 r2 r3 r4 r5 r6 r7 r8 f0 f1 f2 f3 f4 f5 f6 f7 f8
      rintro e w2 ⟨b, ab, rb, st, rfl, hR⟩
      obtain ⟨x1, x2, x3, rfl⟩ := owns_form hR.row
      have HR := hide hR
      have HG2 : Hid (w.grownBy w2 none) := grown_trans HG1.out hR.frame
      have hrb : w2.heap[w.heap.size + 1]? = some (.cells #[.int .i64 0, .int .i64 0, .int .i64 0, .slice none 0 0, .int .i64 0, .int .i64 0, .int .i64 0, .int .i64 0, .slice none 0 0] 32 (0, 0)) := by
        rw [hR.frame.block _ (by omega) (by simp)]; exact HB1.out
      obtain ⟨c10, c11, c12, c13, _, _, _⟩ := hR.vcells
      have v0 := hR.var (l := 0) (by omega)
      have v1 := hR.var (l := 1) (by omega)
      have v2 := hR.var (l := 2) (by omega)
      have v3 := hR.var (l := 3) (by omega)
      have c2 : w2.cell? ⟨b, 2, none⟩ = some (.slice (some ⟨rb, 0, none⟩) p.length p.length) := (hR.cell 2).1
      obtain ⟨r0, r1, r2, r3, r4, r5, r6, r7, r8, rf⟩ := nine_cells hrb
      have f0 := rf 0
      have f1 := rf 1
      have f2 := rf 2
      have f3 := rf 3
      have f4 := rf 4
      have f5 := rf 5
      have f6 := rf 6
      have f7 := rf 7
      have f8 := rf 8
      have hab := hR.ab0
      have habb := hR.abb
      have hbw : b ≠ w.heap.size + 1 := by omega
      have hbw' : w.heap.size + 1 ≠ b := by omega
      clear rf hrb hR c0
      generalize hO : runS p s = o at *
      have HOe := hide hO
      clear hO
      go_wp2_with fail
      go_region
      go_wp2
      refine bodyPost_ret (v := .tuple #[.agg #[.int .i64 o.kind, .int .i64 o.thread, .int .i64 o.at_, .slice x1 x2 x3, .int .i64 (o.st.vars 0), .int .i64 (o.st.vars 1), .int .i64 (o.st.vars 2), .int .i64 (o.st.vars 3), .slice (some ⟨rb, 0, none⟩) p.length p.length], .int .i64 0]) ?_ rfl ⟨?_, Or.inl ⟨H0.out, _, rfl, ?_⟩⟩
      · simp [results, Tryz.results30, go_sem, r0, r1, r2, r3, r4, r5, r6, r7, r8]
      · refine grown_drew ?_
        iterate 9 refine grown_setNew ?_ (by omega)
        exact HG2.out
      · rw [HOe.out]
        refine ⟨_, _, rfl, ?_, ?_⟩
        · refine owns_mono (base := b + 1) ?_ (by omega)
          refine owns_grown (r := none) ?_ (grown_drew (grown_refl _ _)) (fun _ e => by cases e)
          iterate 9 refine ownsRow_setCell_below ?_ (by simp; omega) _
          exact HR.out.row
        · refine owns_mono (base := w1.heap.size) ?_ (by omega)
          refine owns_grown (r := none) ?_ (grown_drew (grown_refl _ _)) (fun _ e => by cases e)
          iterate 9 refine ownsRow_setCell_below ?_ (by simp; omega) _
          exact HR.out.regRow (by omega)
    · have h5' : (500 : Int) < s.length := by omega
      have H0 : Hid (checkRunN p s = 2) := by unfold Hid checkRunN; simp [HV.out, h5]
      go_wp2_with fail
      refine bodyPost_ret (v := .tuple #[.agg #[.int .i64 0, .int .i64 0, .int .i64 0, .slice none 0 0, .int .i64 0, .int .i64 0, .int .i64 0, .int .i64 0, .slice none 0 0], .int .i64 2]) ?_ rfl ⟨?_, Or.inr ⟨by rw [H0.out]; decide, by rw [H0.out]⟩⟩
      · simp [results, Tryz.results30, go_sem, r0, r1, r2, r3, r4, r5, r6, r7, r8]
      · iterate 9 refine grown_setNew ?_ (by omega)
        exact HG1.out
  · have e0 : checkN p = 1 := by simp [checkN, hv]
    have H0 : Hid (checkRunN p s = 1) := by unfold Hid checkRunN; simp [hv]
    rw [e0]
    clear e0 hv
    go_wp2_with fail
    refine bodyPost_ret (v := .tuple #[.agg #[.int .i64 0, .int .i64 0, .int .i64 0, .slice none 0 0, .int .i64 0, .int .i64 0, .int .i64 0, .int .i64 0, .slice none 0 0], .int .i64 1]) ?_ rfl ⟨?_, Or.inr ⟨by rw [H0.out]; decide, by rw [H0.out]⟩⟩
    · simp [results, Tryz.results30, go_sem, r0, r1, r2, r3, r4, r5, r6, r7, r8]
    · iterate 9 refine grown_setNew ?_ (by omega)
      exact HG1.out

end Go.Proofs.YtklenjmfalljgaaGreatDoor

/- The laws' counter: the document's program P, made. -/
namespace Go.Proofs.YtklenjmfalljgaaGreatDoor
open Go.RowKit
attribute [local go_sem] Go.World.cell?_alloc_some

def ctrC : List Ins := [⟨2, 0, 0, 0⟩, ⟨1, 1, 0, 1⟩, ⟨4, 0, 1, 0⟩, ⟨3, 0, 0, 0⟩]
def ctrP : List (List Ins) := [ctrC, ctrC]
def ctrV : Array Value := #[.int .i64 2, .int .i64 0, .int .i64 0, .int .i64 0, .int .i64 1, .int .i64 1, .int .i64 0, .int .i64 1, .int .i64 4, .int .i64 0, .int .i64 1, .int .i64 0, .int .i64 3, .int .i64 0, .int .i64 0, .int .i64 0]

theorem ctr_code {w : World} {g : Nat} {ty : TypeId} (h : w.heap[g]? = some (.cells ctrV ty (0, 0))) : CodeAt w (.slice (some ⟨g, 0, none⟩) 4 4) ctrC := by
  refine ⟨some ⟨g, 0, none⟩, 4, rfl, fun k hk => ⟨g, 0, rfl, ?_⟩⟩
  have hk4 : k = 0 ∨ k = 1 ∨ k = 2 ∨ k = 3 := by simp [ctrC] at hk; omega
  simp only [World.cell?, h]
  rcases hk4 with rfl | rfl | rfl | rfl <;> exact ⟨rfl, rfl, rfl, rfl⟩

theorem ctr_prog {w : World} {g g2 : Nat} {ty ty2 : TypeId} (h : w.heap[g]? = some (.cells ctrV ty (0, 0))) (h2 : w.heap[g2]? = some (.cells #[.slice (some ⟨g, 0, none⟩) 4 4, .slice (some ⟨g, 0, none⟩) 4 4] ty2 (0, 0))) :
    ProgAt w (.agg #[.slice (some ⟨g2, 0, none⟩) 2 2]) ctrP := by
  refine ⟨some ⟨g2, 0, none⟩, 2, rfl, fun t ht => ⟨g2, 0, rfl, .slice (some ⟨g, 0, none⟩) 4 4, ?_, ?_⟩⟩
  · have ht2 : t = 0 ∨ t = 1 := by simp [ctrP] at ht; omega
    simp only [World.cell?, h2]
    rcases ht2 with rfl | rfl <;> rfl
  · have ht2 : t = 0 ∨ t = 1 := by simp [ctrP] at ht; omega
    rcases ht2 with rfl | rfl <;> exact ctr_code h

set_option maxHeartbeats 1000000 in
theorem counter_m (w : World) : Calls Tryz.prog 7 #[] w fun e w' => ∃ pv, e = .returned pv ∧ ProgAt w' pv ctrP ∧ w.grownBy w' none := by
  go_enter Tryz.func7, Tryz.ntmps7
  go_wp2_with fail
  refine bodyPost_ret (v := .agg #[.slice (some ⟨w.heap.size + 1 + 1, 0, none⟩) 2 2]) ?_ rfl ⟨_, rfl, ctr_prog (g := w.heap.size + 1) (ty := 74) (ty2 := 75) ?_ ?_, grown_alloc (grown_alloc (grown_alloc (grown_refl _ _)))⟩
  · simp [results, Tryz.results7, go_sem]
  · rw [Below.heap_alloc _ _ _ (by simp)]
    have := heap_alloc_new (w.alloc (.cells #[.slice (some ⟨w.heap.size + 1 + 1, 0, none⟩) 2 2] 24)) (.cells ctrV 74)
    simp only [World.size_alloc] at this
    exact this
  · have := heap_alloc_new ((w.alloc (.cells #[.slice (some ⟨w.heap.size + 1 + 1, 0, none⟩) 2 2] 24)).alloc (.cells ctrV 74)) (.cells #[.slice (some ⟨w.heap.size + 1, 0, none⟩) 4 4, .slice (some ⟨w.heap.size + 1, 0, none⟩) 4 4] 75)
    simp only [World.size_alloc] at this
    exact this

end Go.Proofs.YtklenjmfalljgaaGreatDoor

/- Equality of two equal arrays of four ints. -/
namespace Go.Proofs.YtklenjmfalljgaaGreatDoor
open Go.RowKit

theorem run_eq4 (a b c d : Int) (w : World) : (Op.equalIn 10000 29 (.agg #[.int .i64 a, .int .i64 b, .int .i64 c, .int .i64 d]) (.agg #[.int .i64 a, .int .i64 b, .int .i64 c, .int .i64 d])).run Tryz.prog w = .ok true w := by
  obtain ⟨i0, hi0, hz0, hz1, hz2⟩ := info_parts info_int
  have hc : Tryz.prog.cellsOf 3 = 1 := by simp [Program.cellsOf, hi0, hz1]
  have hk : Tryz.prog.plainKey 3 = true := by simp [Program.plainKey, Tryz.underlying3]
  rw [show (10000 : Nat) = 9999 + 1 from rfl, run_equalIn_array w 9999 _ _ (n := 4) (e := 3) (by first | exact Tryz.underlying29 | kernel_rfl) hi0, hc]
  have he : ∀ (d : Nat) (v : Int), (Op.equalIn (d + 1) 3 (.int .i64 v) (.int .i64 v)).run Tryz.prog w = .ok true w := fun d v => by
    rw [run_equalIn_int w d _ _ .i64 v v Tryz.underlying3]; simp
  have hq := he 9998
  simp only [Nat.reduceAdd] at hq
  have p0 := run_part_plain w hk (xs := #[.int .i64 a, .int .i64 b, .int .i64 c, .int .i64 d]) (off := 0) rfl
  have p1 := run_part_plain w hk (xs := #[.int .i64 a, .int .i64 b, .int .i64 c, .int .i64 d]) (off := 1) rfl
  have p2 := run_part_plain w hk (xs := #[.int .i64 a, .int .i64 b, .int .i64 c, .int .i64 d]) (off := 2) rfl
  have p3 := run_part_plain w hk (xs := #[.int .i64 a, .int .i64 b, .int .i64 c, .int .i64 d]) (off := 3) rfl
  simp [List.range, List.range.loop, Op.eqItems, Sem.run_bind, p0, p1, p2, p3, hq, Result.andThen_ok]

end Go.Proofs.YtklenjmfalljgaaGreatDoor

/- The laws' asked, of Replay. -/
namespace Go.Proofs.YtklenjmfalljgaaGreatDoor
open Go.RowKit
attribute [local go_sem] Go.World.cell?_alloc_some run_eq4

theorem num_mR (n : Int) (w : World) : Calls Tryz.prog 31 #[.int .i64 n] w fun e w' => e = .returned (.int .i64 n) ∧ w' = w := by
  go_enter Tryz.func31, Tryz.ntmps31
  go_wp2_with fail
  go_ret
  exact ⟨rfl, rfl⟩

/-- What Replay answers, under one name: an answer, its verdict, its variables, its lists. -/
def ResV (p : List (List Ins)) (s : List Int) (B : Nat) (w : World) (rv : Value) (c : Int) : Prop :=
  ∃ k t a v0 v1 v2 v3 x1 x3 y1 y3 m q, rv = .agg #[.int .i64 k, .int .i64 t, .int .i64 a, .slice x1 m x3, .int .i64 v0, .int .i64 v1, .int .i64 v2, .int .i64 v3, .slice y1 q y3] ∧ c = checkRunN p s ∧
    ((c = 0 ∧ k = (runS p s).kind ∧ t = (runS p s).thread ∧ a = (runS p s).at_ ∧ v0 = (runS p s).st.vars 0 ∧ v1 = (runS p s).st.vars 1 ∧ v2 = (runS p s).st.vars 2 ∧ v3 = (runS p s).st.vars 3 ∧ m = (runS p s).steps.length ∧ q = p.length ∧
      w.ownsRow B 84 2 (.slice x1 m x3) (runS p s).steps.length (flatS (runS p s).steps) ∧ w.ownsRow B 29 4 (.slice y1 q y3) p.length (regsF p.length (runS p s).st)) ∨
     (c ≠ 0 ∧ k = 0 ∧ t = 0 ∧ a = 0 ∧ v0 = 0 ∧ v1 = 0 ∧ v2 = 0 ∧ v3 = 0 ∧ m = 0 ∧ q = 0 ∧ x1 = none ∧ x3 = 0 ∧ y1 = none ∧ y3 = 0))

theorem owns_lenR {w : World} {base : Nat} {e : TypeId} {size : Nat} {ao : Option Addr} {m c n : Nat} {xs : List Value} (h : w.ownsRow base e size (.slice ao m c) n xs) : m = n := by
  rcases h.2 with ⟨e1, e2⟩ | ⟨g', cap', cur, hv, _⟩
  · simp only [Value.slice.injEq] at e1
    rw [e1.2.1]; first | exact e2.symm | omega
  · simp only [Value.slice.injEq] at hv; exact hv.2.1

theorem Replayed.form {p : List (List Ins)} {s : List Int} {w w' : World} {e : Ending} (h : Replayed p s w e w') : w.grownBy w' none ∧ ∃ rv c, e = .returned (.tuple #[rv, .int .i64 c]) ∧ ResV p s w.heap.size w' rv c := by
  obtain ⟨hg, h⟩ := h
  refine ⟨hg, ?_⟩
  rcases h with ⟨h0, rv, rfl, sv, gv, rfl, h1, h2⟩ | ⟨h0, rfl⟩
  · obtain ⟨x1, m, x3, rfl⟩ := owns_form h1
    obtain ⟨y1, q, y3, rfl⟩ := owns_form h2
    exact ⟨_, _, rfl, _, _, _, _, _, _, _, _, _, _, _, _, _, rfl, h0.symm, Or.inl ⟨rfl, rfl, rfl, rfl, rfl, rfl, rfl, rfl, owns_lenR h1, owns_lenR h2, h1, h2⟩⟩
  · exact ⟨_, _, rfl, _, _, _, _, _, _, _, _, _, _, _, _, _, rfl, rfl, Or.inr ⟨h0, rfl, rfl, rfl, rfl, rfl, rfl, rfl, rfl, rfl, rfl, rfl, rfl, rfl⟩⟩

/-- Two answers to one question are one, but for where their lists lie. -/
theorem ResV.same {p : List (List Ins)} {s : List Int} {B B' : Nat} {w w' : World} {rv rv' : Value} {c c' : Int} (h : ResV p s B w rv c) (h' : ResV p s B' w' rv' c') :
    c = c' ∧ ∃ k t a v0 v1 v2 v3 x1 x3 y1 y3 m q x1' x3' y1' y3', rv = .agg #[.int .i64 k, .int .i64 t, .int .i64 a, .slice x1 m x3, .int .i64 v0, .int .i64 v1, .int .i64 v2, .int .i64 v3, .slice y1 q y3] ∧
      rv' = .agg #[.int .i64 k, .int .i64 t, .int .i64 a, .slice x1' m x3', .int .i64 v0, .int .i64 v1, .int .i64 v2, .int .i64 v3, .slice y1' q y3'] := by
  obtain ⟨k, t, a, v0, v1, v2, v3, x1, x3, y1, y3, m, q, rfl, hc, h⟩ := h
  obtain ⟨k', t', a', v0', v1', v2', v3', x1', x3', y1', y3', m', q', rfl, hc', h'⟩ := h'
  refine ⟨hc.trans hc'.symm, ?_⟩
  rcases h with ⟨h0, rfl, rfl, rfl, rfl, rfl, rfl, rfl, rfl, rfl, _⟩ | ⟨h0, rfl, rfl, rfl, rfl, rfl, rfl, rfl, rfl, rfl, _⟩
  · rcases h' with ⟨h0', rfl, rfl, rfl, rfl, rfl, rfl, rfl, rfl, rfl, _⟩ | ⟨h0', _⟩
    · exact ⟨_, _, _, _, _, _, _, _, _, _, _, _, _, _, _, _, _, rfl, rfl⟩
    · exact absurd (hc'.trans (hc.symm.trans h0)) h0'
  · rcases h' with ⟨h0', _⟩ | ⟨h0', rfl, rfl, rfl, rfl, rfl, rfl, rfl, rfl, rfl, _⟩
    · exact absurd (hc.trans (hc'.symm.trans h0')) h0
    · exact ⟨_, _, _, _, _, _, _, _, _, _, _, _, _, _, _, _, _, rfl, rfl⟩

set_option maxHeartbeats 4000000 in
set_option maxRecDepth 100000 in
theorem asked_m (p : List (List Ins)) (s : List Int) (xv lv pv sv : Value) (w : World) (hS : ShpAt w) (hX : ProgAt w xv p) (hL : IntsAt w.heap.size w lv s) (hP : ProgAt w pv p) (hI : IntsAt w.heap.size w sv s) (hpl : p.length ≤ 1048576) (hpc : ∀ c ∈ p, c.length ≤ 1048576) :
    Calls Tryz.prog 36 #[.int .i64 0, xv, lv, pv, sv] w fun e w' => e = .returned (.bool true) ∧ w.grownBy w' none := by
  have HS := hide hS
  have HX := hide hX
  have HL := hide hL
  have HP := hide hP
  have HI := hide hI
  have HPC := hide hpc
  obtain ⟨ao, cap, rfl⟩ := hX.form
  obtain ⟨ao2, cap2, rfl⟩ := hP.form
  obtain ⟨so, sc, rfl⟩ := hL.form
  obtain ⟨so2, sc2, rfl⟩ := hI.form
  clear hS hX hL hP hI hpc
  go_enter Tryz.func36, Tryz.ntmps36
  go_wp2_with fail
  have hg0 : w.grownBy ((w.alloc (.cells #[.slice ao p.length cap] 24)).alloc (.cells #[.slice ao2 p.length cap2] 24)) none := grown_alloc (grown_alloc (grown_refl _ _))
  have hb8 : ((w.alloc (.cells #[.slice ao p.length cap] 24)).alloc (.cells #[.slice ao2 p.length cap2] 24)).cell? ⟨w.heap.size + 1, 0, none⟩ = some (.slice ao2 p.length cap2) := by
    have := heap_alloc_new (w.alloc (.cells #[.slice ao p.length cap] 24)) (.cells #[.slice ao2 p.length cap2] 24)
    simp only [World.size_alloc] at this
    simp only [World.cell?, this]
    rfl
  generalize (w.alloc (.cells #[.slice ao p.length cap] 24)).alloc (.cells #[.slice ao2 p.length cap2] 24) = w1 at hg0 hb8 ⊢
  have HG1 := hide hg0
  clear hg0
  refine (replay_m p s _ _ w1 (HS.out.pres (pres_grown HG1.out)) (HX.out.pres (pres_grown HG1.out)) ((HL.out.pres (pres_grown HG1.out)).mono HG1.out.size)).mono ?_
  intro e w2 hR
  obtain ⟨hg2, rv, c, he, hV⟩ := hR.form
  clear hR
  subst he
  have HR := hide hV
  have HG2 := hide (grown_trans HG1.out hg2)
  replace hb8 := pres_grown hg2 _ _ hb8
  obtain ⟨k, t, a, v0, v1, v2, v3, x1, x3, y1, y3, m, q, hrv, hx⟩ := hV
  clear hx
  subst hrv
  clear hg2
  go_wp2_with fail
  have hg3 : w2.grownBy (w2.alloc (.cells #[.int .i64 k, .int .i64 t, .int .i64 a, .slice x1 m x3, .int .i64 v0, .int .i64 v1, .int .i64 v2, .int .i64 v3, .slice y1 q y3] 32)) none := grown_alloc (grown_refl _ _)
  have hb3 := heap_alloc_new w2 (.cells #[.int .i64 k, .int .i64 t, .int .i64 a, .slice x1 m x3, .int .i64 v0, .int .i64 v1, .int .i64 v2, .int .i64 v3, .slice y1 q y3] 32)
  generalize w2.alloc (.cells #[.int .i64 k, .int .i64 t, .int .i64 a, .slice x1 m x3, .int .i64 v0, .int .i64 v1, .int .i64 v2, .int .i64 v3, .slice y1 q y3] 32) = w3 at hg3 hb3 ⊢
  have HG3 := hide (grown_trans HG2.out hg3)
  have HB3 := hide hb3
  have hz2 : w2.heap.size < w3.heap.size := (Array.getElem?_eq_some_iff.1 hb3).1
  clear hg3 hb3 hb8
  refine (refreplay_m p s _ _ w3 (HP.out.pres (pres_grown HG3.out)) ((HI.out.pres (pres_grown HG3.out)).mono HG3.out.size) hpl HPC.out).mono ?_
  intro e w4 hR
  obtain ⟨hg4, rv, c', he, hV⟩ := hR.form
  clear hR
  subst he
  obtain ⟨hcc, k2, t2, a2, u0, u1, u2, u3, z1, z3, z4, z5, m2, q2, z6, z7, z8, z9, e1, e2⟩ := HR.out.same hV
  clear hV
  simp only [Value.agg.injEq, Array.mk.injEq, List.cons.injEq, Value.int.injEq, Value.slice.injEq, true_and, and_true] at e1
  obtain ⟨rfl, rfl, rfl, ⟨rfl, rfl, rfl⟩, rfl, rfl, rfl, rfl, rfl, rfl, rfl⟩ := e1
  subst e2 hcc
  have HG4 := hide (grown_trans HG3.out hg4)
  have hb4 : w4.heap[w2.heap.size]? = some (.cells #[.int .i64 k, .int .i64 t, .int .i64 a, .slice x1 m x3, .int .i64 v0, .int .i64 v1, .int .i64 v2, .int .i64 v3, .slice y1 q y3] 32 (0, 0)) := by
    rw [hg4.block _ hz2 (by simp)]; exact HB3.out
  have hz4 : w2.heap.size < w4.heap.size := (Array.getElem?_eq_some_iff.1 hb4).1
  obtain ⟨r0, r1, r2, r3, r4, r5, r6, r7, r8, _⟩ := nine_cells hb4
  clear hb4 hg4 HR HB3
  have hne : w2.heap.size ≠ w4.heap.size := by omega
  go_wp2_with (go_at_call 31; refine (num_mR _ _).mono ?_; rintro e w5 ⟨rfl, hw5⟩; have hw5 := hw5.symm; subst hw5)
  go_ret
  exact ⟨rfl, grown_alloc HG4.out⟩

end Go.Proofs.YtklenjmfalljgaaGreatDoor

/- On beginnings of runs. -/
namespace Go.Proofs.YtklenjmfalljgaaGreatDoor

theorem follow_fst (p : List (List Ins)) : ∀ (l : List Int) (i : Int) (s : St) (acc : List (Int × Int)), ∃ m, m ≤ l.length ∧ (follow p l i s acc).steps.map (·.1) = acc.map (·.1) ++ l.take m ∧ acc.length + m = (follow p l i s acc).steps.length ∧ ∃ more, (follow p l i s acc).steps = acc ++ more
  | [], i, s, acc => ⟨0, Nat.le_refl _, by simp [follow_nil], by simp [follow_nil], [], by simp [follow_nil]⟩
  | t :: r, i, s, acc => by
    by_cases h1 : okAt p s t = true
    · by_cases h2 : (stepS p s t.toNat).1 = true
      · rw [follow_go p t r i s acc h1 h2]
        obtain ⟨m, q1, q2, q3, more, q4⟩ := follow_fst p r (i + 1) (stepS p s t.toNat).2 (acc ++ [(t, s.next t.toNat)])
        refine ⟨m + 1, by simp; omega, by rw [q2]; simp, by rw [← q3]; simp; omega, (t, s.next t.toNat) :: more, by rw [q4]; simp⟩
      · have h3 : (stepS p s t.toNat).1 = false := by simpa using h2
        rw [follow_fail p t r i s acc h1 h3]
        exact ⟨1, by simp, by simp, by simp, _, rfl⟩
    · have h3 : okAt p s t = false := by simpa using h1
      rw [follow_wrong p t r i s acc h3]
      exact ⟨0, by simp, by simp, by simp, [], by simp⟩

theorem sched_fst {p : List (List Ins)} {a : List Int} (h : Sched p a) : (runS p a).steps.map (·.1) = a := by
  obtain ⟨m, q1, q2, q3, _⟩ := follow_fst p a 0 St.zero []
  have h2 := h.2
  unfold runS at *
  simp at q2 q3
  have : m = a.length := by omega
  rw [q2, this]; simp

theorem stp_steps {p : List (List Ins)} {a b : List Int} {s' : St} {acc' : List (Int × Int)} (h : stp p a St.zero [] = some (s', acc')) : ∃ more, (runS p (a ++ b)).steps = acc' ++ more := by
  have e : runS p (a ++ b) = follow p b (0 + a.length) s' acc' := follow_stp p a b 0 St.zero [] s' acc' h
  obtain ⟨_, _, _, _, more, q⟩ := follow_fst p b (0 + a.length) s' acc'
  exact ⟨more, by rw [e]; exact q⟩

/-- A beginning of such a schedule goes through, and the next number may go on. -/
theorem sched_prefix {p : List (List Ins)} {a : List Int} (h : Sched p a) {k : Nat} (hk : k < a.length) :
    ∃ s' acc', stp p (a.take k) St.zero [] = some (s', acc') ∧ acc' = (runS p a).steps.take k ∧ okAt p s' a[k] = true := by
  have ea : a = a.take k ++ a.drop k := (List.take_append_drop k a).symm
  have ed : a.drop k = a[k] :: a.drop (k + 1) := List.drop_eq_getElem_cons hk
  have hlk : (a.take k).length = k := by simp; omega
  cases hs : stp p (a.take k) St.zero [] with
  | none =>
    exfalso
    have e1 := (follow_none p (a.take k) (a.drop k) 0 St.zero [] hs).1
    rw [← ea] at e1
    obtain ⟨m, q1, _, q3, _⟩ := follow_fst p (a.take k) 0 St.zero []
    have h2 := h.2
    unfold runS at h2
    rw [e1, ← q3] at h2
    simp at h2 q1
    omega
  | some x =>
    obtain ⟨s', acc'⟩ := x
    have hl := stp_len p _ _ _ _ _ hs
    have e1 : runS p a = follow p (a.drop k) (0 + (a.take k).length) s' acc' := by
      have := follow_stp p (a.take k) (a.drop k) 0 St.zero [] s' acc' hs
      rw [← ea] at this; exact this
    refine ⟨s', acc', rfl, ?_, ?_⟩
    · obtain ⟨more, q⟩ := stp_steps (b := a.drop k) hs
      rw [← ea] at q
      rw [q, List.take_left' (by simpa [hlk] using hl)]
    · cases ho : okAt p s' a[k] with
      | true => rfl
      | false =>
        exfalso
        rw [ed, follow_wrong p _ _ _ _ _ ho] at e1
        have := h.1
        rw [e1] at this
        exact this rfl

/-- The beginning: its run. -/
theorem cut_run {p : List (List Ins)} {a : List Int} (h : Sched p a) {k : Nat} (hk : k ≤ a.length) :
    (runS p (a.take k)).steps = (runS p a).steps.take k ∧ (k < a.length → (runS p (a.take k)).kind = 5 ∧ (runS p (a.take k)).thread = 0 ∧ (runS p (a.take k)).at_ = 0) := by
  by_cases hlt : k < a.length
  · obtain ⟨s', acc', h1, h2, h3⟩ := sched_prefix h hlt
    rw [run_stp h1]
    refine ⟨h2, fun _ => ⟨?_, rfl, rfl⟩⟩
    simp only [okAt, Bool.and_eq_true, belowB, decide_eq_true_eq] at h3
    have hr : (List.range p.length).any (readyB p s') = true := List.any_eq_true.2 ⟨a[k].toNat, List.mem_range.2 (by omega), h3.2⟩
    simp [endingS, hr]
  · have e : k = a.length := by omega
    subst e
    have := h.2
    refine ⟨?_, fun h => absurd h hlt⟩
    rw [List.take_length, List.take_of_length_le (by omega)]

/-- With a number that is nobody's in between. -/
theorem cut_wrong {p : List (List Ins)} {a : List Int} (h : Sched p a) {k : Nat} (hk : k ≤ a.length) (x : Int) (hx : x < 0 ∨ (p.length : Int) ≤ x) :
    ((runS p (a.take k)).kind = 1 → runS p (a.take k ++ [x] ++ a.drop k) = runS p (a.take k)) ∧
    ((runS p (a.take k)).kind ≠ 1 → runS p (a.take k ++ [x] ++ a.drop k) = ⟨(runS p (a.take k)).steps, 2, 0, k, (runS p (a.take k)).st⟩) := by
  have hlk : (a.take k).length = k := by simp; omega
  cases hs : stp p (a.take k) St.zero [] with
  | none =>
    have e1 := follow_none p (a.take k) ([x] ++ a.drop k) 0 St.zero [] hs
    rw [← List.append_assoc] at e1
    refine ⟨fun _ => e1.1, fun hne => ?_⟩
    exfalso
    have hk2 : (runS p (a.take k)).kind = 2 := by
      rcases e1.2 with e | e
      · exact absurd e hne
      · exact e
    by_cases hlt : k < a.length
    · obtain ⟨s', acc', h1, _⟩ := sched_prefix h hlt
      rw [hs] at h1; cases h1
    · have e : k = a.length := by omega
      subst e
      rw [List.take_length] at hk2
      exact h.1 hk2
  | some y =>
    obtain ⟨s', acc'⟩ := y
    have er := run_stp hs
    have e1 : runS p (a.take k ++ [x] ++ a.drop k) = follow p ([x] ++ a.drop k) (0 + (a.take k).length) s' acc' := by
      rw [List.append_assoc]
      exact follow_stp p (a.take k) ([x] ++ a.drop k) 0 St.zero [] s' acc' hs
    have ho : okAt p s' x = false := by
      simp only [okAt, belowB, Bool.and_eq_false_iff, decide_eq_false_iff_not]
      left; omega
    have hend := endingS_range p s'
    rw [er]
    refine ⟨fun h1 => by simp only at h1; omega, fun _ => ?_⟩
    rw [e1, List.singleton_append, follow_wrong p x _ _ s' acc' ho, hlk]
    simp

end Go.Proofs.YtklenjmfalljgaaGreatDoor

/- Small laws on worlds that are alike, and on rows. -/
namespace Go.Proofs.YtklenjmfalljgaaGreatDoor
open Go.RowKit

theorem like_refl (w : World) : Like w w := ⟨rfl, rfl, rfl, rfl⟩
theorem like_drew {w' w : World} (h : Like w' w) : Like w'.drew w := h
theorem like_dn {w' w : World} (h : Like w' w) (n : Nat) : Like (w'.drewN n) w := by
  have := like_drewN w' n
  exact ⟨this.1.trans h.1, this.2.1.trans h.2.1, this.2.2.1.trans h.2.2.1, this.2.2.2.trans h.2.2.2⟩
theorem owns_setCell {w : World} {base : Nat} {e : TypeId} {size g n cap : Nat} {xs : List Value} (h : w.ownsRow base e size (.slice (some ⟨g, 0, none⟩) n cap) n xs) (j : Nat) (u : Value) :
    (w.setCell ⟨g, j, none⟩ u).ownsRow base e size (.slice (some ⟨g, 0, none⟩) n cap) n (xs.set j u) := by
  obtain ⟨h1, h2⟩ := h
  refine ⟨by simpa using h1, ?_⟩
  rcases h2 with ⟨e1, _⟩ | ⟨g', cap', cur, hv, hb, hh, h3, h4, h5, h6⟩
  · cases e1
  · simp only [Value.slice.injEq, Option.some.injEq, Addr.mk.injEq, true_and, and_true] at hv
    obtain ⟨rfl, rfl⟩ := hv
    exact Or.inr ⟨g, cap, cur.setIfInBounds j u, rfl, hb, heap_setCell_same w g j cur e u hh, h3, h4, by simpa using h5, by rw [← h6, Array.toList_setIfInBounds, List.take_set]⟩
theorem grown_below' {w w' : World} (h : Below w.heap.size w w') : w.grownBy w' none := ⟨h.os, h.tape, h.output, h.size, fun k hk _ => h.block k hk⟩

end Go.Proofs.YtklenjmfalljgaaGreatDoor

/- The walks of the owner's hands: same, mark, schedule. -/
namespace Go.Proofs.YtklenjmfalljgaaGreatDoor
open Go.RowKit
attribute [local go_sem] Go.World.cell?_alloc_some

def nilV : Value := .slice none 0 0
def hc (iv wv : Value) (n : Int) (ov mv : Value) : Array Value := #[iv, wv, .slice none 0 0, .slice none 0 0, .slice none 0 0, .int .i64 n, ov, mv, .slice none 0 0, .slice none 0 0, .slice none 0 0, .slice none 0 0, .slice none 0 0, .slice none 0 0, .slice none 0 0, .slice none 0 0]

def HAt (w : World) (b : Nat) (iv wv : Value) (n : Int) (ov mv : Value) : Prop := w.heap[b]? = some (.cells (hc iv wv n ov mv) 43 (0, 0))
theorem HAt.cell {w : World} {b : Nat} {iv wv : Value} {n : Int} {ov mv : Value} (h : HAt w b iv wv n ov mv) (o : Nat) : w.cell? ⟨b, o, none⟩ = (hc iv wv n ov mv)[o]? := by
  unfold HAt at h; simp [World.cell?, h]
theorem HAt.frozen {w : World} {b : Nat} {iv wv : Value} {n : Int} {ov mv : Value} (h : HAt w b iv wv n ov mv) (o : Nat) : w.frozen? ⟨b, o, none⟩ = false := by
  unfold HAt at h; simp [World.frozen?, h]
theorem HAt.lt {w : World} {b : Nat} {iv wv : Value} {n : Int} {ov mv : Value} (h : HAt w b iv wv n ov mv) : b < w.heap.size := (Array.getElem?_eq_some_iff.1 h).1
theorem HAt.grown {w w' : World} {b : Nat} {iv wv : Value} {n : Int} {ov mv : Value} {r : Option Nat} (h : HAt w b iv wv n ov mv) (hg : w.grownBy w' r) (hr : r ≠ some b) : HAt w' b iv wv n ov mv := by
  have hl := h.lt
  unfold HAt at *; rw [hg.block b hl (fun e => hr e.symm)]; exact h
theorem HAt.setOther {w : World} {b g o : Nat} {u : Value} {iv wv : Value} {n : Int} {ov mv : Value} (h : HAt w b iv wv n ov mv) (hg : b ≠ g) : HAt (w.setCell ⟨g, o, none⟩ u) b iv wv n ov mv := by
  unfold HAt at *; rw [Below.heap_setCell _ _ _ _ (by simpa using hg)]; exact h
theorem HAt.set0 {w : World} {b : Nat} {iv wv : Value} {n : Int} {ov mv : Value} (h : HAt w b iv wv n ov mv) (u : Value) : HAt (w.setCell ⟨b, 0, none⟩ u) b u wv n ov mv := by
  unfold HAt at *; rw [heap_setCell_same w b 0 _ _ _ h]; rfl
theorem HAt.set1 {w : World} {b : Nat} {iv wv : Value} {n : Int} {ov mv : Value} (h : HAt w b iv wv n ov mv) (u : Value) : HAt (w.setCell ⟨b, 1, none⟩ u) b iv u n ov mv := by
  unfold HAt at *; rw [heap_setCell_same w b 1 _ _ _ h]; rfl
theorem HAt.set5 {w : World} {b : Nat} {iv wv : Value} {n : Int} {ov mv : Value} (h : HAt w b iv wv n ov mv) (u : Int) : HAt (w.setCell ⟨b, 5, none⟩ (.int .i64 u)) b iv wv u ov mv := by
  unfold HAt at *; rw [heap_setCell_same w b 5 _ _ _ h]; rfl
theorem HAt.set6 {w : World} {b : Nat} {iv wv : Value} {n : Int} {ov mv : Value} (h : HAt w b iv wv n ov mv) (u : Value) : HAt (w.setCell ⟨b, 6, none⟩ u) b iv wv n u mv := by
  unfold HAt at *; rw [heap_setCell_same w b 6 _ _ _ h]; rfl
theorem HAt.set7 {w : World} {b : Nat} {iv wv : Value} {n : Int} {ov mv : Value} (h : HAt w b iv wv n ov mv) (u : Value) : HAt (w.setCell ⟨b, 7, none⟩ u) b iv wv n ov u := by
  unfold HAt at *; rw [heap_setCell_same w b 7 _ _ _ h]; rfl

set_option maxHeartbeats 400000 in
theorem num_m (n : Int) (w : World) : Calls Tryz.prog 31 #[.int .i64 n] w fun e w' => e = .returned (.int .i64 n) ∧ w' = w := by
  go_enter Tryz.func31, Tryz.ntmps31
  go_wp2
  go_ret
  exact ⟨rfl, rfl⟩

set_option maxRecDepth 100000 in
set_option maxHeartbeats 1000000 in
theorem same_m (l m : List Int) (v u : Value) (w : World) (hI : IntsAt w.heap.size w v l) (hJ : IntsAt w.heap.size w u m) (hln : l.length ≤ 9223372036854775806) :
    Calls Tryz.prog 45 #[v, u] w fun e w' => e = .returned (.bool (l == m)) ∧ Like w' w := by
  obtain ⟨ao, cap, rfl, hcap, hc⟩ := hI
  obtain ⟨bo, dap, rfl, hdap, hd⟩ := hJ
  by_cases hlen : l.length = m.length
  · have HC := hide hc
    have HD := hide hd
    clear hc hd
    have hl2 : (l.length : Int) = m.length := by omega
    have hl3 : ((l.length : Int) != (m.length : Int)) = false := by simp; omega
    have HLN := hide hlen
    go_enter Tryz.func45, Tryz.ntmps45
    clear hlen hl2
    go_wp2_with fail
    go_loopw [5] (fun i w' => ∃ k : Nat, k ≤ l.length ∧ i = .int .i64 k ∧ Hid (Like w' w) ∧ Hid (l.take k = m.take k)) (fun i _ => l.length - (intOf i).toNat)
    case atStart => exact ⟨0, Nat.zero_le _, rfl, hide (like_refl _), by simp [Hid]⟩
    case round =>
      obtain ⟨k, hk, rfl, HK, HA⟩ := hrel
      obtain ⟨w5, hw5⟩ : ∃ w5, w5 = wr := ⟨_, rfl⟩
      subst hw5
      by_cases hlt : k < l.length
      · have hlt2 : k < m.length := by have := HLN.out; omega
        obtain ⟨g, o, rfl, _, c0⟩ := HC.out k hlt
        obtain ⟨g2, o2, rfl, _, c1⟩ := HD.out k hlt2
        have cL : ∀ a, w5.cell? a = w.cell? a := fun a => by simp [World.cell?, HK.out.1]
        have d0 : w5.cell? ⟨g, o + k, none⟩ = some (.int .i64 l[k]) := by rw [cL]; exact c0
        have d1 : w5.cell? ⟨g2, o2 + k, none⟩ = some (.int .i64 m[k]) := by rw [cL]; exact c1
        have hk0 : (0 : Int) ≤ (k : Int) := by omega
        have hk1 : (k : Int) < l.length := by omega
        have hk2 : (k : Int) < m.length := by omega
        have HT1 : Hid (l.take (k + 1) = l.take k ++ [l[k]]) := List.take_succ_eq_append_getElem hlt
        have HT2 : Hid (m.take (k + 1) = m.take k ++ [m[k]]) := List.take_succ_eq_append_getElem hlt2
        clear cL c0 c1
        by_cases heq : l[k] = m[k]
        · have hq : (l[k] != m[k]) = false := by simpa using heq
          have HA1 : Hid (l.take (k + 1) = m.take (k + 1)) := by unfold Hid; rw [HT1.out, HT2.out, HA.out, heq]
          clear heq HT1 HT2
          generalize l[k] = x at *
          generalize m[k] = y at *
          go_wp2_with fail
          go_quiet (fail)
          go_wp2_with fail
          go_roundw
          case rel => exact ⟨k + 1, by omega, by go_num, hide (like_dn HK.out _), HA1⟩
          case measure => simp [intOf]; omega
        · have hq : (l[k] != m[k]) = true := by simpa using heq
          have HE : Hid ((l == m) = false) := by
            unfold Hid
            simp only [beq_eq_false_iff_ne]
            intro e
            apply heq
            simp [e]
          clear heq HT1 HT2
          generalize l[k] = x at *
          generalize m[k] = y at *
          go_wp2_with fail
          go_quiet (fail)
          go_wp2_with fail
          go_ret
          exact ⟨by rw [HE.out]; rfl, like_dn HK.out _⟩
      · have HE : Hid ((l == m) = true) := by
          unfold Hid
          have h1 := HA.out
          rw [List.take_of_length_le (by omega), List.take_of_length_le (by have := HLN.out; omega)] at h1
          simpa using h1
        have q2 : (l.length : Int) ≤ (k : Int) := by omega
        go_wp2_with fail
        go_ret
        exact ⟨by rw [HE.out]; rfl, HK.out⟩
  · have HE : Hid ((l == m) = false) := by
      unfold Hid
      simp only [beq_eq_false_iff_ne]
      intro e; exact hlen (by rw [e])
    have hl3 : ((l.length : Int) != (m.length : Int)) = true := by simp; omega
    clear hc hd
    go_enter Tryz.func45, Tryz.ntmps45
    go_wp2_with fail
    go_ret
    exact ⟨by rw [HE.out]; rfl, like_refl _⟩

set_option maxRecDepth 100000 in
set_option maxHeartbeats 400000 in
theorem mark_m (b : Nat) (iv wv : Value) (n : Int) (ov mv : Value) (w : World) (h : HAt w b iv wv n ov mv) (h0 : 0 ≤ n) (h1 : n ≤ 1000000) :
    Calls Tryz.prog 57 #[pt b] w fun e w' => e = .returned (.int .i64 (-77000000 - (n + 1))) ∧ w' = w.setCell ⟨b, 5, none⟩ (.int .i64 (n + 1)) := by
  have c5 : w.cell? ⟨b, 5, none⟩ = some (.int .i64 n) := h.cell 5
  have f5 := h.frozen 5
  have c6 : (w.setCell ⟨b, 5, none⟩ (.int .i64 (n + 1))).cell? ⟨b, 5, none⟩ = some (.int .i64 (n + 1)) := (h.set5 (n + 1)).cell 5
  have hpt : pt b = .pointer (some ⟨b, 0, none⟩) := rfl
  rw [hpt]
  clear h hpt
  go_enter Tryz.func57, Tryz.ntmps57
  go_wp2_with fail
  go_ret
  exact ⟨rfl, rfl⟩

end Go.Proofs.YtklenjmfalljgaaGreatDoor

/- The walk of the hands' schedule. -/
namespace Go.Proofs.YtklenjmfalljgaaGreatDoor
open Go.RowKit
attribute [local go_sem] Go.World.cell?_alloc_some

/-- copy of a list of numbers onto a row of one's own. -/
theorem run_copy_ints {P : Program} (w : World) (t ty elem : TypeId) (hu : P.underlying t = some (.slice elem)) (hsz : (P.info? elem).map (·.size) = some 1) (g dLen dCap : Nat) (sv : Value) (B : Nat) (l : List Int) (hI : IntsAt B w sv l) (cur : Array Value) (ct : TypeId) (hg : w.heap[g]? = some (.cells cur ct (0, 0))) (hln : l.length ≤ dLen) (hfit : l.length ≤ cur.size) :
    ∃ w', (Builtin.copy_ #[t, t] ty #[.slice (some ⟨g, 0, none⟩) dLen dCap, sv]).run P w = .ok (goInt l.length) w' ∧ w'.heap[g]? = some (.cells (ints l ++ cur.toList.drop l.length).toArray ct (0, 0)) ∧ w.grownBy w' (some g) := by
  obtain ⟨ao, cap, e, hcap, hc⟩ := hI
  subst e
  by_cases h0 : l.length = 0
  · have hl : l = [] := List.length_eq_zero_iff.1 h0
    subst hl
    refine ⟨w, run_copy_none (P := P) w t t ty elem _ _ dLen dCap _ cap hu hsz (by simp), ?_, grown_refl _ _⟩
    rw [hg]; simp [ints]
  · obtain ⟨g', o', e', _, _⟩ := hc 0 (by omega)
    subst e'
    have hcc : ∀ k (hk : k < l.length), w.cell? ⟨g', o' + k, none⟩ = some (.int .i64 l[k]) := by
      intro k hk
      obtain ⟨g2, o2, e2, _, c⟩ := hc k hk
      simp only [Option.some.injEq, Addr.mk.injEq, and_true] at e2
      obtain ⟨rfl, rfl⟩ := e2
      exact c
    have hmin : Nat.min l.length dLen = l.length := Nat.min_eq_left hln
    have hr := run_copy_row (P := P) w t t ty elem g 0 dLen dCap ⟨g', o', none⟩ l.length cap cur ct (ints l) hu hsz hg (by rw [ints_len, hmin]) (fun j v hj => by
      have hjl : j < l.length := by have := (List.getElem?_eq_some_iff.1 hj).1; rwa [ints_len] at this
      have hadd : (⟨g', o', none⟩ : Addr).add j = ⟨g', o' + j, none⟩ := by unfold Addr.add; split <;> simp_all
      rw [hadd, hcc j hjl, ← hj]
      simp [ints, hjl]) (by rw [ints_len]; omega) (ints_one l)
    rw [ints_len] at hr
    simp only [List.take_zero, List.nil_append, Nat.zero_add] at hr
    exact ⟨_, hr, setRow_heap w g cur _ ct (0, 0) hg, ⟨rfl, rfl, rfl, by simp, fun k hk hr => setRow_other w g k _ (fun e => hr (by rw [e]))⟩⟩

def ink : Value := .int .i64 (-77000000)
def lentRow (l : List Int) : Array Value := (ints l ++ [ink, ink]).toArray

theorem info_ints : ((Tryz.prog.info? 25).map fun i => (i.zero, i.size, i.bytes)) = some (some (.slice none 0 0), 1, 24) := by kernel_rfl

/-- What the hands' schedule leaves: the list x that was lent lies at g; the hands hold it, and what stood in it. -/
structure LentAt (w : World) (b g : Nat) (n : Int) (ov mv lv : Value) (l : List Int) (w' : World) : Prop where
  h : ∃ g1 c1 g2 c2, HAt w' b (.slice (some ⟨g1, 0, none⟩) 1 c1) (.slice (some ⟨g2, 0, none⟩) 1 c2) n ov mv ∧ w'.cell? ⟨g1, 0, none⟩ = some (.slice (some ⟨g, 0, none⟩) (l.length + 2) (l.length + 2)) ∧ w'.cell? ⟨g2, 0, none⟩ = some lv ∧ g1 ≠ b ∧ g2 ≠ b ∧ g1 ≠ g ∧ g2 ≠ g
  row : w'.heap[g]? = some (.cells (lentRow l) 3 (0, 0))
  gb : g ≠ b
  lo : w.heap.size ≤ g

theorem row_ink (l : List Int) (cur : Array Value) (hc : cur.size = l.length + 2) : ((ints l ++ cur.toList.drop l.length).toArray.setIfInBounds l.length ink).setIfInBounds (l.length + 1) ink = lentRow l := by
  obtain ⟨c⟩ := cur
  simp at hc
  obtain ⟨x, y, h1⟩ : ∃ x y, c.drop l.length = [x, y] := ⟨c[l.length]'(by omega), c[l.length + 1]'(by omega), by
    rw [List.drop_eq_getElem_cons (by omega), List.drop_eq_getElem_cons (by omega), List.drop_eq_nil_of_le (by omega)]⟩
  have e1 : ∀ (a : List Value) (x y z : Value) (k : Nat), k = a.length → (a ++ [x, y]).set k z = a ++ [z, y] := by
    intro a x y z k hk; subst hk; rw [List.set_append]; simp
  have e2 : ∀ (a : List Value) (x y z : Value) (k : Nat), k = a.length → (a ++ [x, y]).set (k + 1) z = a ++ [x, z] := by
    intro a x y z k hk; subst hk; rw [List.set_append, if_neg (by omega)]; simp
  have el := (ints_len l).symm
  simp only [h1, List.setIfInBounds_toArray, lentRow]
  rw [e1 _ _ _ _ _ el, e2 _ _ _ _ _ el]

set_option maxRecDepth 100000 in
set_option maxHeartbeats 1000000 in
theorem schedule_h (b : Nat) (n : Int) (ov mv lv : Value) (l : List Int) (w : World) (h : HAt w b (.slice none 0 0) (.slice none 0 0) n ov mv) (hI : IntsAt w.heap.size w lv l) (hln : l.length ≤ 1048576) :
    Calls Tryz.prog 28 #[pt b, lv] w fun e w' => ∃ g, e = .returned (.slice (some ⟨g, 0, none⟩) l.length (l.length + 2)) ∧ LentAt w b g n ov mv lv l w' ∧ w.grownBy w' (some b) := by
  obtain ⟨i0, hi0, hz0, hz1, hz2⟩ := info_parts info_int
  obtain ⟨i1, hi1, hy0, hy1, hy2⟩ := info_parts info_ints
  have HH := hide h
  have HI := hide hI
  have hb := h.lt
  obtain ⟨ao, cap, rfl⟩ := hI.form
  have hpt : pt b = .pointer (some ⟨b, 0, none⟩) := rfl
  rw [hpt]
  clear h hI hpt
  have q0 : (l.length : Int) ≤ 1048576 := by omega
  have q1 : (0 : Int) ≤ (l.length : Int) := by omega
  have hsz1 : (Tryz.prog.info? 3).map (·.size) = some 1 := by rw [hi0]; simp [hz1]
  go_enter Tryz.func28, Tryz.ntmps28
  go_upto_region 3 with (at_make; refine wpList_make_full _ rfl _ _ _ rfl w.heap.size 3 i0 _ 1 Tryz.underlying25 hi0 hz0 hz1 .i64 .i64 _ _ (l.length + 2) rfl rfl (by simp) (by simp) (by rw [hz2]; omega) (by unfold maxLen; omega) (by simp) ?_; intro w2 hown2 hg2)
  have hrow2 : ∃ cur, w2.heap[w.heap.size]? = some (.cells cur 3 (0, 0)) ∧ cur.size = l.length + 2 := by
    rcases hown2.2 with ⟨e, _⟩ | ⟨g', cap', cur, hv, _, hh, _, _, hcs, _⟩
    · cases e
    · simp only [Value.slice.injEq, Option.some.injEq, Addr.mk.injEq, true_and, and_true] at hv
      obtain ⟨rfl, rfl⟩ := hv
      exact ⟨cur, hh, by simpa using hcs⟩
  obtain ⟨cur, hcur, hcsz⟩ := hrow2
  have HG2 := hide hg2
  have HI2 : Hid (IntsAt w2.heap.size w2 (.slice ao l.length cap) l) := (HI.out.pres (pres_grown hg2)).mono hg2.size
  have HH2 : Hid (HAt w2 b (.slice none 0 0) (.slice none 0 0) n ov mv) := HH.out.grown hg2 (by simp)
  have HCUR := hide hcur
  clear hown2 hg2 hcur HI
  obtain ⟨w3, hrun, hrow3, hg3⟩ := run_copy_ints w2 25 3 3 Tryz.underlying25 hsz1 w.heap.size (l.length + 2) (l.length + 2) (.slice ao l.length cap) w2.heap.size l HI2.out cur 3 HCUR.out (by omega) (by omega)
  go_upto_region 4 with fail
  clear hrun
  have HH3 : Hid (HAt w3 b (.slice none 0 0) (.slice none 0 0) n ov mv) := HH2.out.grown hg3 (by simp; omega)
  have HG3 : Hid (w.grownBy w3 none) := ⟨hg3.os.trans HG2.out.os, hg3.tape.trans HG2.out.tape, hg3.output.trans HG2.out.output, Nat.le_trans HG2.out.size hg3.size, fun k hk _ => by
    rw [hg3.block k (Nat.lt_of_lt_of_le hk HG2.out.size) (by simp; omega)]; exact HG2.out.block k hk (by simp)⟩
  have hs3 : w.heap.size < w3.heap.size := (Array.getElem?_eq_some_iff.1 hrow3).1
  obtain ⟨R, hR⟩ : ∃ R : Array Value, R = (ints l ++ cur.toList.drop l.length).toArray := ⟨_, rfl⟩
  rw [← hR] at hrow3
  have hRs : R.size = l.length + 2 := by rw [hR]; simp [ints_len]; omega
  have HRI : Hid ((R.setIfInBounds l.length ink).setIfInBounds (l.length + 1) ink = lentRow l) := by unfold Hid; rw [hR]; exact row_ink l cur hcsz
  have hrow4 := heap_setCell_same w3 w.heap.size l.length R 3 ink hrow3
  have hrow5 := heap_setCell_same _ w.heap.size (l.length + 1) _ 3 ink hrow4
  rw [HRI.out] at hrow5
  have d0 : ∃ u, w3.cell? ⟨w.heap.size, l.length, none⟩ = some u := by
    refine ⟨R[l.length]'(by omega), ?_⟩
    simp [World.cell?, hrow3]
  have d1 : ∃ u, (w3.setCell ⟨w.heap.size, l.length, none⟩ ink).cell? ⟨w.heap.size, l.length + 1, none⟩ = some u := by
    refine ⟨(R.setIfInBounds l.length ink)[l.length + 1]'(by simp; omega), ?_⟩
    simp only [World.cell?, hrow4]
    exact Array.getElem?_eq_getElem _
  obtain ⟨u0, d0⟩ := d0
  obtain ⟨u1, d1⟩ := d1
  have f0 : w3.frozen? ⟨w.heap.size, l.length, none⟩ = false := by simp [World.frozen?, hrow3]
  have f1 : (w3.setCell ⟨w.heap.size, l.length, none⟩ ink).frozen? ⟨w.heap.size, l.length + 1, none⟩ = false := by simp [World.frozen?, hrow4]
  obtain ⟨w5, hw5⟩ : ∃ w5, w5 = (w3.setCell ⟨w.heap.size, l.length, none⟩ ink).setCell ⟨w.heap.size, l.length + 1, none⟩ ink := ⟨_, rfl⟩
  have HH5 : Hid (HAt w5 b (.slice none 0 0) (.slice none 0 0) n ov mv) := by rw [hw5]; exact (HH3.out.setOther (by omega)).setOther (by omega)
  have HG5 : Hid (w.grownBy w5 none) := by rw [hw5]; exact grown_setNew (grown_setNew HG3.out (Nat.le_refl _)) (Nat.le_refl _)
  have HR5 : Hid (w5.heap[w.heap.size]? = some (.cells (lentRow l) 3 (0, 0))) := by rw [hw5]; exact hrow5
  have hs5 : w.heap.size < w5.heap.size := by rw [hw5]; simpa using hs3
  have hink : ink = .int .i64 (-77000000) := rfl
  rw [hink] at hw5 d1 f1
  have HW5 := hide hw5
  clear hrow3 hg3 hR hrow4 hrow5 hw5
  have HC0 : Hid (w5.cell? ⟨b, 0, none⟩ = some (.slice none 0 0)) := HH5.out.cell 0
  go_upto_region 6 with fail
  rw [← HW5.out]
  clear d0 d1 f0 f1 HW5 HCUR HRI
  have c0 := HC0.out
  have f0 := HH5.out.frozen 0
  have hnil5 : ∀ o, (w5.alloc o).ownsRow w.heap.size 25 1 (.slice none 0 0) 0 [] := fun o => ⟨rfl, Or.inl ⟨rfl, rfl⟩⟩
  have HN5 := hide hnil5
  clear hnil5
  go_upto_region 7 with (at_builtin; refine wpList_append_lies _ rfl _ _ _ rfl w.heap.size 25 i1 _ 1 24 Tryz.underlying38 hi1 hy0 hy1 hy2 rfl (by omega) (.slice none 0 0) 0 [] rfl (HN5.out _) ⟨w5.heap.size, 0, none⟩ 1 1 [.slice (some ⟨w.heap.size, 0, none⟩) (l.length + 2) (l.length + 2)] rfl rfl (World.news_of_block (cs := #[.slice (some ⟨w.heap.size, 0, none⟩) (l.length + 2) (l.length + 2)]) (t := 25) (fr := (0, 0)) (heap_alloc_new w5 _)) (by simp [Value.oneCell']) (by omega) (by unfold maxLen; omega) (by omega) (by simp; omega) (w5.heap.size + 1) (by simp) ?_; intro g6 cap6 w6 hown6 hgrow6 hat6 hlt6; have b0 : w6.cell? ⟨b, 0, none⟩ = some (.slice none 0 0) := (pres_grown (grown_trans (grown_alloc (grown_refl w5 none)) hgrow6) _ _ c0); have b1 : w6.frozen? ⟨b, 0, none⟩ = false := ((HH5.out.grown (grown_trans (grown_alloc (grown_refl w5 none)) hgrow6) (by simp)).frozen 0))
  have HG6 : Hid (w5.grownBy w6 none) := grown_trans (grown_alloc (grown_refl w5 none)) hgrow6
  have hg6 : g6 = w5.heap.size + 1 := by
    rcases hat6 with e | e
    · cases e
    · exact e
  have hc6 : w6.cell? ⟨g6, 0, none⟩ = some (.slice (some ⟨w.heap.size, 0, none⟩) (l.length + 2) (l.length + 2)) := by
    have := hown6.cellAt 0 (by omega)
    rw [this]; rfl
  have HH6 : Hid (HAt w6 b (.slice none 0 0) (.slice none 0 0) n ov mv) := HH5.out.grown HG6.out (by simp)
  obtain ⟨w7, hw7⟩ : ∃ w7, w7 = w6.setCell ⟨b, 0, none⟩ (.slice (some ⟨g6, 0, none⟩) (0 + 1) cap6) := ⟨_, rfl⟩
  have HH7 : Hid (HAt w7 b (.slice (some ⟨g6, 0, none⟩) 1 cap6) (.slice none 0 0) n ov mv) := by rw [hw7]; exact HH6.out.set0 _
  have hs7 : w5.heap.size + 1 < w7.heap.size := by rw [hw7]; simp; omega
  have HG7 : Hid (w.grownBy w7 (some b)) := by
    rw [hw7]
    refine grown_trans (grown_trans (r := some b) ⟨HG5.out.os, HG5.out.tape, HG5.out.output, HG5.out.size, fun k hk _ => HG5.out.block k hk (by simp)⟩ ⟨HG6.out.os, HG6.out.tape, HG6.out.output, HG6.out.size, fun k hk _ => HG6.out.block k hk (by simp)⟩) grown_set
  have HR7 : Hid (w7.heap[w.heap.size]? = some (.cells (lentRow l) 3 (0, 0))) := by
    unfold Hid
    rw [hw7, Below.heap_setCell _ _ _ _ (by simp; omega), HG6.out.block _ (by omega) (by simp)]; exact HR5.out
  have hc7 : w7.cell? ⟨g6, 0, none⟩ = some (.slice (some ⟨w.heap.size, 0, none⟩) (l.length + 2) (l.length + 2)) := by
    rw [hw7, World.cell?_of_block (Below.heap_setCell _ _ _ _ (by simp; omega))]; exact hc6
  have HW7 := hide hw7
  have e01 : (0 + 1 : Nat) = 1 := rfl
  clear hown6 hgrow6 hat6 hc6 b0 b1 hw7 c0 f0
  rw [← HW7.out]
  clear HW7
  have c1 : w7.cell? ⟨b, 1, none⟩ = some (.slice none 0 0) := HH7.out.cell 1
  have hnil7 : ∀ o, (w7.alloc o).ownsRow w.heap.size 25 1 (.slice none 0 0) 0 [] := fun o => ⟨rfl, Or.inl ⟨rfl, rfl⟩⟩
  have HN7 := hide hnil7
  clear hnil7
  go_upto_region 8 with (at_builtin; refine wpList_append_lies _ rfl _ _ _ rfl w.heap.size 25 i1 _ 1 24 Tryz.underlying38 hi1 hy0 hy1 hy2 rfl (by omega) (.slice none 0 0) 0 [] rfl (HN7.out _) ⟨w7.heap.size, 0, none⟩ 1 1 [.slice ao l.length cap] rfl rfl (World.news_of_block (cs := #[.slice ao l.length cap]) (t := 25) (fr := (0, 0)) (heap_alloc_new w7 _)) (by simp [Value.oneCell']) (by omega) (by unfold maxLen; omega) (by omega) (by simp; omega) (w7.heap.size + 1) (by simp) ?_; intro g8 cap8 w8 hown8 hgrow8 hat8 hlt8; have b0 : w8.cell? ⟨b, 1, none⟩ = some (.slice none 0 0) := (pres_grown (grown_trans (grown_alloc (grown_refl w7 none)) hgrow8) _ _ c1); have b1 : w8.frozen? ⟨b, 1, none⟩ = false := ((HH7.out.grown (grown_trans (grown_alloc (grown_refl w7 none)) hgrow8) (by simp)).frozen 1))
  have HG8 : Hid (w7.grownBy w8 none) := grown_trans (grown_alloc (grown_refl w7 none)) hgrow8
  have hg8 : g8 = w7.heap.size + 1 := by
    rcases hat8 with e | e
    · cases e
    · exact e
  have hc8 : w8.cell? ⟨g8, 0, none⟩ = some (.slice ao l.length cap) := by
    have := hown8.cellAt 0 (by omega)
    rw [this]; rfl
  have HH8 : Hid (HAt w8 b (.slice (some ⟨g6, 0, none⟩) 1 cap6) (.slice none 0 0) n ov mv) := HH7.out.grown HG8.out (by simp)
  have HFIN : Hid (LentAt w b w.heap.size n ov mv (.slice ao l.length cap) l (w8.setCell ⟨b, 1, none⟩ (.slice (some ⟨g8, 0, none⟩) (0 + 1) cap8)) ∧ w.grownBy (w8.setCell ⟨b, 1, none⟩ (.slice (some ⟨g8, 0, none⟩) (0 + 1) cap8)) (some b)) := by
    refine ⟨⟨⟨g6, cap6, g8, cap8, HH8.out.set1 _, ?_, ?_, by omega, by omega, by omega, by omega⟩, ?_, by omega, Nat.le_refl _⟩, ?_⟩
    · rw [World.cell?_of_block (Below.heap_setCell _ _ _ _ (by simp; omega))]; exact pres_grown HG8.out _ _ hc7
    · rw [World.cell?_of_block (Below.heap_setCell _ _ _ _ (by simp; omega))]; exact hc8
    · rw [Below.heap_setCell _ _ _ _ (by simp; omega), HG8.out.block _ (by omega) (by simp)]; exact HR7.out
    · exact grown_trans (grown_trans HG7.out ⟨HG8.out.os, HG8.out.tape, HG8.out.output, HG8.out.size, fun k hk _ => HG8.out.block k hk (by simp)⟩) grown_set
  clear hown8 hgrow8 hat8 hc8 b0 b1 c1 hc7 hg8 hg6
  have q2 : (l.length : Int) ≤ (l.length : Int) + 2 := by omega
  go_wp2_with fail
  go_ret
  exact ⟨w.heap.size, rfl, HFIN.out.1, HFIN.out.2⟩

end Go.Proofs.YtklenjmfalljgaaGreatDoor

/- The walk of the hands' back. -/
namespace Go.Proofs.YtklenjmfalljgaaGreatDoor
open Go.RowKit
attribute [local go_sem] Go.World.cell?_alloc_some

theorem lentRow_len (l : List Int) : (lentRow l).size = l.length + 2 := by simp [lentRow, ints_len]
theorem lentRow_at (l : List Int) (k : Nat) (hk : k < l.length) : (lentRow l)[k]? = some (.int .i64 l[k]) := by
  simp [lentRow, ints, List.getElem?_append, hk]
theorem lentRow_ink0 (l : List Int) : (lentRow l)[l.length]? = some ink := by
  simp [lentRow, ints_len]
theorem lentRow_ink1 (l : List Int) : (lentRow l)[l.length + 1]? = some ink := by
  simp [lentRow, ints_len]

theorem lent_ints {w : World} {g : Nat} {l : List Int} (h : w.heap[g]? = some (.cells (lentRow l) 3 (0, 0))) : IntsAt w.heap.size w (.slice (some ⟨g, 0, none⟩) l.length (l.length + 2)) l := by
  refine ⟨some ⟨g, 0, none⟩, l.length + 2, rfl, by omega, fun k hk => ⟨g, 0, rfl, (Array.getElem?_eq_some_iff.1 h).1, ?_⟩⟩
  rw [Nat.zero_add]
  simp only [World.cell?, h]
  exact lentRow_at l k hk

def Turned (w : World) (b g : Nat) (w' : World) : Prop := w'.os = w.os ∧ w'.tape = w.tape ∧ w'.output = w.output ∧ w.heap.size ≤ w'.heap.size ∧ ∀ k, k < w.heap.size → k ≠ b → k ≠ g → w'.heap[k]? = w.heap[k]?
theorem Turned.refl (w : World) (b g : Nat) : Turned w b g w := ⟨rfl, rfl, rfl, Nat.le_refl _, fun _ _ _ _ => rfl⟩
theorem Turned.below {w w1 w2 : World} {b g : Nat} (h : Turned w b g w1) (hb : Below w1.heap.size w1 w2) : Turned w b g w2 :=
  ⟨hb.os.trans h.1, hb.tape.trans h.2.1, hb.output.trans h.2.2.1, Nat.le_trans h.2.2.2.1 hb.size, fun k hk h1 h2 => by rw [hb.block k (Nat.lt_of_lt_of_le hk h.2.2.2.1)]; exact h.2.2.2.2 k hk h1 h2⟩
theorem Turned.set {w w1 : World} {b g c o : Nat} {v : Value} (h : Turned w b g w1) (hc : c = b ∨ c = g) : Turned w b g (w1.setCell ⟨c, o, none⟩ v) :=
  ⟨h.1, h.2.1, h.2.2.1, by simpa using h.2.2.2.1, fun k hk h1 h2 => by rw [Below.heap_setCell _ _ _ _ (by rcases hc with rfl | rfl <;> simpa using by assumption)]; exact h.2.2.2.2 k hk h1 h2⟩
theorem Turned.like {w w1 w2 : World} {b g : Nat} (h : Turned w b g w1) (hl : Like w2 w1) : Turned w b g w2 :=
  ⟨hl.2.1.trans h.1, hl.2.2.2.trans h.2.1, hl.2.2.1.trans h.2.2.1, by rw [hl.1]; exact h.2.2.2.1, fun k hk h1 h2 => by rw [hl.1]; exact h.2.2.2.2 k hk h1 h2⟩

/-- In the midst of the writing over: the first k are 3. -/
structure OverIn (w : World) (b g : Nat) (iv wv : Value) (n : Int) (ov mv : Value) (sz : Nat) (w' : World) : Prop where
  turned : Turned w b g w'
  h : HAt w' b iv wv n ov mv
  row : ∃ R : Array Value, R.size = sz ∧ w'.heap[g]? = some (.cells R 3 (0, 0))

set_option maxRecDepth 100000 in
set_option maxHeartbeats 1000000 in
theorem back_h (b g g1 c1 g2 c2 : Nat) (n : Int) (ov mv lv : Value) (l : List Int) (w : World) (hln : l.length ≤ 1048576)
    (h : HAt w b (.slice (some ⟨g1, 0, none⟩) 1 c1) (.slice (some ⟨g2, 0, none⟩) 1 c2) n ov mv) (h1 : w.cell? ⟨g1, 0, none⟩ = some (.slice (some ⟨g, 0, none⟩) (l.length + 2) (l.length + 2))) (h2 : w.cell? ⟨g2, 0, none⟩ = some lv)
    (hr : w.heap[g]? = some (.cells (lentRow l) 3 (0, 0))) (hI : IntsAt w.heap.size w lv l) (hgb : g ≠ b) (_hg1 : g1 ≠ b) (_hg1g : g1 ≠ g) :
    Calls Tryz.prog 29 #[pt b] w fun e w' => e = .returned (.bool true) ∧ HAt w' b (.slice none 0 0) (.slice none 0 0) n ov mv ∧ Turned w b g w' := by
  have HH := hide h
  have HR := hide hr
  have HI := hide hI
  obtain ⟨ao, cap, rfl⟩ := hI.form
  have a0 : w.cell? ⟨b, 0, none⟩ = some (.slice (some ⟨g1, 0, none⟩) 1 c1) := h.cell 0
  have a1 : w.cell? ⟨b, 1, none⟩ = some (.slice (some ⟨g2, 0, none⟩) 1 c2) := h.cell 1
  have a2 : w.cell? ⟨b, 2, none⟩ = some (.slice none 0 0) := h.cell 2
  have a4 : w.cell? ⟨b, 4, none⟩ = some (.slice none 0 0) := h.cell 4
  have hpt : pt b = .pointer (some ⟨b, 0, none⟩) := rfl
  rw [hpt]
  clear h hr hI hpt
  go_enter Tryz.func29, Tryz.ntmps29
  go_wp2_with fail
  go_loopw [3, 5] (fun ok i w' => ok = .bool true ∧ i = .int .i64 0 ∧ Hid (w' = w)) (fun _ _ _ => 0)
  case atStart => exact ⟨rfl, rfl, hide rfl⟩
  case round =>
    obtain ⟨rfl, rfl, HW⟩ := hrel
    rw [HW.out]
    clear HW
    go_wp2_with fail
    go_loopw [3, 11] (fun ok i w' => ok = .bool true ∧ i = .int .i64 0 ∧ Hid (w' = w)) (fun _ _ _ => 0)
    case atStart => exact ⟨rfl, rfl, hide rfl⟩
    case round =>
      obtain ⟨rfl, rfl, HW⟩ := hrel
      rw [HW.out]
      clear HW
      go_wp2_with fail
      go_loopw [3, 16] (fun ok i w' => ok = .bool true ∧ ((i = .int .i64 0 ∧ Hid (w' = w)) ∨ (i = .int .i64 1 ∧ Hid (OverIn w b g (.slice (some ⟨g1, 0, none⟩) 1 c1) (.slice (some ⟨g2, 0, none⟩) 1 c2) n ov mv (l.length + 2) w')))) (fun _ i _ => 1 - (intOf i).toNat)
      case atStart => exact ⟨rfl, Or.inl ⟨rfl, hide rfl⟩⟩
      case round =>
        obtain ⟨rfl, hrel⟩ := hrel
        rcases hrel with ⟨rfl, HW⟩ | ⟨rfl, HO⟩
        · rw [HW.out]
          clear HW
          go_wp2_with fail
          have callS : ∀ (d : Nat) (os : Array Obj), Calls Tryz.prog 45 #[.slice (some ⟨g, 0, none⟩) l.length (l.length + 2), .slice ao l.length cap] (Sort.grow (redrawn w d) os) fun e w'' => e = .returned (.bool true) ∧ ∃ p : Regrown, w'' = Sort.grow (redrawn w p.d) p.os := by
            intro d os
            have hbel := grown_below' (below_regrown w d os)
            refine Calls.regrown_of ((same_m l l _ _ _ (((lent_ints HR.out).pres (pres_grown hbel)).mono hbel.size) ((HI.out.pres (pres_grown hbel)).mono hbel.size) (by omega)).mono ?_)
            rintro e w' ⟨rfl, hl⟩
            refine ⟨by simp, ?_⟩
            have := grown_of_like (r := none) hl
            exact ⟨this.os, this.tape, this.output, this.size, fun k hk => this.block k hk (by simp)⟩
          have k1 := fun d os => cell_regrown a1 d os
          have k2 := fun d os => cell_regrown h2 d os
          have qn0 : (0 : Int) ≤ (l.length : Int) := by omega
          have qn : (l.length : Int) ≤ (l.length : Int) + 2 := by omega
          refine wp_region_quiet_below (by kernel_rfl) (by kernel_rfl) ?_
          repeat (quiet_step (exact callS _ _))
          refine wpQuiet_nil ?_
          intro w6 hw6
          obtain ⟨⟨dq, osq⟩, hw6⟩ := hw6
          have hB6 := below_regrown w dq osq
          rw [← hw6] at hB6
          clear hw6 callS k1 k2
          have hG6 := grown_below' hB6
          have HT6 : Hid (Turned w b g w6) := (Turned.refl w b g).below hB6
          have hr6 : w6.heap[g]? = some (.cells (lentRow l) 3 (0, 0)) := by
            rw [hG6.block g (Array.getElem?_eq_some_iff.1 HR.out).1 (by simp)]; exact HR.out
          have HH6 := hide (HH.out.grown hG6 (by simp))
          have x0 : w6.cell? ⟨g, l.length, none⟩ = some (.int .i64 (-77000000)) := by simp only [World.cell?, hr6]; exact lentRow_ink0 l
          have x1 : w6.cell? ⟨g, l.length + 1, none⟩ = some (.int .i64 (-77000000)) := by simp only [World.cell?, hr6]; exact lentRow_ink1 l
          have HOV : Hid (OverIn w b g (.slice (some ⟨g1, 0, none⟩) 1 c1) (.slice (some ⟨g2, 0, none⟩) 1 c2) n ov mv (l.length + 2) w6) := ⟨HT6.out, HH6.out, lentRow l, lentRow_len l, hr6⟩
          have qn1 : (l.length : Int) < (l.length : Int) + 2 := by omega
          have qn2 : (l.length : Int) + 1 < (l.length : Int) + 2 := by omega
          clear hB6 hG6 hr6 a0 a1 a2 a4 h1 h2
          go_wp2_with fail
          go_loopw [20] (fun i w' => ∃ k : Nat, k ≤ l.length + 2 ∧ i = .int .i64 k ∧ Hid (OverIn w b g (.slice (some ⟨g1, 0, none⟩) 1 c1) (.slice (some ⟨g2, 0, none⟩) 1 c2) n ov mv (l.length + 2) w')) (fun i _ => l.length + 2 - (intOf i).toNat)
          case atStart => exact ⟨0, by omega, rfl, HOV⟩
          case round =>
            obtain ⟨k, hk, rfl, HOK⟩ := hrel
            obtain ⟨w7, hw7⟩ : ∃ w7, w7 = wr := ⟨_, rfl⟩
            rw [← hw7] at HOK ⊢
            clear hw7
            by_cases hlt : k < l.length + 2
            · obtain ⟨R, hRs, hRr⟩ := HOK.out.row
              have y0 : ∃ u, w7.cell? ⟨g, k, none⟩ = some u := ⟨R[k]'(by omega), by simp only [World.cell?, hRr]; exact Array.getElem?_eq_getElem _⟩
              obtain ⟨u, y0⟩ := y0
              have y1 : w7.frozen? ⟨g, k, none⟩ = false := by simp [World.frozen?, hRr]
              have HNX : Hid (OverIn w b g (.slice (some ⟨g1, 0, none⟩) 1 c1) (.slice (some ⟨g2, 0, none⟩) 1 c2) n ov mv (l.length + 2) (w7.setCell ⟨g, k, none⟩ (.int .i64 3))) :=
                ⟨HOK.out.turned.set (Or.inr rfl), HOK.out.h.setOther (fun e => hgb e.symm), R.setIfInBounds k (.int .i64 3), by simpa using hRs, heap_setCell_same w7 g k R _ _ hRr⟩
              have z0 : (0 : Int) ≤ (k : Int) := by omega
              have z1 : (k : Int) < (l.length : Int) + 2 := by omega
              clear hRr hRs
              go_wp2_with fail
              go_roundw
              case rel => exact ⟨k + 1, by omega, by go_num, HNX⟩
              case measure => simp [intOf]; omega
            · have z1 : (l.length : Int) + 2 ≤ (k : Int) := by omega
              go_wp2_with fail
              go_roundw
              case rel => exact ⟨rfl, Or.inr ⟨rfl, HOK⟩⟩
              case measure => simp [intOf]
        · have b0 : wr.cell? ⟨b, 0, none⟩ = some (.slice (some ⟨g1, 0, none⟩) 1 c1) := HO.out.h.cell 0
          obtain ⟨w7, hw7⟩ : ∃ w7, w7 = wr := ⟨_, rfl⟩
          rw [← hw7] at HO b0 ⊢
          clear hw7 a0 a1 a2 a4 h1 h2
          have HB0 := HO.out.h
          have e4 : w7.cell? ⟨b, 4, none⟩ = some (.slice none 0 0) := HB0.cell 4
          have e2 : w7.cell? ⟨b, 2, none⟩ = some (.slice none 0 0) := HB0.cell 2
          have e3 : w7.cell? ⟨b, 3, none⟩ = some (.slice none 0 0) := HB0.cell 3
          have e1 : w7.cell? ⟨b, 1, none⟩ = some (.slice (some ⟨g2, 0, none⟩) 1 c2) := HB0.cell 1
          have f4 := HB0.frozen 4
          have f2 := HB0.frozen 2
          have f3 := HB0.frozen 3
          have f0 := HB0.frozen 0
          have f1 := HB0.frozen 1
          clear HB0
          go_wp2_with fail
          go_ret
          refine ⟨rfl, ?_, ?_⟩
          · have HB := HO.out.h
            unfold HAt at *
            have s4 := heap_setCell_same _ b 4 _ _ (.slice none 0 0) HB
            have s2 := heap_setCell_same _ b 2 _ _ (.slice none 0 0) s4
            have s3 := heap_setCell_same _ b 3 _ _ (.slice none 0 0) s2
            have s0 := heap_setCell_same _ b 0 _ _ (.slice none 0 0) s3
            have s1 := heap_setCell_same _ b 1 _ _ (.slice none 0 0) s0
            rw [s1]; rfl
          · exact ((((HO.out.turned.set (Or.inl rfl)).set (Or.inl rfl)).set (Or.inl rfl)).set (Or.inl rfl)).set (Or.inl rfl)

end Go.Proofs.YtklenjmfalljgaaGreatDoor

/- append, and what becomes of the old row; the walk of keepInts. -/
namespace Go.Proofs.YtklenjmfalljgaaGreatDoor
open Go.RowKit
attribute [local go_sem] Go.World.cell?_alloc_some

section
variable {P : Program} {w : World}
/-- append: in its own row, or in a new one, and then all else stands, the old row too. -/
theorem wpList_append_keeps {ops : Array Oper} {rest : List Oper} {o : Oper} {a : Act} {Q : Exit → Act → World → Prop} (hgd : o.guard = none) (s x : Operand) (t : TypeId)
    (ho : o.op = .call { callee := .builtin .append, args := #[s, x], argTypes := #[t, t] })
    (base : Nat) (e : TypeId) (i : TypeInfo) (z : Value) (size bytes : Nat) (ht : P.underlying t = some (.slice e)) (hi : P.info? e = some i) (hz : i.zero = some z)
    (hsize : i.size = size) (hby : i.bytes = bytes) (hzs : z.cells.size = size) (hsz : 0 < size)
    (v : Value) (n : Nat) (xs : List Value) (hs : a.eval s = v) (hown : w.ownsRow base e size v n xs)
    (ad : Addr) (m c : Nat) (news : List Value) (hx : a.eval x = .slice (some ad) m c) (hl : news.length = m * size) (hnews : ∀ j u, news[j]? = some u → w.cell? (ad.add j) = some u) (h1 : ∀ u ∈ news, u.oneCell' = true)
    (hm : 0 < m) (h63 : n + m ≤ maxLen) (hbytes : (n + m) * bytes ≤ 140737488355328) (hbase : base ≤ w.heap.size) (H : Nat) (hH : w.heap.size = H)
    (h : ∀ g cap w', w'.ownsRow base e size (.slice (some ⟨g, 0, none⟩) (n + m) cap) (n + m) (xs ++ news) → ((v.ownBlock = some g ∧ w.grownBy w' (some g)) ∨ (g = H ∧ w.grownBy w' none)) → g < w'.heap.size → wpList P ops Q rest (a.put o.dst (.slice (some ⟨g, 0, none⟩) (n + m) cap)) w') : wpList P ops Q (o :: rest) a w := by
  refine wpList_plain hgd fun K hK => ?_
  obtain ⟨g, cap, w', hr, h2, h3, h4, h5⟩ := run_append_lies (P := P) w t o.type base e i z size bytes ht hi hz hsize hby hzs hsz v n xs hown ad m c news hl hnews h1 hm h63 hbytes hbase H hH
  have key : (v.ownBlock = some g ∧ w.grownBy w' (some g)) ∨ (g = H ∧ w.grownBy w' none) := by
    have hsmall : n + m ≤ 9223372036854775807 := by simp only [maxLen] at h63; omega
    rcases hown.2 with ⟨rfl, rfl⟩ | ⟨g0, cap0, cur, rfl, hbg, hg, hnc, hcm, hcs, htake⟩
    · rcases h4 with h4 | h4
      · cases h4
      · exact Or.inr ⟨h4, h3⟩
    · by_cases hroom : n + m ≤ cap0
      · obtain ⟨w2, hr2, h6, h7⟩ := run_append_fits (P := P) w base t o.type e i size ht hi hsize g0 n cap0 xs hown ad m c news hl hnews h1 hroom
        rw [hr] at hr2
        simp only [Result.ok.injEq, Value.slice.injEq, Option.some.injEq, Addr.mk.injEq, true_and, and_true] at hr2
        obtain ⟨⟨rfl, rfl⟩, rfl⟩ := hr2
        exact Or.inl ⟨rfl, h7⟩
      · subst hsize
        subst hby
        have holds : ∀ j u, xs[j]? = some u → w.cell? ((⟨g0, 0, none⟩ : Addr).add j) = some u := hown.cells (g := g0) rfl
        have hr2 := run_append_grow (P := P) w t o.type e i z ht hi hz ⟨g0, 0, none⟩ n cap0 xs hown.1 holds ad m c news hl hnews (by omega) (by omega) (growslice_fits (by omega) hbytes)
        rw [hr] at hr2
        simp only [Result.ok.injEq, Value.slice.injEq, Option.some.injEq, Addr.mk.injEq, true_and, and_true] at hr2
        obtain ⟨⟨rfl, rfl⟩, rfl⟩ := hr2
        exact Or.inr ⟨hH, ⟨rfl, rfl, rfl, by simp, fun k hk _ => Below.heap_alloc w.drew _ k hk⟩⟩
  unfold Oper.wp execOp
  simp only [ho, resolve, invoke, builtin, Sem.run_bind, Sem.run_pure, Result.andThen_ok, List.map_toArray, List.map_cons, List.map_nil, hs, hx, hr]
  exact hK _ _ (h g cap w' h2 key h5)
end

/-- A list that came out and was written full: it reads so. -/
def Kept (w : World) (x : Value × Int) : Prop := x.1 = .slice none 0 0 ∨ ∃ g len cap, x.1 = .slice (some ⟨g, 0, none⟩) len cap ∧ len ≤ 1000 ∧ ∀ k, k < len → w.cell? ⟨g, k, none⟩ = some (.int .i64 x.2)

structure KeptAll (B : Nat) (w : World) (b : Nat) (ov mv : Value) (K : List (Value × Int)) : Prop where
  orow : w.ownsRow B 25 1 ov K.length (K.map (·.1))
  mrow : w.ownsRow B 3 1 mv K.length (ints (K.map (·.2)))
  ob : ov.ownBlock ≠ some b
  mb : mv.ownBlock ≠ some b
  om : ∀ g, ov.ownBlock = some g → mv.ownBlock ≠ some g
  kept : ∀ x ∈ K, Kept w x ∧ ∀ g, x.1.ownBlock = some g → g ≠ b ∧ ov.ownBlock ≠ some g ∧ mv.ownBlock ≠ some g ∧ g < w.heap.size
  lo : B ≤ b

/-- The hands between two calls. -/
def Hd (B : Nat) (w : World) (b : Nat) (n : Int) (K : List (Value × Int)) : Prop := ∃ ov mv, HAt w b (.slice none 0 0) (.slice none 0 0) n ov mv ∧ KeptAll B w b ov mv K

theorem Kept.grown {w w' : World} {x : Value × Int} {r : Option Nat} (h : Kept w x) (hg : w.grownBy w' r) (hr : ∀ g, x.1.ownBlock = some g → r ≠ some g ∧ g < w.heap.size) : Kept w' x := by
  rcases h with h | ⟨g, len, cap, e, hl, hc⟩
  · exact Or.inl h
  · obtain ⟨h1, h2⟩ := hr g (by rw [e]; rfl)
    refine Or.inr ⟨g, len, cap, e, hl, fun k hk => ?_⟩
    rw [World.cell?_of_block (hg.block g h2 (fun e => h1 e.symm))]; exact hc k hk
theorem owns_ltH {w : World} {base : Nat} {e : TypeId} {size : Nat} {v : Value} {n : Nat} {xs : List Value} (h : w.ownsRow base e size v n xs) : ∀ g, v.ownBlock = some g → g < w.heap.size := by
  intro g hg
  rcases h.2 with ⟨e1, _⟩ | ⟨g', cap, cur, hv, hb, hh, _⟩
  · rw [e1] at hg; cases hg
  · rw [hv] at hg; simp [Value.ownBlock] at hg; rw [← hg]; exact (Array.getElem?_eq_some_iff.1 hh).1
theorem owns_step' {w w' : World} {base : Nat} {e : TypeId} {size : Nat} {v : Value} {n : Nat} {xs : List Value} {r : Option Nat} (h : w.ownsRow base e size v n xs) (hg : w.grownBy w' r) (hr : ∀ g, v.ownBlock = some g → r ≠ some g) : w'.ownsRow base e size v n xs := by
  obtain ⟨h1, h2⟩ := h
  refine ⟨h1, ?_⟩
  rcases h2 with h2 | ⟨g, cap, cur, hv, hb, hh, rest⟩
  · exact Or.inl h2
  · refine Or.inr ⟨g, cap, cur, hv, hb, ?_, rest⟩
    rw [hg.block g (Array.getElem?_eq_some_iff.1 hh).1 (fun e => hr g (by rw [hv]; rfl) e.symm)]; exact hh

/-- What changes blocks that are not the hands' leaves them. -/
theorem KeptAll.grown {B : Nat} {w w' : World} {b : Nat} {ov mv : Value} {K : List (Value × Int)} {r : Option Nat} (h : KeptAll B w b ov mv K) (hg : w.grownBy w' r) (ho : ∀ g, r = some g → ov.ownBlock ≠ some g ∧ mv.ownBlock ≠ some g ∧ ∀ x ∈ K, x.1.ownBlock ≠ some g) : KeptAll B w' b ov mv K := by
  refine ⟨owns_step' h.orow hg (fun g e1 e2 => (ho g e2).1 e1), owns_step' h.mrow hg (fun g e1 e2 => (ho g e2).2.1 e1), h.ob, h.mb, h.om, fun x hx => ?_, h.lo⟩
  obtain ⟨k1, k2⟩ := h.kept x hx
  refine ⟨k1.grown hg (fun g e => ⟨fun e2 => (ho g e2).2.2 x hx e, (k2 g e).2.2.2⟩), fun g e => ?_⟩
  obtain ⟨h1, h2, h3, h4⟩ := k2 g e
  exact ⟨h1, h2, h3, Nat.lt_of_lt_of_le h4 hg.size⟩

theorem Hd.grown {B : Nat} {w w' : World} {b : Nat} {n : Int} {K : List (Value × Int)} (h : Hd B w b n K) (hg : w.grownBy w' none) : Hd B w' b n K := by
  obtain ⟨ov, mv, h1, h2⟩ := h
  exact ⟨ov, mv, h1.grown hg (by simp), h2.grown hg (fun g e => by cases e)⟩

/-- In the midst of keepInts: lists kept, marks kept, the list that is written. -/
structure KS (W : World) (B : Nat) (w : World) (b : Nat) (n m : Int) (ov mv lv : Value) (len : Nat) (K : List (Value × Int)) (M : List Int) : Prop where
  h : HAt w b (.slice none 0 0) (.slice none 0 0) n ov mv
  orow : w.ownsRow B 25 1 ov K.length (K.map (·.1))
  mrow : w.ownsRow B 3 1 mv M.length (ints M)
  lrow : w.ownsRow B 3 1 lv len (List.replicate len (.int .i64 m))
  ob : ov.ownBlock ≠ some b
  mb : mv.ownBlock ≠ some b
  lb : lv.ownBlock ≠ some b
  om : ∀ g, ov.ownBlock = some g → mv.ownBlock ≠ some g
  ol : ∀ g, ov.ownBlock = some g → lv.ownBlock ≠ some g
  ml : ∀ g, mv.ownBlock = some g → lv.ownBlock ≠ some g
  kept : ∀ x ∈ K, Kept w x ∧ ∀ g, x.1.ownBlock = some g → g ≠ b ∧ ov.ownBlock ≠ some g ∧ mv.ownBlock ≠ some g ∧ g < w.heap.size ∧ (lv.ownBlock = some g → x.2 = m ∧ ∃ l c, x.1 = .slice (some ⟨g, 0, none⟩) l c ∧ l ≤ len)
  lo : B ≤ b
  ln : len ≤ 1000
  base : W.grownBy w none
  wb : W.heap.size ≤ B

theorem grown_some {w w' : World} {r : Option Nat} (h : w.grownBy w' none) : w.grownBy w' r := ⟨h.os, h.tape, h.output, h.size, fun k hk _ => h.block k hk (by simp)⟩

/-- The frame of an append behind a new block. -/
theorem key_frame {w w6 : World} {o : Obj} {v : Value} {g6 : Nat} (key : (v.ownBlock = some g6 ∧ (w.alloc o).grownBy w6 (some g6)) ∨ (g6 = w.heap.size + 1 ∧ (w.alloc o).grownBy w6 none)) :
    ∃ r, w.grownBy w6 r ∧ (∀ g, r = some g → v.ownBlock = some g) ∧ (∀ g, g < w.heap.size → v.ownBlock ≠ some g → g6 ≠ g) ∧ (∀ g, g < w.heap.size → v.ownBlock ≠ some g → w6.heap[g]? = w.heap[g]?) ∧ w.heap.size ≤ w6.heap.size := by
  rcases key with ⟨e, hg⟩ | ⟨e, hg⟩
  · have hw : w.grownBy w6 (some g6) := grown_trans (grown_alloc (grown_refl _ _)) hg
    exact ⟨some g6, hw, fun g e2 => (by rw [e, e2]), fun g _ h2 e3 => h2 (by rw [e, e3]), fun g h1 h2 => hw.block g h1 (fun e3 => h2 (by rw [e, e3])), hw.size⟩
  · have hw : w.grownBy w6 none := grown_trans (grown_alloc (grown_refl _ _)) hg
    exact ⟨none, hw, fun g e2 => (by cases e2), fun g h1 _ e3 => (by omega), fun g h1 _ => hw.block g h1 (by simp), hw.size⟩

theorem Kept.same {w w' : World} {x : Value × Int} (h : Kept w x) (hb : ∀ g, x.1.ownBlock = some g → w'.heap[g]? = w.heap[g]?) : Kept w' x := by
  rcases h with h | ⟨g, len, cap, e, hl, hc⟩
  · exact Or.inl h
  · refine Or.inr ⟨g, len, cap, e, hl, fun k hk => ?_⟩
    rw [World.cell?_of_block (hb g (by rw [e]; rfl))]; exact hc k hk
theorem owns_same {w w' : World} {base : Nat} {e : TypeId} {size : Nat} {v : Value} {n : Nat} {xs : List Value} (h : w.ownsRow base e size v n xs) (hb : ∀ g, v.ownBlock = some g → w'.heap[g]? = w.heap[g]?) : w'.ownsRow base e size v n xs := by
  obtain ⟨h1, h2⟩ := h
  refine ⟨h1, ?_⟩
  rcases h2 with h2 | ⟨g, cap, cur, hv, hbb, hh, rest⟩
  · exact Or.inl h2
  · exact Or.inr ⟨g, cap, cur, hv, hbb, by rw [hb g (by rw [hv]; rfl)]; exact hh, rest⟩
theorem base_row {W w w6 : World} {r : Option Nat} {v : Value} {B : Nat} (h : W.grownBy w none) (hB : W.heap.size ≤ B) (hg : w.grownBy w6 r) (hr : ∀ g, r = some g → v.ownBlock = some g) (hv : ∀ g, v.ownBlock = some g → B ≤ g) : W.grownBy w6 none :=
  ⟨hg.os.trans h.os, hg.tape.trans h.tape, hg.output.trans h.output, Nat.le_trans h.size hg.size, fun k hk _ => by
    rw [hg.block k (Nat.lt_of_lt_of_le hk h.size) (fun e => by have := hv k (hr k e.symm); omega)]; exact h.block k hk (by simp)⟩

section
variable {W : World} {B : Nat} {w : World} {b : Nat} {n m : Int} {ov mv lv : Value} {len : Nat} {K : List (Value × Int)} {M : List Int}

/-- h.out = append(h.out, l). -/
theorem KS.out (s : KS W B w b n m ov mv lv len K M) {w6 : World} {o : Obj} {g6 c6 : Nat} (hown : w6.ownsRow B 25 1 (.slice (some ⟨g6, 0, none⟩) (K.length + 1) c6) (K.length + 1) (K.map (·.1) ++ [lv]))
    (key : (ov.ownBlock = some g6 ∧ (w.alloc o).grownBy w6 (some g6)) ∨ (g6 = w.heap.size + 1 ∧ (w.alloc o).grownBy w6 none)) :
    KS W B (w6.setCell ⟨b, 6, none⟩ (.slice (some ⟨g6, 0, none⟩) (K.length + 1) c6)) b n m (.slice (some ⟨g6, 0, none⟩) (K.length + 1) c6) mv lv len (K ++ [(lv, m)]) M := by
  obtain ⟨r, hg, hr, hne, hsame, hsz⟩ := key_frame key
  have hb := s.h.lt
  have hg6b : g6 ≠ b := hne b hb s.ob
  have oth : ∀ g, g < w.heap.size → ov.ownBlock ≠ some g → g ≠ b → (w6.setCell ⟨b, 6, none⟩ (.slice (some ⟨g6, 0, none⟩) (K.length + 1) c6)).heap[g]? = w.heap[g]? := fun g h1 h2 h3 => by
    rw [Below.heap_setCell _ _ _ _ (by simpa using h3)]; exact hsame g h1 h2
  have hmL := owns_ltH s.mrow
  have hlL := owns_ltH s.lrow
  refine ⟨?_, ?_, owns_same s.mrow (fun g e => oth g (hmL g e) (fun e2 => s.om g e2 e) (fun e2 => s.mb (by rw [e, e2]))), owns_same s.lrow (fun g e => oth g (hlL g e) (fun e2 => s.ol g e2 e) (fun e2 => s.lb (by rw [e, e2]))),
    by simpa [Value.ownBlock] using hg6b, s.mb, s.lb, ?_, ?_, s.ml, ?_, s.lo, s.ln, ?_, s.wb⟩
  · refine HAt.set6 (ov := ov) ?_ _
    have := s.h
    unfold HAt at *
    rw [hsame b hb s.ob]; exact this
  · refine ownsRow_setCell_other ?_ (by simpa [Value.ownBlock] using hg6b) _
    simpa using hown
  · intro g e e2
    simp only [Value.ownBlock, Option.some.injEq] at e
    exact hne g (hmL g e2) (fun e3 => s.om g e3 e2) e
  · intro g e e2
    simp only [Value.ownBlock, Option.some.injEq] at e
    exact hne g (hlL g e2) (fun e3 => s.ol g e3 e2) e
  · intro x hx
    rcases List.mem_append.1 hx with hx | hx
    · obtain ⟨k1, k2⟩ := s.kept x hx
      refine ⟨k1.same (fun g e => by obtain ⟨h1, h2, h3, h4, _⟩ := k2 g e; exact oth g h4 h2 h1), fun g e => ?_⟩
      obtain ⟨h1, h2, h3, h4, h5⟩ := k2 g e
      exact ⟨h1, by simpa [Value.ownBlock] using hne g h4 h2, h3, by simp; omega, h5⟩
    · simp at hx
      subst hx
      refine ⟨?_, fun g e => ⟨fun e2 => s.lb (by rw [← e2]; exact e), by simpa [Value.ownBlock] using hne g (hlL g e) (fun e3 => s.ol g e3 e), fun e3 => s.ml g e3 e, by have := hlL g e; simp; omega, fun _ => ⟨rfl, ?_⟩⟩⟩
      · rcases s.lrow.2 with ⟨e, _⟩ | ⟨g, cap, cur, hv, hbb, hh, hc1, hc2, hc3, hc4⟩
        · exact Or.inl e
        · refine Or.inr ⟨g, len, cap, hv, s.ln, fun k hk => ?_⟩
          have hlr := s.lrow
          rw [hv] at hlr
          rw [World.cell?_of_block (oth g (Array.getElem?_eq_some_iff.1 hh).1 (fun e3 => s.ol g e3 (by rw [hv]; rfl)) (fun e3 => s.lb (by rw [hv, ← e3]; rfl))), hlr.cellAt k (by omega)]
          simp [hk]
      · rcases s.lrow.2 with ⟨e2, _⟩ | ⟨g', cap, cur, hv, _⟩
        · rw [e2] at e; cases e
        · rw [hv] at e
          simp only [Value.ownBlock, Option.some.injEq] at e
          exact ⟨len, cap, by rw [hv, e], Nat.le_refl _⟩
  · exact grown_setNew (base_row s.base s.wb hg hr (owns_block s.orow)) (by have := s.lo; have := s.wb; omega)

/-- h.marks = append(h.marks, m). -/
theorem KS.mark (s : KS W B w b n m ov mv lv len K M) {w6 : World} {o : Obj} {g6 c6 : Nat} (hown : w6.ownsRow B 3 1 (.slice (some ⟨g6, 0, none⟩) (M.length + 1) c6) (M.length + 1) (ints M ++ [.int .i64 m]))
    (key : (mv.ownBlock = some g6 ∧ (w.alloc o).grownBy w6 (some g6)) ∨ (g6 = w.heap.size + 1 ∧ (w.alloc o).grownBy w6 none)) :
    KS W B (w6.setCell ⟨b, 7, none⟩ (.slice (some ⟨g6, 0, none⟩) (M.length + 1) c6)) b n m ov (.slice (some ⟨g6, 0, none⟩) (M.length + 1) c6) lv len K (M ++ [m]) := by
  obtain ⟨r, hg, hr, hne, hsame, hsz⟩ := key_frame key
  have hb := s.h.lt
  have hg6b : g6 ≠ b := hne b hb s.mb
  have oth : ∀ g, g < w.heap.size → mv.ownBlock ≠ some g → g ≠ b → (w6.setCell ⟨b, 7, none⟩ (.slice (some ⟨g6, 0, none⟩) (M.length + 1) c6)).heap[g]? = w.heap[g]? := fun g h1 h2 h3 => by
    rw [Below.heap_setCell _ _ _ _ (by simpa using h3)]; exact hsame g h1 h2
  have hoL := owns_ltH s.orow
  have hlL := owns_ltH s.lrow
  refine ⟨?_, owns_same s.orow (fun g e => oth g (hoL g e) (fun e2 => s.om g e e2) (fun e2 => s.ob (by rw [e, e2]))), ?_, owns_same s.lrow (fun g e => oth g (hlL g e) (fun e2 => s.ml g e2 e) (fun e2 => s.lb (by rw [e, e2]))),
    s.ob, by simpa [Value.ownBlock] using hg6b, s.lb, ?_, s.ol, ?_, ?_, s.lo, s.ln, ?_, s.wb⟩
  · refine HAt.set7 (mv := mv) ?_ _
    have := s.h
    unfold HAt at *
    rw [hsame b hb s.mb]; exact this
  · refine ownsRow_setCell_other ?_ (by simpa [Value.ownBlock] using hg6b) _
    simpa [ints] using hown
  · intro g e e2
    simp only [Value.ownBlock, Option.some.injEq] at e2
    exact hne g (hoL g e) (fun e3 => s.om g e e3) e2
  · intro g e e2
    simp only [Value.ownBlock, Option.some.injEq] at e
    exact hne g (hlL g e2) (fun e3 => s.ml g e3 e2) e
  · intro x hx
    obtain ⟨k1, k2⟩ := s.kept x hx
    refine ⟨k1.same (fun g e => by obtain ⟨h1, h2, h3, h4, _⟩ := k2 g e; exact oth g h4 h3 h1), fun g e => ?_⟩
    obtain ⟨h1, h2, h3, h4, h5⟩ := k2 g e
    exact ⟨h1, h2, by simpa [Value.ownBlock] using hne g h4 h3, by simp; omega, h5⟩
  · exact grown_setNew (base_row s.base s.wb hg hr (owns_block s.mrow)) (by have := s.lo; have := s.wb; omega)

/-- l = append(l, m). -/
theorem KS.list (s : KS W B w b n m ov mv lv len K M) (hl : len + 1 ≤ 1000) {w6 : World} {o : Obj} {g6 c6 : Nat} (hown : w6.ownsRow B 3 1 (.slice (some ⟨g6, 0, none⟩) (len + 1) c6) (len + 1) (List.replicate len (.int .i64 m) ++ [.int .i64 m]))
    (key : (lv.ownBlock = some g6 ∧ (w.alloc o).grownBy w6 (some g6)) ∨ (g6 = w.heap.size + 1 ∧ (w.alloc o).grownBy w6 none)) :
    KS W B w6 b n m ov mv (.slice (some ⟨g6, 0, none⟩) (len + 1) c6) (len + 1) K M := by
  obtain ⟨r, hg, hr, hne, hsame, hsz⟩ := key_frame key
  have hb := s.h.lt
  have hg6b : g6 ≠ b := hne b hb s.lb
  have hoL := owns_ltH s.orow
  have hmL := owns_ltH s.mrow
  have hrow : w6.ownsRow B 3 1 (.slice (some ⟨g6, 0, none⟩) (len + 1) c6) (len + 1) (List.replicate (len + 1) (.int .i64 m)) := by rw [List.replicate_succ']; exact hown
  refine ⟨?_, owns_same s.orow (fun g e => hsame g (hoL g e) (s.ol g e)), owns_same s.mrow (fun g e => hsame g (hmL g e) (s.ml g e)), hrow, s.ob, s.mb, by simpa [Value.ownBlock] using hg6b, s.om, ?_, ?_, ?_, s.lo, hl, ?_, s.wb⟩
  · have := s.h
    unfold HAt at *
    rw [hsame b hb s.lb]; exact this
  · intro g e e2
    simp only [Value.ownBlock, Option.some.injEq] at e2
    exact hne g (hoL g e) (s.ol g e) e2
  · intro g e e2
    simp only [Value.ownBlock, Option.some.injEq] at e2
    exact hne g (hmL g e) (s.ml g e) e2
  · intro x hx
    obtain ⟨k1, k2⟩ := s.kept x hx
    refine ⟨?_, fun g e => ?_⟩
    · rcases k1 with k1 | ⟨g, l, c, e, hl1, hc⟩
      · exact Or.inl k1
      · obtain ⟨h1, h2, h3, h4, h5⟩ := k2 g (by rw [e]; rfl)
        refine Or.inr ⟨g, l, c, e, hl1, fun k hk => ?_⟩
        by_cases hlg : lv.ownBlock = some g
        · obtain ⟨h6, l', c', e', hl'⟩ := h5 hlg
          rw [e] at e'
          simp only [Value.slice.injEq, true_and] at e'
          rcases key with ⟨e2, _⟩ | ⟨e2, hg2⟩
          · have : g6 = g := by rw [hlg] at e2; exact (Option.some.inj e2).symm
            subst this
            rw [hrow.cellAt k (by omega), h6, List.getElem?_replicate, if_pos (by omega)]
          · have hw : w.grownBy w6 none := grown_trans (grown_alloc (grown_refl _ _)) hg2
            rw [World.cell?_of_block (hw.block g h4 (by simp))]; exact hc k hk
        · rw [World.cell?_of_block (hsame g h4 hlg)]; exact hc k hk
    · obtain ⟨h1, h2, h3, h4, h5⟩ := k2 g e
      refine ⟨h1, h2, h3, by omega, fun e2 => ?_⟩
      simp only [Value.ownBlock, Option.some.injEq] at e2
      by_cases hlg : lv.ownBlock = some g
      · obtain ⟨h6, l', c', e', hl'⟩ := h5 hlg
        exact ⟨h6, l', c', e', by omega⟩
      · exact absurd e2 (hne g h4 hlg)
  · exact base_row s.base s.wb hg hr (owns_block s.lrow)
end

end Go.Proofs.YtklenjmfalljgaaGreatDoor

/- The owner's hands, whole: what block is whose, what they hold. -/
namespace Go.Proofs.YtklenjmfalljgaaGreatDoor
open Go.RowKit

/-- Whose a block is: another's, the hands' own, a row of lists (of a kind), a row of marks, a list that came out, the one that is written now, a row of what was lent, a list that was lent. -/
structure Role where
  k : Nat
  c : Nat
abbrev Role.other : Role := ⟨0, 0⟩
abbrev Role.hands : Role := ⟨1, 0⟩
abbrev Role.lst (c : Nat) : Role := ⟨2, c⟩
abbrev Role.mrk (c : Nat) : Role := ⟨3, c⟩
abbrev Role.kept : Role := ⟨4, 0⟩
abbrev Role.cur : Role := ⟨5, 0⟩
abbrev Role.lrow (c : Nat) : Role := ⟨6, c⟩
abbrev Role.lent : Role := ⟨7, 0⟩

def Role.lends (r : Role) : Bool := r.k == 6 || r.k == 7

def hcl (f : Nat → Value) : Array Value := #[f 0, f 1, f 2, f 3, f 4, f 5, f 6, f 7, f 8, f 9, f 10, f 11, f 12, f 13, f 14, f 15]
def setF (f : Nat → Value) (o : Nat) (v : Value) : Nat → Value := fun k => if k = o then v else f k
theorem setF_at (f : Nat → Value) (o : Nat) (v : Value) : setF f o v o = v := by simp [setF]
theorem setF_ne (f : Nat → Value) {o k : Nat} (v : Value) (h : k ≠ o) : setF f o v k = f k := by simp [setF, h]
theorem lt16 {o : Nat} (h : o < 16) : o = 0 ∨ o = 1 ∨ o = 2 ∨ o = 3 ∨ o = 4 ∨ o = 5 ∨ o = 6 ∨ o = 7 ∨ o = 8 ∨ o = 9 ∨ o = 10 ∨ o = 11 ∨ o = 12 ∨ o = 13 ∨ o = 14 ∨ o = 15 := by omega
theorem hcl_get (f : Nat → Value) {o : Nat} (h : o < 16) : (hcl f)[o]? = some (f o) := by
  rcases lt16 h with rfl | rfl | rfl | rfl | rfl | rfl | rfl | rfl | rfl | rfl | rfl | rfl | rfl | rfl | rfl | rfl <;> rfl
theorem hcl_set (f : Nat → Value) {o : Nat} (v : Value) (h : o < 16) : (hcl f).setIfInBounds o v = hcl (setF f o v) := by
  rcases lt16 h with rfl | rfl | rfl | rfl | rfl | rfl | rfl | rfl | rfl | rfl | rfl | rfl | rfl | rfl | rfl | rfl <;> rfl

def HB (w : World) (b : Nat) (f : Nat → Value) : Prop := w.heap[b]? = some (.cells (hcl f) 43 (0, 0))
theorem HB.cell {w : World} {b : Nat} {f : Nat → Value} (h : HB w b f) {o : Nat} (ho : o < 16) : w.cell? ⟨b, o, none⟩ = some (f o) := by
  unfold HB at h; simp only [World.cell?, h]; exact hcl_get f ho
theorem HB.frozen {w : World} {b : Nat} {f : Nat → Value} (h : HB w b f) (o : Nat) : w.frozen? ⟨b, o, none⟩ = false := by
  unfold HB at h; simp [World.frozen?, h]
theorem HB.lt {w : World} {b : Nat} {f : Nat → Value} (h : HB w b f) : b < w.heap.size := (Array.getElem?_eq_some_iff.1 h).1
theorem HB.set {w : World} {b : Nat} {f : Nat → Value} (h : HB w b f) {o : Nat} (ho : o < 16) (v : Value) : HB (w.setCell ⟨b, o, none⟩ v) b (setF f o v) := by
  unfold HB at *; rw [heap_setCell_same w b o _ _ v h, hcl_set f v ho]
theorem HB.same {w w' : World} {b : Nat} {f : Nat → Value} (h : HB w b f) (e : w'.heap[b]? = w.heap[b]?) : HB w' b f := by unfold HB at *; rw [e]; exact h

/-- The kinds of lists that came out: numbers, steps, registers, instructions, threads. -/
def tlC : Nat → TypeId
  | 0 => 25
  | 1 => 28
  | 2 => 30
  | 3 => 75
  | _ => 22
def teC : Nat → TypeId
  | 0 => 3
  | 1 => 84
  | 2 => 29
  | 3 => 74
  | _ => 75
def elC (m : Int) : Nat → List Value
  | 0 => [.int .i64 m]
  | 1 => [.int .i64 m, .int .i64 0]
  | 2 => [.int .i64 m, .int .i64 1, .int .i64 2, .int .i64 3]
  | 3 => [.int .i64 m, .int .i64 0, .int .i64 0, .int .i64 0]
  | _ => []

/-- The elements of a list that came out read as their owner wrote them. -/
def KeptIn (w : World) (who : Nat → Role) (g len : Nat) (m : Int) (c : Nat) : Prop :=
  if c = 4 then ∀ k, k < len → ∃ g' cap', w.cell? ⟨g, k, none⟩ = some (.slice (some ⟨g', 0, none⟩) 1 cap') ∧ w.heap[g']? = some (.cells (elC m 3).toArray 74 (0, 0)) ∧ who g' = .kept
  else ∀ k, k < len → ∀ j u, (elC m c)[j]? = some u → w.cell? ⟨g, k * (elC m c).length + j, none⟩ = some u
theorem keptIn_four {w : World} {who : Nat → Role} {g len : Nat} {m : Int} : KeptIn w who g len m 4 ↔ ∀ k, k < len → ∃ g' cap', w.cell? ⟨g, k, none⟩ = some (.slice (some ⟨g', 0, none⟩) 1 cap') ∧ w.heap[g']? = some (.cells (elC m 3).toArray 74 (0, 0)) ∧ who g' = .kept := by
  unfold KeptIn; rw [if_pos rfl]
theorem keptIn_plain {w : World} {who : Nat → Role} {g len : Nat} {m : Int} {c : Nat} (h : c ≠ 4) : KeptIn w who g len m c ↔ ∀ k, k < len → ∀ j u, (elC m c)[j]? = some u → w.cell? ⟨g, k * (elC m c).length + j, none⟩ = some u := by
  unfold KeptIn; rw [if_neg h]
def KeptC (c : Nat) (w : World) (who : Nat → Role) (x : Value × Int) : Prop :=
  x.1 = .slice none 0 0 ∨ ∃ g len cap, x.1 = .slice (some ⟨g, 0, none⟩) len cap ∧ len ≤ 1000 ∧ KeptIn w who g len x.2 c

/-- The hands: at b; n marks; K the lists that came out, each with its mark; M the marks. -/
structure Hs (B : Nat) (w : World) (b : Nat) (who : Nat → Role) (n : Int) (f : Nat → Value) (K : Nat → List (Value × Int)) (M : Nat → List Int) : Prop where
  blk : HB w b f
  cnt : f 5 = .int .i64 n
  lst : ∀ c, c < 5 → w.ownsRow B (tlC c) 1 (f (6 + 2 * c)) (K c).length ((K c).map (·.1))
  mrk : ∀ c, c < 5 → w.ownsRow B 3 1 (f (7 + 2 * c)) (M c).length (ints (M c))
  wl : ∀ c, c < 5 → ∀ g, (f (6 + 2 * c)).ownBlock = some g → who g = .lst c
  wm : ∀ c, c < 5 → ∀ g, (f (7 + 2 * c)).ownBlock = some g → who g = .mrk c
  wb : who b = .hands
  kept : ∀ c, c < 5 → ∀ x ∈ K c, KeptC c w who x ∧ ∀ g, x.1.ownBlock = some g → who g = .kept ∨ who g = .cur
  dom : ∀ g, who g ≠ .other → B ≤ g ∧ g < w.heap.size

theorem keptIn_same {w w' : World} {who : Nat → Role} {g len : Nat} {m : Int} {c : Nat} (h : KeptIn w who g len m c) (hg : w'.heap[g]? = w.heap[g]?) (hk : ∀ g, who g = .kept → w'.heap[g]? = w.heap[g]?) : KeptIn w' who g len m c := by
  by_cases hc : c = 4
  · subst hc
    rw [keptIn_four] at *
    intro k hkl
    obtain ⟨g', cap', h1, h2, h3⟩ := h k hkl
    exact ⟨g', cap', by rw [World.cell?_of_block hg]; exact h1, by rw [hk g' h3]; exact h2, h3⟩
  · rw [keptIn_plain hc] at *
    intro k hkl j u hu
    rw [World.cell?_of_block hg]
    exact h k hkl j u hu
theorem KeptC.same {w w' : World} {who : Nat → Role} {c : Nat} {x : Value × Int} (h : KeptC c w who x) (hx : ∀ g, x.1.ownBlock = some g → who g = .kept ∨ who g = .cur) (hk : ∀ g, who g = .kept ∨ who g = .cur → w'.heap[g]? = w.heap[g]?) : KeptC c w' who x := by
  rcases h with h | ⟨g, len, cap, e, hl, hc⟩
  · exact Or.inl h
  · exact Or.inr ⟨g, len, cap, e, hl, keptIn_same hc (hk g (hx g (by rw [e]; rfl))) (fun g e => hk g (Or.inl e))⟩
theorem keptIn_who {w : World} {who who' : Nat → Role} {g len : Nat} {m : Int} {c : Nat} (h : KeptIn w who g len m c) (hk : ∀ g, who g = .kept → who' g = .kept) : KeptIn w who' g len m c := by
  by_cases hc : c = 4
  · subst hc
    rw [keptIn_four] at *
    intro k hkl
    obtain ⟨g', cap', h1, h2, h3⟩ := h k hkl
    exact ⟨g', cap', h1, h2, hk g' h3⟩
  · rw [keptIn_plain hc] at *
    exact h
theorem KeptC.who {w : World} {who who' : Nat → Role} {c : Nat} {x : Value × Int} (h : KeptC c w who x) (hk : ∀ g, who g = .kept → who' g = .kept) : KeptC c w who' x := by
  rcases h with h | ⟨g, len, cap, e, hl, hc⟩
  · exact Or.inl h
  · exact Or.inr ⟨g, len, cap, e, hl, keptIn_who hc hk⟩

section
variable {B : Nat} {w w' : World} {b : Nat} {who who' : Nat → Role} {n : Int} {f : Nat → Value} {K : Nat → List (Value × Int)} {M : Nat → List Int}

/-- What changes other blocks leaves the hands (and what they lent to themselves). -/
theorem Hs.same (h : Hs B w b who n f K M) (hs : w.heap.size ≤ w'.heap.size) (hb : ∀ g, g < w.heap.size → who g ≠ .other → (who g).lends = false → w'.heap[g]? = w.heap[g]?) : Hs B w' b who n f K M := by
  have hr : ∀ g, who g ≠ .other → (who g).lends = false → w'.heap[g]? = w.heap[g]? := fun g h1 h2 => hb g (h.dom g h1).2 h1 h2
  have hk : ∀ g, who g = .kept ∨ who g = .cur → w'.heap[g]? = w.heap[g]? := fun g e => by
    rcases e with e | e <;> exact hr g (by rw [e]; simp) (by rw [e]; rfl)
  refine ⟨h.blk.same (hr b (by rw [h.wb]; simp) (by rw [h.wb]; rfl)), h.cnt, fun c hc => owns_same (h.lst c hc) (fun g e => ?_), fun c hc => owns_same (h.mrk c hc) (fun g e => ?_), h.wl, h.wm, h.wb, fun c hc x hx => ?_, fun g e => ?_⟩
  · have := h.wl c hc g e; exact hr g (by rw [this]; simp) (by rw [this]; rfl)
  · have := h.wm c hc g e; exact hr g (by rw [this]; simp) (by rw [this]; rfl)
  · obtain ⟨k1, k2⟩ := h.kept c hc x hx
    exact ⟨k1.same k2 hk, k2⟩
  · have := h.dom g e; exact ⟨this.1, by omega⟩
theorem Hs.grown (h : Hs B w b who n f K M) (hg : w.grownBy w' none) : Hs B w' b who n f K M := h.same hg.size (fun g hg1 _ _ => hg.block g hg1 (by simp))
theorem Hs.like (h : Hs B w b who n f K M) (hl : Like w' w) : Hs B w' b who n f K M := h.grown (grown_of_like hl)

/-- One more block is somebody's. -/
theorem Hs.more (h : Hs B w b who n f K M) (hw : ∀ g, who g ≠ .other → who' g = who g) (hd : ∀ g, who' g ≠ .other → B ≤ g ∧ g < w.heap.size) : Hs B w b who' n f K M := by
  have hk : ∀ g, who g = .kept ∨ who g = .cur → who' g = .kept ∨ who' g = .cur := fun g e => by
    have : who' g = who g := hw g (by rcases e with e | e <;> rw [e] <;> simp)
    rw [this]; exact e
  refine ⟨h.blk, h.cnt, h.lst, h.mrk, fun c hc g e => ?_, fun c hc g e => ?_, ?_, fun c hc x hx => ?_, hd⟩
  · have := h.wl c hc g e; rw [hw g (by rw [this]; simp), this]
  · have := h.wm c hc g e; rw [hw g (by rw [this]; simp), this]
  · rw [hw b (by rw [h.wb]; simp), h.wb]
  · obtain ⟨k1, k2⟩ := h.kept c hc x hx
    exact ⟨k1.who (fun g e => by rw [hw g (by rw [e]; simp)]; exact e), fun g e => hk g (k2 g e)⟩

/-- A field of what is lent is set. -/
theorem Hs.setLent (h : Hs B w b who n f K M) {o : Nat} (ho : o < 5) (v : Value) : Hs B (w.setCell ⟨b, o, none⟩ v) b who n (setF f o v) K M := by
  have hr : ∀ g, who g ≠ .hands → (w.setCell ⟨b, o, none⟩ v).heap[g]? = w.heap[g]? := fun g e => Below.heap_setCell _ _ _ _ (by intro e2; simp only at e2; rw [e2] at e; exact e h.wb)
  have hk : ∀ g, who g = .kept ∨ who g = .cur → (w.setCell ⟨b, o, none⟩ v).heap[g]? = w.heap[g]? := fun g e => hr g (by rcases e with e | e <;> rw [e] <;> simp)
  refine ⟨h.blk.set (by omega) v, by rw [setF_ne _ _ (by omega)]; exact h.cnt, fun c hc => ?_, fun c hc => ?_, fun c hc => ?_, fun c hc => ?_, h.wb, fun c hc x hx => ?_, fun g e => ?_⟩
  · rw [setF_ne _ _ (by omega)]; exact owns_same (h.lst c hc) (fun g e => hr g (by rw [h.wl c hc g e]; simp))
  · rw [setF_ne _ _ (by omega)]; exact owns_same (h.mrk c hc) (fun g e => hr g (by rw [h.wm c hc g e]; simp))
  · rw [setF_ne _ _ (by omega)]; exact h.wl c hc
  · rw [setF_ne _ _ (by omega)]; exact h.wm c hc
  · obtain ⟨k1, k2⟩ := h.kept c hc x hx
    exact ⟨k1.same k2 hk, k2⟩
  · have := h.dom g e; exact ⟨this.1, by simpa using this.2⟩

/-- A mark more. -/
theorem Hs.setCnt (h : Hs B w b who n f K M) (m : Int) : Hs B (w.setCell ⟨b, 5, none⟩ (.int .i64 m)) b who m (setF f 5 (.int .i64 m)) K M := by
  have hr : ∀ g, who g ≠ .hands → (w.setCell ⟨b, 5, none⟩ (.int .i64 m)).heap[g]? = w.heap[g]? := fun g e => Below.heap_setCell _ _ _ _ (by intro e2; simp only at e2; rw [e2] at e; exact e h.wb)
  have hk : ∀ g, who g = .kept ∨ who g = .cur → (w.setCell ⟨b, 5, none⟩ (.int .i64 m)).heap[g]? = w.heap[g]? := fun g e => hr g (by rcases e with e | e <;> rw [e] <;> simp)
  refine ⟨h.blk.set (by omega) _, setF_at _ _ _, fun c hc => ?_, fun c hc => ?_, fun c hc => ?_, fun c hc => ?_, h.wb, fun c hc x hx => ?_, fun g e => ?_⟩
  · rw [setF_ne _ _ (by omega)]; exact owns_same (h.lst c hc) (fun g e => hr g (by rw [h.wl c hc g e]; simp))
  · rw [setF_ne _ _ (by omega)]; exact owns_same (h.mrk c hc) (fun g e => hr g (by rw [h.wm c hc g e]; simp))
  · rw [setF_ne _ _ (by omega)]; exact h.wl c hc
  · rw [setF_ne _ _ (by omega)]; exact h.wm c hc
  · obtain ⟨k1, k2⟩ := h.kept c hc x hx
    exact ⟨k1.same k2 hk, k2⟩
  · have := h.dom g e; exact ⟨this.1, by simpa using this.2⟩
end

end Go.Proofs.YtklenjmfalljgaaGreatDoor
