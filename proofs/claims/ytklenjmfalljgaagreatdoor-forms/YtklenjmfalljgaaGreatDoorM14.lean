/- The texts Rfg Rfh Ask Rdp Rfm Rfo. -/
import Derived.Test.YtklenjmfalljgaaGreatDoorM03
import Derived.Test.YtklenjmfalljgaaGreatDoorM10
import Derived.Test.YtklenjmfalljgaaGreatDoorM11
import Derived.Test.YtklenjmfalljgaaGreatDoorM12
import Derived.Test.YtklenjmfalljgaaGreatDoorM13

/- The reference's Play. -/
namespace Go.Proofs.YtklenjmfalljgaaGreatDoor
open Go.RowKit
attribute [local go_sem] Go.World.cell?_alloc_some

/-- What Play answers. -/
def Played (w : World) (n : Nat) (ps : Value) (o : Out) (e : Ending) (w' : World) : Prop :=
  ∃ b ab rb st, e = .returned (.pointer (some ⟨b, 0, none⟩)) ∧ RunAt w w' b ab rb n ps st o.st o.steps o.kind o.thread o.at_

set_option maxHeartbeats 4000000 in
set_option maxRecDepth 100000 in
theorem play_m (w : World) (ao : Option Addr) (cap : Nat) (p : List (List Ins)) (sv : Value) (sch : List Int) (hp : vProg p = true) (hP : ProgAt w (.agg #[.slice ao p.length cap]) p) (hI : IntsAt w.heap.size w sv sch) (h500 : sch.length ≤ 1048576) :
    Calls Tryz.prog 49 #[.agg #[.slice ao p.length cap], sv] w (Played w p.length (.slice ao p.length cap) (runS p sch)) := by
  have hn := vProg_len hp
  have HP := hide hP
  have HV := hide hp
  have HI := hide hI
  clear hp hP hI
  go_enter Tryz.func49, Tryz.ntmps49
  go_upto_region 2 with fail
  go_cut [6] (fun pv w' => ∃ b ab rb st, pv = .pointer (some ⟨b, 0, none⟩) ∧ RunAt w w' b ab rb p.length (.slice ao p.length cap) st St.zero [] 0 0 0)
  case first =>
    have hN : p.length = 1 ∨ p.length = 2 ∨ p.length = 3 ∨ p.length = 4 := by omega
    clear HP HV
    generalize p.length = n at *
    obtain ⟨hmA, hmB⟩ := makes n hN
    have n4 : (n : Int) ≤ 4 := by omega
    clear hN
    go_region
    all_goals go_wp2
    all_goals go_meet
    · first | exact ⟨_, _, _, _, rfl, (runAt_new1 w _ n _ _).like ⟨rfl, rfl, rfl, rfl⟩⟩ | exact ⟨_, _, _, _, rfl, (runAt_new2 w _ n _ _).like ⟨rfl, rfl, rfl, rfl⟩⟩
    · first | exact ⟨_, _, _, _, rfl, (runAt_new1 w _ n _ _).like ⟨rfl, rfl, rfl, rfl⟩⟩ | exact ⟨_, _, _, _, rfl, (runAt_new2 w _ n _ _).like ⟨rfl, rfl, rfl, rfl⟩⟩
  case rest =>
    obtain ⟨b, ab, rb, st0, rfl, hR0⟩ := hcut
    have HR0 := hide hR0
    clear hR0
    obtain ⟨so, sc, rfl, hsz, hcell⟩ := HI.out
    have HC := hide hcell
    clear hcell HI
    have q1 : (sch.length : Int) ≤ 1048576 := by omega
    have q2 : (p.length : Int) ≤ 4 := by omega
    go_wp2_with fail
    go_loopw [7] (fun i w' => ∃ (k : Nat) (s : St) (acc : List (Int × Int)) (st : Value), k ≤ sch.length ∧ i = .int .i64 k ∧ Hid (acc.length = k) ∧ Hid (RunAt w w' b ab rb p.length (.slice ao p.length cap) st s acc 0 0 0) ∧ Hid (Inv p s) ∧ Hid (LkOk s) ∧
      Hid (runS p sch = follow p (sch.drop k) k s acc)) (fun i _ => sch.length - (intOf i).toNat)
    case atStart => exact ⟨0, St.zero, [], st0, Nat.zero_le _, rfl, rfl, HR0, Inv.zero p, LkOk.zero, rfl⟩
    case round =>
      obtain ⟨k, s, acc, st, hk, rfl, HAL, HR, HIN, HLK, HF⟩ := hrel
      obtain ⟨w5, hw5⟩ : ∃ w5, w5 = wr := ⟨_, rfl⟩
      rw [← hw5] at HR ⊢
      clear hw5
      by_cases hlt : k < sch.length
      · obtain ⟨gb, go, rfl, hgb, hc⟩ := HC.out k hlt
        have hcr := pres_grown HR.out.frame _ _ hc
        clear hc
        have HD : Hid (sch.drop k = sch[k] :: sch.drop (k + 1)) := List.drop_eq_getElem_cons hlt
        generalize sch[k] = t at *
        have hk0 : (0 : Int) ≤ (k : Int) := by omega
        have hk1 : (k : Int) < sch.length := by omega
        obtain ⟨_, c11, c12, c13, f11, f12, f13⟩ := HR.out.vcells
        by_cases hb0 : 0 ≤ t
        · by_cases hb1 : t < p.length
          · obtain ⟨t', rfl⟩ := Int.eq_ofNat_of_zero_le hb0
            have ht' : t' < p.length := by omega
            go_wp2_with fail
            refine (rreadyS HV.out HP.out HR.out HIN.out HLK.out ht').mono ?_
            rintro e w6 ⟨rfl, hg6⟩
            have HR6 := hide (HR.out.grown hg6)
            replace hcr := pres_grown hg6 _ _ hcr
            clear hg6 c11 c12 c13 f11 f12 f13 HR
            obtain ⟨_, c11, c12, c13, f11, f12, f13⟩ := HR6.out.vcells
            cases hrd : readyB p s t'
            · have HW : Hid (runS p sch = ⟨acc, 2, 0, k, s⟩) := by
                unfold Hid
                rw [HF.out, HD.out]; exact follow_wrong _ _ _ _ _ _ (by simp [okAt, hrd])
              clear hrd
              go_wp2_with fail
              go_ret
              rw [HW.out]
              exact ⟨b, ab, rb, st, rfl, HR6.out.verdict 2 0 k⟩
            · have HK : Hid (okAt p s t' = true) := by
                unfold Hid okAt belowB
                simp [hrd, ht']
              have HDn : Hid (doneB p s t' = false) := by
                unfold Hid
                cases hd : doneB p s t' with
                | false => rfl
                | true => simp [readyB, hd] at hrd
              clear hrd c11 c12 c13 f11 f12 f13
              go_wp2_with fail
              refine (rstepS HV.out HP.out HR6.out HIN.out ht' HDn.out (by rw [HAL.out]; omega)).mono ?_
              rintro e w7 ⟨st', rfl, hR7⟩
              have HR7 := hide hR7
              clear hR7 HR6 hcr
              cases hstp : (stepS p s t').1
              · have HW : Hid (runS p sch = ⟨acc ++ [((t' : Int), s.next t')], 1, t', s.next t', (stepS p s t').2⟩) := by
                  unfold Hid
                  rw [HF.out, HD.out]; exact follow_fail _ _ _ _ _ _ HK.out (by simpa using hstp)
                clear hstp
                obtain ⟨lg, lc, rfl, l1, l2⟩ := HR7.out.last
                obtain ⟨c10, c11, c12, c13, f11, f12, f13⟩ := HR7.out.vcells
                have HLL : Hid (acc.length < 1048576) := by unfold Hid; rw [HAL.out]; omega
                generalize hgl : acc.length = L at *
                have HGL := hide hgl
                clear hgl
                have hL : (L : Int) < 1048576 := by have := HLL.out; omega
                go_wp2_with fail
                go_region
                have hg8 : w7.grownBy (w7.alloc (.cells #[.int .i64 t', .int .i64 (s.next t')] 84)).drew none := grown_drew (grown_alloc (grown_refl _ _))
                have hb8 : (w7.alloc (.cells #[.int .i64 t', .int .i64 (s.next t')] 84)).drew.heap[w7.heap.size]? = some (.cells #[.int .i64 t', .int .i64 (s.next t')] 84 (0, 0)) := heap_alloc_new w7 _
                generalize (w7.alloc (.cells #[.int .i64 t', .int .i64 (s.next t')] 84)).drew = w8 at hg8 hb8 ⊢
                have HR8 := hide (HR7.out.grown hg8)
                have z0 : w8.cell? ⟨w7.heap.size, 0, none⟩ = some (.int .i64 t') := by simp [World.cell?, hb8]
                have z1 : w8.cell? ⟨w7.heap.size, 1, none⟩ = some (.int .i64 (s.next t')) := by simp [World.cell?, hb8]
                clear hg8 hb8 c10 c11 c12 c13 f11 f12 f13 l1 l2 HR7
                obtain ⟨_, c11, c12, c13, f11, f12, f13⟩ := HR8.out.vcells
                go_wp2
                go_ret
                rw [HW.out]
                exact ⟨b, ab, rb, _, rfl, HR8.out.verdict 1 t' (s.next t')⟩
              · have HF2 : Hid (runS p sch = follow p (sch.drop (k + 1)) ((k + 1 : Nat) : Int) (stepS p s t').2 (acc ++ [((t' : Int), s.next t')])) := by
                  unfold Hid
                  rw [HF.out, HD.out, follow_go _ _ _ _ _ _ HK.out (by simpa using hstp)]
                  simp
                have HI2 := hide (HIN.out.step HV.out ht' HDn.out)
                have HL2 := hide (HLK.out.step p t')
                have HA2 : Hid ((acc ++ [((t' : Int), s.next t')]).length = k + 1) := by unfold Hid; rw [List.length_append, HAL.out]; rfl
                clear hstp
                go_wp2_with fail
                go_roundw
                case rel => exact ⟨k + 1, _, _, st', by omega, by go_num, HA2, HR7, HI2, HL2, HF2⟩
                case measure => simp [intOf]; omega
          · have hb1' : (p.length : Int) ≤ t := by omega
            have HW : Hid (runS p sch = ⟨acc, 2, 0, k, s⟩) := by
              unfold Hid
              rw [HF.out, HD.out]; exact follow_wrong _ _ _ _ _ _ (by simp [okAt, belowB, hb1])
            go_wp2_with fail
            go_ret
            rw [HW.out]
            exact ⟨b, ab, rb, st, rfl, HR.out.verdict 2 0 k⟩
        · have hb0' : t < 0 := by omega
          have HW : Hid (runS p sch = ⟨acc, 2, 0, k, s⟩) := by
            unfold Hid
            rw [HF.out, HD.out]; exact follow_wrong _ _ _ _ _ _ (by simp [okAt, belowB, hb0])
          go_wp2_with fail
          go_ret
          rw [HW.out]
          exact ⟨b, ab, rb, st, rfl, HR.out.verdict 2 0 k⟩
      · have HW : Hid (runS p sch = ⟨acc, endingS p s, 0, 0, s⟩) := by
          unfold Hid
          rw [HF.out, List.drop_eq_nil_of_le (by omega)]; rfl
        have hk1 : (sch.length : Int) ≤ (k : Int) := by omega
        clear HF HAL HC
        go_wp2_with fail
        go_loopw [11, 12, 13] (fun dv rv tv w' => ∃ t d r : Nat, t ≤ p.length ∧ dv = .int .i64 d ∧ rv = .int .i64 r ∧ tv = .int .i64 t ∧ d ≤ t ∧ r ≤ t ∧ Hid (d = t ↔ ∀ j, j < t → doneB p s j = true) ∧ Hid (r = 0 ↔ ∀ j, j < t → readyB p s j = false) ∧
          Hid (RunAt w w' b ab rb p.length (.slice ao p.length cap) st s acc 0 0 0)) (fun _ _ tv _ => p.length - (intOf tv).toNat)
        case atStart => exact ⟨0, 0, 0, Nat.zero_le _, rfl, rfl, rfl, Nat.le_refl _, Nat.le_refl _, ⟨fun _ j h => absurd h (by omega), fun _ => rfl⟩, ⟨fun _ j h => absurd h (by omega), fun _ => rfl⟩, HR⟩
        case round =>
          clear HR
          obtain ⟨t, d, r, ht, rfl, rfl, rfl, hd, hr, HD, HRd, HR⟩ := hrel
          obtain ⟨w6, hw6⟩ : ∃ w6, w6 = wr := ⟨_, rfl⟩
          rw [← hw6] at HR ⊢
          clear hw6
          by_cases hlt : t < p.length
          · have t0 : (0 : Int) ≤ (t : Int) := by omega
            have t1 : (t : Int) < p.length := by omega
            have d1 : (d : Int) ≤ 4 := by omega
            have r1 : (r : Int) ≤ 4 := by omega
            go_wp2_with fail
            refine (rdoneS HV.out HP.out HR.out HIN.out hlt).mono ?_
            rintro e w7 ⟨rfl, hg7⟩
            have HR7 := hide (HR.out.grown hg7)
            clear hg7 HR
            go_wp2_with fail
            refine (rreadyS HV.out HP.out HR7.out HIN.out HLK.out hlt).mono ?_
            rintro e w8 ⟨rfl, hg8⟩
            have HR8 := hide (HR7.out.grown hg8)
            clear hg8 HR7
            have HD2 : Hid ((if doneB p s t = true then d + 1 else d) = t + 1 ↔ ∀ j, j < t + 1 → doneB p s j = true) := by
              unfold Hid
              cases e : doneB p s t
              · simp only [Bool.false_eq_true, if_false]
                constructor
                · intro h; omega
                · intro h; have := h t (by omega); rw [e] at this; cases this
              · simp only [if_true]
                constructor
                · intro h j hj
                  by_cases hjt : j = t
                  · rw [hjt]; exact e
                  · exact HD.out.1 (by omega) j (by omega)
                · intro h
                  have := HD.out.2 (fun j hj => h j (by omega))
                  omega
            have HR2 : Hid ((if readyB p s t = true then r + 1 else r) = 0 ↔ ∀ j, j < t + 1 → readyB p s j = false) := by
              unfold Hid
              cases e : readyB p s t
              · simp only [Bool.false_eq_true, if_false]
                constructor
                · intro h j hj
                  by_cases hjt : j = t
                  · rw [hjt]; exact e
                  · exact HRd.out.1 h j (by omega)
                · intro h; exact HRd.out.2 (fun j hj => h j (by omega))
              · simp only [if_true]
                constructor
                · intro h; omega
                · intro h; have := h t (by omega); rw [e] at this; cases this
            clear HD HRd
            generalize doneB p s t = db at *
            generalize readyB p s t = rb' at *
            cases db <;> cases rb'
            all_goals
              go_wp2_with fail
              go_roundw
              case rel => exact ⟨t + 1, _, _, by omega, by go_num, by go_num, by go_num, by simp <;> omega, by simp <;> omega, HD2, HR2, HR8⟩
              case measure => simp [intOf]; omega
          · have t1 : (p.length : Int) ≤ (t : Int) := by omega
            obtain ⟨_, c11, c12, c13, f11, f12, f13⟩ := HR.out.vcells
            obtain rfl : t = p.length := by omega
            by_cases hr0 : r = 0
            · have hnr := HRd.out.1 hr0
              have HE := hide (ending_end hnr)
              subst hr0
              by_cases hdn : d = p.length
              · have hda := HD.out.1 hdn
                have HE3 : Hid (endingS p s = 3) := by
                  unfold Hid
                  rw [HE.out, endTo, if_pos]
                  rw [List.all_eq_true]
                  intro j hj
                  exact hda j (by simpa using hj)
                have hdb : ((d : Int) == (p.length : Int)) = true := by simp; omega
                clear hnr hda HD HRd HE hdn t1
                go_wp2_with fail
                go_ret
                rw [HW.out, HE3.out]
                exact ⟨b, ab, rb, st, rfl, ((HR.out.kind 5).kind 4).kind 3⟩
              · have HE4 : Hid (endingS p s = 4) := by
                  unfold Hid
                  rw [HE.out, endTo, if_neg]
                  intro h
                  rw [List.all_eq_true] at h
                  exact hdn (HD.out.2 (fun j hj => h j (by simpa using hj)))
                have hdb : ((d : Int) == (p.length : Int)) = false := by simp; omega
                clear hnr HD HRd HE hdn t1
                go_wp2_with fail
                go_ret
                rw [HW.out, HE4.out]
                exact ⟨b, ab, rb, st, rfl, (HR.out.kind 5).kind 4⟩
            · obtain ⟨j, hj, hrj⟩ : ∃ j, j < p.length ∧ readyB p s j = true := by
                by_cases hex : ∃ j, j < p.length ∧ readyB p s j = true
                · exact hex
                · exfalso
                  refine hr0 (HRd.out.2 (fun j hj => ?_))
                  cases e : readyB p s j
                  · rfl
                  · exact absurd ⟨j, hj, e⟩ hex
              have HE5 := hide (ending_open hj hrj)
              have hdn : d ≠ p.length := fun e => by
                have := HD.out.1 e j hj
                simp [readyB, this] at hrj
              have hdb : ((d : Int) == (p.length : Int)) = false := by simp; omega
              have hrb : ((r : Int) == 0) = false := by simp; omega
              clear HD HRd hdn hr0 hj hrj t1
              go_wp2_with fail
              go_ret
              rw [HW.out, HE5.out]
              exact ⟨b, ab, rb, st, rfl, HR.out.kind 5⟩

end Go.Proofs.YtklenjmfalljgaaGreatDoor

/- The reference's Replay. -/
namespace Go.Proofs.YtklenjmfalljgaaGreatDoor
open Go.RowKit
attribute [local go_sem] Go.World.cell?_alloc_some

end Go.Proofs.YtklenjmfalljgaaGreatDoor

/- The laws' asked, of Replay. -/
namespace Go.Proofs.YtklenjmfalljgaaGreatDoor
open Go.RowKit
attribute [local go_sem] Go.World.cell?_alloc_some run_eq4

theorem num_mR (n : Int) (w : World) : Calls Tryz.prog 31 #[.int .i64 n] w fun e w' => e = .returned (.int .i64 n) ∧ w' = w := by
  go_enter Tryz.func31, Tryz.ntmps31
  go_wp2_with fail
  go_ret
  exact ⟨rfl, rfl⟩

/-- What Replay answers, under one name: an answer, its verdict, its variables, its lists. -/
def ResV (p : List (List Ins)) (s : List Int) (B : Nat) (w : World) (rv : Value) (c : Int) : Prop :=
  ∃ k t a v0 v1 v2 v3 x1 x3 y1 y3 m q, rv = .agg #[.int .i64 k, .int .i64 t, .int .i64 a, .slice x1 m x3, .int .i64 v0, .int .i64 v1, .int .i64 v2, .int .i64 v3, .slice y1 q y3] ∧ c = checkRunN p s ∧
    ((c = 0 ∧ k = (runS p s).kind ∧ t = (runS p s).thread ∧ a = (runS p s).at_ ∧ v0 = (runS p s).st.vars 0 ∧ v1 = (runS p s).st.vars 1 ∧ v2 = (runS p s).st.vars 2 ∧ v3 = (runS p s).st.vars 3 ∧ m = (runS p s).steps.length ∧ q = p.length ∧
      w.ownsRow B 84 2 (.slice x1 m x3) (runS p s).steps.length (flatS (runS p s).steps) ∧ w.ownsRow B 29 4 (.slice y1 q y3) p.length (regsF p.length (runS p s).st)) ∨
     (c ≠ 0 ∧ k = 0 ∧ t = 0 ∧ a = 0 ∧ v0 = 0 ∧ v1 = 0 ∧ v2 = 0 ∧ v3 = 0 ∧ m = 0 ∧ q = 0 ∧ x1 = none ∧ x3 = 0 ∧ y1 = none ∧ y3 = 0))

theorem owns_lenR {w : World} {base : Nat} {e : TypeId} {size : Nat} {ao : Option Addr} {m c n : Nat} {xs : List Value} (h : w.ownsRow base e size (.slice ao m c) n xs) : m = n := by
  rcases h.2 with ⟨e1, e2⟩ | ⟨g', cap', cur, hv, _⟩
  · simp only [Value.slice.injEq] at e1
    rw [e1.2.1]; first | exact e2.symm | omega
  · simp only [Value.slice.injEq] at hv; exact hv.2.1

theorem Replayed.form {p : List (List Ins)} {s : List Int} {w w' : World} {e : Ending} (h : Replayed p s w e w') : w.grownBy w' none ∧ ∃ rv c, e = .returned (.tuple #[rv, .int .i64 c]) ∧ ResV p s w.heap.size w' rv c := by
  obtain ⟨hg, h⟩ := h
  refine ⟨hg, ?_⟩
  rcases h with ⟨h0, rv, rfl, sv, gv, rfl, h1, h2⟩ | ⟨h0, rfl⟩
  · obtain ⟨x1, m, x3, rfl⟩ := owns_form h1
    obtain ⟨y1, q, y3, rfl⟩ := owns_form h2
    exact ⟨_, _, rfl, _, _, _, _, _, _, _, _, _, _, _, _, _, rfl, h0.symm, Or.inl ⟨rfl, rfl, rfl, rfl, rfl, rfl, rfl, rfl, owns_lenR h1, owns_lenR h2, h1, h2⟩⟩
  · exact ⟨_, _, rfl, _, _, _, _, _, _, _, _, _, _, _, _, _, rfl, rfl, Or.inr ⟨h0, rfl, rfl, rfl, rfl, rfl, rfl, rfl, rfl, rfl, rfl, rfl, rfl, rfl⟩⟩

/-- Two answers to one question are one, but for where their lists lie. -/
theorem ResV.same {p : List (List Ins)} {s : List Int} {B B' : Nat} {w w' : World} {rv rv' : Value} {c c' : Int} (h : ResV p s B w rv c) (h' : ResV p s B' w' rv' c') :
    c = c' ∧ ∃ k t a v0 v1 v2 v3 x1 x3 y1 y3 m q x1' x3' y1' y3', rv = .agg #[.int .i64 k, .int .i64 t, .int .i64 a, .slice x1 m x3, .int .i64 v0, .int .i64 v1, .int .i64 v2, .int .i64 v3, .slice y1 q y3] ∧
      rv' = .agg #[.int .i64 k, .int .i64 t, .int .i64 a, .slice x1' m x3', .int .i64 v0, .int .i64 v1, .int .i64 v2, .int .i64 v3, .slice y1' q y3'] := by
  obtain ⟨k, t, a, v0, v1, v2, v3, x1, x3, y1, y3, m, q, rfl, hc, h⟩ := h
  obtain ⟨k', t', a', v0', v1', v2', v3', x1', x3', y1', y3', m', q', rfl, hc', h'⟩ := h'
  refine ⟨hc.trans hc'.symm, ?_⟩
  rcases h with ⟨h0, rfl, rfl, rfl, rfl, rfl, rfl, rfl, rfl, rfl, _⟩ | ⟨h0, rfl, rfl, rfl, rfl, rfl, rfl, rfl, rfl, rfl, _⟩
  · rcases h' with ⟨h0', rfl, rfl, rfl, rfl, rfl, rfl, rfl, rfl, rfl, _⟩ | ⟨h0', _⟩
    · exact ⟨_, _, _, _, _, _, _, _, _, _, _, _, _, _, _, _, _, rfl, rfl⟩
    · exact absurd (hc'.trans (hc.symm.trans h0)) h0'
  · rcases h' with ⟨h0', _⟩ | ⟨h0', rfl, rfl, rfl, rfl, rfl, rfl, rfl, rfl, rfl, _⟩
    · exact absurd (hc.trans (hc'.symm.trans h0')) h0
    · exact ⟨_, _, _, _, _, _, _, _, _, _, _, _, _, _, _, _, _, rfl, rfl⟩


end Go.Proofs.YtklenjmfalljgaaGreatDoor

/- The walk of the reference's depend. -/
namespace Go.Proofs.YtklenjmfalljgaaGreatDoor
open Go.RowKit
attribute [local go_sem] Go.World.cell?_alloc_some

/-- Do two instructions have to do with one another, as the document's answer tells it? -/
def depR (i j : Ins) : Bool :=
  if (i.op = 9 ∨ i.op = 10) ∧ (j.op = 9 ∨ j.op = 10) then i.a == j.a
  else if i.op = 3 ∧ j.op = 3 then i.a == j.a
  else if i.op = 3 ∧ j.op = 2 then i.a == j.b
  else if i.op = 2 ∧ j.op = 3 then i.b == j.a
  else false
theorem depR_clash {i j : Ins} (h1 : 0 ≤ i.a) (h2 : 0 ≤ i.b) (h3 : 0 ≤ j.a) (h4 : 0 ≤ j.b) : depR i j = clash (tou i) (tou j) := by
  unfold depR clash tou
  rw [Bool.eq_iff_iff]
  by_cases i9 : i.op = 9 ∨ i.op = 10
  · by_cases j9 : j.op = 9 ∨ j.op = 10
    · simp [i9, j9]; omega
    · have n3 : ¬ i.op = 3 := by omega
      have n2 : ¬ i.op = 2 := by omega
      by_cases j2 : j.op = 2
      · simp [i9, n3, n2, j2]
      · by_cases j3 : j.op = 3
        · simp [i9, n3, n2, j3]
        · simp [i9, n3, n2, j9, j2, j3]
  · by_cases i2 : i.op = 2
    · by_cases j9 : j.op = 9 ∨ j.op = 10
      · have m3 : ¬ j.op = 3 := by omega
        simp [i2, j9, m3]
      · by_cases j2 : j.op = 2
        · simp [i2, j2]
        · by_cases j3 : j.op = 3
          · simp [i2, j3]; omega
          · simp [i2, j9, j2, j3]
    · by_cases i3 : i.op = 3
      · by_cases j9 : j.op = 9 ∨ j.op = 10
        · have m3 : ¬ j.op = 3 := by omega
          have m2 : ¬ j.op = 2 := by omega
          simp [i3, j9, m3, m2]
        · by_cases j2 : j.op = 2
          · simp [i3, j2]; omega
          · by_cases j3 : j.op = 3
            · simp [i3, j3]; omega
            · simp [i3, j9, j2, j3]
      · simp [i9, i2, i3]

theorem four_cellsR {w : World} {g : Nat} {x0 x1 x2 x3 : Value} {t : TypeId} (h : w.heap[g]? = some (.cells #[x0, x1, x2, x3] t (0, 0))) :
    w.cell? ⟨g, 0, none⟩ = some x0 ∧ w.cell? ⟨g, 1, none⟩ = some x1 ∧ w.cell? ⟨g, 2, none⟩ = some x2 ∧ w.cell? ⟨g, 3, none⟩ = some x3 ∧ w.frozen? ⟨g, 0, none⟩ = false ∧ w.frozen? ⟨g, 1, none⟩ = false ∧ w.frozen? ⟨g, 2, none⟩ = false ∧ w.frozen? ⟨g, 3, none⟩ = false := by
  simp [World.cell?, World.frozen?, h]
set_option maxHeartbeats 4000000 in
set_option maxRecDepth 100000 in
theorem depend_m {p : List (List Ins)} (w : World) (pv : Value) (hP : ProgAt w pv p) (_hp : p.length ≤ 4) (t1 k1 t2 k2 : Nat) (h1 : t1 < p.length) (h2 : k1 < (codeOf p t1).length) (h3 : t2 < p.length) (h4 : k2 < (codeOf p t2).length) (_hl1 : (codeOf p t1).length ≤ 16) (_hl2 : (codeOf p t2).length ≤ 16) :
    Calls Tryz.prog 83 #[pv, .agg #[.int .i64 (t1 : Int), .int .i64 (k1 : Int)], .agg #[.int .i64 (t2 : Int), .int .i64 (k2 : Int)]] w fun e w' => e = .returned (.bool (t1 == t2 || depR (insAt p t1 k1) (insAt p t2 k2))) ∧ w.grownBy w' none := by
  obtain ⟨ao, cap, rfl⟩ := hP.form
  obtain ⟨pg, po, ca, cc, cg, co, rfl, rfl, m0, m1, m2, m3, m4⟩ := ins_at hP h1 h2
  obtain ⟨pg', po', da, dc, dg, dq, he, rfl, n0, n1, n2, n3, n4⟩ := ins_at hP h3 h4
  simp only [Option.some.injEq, Addr.mk.injEq, and_true] at he
  obtain ⟨rfl, rfl⟩ := he
  have HM := hide (And.intro m0 (And.intro m1 (And.intro m2 (And.intro m3 m4))))
  have HN := hide (And.intro n0 (And.intro n1 (And.intro n2 (And.intro n3 n4))))
  clear m0 m1 m2 m3 m4 n0 n1 n2 n3 n4 hP
  generalize hcl : (codeOf p t1).length = cl at *
  generalize hdl : (codeOf p t2).length = dl at *
  generalize hix : insAt p t1 (k1 : Int) = i at *
  generalize hjx : insAt p t2 (k2 : Int) = j at *
  clear hcl hdl hix hjx
  have q1 : (t1 : Int) < p.length := by omega
  have q2 : (k1 : Int) < cl := by omega
  have q3 : (t2 : Int) < p.length := by omega
  have q4 : (k2 : Int) < dl := by omega
  have q5 : (0 : Int) ≤ (t1 : Int) := by omega
  have q6 : (0 : Int) ≤ (k1 : Int) := by omega
  have q7 : (0 : Int) ≤ (t2 : Int) := by omega
  have q8 : (0 : Int) ≤ (k2 : Int) := by omega
  have HA : Hid (∀ a b c, w.grownBy (((w.alloc a).alloc b).alloc c) none) := fun a b c => grown_alloc (grown_alloc (grown_alloc (grown_refl _ _)))
  by_cases ht : t1 = t2
  · subst ht
    go_enter Tryz.func83, Tryz.ntmps83
    go_wp2_with fail
    go_ret
    exact ⟨by simp, HA.out _ _ _⟩
  · have hti : ((t1 : Int) == (t2 : Int)) = false := by simp; omega
    have HT : Hid ((t1 == t2) = false) := by unfold Hid; simpa using ht
    clear ht
    go_enter Tryz.func83, Tryz.ntmps83
    go_upto_region 3 with fail
    obtain ⟨w3, hw3⟩ : ∃ w3, w3 = ((w.alloc (.cells #[.slice (some ⟨pg, po, none⟩) p.length cap] 24)).alloc (.cells #[.int .i64 (t1 : Int), .int .i64 (k1 : Int)] 84)).alloc (.cells #[.int .i64 (t2 : Int), .int .i64 (k2 : Int)] 84) := ⟨_, rfl⟩
    have HW3 : Hid (w.grownBy w3 none) := by unfold Hid; rw [hw3]; exact HA.out _ _ _
    have hz3 : w3.heap.size = w.heap.size + 3 := by rw [hw3]; simp
    have b0 : w3.heap[w.heap.size]? = some (.cells #[.slice (some ⟨pg, po, none⟩) p.length cap] 24 (0, 0)) := by
      rw [hw3, Below.heap_alloc _ _ _ (by simp; omega), Below.heap_alloc _ _ _ (by simp)]; exact heap_alloc_new _ _
    have b1 : w3.heap[w.heap.size + 1]? = some (.cells #[.int .i64 (t1 : Int), .int .i64 (k1 : Int)] 84 (0, 0)) := by
      rw [hw3, Below.heap_alloc _ _ _ (by simp)]
      have := heap_alloc_new (w.alloc (.cells #[.slice (some ⟨pg, po, none⟩) p.length cap] 24)) (.cells #[.int .i64 (t1 : Int), .int .i64 (k1 : Int)] 84)
      simpa using this
    have b2 : w3.heap[w.heap.size + 2]? = some (.cells #[.int .i64 (t2 : Int), .int .i64 (k2 : Int)] 84 (0, 0)) := by
      have := heap_alloc_new ((w.alloc (.cells #[.slice (some ⟨pg, po, none⟩) p.length cap] 24)).alloc (.cells #[.int .i64 (t1 : Int), .int .i64 (k1 : Int)] 84)) (.cells #[.int .i64 (t2 : Int), .int .i64 (k2 : Int)] 84)
      rw [hw3]
      simpa using this
    rw [← hw3]
    clear hw3
    have HS1 : Hid (∀ u, w3.grownBy u none → u.cell? ⟨w.heap.size + 1, 0, none⟩ = some (.int .i64 (t1 : Int)) ∧ u.cell? ⟨w.heap.size + 1, 1, none⟩ = some (.int .i64 (k1 : Int)) ∧ u.cell? ⟨w.heap.size, 0, none⟩ = some (.slice (some ⟨pg, po, none⟩) p.length cap) ∧ u.cell? ⟨pg, po + t1, none⟩ = some (.slice (some ⟨cg, co, none⟩) cl cc) ∧ u.cell? ⟨cg, co + k1 * 4, none⟩ = some (.int .i64 i.op) ∧ u.cell? ⟨cg, co + k1 * 4 + 1, none⟩ = some (.int .i64 i.a) ∧ u.cell? ⟨cg, co + k1 * 4 + 2, none⟩ = some (.int .i64 i.b) ∧ u.cell? ⟨cg, co + k1 * 4 + 3, none⟩ = some (.int .i64 i.n)) := fun u hu => by
      have up : ∀ x v, w.cell? x = some v → u.cell? x = some v := fun x v h => pres_grown (grown_trans HW3.out hu) _ _ h
      have bl : ∀ k, k < w3.heap.size → u.heap[k]? = w3.heap[k]? := fun k hk => hu.block k hk (by simp)
      refine ⟨?_, ?_, ?_, up _ _ HM.out.1, up _ _ HM.out.2.1, up _ _ HM.out.2.2.1, up _ _ HM.out.2.2.2.1, up _ _ HM.out.2.2.2.2⟩
      · simp only [World.cell?, bl _ (by omega : w.heap.size + 1 < w3.heap.size), b1]; rfl
      · simp only [World.cell?, bl _ (by omega : w.heap.size + 1 < w3.heap.size), b1]; rfl
      · simp only [World.cell?, bl _ (by omega : w.heap.size < w3.heap.size), b0]; rfl
    have HS2 : Hid (∀ u, w3.grownBy u none → u.cell? ⟨w.heap.size + 2, 0, none⟩ = some (.int .i64 (t2 : Int)) ∧ u.cell? ⟨w.heap.size + 2, 1, none⟩ = some (.int .i64 (k2 : Int)) ∧ u.cell? ⟨w.heap.size, 0, none⟩ = some (.slice (some ⟨pg, po, none⟩) p.length cap) ∧ u.cell? ⟨pg, po + t2, none⟩ = some (.slice (some ⟨dg, dq, none⟩) dl dc) ∧ u.cell? ⟨dg, dq + k2 * 4, none⟩ = some (.int .i64 j.op) ∧ u.cell? ⟨dg, dq + k2 * 4 + 1, none⟩ = some (.int .i64 j.a) ∧ u.cell? ⟨dg, dq + k2 * 4 + 2, none⟩ = some (.int .i64 j.b) ∧ u.cell? ⟨dg, dq + k2 * 4 + 3, none⟩ = some (.int .i64 j.n)) := fun u hu => by
      have up : ∀ x v, w.cell? x = some v → u.cell? x = some v := fun x v h => pres_grown (grown_trans HW3.out hu) _ _ h
      have bl : ∀ k, k < w3.heap.size → u.heap[k]? = w3.heap[k]? := fun k hk => hu.block k hk (by simp)
      refine ⟨?_, ?_, ?_, up _ _ HN.out.1, up _ _ HN.out.2.1, up _ _ HN.out.2.2.1, up _ _ HN.out.2.2.2.1, up _ _ HN.out.2.2.2.2⟩
      · simp only [World.cell?, bl _ (by omega : w.heap.size + 2 < w3.heap.size), b2]; rfl
      · simp only [World.cell?, bl _ (by omega : w.heap.size + 2 < w3.heap.size), b2]; rfl
      · simp only [World.cell?, bl _ (by omega : w.heap.size < w3.heap.size), b0]; rfl
    clear b0 b1 b2 hz3 HM HN HA
    refine wp_region_head (fun u => u.cell? ⟨w.heap.size + 1, 0, none⟩ = some (.int .i64 (t1 : Int)) ∧ u.cell? ⟨w.heap.size + 1, 1, none⟩ = some (.int .i64 (k1 : Int)) ∧ u.cell? ⟨w.heap.size, 0, none⟩ = some (.slice (some ⟨pg, po, none⟩) p.length cap) ∧ u.cell? ⟨pg, po + t1, none⟩ = some (.slice (some ⟨cg, co, none⟩) cl cc) ∧ u.cell? ⟨cg, co + k1 * 4, none⟩ = some (.int .i64 i.op) ∧ u.cell? ⟨cg, co + k1 * 4 + 1, none⟩ = some (.int .i64 i.a) ∧ u.cell? ⟨cg, co + k1 * 4 + 2, none⟩ = some (.int .i64 i.b) ∧ u.cell? ⟨cg, co + k1 * 4 + 3, none⟩ = some (.int .i64 i.n)) 11 (by kernel_rfl) (by kernel_rfl) (HS1.out w3.drew (grown_drew (grown_refl _ _))) ?_
    intro hHeld
    refine wpHead_take (i := 0) (v := ?vva0) rfl (by kernel_rfl) (fun _ _ _ h => h) (Or.inl ⟨by rfl, ?hya0⟩) hHeld ?resta0
    case hya0 => (rintro u ⟨hu0, hu1, hu2, hu3, hu4, hu5, hu6, hu7⟩; go_simp; try with_reducible rfl)
    simp only [Act.put, List.setIfInBounds_toArray]
    refine wpHead_take (i := 1) (v := ?vva1) rfl (by kernel_rfl) (fun _ _ _ h => h) (Or.inl ⟨by rfl, ?hya1⟩) hHeld ?resta1
    case hya1 => (rintro u ⟨hu0, hu1, hu2, hu3, hu4, hu5, hu6, hu7⟩; go_simp; try with_reducible rfl)
    simp only [Act.put]
    refine wpHead_take (i := 2) (v := ?vva2) rfl (by kernel_rfl) (fun _ _ _ h => h) (Or.inl ⟨by rfl, ?hya2⟩) hHeld ?resta2
    case hya2 => (rintro u ⟨hu0, hu1, hu2, hu3, hu4, hu5, hu6, hu7⟩; go_simp; try with_reducible rfl)
    simp only [Act.put]
    refine wpHead_take (i := 3) (v := ?vva3) rfl (by kernel_rfl) (fun _ _ _ h => h) (Or.inl ⟨by rfl, ?hya3⟩) hHeld ?resta3
    case hya3 => (rintro u ⟨hu0, hu1, hu2, hu3, hu4, hu5, hu6, hu7⟩; go_simp; try with_reducible rfl)
    simp only [Act.put]
    refine wpHead_take (i := 4) (v := ?vva4) rfl (by kernel_rfl) (fun _ _ _ h => h) (Or.inl ⟨by rfl, ?hya4⟩) hHeld ?resta4
    case hya4 => (rintro u ⟨hu0, hu1, hu2, hu3, hu4, hu5, hu6, hu7⟩; go_simp; try with_reducible rfl)
    simp only [Act.put]
    refine wpHead_take (i := 5) (v := ?vva5) rfl (by kernel_rfl) (fun _ _ _ h => h) (Or.inl ⟨by rfl, ?hya5⟩) hHeld ?resta5
    case hya5 => (rintro u ⟨hu0, hu1, hu2, hu3, hu4, hu5, hu6, hu7⟩; go_simp; try with_reducible rfl)
    simp only [Act.put]
    refine wpHead_take (i := 6) (v := ?vva6) rfl (by kernel_rfl) (fun _ _ _ h => h) (Or.inl ⟨by rfl, ?hya6⟩) hHeld ?resta6
    case hya6 => (rintro u ⟨hu0, hu1, hu2, hu3, hu4, hu5, hu6, hu7⟩; go_simp; try with_reducible rfl)
    simp only [Act.put]
    refine wpHead_take (i := 7) (v := ?vva7) rfl (by kernel_rfl) (fun _ _ _ h => h) (Or.inl ⟨by rfl, ?hya7⟩) hHeld ?resta7
    case hya7 => (rintro u ⟨hu0, hu1, hu2, hu3, hu4, hu5, hu6, hu7⟩; go_simp; try with_reducible rfl)
    simp only [Act.put]
    refine wpHead_take (i := 8) (v := ?vva8) rfl (by kernel_rfl) (fun _ _ _ h => h) (Or.inl ⟨by rfl, ?hya8⟩) hHeld ?resta8
    case hya8 => (rintro u ⟨hu0, hu1, hu2, hu3, hu4, hu5, hu6, hu7⟩; go_simp; try with_reducible rfl)
    simp only [Act.put]
    refine wpHead_take (i := 9) (v := ?vva9) rfl (by kernel_rfl) (fun _ _ _ h => h) (Or.inl ⟨by rfl, ?hya9⟩) hHeld ?resta9
    case hya9 => (rintro u ⟨hu0, hu1, hu2, hu3, hu4, hu5, hu6, hu7⟩; go_simp; try with_reducible rfl)
    simp only [Act.put]
    refine wpHead_alone (i := 10) rfl (by kernel_rfl) (by kernel_rfl) (by rfl) ?_
    intro Ka hKa
    have HKa := hide hKa
    clear hKa
    go_simp
    refine HKa.out _ _ (HS1.out (w3.drew.alloc (.cells #[.int .i64 0, .int .i64 0, .int .i64 0, .int .i64 0] 74)) (grown_trans (grown_refl _ _) (grown_trans (grown_drew (grown_refl _ _)) (grown_alloc (grown_refl _ _))))) ?_
    clear HKa
    try simp only [Act.put, List.setIfInBounds_toArray]
    refine wpHead_last rfl (by kernel_rfl) (by kernel_rfl) (by rfl) ?_
    go_simp
    clear hHeld
    have HYa : Hid ((w3.alloc (.cells #[.int .i64 i.op, .int .i64 i.a, .int .i64 i.b, .int .i64 i.n] 74)).drew.heap[w3.heap.size]? = some (.cells #[.int .i64 i.op, .int .i64 i.a, .int .i64 i.b, .int .i64 i.n] 74 (0, 0))) := heap_alloc_new w3 (.cells #[.int .i64 i.op, .int .i64 i.a, .int .i64 i.b, .int .i64 i.n] 74)
    have HGga : Hid (w3.grownBy (w3.alloc (.cells #[.int .i64 i.op, .int .i64 i.a, .int .i64 i.b, .int .i64 i.n] 74)).drew none) := grown_drew (grown_alloc (grown_refl _ _))
    generalize (w3.alloc (.cells #[.int .i64 i.op, .int .i64 i.a, .int .i64 i.b, .int .i64 i.n] 74)).drew = w4 at *
    go_wp2_with fail
    refine wp_region_head (fun u => u.cell? ⟨w.heap.size + 2, 0, none⟩ = some (.int .i64 (t2 : Int)) ∧ u.cell? ⟨w.heap.size + 2, 1, none⟩ = some (.int .i64 (k2 : Int)) ∧ u.cell? ⟨w.heap.size, 0, none⟩ = some (.slice (some ⟨pg, po, none⟩) p.length cap) ∧ u.cell? ⟨pg, po + t2, none⟩ = some (.slice (some ⟨dg, dq, none⟩) dl dc) ∧ u.cell? ⟨dg, dq + k2 * 4, none⟩ = some (.int .i64 j.op) ∧ u.cell? ⟨dg, dq + k2 * 4 + 1, none⟩ = some (.int .i64 j.a) ∧ u.cell? ⟨dg, dq + k2 * 4 + 2, none⟩ = some (.int .i64 j.b) ∧ u.cell? ⟨dg, dq + k2 * 4 + 3, none⟩ = some (.int .i64 j.n)) 11 (by kernel_rfl) (by kernel_rfl) (HS2.out w4.drew (grown_drew HGga.out)) ?_
    intro hHeld
    refine wpHead_take (i := 0) (v := ?vvb0) rfl (by kernel_rfl) (fun _ _ _ h => h) (Or.inl ⟨by rfl, ?hyb0⟩) hHeld ?restb0
    case hyb0 => (rintro u ⟨hu0, hu1, hu2, hu3, hu4, hu5, hu6, hu7⟩; go_simp; try with_reducible rfl)
    simp only [Act.put, List.setIfInBounds_toArray]
    refine wpHead_take (i := 1) (v := ?vvb1) rfl (by kernel_rfl) (fun _ _ _ h => h) (Or.inl ⟨by rfl, ?hyb1⟩) hHeld ?restb1
    case hyb1 => (rintro u ⟨hu0, hu1, hu2, hu3, hu4, hu5, hu6, hu7⟩; go_simp; try with_reducible rfl)
    simp only [Act.put]
    refine wpHead_take (i := 2) (v := ?vvb2) rfl (by kernel_rfl) (fun _ _ _ h => h) (Or.inl ⟨by rfl, ?hyb2⟩) hHeld ?restb2
    case hyb2 => (rintro u ⟨hu0, hu1, hu2, hu3, hu4, hu5, hu6, hu7⟩; go_simp; try with_reducible rfl)
    simp only [Act.put]
    refine wpHead_take (i := 3) (v := ?vvb3) rfl (by kernel_rfl) (fun _ _ _ h => h) (Or.inl ⟨by rfl, ?hyb3⟩) hHeld ?restb3
    case hyb3 => (rintro u ⟨hu0, hu1, hu2, hu3, hu4, hu5, hu6, hu7⟩; go_simp; try with_reducible rfl)
    simp only [Act.put]
    refine wpHead_take (i := 4) (v := ?vvb4) rfl (by kernel_rfl) (fun _ _ _ h => h) (Or.inl ⟨by rfl, ?hyb4⟩) hHeld ?restb4
    case hyb4 => (rintro u ⟨hu0, hu1, hu2, hu3, hu4, hu5, hu6, hu7⟩; go_simp; try with_reducible rfl)
    simp only [Act.put]
    refine wpHead_take (i := 5) (v := ?vvb5) rfl (by kernel_rfl) (fun _ _ _ h => h) (Or.inl ⟨by rfl, ?hyb5⟩) hHeld ?restb5
    case hyb5 => (rintro u ⟨hu0, hu1, hu2, hu3, hu4, hu5, hu6, hu7⟩; go_simp; try with_reducible rfl)
    simp only [Act.put]
    refine wpHead_take (i := 6) (v := ?vvb6) rfl (by kernel_rfl) (fun _ _ _ h => h) (Or.inl ⟨by rfl, ?hyb6⟩) hHeld ?restb6
    case hyb6 => (rintro u ⟨hu0, hu1, hu2, hu3, hu4, hu5, hu6, hu7⟩; go_simp; try with_reducible rfl)
    simp only [Act.put]
    refine wpHead_take (i := 7) (v := ?vvb7) rfl (by kernel_rfl) (fun _ _ _ h => h) (Or.inl ⟨by rfl, ?hyb7⟩) hHeld ?restb7
    case hyb7 => (rintro u ⟨hu0, hu1, hu2, hu3, hu4, hu5, hu6, hu7⟩; go_simp; try with_reducible rfl)
    simp only [Act.put]
    refine wpHead_take (i := 8) (v := ?vvb8) rfl (by kernel_rfl) (fun _ _ _ h => h) (Or.inl ⟨by rfl, ?hyb8⟩) hHeld ?restb8
    case hyb8 => (rintro u ⟨hu0, hu1, hu2, hu3, hu4, hu5, hu6, hu7⟩; go_simp; try with_reducible rfl)
    simp only [Act.put]
    refine wpHead_take (i := 9) (v := ?vvb9) rfl (by kernel_rfl) (fun _ _ _ h => h) (Or.inl ⟨by rfl, ?hyb9⟩) hHeld ?restb9
    case hyb9 => (rintro u ⟨hu0, hu1, hu2, hu3, hu4, hu5, hu6, hu7⟩; go_simp; try with_reducible rfl)
    simp only [Act.put]
    refine wpHead_alone (i := 10) rfl (by kernel_rfl) (by kernel_rfl) (by rfl) ?_
    intro Kb hKb
    have HKb := hide hKb
    clear hKb
    go_simp
    refine HKb.out _ _ (HS2.out (w4.drew.alloc (.cells #[.int .i64 0, .int .i64 0, .int .i64 0, .int .i64 0] 74)) (grown_trans HGga.out (grown_trans (grown_drew (grown_refl _ _)) (grown_alloc (grown_refl _ _))))) ?_
    clear HKb
    try simp only [Act.put, List.setIfInBounds_toArray]
    refine wpHead_last rfl (by kernel_rfl) (by kernel_rfl) (by rfl) ?_
    go_simp
    clear hHeld
    have HYb : Hid ((w4.alloc (.cells #[.int .i64 j.op, .int .i64 j.a, .int .i64 j.b, .int .i64 j.n] 74)).drew.heap[w4.heap.size]? = some (.cells #[.int .i64 j.op, .int .i64 j.a, .int .i64 j.b, .int .i64 j.n] 74 (0, 0))) := heap_alloc_new w4 (.cells #[.int .i64 j.op, .int .i64 j.a, .int .i64 j.b, .int .i64 j.n] 74)
    have HGgb : Hid (w4.grownBy (w4.alloc (.cells #[.int .i64 j.op, .int .i64 j.a, .int .i64 j.b, .int .i64 j.n] 74)).drew none) := grown_drew (grown_alloc (grown_refl _ _))
    generalize (w4.alloc (.cells #[.int .i64 j.op, .int .i64 j.a, .int .i64 j.b, .int .i64 j.n] 74)).drew = w5 at *
    have HI5 : Hid (w5.heap[w3.heap.size]? = some (.cells #[.int .i64 i.op, .int .i64 i.a, .int .i64 i.b, .int .i64 i.n] 74 (0, 0))) := by
      unfold Hid; rw [HGgb.out.block _ (Array.getElem?_eq_some_iff.1 HYa.out).1 (by simp)]; exact HYa.out
    have HG5 : Hid (w.grownBy w5 none) := grown_trans HW3.out (grown_trans HGga.out HGgb.out)
    obtain ⟨i0, i1, i2, i3, -⟩ := four_cellsR HI5.out
    obtain ⟨j0, j1, j2, j3, -⟩ := four_cellsR HYb.out
    clear HS1 HS2
    have HR : Hid ((t1 == t2 || depR i j) = depR i j) := by unfold Hid; rw [HT.out]; rfl
    go_upto_region 5 with fail
    obtain ⟨bl, hbl⟩ : ∃ bl : Bool, bl = decide ((i.op = 9 ∨ i.op = 10) ∧ (j.op = 9 ∨ j.op = 10)) := ⟨_, rfl⟩
    have HBL := hide hbl
    clear hbl
    go_cut [51] (fun q w' => q = .bool bl ∧ w' = w5)
    case first =>
      by_cases i9 : i.op = 9
      · rw [i9] at i0
        by_cases j9 : j.op = 9
        · rw [j9] at j0
          go_wp2_with fail
          go_meet
          exact ⟨by rw [HBL.out]; simp [i9, j9], rfl⟩
        · have e9 : (j.op == 9) = false := by simpa using j9
          by_cases j10 : j.op = 10
          · rw [j10] at j0
            go_wp2_with fail
            go_meet
            exact ⟨by rw [HBL.out]; simp [i9, j10], rfl⟩
          · have e10 : (j.op == 10) = false := by simpa using j10
            go_wp2_with fail
            go_meet
            exact ⟨by rw [HBL.out]; simp [j9, j10], rfl⟩
      · have d9 : (i.op == 9) = false := by simpa using i9
        by_cases i10 : i.op = 10
        · rw [i10] at i0
          clear d9
          by_cases j9 : j.op = 9
          · rw [j9] at j0
            go_wp2_with fail
            go_meet
            exact ⟨by rw [HBL.out]; simp [i10, j9], rfl⟩
          · have e9 : (j.op == 9) = false := by simpa using j9
            by_cases j10 : j.op = 10
            · rw [j10] at j0
              clear e9
              go_wp2_with fail
              go_meet
              exact ⟨by rw [HBL.out]; simp [i10, j10], rfl⟩
            · have e10 : (j.op == 10) = false := by simpa using j10
              go_wp2_with fail
              go_meet
              exact ⟨by rw [HBL.out]; simp [j9, j10], rfl⟩
        · have d10 : (i.op == 10) = false := by simpa using i10
          go_wp2_with fail
          go_meet
          exact ⟨by rw [HBL.out]; simp [i9, i10], rfl⟩
    case rest =>
    obtain ⟨rfl, hwc⟩ := hcut
    have hwc2 := hwc.symm
    subst hwc2
    cases bl with
    | true =>
      have hh : (i.op = 9 ∨ i.op = 10) ∧ (j.op = 9 ∨ j.op = 10) := by have := HBL.out.symm; simpa using this
      have HL : Hid (depR i j = (i.a == j.a)) := by unfold Hid depR; simp [hh]
      by_cases he : i.a = j.a
      · have hb : (i.a == j.a) = true := by simpa using he
        clear he
        go_wp2_with fail
        all_goals (go_ret; exact ⟨by rw [HR.out, HL.out, hb]; first | rfl | simp [*], HG5.out⟩)
      · have hb : (i.a == j.a) = false := by simpa using he
        clear he
        go_wp2_with fail
        all_goals (go_ret; exact ⟨by rw [HR.out, HL.out, hb]; first | rfl | simp [*], HG5.out⟩)
    | false =>
      have hn : ¬ ((i.op = 9 ∨ i.op = 10) ∧ (j.op = 9 ∨ j.op = 10)) := by have := HBL.out.symm; simpa using this
      by_cases i3 : i.op = 3
      · rw [i3] at i0
        by_cases j3 : j.op = 3
        · rw [j3] at j0
          have HL : Hid (depR i j = (i.a == j.a)) := by unfold Hid depR; simp [i3, j3]
          by_cases he : i.a = j.a
          · have hb : (i.a == j.a) = true := by simpa using he
            clear he
            go_wp2_with fail
            all_goals (go_ret; exact ⟨by rw [HR.out, HL.out, hb]; first | rfl | simp [*], HG5.out⟩)
          · have hb : (i.a == j.a) = false := by simpa using he
            clear he
            go_wp2_with fail
            all_goals (go_ret; exact ⟨by rw [HR.out, HL.out, hb]; first | rfl | simp [*], HG5.out⟩)
        · have e3 : (j.op == 3) = false := by simpa using j3
          by_cases j2 : j.op = 2
          · rw [j2] at j0
            clear e3
            have HL : Hid (depR i j = (i.a == j.b)) := by unfold Hid depR; simp [i3, j2]
            by_cases he : i.a = j.b
            · have hb : (i.a == j.b) = true := by simpa using he
              clear he
              go_wp2_with fail
              all_goals (go_ret; exact ⟨by rw [HR.out, HL.out, hb]; first | rfl | simp [*], HG5.out⟩)
            · have hb : (i.a == j.b) = false := by simpa using he
              clear he
              go_wp2_with fail
              all_goals (go_ret; exact ⟨by rw [HR.out, HL.out, hb]; first | rfl | simp [*], HG5.out⟩)
          · have e2 : (j.op == 2) = false := by simpa using j2
            have HL : Hid (depR i j = false) := by unfold Hid depR; simp [i3, j3, j2]
            go_wp2_with fail
            go_ret
            exact ⟨by rw [HR.out, HL.out]; rfl, HG5.out⟩
      · have d3 : (i.op == 3) = false := by simpa using i3
        by_cases i2' : i.op = 2
        · rw [i2'] at i0
          clear d3
          by_cases j3 : j.op = 3
          · rw [j3] at j0
            have HL : Hid (depR i j = (i.b == j.a)) := by unfold Hid depR; simp [i2', j3]
            by_cases he : i.b = j.a
            · have hb : (i.b == j.a) = true := by simpa using he
              clear he
              go_wp2_with fail
              all_goals (go_ret; exact ⟨by rw [HR.out, HL.out, hb]; first | rfl | simp [*], HG5.out⟩)
            · have hb : (i.b == j.a) = false := by simpa using he
              clear he
              go_wp2_with fail
              all_goals (go_ret; exact ⟨by rw [HR.out, HL.out, hb]; first | rfl | simp [*], HG5.out⟩)
          · have e3 : (j.op == 3) = false := by simpa using j3
            have HL : Hid (depR i j = false) := by unfold Hid depR; simp [i2', j3]
            go_wp2_with fail
            go_ret
            exact ⟨by rw [HR.out, HL.out]; rfl, HG5.out⟩
        · have d2 : (i.op == 2) = false := by simpa using i2'
          have HL : Hid (depR i j = false) := by unfold Hid depR; rw [if_neg hn]; simp [i3, i2']
          go_wp2_with fail
          go_ret
          exact ⟨by rw [HR.out, HL.out]; rfl, HG5.out⟩

end Go.Proofs.YtklenjmfalljgaaGreatDoor

/- Layers as the document's answer reckons them, front by front (no dump is named here). -/
namespace Go.Proofs.YtklenjmfalljgaaGreatDoor

/-- The layer of x so far: behind the first k of a past. -/
theorem lay_front (d : Ev → Ev → Bool) (L : List (Ev × Nat)) (x : Ev) (k : Nat) (hk : k < L.length) : layIn d (L.take (k + 1)) x = if d L[k].1 x = true then max (layIn d (L.take k) x) (L[k].2 + 1) else layIn d (L.take k) x := by
  rw [List.take_succ_eq_append_getElem hk, layIn_append]
  have e : layIn d [L[k]] x = if d L[k].1 x = true then L[k].2 + 1 else 0 := by simp [layIn]
  rw [e]
  by_cases h : d L[k].1 x = true
  · rw [if_pos h, if_pos h]
  · rw [if_neg h, if_neg h]; omega
theorem lay_front_le (p : List (List Ins)) (xs : List Ev) (x : Ev) (k : Nat) : layIn (depE p) ((tl (depE p) [] xs).take k) x ≤ xs.length := by
  apply layIn_le
  intro q hq _
  have hq' : q ∈ tl (depE p) [] xs := List.mem_of_mem_take hq
  obtain ⟨j, hj, rfl⟩ := List.getElem_of_mem hq'
  have := lay_lt (depE p) xs [] 0 (by simp) j _ (List.getElem?_eq_getElem hj)
  rw [tl_length] at hj
  omega
/-- Steps ahead of one another: do they depend? -/
theorem dep_steps {p : List (List Ins)} {o : Out} {xs : List Ev} (h : Stood p o xs) {k i : Nat} (hki : k < i) (hi : i < xs.length) :
    depE p (xs[k]'(by omega)) xs[i] = ((decide (o.kind = 1) && decide (i + 1 = xs.length)) || ((xs[k]'(by omega)).t == xs[i].t || clash (tou (insAt p (xs[k]'(by omega)).t (xs[k]'(by omega)).k)) (tou (insAt p xs[i].t xs[i].k)))) := by
  have h1 := h.gd k (by omega)
  have h2 := h.gd i hi
  have e1 : (xs[k]'(by omega)).bad = false := by rw [h1]; simp; intro _; omega
  unfold depE
  rw [e1, h2]
  simp [Bool.or_assoc]

end Go.Proofs.YtklenjmfalljgaaGreatDoor

/- The second part of the reference's form: layer by layer, thread by thread. -/
namespace Go.Proofs.YtklenjmfalljgaaGreatDoor
open Go.RowKit
attribute [local go_sem] Go.World.cell?_alloc_some

/-- In the midst of the second part: the row out stands. -/
structure OtIn (W w' : World) (v : Value) (L : List Int) : Prop where
  row : w'.ownsRow W.heap.size 3 1 v L.length (ints L)
  gr : W.grownBy w' none

set_option maxHeartbeats 4000000 in
set_option maxRecDepth 100000 in
theorem refTail {p : List (List Ins)} {xs : List Ev} (h500 : xs.length ≤ 500) {W : World} {b gl gc sc : Nat} {sao : Option Addr} (hst : W.cell? ⟨b, 10, none⟩ = some (.slice sao xs.length sc))
    (HL : Hid (∀ i, i < xs.length → ∃ g lay th, (keysE p xs)[i]? = some (lay, th) ∧ sao = some ⟨g, 0, none⟩ ∧ W.cell? ⟨gl, i, none⟩ = some (.int .i64 (lay : Int)) ∧ W.cell? ⟨g, i * 2, none⟩ = some (.int .i64 (th : Int)) ∧ lay ≤ 500 ∧ th < 4))
    {Q : Exit → Act → World → Prop} {c1 c2 c5 c6 c7 c8 c9 c10 c11 c12 c13 c14 c15 c16 c17 c18 c19 c20 c21 c22 c23 c24 c25 c26 c27 c28 c29 c30 c31 c32 c33 c34 c35 c36 c37 c38 c39 c40 c41 c42 c43 c44 c45 c46 c47 c48 c49 c50 c51 c52 c53 c54 c55 c56 c57 c58 c59 c60 c61 c62 c63 c64 c65 c66 c67 c68 c69 c70 c71 c72 c73 c74 c75 c76 c77 c78 c79 c80 c81 c82 c83 c84 c85 c86 c87 c88 c89 c90 c91 c92 c93 c94 c95 c96 c97 c98 c99 c100 c101 c102 c103 c104 c105 c106 c107 c108 c109 c110 c111 c112 c113 c114 c115 c116 : Value}
    (HQ : Hid (∀ {z0 z1 z3 z4 z5 z6 z7 z8 z9 z10 z11 z12 z13 z14 z15 z16 z17 z18 z19 z20 z21 z22 z23 z24 z25 z26 z27 z28 z29 z30 z31 z32 z33 z34 z35 z36 z37 z38 z39 z40 z41 z42 z43 z44 z45 z46 z47 z48 z49 z50 z51 z52 z53 z54 z55 z56 z57 z58 z59 z60 z61 z62 z63 z64 z65 z66 z67 z68 z69 z70 z71 z72 z73 z74 z75 z76 z77 z78 z79 z80 z81 z82 z83 z84 z85 z86 z87 z88 z89 z90 z91 z92 z93 z94 z95 z96 z97 z98 z99 z100 z101 z102 z103 z104 z105 z106 z107 z108 z109 z110 z111 z112 z113 z114 z115 z116 : Value} (v : Value) (w' : World), OtIn W w' v (thrL (goThrough xs.length (keysE p xs))) → Q .ret ⟨#[z0, z1, v, z3, z4, z5, z6, z7, z8, z9, z10, z11, z12, z13, z14, z15, z16, z17, z18, z19, z20, z21, z22, z23, z24, z25, z26, z27, z28, z29, z30, z31, z32, z33, z34, z35, z36, z37, z38, z39, z40, z41, z42, z43, z44, z45, z46, z47, z48, z49, z50, z51, z52, z53, z54, z55, z56, z57, z58, z59, z60, z61, z62, z63, z64, z65, z66, z67, z68, z69, z70, z71, z72, z73, z74, z75, z76, z77, z78, z79, z80, z81, z82, z83, z84, z85, z86, z87, z88, z89, z90, z91, z92, z93, z94, z95, z96, z97, z98, z99, z100, z101, z102, z103, z104, z105, z106, z107, z108, z109, z110, z111, z112, z113, z114, z115, z116], []⟩ w')) :
    Code.wp Tryz.prog (tailOf Tryz.f50 14) Q ⟨#[.pointer (some ⟨b, 0, none⟩), c1, c2, .int .i64 (xs.length : Int), .slice (some ⟨gl, 0, none⟩) xs.length gc, c5, c6, c7, c8, c9, c10, c11, c12, c13, c14, c15, c16, c17, c18, c19, c20, c21, c22, c23, c24, c25, c26, c27, c28, c29, c30, c31, c32, c33, c34, c35, c36, c37, c38, c39, c40, c41, c42, c43, c44, c45, c46, c47, c48, c49, c50, c51, c52, c53, c54, c55, c56, c57, c58, c59, c60, c61, c62, c63, c64, c65, c66, c67, c68, c69, c70, c71, c72, c73, c74, c75, c76, c77, c78, c79, c80, c81, c82, c83, c84, c85, c86, c87, c88, c89, c90, c91, c92, c93, c94, c95, c96, c97, c98, c99, c100, c101, c102, c103, c104, c105, c106, c107, c108, c109, c110, c111, c112, c113, c114, c115, c116], []⟩ W := by
  conv => arg 2; whnf
  obtain ⟨i0, hi0, hz0, hz1, hz2⟩ := info_parts info_intF
  have q0 : (xs.length : Int) ≤ 500 := by omega
  have q1 : (0 : Int) ≤ (xs.length : Int) := by omega
  have hkl := keysE_len p xs
  have HKL := hide hkl
  have HGE := hide (fun l t i hl ht => goAt_le (keysE p xs) l t i hl ht (by omega))
  have H0 : Hid (OtIn W W (.slice none 0 0) (thrL (goAt (keysE p xs) 0 0 0))) := ⟨by rw [goAt_zero]; exact ⟨rfl, Or.inl ⟨rfl, rfl⟩⟩, grown_refl _ _⟩
  have HC10 := hide hst
  clear hkl hst
  go_wp2_with fail
  go_loopw [8, 9] (fun ov lv w' => ∃ l : Nat, l ≤ xs.length ∧ lv = .int .i64 l ∧ Hid (OtIn W w' ov (thrL (goAt (keysE p xs) l 0 0)))) (fun _ lv _ => xs.length - (intOf lv).toNat)
  case atStart => exact ⟨0, Nat.zero_le _, rfl, H0⟩
  case round =>
    clear H0
    obtain ⟨l, hl, rfl, HI⟩ := hrel
    obtain ⟨w1, hw1⟩ : ∃ w1, w1 = wr := ⟨_, rfl⟩
    rw [← hw1] at HI ⊢
    clear hw1
    by_cases hlt : l < xs.length
    · have t0 : (0 : Int) ≤ (l : Int) := by omega
      have t1 : (l : Int) < xs.length := by omega
      go_wp2_with fail
      go_loopw [8, 10] (fun ov tv w' => ∃ t : Nat, t ≤ 4 ∧ tv = .int .i64 t ∧ Hid (OtIn W w' ov (thrL (goAt (keysE p xs) l t 0)))) (fun _ tv _ => 4 - (intOf tv).toNat)
      case atStart => exact ⟨0, Nat.zero_le _, rfl, HI⟩
      case round =>
        clear HI
        obtain ⟨t, ht, rfl, HT⟩ := hrel
        obtain ⟨w2, hw2⟩ : ∃ w2, w2 = wr := ⟨_, rfl⟩
        rw [← hw2] at HT ⊢
        clear hw2
        by_cases htl : t < 4
        · have t2 : (t : Int) < 4 := by omega
          go_wp2_with fail
          go_loopw [8, 11] (fun ov iv w' => ∃ i : Nat, i ≤ xs.length ∧ iv = .int .i64 i ∧ Hid (OtIn W w' ov (thrL (goAt (keysE p xs) l t i)))) (fun _ iv _ => xs.length - (intOf iv).toNat)
          case atStart => exact ⟨0, Nat.zero_le _, rfl, HT⟩
          case round =>
            clear HT
            obtain ⟨i, hi, rfl, HJ⟩ := hrel
            obtain ⟨w3, hw3⟩ : ∃ w3, w3 = wr := ⟨_, rfl⟩
            rw [← hw3] at HJ ⊢
            clear hw3
            by_cases hil : i < xs.length
            · have t3 : (0 : Int) ≤ (i : Int) := by omega
              have t4 : (i : Int) < xs.length := by omega
              obtain ⟨g, lay, th, hk, hsa, hc1, hc2, hla, hth⟩ := HL.out i hil
              subst hsa
              have d1 := pres_grown HJ.out.gr _ _ hc1
              have d2 := pres_grown HJ.out.gr _ _ hc2
              have d3 := pres_grown HJ.out.gr _ _ HC10.out
              have hik : i < (keysE p xs).length := by have := HKL.out; omega
              have hke : (keysE p xs)[i] = (lay, th) := by rw [List.getElem?_eq_getElem hik] at hk; simpa using hk
              have HN := hide (thr_next (keysE p xs) l t i hik)
              rw [hke] at HN
              clear hk hke hc1 hc2
              obtain ⟨ao, an, ac, hov⟩ := owns_form HJ.out.row
              subst hov
              have han := owns_lenq HJ.out.row
              subst han
              by_cases e1 : lay = l
              · by_cases e2 : th = t
                · have hN2 : thrL (goAt (keysE p xs) l t (i + 1)) = thrL (goAt (keysE p xs) l t i) ++ [(t : Int)] := by rw [HN.out, e1, e2]; simp
                  have HN2 := hide hN2
                  have hle := HGE.out l t i (by omega) (by omega)
                  have hle2 : (thrL (goAt (keysE p xs) l t i)).length ≤ 2000000 := by unfold thrL; rw [List.length_map]; exact hle
                  have h63 : (thrL (goAt (keysE p xs) l t i)).length + 1 ≤ maxLen := by unfold maxLen; omega
                  have hsz : W.heap.size ≤ w3.heap.size := HJ.out.gr.size
                  rw [e1] at d1
                  rw [e2] at d2
                  clear HN hN2 hle e1 e2 hla hth
                  go_wp2_with (at_builtin; refine wpList_append_lies _ rfl _ _ _ rfl W.heap.size 3 i0 _ 1 8 Tryz.underlying25 hi0 hz0 hz1 hz2 rfl (by omega) (.slice ao (thrL (goAt (keysE p xs) l t i)).length ac) (thrL (goAt (keysE p xs) l t i)).length (ints (thrL (goAt (keysE p xs) l t i))) rfl (owns_alloc HJ.out.row) ⟨w3.heap.size, 0, none⟩ 1 1 [.int .i64 (t : Int)] rfl rfl (World.news_of_block (cs := #[.int .i64 (t : Int)]) (t := 3) (fr := (0, 0)) (heap_alloc_new w3 _)) (by simp [Value.oneCell']) (by omega) h63 (by omega) (by simp; omega) (w3.heap.size + 1) (by simp) ?_; intro g8 cap8 w8 hown8 hgrow8 hat8 hlt8; have HO8 := hide hown8; have HG8 : Hid (W.grownBy w8 none) := grown_row (grown_alloc HJ.out.gr) hgrow8 (fun q e => owns_block HJ.out.row q e); clear hown8 hgrow8 hat8 hlt8)
                  go_roundw
                  case rel => exact ⟨i + 1, by omega, by go_num, ⟨by rw [HN2.out, List.length_append]; simpa [ints] using HO8.out, HG8.out⟩⟩
                  case measure => simp [intOf]; omega
                · have hN2 : thrL (goAt (keysE p xs) l t (i + 1)) = thrL (goAt (keysE p xs) l t i) := by rw [HN.out]; simp [e2]
                  have HN2 := hide hN2
                  have e2' : ((th : Int) == (t : Int)) = false := by simp; omega
                  rw [e1] at d1
                  clear HN hN2 e1 e2 hla hth
                  go_wp2_with fail
                  go_roundw
                  case rel => exact ⟨i + 1, by omega, by go_num, by rw [HN2.out]; exact HJ.out⟩
                  case measure => simp [intOf]; omega
              · have hN2 : thrL (goAt (keysE p xs) l t (i + 1)) = thrL (goAt (keysE p xs) l t i) := by rw [HN.out]; simp [e1]
                have HN2 := hide hN2
                have e1' : ((lay : Int) == (l : Int)) = false := by simp; omega
                clear HN hN2 e1 hla hth
                go_wp2_with fail
                go_roundw
                case rel => exact ⟨i + 1, by omega, by go_num, by rw [HN2.out]; exact HJ.out⟩
                case measure => simp [intOf]; omega
            · have t4 : (xs.length : Int) ≤ (i : Int) := by omega
              have HE : Hid (goAt (keysE p xs) l t i = goAt (keysE p xs) l (t + 1) 0) := goAt_thread _ _ _ _ (by rw [HKL.out]; omega)
              go_wp2_with fail
              go_roundw
              case rel => exact ⟨t + 1, by omega, by go_num, by rw [← HE.out]; exact HJ.out⟩
              case measure => simp [intOf]; omega
        · have t2 : (4 : Int) ≤ (t : Int) := by omega
          have ht4 : t = 4 := by omega
          have HE : Hid (goAt (keysE p xs) l t 0 = goAt (keysE p xs) (l + 1) 0 0) := by unfold Hid; rw [ht4]; exact goAt_layer _ _
          clear ht4
          go_wp2_with fail
          go_roundw
          case rel => exact ⟨l + 1, by omega, by go_num, by rw [← HE.out]; exact HT.out⟩
          case measure => simp [intOf]; omega
    · have t1 : (xs.length : Int) ≤ (l : Int) := by omega
      have hle : l = xs.length := by omega
      have HE : Hid (goAt (keysE p xs) l 0 0 = goThrough xs.length (keysE p xs)) := by unfold Hid; rw [hle]; exact goAt_end _ _
      clear hle
      go_wp2_with fail
      exact HQ.out _ _ (by rw [← HE.out]; exact HI.out)

end Go.Proofs.YtklenjmfalljgaaGreatDoor
