/- The texts Fhh Fhi Frq Svd Fhj Rfp Rfq Hgo Hgp Agn Apn. -/
import Derived.Test.YtklenjmfalljgaaGreatDoorMH
import Derived.BigQuiet
import Derived.Deep.QuietTactic
import Derived.Deep.AppendLies
import Derived.Maps.AppendAt

/- The walk of Form. -/
namespace Go.Proofs.YtklenjmfalljgaaGreatDoor
open Go.RowKit
attribute [local go_sem] Go.World.cell?_alloc_some

theorem grown_fromDrew {w w' : World} (h : w.drew.grownBy w' none) : w.grownBy w' none := ⟨h.os, h.tape, h.output, h.size, h.block⟩
theorem steps_le (p : List (List Ins)) (l : List Int) : (runS p l).steps.length ≤ l.length := by
  obtain ⟨m, h1, h2, h3, _⟩ := follow_fst p l 0 St.zero []
  unfold runS
  simp at h3
  omega
theorem check_none {p : List (List Ins)} {s : List Int} (h0 : checkRunN p s = 0) : vProg p = true ∧ s.length ≤ 500 := by
  unfold checkRunN at h0
  by_cases hv : vProg p = true
  · by_cases h5 : s.length ≤ 500
    · exact ⟨hv, h5⟩
    · simp [hv, h5] at h0
  · simp [hv] at h0
/-- Form of a run's answer, whatever world it lies in. -/
theorem layForm_run {p : List (List Ins)} (hp : vProg p = true) (s : List Int) (h5 : s.length ≤ 500) {base : Nat} {u : World} {rv : Value} (hR : ResAt base u (runS p s) p.length rv) (w : World) (hg : u.grownBy w none) (pv : Value) (hP : ProgAt w pv p) :
    Calls Tryz.prog 44 #[pv, rv] w fun e w' => ∃ v, e = .returned v ∧ w'.ownsRow w.heap.size 3 1 v (formS p (runS p s)).length (ints (formS p (runS p s))) ∧ w.grownBy w' none := by
  obtain ⟨xs, hSt⟩ := stood_of hp s
  obtain ⟨sv, gv, rfl, ho1, ho2⟩ := hR
  obtain ⟨x1, x2, x3, rfl⟩ := owns_form ho1
  obtain ⟨y1, y2, y3, rfl⟩ := owns_form ho2
  have hl : (runS p s).steps.length = xs.length := by rw [hSt.st]; simp
  have hx2 := owns_lenq ho1
  subst hx2
  have hle := steps_le p s
  have h1 := owns_grown ho1 hg (fun _ e => by cases e)
  rw [hl] at h1 ⊢
  have := layForm_m hp hSt (by omega) w pv hP base x1 x3 h1 ((runS p s).st.vars 0) ((runS p s).st.vars 1) ((runS p s).st.vars 2) ((runS p s).st.vars 3) y1 y2 y3
  unfold formS
  rw [hSt.ev]
  exact this

/-- What Form answers. -/
def Formd (p : List (List Ins)) (s : List Int) (w : World) (e : Ending) (w' : World) : Prop :=
  w.grownBy w' none ∧
  ((checkRunN p s = 0 ∧ ∃ v, e = .returned (.tuple #[v, .int .i64 0]) ∧ w'.ownsRow w.heap.size 3 1 v (formS p (runS p s)).length (ints (formS p (runS p s)))) ∨
   (checkRunN p s ≠ 0 ∧ e = .returned (.tuple #[.slice none 0 0, .int .i64 (checkRunN p s)])))

set_option maxHeartbeats 4000000 in
set_option maxRecDepth 100000 in
theorem form_m (p : List (List Ins)) (s : List Int) (pv sv : Value) (w : World) (hS : ShpAt w) (hP : ProgAt w pv p) (hI : IntsAt w.heap.size w sv s) :
    Calls Tryz.prog 19 #[pv, sv] w (Formd p s w) := by
  have HSh := hide hS
  have HP := hide hP
  have HI := hide hI
  obtain ⟨ao, cap, rfl⟩ := hP.form
  obtain ⟨so, sc, rfl⟩ := hI.form
  clear hS hP hI
  go_enter Tryz.func19, Tryz.ntmps19
  go_wp2_with fail
  have hg0 : ∀ a b, w.grownBy ((w.alloc a).alloc b) none := fun a b => grown_alloc (grown_alloc (grown_refl _ _))
  refine (checkRun_m p [s] _ _ _ (HSh.out.pres (pres_grown (hg0 _ _))) (HP.out.pres (pres_grown (hg0 _ _))) (lists_one (by simp)) (by simp)).mono ?_
  rw [checkRuns_one]
  rintro e w1 ⟨rfl, hg1⟩
  have HG1 : Hid (w.grownBy w1 none) := grown_trans (hg0 _ _) hg1
  have hb0 : w1.heap[w.heap.size]? = some (.cells #[.slice ao p.length cap] 24 (0, 0)) := by
    rw [hg1.block w.heap.size (by simp; omega) (by simp), Below.heap_alloc _ _ _ (by simp)]; exact heap_alloc_new w _
  have c0 : w1.cell? ⟨w.heap.size, 0, none⟩ = some (.slice ao p.length cap) := by simp [World.cell?, hb0]
  clear hb0 hg1
  by_cases h0 : checkRunN p s = 0
  · have H0 := hide h0
    obtain ⟨hv, h5⟩ := check_none h0
    have HV := hide hv
    rw [h0]
    clear h0 hv
    go_wp2_with fail
    refine wp_region_head (fun u => u.cell? ⟨w.heap.size, 0, none⟩ = some (.slice ao p.length cap)) 7 (by kernel_rfl) (by kernel_rfl) c0 ?_
    intro hHeld
    refine wpHead_take (i := 0) (v := ?vva0) rfl (by kernel_rfl) (fun _ _ _ h => h) (Or.inl ⟨by rfl, ?hya0⟩) hHeld ?resta0
    case hya0 => (intro u hu; go_simp; try with_reducible rfl)
    simp only [Act.put, List.setIfInBounds_toArray]
    refine wpHead_take (i := 1) (v := ?vva1) rfl (by kernel_rfl) (fun _ _ _ h => h) (Or.inl ⟨by rfl, ?hya1⟩) hHeld ?resta1
    case hya1 => (intro u hu; go_simp; try with_reducible rfl)
    simp only [Act.put]
    refine wpHead_take (i := 3) (v := ?vva3) rfl (by kernel_rfl) (fun _ _ _ h => h) (Or.inl ⟨by rfl, ?hya3⟩) hHeld ?resta3
    case hya3 => (intro u hu; go_simp; try with_reducible rfl)
    simp only [Act.put]
    refine wpHead_alone (i := 2) rfl (by kernel_rfl) (by kernel_rfl) (by rfl) ?_
    intro K2 hK2
    have HK2 := hide hK2
    clear hK2
    go_simp
    refine (new_m HV.out (HP.out.pres (pres_grown (grown_drew HG1.out)))).mono ?_
    rintro e w2 ⟨m, rfl, hM, hg2⟩
    have HM := hide hM
    have HG12 : Hid (w1.grownBy w2 none) := grown_fromDrew hg2
    have HG2 : Hid (w.grownBy w2 none) := grown_trans HG1.out HG12.out
    have hHeld2 : w2.cell? ⟨w.heap.size, 0, none⟩ = some (.slice ao p.length cap) := pres_grown HG12.out _ _ c0
    refine HK2.out _ _ hHeld2 ?_
    clear HK2 hM hg2
    try simp only [Act.put, List.setIfInBounds_toArray]
    refine wpHead_alone (i := 4) rfl (by kernel_rfl) (by kernel_rfl) (by rfl) ?_
    intro K4 hK4
    have HK4 := hide hK4
    clear hK4
    go_simp
    refine (run_m HV.out HM.out (Nat.le_refl _) ((HI.out.pres (pres_grown HG2.out)).mono HG2.out.size) h5).mono ?_
    rintro e w3 ⟨rv, rfl, hR, hg3⟩
    have HR := hide hR
    have HG3 : Hid (w.grownBy w3 none) := grown_trans HG2.out hg3
    have hHeld3 : w3.cell? ⟨w.heap.size, 0, none⟩ = some (.slice ao p.length cap) := pres_grown hg3 _ _ hHeld2
    refine HK4.out _ _ hHeld3 ?_
    clear HK4 hR hg3
    try simp only [Act.put, List.setIfInBounds_toArray]
    refine wpHead_alone (i := 5) rfl (by kernel_rfl) (by kernel_rfl) (by rfl) ?_
    intro K5 hK5
    have HK5 := hide hK5
    clear hK5
    go_simp
    refine (layForm_run HV.out s h5 HR.out w3 (grown_refl _ _) _ (HP.out.pres (pres_grown HG3.out))).mono ?_
    rintro e w4 ⟨fv, rfl, hF, hg4⟩
    obtain ⟨f1, f2, f3, rfl⟩ := owns_form hF
    have HF := hide hF
    have HG4 : Hid (w.grownBy w4 none) := grown_trans HG3.out hg4
    have hHeld4 : w4.cell? ⟨w.heap.size, 0, none⟩ = some (.slice ao p.length cap) := pres_grown hg4 _ _ hHeld3
    refine HK5.out _ _ hHeld4 ?_
    clear HK5 hF hg4
    try simp only [Act.put, List.setIfInBounds_toArray]
    refine wpHead_take (i := 6) (v := ?vvb6) rfl (by kernel_rfl) (fun _ _ _ h => h) (Or.inl ⟨by rfl, ?hyb6⟩) hHeld4 ?restb6
    case hyb6 => (intro u hu; go_simp; try with_reducible rfl)
    simp only [Act.put, List.setIfInBounds_toArray]
    refine wpHead_last rfl (by kernel_rfl) (by kernel_rfl) (by rfl) ?_
    go_simp
    go_wp2_with fail
    exact bodyPost_ret (v := .tuple #[.slice f1 f2 f3, .int .i64 0]) (by simp [results, Tryz.results19, go_sem]) rfl ⟨HG4.out, Or.inl ⟨H0.out, _, rfl, owns_mono HF.out HG3.out.size⟩⟩
  · have H0 := hide h0
    have hne : (checkRunN p s != 0) = true := by simpa using h0
    clear h0
    generalize hE : checkRunN p s = e at *
    have HE := hide hE
    clear hE
    go_wp2_with fail
    exact bodyPost_ret (v := .tuple #[.slice none 0 0, .int .i64 e]) (by simp [results, Tryz.results19, go_sem]) rfl ⟨HG1.out, Or.inr ⟨by rw [HE.out]; exact H0.out, by rw [HE.out]⟩⟩

end Go.Proofs.YtklenjmfalljgaaGreatDoor

/- The walks of slices.Equal and of rerunkeep's same. -/
namespace Go.Proofs.YtklenjmfalljgaaGreatDoor
open Go.RowKit
attribute [local go_sem] Go.World.cell?_alloc_some

theorem likeR (w : World) : Like w w := ⟨rfl, rfl, rfl, rfl⟩
theorem likeDn {w' w : World} (h : Like w' w) (n : Nat) : Like (w'.drewN n) w := by
  obtain ⟨a, b, c, d⟩ := h; exact ⟨a, b, c, d⟩

set_option maxHeartbeats 1000000 in
theorem eqInts_m (l m : List Int) (v u : Value) (w : World) (hI : IntsAt w.heap.size w v l) (hJ : IntsAt w.heap.size w u m) (hln : l.length ≤ 9223372036854775806) :
    Calls Tryz.prog 78 #[v, u] w fun e w' => e = .returned (.bool (l == m)) ∧ Like w' w := by
  obtain ⟨ao, cap, rfl, hcap, hc⟩ := hI
  obtain ⟨bo, dap, rfl, hdap, hd⟩ := hJ
  by_cases hlen : l.length = m.length
  · have HC := hide hc
    have HD := hide hd
    clear hc hd
    have hl2 : (l.length : Int) = m.length := by omega
    have hl3 : ((l.length : Int) != (m.length : Int)) = false := by simp; omega
    have HLN := hide hlen
    go_enter Tryz.func78, Tryz.ntmps78
    clear hlen hl2
    go_wp2_with fail
    go_loopw [13] (fun i w' => ∃ k : Nat, k ≤ l.length ∧ i = .int .i64 k ∧ Hid (Like w' w) ∧ Hid (l.take k = m.take k)) (fun i _ => l.length - (intOf i).toNat)
    case atStart => exact ⟨0, Nat.zero_le _, rfl, hide (likeR _), by simp [Hid]⟩
    case round =>
      obtain ⟨k, hk, rfl, HK, HA⟩ := hrel
      obtain ⟨w5, hw5⟩ : ∃ w5, w5 = wr := ⟨_, rfl⟩
      subst hw5
      by_cases hlt : k < l.length
      · have hlt2 : k < m.length := by have := HLN.out; omega
        obtain ⟨g, o, rfl, _, c0⟩ := HC.out k hlt
        obtain ⟨g2, o2, rfl, _, c1⟩ := HD.out k hlt2
        have cL : ∀ a, w5.cell? a = w.cell? a := fun a => by simp [World.cell?, HK.out.1]
        have d0 : w5.cell? ⟨g, o + k, none⟩ = some (.int .i64 l[k]) := by rw [cL]; exact c0
        have d1 : w5.cell? ⟨g2, o2 + k, none⟩ = some (.int .i64 m[k]) := by rw [cL]; exact c1
        have hk0 : (0 : Int) ≤ (k : Int) := by omega
        have hk1 : (k : Int) < l.length := by omega
        have hk2 : (k : Int) < m.length := by omega
        have HT1 : Hid (l.take (k + 1) = l.take k ++ [l[k]]) := List.take_succ_eq_append_getElem hlt
        have HT2 : Hid (m.take (k + 1) = m.take k ++ [m[k]]) := List.take_succ_eq_append_getElem hlt2
        clear cL c0 c1
        by_cases heq : l[k] = m[k]
        · have hq : (l[k] != m[k]) = false := by simpa using heq
          have HA1 : Hid (l.take (k + 1) = m.take (k + 1)) := by unfold Hid; rw [HT1.out, HT2.out, HA.out, heq]
          clear heq HT1 HT2
          generalize l[k] = x at *
          generalize m[k] = y at *
          go_wp2_with fail
          go_quiet (fail)
          go_wp2_with fail
          go_roundw
          case rel => exact ⟨k + 1, by omega, by go_num, hide (likeDn HK.out _), HA1⟩
          case measure => simp [intOf]; omega
        · have hq : (l[k] != m[k]) = true := by simpa using heq
          have HE : Hid ((l == m) = false) := by
            unfold Hid
            simp only [beq_eq_false_iff_ne]
            intro e
            apply heq
            simp [e]
          clear heq HT1 HT2
          generalize l[k] = x at *
          generalize m[k] = y at *
          go_wp2_with fail
          go_quiet (fail)
          go_wp2_with fail
          go_ret
          exact ⟨by rw [HE.out]; rfl, likeDn HK.out _⟩
      · have HE : Hid ((l == m) = true) := by
          unfold Hid
          have h1 := HA.out
          rw [List.take_of_length_le (by omega), List.take_of_length_le (by have := HLN.out; omega)] at h1
          simpa using h1
        have q2 : (l.length : Int) ≤ (k : Int) := by omega
        go_wp2_with fail
        go_ret
        exact ⟨by rw [HE.out]; rfl, HK.out⟩
  · have HE : Hid ((l == m) = false) := by
      unfold Hid
      simp only [beq_eq_false_iff_ne]
      intro e; exact hlen (by rw [e])
    have hl3 : ((l.length : Int) != (m.length : Int)) = true := by simp; omega
    clear hc hd
    go_enter Tryz.func78, Tryz.ntmps78
    go_wp2_with fail
    go_ret
    exact ⟨by rw [HE.out]; rfl, likeR _⟩


set_option maxHeartbeats 1000000 in
theorem keepSame_m (l m : List Int) (v u : Value) (w : World) (hI : IntsAt w.heap.size w v l) (hJ : IntsAt w.heap.size w u m) (hln : l.length ≤ 9223372036854775806) :
    Calls Tryz.prog 17 #[v, u] w fun e w' => e = .returned (.bool (l == m)) ∧ Like w' w := by
  obtain ⟨ao, cap, rfl, hcap, hc⟩ := hI
  obtain ⟨bo, dap, rfl, hdap, hd⟩ := hJ
  by_cases hlen : l.length = m.length
  · have HC := hide hc
    have HD := hide hd
    clear hc hd
    have hl2 : (l.length : Int) = m.length := by omega
    have hl3 : ((l.length : Int) != (m.length : Int)) = false := by simp; omega
    have HLN := hide hlen
    go_enter Tryz.func17, Tryz.ntmps17
    clear hlen hl2
    go_wp2_with fail
    go_loopw [5] (fun i w' => ∃ k : Nat, k ≤ l.length ∧ i = .int .i64 k ∧ Hid (Like w' w) ∧ Hid (l.take k = m.take k)) (fun i _ => l.length - (intOf i).toNat)
    case atStart => exact ⟨0, Nat.zero_le _, rfl, hide (likeR _), by simp [Hid]⟩
    case round =>
      obtain ⟨k, hk, rfl, HK, HA⟩ := hrel
      obtain ⟨w5, hw5⟩ : ∃ w5, w5 = wr := ⟨_, rfl⟩
      subst hw5
      by_cases hlt : k < l.length
      · have hlt2 : k < m.length := by have := HLN.out; omega
        obtain ⟨g, o, rfl, _, c0⟩ := HC.out k hlt
        obtain ⟨g2, o2, rfl, _, c1⟩ := HD.out k hlt2
        have cL : ∀ a, w5.cell? a = w.cell? a := fun a => by simp [World.cell?, HK.out.1]
        have d0 : w5.cell? ⟨g, o + k, none⟩ = some (.int .i64 l[k]) := by rw [cL]; exact c0
        have d1 : w5.cell? ⟨g2, o2 + k, none⟩ = some (.int .i64 m[k]) := by rw [cL]; exact c1
        have hk0 : (0 : Int) ≤ (k : Int) := by omega
        have hk1 : (k : Int) < l.length := by omega
        have hk2 : (k : Int) < m.length := by omega
        have HT1 : Hid (l.take (k + 1) = l.take k ++ [l[k]]) := List.take_succ_eq_append_getElem hlt
        have HT2 : Hid (m.take (k + 1) = m.take k ++ [m[k]]) := List.take_succ_eq_append_getElem hlt2
        clear cL c0 c1
        by_cases heq : l[k] = m[k]
        · have hq : (l[k] != m[k]) = false := by simpa using heq
          have HA1 : Hid (l.take (k + 1) = m.take (k + 1)) := by unfold Hid; rw [HT1.out, HT2.out, HA.out, heq]
          clear heq HT1 HT2
          generalize l[k] = x at *
          generalize m[k] = y at *
          go_wp2_with fail
          go_quiet (fail)
          go_wp2_with fail
          go_roundw
          case rel => exact ⟨k + 1, by omega, by go_num, hide (likeDn HK.out _), HA1⟩
          case measure => simp [intOf]; omega
        · have hq : (l[k] != m[k]) = true := by simpa using heq
          have HE : Hid ((l == m) = false) := by
            unfold Hid
            simp only [beq_eq_false_iff_ne]
            intro e
            apply heq
            simp [e]
          clear heq HT1 HT2
          generalize l[k] = x at *
          generalize m[k] = y at *
          go_wp2_with fail
          go_quiet (fail)
          go_wp2_with fail
          go_ret
          exact ⟨by rw [HE.out]; rfl, likeDn HK.out _⟩
      · have HE : Hid ((l == m) = true) := by
          unfold Hid
          have h1 := HA.out
          rw [List.take_of_length_le (by omega), List.take_of_length_le (by have := HLN.out; omega)] at h1
          simpa using h1
        have q2 : (l.length : Int) ≤ (k : Int) := by omega
        go_wp2_with fail
        go_ret
        exact ⟨by rw [HE.out]; rfl, HK.out⟩
  · have HE : Hid ((l == m) = false) := by
      unfold Hid
      simp only [beq_eq_false_iff_ne]
      intro e; exact hlen (by rw [e])
    have hl3 : ((l.length : Int) != (m.length : Int)) = true := by simp; omega
    clear hc hd
    go_enter Tryz.func17, Tryz.ntmps17
    go_wp2_with fail
    go_ret
    exact ⟨by rw [HE.out]; rfl, likeR _⟩


end Go.Proofs.YtklenjmfalljgaaGreatDoor

/- Schedules made shorter, trial by trial (no dump is named here). -/
namespace Go.Proofs.YtklenjmfalljgaaGreatDoor

/-- The same verdict (of a Wrong one the kind). -/
def likeV (a b : Out) : Bool := if a.kind = 2 then b.kind == 2 else (a.kind == b.kind && a.thread == b.thread && a.at_ == b.at_)
/-- One number left out. -/
def leftOut (l : List Int) (i : Nat) : List Int := l.take i ++ l.drop (i + 1)
/-- So many numbers of its schedule a run came to. -/
def cameTo (o : Out) : Nat := if o.kind = 2 then o.steps.length + 1 else o.steps.length

def shr (p : List (List Ins)) (V : Out) : Nat → List Int → Nat → Nat → List Int × Nat
  | 0, l, _, u => (l, u)
  | n + 1, l, i, u => if i < l.length then (if likeV (runS p (leftOut l i)) V = true then shr p V n (leftOut l i) 0 (u + 1) else shr p V n l (i + 1) (u + 1)) else (l, u)

def shortS (p : List (List Ins)) (s : List Int) (fuel : Nat) : List Int × Nat := shr p (runS p s) fuel (s.take (cameTo (runS p s))) 0 0

theorem leftOut_len {l : List Int} {i : Nat} (h : i < l.length) : (leftOut l i).length + 1 = l.length := by
  unfold leftOut; simp; omega

section
variable {p : List (List Ins)} {V : Out}
theorem shr_len : ∀ (n : Nat) (l : List Int) (i u : Nat), (shr p V n l i u).1.length ≤ l.length
  | 0, l, i, u => Nat.le_refl _
  | n + 1, l, i, u => by
    unfold shr
    split
    · rename_i hi
      have := leftOut_len hi
      split
      · have := shr_len n (leftOut l i) 0 (u + 1); omega
      · exact shr_len n l (i + 1) (u + 1)
    · exact Nat.le_refl _
theorem shr_used : ∀ (n : Nat) (l : List Int) (i u : Nat), u ≤ (shr p V n l i u).2 ∧ (shr p V n l i u).2 ≤ u + n
  | 0, l, i, u => ⟨Nat.le_refl _, Nat.le_refl _⟩
  | n + 1, l, i, u => by
    unfold shr
    split
    · split
      · have := shr_used n (leftOut l i) 0 (u + 1); omega
      · have := shr_used n l (i + 1) (u + 1); omega
    · exact ⟨Nat.le_refl _, by omega⟩
theorem shr_more : ∀ (m n : Nat) (l : List Int) (i u : Nat), m ≤ n → (shr p V n l i u).1.length ≤ (shr p V m l i u).1.length ∧ (shr p V m l i u).2 ≤ (shr p V n l i u).2
  | 0, n, l, i, u, _ => ⟨shr_len n l i u, (shr_used n l i u).1⟩
  | m + 1, 0, l, i, u, h => by omega
  | m + 1, n + 1, l, i, u, h => by
    unfold shr
    split
    · split
      · exact shr_more m n _ _ _ (by omega)
      · exact shr_more m n _ _ _ (by omega)
    · exact ⟨Nat.le_refl _, Nat.le_refl _⟩
theorem shr_like : ∀ (n : Nat) (l : List Int) (i u : Nat), likeV (runS p l) V = true → likeV (runS p (shr p V n l i u).1) V = true
  | 0, l, i, u, h => h
  | n + 1, l, i, u, h => by
    unfold shr
    split
    · split
      · exact shr_like n _ _ _ ‹_›
      · exact shr_like n _ _ _ h
    · exact h
/-- With fuel enough nothing can be left out. -/
theorem shr_enough : ∀ (n : Nat) (l : List Int) (i u : Nat), l.length * (l.length + 1) ≤ n + i → i ≤ u → i ≤ l.length → (∀ j, j < i → likeV (runS p (leftOut l j)) V = false) →
    (∀ j, j < (shr p V n l i u).1.length → likeV (runS p (leftOut (shr p V n l i u).1 j)) V = false) ∧ (shr p V n l i u).1.length ≤ (shr p V n l i u).2
  | 0, l, i, u, h, hu, hi, hj => by
    have hl : l.length = 0 ∨ l.length ≤ i := by
      rcases Nat.eq_zero_or_pos l.length with e | e
      · exact Or.inl e
      · right
        have : l.length * 1 ≤ l.length * (l.length + 1) := Nat.mul_le_mul_left _ (by omega)
        omega
    unfold shr
    exact ⟨fun j h1 => hj j (by simp only at h1; omega), by simp only; omega⟩
  | n + 1, l, i, u, h, hu, hi, hj => by
    unfold shr
    split
    · rename_i hlt
      have hlen := leftOut_len hlt
      split
      · refine shr_enough n _ 0 (u + 1) ?_ (by omega) (by omega) (fun j h1 => by omega)
        have e : l.length = (leftOut l i).length + 1 := hlen.symm
        rw [e] at h hlt
        have e2 : ((leftOut l i).length + 1) * ((leftOut l i).length + 1 + 1) = (leftOut l i).length * ((leftOut l i).length + 1) + 2 * ((leftOut l i).length + 1) := by
          generalize (leftOut l i).length = k
          rw [Nat.add_mul, Nat.mul_add k, Nat.mul_add k]; omega
        omega
      · rename_i hn
        refine shr_enough n l (i + 1) (u + 1) (by omega) (by omega) (by omega) (fun j h1 => ?_)
        by_cases e : j = i
        · subst e; simpa using hn
        · exact hj j (by omega)
    · rename_i hlt
      exact ⟨fun j h1 => hj j (by simp only at h1; omega), by simp only; omega⟩
end

/-- What was cut off was nothing to the run. -/
theorem run_cut (p : List (List Ins)) (s : List Int) : runS p (s.take (cameTo (runS p s))) = runS p s ∧ cameTo (runS p s) ≤ s.length := by
  have hc := follow_cases p s 0 St.zero []
  change ∃ xs s', RunE p St.zero xs s' ∧ (runS p s).steps = [] ++ xs.map Ev.pr ∧ (runS p s).st = s' ∧ ((good xs ∧ xs.map Ev.tI = s ∧ (runS p s).kind = endingS p s' ∧ (runS p s).thread = 0 ∧ (runS p s).at_ = 0) ∨ (good xs ∧ (∃ u r, s = xs.map Ev.tI ++ u :: r ∧ okAt p s' u = false) ∧ (runS p s).kind = 2 ∧ (runS p s).thread = 0 ∧ (runS p s).at_ = 0 + xs.length) ∨ (∃ ys z r, xs = ys ++ [z] ∧ good ys ∧ z.bad = true ∧ s = xs.map Ev.tI ++ r ∧ (runS p s).kind = 1 ∧ (runS p s).thread = z.tI ∧ (runS p s).at_ = z.k)) at hc
  obtain ⟨xs, s', hr, hs, hst, hc⟩ := hc
  rw [List.nil_append] at hs
  have hl : (runS p s).steps.length = xs.length := by rw [hs]; simp
  have eq_of : ∀ o : Out, o.steps = (runS p s).steps → o.kind = (runS p s).kind → o.thread = (runS p s).thread → o.at_ = (runS p s).at_ → o.st = (runS p s).st → o = runS p s := by
    intro o h1 h2 h3 h4 h5
    cases o
    generalize runS p s = q at *
    cases q
    simp at *; exact ⟨h1, h2, h3, h4, h5⟩
  rcases hc with ⟨g1, g2, g3, g4, g5⟩ | ⟨g1, ⟨u, r, g2, g2'⟩, g3, g4, g5⟩ | ⟨us, z, r, g1, g2, g3, g4, g5, g6, g7⟩
  · have hk : cameTo (runS p s) = s.length := by
      unfold cameTo
      rw [if_neg (by have := endingS_range p s'; omega), hl, ← g2]; simp
    rw [hk, List.take_length]
    exact ⟨rfl, Nat.le_refl _⟩
  · have hk : cameTo (runS p s) = xs.length + 1 := by unfold cameTo; rw [if_pos g3, hl]
    have ht : s.take (xs.length + 1) = xs.map Ev.tI ++ [u] := by
      rw [g2, List.take_append, List.take_of_length_le (by simp)]; simp
    rw [hk, ht]
    refine ⟨?_, by rw [g2]; simp⟩
    have e1 : runS p (xs.map Ev.tI ++ [u]) = ⟨xs.map Ev.pr, 2, 0, 0 + xs.length, s'⟩ := by
      unfold runS; rw [follow_of_good p xs [u] 0 St.zero s' [] g1 hr, follow_wrong p u [] _ _ _ g2']; simp
    rw [e1]
    exact eq_of _ hs.symm g3.symm g4.symm g5.symm hst.symm
  · have hk : cameTo (runS p s) = xs.length := by unfold cameTo; rw [if_neg (by omega), hl]
    have ht : s.take xs.length = xs.map Ev.tI := by
      rw [g4, List.take_append, List.take_of_length_le (by simp)]; simp
    rw [hk, ht]
    refine ⟨?_, by rw [g4]; simp⟩
    subst g1
    have e1 : runS p ((us ++ [z]).map Ev.tI) = ⟨(us ++ [z]).map Ev.pr, 1, z.tI, z.k, s'⟩ := by
      unfold runS; rw [follow_bad g2 g3 hr]; simp
    rw [e1]
    exact eq_of _ hs.symm g5.symm g6.symm g7.symm hst.symm

theorem likeV_refl (o : Out) : likeV o o = true := by
  unfold likeV; split
  · simpa using ‹_›
  · simp

/-- P7, P8: what Shorten tells. -/
theorem short_all (p : List (List Ins)) (s : List Int) (n m : Nat) (hn : s.length * (s.length + 1) ≤ n) (hm : m ≤ n) :
    (shortS p s n).1.length ≤ (shortS p s m).1.length ∧ (shortS p s m).1.length ≤ s.length ∧ (shortS p s n).1.length ≤ (shortS p s n).2 ∧ (shortS p s m).2 ≤ (shortS p s n).2 ∧ (shortS p s m).2 ≤ m ∧
    likeV (runS p (shortS p s n).1) (runS p s) = true ∧ likeV (runS p (shortS p s m).1) (runS p s) = true ∧ ∀ j, j < (shortS p s n).1.length → likeV (runS p (leftOut (shortS p s n).1 j)) (runS p s) = false := by
  obtain ⟨hc1, hc2⟩ := run_cut p s
  have hlen : (s.take (cameTo (runS p s))).length ≤ s.length := by simp; omega
  have hl0 : likeV (runS p (s.take (cameTo (runS p s)))) (runS p s) = true := by rw [hc1]; exact likeV_refl _
  have hb : (s.take (cameTo (runS p s))).length * ((s.take (cameTo (runS p s))).length + 1) ≤ n := Nat.le_trans (Nat.mul_le_mul hlen (by omega)) hn
  unfold shortS
  have h1 := shr_more (p := p) (V := runS p s) m n (s.take (cameTo (runS p s))) 0 0 hm
  have h2 := shr_len (p := p) (V := runS p s) m (s.take (cameTo (runS p s))) 0 0
  have h3 := shr_enough (p := p) (V := runS p s) n (s.take (cameTo (runS p s))) 0 0 (by omega) (by omega) (by omega) (fun j h => by omega)
  have h4 := shr_used (p := p) (V := runS p s) m (s.take (cameTo (runS p s))) 0 0
  exact ⟨h1.1, by omega, h3.2, h1.2, by omega, shr_like _ _ _ _ hl0, shr_like _ _ _ _ hl0, h3.1⟩

end Go.Proofs.YtklenjmfalljgaaGreatDoor

/- The walk of SameVerdict. -/
namespace Go.Proofs.YtklenjmfalljgaaGreatDoor
open Go.RowKit
attribute [local go_sem] Go.World.cell?_alloc_some

def verdV (o : Out) : Value := .agg #[.int .i64 o.kind, .int .i64 o.thread, .int .i64 o.at_]

set_option maxHeartbeats 1000000 in
set_option maxRecDepth 100000 in
theorem sameVerdict_m (a b : Out) (w : World) : Calls Tryz.prog 77 #[verdV a, verdV b] w fun e w' => e = .returned (.bool (likeV a b)) ∧ w.grownBy w' none := by
  obtain ⟨al, ak, av, aa, ast⟩ := a
  obtain ⟨bs, bk, bt, ba, bst⟩ := b
  unfold verdV
  simp only
  have HG : Hid (∀ x y, w.grownBy ((w.alloc x).alloc y) none) := fun x y => grown_alloc (grown_alloc (grown_refl _ _))
  by_cases h2 : ak = 2
  · by_cases h3 : bk = 2
    · have HE : Hid (likeV ⟨al, ak, av, aa, ast⟩ ⟨bs, bk, bt, ba, bst⟩ = true) := by unfold Hid likeV; simp [h2, h3]
      subst h2 h3
      go_enter Tryz.func77, Tryz.ntmps77
      go_wp2_with fail
      go_ret
      exact ⟨by rw [HE.out]; rfl, HG.out _ _⟩
    · have HE : Hid (likeV ⟨al, ak, av, aa, ast⟩ ⟨bs, bk, bt, ba, bst⟩ = false) := by unfold Hid likeV; simp [h2, h3]
      have hb : (bk == 2) = false := by simpa using h3
      subst h2
      clear h3
      go_enter Tryz.func77, Tryz.ntmps77
      go_wp2_with fail
      go_ret
      exact ⟨by rw [HE.out]; rfl, HG.out _ _⟩
  · have HE : Hid (likeV ⟨al, ak, av, aa, ast⟩ ⟨bs, bk, bt, ba, bst⟩ = (ak == bk && av == bt && aa == ba)) := by unfold Hid likeV; simp [h2]
    have ha : (ak == 2) = false := by simpa using h2
    clear h2
    go_enter Tryz.func77, Tryz.ntmps77
    go_wp2_with fail
    all_goals (go_ret; refine ⟨?_, HG.out _ _⟩; rw [HE.out]; simp [*])

end Go.Proofs.YtklenjmfalljgaaGreatDoor

/- The walk of Same. -/
namespace Go.Proofs.YtklenjmfalljgaaGreatDoor
open Go.RowKit
attribute [local go_sem] Go.World.cell?_alloc_some

theorem lists_two {W : World} {so sp : Option Addr} {a b : List Int} {sc sd : Nat} {t : TypeId} {g : Nat} (hg : W.heap.size = g) : ListsAt (W.alloc (.cells #[.slice so a.length sc, .slice sp b.length sd] t)) (.slice (some ⟨g, 0, none⟩) 2 2) [a, b] := by
  subst hg
  have h := heap_alloc_new W (.cells #[.slice so a.length sc, .slice sp b.length sd] t)
  refine ⟨W.heap.size, 0, 2, rfl, fun k hk => ?_⟩
  have hk0 : k = 0 ∨ k = 1 := by simp at hk; omega
  rcases hk0 with rfl | rfl
  · exact ⟨so, sc, by simp only [World.cell?, h]; rfl⟩
  · exact ⟨sp, sd, by simp only [World.cell?, h]; rfl⟩
theorem checks_none {p : List (List Ins)} {a b : List Int} (h0 : checkRunsN p [a, b] = 0) : vProg p = true ∧ a.length ≤ 500 ∧ b.length ≤ 500 := by
  unfold checkRunsN at h0
  by_cases hv : vProg p = true
  · by_cases h5 : a.length ≤ 500
    · by_cases h6 : b.length ≤ 500
      · exact ⟨hv, h5, h6⟩
      · simp [hv, h5, h6] at h0
    · simp [hv, h5] at h0
  · simp [hv] at h0

def sameS (p : List (List Ins)) (a b : List Int) : Bool := likeV (runS p a) (runS p b) && (formS p (runS p a) == formS p (runS p b))
/-- What Same answers. -/
def Samed (p : List (List Ins)) (a b : List Int) (w : World) (e : Ending) (w' : World) : Prop :=
  w.grownBy w' none ∧ ((checkRunsN p [a, b] = 0 ∧ e = .returned (.tuple #[.bool (sameS p a b), .int .i64 0])) ∨ (checkRunsN p [a, b] ≠ 0 ∧ e = .returned (.tuple #[.bool false, .int .i64 (checkRunsN p [a, b])])))

set_option maxHeartbeats 4000000 in
set_option maxRecDepth 100000 in
theorem sameP_m (p : List (List Ins)) (a b : List Int) (pv av bv : Value) (w : World) (hS : ShpAt w) (hP : ProgAt w pv p) (hI : IntsAt w.heap.size w av a) (hJ : IntsAt w.heap.size w bv b) :
    Calls Tryz.prog 47 #[pv, av, bv] w (Samed p a b w) := by
  have HSh := hide hS
  have HP := hide hP
  have HI := hide hI
  have HJ := hide hJ
  obtain ⟨ao, cap, rfl⟩ := hP.form
  obtain ⟨so, sc, rfl⟩ := hI.form
  obtain ⟨sp, sd, rfl⟩ := hJ.form
  clear hS hP hI hJ
  go_enter Tryz.func47, Tryz.ntmps47
  go_wp2_with fail
  have hg0 : ∀ x y, w.grownBy ((w.alloc x).alloc y) none := fun x y => grown_alloc (grown_alloc (grown_refl _ _))
  refine (checkRun_m p [a, b] _ _ _ (HSh.out.pres (pres_grown (hg0 _ _))) (HP.out.pres (pres_grown (hg0 _ _))) (lists_two (by simp)) (by simp)).mono ?_
  rintro e w1 ⟨rfl, hg1⟩
  have HG1 : Hid (w.grownBy w1 none) := grown_trans (hg0 _ _) hg1
  have hb0 : w1.heap[w.heap.size]? = some (.cells #[.slice ao p.length cap] 24 (0, 0)) := by
    rw [hg1.block w.heap.size (by simp; omega) (by simp), Below.heap_alloc _ _ _ (by simp)]; exact heap_alloc_new w _
  have c0 : w1.cell? ⟨w.heap.size, 0, none⟩ = some (.slice ao p.length cap) := by simp [World.cell?, hb0]
  clear hb0 hg1
  by_cases h0 : checkRunsN p [a, b] = 0
  · have H0 := hide h0
    obtain ⟨hv, h5, h6⟩ := checks_none h0
    have HV := hide hv
    rw [h0]
    clear h0 hv
    go_wp2_with fail
    refine (new_m HV.out (HP.out.pres (pres_grown HG1.out))).mono ?_
    rintro e w2 ⟨m, rfl, hM, hg2⟩
    have HM := hide hM
    have HG2 : Hid (w.grownBy w2 none) := grown_trans HG1.out hg2
    have c2 := pres_grown hg2 _ _ c0
    clear hM hg2 c0
    go_wp2_with fail
    refine (run_m HV.out HM.out (Nat.le_refl _) ((HI.out.pres (pres_grown HG2.out)).mono HG2.out.size) h5).mono ?_
    rintro e w3 ⟨rv, rfl, hR, hg3⟩
    have HG3 : Hid (w.grownBy w3 none) := grown_trans HG2.out hg3
    have HR := hide hR
    have c3 := pres_grown hg3 _ _ c2
    have HM3 : Hid (MachAt w2.heap.size w3 m p) := HM.out.grown' (Nat.le_refl _) hg3
    have hs23 := hg3.size
    obtain ⟨sv, gv, rfl, ho1, ho2⟩ := hR
    obtain ⟨x1, x2, x3, rfl⟩ := owns_form ho1
    obtain ⟨y1, y2, y3, rfl⟩ := owns_form ho2
    clear hg3 c2 ho1 ho2
    have HIb : Hid (IntsAt w2.heap.size w3 (.slice sp b.length sd) b) := (HJ.out.pres (pres_grown HG3.out)).mono HG2.out.size
    go_wp2_with fail
    refine (run_m HV.out HM3.out hs23 HIb.out h6).mono ?_
    rintro e w4 ⟨rv, rfl, hR4, hg4⟩
    have HG4 : Hid (w.grownBy w4 none) := grown_trans HG3.out hg4
    have HG34 := hide hg4
    have HR4 := hide hR4
    have c4 := pres_grown hg4 _ _ c3
    obtain ⟨sv, gv, rfl, ho1, ho2⟩ := hR4
    obtain ⟨z1, z2, z3, rfl⟩ := owns_form ho1
    obtain ⟨v1, v2, v3, rfl⟩ := owns_form ho2
    clear hg4 c3 ho1 ho2
    have HLF := hide (fun (w : World) (h : w3.grownBy w none) (hP : ProgAt w (.agg #[.slice ao p.length cap]) p) => layForm_run HV.out a h5 HR.out w h (.agg #[.slice ao p.length cap]) hP)
    have HLG := hide (fun (w : World) (h : w4.grownBy w none) (hP : ProgAt w (.agg #[.slice ao p.length cap]) p) => layForm_run HV.out b h6 HR4.out w h (.agg #[.slice ao p.length cap]) hP)
    have HSM : Hid (sameS p a b = (likeV (runS p a) (runS p b) && (formS p (runS p a) == formS p (runS p b)))) := rfl
    have HFL : Hid ((formS p (runS p a)).length ≤ 500) := by
      unfold Hid formS
      rw [formE_length]
      obtain ⟨xs, hSt⟩ := stood_of HV.out a
      rw [hSt.ev]
      have h1 := steps_le p a
      rw [hSt.st] at h1
      simp at h1
      omega
    clear HR HR4
    generalize hoa : runS p a = oa at *
    generalize hob : runS p b = ob at *
    clear hoa hob
    go_upto_region 6 with fail
    have HA5 : Hid (((w4.alloc (.cells #[.int .i64 oa.kind, .int .i64 oa.thread, .int .i64 oa.at_, .slice x1 x2 x3, .int .i64 (oa.st.vars 0), .int .i64 (oa.st.vars 1), .int .i64 (oa.st.vars 2), .int .i64 (oa.st.vars 3), .slice y1 y2 y3] 32)).alloc (.cells #[.int .i64 ob.kind, .int .i64 ob.thread, .int .i64 ob.at_, .slice z1 z2 z3, .int .i64 (ob.st.vars 0), .int .i64 (ob.st.vars 1), .int .i64 (ob.st.vars 2), .int .i64 (ob.st.vars 3), .slice v1 v2 v3] 32)).heap[w4.heap.size]? = some (.cells #[.int .i64 oa.kind, .int .i64 oa.thread, .int .i64 oa.at_, .slice x1 x2 x3, .int .i64 (oa.st.vars 0), .int .i64 (oa.st.vars 1), .int .i64 (oa.st.vars 2), .int .i64 (oa.st.vars 3), .slice y1 y2 y3] 32)) := by
      unfold Hid; rw [Below.heap_alloc _ _ _ (by simp)]; exact heap_alloc_new _ _
    have HB5 : Hid (((w4.alloc (.cells #[.int .i64 oa.kind, .int .i64 oa.thread, .int .i64 oa.at_, .slice x1 x2 x3, .int .i64 (oa.st.vars 0), .int .i64 (oa.st.vars 1), .int .i64 (oa.st.vars 2), .int .i64 (oa.st.vars 3), .slice y1 y2 y3] 32)).alloc (.cells #[.int .i64 ob.kind, .int .i64 ob.thread, .int .i64 ob.at_, .slice z1 z2 z3, .int .i64 (ob.st.vars 0), .int .i64 (ob.st.vars 1), .int .i64 (ob.st.vars 2), .int .i64 (ob.st.vars 3), .slice v1 v2 v3] 32)).heap[w4.heap.size + 1]? = some (.cells #[.int .i64 ob.kind, .int .i64 ob.thread, .int .i64 ob.at_, .slice z1 z2 z3, .int .i64 (ob.st.vars 0), .int .i64 (ob.st.vars 1), .int .i64 (ob.st.vars 2), .int .i64 (ob.st.vars 3), .slice v1 v2 v3] 32)) := by
      have := heap_alloc_new (w4.alloc (.cells #[.int .i64 oa.kind, .int .i64 oa.thread, .int .i64 oa.at_, .slice x1 x2 x3, .int .i64 (oa.st.vars 0), .int .i64 (oa.st.vars 1), .int .i64 (oa.st.vars 2), .int .i64 (oa.st.vars 3), .slice y1 y2 y3] 32)) (.cells #[.int .i64 ob.kind, .int .i64 ob.thread, .int .i64 ob.at_, .slice z1 z2 z3, .int .i64 (ob.st.vars 0), .int .i64 (ob.st.vars 1), .int .i64 (ob.st.vars 2), .int .i64 (ob.st.vars 3), .slice v1 v2 v3] 32)
      unfold Hid
      simpa using this
    have HG45 : Hid (w4.grownBy ((w4.alloc (.cells #[.int .i64 oa.kind, .int .i64 oa.thread, .int .i64 oa.at_, .slice x1 x2 x3, .int .i64 (oa.st.vars 0), .int .i64 (oa.st.vars 1), .int .i64 (oa.st.vars 2), .int .i64 (oa.st.vars 3), .slice y1 y2 y3] 32)).alloc (.cells #[.int .i64 ob.kind, .int .i64 ob.thread, .int .i64 ob.at_, .slice z1 z2 z3, .int .i64 (ob.st.vars 0), .int .i64 (ob.st.vars 1), .int .i64 (ob.st.vars 2), .int .i64 (ob.st.vars 3), .slice v1 v2 v3] 32)) none) := grown_alloc (grown_alloc (grown_refl _ _))
    generalize (w4.alloc (.cells #[.int .i64 oa.kind, .int .i64 oa.thread, .int .i64 oa.at_, .slice x1 x2 x3, .int .i64 (oa.st.vars 0), .int .i64 (oa.st.vars 1), .int .i64 (oa.st.vars 2), .int .i64 (oa.st.vars 3), .slice y1 y2 y3] 32)).alloc (.cells #[.int .i64 ob.kind, .int .i64 ob.thread, .int .i64 ob.at_, .slice z1 z2 z3, .int .i64 (ob.st.vars 0), .int .i64 (ob.st.vars 1), .int .i64 (ob.st.vars 2), .int .i64 (ob.st.vars 3), .slice v1 v2 v3] 32) = w5 at *
    have HST : Hid (∀ u, w5.grownBy u none → u.cell? ⟨w.heap.size, 0, none⟩ = some (.slice ao p.length cap) ∧ (u.cell? ⟨w4.heap.size, 0, none⟩ = some (.int .i64 oa.kind) ∧ u.cell? ⟨w4.heap.size, 1, none⟩ = some (.int .i64 oa.thread) ∧ u.cell? ⟨w4.heap.size, 2, none⟩ = some (.int .i64 oa.at_) ∧ u.cell? ⟨w4.heap.size, 3, none⟩ = some (.slice x1 x2 x3) ∧ u.cell? ⟨w4.heap.size, 4, none⟩ = some (.int .i64 (oa.st.vars 0)) ∧ u.cell? ⟨w4.heap.size, 5, none⟩ = some (.int .i64 (oa.st.vars 1)) ∧ u.cell? ⟨w4.heap.size, 6, none⟩ = some (.int .i64 (oa.st.vars 2)) ∧ u.cell? ⟨w4.heap.size, 7, none⟩ = some (.int .i64 (oa.st.vars 3)) ∧ u.cell? ⟨w4.heap.size, 8, none⟩ = some (.slice y1 y2 y3)) ∧ (u.cell? ⟨w4.heap.size + 1, 0, none⟩ = some (.int .i64 ob.kind) ∧ u.cell? ⟨w4.heap.size + 1, 1, none⟩ = some (.int .i64 ob.thread) ∧ u.cell? ⟨w4.heap.size + 1, 2, none⟩ = some (.int .i64 ob.at_) ∧ u.cell? ⟨w4.heap.size + 1, 3, none⟩ = some (.slice z1 z2 z3) ∧ u.cell? ⟨w4.heap.size + 1, 4, none⟩ = some (.int .i64 (ob.st.vars 0)) ∧ u.cell? ⟨w4.heap.size + 1, 5, none⟩ = some (.int .i64 (ob.st.vars 1)) ∧ u.cell? ⟨w4.heap.size + 1, 6, none⟩ = some (.int .i64 (ob.st.vars 2)) ∧ u.cell? ⟨w4.heap.size + 1, 7, none⟩ = some (.int .i64 (ob.st.vars 3)) ∧ u.cell? ⟨w4.heap.size + 1, 8, none⟩ = some (.slice v1 v2 v3))) := fun u hu => by
      have ka : u.heap[w4.heap.size]? = some (.cells #[.int .i64 oa.kind, .int .i64 oa.thread, .int .i64 oa.at_, .slice x1 x2 x3, .int .i64 (oa.st.vars 0), .int .i64 (oa.st.vars 1), .int .i64 (oa.st.vars 2), .int .i64 (oa.st.vars 3), .slice y1 y2 y3] 32) := by rw [hu.block _ (Array.getElem?_eq_some_iff.1 HA5.out).1 (by simp)]; exact HA5.out
      have kb : u.heap[w4.heap.size + 1]? = some (.cells #[.int .i64 ob.kind, .int .i64 ob.thread, .int .i64 ob.at_, .slice z1 z2 z3, .int .i64 (ob.st.vars 0), .int .i64 (ob.st.vars 1), .int .i64 (ob.st.vars 2), .int .i64 (ob.st.vars 3), .slice v1 v2 v3] 32) := by rw [hu.block _ (Array.getElem?_eq_some_iff.1 HB5.out).1 (by simp)]; exact HB5.out
      obtain ⟨p0, p1, p2, p3, p4, p5, p6, p7, p8, _⟩ := nine_cells ka
      obtain ⟨q0, q1, q2, q3, q4, q5, q6, q7, q8, _⟩ := nine_cells kb
      exact ⟨pres_grown (grown_trans HG45.out hu) _ _ c4, ⟨p0, p1, p2, p3, p4, p5, p6, p7, p8⟩, ⟨q0, q1, q2, q3, q4, q5, q6, q7, q8⟩⟩
    have HPq : Hid (∀ u, w5.grownBy u none → ProgAt u (.agg #[.slice ao p.length cap]) p) := fun u hu => HP.out.pres (pres_grown (grown_trans HG4.out (grown_trans HG45.out hu)))
    obtain ⟨_, ⟨ha0, ha1, ha2, _⟩, ⟨hb0, hb1, hb2, _⟩⟩ := HST.out w5 (grown_refl _ _)
    clear c4 HA5 HB5
    go_wp2_with fail
    refine (sameVerdict_m oa ob _).mono ?_
    rintro e w6 ⟨rfl, hg6⟩
    have HG56 := hide hg6
    have HG6 : Hid (w.grownBy w6 none) := grown_trans HG4.out (grown_trans HG45.out hg6)
    clear hg6 ha0 ha1 ha2 hb0 hb1 hb2
    cases hlk : likeV oa ob
    · have HE : Hid (sameS p a b = false) := by unfold Hid; rw [HSM.out, hlk]; rfl
      clear hlk
      go_wp2_with fail
      exact bodyPost_ret (v := .tuple #[.bool false, .int .i64 0]) (by simp [results, Tryz.results47, go_sem]) rfl ⟨HG6.out, Or.inl ⟨H0.out, by rw [HE.out]⟩⟩
    · have HE : Hid (sameS p a b = (formS p oa == formS p ob)) := by unfold Hid; rw [HSM.out, hlk]; rfl
      clear hlk
      have hSt6 := HST.out w6.drew (grown_drew HG56.out)
      go_wp2_with fail
      refine wp_region_head (fun u => u.cell? ⟨w.heap.size, 0, none⟩ = some (.slice ao p.length cap) ∧ (u.cell? ⟨w4.heap.size, 0, none⟩ = some (.int .i64 oa.kind) ∧ u.cell? ⟨w4.heap.size, 1, none⟩ = some (.int .i64 oa.thread) ∧ u.cell? ⟨w4.heap.size, 2, none⟩ = some (.int .i64 oa.at_) ∧ u.cell? ⟨w4.heap.size, 3, none⟩ = some (.slice x1 x2 x3) ∧ u.cell? ⟨w4.heap.size, 4, none⟩ = some (.int .i64 (oa.st.vars 0)) ∧ u.cell? ⟨w4.heap.size, 5, none⟩ = some (.int .i64 (oa.st.vars 1)) ∧ u.cell? ⟨w4.heap.size, 6, none⟩ = some (.int .i64 (oa.st.vars 2)) ∧ u.cell? ⟨w4.heap.size, 7, none⟩ = some (.int .i64 (oa.st.vars 3)) ∧ u.cell? ⟨w4.heap.size, 8, none⟩ = some (.slice y1 y2 y3)) ∧ (u.cell? ⟨w4.heap.size + 1, 0, none⟩ = some (.int .i64 ob.kind) ∧ u.cell? ⟨w4.heap.size + 1, 1, none⟩ = some (.int .i64 ob.thread) ∧ u.cell? ⟨w4.heap.size + 1, 2, none⟩ = some (.int .i64 ob.at_) ∧ u.cell? ⟨w4.heap.size + 1, 3, none⟩ = some (.slice z1 z2 z3) ∧ u.cell? ⟨w4.heap.size + 1, 4, none⟩ = some (.int .i64 (ob.st.vars 0)) ∧ u.cell? ⟨w4.heap.size + 1, 5, none⟩ = some (.int .i64 (ob.st.vars 1)) ∧ u.cell? ⟨w4.heap.size + 1, 6, none⟩ = some (.int .i64 (ob.st.vars 2)) ∧ u.cell? ⟨w4.heap.size + 1, 7, none⟩ = some (.int .i64 (ob.st.vars 3)) ∧ u.cell? ⟨w4.heap.size + 1, 8, none⟩ = some (.slice v1 v2 v3))) 8 (by kernel_rfl) (by kernel_rfl) hSt6 ?_
      intro hHeld
      refine wpHead_take (i := 0) (v := ?vva0) rfl (by kernel_rfl) (fun _ _ _ h => h) (Or.inl ⟨by rfl, ?hya0⟩) hHeld ?resta0
      case hya0 => (rintro u ⟨hu0, ⟨ha0, ha1, ha2, ha3, ha4, ha5, ha6, ha7, ha8⟩, ⟨hb0, hb1, hb2, hb3, hb4, hb5, hb6, hb7, hb8⟩⟩; go_simp; try with_reducible rfl)
      simp only [Act.put, List.setIfInBounds_toArray]
      refine wpHead_take (i := 1) (v := ?vva1) rfl (by kernel_rfl) (fun _ _ _ h => h) (Or.inl ⟨by rfl, ?hya1⟩) hHeld ?resta1
      case hya1 => (rintro u ⟨hu0, ⟨ha0, ha1, ha2, ha3, ha4, ha5, ha6, ha7, ha8⟩, ⟨hb0, hb1, hb2, hb3, hb4, hb5, hb6, hb7, hb8⟩⟩; go_simp; try with_reducible rfl)
      simp only [Act.put]
      refine wpHead_take (i := 3) (v := ?vva3) rfl (by kernel_rfl) (fun _ _ _ h => h) (Or.inl ⟨by rfl, ?hya3⟩) hHeld ?resta3
      case hya3 => (rintro u ⟨hu0, ⟨ha0, ha1, ha2, ha3, ha4, ha5, ha6, ha7, ha8⟩, ⟨hb0, hb1, hb2, hb3, hb4, hb5, hb6, hb7, hb8⟩⟩; go_simp; try with_reducible rfl)
      simp only [Act.put]
      refine wpHead_take (i := 4) (v := ?vva4) rfl (by kernel_rfl) (fun _ _ _ h => h) (Or.inl ⟨by rfl, ?hya4⟩) hHeld ?resta4
      case hya4 => (rintro u ⟨hu0, ⟨ha0, ha1, ha2, ha3, ha4, ha5, ha6, ha7, ha8⟩, ⟨hb0, hb1, hb2, hb3, hb4, hb5, hb6, hb7, hb8⟩⟩; go_simp; try with_reducible rfl)
      simp only [Act.put]
      refine wpHead_alone (i := 2) rfl (by kernel_rfl) (by kernel_rfl) (by rfl) ?_
      intro K2 hK2
      have HK2 := hide hK2
      clear hK2
      go_simp
      refine (HLF.out _ (grown_drew (grown_trans HG34.out (grown_trans HG45.out HG56.out))) (HPq.out _ (grown_drew HG56.out))).mono ?_
      rintro e w7 ⟨fa, rfl, hF7, hg7⟩
      obtain ⟨f1, f2, f3, rfl⟩ := owns_form hF7
      have hf2 := owns_lenq hF7
      subst hf2
      have HF7 := hide (owns_ints hF7)
      have HG67 : Hid (w6.grownBy w7 none) := grown_fromDrew hg7
      have hHeld7 := HST.out w7 (grown_trans HG56.out HG67.out)
      refine HK2.out _ _ hHeld7 ?_
      clear HK2 hF7 hg7
      try simp only [Act.put, List.setIfInBounds_toArray]
      refine wpHead_alone (i := 5) rfl (by kernel_rfl) (by kernel_rfl) (by rfl) ?_
      intro K5 hK5
      have HK5 := hide hK5
      clear hK5
      go_simp
      refine (HLG.out _ (grown_trans HG45.out (grown_trans HG56.out HG67.out)) (HPq.out _ (grown_trans HG56.out HG67.out))).mono ?_
      rintro e w8 ⟨fb, rfl, hF8, hg8⟩
      obtain ⟨g1, g2, g3, rfl⟩ := owns_form hF8
      have hg2 := owns_lenq hF8
      subst hg2
      have HF8 := hide (owns_ints hF8)
      have HG78 := hide hg8
      have HG58 : Hid (w5.grownBy w8 none) := grown_trans HG56.out (grown_trans HG67.out hg8)
      have hHeld8 := HST.out w8 HG58.out
      refine HK5.out _ _ hHeld8 ?_
      clear HK5 hF8 hg8
      try simp only [Act.put, List.setIfInBounds_toArray]
      refine wpHead_alone (i := 6) rfl (by kernel_rfl) (by kernel_rfl) (by rfl) ?_
      intro K6 hK6
      have HK6 := hide hK6
      clear hK6
      go_simp
      have hla : (formS p oa).length ≤ 9223372036854775806 := by
        obtain ⟨_, _, e, _⟩ := HF7.out
        have := HFL.out
        omega
      refine (eqInts_m (formS p oa) (formS p ob) _ _ w8 ((HF7.out.pres (pres_grown HG78.out)).mono HG78.out.size) HF8.out hla).mono ?_
      rintro e w9 ⟨rfl, hl9⟩
      have hg9 : w8.grownBy w9 none := grown_of_like hl9
      have HG9 : Hid (w.grownBy w9 none) := grown_trans (grown_trans HG4.out HG45.out) (grown_trans HG58.out hg9)
      have hHeld9 := HST.out w9 (grown_trans HG58.out hg9)
      refine HK6.out _ _ hHeld9 ?_
      clear HK6 hl9 hg9
      try simp only [Act.put, List.setIfInBounds_toArray]
      refine wpHead_take (i := 7) (v := ?vvb7) rfl (by kernel_rfl) (fun _ _ _ h => h) (Or.inl ⟨by rfl, ?hyb7⟩) hHeld9 ?restb7
      case hyb7 => (rintro u ⟨hu0, ⟨ha0, ha1, ha2, ha3, ha4, ha5, ha6, ha7, ha8⟩, ⟨hb0, hb1, hb2, hb3, hb4, hb5, hb6, hb7, hb8⟩⟩; go_simp; try with_reducible rfl)
      simp only [Act.put, List.setIfInBounds_toArray]
      refine wpHead_last rfl (by kernel_rfl) (by kernel_rfl) (by rfl) ?_
      go_simp
      generalize hz : (formS p oa == formS p ob) = z at *
      clear hz hHeld hHeld7 hHeld8 hHeld9
      go_wp2_with fail
      exact bodyPost_ret (v := .tuple #[.bool z, .int .i64 0]) (by simp [results, Tryz.results47, go_sem]) rfl ⟨HG9.out, Or.inl ⟨H0.out, by rw [HE.out]⟩⟩
  · have H0 := hide h0
    have hne : (checkRunsN p [a, b] != 0) = true := by simpa using h0
    clear h0
    generalize hE : checkRunsN p [a, b] = e at *
    have HE := hide hE
    clear hE
    go_wp2_with fail
    exact bodyPost_ret (v := .tuple #[.bool false, .int .i64 e]) (by simp [results, Tryz.results47, go_sem]) rfl ⟨HG1.out, Or.inr ⟨by rw [HE.out]; exact H0.out, by rw [HE.out]⟩⟩

end Go.Proofs.YtklenjmfalljgaaGreatDoor

/- The walks of the reference's Form, and of its comparison of rows. -/
namespace Go.Proofs.YtklenjmfalljgaaGreatDoor
open Go.RowKit
attribute [local go_sem] Go.World.cell?_alloc_some

set_option maxHeartbeats 1000000 in
theorem refSameInts_m (l m : List Int) (v u : Value) (w : World) (hI : IntsAt w.heap.size w v l) (hJ : IntsAt w.heap.size w u m) (hln : l.length ≤ 9223372036854775806) :
    Calls Tryz.prog 79 #[v, u] w fun e w' => e = .returned (.bool (l == m)) ∧ Like w' w := by
  obtain ⟨ao, cap, rfl, hcap, hc⟩ := hI
  obtain ⟨bo, dap, rfl, hdap, hd⟩ := hJ
  by_cases hlen : l.length = m.length
  · have HC := hide hc
    have HD := hide hd
    clear hc hd
    have hl2 : (l.length : Int) = m.length := by omega
    have hl3 : ((l.length : Int) != (m.length : Int)) = false := by simp; omega
    have HLN := hide hlen
    go_enter Tryz.func79, Tryz.ntmps79
    clear hlen hl2
    go_wp2_with fail
    go_loopw [5] (fun i w' => ∃ k : Nat, k ≤ l.length ∧ i = .int .i64 k ∧ Hid (Like w' w) ∧ Hid (l.take k = m.take k)) (fun i _ => l.length - (intOf i).toNat)
    case atStart => exact ⟨0, Nat.zero_le _, rfl, hide (likeR _), by simp [Hid]⟩
    case round =>
      obtain ⟨k, hk, rfl, HK, HA⟩ := hrel
      obtain ⟨w5, hw5⟩ : ∃ w5, w5 = wr := ⟨_, rfl⟩
      subst hw5
      by_cases hlt : k < l.length
      · have hlt2 : k < m.length := by have := HLN.out; omega
        obtain ⟨g, o, rfl, _, c0⟩ := HC.out k hlt
        obtain ⟨g2, o2, rfl, _, c1⟩ := HD.out k hlt2
        have cL : ∀ a, w5.cell? a = w.cell? a := fun a => by simp [World.cell?, HK.out.1]
        have d0 : w5.cell? ⟨g, o + k, none⟩ = some (.int .i64 l[k]) := by rw [cL]; exact c0
        have d1 : w5.cell? ⟨g2, o2 + k, none⟩ = some (.int .i64 m[k]) := by rw [cL]; exact c1
        have hk0 : (0 : Int) ≤ (k : Int) := by omega
        have hk1 : (k : Int) < l.length := by omega
        have hk2 : (k : Int) < m.length := by omega
        have HT1 : Hid (l.take (k + 1) = l.take k ++ [l[k]]) := List.take_succ_eq_append_getElem hlt
        have HT2 : Hid (m.take (k + 1) = m.take k ++ [m[k]]) := List.take_succ_eq_append_getElem hlt2
        clear cL c0 c1
        by_cases heq : l[k] = m[k]
        · have hq : (l[k] != m[k]) = false := by simpa using heq
          have HA1 : Hid (l.take (k + 1) = m.take (k + 1)) := by unfold Hid; rw [HT1.out, HT2.out, HA.out, heq]
          clear heq HT1 HT2
          generalize l[k] = x at *
          generalize m[k] = y at *
          go_wp2_with fail
          go_quiet (fail)
          go_wp2_with fail
          go_roundw
          case rel => exact ⟨k + 1, by omega, by go_num, hide (likeDn HK.out _), HA1⟩
          case measure => simp [intOf]; omega
        · have hq : (l[k] != m[k]) = true := by simpa using heq
          have HE : Hid ((l == m) = false) := by
            unfold Hid
            simp only [beq_eq_false_iff_ne]
            intro e
            apply heq
            simp [e]
          clear heq HT1 HT2
          generalize l[k] = x at *
          generalize m[k] = y at *
          go_wp2_with fail
          go_quiet (fail)
          go_wp2_with fail
          go_ret
          exact ⟨by rw [HE.out]; rfl, likeDn HK.out _⟩
      · have HE : Hid ((l == m) = true) := by
          unfold Hid
          have h1 := HA.out
          rw [List.take_of_length_le (by omega), List.take_of_length_le (by have := HLN.out; omega)] at h1
          simpa using h1
        have q2 : (l.length : Int) ≤ (k : Int) := by omega
        go_wp2_with fail
        go_ret
        exact ⟨by rw [HE.out]; rfl, HK.out⟩
  · have HE : Hid ((l == m) = false) := by
      unfold Hid
      simp only [beq_eq_false_iff_ne]
      intro e; exact hlen (by rw [e])
    have hl3 : ((l.length : Int) != (m.length : Int)) = true := by simp; omega
    clear hc hd
    go_enter Tryz.func79, Tryz.ntmps79
    go_wp2_with fail
    go_ret
    exact ⟨by rw [HE.out]; rfl, likeR _⟩



theorem read_of {w w2 : World} {b ab rb : Nat} {p : List (List Ins)} {ao : Option Addr} {cap : Nat} {st : Value} {o : Out} {xs : List Ev} (h : RunAt w w2 b ab rb p.length (.slice ao p.length cap) st o.st o.steps o.kind o.thread o.at_) (hs : Stood p o xs) (hP : ProgAt w2 (.agg #[.slice ao p.length cap]) p) :
    ∃ sao sc, st = .slice sao xs.length sc ∧ RunRead w2 b p xs o ao cap sao sc := by
  obtain ⟨x1, x2, x3, rfl⟩ := owns_form h.row
  have hl : o.steps.length = xs.length := by rw [hs.st, List.length_map]
  have hr := h.row
  rw [hl] at hr
  have hx := owns_lenq hr
  subst hx
  exact ⟨x1, x3, rfl, hP, (h.cell 0).1, (h.cell 10).1, (h.cell 11).1, _, hr⟩

set_option maxHeartbeats 4000000 in
set_option maxRecDepth 100000 in
theorem refForm_m (p : List (List Ins)) (s : List Int) (pv sv : Value) (w : World) (hP : ProgAt w pv p) (hI : IntsAt w.heap.size w sv s) (hpl : p.length ≤ 1048576) (hpc : ∀ c ∈ p, c.length ≤ 1048576) :
    Calls Tryz.prog 22 #[pv, sv] w (Formd p s w) := by
  have HP := hide hP
  have HI := hide hI
  have HPC := hide hpc
  obtain ⟨ao, cap, rfl⟩ := hP.form
  obtain ⟨so, sc, rfl⟩ := hI.form
  clear hP hI hpc
  go_enter Tryz.func22, Tryz.ntmps22
  go_wp2_with fail
  have hg0 : ∀ a, w.grownBy (w.alloc a) none := fun a => grown_alloc (grown_refl _ _)
  refine (refcheck_m p _ _ (HP.out.pres (pres_grown (hg0 _))) hpl HPC.out).mono ?_
  rintro e w1 ⟨rfl, hg1⟩
  have HG1 : Hid (w.grownBy w1 none) := grown_trans (hg0 _) hg1
  have hb0 : w1.heap[w.heap.size]? = some (.cells #[.slice ao p.length cap] 24 (0, 0)) := by
    rw [hg1.block w.heap.size (by simp) (by simp)]; exact heap_alloc_new w _
  have c0 : w1.cell? ⟨w.heap.size, 0, none⟩ = some (.slice ao p.length cap) := by simp [World.cell?, hb0]
  clear hb0 hg1
  by_cases hv : vProg p = true
  · have e0 : checkN p = 0 := by simp [checkN, hv]
    have HV := hide hv
    rw [e0]
    clear e0 hv
    by_cases h5 : s.length ≤ 500
    · have h5' : (s.length : Int) ≤ 500 := by omega
      have H0 : Hid (checkRunN p s = 0) := by unfold Hid checkRunN; simp [HV.out, h5]
      go_wp2_with fail
      have HPl := hide (play_m w1 ao cap p _ s HV.out (HP.out.pres (pres_grown HG1.out)) ((HI.out.pres (pres_grown HG1.out)).mono HG1.out.size) h5)
      refine (unhide HPl).mono ?_
      clear HPl
      rintro e w2 ⟨b, ab, rb, st, rfl, hR⟩
      have HG2 : Hid (w.grownBy w2 none) := grown_trans HG1.out hR.frame
      obtain ⟨xs, hSt⟩ := stood_of HV.out s
      obtain ⟨sao, sc2, rfl, hRd⟩ := read_of hR hSt (HP.out.pres (pres_grown HG2.out))
      have hx5 : xs.length ≤ 500 := by
        have h1 := steps_le p s
        rw [hSt.st] at h1
        simp at h1
        omega
      have HF := hide (refform_m HV.out hSt hx5 w2 b ao cap sao sc2 hRd)
      have HEV : Hid (formS p (runS p s) = formE p xs) := by unfold Hid formS; rw [hSt.ev]
      clear hR hSt hRd c0
      go_wp2_with fail
      refine (unhide HF).mono ?_
      clear HF
      rintro e w3 ⟨v, rfl, ho3, hg3⟩
      have HO3 := hide ho3
      have HG3 := hide hg3
      clear ho3 hg3
      go_wp2_with fail
      exact bodyPost_ret (v := .tuple #[v, .int .i64 0]) (by simp [results, Tryz.results22, go_sem]) rfl ⟨grown_trans HG2.out HG3.out, Or.inl ⟨H0.out, v, rfl, by rw [HEV.out]; exact owns_mono HO3.out HG2.out.size⟩⟩
    · have h5' : (500 : Int) < s.length := by omega
      have H0 : Hid (checkRunN p s = 2) := by unfold Hid checkRunN; simp [HV.out, h5]
      go_wp2_with fail
      exact bodyPost_ret (v := .tuple #[.slice none 0 0, .int .i64 2]) (by simp [results, Tryz.results22, go_sem]) rfl ⟨HG1.out, Or.inr ⟨by rw [H0.out]; decide, by rw [H0.out]⟩⟩
  · have e0 : checkN p = 1 := by simp [checkN, hv]
    have H0 : Hid (checkRunN p s = 1) := by unfold Hid checkRunN; simp [hv]
    rw [e0]
    clear e0 hv
    go_wp2_with fail
    exact bodyPost_ret (v := .tuple #[.slice none 0 0, .int .i64 1]) (by simp [results, Tryz.results22, go_sem]) rfl ⟨HG1.out, Or.inr ⟨by rw [H0.out]; decide, by rw [H0.out]⟩⟩

end Go.Proofs.YtklenjmfalljgaaGreatDoor

/- The walk of the reference's Same. -/
namespace Go.Proofs.YtklenjmfalljgaaGreatDoor
open Go.RowKit
attribute [local go_sem] Go.World.cell?_alloc_some

theorem wrong_thread (p : List (List Ins)) (s : List Int) (h : (runS p s).kind = 2) : (runS p s).thread = 0 := by
  have hc := follow_cases p s 0 St.zero []
  change ∃ xs s', RunE p St.zero xs s' ∧ (runS p s).steps = [] ++ xs.map Ev.pr ∧ (runS p s).st = s' ∧ ((good xs ∧ xs.map Ev.tI = s ∧ (runS p s).kind = endingS p s' ∧ (runS p s).thread = 0 ∧ (runS p s).at_ = 0) ∨ (good xs ∧ (∃ u r, s = xs.map Ev.tI ++ u :: r ∧ okAt p s' u = false) ∧ (runS p s).kind = 2 ∧ (runS p s).thread = 0 ∧ (runS p s).at_ = 0 + xs.length) ∨ (∃ ys z r, xs = ys ++ [z] ∧ good ys ∧ z.bad = true ∧ s = xs.map Ev.tI ++ r ∧ (runS p s).kind = 1 ∧ (runS p s).thread = z.tI ∧ (runS p s).at_ = z.k)) at hc
  obtain ⟨xs, s', _, _, _, hc⟩ := hc
  rcases hc with ⟨_, _, _, g4, _⟩ | ⟨_, _, _, g4, _⟩ | ⟨us, z, r, _, _, _, _, g5, _⟩
  · exact g4
  · exact g4
  · omega
theorem like_three {a b : Out} (ha : a.kind = 2 → a.thread = 0) (hb : b.kind = 2 → b.thread = 0) : likeV a b = (a.kind == b.kind && a.thread == b.thread && (a.kind == 2 || a.at_ == b.at_)) := by
  unfold likeV
  by_cases h : a.kind = 2
  · rw [if_pos h]
    by_cases h2 : b.kind = 2
    · simp [h, h2, ha h, hb h2]
    · have h3 : ¬ (2 : Int) = b.kind := fun e => h2 e.symm
      have h4 : (b.kind == 2) = false := by simpa using h2
      have h5 : ((2 : Int) == b.kind) = false := by simpa using h3
      rw [h4, h, h5]; simp
  · have hb : (a.kind == 2) = false := by simpa using h
    rw [if_neg h, hb]; simp

set_option maxHeartbeats 4000000 in
set_option maxRecDepth 100000 in
theorem refSame_m (p : List (List Ins)) (a b : List Int) (pv av bv : Value) (w : World) (hP : ProgAt w pv p) (hI : IntsAt w.heap.size w av a) (hJ : IntsAt w.heap.size w bv b) (hpl : p.length ≤ 1048576) (hpc : ∀ c ∈ p, c.length ≤ 1048576) :
    Calls Tryz.prog 48 #[pv, av, bv] w (Samed p a b w) := by
  have HP := hide hP
  have HI := hide hI
  have HJ := hide hJ
  have HPC := hide hpc
  obtain ⟨ao, cap, rfl⟩ := hP.form
  obtain ⟨so, sc, rfl⟩ := hI.form
  obtain ⟨sp, sd, rfl⟩ := hJ.form
  clear hP hI hJ hpc
  go_enter Tryz.func48, Tryz.ntmps48
  go_wp2_with fail
  have hg0 : ∀ a, w.grownBy (w.alloc a) none := fun a => grown_alloc (grown_refl _ _)
  refine (refcheck_m p _ _ (HP.out.pres (pres_grown (hg0 _))) hpl HPC.out).mono ?_
  rintro e w1 ⟨rfl, hg1⟩
  have HG1 : Hid (w.grownBy w1 none) := grown_trans (hg0 _) hg1
  have hb0 : w1.heap[w.heap.size]? = some (.cells #[.slice ao p.length cap] 24 (0, 0)) := by
    rw [hg1.block w.heap.size (by simp) (by simp)]; exact heap_alloc_new w _
  have c0 : w1.cell? ⟨w.heap.size, 0, none⟩ = some (.slice ao p.length cap) := by simp [World.cell?, hb0]
  clear hb0 hg1
  by_cases hv : vProg p = true
  · have e0 : checkN p = 0 := by simp [checkN, hv]
    have HV := hide hv
    rw [e0]
    clear e0 hv
    by_cases h5 : a.length ≤ 500
    · have h5' : (a.length : Int) ≤ 500 := by omega
      by_cases h6 : b.length ≤ 500
      · have h6' : (b.length : Int) ≤ 500 := by omega
        have H0 : Hid (checkRunsN p [a, b] = 0) := by unfold Hid checkRunsN; simp [HV.out, h5, h6]
        have HPl := hide (play_m w1 ao cap p (.slice so a.length sc) a HV.out (HP.out.pres (pres_grown HG1.out)) ((HI.out.pres (pres_grown HG1.out)).mono HG1.out.size) h5)
        go_wp2_with fail
        refine (unhide HPl).mono ?_
        clear HPl
        rintro e w2 ⟨b1, ab1, rb1, st1, rfl, hR1⟩
        have HG12 := hide hR1.frame
        have HG2 : Hid (w.grownBy w2 none) := grown_trans HG1.out hR1.frame
        obtain ⟨xs, hSt1⟩ := stood_of HV.out a
        obtain ⟨sao1, sc1, rfl, hRd1⟩ := read_of hR1 hSt1 (HP.out.pres (pres_grown HG2.out))
        have hx1 : xs.length ≤ 500 := by
          have h1 := steps_le p a
          rw [hSt1.st] at h1
          simp at h1
          omega
        obtain ⟨_, d1, d2, d3, _, _, _⟩ := hR1.vcells
        have c2 := pres_grown HG12.out _ _ c0
        have HF1 := hide (fun (u : World) (hu : w2.grownBy u none) => refform_m HV.out hSt1 hx1 u b1 ao cap sao1 sc1 (hRd1.grown hu))
        have HEV1 : Hid (formS p (runS p a) = formE p xs) := by unfold Hid formS; rw [hSt1.ev]
        clear hR1 hSt1 hRd1 c0
        have HPl := hide (play_m w2 ao cap p (.slice sp b.length sd) b HV.out (HP.out.pres (pres_grown HG2.out)) ((HJ.out.pres (pres_grown HG2.out)).mono HG2.out.size) h6)
        go_wp2_with fail
        refine (unhide HPl).mono ?_
        clear HPl
        rintro e w3 ⟨b2, ab2, rb2, st2, rfl, hR2⟩
        have HG23 := hide hR2.frame
        have HG3 : Hid (w.grownBy w3 none) := grown_trans HG2.out hR2.frame
        obtain ⟨ys, hSt2⟩ := stood_of HV.out b
        obtain ⟨sao2, sc2, rfl, hRd2⟩ := read_of hR2 hSt2 (HP.out.pres (pres_grown HG3.out))
        have hx2 : ys.length ≤ 500 := by
          have h1 := steps_le p b
          rw [hSt2.st] at h1
          simp at h1
          omega
        obtain ⟨_, f1, f2, f3, _, _, _⟩ := hR2.vcells
        have k1 := pres_grown HG23.out _ _ d1
        have k2 := pres_grown HG23.out _ _ d2
        have k3 := pres_grown HG23.out _ _ d3
        have hl1 : b1 < w3.heap.size := World.block_lt_of_cell? w3 _ k1
        have hl2 : b2 < w3.heap.size := World.block_lt_of_cell? w3 _ f1
        have HF2 := hide (fun (u : World) (hu : w3.grownBy u none) => refform_m HV.out hSt2 hx2 u b2 ao cap sao2 sc2 (hRd2.grown hu))
        have HEV2 : Hid (formS p (runS p b) = formE p ys) := by unfold Hid formS; rw [hSt2.ev]
        have HLK := hide (like_three (wrong_thread p a) (wrong_thread p b))
        have HSM : Hid (sameS p a b = (likeV (runS p a) (runS p b) && (formS p (runS p a) == formS p (runS p b)))) := rfl
        rw [HLK.out, HEV1.out, HEV2.out] at HSM
        clear hR2 hSt2 hRd2 c2 d1 d2 d3 HLK HEV1 HEV2
        have hfl1 := formE_length p xs
        have HFL : Hid ((formE p xs).length ≤ 500) := by unfold Hid; omega
        clear hfl1
        generalize (runS p a).kind = ka at *
        generalize (runS p a).thread = ta at *
        generalize (runS p a).at_ = aa at *
        generalize (runS p b).kind = kb at *
        generalize (runS p b).thread = tb at *
        generalize (runS p b).at_ = ab at *
        go_upto_region 10 with fail
        obtain ⟨w5, hw5⟩ : ∃ w5, w5 = (w3.alloc (.cells #[.int .i64 ka, .int .i64 ta, .int .i64 aa] 27)).alloc (.cells #[.int .i64 kb, .int .i64 tb, .int .i64 ab] 27) := ⟨_, rfl⟩
        have HG35 : Hid (w3.grownBy w5 none) := by unfold Hid; rw [hw5]; exact grown_alloc (grown_alloc (grown_refl _ _))
        have z1 : w5.heap[w3.heap.size]? = some (.cells #[.int .i64 ka, .int .i64 ta, .int .i64 aa] 27 (0, 0)) := by
          rw [hw5, Below.heap_alloc _ _ _ (by simp)]; exact heap_alloc_new _ _
        have z2 : w5.heap[w3.heap.size + 1]? = some (.cells #[.int .i64 kb, .int .i64 tb, .int .i64 ab] 27 (0, 0)) := by
          have := heap_alloc_new (w3.alloc (.cells #[.int .i64 ka, .int .i64 ta, .int .i64 aa] 27)) (.cells #[.int .i64 kb, .int .i64 tb, .int .i64 ab] 27)
          rw [hw5]; simpa using this
        rw [← hw5]
        clear hw5 k1 k2 k3 f1 f2 f3
        have m0 : w5.cell? ⟨w3.heap.size, 0, none⟩ = some (.int .i64 ka) := by simp [World.cell?, z1]
        have m1 : w5.cell? ⟨w3.heap.size, 1, none⟩ = some (.int .i64 ta) := by simp [World.cell?, z1]
        have m2 : w5.cell? ⟨w3.heap.size, 2, none⟩ = some (.int .i64 aa) := by simp [World.cell?, z1]
        have n0 : w5.cell? ⟨w3.heap.size + 1, 0, none⟩ = some (.int .i64 kb) := by simp [World.cell?, z2]
        have n1 : w5.cell? ⟨w3.heap.size + 1, 1, none⟩ = some (.int .i64 tb) := by simp [World.cell?, z2]
        have n2 : w5.cell? ⟨w3.heap.size + 1, 2, none⟩ = some (.int .i64 ab) := by simp [World.cell?, z2]
        clear z1 z2
        obtain ⟨LK, hLK⟩ : ∃ LK, LK = (ka == kb && ta == tb && (ka == 2 || aa == ab)) := ⟨_, rfl⟩
        rw [← hLK] at HSM
        have HQK := hide hLK
        clear hLK
        go_cut [65] (fun q w' => q = .bool (!LK) ∧ w' = w5)
        case first =>
          by_cases e1 : ka = kb
          · subst e1
            by_cases e2 : ta = tb
            · subst e2
              by_cases e3 : ka = 2
              · have e3' : (ka != 2) = false := by simpa using e3
                have hL : LK = true := by rw [HQK.out]; simp [e3]
                have HL := hide hL
                subst e3
                clear hL
                go_wp2_with fail
                go_meet
                exact ⟨by rw [HL.out]; rfl, rfl⟩
              · have e3' : (ka != 2) = true := by simpa using e3
                by_cases e4 : aa = ab
                · subst e4
                  have hL : LK = true := by rw [HQK.out]; simp
                  have HL := hide hL
                  clear hL e3
                  go_wp2_with fail
                  go_meet
                  exact ⟨by rw [HL.out]; rfl, rfl⟩
                · have e4' : (aa != ab) = true := by simpa using e4
                  have hL : LK = false := by rw [HQK.out]; simp [e3, e4]
                  have HL := hide hL
                  clear hL e3 e4
                  go_wp2_with fail
                  go_meet
                  exact ⟨by rw [HL.out]; rfl, rfl⟩
            · have e2' : (ta != tb) = true := by simpa using e2
              have hL : LK = false := by rw [HQK.out]; simp [e2]
              have HL := hide hL
              clear hL e2
              go_wp2_with fail
              go_meet
              exact ⟨by rw [HL.out]; rfl, rfl⟩
          · have e1' : (ka != kb) = true := by simpa using e1
            have hL : LK = false := by rw [HQK.out]; simp [e1]
            have HL := hide hL
            clear hL e1
            go_wp2_with fail
            go_meet
            exact ⟨by rw [HL.out]; rfl, rfl⟩
        case rest =>
        obtain ⟨rfl, hwc⟩ := hcut
        have hwc2 := hwc.symm
        subst hwc2
        clear m0 m1 m2 n0 n1 n2
        have HG5 : Hid (w.grownBy w5 none) := grown_trans HG3.out HG35.out
        cases LK with
        | false =>
          have HE : Hid (sameS p a b = false) := by unfold Hid; rw [HSM.out]; rfl
          go_wp2_with fail
          exact bodyPost_ret (v := .tuple #[.bool false, .int .i64 0]) (by simp [results, Tryz.results48, go_sem]) rfl ⟨HG5.out, Or.inl ⟨H0.out, by rw [HE.out]⟩⟩
        | true =>
          have HE : Hid (sameS p a b = (formE p xs == formE p ys)) := by unfold Hid; rw [HSM.out]; rfl
          clear HSM HQK
          have HFa := hide (HF1.out w5 (grown_trans HG23.out HG35.out))
          clear HF1
          go_wp2_with fail
          refine (unhide HFa).mono ?_
          clear HFa
          rintro e w6 ⟨v6, rfl, ho6, hg6⟩
          have HO6 := hide ho6
          have HG56 := hide hg6
          clear ho6 hg6
          have HFb := hide (HF2.out w6 (grown_trans HG35.out HG56.out))
          clear HF2
          go_wp2_with fail
          refine (unhide HFb).mono ?_
          clear HFb
          rintro e w7 ⟨v7, rfl, ho7, hg7⟩
          have HO7 := hide ho7
          have HG67 := hide hg7
          clear ho7 hg7
          have HSI := hide (refSameInts_m (formE p xs) (formE p ys) v6 v7 w7 (((owns_ints HO6.out).pres (pres_grown HG67.out)).mono HG67.out.size) (owns_ints HO7.out) (by have := HFL.out; omega))
          go_wp2_with fail
          refine (unhide HSI).mono ?_
          clear HSI
          rintro e w8 ⟨rfl, hl8⟩
          have HG78 : Hid (w7.grownBy w8 none) := grown_of_like hl8
          clear hl8
          go_wp2_with fail
          exact bodyPost_ret (v := .tuple #[.bool (formE p xs == formE p ys), .int .i64 0]) (by simp [results, Tryz.results48, go_sem]) rfl ⟨grown_trans HG5.out (grown_trans HG56.out (grown_trans HG67.out HG78.out)), Or.inl ⟨H0.out, by rw [HE.out]⟩⟩
      · have h6' : (500 : Int) < b.length := by omega
        have H0 : Hid (checkRunsN p [a, b] = 2) := by unfold Hid checkRunsN; simp [HV.out, h6]
        go_wp2_with fail
        exact bodyPost_ret (v := .tuple #[.bool false, .int .i64 2]) (by simp [results, Tryz.results48, go_sem]) rfl ⟨HG1.out, Or.inr ⟨by rw [H0.out]; decide, by rw [H0.out]⟩⟩
    · have h5' : (500 : Int) < a.length := by omega
      have H0 : Hid (checkRunsN p [a, b] = 2) := by unfold Hid checkRunsN; simp [HV.out, h5]
      go_wp2_with fail
      exact bodyPost_ret (v := .tuple #[.bool false, .int .i64 2]) (by simp [results, Tryz.results48, go_sem]) rfl ⟨HG1.out, Or.inr ⟨by rw [H0.out]; decide, by rw [H0.out]⟩⟩
  · have e0 : checkN p = 1 := by simp [checkN, hv]
    have H0 : Hid (checkRunsN p [a, b] = 1) := by unfold Hid checkRunsN; simp [hv]
    rw [e0]
    clear e0 hv
    go_wp2_with fail
    exact bodyPost_ret (v := .tuple #[.bool false, .int .i64 1]) (by simp [results, Tryz.results48, go_sem]) rfl ⟨HG1.out, Or.inr ⟨by rw [H0.out]; decide, by rw [H0.out]⟩⟩

end Go.Proofs.YtklenjmfalljgaaGreatDoor

/- The walk of the hands' formed. -/
namespace Go.Proofs.YtklenjmfalljgaaGreatDoor
open Go.RowKit
attribute [local go_sem] Go.World.cell?_alloc_some

/-- The list that Form answers. -/
def formOut (p : List (List Ins)) (s : List Int) : List Int := if checkRunN p s = 0 then formS p (runS p s) else []
theorem Formd.form {p : List (List Ins)} {s : List Int} {w w' : World} {e : Ending} (h : Formd p s w e w') :
    w.grownBy w' none ∧ ∃ v, e = .returned (.tuple #[v, .int .i64 (checkRunN p s)]) ∧ w'.ownsRow w.heap.size 3 1 v (formOut p s).length (ints (formOut p s)) := by
  obtain ⟨hg, h⟩ := h
  rcases h with ⟨h0, v, he, ho⟩ | ⟨h0, he⟩
  · exact ⟨hg, v, by rw [h0]; exact he, by unfold formOut; rw [if_pos h0]; exact ho⟩
  · exact ⟨hg, _, he, by unfold formOut; rw [if_neg h0]; exact ⟨rfl, Or.inl ⟨rfl, rfl⟩⟩⟩
theorem formOut_le (p : List (List Ins)) (s : List Int) : (formOut p s).length ≤ 500 := by
  unfold formOut
  by_cases h : checkRunN p s = 0
  · rw [if_pos h]
    have hv : vProg p = true ∧ s.length ≤ 500 := by
      unfold checkRunN at h
      by_cases hv : vProg p = true
      · by_cases h5 : s.length ≤ 500
        · exact ⟨hv, h5⟩
        · simp [hv, h5] at h
      · simp [hv] at h
    obtain ⟨xs, hSt⟩ := stood_of hv.1 s
    unfold formS
    rw [formE_length, hSt.ev]
    have h1 := steps_le p s
    rw [hSt.st] at h1
    simp at h1
    omega
  · rw [if_neg h]; simp
set_option maxHeartbeats 4000000 in
set_option maxRecDepth 100000 in
theorem formed_g (W : World) (B : Nat) (w : World) (b : Nat) (who : Nat → Role) (n : Int) (f : Nat → Value) (K : Nat → List (Value × Int)) (pv sv : Value) (p : List (List Ins)) (s : List Int)
    (h : Hz B w b who n f K) (hW : W.grownBy w none) (hWB : W.heap.size ≤ B) (hS : ShpAt W) (hP : ProgAt W pv p) (hI : IntsAt W.heap.size W sv s) (hpl : p.length ≤ 1048576) (hpc : ∀ c ∈ p, c.length ≤ 1048576) (hsl : s.length ≤ 1048576) (hn0 : 0 ≤ n) (hn1 : n ≤ 1000) (hK : ∀ c, c < 5 → (K c).length ≤ 1000) :
    Calls Tryz.prog 20 #[pt b, pv, sv] w (HzG W B b (n + 1) K) := by
  have HH := hide h
  have HW := hide hW
  have HS := hide hS
  have HP := hide hP
  have HI := hide hI
  have HPC := hide hpc
  have HK := hide hK
  obtain ⟨ao, cap, rfl⟩ := hP.form
  obtain ⟨so, sc, rfl⟩ := hI.form
  have hpt : pt b = .pointer (some ⟨b, 0, none⟩) := rfl
  have HPG := hide (program_g W B (w.alloc (.cells #[.slice ao p.length cap] 24)) b who n f K [] [] [] (.agg #[.slice ao p.length cap]) p (h.lx.grown (grown_alloc (grown_refl _ _))) (grown_alloc hW) hWB hP hpl hpc (by simp) (by simp))
  clear h hW hS hP hI hpc hK
  rw [hpt] at HPG ⊢
  go_enter Tryz.func20, Tryz.ntmps20
  go_wp2_with fail
  refine HPG.out.mono ?_
  clear HPG
  rintro e w1 ⟨g, LC1, who1, f1, rfl, hx1, hlc, hf1, hb1⟩
  have hwo : who w.heap.size = .other := by
    by_cases e : who w.heap.size = .other
    · exact e
    · exact absurd (HH.out.1.1.dom _ e).2 (by omega)
  obtain ⟨hbx, hwx⟩ := hf1.oth w.heap.size (by simp) hwo (fun e => e)
  have HW1 : Hid (W.grownBy w1 none) := hf1.base (grown_alloc HW.out) hWB (fun g e => (HH.out.1.1.dom g e).1) (fun _ e => e.elim)
  have c1 : w1.cell? ⟨w.heap.size, 0, none⟩ = some (.slice ao p.length cap) := by
    simp only [World.cell?, hbx, heap_alloc_new]; rfl
  have hlt1 : w.heap.size < w1.heap.size := World.block_lt_of_cell? w1 _ c1
  have hll : LC1.length = p.length := by rw [← hlc]; simp
  simp only [List.nil_append] at hx1
  have HSG := hide (schedule_g B w1 b who1 n f1 K [] LC1 [(g, p.length)] 0 (.slice so s.length sc) s hx1 ((HI.out.pres (pres_grown HW1.out)).mono HW1.out.size) (val_other hx1.hs hWB HI.out) hsl (by simp))
  have HX1 := hide hx1
  have HLC := hide hlc
  have HWX := hide hwx
  have HLL := hide hll
  have HC1 := hide c1
  clear hx1 hlc hf1 hb1 hbx hwo hwx hll c1
  rw [hpt] at HSG
  go_wp2_with fail
  refine HSG.out.mono ?_
  clear HSG
  rintro e w2 ⟨gs, who2, f2, rfl, hx2, hf2⟩
  simp only [List.nil_append] at hx2
  have HW2 : Hid (W.grownBy w2 none) := hf2.base HW1.out hWB (fun g e => (HX1.out.hs.1.dom g e).1) (fun _ e => e.elim)
  obtain ⟨hbx, hwx⟩ := hf2.oth w.heap.size hlt1 HWX.out (fun e => e)
  have HWX2 := hide hwx
  have HC2 : Hid (w2.cell? ⟨w.heap.size, 0, none⟩ = some (.slice ao p.length cap)) := by
    unfold Hid; rw [World.cell?_of_block hbx]; exact HC1.out
  have hlt2 : w.heap.size < w2.heap.size := World.block_lt_of_cell? w2 _ HC2.out
  have hgb : w2.heap[g]? = some (.cells (lentRows LC1) 75 (0, 0)) := by
    have := (hx2.le.lr 0 (by simp)).1
    simp only [List.getElem_cons_zero, List.take_zero, List.map_nil, List.sum_nil, List.drop_zero] at this
    rw [List.take_of_length_le (by rw [HLL.out]; omega)] at this
    exact this
  have hPx : ProgAt w2 (.agg #[.slice (some ⟨g, 0, none⟩) p.length (p.length + 2)]) p := lent_prog (LC0 := []) (by simpa using hx2.le) hgb HLC.out _
  have hIx : IntsAt w2.heap.size w2 (.slice (some ⟨gs, 0, none⟩) s.length (s.length + 2)) s := lent_ints (hx2.le.li (gs, s, .slice so s.length sc) (by simp)).1
  have HFM := hide (form_m p s _ _ w2 (HS.out.pres (pres_grown HW2.out)) hPx hIx)
  have HX2 := hide hx2
  clear hx2 hf2 hbx hwx hgb hPx hIx HX1 HC1 HWX hlt1
  go_wp2_with fail
  refine HFM.out.mono ?_
  clear HFM
  intro e w3 hF
  obtain ⟨hg3, v, he, ho3⟩ := hF.form
  clear hF
  subst he
  obtain ⟨x1, x2, x3, rfl⟩ := owns_form ho3
  have HO3 := hide ho3
  have HG23 := hide hg3
  have HW3 : Hid (W.grownBy w3 none) := grown_trans HW2.out hg3
  have HBK := hide (back_g B w3 b who2 n f2 K _ _ _ (HX2.out.grown hg3) (by simp) (by rw [HLL.out]; omega) (by simp))
  clear ho3 hg3
  rw [hpt] at HBK
  generalize hcr : checkRunN p s = cr at *
  have HCR := hide hcr
  clear hcr
  go_wp2_with fail
  refine HBK.out.mono ?_
  clear HBK
  rintro e w4 ⟨rfl, f4, hz4, hf4⟩
  have HW4 : Hid (W.grownBy w4 none) := hf4.base HW3.out hWB (fun g e => (HX2.out.hs.1.dom g e).1) (fun _ e => e.elim)
  have hbo : ∀ q, (Value.slice x1 x2 x3).ownBlock = some q → w2.heap.size ≤ q ∧ q < w3.heap.size ∧ who2 q = .other := fun q e => by
    have h1 := owns_block HO3.out q e
    refine ⟨h1, owns_ltH HO3.out q e, ?_⟩
    by_cases ho : who2 q = .other
    · exact ho
    · exact absurd (HX2.out.hs.1.dom q ho).2 (by omega)
  have HBO := hide hbo
  have HO4 : Hid (w4.ownsRow w2.heap.size 3 1 (.slice x1 x2 x3) (formOut p s).length (ints (formOut p s))) := owns_same HO3.out (fun q e => (hf4.oth q (hbo q e).2.1 (hbo q e).2.2 (fun e => e)).1)
  have c4 : w4.cell? ⟨w.heap.size, 0, none⟩ = some (.slice ao p.length cap) := by
    rw [World.cell?_of_block (hf4.oth w.heap.size (by have := HG23.out.size; omega) HWX2.out (fun e => e)).1]
    exact pres_grown HG23.out _ _ HC2.out
  have HZ4 := hide hz4
  have HRF := hide (refForm_m p s _ _ w4 (HP.out.pres (pres_grown HW4.out)) ((HI.out.pres (pres_grown HW4.out)).mono HW4.out.size) hpl HPC.out)
  have HD2 : Hid (B ≤ w2.heap.size) := by
    have := HX2.out.low
    unfold Hid; omega
  clear hz4 hf4 hbo HO3 HX2 HC2
  go_wp2_with fail
  refine HRF.out.mono ?_
  clear HRF
  intro e w5 hF
  obtain ⟨hg5, v', he, ho5⟩ := hF.form
  clear hF
  subst he
  rw [HCR.out]
  obtain ⟨y1, y2, y3, rfl⟩ := owns_form ho5
  have HG45 := hide hg5
  have HO5 : Hid (w5.ownsRow w2.heap.size 3 1 (.slice x1 x2 x3) (formOut p s).length (ints (formOut p s))) := owns_grown HO4.out hg5 (fun _ e => by cases e)
  have HSM := hide (same_m (formOut p s) (formOut p s) _ _ w5 (owns_ints HO5.out) (owns_ints ho5) (by have := formOut_le p s; omega))
  rw [show (formOut p s == formOut p s) = true by simp] at HSM
  clear hg5 ho5 HO4 c4
  go_wp2_with fail
  refine HSM.out.mono ?_
  clear HSM
  rintro e w6 ⟨rfl, hl6⟩
  have HG56 : Hid (w5.grownBy w6 none) := grown_of_like hl6
  have HG46 : Hid (w4.grownBy w6 none) := grown_trans HG45.out HG56.out
  have HO6 : Hid (w6.ownsRow B 3 1 (.slice x1 x2 x3) (formOut p s).length (ints (formOut p s))) := owns_mono (owns_grown HO5.out HG56.out (fun _ e => by cases e)) HD2.out
  have HKI := hide (keepInts_g B w6 b who2 n f4 K (.slice x1 x2 x3) (formOut p s).length _ (HZ4.out.1.grown HG46.out) HO6.out (fun q e => (HBO.out q e).2.2) hn0 (by omega) (by have := HK.out 0 (by omega); omega) (by have := formOut_le p s; omega))
  clear hl6 HO5 HO6
  rw [hpt] at HKI
  go_wp2_with fail
  refine HKI.out.mono ?_
  clear HKI
  rintro e w7 ⟨⟨rv, rfl⟩, who7, f7, K7, hH7, hA7⟩
  have HW6 : Hid (W.grownBy w6 none) := grown_trans HW4.out HG46.out
  have HW7 : Hid (W.grownBy w7 none) := hA7.fr.base HW6.out hWB (fun g e => (HZ4.out.1.1.dom g e).1) (fun q e => by have := (HBO.out q e).1; have := HW2.out.size; omega)
  have HZ7 : Hid (Hz B w7 b who7 (n + 1) f7 K7) := ⟨hH7, fun k hk => by rw [hA7.lent k hk]; exact HZ4.out.2 k hk⟩
  have HK7 : Hid (∀ c, c < 5 → (K7 c).length ≤ (K c).length + 4) := fun c hc => by
    by_cases e : c = 0
    · subst e; have := hA7.len; omega
    · rw [hA7.oth c e]; omega
  have HHO := hide (holds_g B w7 b who7 (n + 1) f7 K7 hH7 (fun c hc => by have := HK7.out c hc; have := HK.out c hc; omega))
  clear hH7 hA7
  rw [hpt] at HHO
  go_wp2_with fail
  refine HHO.out.mono ?_
  clear HHO
  rintro e w8 ⟨rfl, hl8⟩
  have HG78 : Hid (w7.grownBy w8 none) := grown_of_like hl8
  clear hl8
  go_wp2_with (go_at_call 31; refine (num_mR _ _).mono ?_; rintro e w9 ⟨rfl, hw9⟩; have hw9' := hw9.symm; subst hw9')
  go_ret
  exact ⟨by simp, who7, f7, K7, ⟨HZ7.out.1.grown HG78.out, HZ7.out.2⟩, grown_trans HW7.out HG78.out, HK7.out⟩

end Go.Proofs.YtklenjmfalljgaaGreatDoor

/- The walk of the hands' compared. -/
namespace Go.Proofs.YtklenjmfalljgaaGreatDoor
open Go.RowKit
attribute [local go_sem] Go.World.cell?_alloc_some

def sameOut (p : List (List Ins)) (a b : List Int) : Bool := if checkRunsN p [a, b] = 0 then sameS p a b else false
theorem Samed.form {p : List (List Ins)} {a b : List Int} {w w' : World} {e : Ending} (h : Samed p a b w e w') :
    w.grownBy w' none ∧ e = .returned (.tuple #[.bool (sameOut p a b), .int .i64 (checkRunsN p [a, b])]) := by
  obtain ⟨hg, h⟩ := h
  rcases h with ⟨h0, he⟩ | ⟨h0, he⟩
  · exact ⟨hg, by unfold sameOut; rw [if_pos h0, h0]; exact he⟩
  · exact ⟨hg, by unfold sameOut; rw [if_neg h0]; exact he⟩

set_option maxHeartbeats 4000000 in
set_option maxRecDepth 100000 in
theorem compared_g (W : World) (B : Nat) (w : World) (b : Nat) (who : Nat → Role) (n : Int) (f : Nat → Value) (K : Nat → List (Value × Int)) (pv sv tv : Value) (p : List (List Ins)) (s t : List Int)
    (h : Hz B w b who n f K) (hW : W.grownBy w none) (hWB : W.heap.size ≤ B) (hS : ShpAt W) (hP : ProgAt W pv p) (hI : IntsAt W.heap.size W sv s) (hJ : IntsAt w.heap.size w tv t) (hJv : valOther who tv) (hpl : p.length ≤ 1048576) (hpc : ∀ c ∈ p, c.length ≤ 1048576) (hsl : s.length ≤ 1048576) (htl : t.length ≤ 1048576) :
    Calls Tryz.prog 21 #[pt b, pv, sv, tv] w (HzG W B b n K) := by
  have HH := hide h
  have HW := hide hW
  have HS := hide hS
  have HP := hide hP
  have HI := hide hI
  have HJ := hide (And.intro hJ hJv)
  have HPC := hide hpc
  obtain ⟨ao, cap, rfl⟩ := hP.form
  obtain ⟨so, sc, rfl⟩ := hI.form
  obtain ⟨ta, tc, rfl⟩ := hJ.form
  have hpt : pt b = .pointer (some ⟨b, 0, none⟩) := rfl
  have HPG := hide (program_g W B (w.alloc (.cells #[.slice ao p.length cap] 24)) b who n f K [] [] [] (.agg #[.slice ao p.length cap]) p (h.lx.grown (grown_alloc (grown_refl _ _))) (grown_alloc hW) hWB hP hpl hpc (by simp) (by simp))
  clear h hW hS hP hI hJ hJv hpc
  rw [hpt] at HPG ⊢
  go_enter Tryz.func21, Tryz.ntmps21
  go_wp2_with fail
  refine HPG.out.mono ?_
  clear HPG
  rintro e w1 ⟨g, LC1, who1, f1, rfl, hx1, hlc, hf1, hb1⟩
  have hwo : who w.heap.size = .other := by
    by_cases e : who w.heap.size = .other
    · exact e
    · exact absurd (HH.out.1.1.dom _ e).2 (by omega)
  obtain ⟨hbx, hwx⟩ := hf1.oth w.heap.size (by simp) hwo (fun e => e)
  have HW1 : Hid (W.grownBy w1 none) := hf1.base (grown_alloc HW.out) hWB (fun g e => (HH.out.1.1.dom g e).1) (fun _ e => e.elim)
  have c1 : w1.cell? ⟨w.heap.size, 0, none⟩ = some (.slice ao p.length cap) := by
    simp only [World.cell?, hbx, heap_alloc_new]; rfl
  have hlt1 : w.heap.size < w1.heap.size := World.block_lt_of_cell? w1 _ c1
  have hll : LC1.length = p.length := by rw [← hlc]; simp
  simp only [List.nil_append] at hx1
  have HSG := hide (schedule_g B w1 b who1 n f1 K [] LC1 [(g, p.length)] 0 (.slice so s.length sc) s hx1 ((HI.out.pres (pres_grown HW1.out)).mono HW1.out.size) (val_other hx1.hs hWB HI.out) hsl (by simp))
  have HJ1 := hide (int_keeps HJ.out.1 HJ.out.2 ((Fr.grown (grown_alloc (grown_refl _ _))).trans hf1))
  have HX1 := hide hx1
  have HLC := hide hlc
  have HWX := hide hwx
  have HLL := hide hll
  have HC1 := hide c1
  clear hx1 hlc hf1 hb1 hbx hwo hwx hll c1
  rw [hpt] at HSG
  go_wp2_with fail
  refine HSG.out.mono ?_
  clear HSG
  rintro e w2 ⟨gs, who2, f2, rfl, hx2, hf2⟩
  simp only [List.nil_append] at hx2
  have HW2 : Hid (W.grownBy w2 none) := hf2.base HW1.out hWB (fun g e => (HX1.out.hs.1.dom g e).1) (fun _ e => e.elim)
  obtain ⟨hbx, hwx⟩ := hf2.oth w.heap.size hlt1 HWX.out (fun e => e)
  have HWX2 := hide hwx
  have HC2 : Hid (w2.cell? ⟨w.heap.size, 0, none⟩ = some (.slice ao p.length cap)) := by
    unfold Hid; rw [World.cell?_of_block hbx]; exact HC1.out
  have hlt2 : w.heap.size < w2.heap.size := World.block_lt_of_cell? w2 _ HC2.out
  have HJ2 := hide (int_keeps HJ1.out.1 HJ1.out.2 hf2)
  have HSG := hide (schedule_g B w2 b who2 n f2 K [(gs, s, .slice so s.length sc)] LC1 [(g, p.length)] 0 (.slice ta t.length tc) t hx2 HJ2.out.1 HJ2.out.2 htl (by simp))
  have HX2 := hide hx2
  clear hx2 hf2 hbx hwx HX1 HC1 HWX hlt1
  rw [hpt] at HSG
  go_wp2_with fail
  refine HSG.out.mono ?_
  clear HSG
  rintro e w3 ⟨gt, who3, f3, rfl, hx3, hf3⟩
  simp only [List.cons_append, List.nil_append] at hx3
  have HW3 : Hid (W.grownBy w3 none) := hf3.base HW2.out hWB (fun g e => (HX2.out.hs.1.dom g e).1) (fun _ e => e.elim)
  obtain ⟨hbx, hwx⟩ := hf3.oth w.heap.size hlt2 HWX2.out (fun e => e)
  have HWX3 := hide hwx
  have HC3 : Hid (w3.cell? ⟨w.heap.size, 0, none⟩ = some (.slice ao p.length cap)) := by
    unfold Hid; rw [World.cell?_of_block hbx]; exact HC2.out
  have hlt3 : w.heap.size < w3.heap.size := World.block_lt_of_cell? w3 _ HC3.out
  have hgb : w3.heap[g]? = some (.cells (lentRows LC1) 75 (0, 0)) := by
    have := (hx3.le.lr 0 (by simp)).1
    simp only [List.getElem_cons_zero, List.take_zero, List.map_nil, List.sum_nil, List.drop_zero] at this
    rw [List.take_of_length_le (by rw [HLL.out]; omega)] at this
    exact this
  have hPx : ProgAt w3 (.agg #[.slice (some ⟨g, 0, none⟩) p.length (p.length + 2)]) p := lent_prog (LC0 := []) (by simpa using hx3.le) hgb HLC.out _
  have hIx : IntsAt w3.heap.size w3 (.slice (some ⟨gs, 0, none⟩) s.length (s.length + 2)) s := lent_ints (hx3.le.li (gs, s, .slice so s.length sc) (by simp)).1
  have hJx : IntsAt w3.heap.size w3 (.slice (some ⟨gt, 0, none⟩) t.length (t.length + 2)) t := lent_ints (hx3.le.li (gt, t, .slice ta t.length tc) (by simp)).1
  have HFM := hide (sameP_m p s t _ _ _ w3 (HS.out.pres (pres_grown HW3.out)) hPx hIx hJx)
  have HJ3 := hide (int_keeps HJ2.out.1 HJ2.out.2 hf3)
  have HX3 := hide hx3
  clear hx3 hf3 hbx hwx hgb hPx hIx hJx HX2 HC2 HWX2 hlt2
  go_wp2_with fail
  refine HFM.out.mono ?_
  clear HFM
  intro e w4 hF
  obtain ⟨hg4, he⟩ := hF.form
  clear hF
  subst he
  have HG34 := hide hg4
  have HW4 : Hid (W.grownBy w4 none) := grown_trans HW3.out hg4
  have HBK := hide (back_g B w4 b who3 n f3 K _ _ _ (HX3.out.grown hg4) (by simp) (by rw [HLL.out]; omega) (by simp))
  clear hg4
  rw [hpt] at HBK
  generalize hcr : checkRunsN p [s, t] = cr at *
  generalize hso : sameOut p s t = zz at *
  have HCR := hide hcr
  have HSO := hide hso
  clear hcr hso
  go_wp2_with fail
  refine HBK.out.mono ?_
  clear HBK
  rintro e w5 ⟨rfl, f5, hz5, hf5⟩
  have HW5 : Hid (W.grownBy w5 none) := hf5.base HW4.out hWB (fun g e => (HX3.out.hs.1.dom g e).1) (fun _ e => e.elim)
  have c5 : w5.cell? ⟨w.heap.size, 0, none⟩ = some (.slice ao p.length cap) := by
    rw [World.cell?_of_block (hf5.oth w.heap.size (by have := HG34.out.size; omega) HWX3.out (fun e => e)).1]
    exact pres_grown HG34.out _ _ HC3.out
  have HJ5 := hide (int_keeps HJ3.out.1 HJ3.out.2 ((Fr.grown HG34.out).trans hf5))
  have HZ5 := hide hz5
  have HRF := hide (refSame_m p s t _ _ _ w5 (HP.out.pres (pres_grown HW5.out)) ((HI.out.pres (pres_grown HW5.out)).mono HW5.out.size) HJ5.out.1 hpl HPC.out)
  clear hz5 hf5 HX3 HC3
  go_wp2_with fail
  refine HRF.out.mono ?_
  clear HRF
  intro e w6 hF
  obtain ⟨hg6, he⟩ := hF.form
  clear hF
  subst he
  rw [HCR.out, HSO.out]
  have HG56 := hide hg6
  clear hg6 c5
  cases zz
  · go_wp2_with (go_at_call 31; refine (num_mR _ _).mono ?_; rintro e w9 ⟨rfl, hw9⟩; have hw9' := hw9.symm; subst hw9')
    go_ret
    exact ⟨by simp, who3, f5, K, ⟨HZ5.out.1.grown HG56.out, HZ5.out.2⟩, grown_trans HW5.out HG56.out, fun c _ => by omega⟩
  · go_wp2_with (go_at_call 31; refine (num_mR _ _).mono ?_; rintro e w9 ⟨rfl, hw9⟩; have hw9' := hw9.symm; subst hw9')
    go_ret
    exact ⟨by simp, who3, f5, K, ⟨HZ5.out.1.grown HG56.out, HZ5.out.2⟩, grown_trans HW5.out HG56.out, fun c _ => by omega⟩

end Go.Proofs.YtklenjmfalljgaaGreatDoor

/- Lists that are lent, written over by their owner. -/
namespace Go.Proofs.YtklenjmfalljgaaGreatDoor
open Go.RowKit

section
variable {B : Nat} {w w' : World} {b : Nat} {who : Nat → Role} {n : Int} {f : Nat → Value} {K : Nat → List (Value × Int)} {E : Nat → List Value} {LI : List (Nat × List Int × Value)} {LC : List (Nat × List Ins × Value)} {LR : List (Nat × Nat)} {tail : Nat}

/-- A row of a block that is lent, but in no list, grows. -/
theorem Lx.outRow (h : Lx B w b who n f K E LI LC LR tail) {g : Nat} (hg : w.grownBy w' (some g)) (hw : who g = .lent) (hn : g ∉ LI.map (·.1) ++ (LC.map (·.1) ++ LR.map (·.1))) : Lx B w' b who n f K E LI LC LR tail ∧ Fr w w' who who (fun _ => False) := by
  have hne : ∀ g', g' < w.heap.size → g' ≠ g → w'.heap[g']? = w.heap[g']? := fun g' h1 e => hg.block g' h1 (by simpa using e)
  have hfr : Fr w w' who who (fun _ => False) := ⟨hg.os, hg.tape, hg.output, hg.size, fun g' h1 h2 _ => ⟨hne g' h1 (fun e => by subst e; rw [hw] at h2; cases h2), h2⟩⟩
  exact ⟨⟨⟨h.hs.1.same hg.size (fun g' h1 _ h3 => hne g' h1 (fun e => by subst e; rw [hw] at h3; cases h3)), h.hs.2⟩, h.lr.same (fun g' k e => hne g' (h.hs.1.dom g' (by rw [e]; simp)).2 (fun e2 => by subst e2; rw [hw] at e; cases e)), h.le.keepIn hfr (fun g' e => ⟨hne g' (h.le.lt g' e).1 (fun e2 => hn (by rw [← e2]; exact e)), (h.le.lt g' e).2⟩)⟩, hfr⟩

theorem nd_lc (h : Le w who LI LC LR tail) {i j : Nat} (hi : i < LC.length) (hj : j < LC.length) (hij : i ≠ j) : LC[i].1 ≠ LC[j].1 := by
  intro e
  have hnd := (List.nodup_append.1 (List.nodup_append.1 h.nd).2.1).1
  have h1 : (LC.map (·.1))[i]'(by simpa using hi) = (LC.map (·.1))[j]'(by simpa using hj) := by simpa using e
  have hp := List.pairwise_iff_getElem.1 hnd
  rcases Nat.lt_or_gt_of_ne hij with hlt | hlt
  · exact hp i j (by simpa using hi) (by simpa using hj) hlt h1
  · exact hp j i (by simpa using hj) (by simpa using hi) hlt h1.symm
theorem nd_li (h : Le w who LI LC LR tail) {x : Nat × List Int × Value} (hx : x ∈ LI) {i : Nat} (hi : i < LC.length) : x.1 ≠ LC[i].1 := by
  intro e
  exact (List.nodup_append.1 h.nd).2.2 x.1 (List.mem_map.2 ⟨x, hx, rfl⟩) LC[i].1 (List.mem_append.2 (Or.inl (List.mem_map.2 ⟨_, List.getElem_mem hi, rfl⟩))) e
theorem nd_lr (h : Le w who LI LC LR tail) {j : Nat} (hj : j < LR.length) {i : Nat} (hi : i < LC.length) : LR[j].1 ≠ LC[i].1 := by
  intro e
  exact (List.nodup_append.1 (List.nodup_append.1 h.nd).2.1).2.2 LC[i].1 (List.mem_map.2 ⟨_, List.getElem_mem hi, rfl⟩) LR[j].1 (List.mem_map.2 ⟨_, List.getElem_mem hj, rfl⟩) e.symm

theorem map_set_same {α β : Type} (F : α → β) (l : List α) (i : Nat) (y : α) (hi : i < l.length) (e : F y = F l[i]) : (l.set i y).map F = l.map F := by
  rw [List.map_set, e]
  apply List.ext_getElem (by simp)
  intro k h1 h2
  rw [List.getElem_set]
  by_cases hk : i = k
  · subst hk; simp
  · rw [if_neg hk]

/-- A list of instructions that is lent holds others of the same number; so does what is told of it. -/
theorem Lx.recode (h : Lx B w b who n f K (EL LI LC LR) LI LC LR 0) {i : Nat} (hi : i < LC.length) {w1 : World} (hc : Chg w w1 (fun g => g = LC[i].1)) {c' : List Ins} {cv' : Value} {g3 m3 c3 : Nat} (hf3 : f 3 = .slice (some ⟨g3, 0, none⟩) m3 c3)
    (hb : w1.heap[LC[i].1]? = some (.cells (lentCode c') 74 (0, 0))) (hl : c'.length = LC[i].2.1.length) (hC : CodeAt w1 cv' c') (hv : valOther who cv') :
    Lx B (w1.setCell ⟨g3, i, none⟩ cv') b who n f K (EL LI (LC.set i (LC[i].1, c', cv')) LR) LI (LC.set i (LC[i].1, c', cv')) LR 0 ∧ Fr w (w1.setCell ⟨g3, i, none⟩ cv') who who (fun _ => False) := by
  have w3 : who g3 = .lrow 3 := h.lr.wr 3 (by omega) g3 (by rw [hf3]; rfl)
  have wx : who LC[i].1 = .lent := (h.le.lc _ (List.getElem_mem hi)).2.1
  have hgx3 : LC[i].1 ≠ g3 := fun e => by rw [e, w3] at wx; cases wx
  have hne3 : ∀ g, g ≠ g3 → (w1.setCell ⟨g3, i, none⟩ cv').heap[g]? = w1.heap[g]? := fun g e => Below.heap_setCell _ _ _ _ (by simpa using e)
  have hne : ∀ g, g < w.heap.size → g ≠ LC[i].1 → g ≠ g3 → (w1.setCell ⟨g3, i, none⟩ cv').heap[g]? = w.heap[g]? := fun g h1 h2 h3 => by rw [hne3 g h3]; exact hc.blk g h1 h2
  have hfr : Fr w (w1.setCell ⟨g3, i, none⟩ cv') who who (fun _ => False) := ⟨hc.os, hc.tape, hc.output, by simpa using hc.size, fun g h1 h2 _ => ⟨hne g h1 (fun e => by rw [e, wx] at h2; cases h2) (fun e => by rw [e, w3] at h2; cases h2), h2⟩⟩
  have e1 : (LC.set i (LC[i].1, c', cv')).map (·.1) = LC.map (·.1) := map_set_same _ _ _ _ hi rfl
  have e2 : (LC.set i (LC[i].1, c', cv')).map (fun x => sl2 x.1 x.2.1.length) = LC.map (fun x => sl2 x.1 x.2.1.length) := map_set_same _ _ _ _ hi (by simp only; rw [hl])
  have e3 : (LC.set i (LC[i].1, c', cv')).map slC = LC.map slC := map_set_same _ _ _ _ hi (by simp only [slC]; rw [hl])
  refine ⟨⟨⟨h.hs.1.same (by simpa using hc.size) (fun g h1 _ h3 => hne g h1 (fun e => by rw [e, wx] at h3; cases h3) (fun e => by rw [e, w3] at h3; cases h3)), h.hs.2⟩, ⟨fun k hk => ?_, h.lr.wr⟩, ⟨fun x hx => ?_, fun x hx => ?_, fun j hj => ?_, by simpa using h.le.sum, by rw [e1]; exact h.le.nd⟩⟩, hfr⟩
  · have hother : k ≠ 3 → EL LI (LC.set i (LC[i].1, c', cv')) LR k = EL LI LC LR k := fun hk3 => by
      rcases (by omega : k = 0 ∨ k = 1 ∨ k = 2 ∨ k = 4) with rfl | rfl | rfl | rfl
      · rfl
      · rfl
      · exact e2
      · rfl
    by_cases hk3 : k = 3
    · subst hk3
      have hr := h.lr.r 3 (by omega)
      rw [hf3] at hr
      have hm := owns_lenq hr
      subst hm
      have hr1 : w1.ownsRow B (tR 3) 1 (.slice (some ⟨g3, 0, none⟩) (EL LI LC LR 3).length c3) (EL LI LC LR 3).length (EL LI LC LR 3) := owns_same hr (fun g e => by
        simp only [Value.ownBlock, Option.some.injEq] at e
        subst e
        exact hc.blk g3 (h.hs.1.dom g3 (by rw [w3]; simp)).2 (fun e => hgx3 e.symm))
      have hr2 := owns_setCell hr1 i cv'
      have e4 : (EL LI LC LR 3).set i cv' = EL LI (LC.set i (LC[i].1, c', cv')) LR 3 := by simp [EL, List.map_set]
      have e5 : (EL LI LC LR 3).length = (EL LI (LC.set i (LC[i].1, c', cv')) LR 3).length := by simp [EL]
      rw [e4] at hr2
      rw [hf3, ← e5]
      exact hr2
    · rw [hother hk3]
      exact owns_same (h.lr.r k hk) (fun g e => by
        have hw := h.lr.wr k hk g e
        refine hne g (h.hs.1.dom g (by rw [hw]; simp)).2 (fun e => by rw [e, wx] at hw; cases hw) (fun e => ?_)
        rw [e, w3] at hw
        simp at hw
        omega)
  · obtain ⟨a, b', c, d, e⟩ := h.le.li x hx
    obtain ⟨k1, k2⟩ := int_keeps c d hfr
    refine ⟨?_, b', k1, k2, e⟩
    rw [hne x.1 (Array.getElem?_eq_some_iff.1 a).1 (nd_li h.le hx hi) (fun e => by rw [e, w3] at b'; cases b')]
    exact a
  · obtain ⟨j, hj, rfl⟩ := List.getElem_of_mem hx
    have hj' : j < LC.length := by simpa using hj
    by_cases hij : i = j
    · subst hij
      rw [List.getElem_set_self]
      refine ⟨by rw [hne3 _ hgx3]; exact hb, wx, code_oth hC hv (fun g _ h2 => hne3 g (fun e => by rw [e, w3] at h2; cases h2)), hv, ?_⟩
      show c'.length ≤ 1048576
      rw [hl]
      exact (h.le.lc _ (List.getElem_mem hi)).2.2.2.2
    · rw [List.getElem_set_ne hij]
      obtain ⟨a, b', c, d, e⟩ := h.le.lc _ (List.getElem_mem hj')
      refine ⟨?_, b', code_oth c d (fun g h1 h2 => (hfr.oth g h1 h2 (fun e => e)).1), d, e⟩
      rw [hne _ (Array.getElem?_eq_some_iff.1 a).1 (fun e => nd_lc h.le hi hj' hij e.symm) (fun e => by rw [e, w3] at b'; cases b')]
      exact a
  · obtain ⟨a, b', c⟩ := h.le.lr j hj
    refine ⟨?_, b', c⟩
    have e6 : lentRows (((LC.set i (LC[i].1, c', cv')).drop ((LR.take j).map (·.2)).sum).take LR[j].2) = lentRows ((LC.drop ((LR.take j).map (·.2)).sum).take LR[j].2) := by
      unfold lentRows
      rw [List.map_take, List.map_drop, e3, ← List.map_drop, ← List.map_take]
    rw [e6, hne _ (Array.getElem?_eq_some_iff.1 a).1 (nd_lr h.le hj hi) (fun e => by rw [e, w3] at b'; cases b')]
    exact a

/-- The list of numbers that is lent holds others of the same number; so does what is told of it. -/
theorem Lx.reints {gs : Nat} {s : List Int} {sv : Value} (h : Lx B w b who n f K (EL [(gs, s, sv)] LC LR) [(gs, s, sv)] LC LR 0) {w1 : World} (hc : Chg w w1 (fun g => g = gs)) {t : List Int} {tv : Value} {g1 m1 c1 : Nat} (hf1 : f 1 = .slice (some ⟨g1, 0, none⟩) m1 c1)
    (hb : w1.heap[gs]? = some (.cells (lentRow t) 3 (0, 0))) (hl : t.length = s.length) (hC : IntsAt w1.heap.size w1 tv t) (hv : valOther who tv) :
    Lx B (w1.setCell ⟨g1, 0, none⟩ tv) b who n f K (EL [(gs, t, tv)] LC LR) [(gs, t, tv)] LC LR 0 ∧ Fr w (w1.setCell ⟨g1, 0, none⟩ tv) who who (fun _ => False) := by
  have w3 : who g1 = .lrow 1 := h.lr.wr 1 (by omega) g1 (by rw [hf1]; rfl)
  have wx : who gs = .lent := (h.le.li (gs, s, sv) (by simp)).2.1
  have hgx3 : gs ≠ g1 := fun e => by rw [e, w3] at wx; cases wx
  have hne3 : ∀ g, g ≠ g1 → (w1.setCell ⟨g1, 0, none⟩ tv).heap[g]? = w1.heap[g]? := fun g e => Below.heap_setCell _ _ _ _ (by simpa using e)
  have hne : ∀ g, g < w.heap.size → g ≠ gs → g ≠ g1 → (w1.setCell ⟨g1, 0, none⟩ tv).heap[g]? = w.heap[g]? := fun g h1 h2 h3 => by rw [hne3 g h3]; exact hc.blk g h1 h2
  have hfr : Fr w (w1.setCell ⟨g1, 0, none⟩ tv) who who (fun _ => False) := ⟨hc.os, hc.tape, hc.output, by simpa using hc.size, fun g h1 h2 _ => ⟨hne g h1 (fun e => by rw [e, wx] at h2; cases h2) (fun e => by rw [e, w3] at h2; cases h2), h2⟩⟩
  have hnd := (List.nodup_append.1 h.le.nd).2.2
  refine ⟨⟨⟨h.hs.1.same (by simpa using hc.size) (fun g h1 _ h3 => hne g h1 (fun e => by rw [e, wx] at h3; cases h3) (fun e => by rw [e, w3] at h3; cases h3)), h.hs.2⟩, ⟨fun k hk => ?_, h.lr.wr⟩, ⟨fun x hx => ?_, fun x hx => ?_, fun j hj => ?_, h.le.sum, h.le.nd⟩⟩, hfr⟩
  · have hother : k ≠ 1 → EL [(gs, t, tv)] LC LR k = EL [(gs, s, sv)] LC LR k := fun hk3 => by
      rcases (by omega : k = 0 ∨ k = 2 ∨ k = 3 ∨ k = 4) with rfl | rfl | rfl | rfl
      · simp [EL, hl]
      · rfl
      · rfl
      · rfl
    by_cases hk3 : k = 1
    · subst hk3
      have hr := h.lr.r 1 (by omega)
      rw [hf1] at hr
      have hm := owns_lenq hr
      subst hm
      have hr1 : w1.ownsRow B (tR 1) 1 (.slice (some ⟨g1, 0, none⟩) (EL [(gs, s, sv)] LC LR 1).length c1) (EL [(gs, s, sv)] LC LR 1).length (EL [(gs, s, sv)] LC LR 1) := owns_same hr (fun g e => by
        simp only [Value.ownBlock, Option.some.injEq] at e
        subst e
        exact hc.blk g1 (h.hs.1.dom g1 (by rw [w3]; simp)).2 (fun e => hgx3 e.symm))
      have hr2 := owns_setCell hr1 0 tv
      rw [hf1]
      simpa [EL] using hr2
    · rw [hother hk3]
      exact owns_same (h.lr.r k hk) (fun g e => by
        have hw := h.lr.wr k hk g e
        refine hne g (h.hs.1.dom g (by rw [hw]; simp)).2 (fun e => by rw [e, wx] at hw; cases hw) (fun e => ?_)
        rw [e, w3] at hw
        simp at hw
        omega)
  · have hx' : x = (gs, t, tv) := by simpa using hx
    subst hx'
    refine ⟨by rw [hne3 _ hgx3]; exact hb, wx, ?_, hv, by show t.length ≤ 1048576; rw [hl]; exact (h.le.li (gs, s, sv) (by simp)).2.2.2.2⟩
    have := ints_oth hC hv (w' := w1.setCell ⟨g1, 0, none⟩ tv) (by simp) (fun g _ h2 => hne3 g (fun e => by rw [e, w3] at h2; cases h2))
    exact this
  · obtain ⟨a, b', c, d, e⟩ := h.le.lc x hx
    refine ⟨?_, b', code_oth c d (fun g h1 h2 => (hfr.oth g h1 h2 (fun e => e)).1), d, e⟩
    rw [hne _ (Array.getElem?_eq_some_iff.1 a).1 (fun e => hnd gs (by simp) x.1 (List.mem_append.2 (Or.inl (List.mem_map.2 ⟨x, hx, rfl⟩))) e.symm) (fun e => by rw [e, w3] at b'; cases b')]
    exact a
  · obtain ⟨a, b', c⟩ := h.le.lr j hj
    refine ⟨?_, b', c⟩
    rw [hne _ (Array.getElem?_eq_some_iff.1 a).1 (fun e => hnd gs (by simp) LR[j].1 (List.mem_append.2 (Or.inr (List.mem_map.2 ⟨_, List.getElem_mem hj, rfl⟩))) e.symm) (fun e => by rw [e, w3] at b'; cases b')]
    exact a
end

end Go.Proofs.YtklenjmfalljgaaGreatDoor

/- append of a slice that may be nil. -/
namespace Go.Proofs.YtklenjmfalljgaaGreatDoor
open Go.RowKit

section
variable {P : Program} {w : World} {ops : Array Oper} {rest : List Oper} {o : Oper} {a : Act} {Q : Exit → Act → World → Prop}
/-- append of a slice (nil, empty or not) onto a row of the call's own. -/
theorem wpList_append_any (hgd : o.guard = none) (s x : Operand) (t : TypeId) (ho : o.op = .call { callee := .builtin .append, args := #[s, x], argTypes := #[t, t] })
    (base : Nat) (e : TypeId) (i : TypeInfo) (z : Value) (size bytes : Nat) (ht : P.underlying t = some (.slice e)) (hi : P.info? e = some i) (hz : i.zero = some z) (hsize : i.size = size) (hby : i.bytes = bytes) (hzs : z.cells.size = size) (hsz : 0 < size)
    (v : Value) (n : Nat) (xs : List Value) (hs : a.eval s = v) (hown : w.ownsRow base e size v n xs) (so : Option Addr) (m c : Nat) (news : List Value) (hx : a.eval x = .slice so m c) (hl : news.length = m * size)
    (hso : so = none → m = 0 ∧ c = 0) (hnews : ∀ ad, so = some ad → ∀ j u, news[j]? = some u → w.cell? (ad.add j) = some u) (h1 : ∀ u ∈ news, u.oneCell' = true) (h63 : n + m ≤ maxLen) (hbytes : (n + m) * bytes ≤ 140737488355328) (hbase : base ≤ w.heap.size)
    (h : ∀ ta tn tc w', w'.ownsRow base e size (.slice ta tn tc) (n + m) (xs ++ news) → w.grownBy w' v.ownBlock → wpList P ops Q rest (a.put o.dst (.slice ta tn tc)) w') : wpList P ops Q (o :: rest) a w := by
  refine wpList_plain hgd fun K hK => ?_
  cases so with
  | none =>
    obtain ⟨rfl, rfl⟩ := hso rfl
    have hrun := run_append_owned_none (P := P) w base t o.type e i size ht hi v n xs hown
    have hx0 : news = [] := List.length_eq_zero_iff.1 (by omega)
    obtain ⟨ta, tn, tc, rfl⟩ := owns_form hown
    unfold Oper.wp
    simp [execOp, ho, resolve, invoke, builtin, hs, hx, hrun, Result.andThen]
    exact hK _ _ (h _ _ _ w (by rw [hx0]; simpa using hown) (grown_refl _ _))
  | some ad =>
    obtain ⟨v', w', hrun, h2, h3, h4, h5⟩ := run_append_own_at (P := P) w base t o.type e i z size bytes ht hi hz hsize hby hzs hsz v n xs hown ad m c news hl (hnews ad rfl) h1 h63 hbytes hbase
    obtain ⟨ta, tn, tc, rfl⟩ := owns_form h2
    unfold Oper.wp
    simp [execOp, ho, resolve, invoke, builtin, hs, hx, hrun, Result.andThen]
    exact hK _ _ (h _ _ _ w' h2 h3)
end

end Go.Proofs.YtklenjmfalljgaaGreatDoor
