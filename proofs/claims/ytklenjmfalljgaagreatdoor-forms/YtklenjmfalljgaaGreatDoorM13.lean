/- The texts Fhg Fhh Fhi Frq Svd Fhj Apn. -/
import Derived.Test.YtklenjmfalljgaaGreatDoorM03
import Derived.Test.YtklenjmfalljgaaGreatDoorM11
import Derived.Test.YtklenjmfalljgaaGreatDoorM12
import Derived.BigQuiet
import Derived.Deep.QuietTactic
import Derived.Deep.AppendLies
import Derived.Maps.AppendAt

/- The walk of layers.Form. -/
namespace Go.Proofs.YtklenjmfalljgaaGreatDoor
open Go.RowKit
attribute [local go_sem] Go.World.cell?_alloc_some

theorem info_intF : ((Tryz.prog.info? 3).map fun i => (i.zero, i.size, i.bytes)) = some (some (.int .i64 0), 1, 8) := by kernel_rfl
def intsF (a : List Int) : List Value := a.map fun x => .int .i64 x
theorem row_set1 (L : List Value) (x : Value) (i n : Nat) (hl : L.length = i) (hi : i < n) : (L ++ List.replicate (n - i) (Value.int .i64 0)).set i x = (L ++ [x]) ++ List.replicate (n - (i + 1)) (Value.int .i64 0) := by
  obtain ⟨k, hk⟩ : ∃ k, n - i = k + 1 ∧ n - (i + 1) = k := ⟨n - (i + 1), by omega, rfl⟩
  rw [hk.1, hk.2, List.set_append, if_neg (by omega), hl, Nat.sub_self, List.replicate_succ, List.set_cons_zero]
  simp

/-- In the midst of Form: i numbers stand. -/
structure FmIn (fs : List Int) (W w' : World) (gf i : Nat) : Prop where
  row : w'.heap[gf]? = some (.cells (intsF (fs.take i) ++ List.replicate (fs.length - i) (Value.int .i64 0)).toArray 3 (0, 0))
  gr : W.grownBy w' (some gf)

set_option maxHeartbeats 4000000 in
set_option maxRecDepth 100000 in
theorem layForm_m {p : List (List Ins)} {o : Out} {xs : List Ev} (hp : vProg p = true) (hSt : Stood p o xs) (h500 : xs.length ≤ 500) (w : World) (pv : Value) (hP : ProgAt w pv p) (base : Nat) (sao : Option Addr) (scp : Nat)
    (hs : w.ownsRow base 84 2 (.slice sao xs.length scp) xs.length (flatS o.steps)) (v0 v1 v2 v3 : Int) (gao : Option Addr) (gn gc : Nat) :
    Calls Tryz.prog 44 #[pv, .agg #[.int .i64 o.kind, .int .i64 o.thread, .int .i64 o.at_, .slice sao xs.length scp, .int .i64 v0, .int .i64 v1, .int .i64 v2, .int .i64 v3, .slice gao gn gc]] w fun e w' => ∃ v, e = .returned v ∧ w'.ownsRow w.heap.size 3 1 v (formE p xs).length (intsF (formE p xs)) ∧ w.grownBy w' none := by
  obtain ⟨i0, hi0, hz0, hz1, hz2⟩ := info_parts info_intF
  obtain ⟨ao, cap, rfl⟩ := hP.form
  have HP := hide hP
  have HV := hide hp
  have HSt := hide hSt
  have HR := hide hs
  have hfl := formE_length p xs
  have q0 : (xs.length : Int) ≤ 500 := by omega
  have q1 : (0 : Int) ≤ (xs.length : Int) := by omega
  clear hP hp hSt hs
  go_enter Tryz.func44, Tryz.ntmps44
  go_wp2_with fail
  have hg0 : ∀ a b, w.grownBy ((w.alloc a).alloc b) none := fun a b => grown_alloc (grown_alloc (grown_refl _ _))
  refine (place_m HV.out HSt.out h500 _ _ (HP.out.pres (pres_grown (hg0 _ _))) base sao scp (owns_alloc (owns_alloc HR.out)) v0 v1 v2 v3 gao gn gc).mono ?_
  rintro e w1 ⟨g, rfl, hg, hrow1, hg1⟩
  have HG1 : Hid (w.grownBy w1 none) := grown_trans (hg0 _ _) hg1
  have hgw : w.heap.size ≤ g := by simp at hg; omega
  have hkl : (keysE p xs).length = xs.length := by unfold keysE; rw [List.length_map, tl_length]
  have HSO := hide (sort_m (keysE p xs) g w1 hrow1 (by omega))
  rw [hkl] at HSO
  have hgs : g < w1.heap.size := (Array.getElem?_eq_some_iff.1 hrow1).1
  clear hg1 hrow1 hg hg0
  go_wp2_with fail
  refine HSO.out.mono ?_
  clear HSO
  rintro e w2 ⟨rfl, hc2, hg2⟩
  have hsl : (sortK (keysE p xs)).length = xs.length := by rw [(sortK_perm _).length_eq, hkl]
  have HFE : Hid (formE p xs = (sortK (keysE p xs)).map fun x => (x.2 : Int)) := rfl
  generalize sortK (keysE p xs) = qs at *
  have HC2 := hide hc2
  have HG2 : Hid (w.grownBy w2 none) := grown_row' HG1.out hg2 hgw
  obtain ⟨fs, hfs⟩ : ∃ fs, fs = formE p xs := ⟨_, rfl⟩
  rw [← hfs] at HFE hfl
  have HFS := hide hfs
  clear hfs
  have hgs2 : g < w2.heap.size := Nat.lt_of_lt_of_le hgs hg2.size
  clear hc2 hg2 hkl
  go_upto_region 4 with (at_make; refine wpList_make_full _ rfl _ _ _ rfl w2.heap.size 3 i0 _ 1 Tryz.underlying25 hi0 hz0 hz1 .i64 .i64 _ _ xs.length rfl rfl rfl rfl (by rw [hz2]; omega) (by unfold maxLen; omega) (by simp) ?_; intro w3 hown3 hg3)
  have hrow3 : w3.heap[w2.heap.size]? = some (.cells (List.replicate xs.length (Value.int .i64 0)).toArray 3 (0, 0)) := by
    rcases hown3.2 with ⟨e, _⟩ | ⟨g', cap', cur, hv, _, hh, _, _, hcs, htk⟩
    · cases e
    · simp only [Value.slice.injEq, Option.some.injEq, Addr.mk.injEq, true_and, and_true] at hv
      obtain ⟨rfl, rfl⟩ := hv
      rw [hh]
      have e1 : cur.toList = List.replicate xs.length (Value.int .i64 0) := by
        have e2 : (madeCells #[Value.int .i64 0] (xs.length * 1)).toList = List.replicate (xs.length * 1) (Value.int .i64 0) := by
          apply List.ext_getElem (by simp [madeCells])
          intro i h1 h2
          simp only [madeCells, Array.toList_map, List.getElem_map, List.getElem_replicate, Array.toList_range, List.getElem_range]
          simp [Nat.mod_one]
        rw [Nat.mul_one] at e2
        rw [← e2]
        simp only [Value.cells, Nat.mul_one] at htk hcs
        rw [← htk, List.take_of_length_le (by simp; omega)]
      rw [← e1]
  have HC3 : Hid (∀ j (hj : j < qs.length), w3.cell? ⟨g, j * 2, none⟩ = some (.int .i64 (qs[j].1 : Int)) ∧ w3.cell? ⟨g, j * 2 + 1, none⟩ = some (.int .i64 (qs[j].2 : Int))) := fun j hj => ⟨pres_grown hg3 _ _ (HC2.out j hj).1, pres_grown hg3 _ _ (HC2.out j hj).2⟩
  have HG3 : Hid (w.grownBy w3 none) := grown_trans HG2.out hg3
  have H0 : Hid (FmIn fs w3 w3 w2.heap.size 0) := ⟨by simpa [intsF, hfl] using hrow3, grown_refl _ _⟩
  obtain ⟨gf, hgf⟩ : ∃ gf, gf = w2.heap.size := ⟨_, rfl⟩
  have hgf3 : gf < w3.heap.size := by rw [hgf]; exact (Array.getElem?_eq_some_iff.1 hrow3).1
  have hgne : g ≠ gf := by omega
  have hgfw : w.heap.size ≤ gf := by have := HG2.out.size; omega
  have hg3s : g < w3.heap.size := by omega
  rw [← hgf] at H0 ⊢
  clear hown3 hg3 hrow3 HC2 hgf hgs hgs2
  go_wp2_with fail
  go_loopw [19] (fun iv w' => ∃ i : Nat, i ≤ xs.length ∧ iv = .int .i64 i ∧ Hid (FmIn fs w3 w' gf i)) (fun iv _ => xs.length - (intOf iv).toNat)
  case atStart => exact ⟨0, Nat.zero_le _, rfl, H0⟩
  case round =>
    clear H0
    obtain ⟨i, hi, rfl, HI⟩ := hrel
    obtain ⟨w5, hw5⟩ : ∃ w5, w5 = wr := ⟨_, rfl⟩
    rw [← hw5] at HI ⊢
    clear hw5
    by_cases hlt : i < xs.length
    · have hiq : i < qs.length := by omega
      obtain ⟨c0, c1⟩ := HC3.out i hiq
      have hblk := HI.out.gr.block g hg3s (by simpa using hgne)
      have d0 : w5.cell? ⟨g, i * 2, none⟩ = some (.int .i64 (qs[i].1 : Int)) := by rw [World.cell?_of_block hblk]; exact c0
      have d1 : w5.cell? ⟨g, i * 2 + 1, none⟩ = some (.int .i64 (qs[i].2 : Int)) := by rw [World.cell?_of_block hblk]; exact c1
      have hfi : i < fs.length := by omega
      have HFI : Hid (fs.take (i + 1) = fs.take i ++ [(qs[i].2 : Int)]) := by
        unfold Hid
        rw [List.take_succ_eq_append_getElem hfi]
        congr 2
        simp [HFE.out]
      have hs5 : w3.heap.size ≤ w5.heap.size := HI.out.gr.size
      obtain ⟨R, hR⟩ : ∃ R : List Value, R = intsF (fs.take i) ++ List.replicate (fs.length - i) (Value.int .i64 0) := ⟨_, rfl⟩
      have hRl : R.length = fs.length := by rw [hR]; simp [intsF]; omega
      have hr5 := HI.out.row
      rw [← hR] at hr5
      clear c0 c1 hblk
      generalize qs[i] = q at *
      obtain ⟨q1', q2'⟩ := q
      simp only at d0 d1 HFI
      have hr6 : (w5.alloc (.cells #[.int .i64 (q1' : Int), .int .i64 (q2' : Int)] 161)).heap[gf]? = some (.cells R.toArray 3 (0, 0)) := by
        rw [Below.heap_alloc _ _ _ (by omega)]; exact hr5
      have z0 : ∃ z, (w5.alloc (.cells #[.int .i64 (q1' : Int), .int .i64 (q2' : Int)] 161)).cell? ⟨gf, i, none⟩ = some z := ⟨R[i]'(by omega), by simp only [World.cell?, hr6]; simp⟩
      obtain ⟨z, z0⟩ := z0
      have fz0 : (w5.alloc (.cells #[.int .i64 (q1' : Int), .int .i64 (q2' : Int)] 161)).frozen? ⟨gf, i, none⟩ = false := by simp [World.frozen?, hr6]
      have HNX : Hid (FmIn fs w3 ((w5.alloc (.cells #[.int .i64 (q1' : Int), .int .i64 (q2' : Int)] 161)).setCell ⟨gf, i, none⟩ (.int .i64 (q2' : Int))) gf (i + 1)) := by
        refine ⟨?_, grown_trans HI.out.gr (grown_trans (grown_alloc (grown_refl _ _)) grown_cell)⟩
        rw [heap_setCell_same _ gf i _ _ _ hr6, HFI.out]
        simp only [List.setIfInBounds_toArray]
        rw [hR, row_set1 _ _ i fs.length (by simp [intsF]; omega) hfi]
        simp [intsF]
      have t0 : (0 : Int) ≤ (i : Int) := by omega
      have t1 : (i : Int) < xs.length := by omega
      have hne5 : gf ≠ w5.heap.size := by omega
      have hne6 : w5.heap.size ≠ gf := by omega
      clear hr5 hr6 hR hRl
      go_wp2_with fail
      go_roundw
      case rel => exact ⟨i + 1, by omega, by go_num, HNX⟩
      case measure => simp [intOf]; omega
    · have t1 : (xs.length : Int) ≤ (i : Int) := by omega
      have ei : i = xs.length := by omega
      have HE : Hid (w5.ownsRow w.heap.size 3 1 (.slice (some ⟨gf, 0, none⟩) xs.length xs.length) fs.length (intsF fs) ∧ w.grownBy w5 none) := by
        have hr := HI.out.row
        rw [List.take_of_length_le (by omega), show fs.length - i = 0 by omega] at hr
        refine ⟨⟨by simp [intsF], Or.inr ⟨gf, xs.length, _, by rw [hfl], hgfw, hr, by omega, by unfold maxLen; omega, by simp [intsF, hfl], ?_⟩⟩, grown_row' HG3.out HI.out.gr hgfw⟩
        simp [intsF]
        rw [List.take_of_length_le (by simp)]
      go_wp2_with fail
      go_ret
      refine ⟨.slice (some ⟨gf, 0, none⟩) xs.length xs.length, rfl, ?_, HE.out.2⟩
      rw [← HFS.out]
      exact HE.out.1

end Go.Proofs.YtklenjmfalljgaaGreatDoor

/- The walk of Form. -/
namespace Go.Proofs.YtklenjmfalljgaaGreatDoor
open Go.RowKit
attribute [local go_sem] Go.World.cell?_alloc_some

theorem grown_fromDrew {w w' : World} (h : w.drew.grownBy w' none) : w.grownBy w' none := ⟨h.os, h.tape, h.output, h.size, h.block⟩
theorem steps_le (p : List (List Ins)) (l : List Int) : (runS p l).steps.length ≤ l.length := by
  obtain ⟨m, h1, h2, h3, _⟩ := follow_fst p l 0 St.zero []
  unfold runS
  simp at h3
  omega
theorem check_none {p : List (List Ins)} {s : List Int} (h0 : checkRunN p s = 0) : vProg p = true ∧ s.length ≤ 500 := by
  unfold checkRunN at h0
  by_cases hv : vProg p = true
  · by_cases h5 : s.length ≤ 500
    · exact ⟨hv, h5⟩
    · simp [hv, h5] at h0
  · simp [hv] at h0
/-- Form of a run's answer, whatever world it lies in. -/
theorem layForm_run {p : List (List Ins)} (hp : vProg p = true) (s : List Int) (h5 : s.length ≤ 500) {base : Nat} {u : World} {rv : Value} (hR : ResAt base u (runS p s) p.length rv) (w : World) (hg : u.grownBy w none) (pv : Value) (hP : ProgAt w pv p) :
    Calls Tryz.prog 44 #[pv, rv] w fun e w' => ∃ v, e = .returned v ∧ w'.ownsRow w.heap.size 3 1 v (formS p (runS p s)).length (ints (formS p (runS p s))) ∧ w.grownBy w' none := by
  obtain ⟨xs, hSt⟩ := stood_of hp s
  obtain ⟨sv, gv, rfl, ho1, ho2⟩ := hR
  obtain ⟨x1, x2, x3, rfl⟩ := owns_form ho1
  obtain ⟨y1, y2, y3, rfl⟩ := owns_form ho2
  have hl : (runS p s).steps.length = xs.length := by rw [hSt.st]; simp
  have hx2 := owns_lenq ho1
  subst hx2
  have hle := steps_le p s
  have h1 := owns_grown ho1 hg (fun _ e => by cases e)
  rw [hl] at h1 ⊢
  have := layForm_m hp hSt (by omega) w pv hP base x1 x3 h1 ((runS p s).st.vars 0) ((runS p s).st.vars 1) ((runS p s).st.vars 2) ((runS p s).st.vars 3) y1 y2 y3
  unfold formS
  rw [hSt.ev]
  exact this

/-- What Form answers. -/
def Formd (p : List (List Ins)) (s : List Int) (w : World) (e : Ending) (w' : World) : Prop :=
  w.grownBy w' none ∧
  ((checkRunN p s = 0 ∧ ∃ v, e = .returned (.tuple #[v, .int .i64 0]) ∧ w'.ownsRow w.heap.size 3 1 v (formS p (runS p s)).length (ints (formS p (runS p s)))) ∨
   (checkRunN p s ≠ 0 ∧ e = .returned (.tuple #[.slice none 0 0, .int .i64 (checkRunN p s)])))

set_option maxHeartbeats 4000000 in
set_option maxRecDepth 100000 in
theorem form_m (p : List (List Ins)) (s : List Int) (pv sv : Value) (w : World) (hS : ShpAt w) (hP : ProgAt w pv p) (hI : IntsAt w.heap.size w sv s) :
    Calls Tryz.prog 19 #[pv, sv] w (Formd p s w) := by
  have HSh := hide hS
  have HP := hide hP
  have HI := hide hI
  obtain ⟨ao, cap, rfl⟩ := hP.form
  obtain ⟨so, sc, rfl⟩ := hI.form
  clear hS hP hI
  go_enter Tryz.func19, Tryz.ntmps19
  go_wp2_with fail
  have hg0 : ∀ a b, w.grownBy ((w.alloc a).alloc b) none := fun a b => grown_alloc (grown_alloc (grown_refl _ _))
  refine (checkRun_m p [s] _ _ _ (HSh.out.pres (pres_grown (hg0 _ _))) (HP.out.pres (pres_grown (hg0 _ _))) (lists_one (by simp)) (by simp)).mono ?_
  rw [checkRuns_one]
  rintro e w1 ⟨rfl, hg1⟩
  have HG1 : Hid (w.grownBy w1 none) := grown_trans (hg0 _ _) hg1
  have hb0 : w1.heap[w.heap.size]? = some (.cells #[.slice ao p.length cap] 24 (0, 0)) := by
    rw [hg1.block w.heap.size (by simp; omega) (by simp), Below.heap_alloc _ _ _ (by simp)]; exact heap_alloc_new w _
  have c0 : w1.cell? ⟨w.heap.size, 0, none⟩ = some (.slice ao p.length cap) := by simp [World.cell?, hb0]
  clear hb0 hg1
  by_cases h0 : checkRunN p s = 0
  · have H0 := hide h0
    obtain ⟨hv, h5⟩ := check_none h0
    have HV := hide hv
    rw [h0]
    clear h0 hv
    go_wp2_with fail
    refine wp_region_head (fun u => u.cell? ⟨w.heap.size, 0, none⟩ = some (.slice ao p.length cap)) 7 (by kernel_rfl) (by kernel_rfl) c0 ?_
    intro hHeld
    refine wpHead_take (i := 0) (v := ?vva0) rfl (by kernel_rfl) (fun _ _ _ h => h) (Or.inl ⟨by rfl, ?hya0⟩) hHeld ?resta0
    case hya0 => (intro u hu; go_simp; try with_reducible rfl)
    simp only [Act.put, List.setIfInBounds_toArray]
    refine wpHead_take (i := 1) (v := ?vva1) rfl (by kernel_rfl) (fun _ _ _ h => h) (Or.inl ⟨by rfl, ?hya1⟩) hHeld ?resta1
    case hya1 => (intro u hu; go_simp; try with_reducible rfl)
    simp only [Act.put]
    refine wpHead_take (i := 3) (v := ?vva3) rfl (by kernel_rfl) (fun _ _ _ h => h) (Or.inl ⟨by rfl, ?hya3⟩) hHeld ?resta3
    case hya3 => (intro u hu; go_simp; try with_reducible rfl)
    simp only [Act.put]
    refine wpHead_alone (i := 2) rfl (by kernel_rfl) (by kernel_rfl) (by rfl) ?_
    intro K2 hK2
    have HK2 := hide hK2
    clear hK2
    go_simp
    refine (new_m HV.out (HP.out.pres (pres_grown (grown_drew HG1.out)))).mono ?_
    rintro e w2 ⟨m, rfl, hM, hg2⟩
    have HM := hide hM
    have HG12 : Hid (w1.grownBy w2 none) := grown_fromDrew hg2
    have HG2 : Hid (w.grownBy w2 none) := grown_trans HG1.out HG12.out
    have hHeld2 : w2.cell? ⟨w.heap.size, 0, none⟩ = some (.slice ao p.length cap) := pres_grown HG12.out _ _ c0
    refine HK2.out _ _ hHeld2 ?_
    clear HK2 hM hg2
    try simp only [Act.put, List.setIfInBounds_toArray]
    refine wpHead_alone (i := 4) rfl (by kernel_rfl) (by kernel_rfl) (by rfl) ?_
    intro K4 hK4
    have HK4 := hide hK4
    clear hK4
    go_simp
    refine (run_m HV.out HM.out (Nat.le_refl _) ((HI.out.pres (pres_grown HG2.out)).mono HG2.out.size) h5).mono ?_
    rintro e w3 ⟨rv, rfl, hR, hg3⟩
    have HR := hide hR
    have HG3 : Hid (w.grownBy w3 none) := grown_trans HG2.out hg3
    have hHeld3 : w3.cell? ⟨w.heap.size, 0, none⟩ = some (.slice ao p.length cap) := pres_grown hg3 _ _ hHeld2
    refine HK4.out _ _ hHeld3 ?_
    clear HK4 hR hg3
    try simp only [Act.put, List.setIfInBounds_toArray]
    refine wpHead_alone (i := 5) rfl (by kernel_rfl) (by kernel_rfl) (by rfl) ?_
    intro K5 hK5
    have HK5 := hide hK5
    clear hK5
    go_simp
    refine (layForm_run HV.out s h5 HR.out w3 (grown_refl _ _) _ (HP.out.pres (pres_grown HG3.out))).mono ?_
    rintro e w4 ⟨fv, rfl, hF, hg4⟩
    obtain ⟨f1, f2, f3, rfl⟩ := owns_form hF
    have HF := hide hF
    have HG4 : Hid (w.grownBy w4 none) := grown_trans HG3.out hg4
    have hHeld4 : w4.cell? ⟨w.heap.size, 0, none⟩ = some (.slice ao p.length cap) := pres_grown hg4 _ _ hHeld3
    refine HK5.out _ _ hHeld4 ?_
    clear HK5 hF hg4
    try simp only [Act.put, List.setIfInBounds_toArray]
    refine wpHead_take (i := 6) (v := ?vvb6) rfl (by kernel_rfl) (fun _ _ _ h => h) (Or.inl ⟨by rfl, ?hyb6⟩) hHeld4 ?restb6
    case hyb6 => (intro u hu; go_simp; try with_reducible rfl)
    simp only [Act.put, List.setIfInBounds_toArray]
    refine wpHead_last rfl (by kernel_rfl) (by kernel_rfl) (by rfl) ?_
    go_simp
    go_wp2_with fail
    exact bodyPost_ret (v := .tuple #[.slice f1 f2 f3, .int .i64 0]) (by simp [results, Tryz.results19, go_sem]) rfl ⟨HG4.out, Or.inl ⟨H0.out, _, rfl, owns_mono HF.out HG3.out.size⟩⟩
  · have H0 := hide h0
    have hne : (checkRunN p s != 0) = true := by simpa using h0
    clear h0
    generalize hE : checkRunN p s = e at *
    have HE := hide hE
    clear hE
    go_wp2_with fail
    exact bodyPost_ret (v := .tuple #[.slice none 0 0, .int .i64 e]) (by simp [results, Tryz.results19, go_sem]) rfl ⟨HG1.out, Or.inr ⟨by rw [HE.out]; exact H0.out, by rw [HE.out]⟩⟩

end Go.Proofs.YtklenjmfalljgaaGreatDoor

/- The walks of slices.Equal and of rerunkeep's same. -/
namespace Go.Proofs.YtklenjmfalljgaaGreatDoor
open Go.RowKit
attribute [local go_sem] Go.World.cell?_alloc_some

theorem likeR (w : World) : Like w w := ⟨rfl, rfl, rfl, rfl⟩
theorem likeDn {w' w : World} (h : Like w' w) (n : Nat) : Like (w'.drewN n) w := by
  obtain ⟨a, b, c, d⟩ := h; exact ⟨a, b, c, d⟩

set_option maxHeartbeats 1000000 in
theorem eqInts_m (l m : List Int) (v u : Value) (w : World) (hI : IntsAt w.heap.size w v l) (hJ : IntsAt w.heap.size w u m) (hln : l.length ≤ 9223372036854775806) :
    Calls Tryz.prog 78 #[v, u] w fun e w' => e = .returned (.bool (l == m)) ∧ Like w' w := by
  obtain ⟨ao, cap, rfl, hcap, hc⟩ := hI
  obtain ⟨bo, dap, rfl, hdap, hd⟩ := hJ
  by_cases hlen : l.length = m.length
  · have HC := hide hc
    have HD := hide hd
    clear hc hd
    have hl2 : (l.length : Int) = m.length := by omega
    have hl3 : ((l.length : Int) != (m.length : Int)) = false := by simp; omega
    have HLN := hide hlen
    go_enter Tryz.func78, Tryz.ntmps78
    clear hlen hl2
    go_wp2_with fail
    go_loopw [13] (fun i w' => ∃ k : Nat, k ≤ l.length ∧ i = .int .i64 k ∧ Hid (Like w' w) ∧ Hid (l.take k = m.take k)) (fun i _ => l.length - (intOf i).toNat)
    case atStart => exact ⟨0, Nat.zero_le _, rfl, hide (likeR _), by simp [Hid]⟩
    case round =>
      obtain ⟨k, hk, rfl, HK, HA⟩ := hrel
      obtain ⟨w5, hw5⟩ : ∃ w5, w5 = wr := ⟨_, rfl⟩
      subst hw5
      by_cases hlt : k < l.length
      · have hlt2 : k < m.length := by have := HLN.out; omega
        obtain ⟨g, o, rfl, _, c0⟩ := HC.out k hlt
        obtain ⟨g2, o2, rfl, _, c1⟩ := HD.out k hlt2
        have cL : ∀ a, w5.cell? a = w.cell? a := fun a => by simp [World.cell?, HK.out.1]
        have d0 : w5.cell? ⟨g, o + k, none⟩ = some (.int .i64 l[k]) := by rw [cL]; exact c0
        have d1 : w5.cell? ⟨g2, o2 + k, none⟩ = some (.int .i64 m[k]) := by rw [cL]; exact c1
        have hk0 : (0 : Int) ≤ (k : Int) := by omega
        have hk1 : (k : Int) < l.length := by omega
        have hk2 : (k : Int) < m.length := by omega
        have HT1 : Hid (l.take (k + 1) = l.take k ++ [l[k]]) := List.take_succ_eq_append_getElem hlt
        have HT2 : Hid (m.take (k + 1) = m.take k ++ [m[k]]) := List.take_succ_eq_append_getElem hlt2
        clear cL c0 c1
        by_cases heq : l[k] = m[k]
        · have hq : (l[k] != m[k]) = false := by simpa using heq
          have HA1 : Hid (l.take (k + 1) = m.take (k + 1)) := by unfold Hid; rw [HT1.out, HT2.out, HA.out, heq]
          clear heq HT1 HT2
          generalize l[k] = x at *
          generalize m[k] = y at *
          go_wp2_with fail
          go_quiet (fail)
          go_wp2_with fail
          go_roundw
          case rel => exact ⟨k + 1, by omega, by go_num, hide (likeDn HK.out _), HA1⟩
          case measure => simp [intOf]; omega
        · have hq : (l[k] != m[k]) = true := by simpa using heq
          have HE : Hid ((l == m) = false) := by
            unfold Hid
            simp only [beq_eq_false_iff_ne]
            intro e
            apply heq
            simp [e]
          clear heq HT1 HT2
          generalize l[k] = x at *
          generalize m[k] = y at *
          go_wp2_with fail
          go_quiet (fail)
          go_wp2_with fail
          go_ret
          exact ⟨by rw [HE.out]; rfl, likeDn HK.out _⟩
      · have HE : Hid ((l == m) = true) := by
          unfold Hid
          have h1 := HA.out
          rw [List.take_of_length_le (by omega), List.take_of_length_le (by have := HLN.out; omega)] at h1
          simpa using h1
        have q2 : (l.length : Int) ≤ (k : Int) := by omega
        go_wp2_with fail
        go_ret
        exact ⟨by rw [HE.out]; rfl, HK.out⟩
  · have HE : Hid ((l == m) = false) := by
      unfold Hid
      simp only [beq_eq_false_iff_ne]
      intro e; exact hlen (by rw [e])
    have hl3 : ((l.length : Int) != (m.length : Int)) = true := by simp; omega
    clear hc hd
    go_enter Tryz.func78, Tryz.ntmps78
    go_wp2_with fail
    go_ret
    exact ⟨by rw [HE.out]; rfl, likeR _⟩



end Go.Proofs.YtklenjmfalljgaaGreatDoor

/- Schedules made shorter, trial by trial (no dump is named here). -/
namespace Go.Proofs.YtklenjmfalljgaaGreatDoor

/-- The same verdict (of a Wrong one the kind). -/
def likeV (a b : Out) : Bool := if a.kind = 2 then b.kind == 2 else (a.kind == b.kind && a.thread == b.thread && a.at_ == b.at_)
section
variable {p : List (List Ins)} {V : Out}
end

end Go.Proofs.YtklenjmfalljgaaGreatDoor

/- The walk of SameVerdict. -/
namespace Go.Proofs.YtklenjmfalljgaaGreatDoor
open Go.RowKit
attribute [local go_sem] Go.World.cell?_alloc_some

def verdV (o : Out) : Value := .agg #[.int .i64 o.kind, .int .i64 o.thread, .int .i64 o.at_]

set_option maxHeartbeats 1000000 in
set_option maxRecDepth 100000 in
theorem sameVerdict_m (a b : Out) (w : World) : Calls Tryz.prog 77 #[verdV a, verdV b] w fun e w' => e = .returned (.bool (likeV a b)) ∧ w.grownBy w' none := by
  obtain ⟨al, ak, av, aa, ast⟩ := a
  obtain ⟨bs, bk, bt, ba, bst⟩ := b
  unfold verdV
  simp only
  have HG : Hid (∀ x y, w.grownBy ((w.alloc x).alloc y) none) := fun x y => grown_alloc (grown_alloc (grown_refl _ _))
  by_cases h2 : ak = 2
  · by_cases h3 : bk = 2
    · have HE : Hid (likeV ⟨al, ak, av, aa, ast⟩ ⟨bs, bk, bt, ba, bst⟩ = true) := by unfold Hid likeV; simp [h2, h3]
      subst h2 h3
      go_enter Tryz.func77, Tryz.ntmps77
      go_wp2_with fail
      go_ret
      exact ⟨by rw [HE.out]; rfl, HG.out _ _⟩
    · have HE : Hid (likeV ⟨al, ak, av, aa, ast⟩ ⟨bs, bk, bt, ba, bst⟩ = false) := by unfold Hid likeV; simp [h2, h3]
      have hb : (bk == 2) = false := by simpa using h3
      subst h2
      clear h3
      go_enter Tryz.func77, Tryz.ntmps77
      go_wp2_with fail
      go_ret
      exact ⟨by rw [HE.out]; rfl, HG.out _ _⟩
  · have HE : Hid (likeV ⟨al, ak, av, aa, ast⟩ ⟨bs, bk, bt, ba, bst⟩ = (ak == bk && av == bt && aa == ba)) := by unfold Hid likeV; simp [h2]
    have ha : (ak == 2) = false := by simpa using h2
    clear h2
    go_enter Tryz.func77, Tryz.ntmps77
    go_wp2_with fail
    all_goals (go_ret; refine ⟨?_, HG.out _ _⟩; rw [HE.out]; simp [*])

end Go.Proofs.YtklenjmfalljgaaGreatDoor

/- The walk of Same. -/
namespace Go.Proofs.YtklenjmfalljgaaGreatDoor
open Go.RowKit
attribute [local go_sem] Go.World.cell?_alloc_some

theorem lists_two {W : World} {so sp : Option Addr} {a b : List Int} {sc sd : Nat} {t : TypeId} {g : Nat} (hg : W.heap.size = g) : ListsAt (W.alloc (.cells #[.slice so a.length sc, .slice sp b.length sd] t)) (.slice (some ⟨g, 0, none⟩) 2 2) [a, b] := by
  subst hg
  have h := heap_alloc_new W (.cells #[.slice so a.length sc, .slice sp b.length sd] t)
  refine ⟨W.heap.size, 0, 2, rfl, fun k hk => ?_⟩
  have hk0 : k = 0 ∨ k = 1 := by simp at hk; omega
  rcases hk0 with rfl | rfl
  · exact ⟨so, sc, by simp only [World.cell?, h]; rfl⟩
  · exact ⟨sp, sd, by simp only [World.cell?, h]; rfl⟩
theorem checks_none {p : List (List Ins)} {a b : List Int} (h0 : checkRunsN p [a, b] = 0) : vProg p = true ∧ a.length ≤ 500 ∧ b.length ≤ 500 := by
  unfold checkRunsN at h0
  by_cases hv : vProg p = true
  · by_cases h5 : a.length ≤ 500
    · by_cases h6 : b.length ≤ 500
      · exact ⟨hv, h5, h6⟩
      · simp [hv, h5, h6] at h0
    · simp [hv, h5] at h0
  · simp [hv] at h0

def sameS (p : List (List Ins)) (a b : List Int) : Bool := likeV (runS p a) (runS p b) && (formS p (runS p a) == formS p (runS p b))
/-- What Same answers. -/
def Samed (p : List (List Ins)) (a b : List Int) (w : World) (e : Ending) (w' : World) : Prop :=
  w.grownBy w' none ∧ ((checkRunsN p [a, b] = 0 ∧ e = .returned (.tuple #[.bool (sameS p a b), .int .i64 0])) ∨ (checkRunsN p [a, b] ≠ 0 ∧ e = .returned (.tuple #[.bool false, .int .i64 (checkRunsN p [a, b])])))

set_option maxHeartbeats 4000000 in
set_option maxRecDepth 100000 in
theorem sameP_m (p : List (List Ins)) (a b : List Int) (pv av bv : Value) (w : World) (hS : ShpAt w) (hP : ProgAt w pv p) (hI : IntsAt w.heap.size w av a) (hJ : IntsAt w.heap.size w bv b) :
    Calls Tryz.prog 47 #[pv, av, bv] w (Samed p a b w) := by
  have HSh := hide hS
  have HP := hide hP
  have HI := hide hI
  have HJ := hide hJ
  obtain ⟨ao, cap, rfl⟩ := hP.form
  obtain ⟨so, sc, rfl⟩ := hI.form
  obtain ⟨sp, sd, rfl⟩ := hJ.form
  clear hS hP hI hJ
  go_enter Tryz.func47, Tryz.ntmps47
  go_wp2_with fail
  have hg0 : ∀ x y, w.grownBy ((w.alloc x).alloc y) none := fun x y => grown_alloc (grown_alloc (grown_refl _ _))
  refine (checkRun_m p [a, b] _ _ _ (HSh.out.pres (pres_grown (hg0 _ _))) (HP.out.pres (pres_grown (hg0 _ _))) (lists_two (by simp)) (by simp)).mono ?_
  rintro e w1 ⟨rfl, hg1⟩
  have HG1 : Hid (w.grownBy w1 none) := grown_trans (hg0 _ _) hg1
  have hb0 : w1.heap[w.heap.size]? = some (.cells #[.slice ao p.length cap] 24 (0, 0)) := by
    rw [hg1.block w.heap.size (by simp; omega) (by simp), Below.heap_alloc _ _ _ (by simp)]; exact heap_alloc_new w _
  have c0 : w1.cell? ⟨w.heap.size, 0, none⟩ = some (.slice ao p.length cap) := by simp [World.cell?, hb0]
  clear hb0 hg1
  by_cases h0 : checkRunsN p [a, b] = 0
  · have H0 := hide h0
    obtain ⟨hv, h5, h6⟩ := checks_none h0
    have HV := hide hv
    rw [h0]
    clear h0 hv
    go_wp2_with fail
    refine (new_m HV.out (HP.out.pres (pres_grown HG1.out))).mono ?_
    rintro e w2 ⟨m, rfl, hM, hg2⟩
    have HM := hide hM
    have HG2 : Hid (w.grownBy w2 none) := grown_trans HG1.out hg2
    have c2 := pres_grown hg2 _ _ c0
    clear hM hg2 c0
    go_wp2_with fail
    refine (run_m HV.out HM.out (Nat.le_refl _) ((HI.out.pres (pres_grown HG2.out)).mono HG2.out.size) h5).mono ?_
    rintro e w3 ⟨rv, rfl, hR, hg3⟩
    have HG3 : Hid (w.grownBy w3 none) := grown_trans HG2.out hg3
    have HR := hide hR
    have c3 := pres_grown hg3 _ _ c2
    have HM3 : Hid (MachAt w2.heap.size w3 m p) := HM.out.grown' (Nat.le_refl _) hg3
    have hs23 := hg3.size
    obtain ⟨sv, gv, rfl, ho1, ho2⟩ := hR
    obtain ⟨x1, x2, x3, rfl⟩ := owns_form ho1
    obtain ⟨y1, y2, y3, rfl⟩ := owns_form ho2
    clear hg3 c2 ho1 ho2
    have HIb : Hid (IntsAt w2.heap.size w3 (.slice sp b.length sd) b) := (HJ.out.pres (pres_grown HG3.out)).mono HG2.out.size
    go_wp2_with fail
    refine (run_m HV.out HM3.out hs23 HIb.out h6).mono ?_
    rintro e w4 ⟨rv, rfl, hR4, hg4⟩
    have HG4 : Hid (w.grownBy w4 none) := grown_trans HG3.out hg4
    have HG34 := hide hg4
    have HR4 := hide hR4
    have c4 := pres_grown hg4 _ _ c3
    obtain ⟨sv, gv, rfl, ho1, ho2⟩ := hR4
    obtain ⟨z1, z2, z3, rfl⟩ := owns_form ho1
    obtain ⟨v1, v2, v3, rfl⟩ := owns_form ho2
    clear hg4 c3 ho1 ho2
    have HLF := hide (fun (w : World) (h : w3.grownBy w none) (hP : ProgAt w (.agg #[.slice ao p.length cap]) p) => layForm_run HV.out a h5 HR.out w h (.agg #[.slice ao p.length cap]) hP)
    have HLG := hide (fun (w : World) (h : w4.grownBy w none) (hP : ProgAt w (.agg #[.slice ao p.length cap]) p) => layForm_run HV.out b h6 HR4.out w h (.agg #[.slice ao p.length cap]) hP)
    have HSM : Hid (sameS p a b = (likeV (runS p a) (runS p b) && (formS p (runS p a) == formS p (runS p b)))) := rfl
    have HFL : Hid ((formS p (runS p a)).length ≤ 500) := by
      unfold Hid formS
      rw [formE_length]
      obtain ⟨xs, hSt⟩ := stood_of HV.out a
      rw [hSt.ev]
      have h1 := steps_le p a
      rw [hSt.st] at h1
      simp at h1
      omega
    clear HR HR4
    generalize hoa : runS p a = oa at *
    generalize hob : runS p b = ob at *
    clear hoa hob
    go_upto_region 6 with fail
    have HA5 : Hid (((w4.alloc (.cells #[.int .i64 oa.kind, .int .i64 oa.thread, .int .i64 oa.at_, .slice x1 x2 x3, .int .i64 (oa.st.vars 0), .int .i64 (oa.st.vars 1), .int .i64 (oa.st.vars 2), .int .i64 (oa.st.vars 3), .slice y1 y2 y3] 32)).alloc (.cells #[.int .i64 ob.kind, .int .i64 ob.thread, .int .i64 ob.at_, .slice z1 z2 z3, .int .i64 (ob.st.vars 0), .int .i64 (ob.st.vars 1), .int .i64 (ob.st.vars 2), .int .i64 (ob.st.vars 3), .slice v1 v2 v3] 32)).heap[w4.heap.size]? = some (.cells #[.int .i64 oa.kind, .int .i64 oa.thread, .int .i64 oa.at_, .slice x1 x2 x3, .int .i64 (oa.st.vars 0), .int .i64 (oa.st.vars 1), .int .i64 (oa.st.vars 2), .int .i64 (oa.st.vars 3), .slice y1 y2 y3] 32)) := by
      unfold Hid; rw [Below.heap_alloc _ _ _ (by simp)]; exact heap_alloc_new _ _
    have HB5 : Hid (((w4.alloc (.cells #[.int .i64 oa.kind, .int .i64 oa.thread, .int .i64 oa.at_, .slice x1 x2 x3, .int .i64 (oa.st.vars 0), .int .i64 (oa.st.vars 1), .int .i64 (oa.st.vars 2), .int .i64 (oa.st.vars 3), .slice y1 y2 y3] 32)).alloc (.cells #[.int .i64 ob.kind, .int .i64 ob.thread, .int .i64 ob.at_, .slice z1 z2 z3, .int .i64 (ob.st.vars 0), .int .i64 (ob.st.vars 1), .int .i64 (ob.st.vars 2), .int .i64 (ob.st.vars 3), .slice v1 v2 v3] 32)).heap[w4.heap.size + 1]? = some (.cells #[.int .i64 ob.kind, .int .i64 ob.thread, .int .i64 ob.at_, .slice z1 z2 z3, .int .i64 (ob.st.vars 0), .int .i64 (ob.st.vars 1), .int .i64 (ob.st.vars 2), .int .i64 (ob.st.vars 3), .slice v1 v2 v3] 32)) := by
      have := heap_alloc_new (w4.alloc (.cells #[.int .i64 oa.kind, .int .i64 oa.thread, .int .i64 oa.at_, .slice x1 x2 x3, .int .i64 (oa.st.vars 0), .int .i64 (oa.st.vars 1), .int .i64 (oa.st.vars 2), .int .i64 (oa.st.vars 3), .slice y1 y2 y3] 32)) (.cells #[.int .i64 ob.kind, .int .i64 ob.thread, .int .i64 ob.at_, .slice z1 z2 z3, .int .i64 (ob.st.vars 0), .int .i64 (ob.st.vars 1), .int .i64 (ob.st.vars 2), .int .i64 (ob.st.vars 3), .slice v1 v2 v3] 32)
      unfold Hid
      simpa using this
    have HG45 : Hid (w4.grownBy ((w4.alloc (.cells #[.int .i64 oa.kind, .int .i64 oa.thread, .int .i64 oa.at_, .slice x1 x2 x3, .int .i64 (oa.st.vars 0), .int .i64 (oa.st.vars 1), .int .i64 (oa.st.vars 2), .int .i64 (oa.st.vars 3), .slice y1 y2 y3] 32)).alloc (.cells #[.int .i64 ob.kind, .int .i64 ob.thread, .int .i64 ob.at_, .slice z1 z2 z3, .int .i64 (ob.st.vars 0), .int .i64 (ob.st.vars 1), .int .i64 (ob.st.vars 2), .int .i64 (ob.st.vars 3), .slice v1 v2 v3] 32)) none) := grown_alloc (grown_alloc (grown_refl _ _))
    generalize (w4.alloc (.cells #[.int .i64 oa.kind, .int .i64 oa.thread, .int .i64 oa.at_, .slice x1 x2 x3, .int .i64 (oa.st.vars 0), .int .i64 (oa.st.vars 1), .int .i64 (oa.st.vars 2), .int .i64 (oa.st.vars 3), .slice y1 y2 y3] 32)).alloc (.cells #[.int .i64 ob.kind, .int .i64 ob.thread, .int .i64 ob.at_, .slice z1 z2 z3, .int .i64 (ob.st.vars 0), .int .i64 (ob.st.vars 1), .int .i64 (ob.st.vars 2), .int .i64 (ob.st.vars 3), .slice v1 v2 v3] 32) = w5 at *
    have HST : Hid (∀ u, w5.grownBy u none → u.cell? ⟨w.heap.size, 0, none⟩ = some (.slice ao p.length cap) ∧ (u.cell? ⟨w4.heap.size, 0, none⟩ = some (.int .i64 oa.kind) ∧ u.cell? ⟨w4.heap.size, 1, none⟩ = some (.int .i64 oa.thread) ∧ u.cell? ⟨w4.heap.size, 2, none⟩ = some (.int .i64 oa.at_) ∧ u.cell? ⟨w4.heap.size, 3, none⟩ = some (.slice x1 x2 x3) ∧ u.cell? ⟨w4.heap.size, 4, none⟩ = some (.int .i64 (oa.st.vars 0)) ∧ u.cell? ⟨w4.heap.size, 5, none⟩ = some (.int .i64 (oa.st.vars 1)) ∧ u.cell? ⟨w4.heap.size, 6, none⟩ = some (.int .i64 (oa.st.vars 2)) ∧ u.cell? ⟨w4.heap.size, 7, none⟩ = some (.int .i64 (oa.st.vars 3)) ∧ u.cell? ⟨w4.heap.size, 8, none⟩ = some (.slice y1 y2 y3)) ∧ (u.cell? ⟨w4.heap.size + 1, 0, none⟩ = some (.int .i64 ob.kind) ∧ u.cell? ⟨w4.heap.size + 1, 1, none⟩ = some (.int .i64 ob.thread) ∧ u.cell? ⟨w4.heap.size + 1, 2, none⟩ = some (.int .i64 ob.at_) ∧ u.cell? ⟨w4.heap.size + 1, 3, none⟩ = some (.slice z1 z2 z3) ∧ u.cell? ⟨w4.heap.size + 1, 4, none⟩ = some (.int .i64 (ob.st.vars 0)) ∧ u.cell? ⟨w4.heap.size + 1, 5, none⟩ = some (.int .i64 (ob.st.vars 1)) ∧ u.cell? ⟨w4.heap.size + 1, 6, none⟩ = some (.int .i64 (ob.st.vars 2)) ∧ u.cell? ⟨w4.heap.size + 1, 7, none⟩ = some (.int .i64 (ob.st.vars 3)) ∧ u.cell? ⟨w4.heap.size + 1, 8, none⟩ = some (.slice v1 v2 v3))) := fun u hu => by
      have ka : u.heap[w4.heap.size]? = some (.cells #[.int .i64 oa.kind, .int .i64 oa.thread, .int .i64 oa.at_, .slice x1 x2 x3, .int .i64 (oa.st.vars 0), .int .i64 (oa.st.vars 1), .int .i64 (oa.st.vars 2), .int .i64 (oa.st.vars 3), .slice y1 y2 y3] 32) := by rw [hu.block _ (Array.getElem?_eq_some_iff.1 HA5.out).1 (by simp)]; exact HA5.out
      have kb : u.heap[w4.heap.size + 1]? = some (.cells #[.int .i64 ob.kind, .int .i64 ob.thread, .int .i64 ob.at_, .slice z1 z2 z3, .int .i64 (ob.st.vars 0), .int .i64 (ob.st.vars 1), .int .i64 (ob.st.vars 2), .int .i64 (ob.st.vars 3), .slice v1 v2 v3] 32) := by rw [hu.block _ (Array.getElem?_eq_some_iff.1 HB5.out).1 (by simp)]; exact HB5.out
      obtain ⟨p0, p1, p2, p3, p4, p5, p6, p7, p8, _⟩ := nine_cells ka
      obtain ⟨q0, q1, q2, q3, q4, q5, q6, q7, q8, _⟩ := nine_cells kb
      exact ⟨pres_grown (grown_trans HG45.out hu) _ _ c4, ⟨p0, p1, p2, p3, p4, p5, p6, p7, p8⟩, ⟨q0, q1, q2, q3, q4, q5, q6, q7, q8⟩⟩
    have HPq : Hid (∀ u, w5.grownBy u none → ProgAt u (.agg #[.slice ao p.length cap]) p) := fun u hu => HP.out.pres (pres_grown (grown_trans HG4.out (grown_trans HG45.out hu)))
    obtain ⟨_, ⟨ha0, ha1, ha2, _⟩, ⟨hb0, hb1, hb2, _⟩⟩ := HST.out w5 (grown_refl _ _)
    clear c4 HA5 HB5
    go_wp2_with fail
    refine (sameVerdict_m oa ob _).mono ?_
    rintro e w6 ⟨rfl, hg6⟩
    have HG56 := hide hg6
    have HG6 : Hid (w.grownBy w6 none) := grown_trans HG4.out (grown_trans HG45.out hg6)
    clear hg6 ha0 ha1 ha2 hb0 hb1 hb2
    cases hlk : likeV oa ob
    · have HE : Hid (sameS p a b = false) := by unfold Hid; rw [HSM.out, hlk]; rfl
      clear hlk
      go_wp2_with fail
      exact bodyPost_ret (v := .tuple #[.bool false, .int .i64 0]) (by simp [results, Tryz.results47, go_sem]) rfl ⟨HG6.out, Or.inl ⟨H0.out, by rw [HE.out]⟩⟩
    · have HE : Hid (sameS p a b = (formS p oa == formS p ob)) := by unfold Hid; rw [HSM.out, hlk]; rfl
      clear hlk
      have hSt6 := HST.out w6.drew (grown_drew HG56.out)
      go_wp2_with fail
      refine wp_region_head (fun u => u.cell? ⟨w.heap.size, 0, none⟩ = some (.slice ao p.length cap) ∧ (u.cell? ⟨w4.heap.size, 0, none⟩ = some (.int .i64 oa.kind) ∧ u.cell? ⟨w4.heap.size, 1, none⟩ = some (.int .i64 oa.thread) ∧ u.cell? ⟨w4.heap.size, 2, none⟩ = some (.int .i64 oa.at_) ∧ u.cell? ⟨w4.heap.size, 3, none⟩ = some (.slice x1 x2 x3) ∧ u.cell? ⟨w4.heap.size, 4, none⟩ = some (.int .i64 (oa.st.vars 0)) ∧ u.cell? ⟨w4.heap.size, 5, none⟩ = some (.int .i64 (oa.st.vars 1)) ∧ u.cell? ⟨w4.heap.size, 6, none⟩ = some (.int .i64 (oa.st.vars 2)) ∧ u.cell? ⟨w4.heap.size, 7, none⟩ = some (.int .i64 (oa.st.vars 3)) ∧ u.cell? ⟨w4.heap.size, 8, none⟩ = some (.slice y1 y2 y3)) ∧ (u.cell? ⟨w4.heap.size + 1, 0, none⟩ = some (.int .i64 ob.kind) ∧ u.cell? ⟨w4.heap.size + 1, 1, none⟩ = some (.int .i64 ob.thread) ∧ u.cell? ⟨w4.heap.size + 1, 2, none⟩ = some (.int .i64 ob.at_) ∧ u.cell? ⟨w4.heap.size + 1, 3, none⟩ = some (.slice z1 z2 z3) ∧ u.cell? ⟨w4.heap.size + 1, 4, none⟩ = some (.int .i64 (ob.st.vars 0)) ∧ u.cell? ⟨w4.heap.size + 1, 5, none⟩ = some (.int .i64 (ob.st.vars 1)) ∧ u.cell? ⟨w4.heap.size + 1, 6, none⟩ = some (.int .i64 (ob.st.vars 2)) ∧ u.cell? ⟨w4.heap.size + 1, 7, none⟩ = some (.int .i64 (ob.st.vars 3)) ∧ u.cell? ⟨w4.heap.size + 1, 8, none⟩ = some (.slice v1 v2 v3))) 8 (by kernel_rfl) (by kernel_rfl) hSt6 ?_
      intro hHeld
      refine wpHead_take (i := 0) (v := ?vva0) rfl (by kernel_rfl) (fun _ _ _ h => h) (Or.inl ⟨by rfl, ?hya0⟩) hHeld ?resta0
      case hya0 => (rintro u ⟨hu0, ⟨ha0, ha1, ha2, ha3, ha4, ha5, ha6, ha7, ha8⟩, ⟨hb0, hb1, hb2, hb3, hb4, hb5, hb6, hb7, hb8⟩⟩; go_simp; try with_reducible rfl)
      simp only [Act.put, List.setIfInBounds_toArray]
      refine wpHead_take (i := 1) (v := ?vva1) rfl (by kernel_rfl) (fun _ _ _ h => h) (Or.inl ⟨by rfl, ?hya1⟩) hHeld ?resta1
      case hya1 => (rintro u ⟨hu0, ⟨ha0, ha1, ha2, ha3, ha4, ha5, ha6, ha7, ha8⟩, ⟨hb0, hb1, hb2, hb3, hb4, hb5, hb6, hb7, hb8⟩⟩; go_simp; try with_reducible rfl)
      simp only [Act.put]
      refine wpHead_take (i := 3) (v := ?vva3) rfl (by kernel_rfl) (fun _ _ _ h => h) (Or.inl ⟨by rfl, ?hya3⟩) hHeld ?resta3
      case hya3 => (rintro u ⟨hu0, ⟨ha0, ha1, ha2, ha3, ha4, ha5, ha6, ha7, ha8⟩, ⟨hb0, hb1, hb2, hb3, hb4, hb5, hb6, hb7, hb8⟩⟩; go_simp; try with_reducible rfl)
      simp only [Act.put]
      refine wpHead_take (i := 4) (v := ?vva4) rfl (by kernel_rfl) (fun _ _ _ h => h) (Or.inl ⟨by rfl, ?hya4⟩) hHeld ?resta4
      case hya4 => (rintro u ⟨hu0, ⟨ha0, ha1, ha2, ha3, ha4, ha5, ha6, ha7, ha8⟩, ⟨hb0, hb1, hb2, hb3, hb4, hb5, hb6, hb7, hb8⟩⟩; go_simp; try with_reducible rfl)
      simp only [Act.put]
      refine wpHead_alone (i := 2) rfl (by kernel_rfl) (by kernel_rfl) (by rfl) ?_
      intro K2 hK2
      have HK2 := hide hK2
      clear hK2
      go_simp
      refine (HLF.out _ (grown_drew (grown_trans HG34.out (grown_trans HG45.out HG56.out))) (HPq.out _ (grown_drew HG56.out))).mono ?_
      rintro e w7 ⟨fa, rfl, hF7, hg7⟩
      obtain ⟨f1, f2, f3, rfl⟩ := owns_form hF7
      have hf2 := owns_lenq hF7
      subst hf2
      have HF7 := hide (owns_ints hF7)
      have HG67 : Hid (w6.grownBy w7 none) := grown_fromDrew hg7
      have hHeld7 := HST.out w7 (grown_trans HG56.out HG67.out)
      refine HK2.out _ _ hHeld7 ?_
      clear HK2 hF7 hg7
      try simp only [Act.put, List.setIfInBounds_toArray]
      refine wpHead_alone (i := 5) rfl (by kernel_rfl) (by kernel_rfl) (by rfl) ?_
      intro K5 hK5
      have HK5 := hide hK5
      clear hK5
      go_simp
      refine (HLG.out _ (grown_trans HG45.out (grown_trans HG56.out HG67.out)) (HPq.out _ (grown_trans HG56.out HG67.out))).mono ?_
      rintro e w8 ⟨fb, rfl, hF8, hg8⟩
      obtain ⟨g1, g2, g3, rfl⟩ := owns_form hF8
      have hg2 := owns_lenq hF8
      subst hg2
      have HF8 := hide (owns_ints hF8)
      have HG78 := hide hg8
      have HG58 : Hid (w5.grownBy w8 none) := grown_trans HG56.out (grown_trans HG67.out hg8)
      have hHeld8 := HST.out w8 HG58.out
      refine HK5.out _ _ hHeld8 ?_
      clear HK5 hF8 hg8
      try simp only [Act.put, List.setIfInBounds_toArray]
      refine wpHead_alone (i := 6) rfl (by kernel_rfl) (by kernel_rfl) (by rfl) ?_
      intro K6 hK6
      have HK6 := hide hK6
      clear hK6
      go_simp
      have hla : (formS p oa).length ≤ 9223372036854775806 := by
        obtain ⟨_, _, e, _⟩ := HF7.out
        have := HFL.out
        omega
      refine (eqInts_m (formS p oa) (formS p ob) _ _ w8 ((HF7.out.pres (pres_grown HG78.out)).mono HG78.out.size) HF8.out hla).mono ?_
      rintro e w9 ⟨rfl, hl9⟩
      have hg9 : w8.grownBy w9 none := grown_of_like hl9
      have HG9 : Hid (w.grownBy w9 none) := grown_trans (grown_trans HG4.out HG45.out) (grown_trans HG58.out hg9)
      have hHeld9 := HST.out w9 (grown_trans HG58.out hg9)
      refine HK6.out _ _ hHeld9 ?_
      clear HK6 hl9 hg9
      try simp only [Act.put, List.setIfInBounds_toArray]
      refine wpHead_take (i := 7) (v := ?vvb7) rfl (by kernel_rfl) (fun _ _ _ h => h) (Or.inl ⟨by rfl, ?hyb7⟩) hHeld9 ?restb7
      case hyb7 => (rintro u ⟨hu0, ⟨ha0, ha1, ha2, ha3, ha4, ha5, ha6, ha7, ha8⟩, ⟨hb0, hb1, hb2, hb3, hb4, hb5, hb6, hb7, hb8⟩⟩; go_simp; try with_reducible rfl)
      simp only [Act.put, List.setIfInBounds_toArray]
      refine wpHead_last rfl (by kernel_rfl) (by kernel_rfl) (by rfl) ?_
      go_simp
      generalize hz : (formS p oa == formS p ob) = z at *
      clear hz hHeld hHeld7 hHeld8 hHeld9
      go_wp2_with fail
      exact bodyPost_ret (v := .tuple #[.bool z, .int .i64 0]) (by simp [results, Tryz.results47, go_sem]) rfl ⟨HG9.out, Or.inl ⟨H0.out, by rw [HE.out]⟩⟩
  · have H0 := hide h0
    have hne : (checkRunsN p [a, b] != 0) = true := by simpa using h0
    clear h0
    generalize hE : checkRunsN p [a, b] = e at *
    have HE := hide hE
    clear hE
    go_wp2_with fail
    exact bodyPost_ret (v := .tuple #[.bool false, .int .i64 e]) (by simp [results, Tryz.results47, go_sem]) rfl ⟨HG1.out, Or.inr ⟨by rw [HE.out]; exact H0.out, by rw [HE.out]⟩⟩

end Go.Proofs.YtklenjmfalljgaaGreatDoor

/- append of a slice that may be nil. -/
namespace Go.Proofs.YtklenjmfalljgaaGreatDoor
open Go.RowKit

section
variable {P : Program} {w : World} {ops : Array Oper} {rest : List Oper} {o : Oper} {a : Act} {Q : Exit → Act → World → Prop}
/-- append of a slice (nil, empty or not) onto a row of the call's own. -/
theorem wpList_append_any (hgd : o.guard = none) (s x : Operand) (t : TypeId) (ho : o.op = .call { callee := .builtin .append, args := #[s, x], argTypes := #[t, t] })
    (base : Nat) (e : TypeId) (i : TypeInfo) (z : Value) (size bytes : Nat) (ht : P.underlying t = some (.slice e)) (hi : P.info? e = some i) (hz : i.zero = some z) (hsize : i.size = size) (hby : i.bytes = bytes) (hzs : z.cells.size = size) (hsz : 0 < size)
    (v : Value) (n : Nat) (xs : List Value) (hs : a.eval s = v) (hown : w.ownsRow base e size v n xs) (so : Option Addr) (m c : Nat) (news : List Value) (hx : a.eval x = .slice so m c) (hl : news.length = m * size)
    (hso : so = none → m = 0 ∧ c = 0) (hnews : ∀ ad, so = some ad → ∀ j u, news[j]? = some u → w.cell? (ad.add j) = some u) (h1 : ∀ u ∈ news, u.oneCell' = true) (h63 : n + m ≤ maxLen) (hbytes : (n + m) * bytes ≤ 140737488355328) (hbase : base ≤ w.heap.size)
    (h : ∀ ta tn tc w', w'.ownsRow base e size (.slice ta tn tc) (n + m) (xs ++ news) → w.grownBy w' v.ownBlock → wpList P ops Q rest (a.put o.dst (.slice ta tn tc)) w') : wpList P ops Q (o :: rest) a w := by
  refine wpList_plain hgd fun K hK => ?_
  cases so with
  | none =>
    obtain ⟨rfl, rfl⟩ := hso rfl
    have hrun := run_append_owned_none (P := P) w base t o.type e i size ht hi v n xs hown
    have hx0 : news = [] := List.length_eq_zero_iff.1 (by omega)
    obtain ⟨ta, tn, tc, rfl⟩ := owns_form hown
    unfold Oper.wp
    simp [execOp, ho, resolve, invoke, builtin, hs, hx, hrun, Result.andThen]
    exact hK _ _ (h _ _ _ w (by rw [hx0]; simpa using hown) (grown_refl _ _))
  | some ad =>
    obtain ⟨v', w', hrun, h2, h3, h4, h5⟩ := run_append_own_at (P := P) w base t o.type e i z size bytes ht hi hz hsize hby hzs hsz v n xs hown ad m c news hl (hnews ad rfl) h1 h63 hbytes hbase
    obtain ⟨ta, tn, tc, rfl⟩ := owns_form h2
    unfold Oper.wp
    simp [execOp, ho, resolve, invoke, builtin, hs, hx, hrun, Result.andThen]
    exact hK _ _ (h _ _ _ w' h2 h3)
end

end Go.Proofs.YtklenjmfalljgaaGreatDoor
