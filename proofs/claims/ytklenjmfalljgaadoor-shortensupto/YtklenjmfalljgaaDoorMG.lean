/- The texts Agv Rfa Rfb Rfc Rfd Rfe Rff Rfg. -/
import Derived.Test.YtklenjmfalljgaaDoorMF
import Derived.Deep.DeepCutAuto
import Derived.Deep.Cut
import Derived.Deep.AppendLies

/- The walk of the hands' again. -/
namespace Go.Proofs.YtklenjmfalljgaaDoor
open Go.RowKit
attribute [local go_sem] Go.World.cell?_alloc_some

/-- A nil list of a program has no room. -/
def ProgNil (W : World) (pv : Value) : Prop := ∀ g o n cap t rv, pv = .agg #[.slice (some ⟨g, o, none⟩) n cap] → t < n → W.cell? ⟨g, o + t, none⟩ = some rv → nilA rv

set_option maxHeartbeats 4000000 in
set_option maxRecDepth 100000 in
theorem again_g (W : World) (B : Nat) (w : World) (b : Nat) (who : Nat → Role) (n : Int) (f : Nat → Value) (K : Nat → List (Value × Int)) (pv sv : Value) (p : List (List Ins)) (s : List Int) (wh : Int)
    (h : Hz B w b who n f K) (hW : W.grownBy w none) (hWB : W.heap.size ≤ B) (hS : ShpAt W) (hP : ProgAt W pv p) (hPN : ProgNil W pv) (hI : IntsAt W.heap.size W sv s) (hnil : nilA sv) (hpl : p.length ≤ 1048576) (hpc : ∀ c ∈ p, c.length ≤ 1048576) (hsl : s.length ≤ 1048576) (hA : AskC wh) :
    Calls Tryd.prog 30 #[pt b, .int .i64 wh, pv, sv] w (HzG W B b n K) := by
  obtain ⟨i0, hi0, hz0, hz1, hz2⟩ := info_parts info_insH
  obtain ⟨i1, hi1, hy0, hy1, hy2⟩ := info_parts info_codeH
  have HH := hide h
  have HW := hide hW
  have HS := hide hS
  have HP := hide hP
  have HI := hide hI
  have HPC := hide hpc
  have HPN := hide hPN
  have HNL := hide hnil
  have HA := hide hA
  obtain ⟨ao, cap, rfl⟩ := hP.form
  obtain ⟨so, sc, rfl⟩ := hI.form
  have hpt : pt b = .pointer (some ⟨b, 0, none⟩) := rfl
  have HPG := hide (program_g W B (w.alloc (.cells #[.slice ao p.length cap] 25)) b who n f K [] [] [] (.agg #[.slice ao p.length cap]) p (h.lx.grown (grown_alloc (grown_refl _ _))) (grown_alloc hW) hWB hP hpl hpc (by simp) (by simp))
  clear h hW hS hP hI hpc hPN hnil hA
  rw [hpt] at HPG ⊢
  go_enter Tryd.func30, Tryd.ntmps30
  go_wp2_with fail
  refine HPG.out.mono ?_
  clear HPG
  rintro e w1 ⟨g, LC1, who1, f1, rfl, hx1, hlc, hf1, hb1⟩
  have hwo : who w.heap.size = .other := by
    by_cases e : who w.heap.size = .other
    · exact e
    · exact absurd (HH.out.1.1.dom _ e).2 (by omega)
  obtain ⟨hbx, hwx⟩ := hf1.oth w.heap.size (by simp) hwo (fun e => e)
  have HW1 : Hid (W.grownBy w1 none) := hf1.base (grown_alloc HW.out) hWB (fun g e => (HH.out.1.1.dom g e).1) (fun _ e => e.elim)
  have c1 : w1.cell? ⟨w.heap.size, 0, none⟩ = some (.slice ao p.length cap) := by
    simp only [World.cell?, hbx, heap_alloc_new]; rfl
  have hlt1 : w.heap.size < w1.heap.size := World.block_lt_of_cell? w1 _ c1
  have hll : LC1.length = p.length := by rw [← hlc]; simp
  simp only [List.nil_append] at hx1
  have hw9 : who1 w1.heap.size = .other := by
    by_cases e : who1 w1.heap.size = .other
    · exact e
    · exact absurd (hx1.hs.1.dom _ e).2 (by omega)
  have HX1 := hide hx1
  have HLC := hide hlc
  have HWX := hide hwx
  have HW9 := hide hw9
  have HLL := hide hll
  have HC1 := hide c1
  clear hx1 hlc hf1 hb1 hbx hwo hwx hll hw9 c1
  go_upto_region 2 with fail
  obtain ⟨w2, hw2⟩ : ∃ w2, w2 = w1.alloc (.cells #[.slice (some ⟨g, 0, none⟩) p.length (p.length + 2)] 25) := ⟨_, rfl⟩
  have HG12 : Hid (w1.grownBy w2 none) := by unfold Hid; rw [hw2]; exact grown_alloc (grown_refl _ _)
  have hb2 : w2.heap[w1.heap.size]? = some (.cells #[.slice (some ⟨g, 0, none⟩) p.length (p.length + 2)] 25 (0, 0)) := by rw [hw2]; exact heap_alloc_new w1 _
  rw [← hw2]
  clear hw2
  have HX2 := hide (HX1.out.grown HG12.out)
  have HW2 : Hid (W.grownBy w2 none) := grown_trans HW1.out HG12.out
  have c9 : w2.cell? ⟨w1.heap.size, 0, none⟩ = some (.slice (some ⟨g, 0, none⟩) p.length (p.length + 2)) := by simp [World.cell?, hb2]
  have HC9 := hide c9
  have HC2 := hide (pres_grown HG12.out _ _ HC1.out)
  have hl9 : w1.heap.size < w2.heap.size := World.block_lt_of_cell? w2 _ c9
  have HSG := hide (schedule_g B w2 b who1 n f1 K [] LC1 [(g, p.length)] 0 (.slice so s.length sc) s HX2.out ((HI.out.pres (pres_grown HW2.out)).mono HW2.out.size) (val_other HX2.out.hs hWB HI.out) hsl (by simp))
  clear hb2 c9 HC1 HG12 HX1
  rw [hpt] at HSG
  go_wp2_with fail
  refine HSG.out.mono ?_
  clear HSG
  rintro e w3 ⟨gs, who3, f3, rfl, hx3, hf3⟩
  simp only [List.nil_append] at hx3
  have HW3 : Hid (W.grownBy w3 none) := hf3.base HW2.out hWB (fun g e => (HX2.out.hs.1.dom g e).1) (fun _ e => e.elim)
  obtain ⟨hbx, hwx⟩ := hf3.oth w.heap.size (by omega) HWX.out (fun e => e)
  obtain ⟨hby, hwy⟩ := hf3.oth w1.heap.size hl9 HW9.out (fun e => e)
  have c6 : w3.cell? ⟨w.heap.size, 0, none⟩ = some (.slice ao p.length cap) := by rw [World.cell?_of_block hbx]; exact HC2.out
  have c9 : w3.cell? ⟨w1.heap.size, 0, none⟩ = some (.slice (some ⟨g, 0, none⟩) p.length (p.length + 2)) := by rw [World.cell?_of_block hby]; exact HC9.out
  have hgb : w3.heap[g]? = some (.cells (lentRows LC1) 29 (0, 0)) := by
    have := (hx3.le.lr 0 (by simp)).1
    simp only [List.getElem_cons_zero, List.take_zero, List.map_nil, List.sum_nil, List.drop_zero] at this
    rw [List.take_of_length_le (by rw [HLL.out]; omega)] at this
    exact this
  have hPx : ProgAt w3 (.agg #[.slice (some ⟨g, 0, none⟩) p.length (p.length + 2)]) p := lent_prog (LC0 := []) (by simpa using hx3.le) hgb HLC.out _
  have hIx : IntsAt w3.heap.size w3 (.slice (some ⟨gs, 0, none⟩) s.length (s.length + 2)) s := lent_ints (hx3.le.li (gs, s, .slice so s.length sc) (by simp)).1
  have HAS := hide (HA.out p s _ _ _ _ w3 (HS.out.pres (pres_grown HW3.out)) hPx hIx (fun _ _ e => by simp at e) (HP.out.pres (pres_grown HW3.out)) ((HI.out.pres (pres_grown HW3.out)).mono HW3.out.size) HNL.out hpl HPC.out)
  have HX3 := hide hx3
  have HWX3 := hide hwx
  have HW93 := hide hwy
  have HC6 := hide c6
  have HC93 := hide c9
  clear hx3 hf3 hbx hby hwx hwy hgb hPx hIx HWX HW9 HC2 HC9 HX2
  go_wp2_with fail
  refine HAS.out.mono ?_
  clear HAS c6 c9
  rintro e w4 ⟨rfl, hg4⟩
  have HX4 := hide (HX3.out.grown hg4)
  have HW4 : Hid (W.grownBy w4 none) := grown_trans HW3.out hg4
  have HC64 := hide (pres_grown hg4 _ _ HC6.out)
  have HC94 := hide (pres_grown hg4 _ _ HC93.out)
  clear hg4 HC6 HC93
  go_upto_region 5 with fail
  obtain ⟨w5, hw5⟩ : ∃ w5, w5 = w4.alloc (.cells #[.slice none 0 0] 25) := ⟨_, rfl⟩
  have HG45 : Hid (w4.grownBy w5 none) := by unfold Hid; rw [hw5]; exact grown_alloc (grown_refl _ _)
  have hb5 : w5.heap[w4.heap.size]? = some (.cells #[.slice none 0 0] 25 (0, 0)) := by rw [hw5]; exact heap_alloc_new w4 _
  rw [← hw5]
  clear hw5
  have hl5 : w4.heap.size < w5.heap.size := (Array.getElem?_eq_some_iff.1 hb5).1
  obtain ⟨hx5, hf5⟩ := HX4.out.new HG45.out (g := w4.heap.size) (Nat.le_refl _) hl5
  have HW5 : Hid (W.grownBy w5 none) := grown_trans HW4.out HG45.out
  have HC65 := hide (pres_grown HG45.out _ _ HC64.out)
  have HC95 := hide (pres_grown HG45.out _ _ HC94.out)
  have HW65 : Hid (setW who3 w4.heap.size .lent w.heap.size = .other) := by
    unfold Hid; rw [setW_ne _ _ (by have := World.block_lt_of_cell? w4 _ HC64.out; simp only at this; omega)]; exact HWX3.out
  have HW95 : Hid (setW who3 w4.heap.size .lent w1.heap.size = .other) := by
    unfold Hid; rw [setW_ne _ _ (by have := World.block_lt_of_cell? w4 _ HC94.out; simp only at this; omega)]; exact HW93.out
  obtain ⟨who5, hwho5⟩ : ∃ who5, who5 = setW who3 w4.heap.size .lent := ⟨_, rfl⟩
  have H0 : Hid (AgI B w5 who5 w5 b who5 n f3 K [(gs, s, .slice so s.length sc)] LC1 [(g, p.length)] w4.heap.size (.slice none 0 0) p 0) := by
    refine ⟨by rw [hwho5]; exact hx5, Fr.refl _ _ _, by simpa using HLC.out, hb5, by rw [hwho5]; exact setW_at _ _ _, fun e => ?_, ⟨rfl, Or.inl ⟨rfl, rfl⟩⟩, fun q e => by cases e⟩
    have := (HX4.out.le.lt _ e).1
    omega
  rw [← hwho5] at HW65 HW95
  have HDM : Hid (∀ q, who5 q ≠ .other → B ≤ q) := fun q e => (H0.out.lx.hs.1.dom q e).1
  clear hx5 hf5 hb5 hwho5 HX4 HX3 HG45 HC64 HC94 HWX3 HW93 HW4 HW3 HW2 HW1 HLC
  go_wp2_with fail
  go_loopw [13] (fun iv w' => ∃ i : Nat, i ≤ p.length ∧ iv = .int .i64 i ∧ Hid (∃ who' LC qv, AgI B w5 who5 w' b who' n f3 K [(gs, s, .slice so s.length sc)] LC [(g, p.length)] w4.heap.size qv p i)) (fun iv _ => p.length - (intOf iv).toNat)
  case atStart => exact ⟨0, Nat.zero_le _, rfl, ⟨_, _, _, H0.out⟩⟩
  case round =>
    clear H0
    obtain ⟨i, hi, rfl, HIE⟩ := hrel
    obtain ⟨who', LC, qv, hAI⟩ := HIE.out
    clear HIE
    obtain ⟨w6, hw6⟩ : ∃ w6, w6 = wr := ⟨_, rfl⟩
    rw [← hw6] at hAI ⊢
    clear hw6
    have HAI := hide hAI
    have c6 : w6.cell? ⟨w.heap.size, 0, none⟩ = some (.slice ao p.length cap) := by
      rw [World.cell?_of_block (hAI.fr.oth w.heap.size (World.block_lt_of_cell? w5 _ HC65.out) HW65.out (fun e => e)).1]; exact HC65.out
    have HW6 : Hid (W.grownBy w6 none) := hAI.fr.base HW5.out hWB HDM.out (fun _ e => e.elim)
    clear hAI
    by_cases hlt : i < p.length
    · have t0 : (0 : Int) ≤ (i : Int) := by omega
      have t1 : (i : Int) < p.length := by omega
      obtain ⟨pg, po, hao, rv, hrv, hcv⟩ := (show ∃ g o, ao = some ⟨g, o, none⟩ ∧ ∃ rv, W.cell? ⟨g, o + i, none⟩ = some rv ∧ CodeAt W rv p[i] from by
        obtain ⟨ao', cap', e, hh⟩ := HP.out
        simp only [Value.agg.injEq, Array.mk.injEq, List.cons.injEq, Value.slice.injEq, and_true, true_and] at e
        obtain ⟨g, o, e1, rv, e2, e3⟩ := hh i hlt
        exact ⟨g, o, by rw [e.1]; exact e1, rv, e2, e3⟩)
      subst hao
      have hnr : nilA rv := HPN.out pg po p.length cap i rv rfl hlt hrv
      have hcl : p[i].length ≤ 1048576 := HPC.out _ (List.getElem_mem hlt)
      obtain ⟨c, hc⟩ : ∃ c, p[i] = c := ⟨_, rfl⟩
      rw [hc] at hcv hcl
      have HCE := hide hc
      clear hc
      have hcv0 := hcv
      obtain ⟨ca, cc, rfl, _⟩ := hcv
      have hcv6 : CodeAt w6 (.slice ca c.length cc) c := hcv0.pres (pres_grown HW6.out)
      have r6 := pres_grown HW6.out _ _ hrv
      have HSO : Hid (ca = none → c.length = 0 ∧ cc = 0) := fun e => hnr _ _ (by rw [e])
      have HNW : Hid (∀ ad, ca = some ad → ∀ j u, (codeL c)[j]? = some u → w6.cell? (ad.add j) = some u) := fun ad e => by
        subst e; exact codeL_cells hcv6
      have hil : (codeL c).length = c.length * 4 := codeL_len c
      have h63 : 0 + c.length ≤ maxLen := by unfold maxLen; omega
      have q0 : (c.length : Int) ≤ 1048576 := by omega
      clear hcv0 hcv6 hrv hnr
      go_upto_if 49 with (at_builtin; refine wpList_append_any rfl _ _ _ rfl w6.heap.size 28 i0 _ 4 32 Tryd.underlying29 hi0 hz0 hz1 hz2 rfl (by omega) (.slice none 0 0) 0 [] rfl ⟨rfl, Or.inl ⟨rfl, rfl⟩⟩ ca c.length cc (codeL c) rfl hil HSO.out HNW.out (codeL_one _) h63 (by omega) (Nat.le_refl _) ?_; intro ta tn tc w7 hown7 hg7)
      simp only [Nat.zero_add, List.nil_append] at hown7
      have htn := owns_lenq hown7
      subst htn
      have HG7 : Hid (w6.grownBy w7 none) := hg7
      have HO7 := hide hown7
      clear hown7 hg7 hil h63 HSO HNW r6 c6
      go_cut [14] (fun tv w' => Hid (∃ ta tc, tv = .slice ta c.length tc ∧ w'.ownsRow w6.heap.size 28 4 tv c.length (codeL (modC c)) ∧ w6.grownBy w' none))
      case first =>
        by_cases hs1 : 0 < c.length
        · have t2 : (0 : Int) < c.length := by omega
          obtain ⟨tg, hta, htg, hfz⟩ : ∃ tg, ta = some ⟨tg, 0, none⟩ ∧ w6.heap.size ≤ tg ∧ ∀ o, w7.frozen? ⟨tg, o, none⟩ = false := by
            rcases HO7.out.2 with ⟨_, e⟩ | ⟨g, cap, cur, hv, hb', hh, _⟩
            · omega
            · simp only [Value.slice.injEq] at hv
              exact ⟨g, hv.1, hb', fun o => by simp [World.frozen?, hh]⟩
          subst hta
          have cu : ∀ j, j < 4 → ∃ u, w7.cell? ⟨tg, j, none⟩ = some u := fun j hj => by
            obtain ⟨u, hu⟩ : ∃ u, (codeL c)[j]? = some u := ⟨_, List.getElem?_eq_getElem (by rw [codeL_len]; omega)⟩
            exact ⟨u, by rw [HO7.out.cellAt _ (by omega)]; exact hu⟩
          obtain ⟨v0, m0⟩ := cu 0 (by omega)
          obtain ⟨v1, m1⟩ := cu 1 (by omega)
          obtain ⟨v2, m2⟩ := cu 2 (by omega)
          obtain ⟨v3, m3⟩ := cu 3 (by omega)
          have f0 := hfz 0
          have f1' := hfz 1
          have f2 := hfz 2
          have f3' := hfz 3
          have HNX : Hid (((((w7.setCell ⟨tg, 0, none⟩ (.int .i64 11)).setCell ⟨tg, 1, none⟩ (.int .i64 1)).setCell ⟨tg, 2, none⟩ (.int .i64 0)).setCell ⟨tg, 3, none⟩ (.int .i64 0)).ownsRow w6.heap.size 28 4 (.slice (some ⟨tg, 0, none⟩) c.length tc) c.length (codeL (modC c))) := by
            unfold Hid; rw [← modC_set hs1]; exact owns_setCell (owns_setCell (owns_setCell (owns_setCell HO7.out 0 _) 1 _) 2 _) 3 _
          have HNG : Hid (w6.grownBy ((((w7.setCell ⟨tg, 0, none⟩ (.int .i64 11)).setCell ⟨tg, 1, none⟩ (.int .i64 1)).setCell ⟨tg, 2, none⟩ (.int .i64 0)).setCell ⟨tg, 3, none⟩ (.int .i64 0)) none) := grown_setNew (grown_setNew (grown_setNew (grown_setNew HG7.out htg) htg) htg) htg
          clear hfz cu
          go_wp2_with fail
          go_meet
          exact ⟨_, _, rfl, HNX.out, HNG.out⟩
        · have t2 : (c.length : Int) ≤ 0 := by omega
          have HE : Hid (modC c = c) := modC_nil hs1
          go_wp2_with fail
          go_meet
          exact ⟨_, _, rfl, by rw [HE.out]; exact HO7.out, HG7.out⟩
      case rest =>
      obtain ⟨ta2, tc2, rfl, ho8, hg8⟩ := hcut.out
      clear hcut HO7 HG7
      obtain ⟨w8, hw8⟩ : ∃ w8, w8 = wc := ⟨_, rfl⟩
      rw [← hw8] at ho8 hg8 ⊢
      clear hw8
      refine ‹∀ a w, Code.wp Tryd.prog _ (Exit.inBlock 1 _) a w → _› _ _ ?_
      refine agRound (HAI.out.grown hg8) hlt HCE hpl hcl hl5 ho8 (fun q e => ?_) ?_ ?_
      · have h1 := owns_block ho8 q e
        by_cases ho : who' q = .other
        · exact ho
        · exact absurd (HAI.out.lx.hs.1.dom q ho).2 (by omega)
      · exact fun _ _ _ _ _ h => h
      intro z15 z53 z54 z55 z56 z57 z58 z59 z60 z61 z62 z63 z64 z65 z66 z67 z68 z69 z70 z71 z72 z73 z74 z75 z76 z77 z78 z79 z80 z81 z82 z83 z84 who'' LC' qv' w' hA'
      have HA' := hide hA'
      clear hA'
      go_wp2_with fail
      go_roundw
      case rel => exact ⟨i + 1, by omega, by go_num, ⟨who'', LC', qv', HA'.out⟩⟩
      case measure => simp [intOf]; omega
    · have t1 : (p.length : Int) ≤ (i : Int) := by omega
      have hin : i = p.length := by omega
      have HIN := hide hin
      have hLL := HAI.out.len hi
      have HLN := hide hLL
      have hcod : LC.map (·.2.1) = p.map modC := by
        have := HAI.out.cod
        rw [hin] at this
        simpa using this
      have HCD := hide hcod
      clear hin hLL hcod
      go_upto_if 37 with fail
      refine wp_cond_false rfl ?_
      refine wp_exit ?_
      refine ‹∀ a w, Code.wp Tryd.prog _ _ a w → _› _ _ ?_
      obtain ⟨qa, qn, qc, hqv⟩ := owns_form HAI.out.row
      subst hqv
      have hqn := owns_lenq HAI.out.row
      have hqn2 : qn = (p.map modC).length := by rw [hqn, HIN.out]; simp
      subst hqn2
      have hpm : (p.map modC).length = p.length := by simp
      refine againTail (p := p.map modC) (g := g) (qa := qa) (qc := qc) (by rw [hpm]; exact HAI.out.lx) HW6.out hWB HS.out HI.out HNL.out hsl HCD.out (by rw [hpm]; exact hpl) (fun c hc => ?_) HA ?_ ?_ ?_
      · obtain ⟨c0, h0, rfl⟩ := List.mem_map.1 hc
        rw [modC_len]; exact HPC.out c0 h0
      · intro w' hsz hbl
        have wgs : who' gs = .lent := (HAI.out.lx.le.li (gs, s, .slice so s.length sc) (by simp)).2.1
        have ngs : ∀ q, q ∉ [(gs, s, Value.slice so s.length sc)].map (·.1) ++ (LC.map (·.1) ++ [(g, p.length)].map (·.1)) → q ≠ gs := fun q hq e => hq (by rw [e]; simp)
        refine ⟨?_, ?_, ?_⟩
        · refine ⟨qa, qc, rfl, fun t ht => ?_⟩
          have htp : t < p.length := by rw [hpm] at ht; exact ht
          have htL : t < LC.length := by have := HLN.out; omega
          obtain ⟨qg, hqa⟩ : ∃ qg, qa = some ⟨qg, 0, none⟩ := by
            rcases HAI.out.row.2 with ⟨_, e⟩ | ⟨g, cap, cur, hv, hb', hh, _⟩
            · have := HIN.out; omega
            · simp only [Value.slice.injEq] at hv
              exact ⟨g, hv.1⟩
          subst hqa
          obtain ⟨h1, h2, h3⟩ := HAI.out.wrw qg rfl
          have hrow := HAI.out.row
          rw [← hqn] at hrow
          refine ⟨qg, 0, rfl, LC[t].2.2, ?_, ?_⟩
          · rw [Nat.zero_add, World.cell?_of_block (hbl qg (owns_ltH HAI.out.row qg rfl) (ngs qg h2) (fun k e => by rw [h1] at e; cases e)), hrow.cellAt _ (by omega)]
            rw [List.take_of_length_le (by have := HLN.out; omega)]
            simp [htL]
          · obtain ⟨_, _, c3, c4, _⟩ := HAI.out.lx.le.lc _ (List.getElem_mem htL)
            have e1 : LC[t].2.1 = (p.map modC)[t] := by
              have : (LC.map (·.2.1))[t]? = (p.map modC)[t]? := by rw [HCD.out]
              simpa [htL, htp] using this
            rw [← e1]
            exact code_oth c3 c4 (fun q h1 h2 => hbl q h1 (fun e => by rw [e, wgs] at h2; cases h2) (fun k e => by rw [h2] at e; cases e))
        · rw [World.cell?_of_block (hbl w4.heap.size (Array.getElem?_eq_some_iff.1 HAI.out.box).1 (ngs _ HAI.out.nbx) (fun k e => by rw [HAI.out.wbx] at e; cases e))]
          simp [World.cell?, HAI.out.box]
        · obtain ⟨h1, h2⟩ := HAI.out.fr.oth w1.heap.size (World.block_lt_of_cell? w5 _ HC95.out) HW95.out (fun e => e)
          rw [World.cell?_of_block (hbl w1.heap.size (by have := World.block_lt_of_cell? w5 _ HC95.out; have := HAI.out.fr.size; simp only at *; omega) (fun e => by rw [e, wgs] at h2; cases h2) (fun k e => by rw [h2] at e; cases e)), World.cell?_of_block h1, hpm]
          exact HC95.out
      · exact fun _ _ _ _ _ h => h
      · intro z0 z1 z2 z3 z4 z5 z6 z7 z9 z10 z11 z12 z13 z14 z15 z16 z17 z18 z19 z20 z21 z22 z23 z24 z25 z26 z27 z28 z29 z30 z31 z32 z33 z34 z35 z36 z37 z38 z39 z40 z41 z42 z43 z44 z45 z46 z47 z48 z49 z50 z51 z52 z53 z54 z55 z56 z57 z58 z59 z60 z61 z62 z63 z64 z65 z66 z67 z68 z69 z70 z71 z72 z73 z74 z75 z76 z77 z78 z79 z80 z81 z82 z83 z84 z85 z86 z87 z88 z89 z90 z91 z92 z93 z94 z95 z96 z97 z98 z99 z100 z101 z102 z103 z104 z105 z106 z107 z108 z109 z110 z111 z112 z113 z114 z115 z116 z117 z118 z119 z120 z121 z122 z123 z124 z125 z126 z127 z128 z129 z130 z131 z132 z133 z134 z135 z136 z137 z138 z139 f' w' hz hw
        have HZ := hide hz
        have HWF := hide hw
        clear hz hw
        go_ret
        exact ⟨rfl, who', f', K, HZ.out, HWF.out, fun c _ => by omega⟩

end Go.Proofs.YtklenjmfalljgaaDoor

/- The reference's Check: pure, and its walk. -/
namespace Go.Proofs.YtklenjmfalljgaaDoor
open Go.RowKit
attribute [local go_sem] Go.World.cell?_alloc_some

def shapeR (op : Int) : Int × Int × Int :=
  if op = 1 then (4, 0, 1) else if 2 ≤ op ∧ op ≤ 7 then (4, 4, 0) else if op = 8 then (4, 0, 2) else if op = 9 ∨ op = 10 then (3, 0, 0) else if op = 11 then (4, 0, 0) else (-1, 0, 0)
def belowR (v n : Int) : Bool := v == 0 || (decide (0 < v) && decide (v < n))
def placeR (c v n : Int) : Bool := c == 1 || v == 0 || (c == 2 && decide (0 < v) && decide (v ≤ n))
def insR (i : Ins) (n : Int) : Bool := !decide ((shapeR i.op).1 < 0) && belowR i.a (shapeR i.op).1 && belowR i.b (shapeR i.op).2.1 && placeR (shapeR i.op).2.2 i.n n

theorem belowR_four (v : Int) : belowR v 4 = belowB v 4 := by
  unfold belowR belowB; rw [Bool.eq_iff_iff]; simp; omega
theorem belowR_three (v : Int) : belowR v 3 = belowB v 3 := by
  unfold belowR belowB; rw [Bool.eq_iff_iff]; simp; omega
theorem belowR_zero (v : Int) : belowR v 0 = (v == 0) := by
  unfold belowR; rw [Bool.eq_iff_iff]; simp; omega
theorem placeR_two (v n : Int) (hn : 0 ≤ n) : placeR 2 v n = belowB v (n + 1) := by
  unfold placeR belowB; rw [Bool.eq_iff_iff]; simp; omega
theorem insR_eq (i : Ins) (n : Int) (hn : 0 ≤ n) : insR i n = vIns i n := by
  obtain ⟨op, a, b, m⟩ := i
  by_cases h : 1 ≤ op ∧ op ≤ 11
  · have hc : op = 1 ∨ op = 2 ∨ op = 3 ∨ op = 4 ∨ op = 5 ∨ op = 6 ∨ op = 7 ∨ op = 8 ∨ op = 9 ∨ op = 10 ∨ op = 11 := by omega
    have z0 : placeR 0 m n = (m == 0) := by unfold placeR; simp
    have z1 : placeR 1 m n = true := by unfold placeR; simp
    have z2 := placeR_two m n hn
    rcases hc with rfl | rfl | rfl | rfl | rfl | rfl | rfl | rfl | rfl | rfl | rfl <;> simp [insR, vIns, shapeR, shp, fitsB, belowR_four, belowR_three, belowR_zero, z0, z1, z2, Bool.and_assoc]
  · have hs : shapeR op = (-1, 0, 0) := by
      unfold shapeR
      rw [if_neg (by omega), if_neg (by omega), if_neg (by omega), if_neg (by omega), if_neg (by omega)]
    have hv : vIns ⟨op, a, b, m⟩ n = false := by
      simp only [vIns]
      by_cases h1 : 1 ≤ op
      · have : ¬ op ≤ 11 := by omega
        simp [this]
      · simp [h1]
    rw [hv]
    simp [insR, hs]

set_option maxHeartbeats 400000 in
theorem rbelow_m (v n : Int) (w : World) : Calls Tryd.prog 84 #[.int .i64 v, .int .i64 n] w fun e w' => e = .returned (.bool (belowR v n)) ∧ w' = w := by
  by_cases h0 : v = 0
  · have HB : Hid (belowR v n = true) := by unfold Hid belowR; simp [h0]
    subst h0
    go_enter Tryd.func84, Tryd.ntmps84
    go_wp2_with fail
    go_ret
    exact ⟨by rw [HB.out]; rfl, rfl⟩
  · have h0' : (v == 0) = false := by simpa using h0
    by_cases h1 : 0 < v
    · by_cases h2 : v < n
      · have HB : Hid (belowR v n = true) := by unfold Hid belowR; simp [h1, h2]
        go_enter Tryd.func84, Tryd.ntmps84
        go_wp2_with fail
        go_ret
        exact ⟨by rw [HB.out]; rfl, rfl⟩
      · have HB : Hid (belowR v n = false) := by unfold Hid belowR; simp [h0, h2]
        have h3 : n ≤ v := by omega
        go_enter Tryd.func84, Tryd.ntmps84
        go_wp2_with fail
        go_ret
        exact ⟨by rw [HB.out]; rfl, rfl⟩
    · have HB : Hid (belowR v n = false) := by unfold Hid belowR; simp [h0, h1]
      have h3 : v ≤ 0 := by omega
      go_enter Tryd.func84, Tryd.ntmps84
      go_wp2_with fail
      go_ret
      exact ⟨by rw [HB.out]; rfl, rfl⟩

def shapeV (x : Int × Int × Int) : Value := .tuple #[.int .i64 x.1, .int .i64 x.2.1, .int .i64 x.2.2]
set_option maxHeartbeats 1000000 in
theorem shape_m (op : Int) (w : World) : Calls Tryd.prog 83 #[.int .i64 op] w fun e w' => e = .returned (shapeV (shapeR op)) ∧ w' = w := by
  by_cases h : 1 ≤ op ∧ op ≤ 11
  · have hc : op = 1 ∨ op = 2 ∨ op = 3 ∨ op = 4 ∨ op = 5 ∨ op = 6 ∨ op = 7 ∨ op = 8 ∨ op = 9 ∨ op = 10 ∨ op = 11 := by omega
    rcases hc with rfl | rfl | rfl | rfl | rfl | rfl | rfl | rfl | rfl | rfl | rfl
    all_goals
      go_enter Tryd.func83, Tryd.ntmps83
      go_wp2_with fail
      refine bodyPost_ret (v := shapeV (shapeR _)) (by simp [results, Tryd.results83, go_sem, shapeV, shapeR]) rfl ⟨rfl, rfl⟩
  · have hs : shapeR op = (-1, 0, 0) := by
      unfold shapeR
      rw [if_neg (by omega), if_neg (by omega), if_neg (by omega), if_neg (by omega), if_neg (by omega)]
    have n1 : (op == 1) = false := by simp; omega
    have n2 : (op == 2) = false := by simp; omega
    have n3 : (op == 3) = false := by simp; omega
    have n4 : (op == 4) = false := by simp; omega
    have n5 : (op == 5) = false := by simp; omega
    have n6 : (op == 6) = false := by simp; omega
    have n7 : (op == 7) = false := by simp; omega
    have n8 : (op == 8) = false := by simp; omega
    have n9 : (op == 9) = false := by simp; omega
    have n10 : (op == 10) = false := by simp; omega
    have n11 : (op == 11) = false := by simp; omega
    rw [hs]
    clear hs h
    go_enter Tryd.func83, Tryd.ntmps83
    go_wp2_with fail
    refine bodyPost_ret (v := shapeV (-1, 0, 0)) (by simp [results, Tryd.results83, go_sem, shapeV]) rfl ⟨rfl, rfl⟩

end Go.Proofs.YtklenjmfalljgaaDoor

/- The walk of the reference's Check. -/
namespace Go.Proofs.YtklenjmfalljgaaDoor
open Go.RowKit
attribute [local go_sem] Go.World.cell?_alloc_some

def chkR (p : List (List Ins)) : Bool := decide (1 ≤ p.length) && (decide (p.length ≤ 4) && p.all fun c => decide (c.length ≤ 16) && c.all fun i => insR i c.length)
theorem chkR_eq (p : List (List Ins)) : chkR p = vProg p := by
  unfold chkR vProg vCode
  congr 2
  congr 1
  funext c
  congr 2
  funext i
  exact insR_eq i _ (by omega)

theorem all_split {α : Type} (l : List α) (f : α → Bool) (k : Nat) (hk : k < l.length) (h : f l[k] = false) : l.all f = false := by
  rw [List.all_eq_false]
  exact ⟨_, List.getElem_mem hk, by simp [h]⟩
theorem take_all {α : Type} (l : List α) (f : α → Bool) (k : Nat) (hk : k < l.length) (h : (l.take k).all f = true) (h2 : f l[k] = true) : (l.take (k + 1)).all f = true := by
  rw [List.take_succ_eq_append_getElem hk, List.all_append, h]; simp [h2]

set_option maxRecDepth 100000 in
set_option maxHeartbeats 4000000 in
theorem refcheck_m (p : List (List Ins)) (pv : Value) (w : World) (hP : ProgAt w pv p) (hp : p.length ≤ 1048576) (hpc : ∀ c ∈ p, c.length ≤ 1048576) :
    Calls Tryd.prog 48 #[pv] w fun e w' => e = .returned (.int .i64 (checkN p)) ∧ w.grownBy w' none := by
  have HP := hide hP
  have HPC := hide hpc
  obtain ⟨ao, cap, rfl⟩ := hP.form
  clear hP hpc
  have q0 : (p.length : Int) ≤ 1048576 := by omega
  have HN1 : Hid (chkR p = false → checkN p = 1) := fun e => by rw [chkR_eq] at e; unfold checkN; simp [e]
  have HN0 : Hid (chkR p = true → checkN p = 0) := fun e => by rw [chkR_eq] at e; unfold checkN; simp [e]
  by_cases hlen : 1 ≤ p.length ∧ p.length ≤ 4
  · have g1 : (1 : Int) ≤ p.length := by omega
    have g4 : (p.length : Int) ≤ 4 := by omega
    have HCK : Hid (∀ r, (p.all fun c => decide (c.length ≤ 16) && c.all fun i => insR i c.length) = r → chkR p = r) := fun r e => by unfold chkR; rw [e]; simp [hlen.1, hlen.2]
    go_enter Tryd.func48, Tryd.ntmps48
    go_wp2_with fail
    have hg1 : w.grownBy (w.alloc (.cells #[.slice ao p.length cap] 25)) none := grown_alloc (grown_refl _ _)
    have hB1 := heap_alloc_new w (.cells #[.slice ao p.length cap] 25)
    generalize w.alloc (.cells #[.slice ao p.length cap] 25) = w1 at hg1 hB1 ⊢
    have HB1 := hide hB1
    have HG1 := hide hg1
    have hbx : w.heap.size < w1.heap.size := (Array.getElem?_eq_some_iff.1 hB1).1
    clear hg1 hB1
    go_loopw [3] (fun i w' => ∃ t : Nat, t ≤ p.length ∧ i = .int .i64 t ∧ Hid (w1.grownBy w' none) ∧ Hid ((p.take t).all (fun c => decide (c.length ≤ 16) && c.all fun i => insR i c.length) = true)) (fun i _ => p.length - (intOf i).toNat)
    case atStart => exact ⟨0, Nat.zero_le _, rfl, hide (grown_refl _ _), by simp [Hid]⟩
    case round =>
      obtain ⟨t, ht, rfl, HG, HA⟩ := hrel
      obtain ⟨w5, hw5⟩ : ∃ w5, w5 = wr := ⟨_, rfl⟩
      rw [← hw5] at HG ⊢
      clear hw5
      have c0 : w5.cell? ⟨w.heap.size, 0, none⟩ = some (.slice ao p.length cap) := pres_grown HG.out _ _ (by have := HB1.out; simp [World.cell?, this])
      by_cases hlt : t < p.length
      · obtain ⟨ao', cap', e1, hcell⟩ := HP.out
        obtain ⟨pg, po, e2, rv, r1, r2⟩ := hcell t hlt
        simp only [Value.agg.injEq, Array.mk.injEq, List.cons.injEq, Value.slice.injEq, and_true, true_and] at e1
        obtain ⟨e1, e1'⟩ := e1
        subst e1 e1' e2
        have hpl : p[t].length ≤ 1048576 := HPC.out _ (List.getElem_mem hlt)
        obtain ⟨ca, cc, rfl, hci⟩ := r2
        have d0 : w5.cell? ⟨pg, po + t, none⟩ = some (.slice ca p[t].length cc) := pres_grown (grown_trans HG1.out HG.out) _ _ r1
        have HF : Hid (∀ r, (decide (p[t].length ≤ 16) && p[t].all fun i => insR i p[t].length) = r → (r = false → (p.all fun c => decide (c.length ≤ 16) && c.all fun i => insR i c.length) = false) ∧ (r = true → (p.take (t + 1)).all (fun c => decide (c.length ≤ 16) && c.all fun i => insR i c.length) = true)) := fun r e =>
          ⟨fun e2 => all_split p _ t hlt (by rw [e, e2]), fun e2 => take_all p _ t hlt HA.out (by rw [e, e2])⟩
        have HD0 := hide r1
        have HCI := hide hci
        clear hcell r1 hci
        generalize p[t] = c at *
        have t0 : (0 : Int) ≤ (t : Int) := by omega
        have t1 : (t : Int) < p.length := by omega
        have t2 : (c.length : Int) ≤ 1048576 := by omega
        by_cases h16 : c.length ≤ 16
        · have t3 : (c.length : Int) ≤ 16 := by omega
          go_wp2_with fail
          go_loopw [5] (fun i w' => ∃ k : Nat, k ≤ c.length ∧ i = .int .i64 k ∧ Hid (w1.grownBy w' none) ∧ Hid ((c.take k).all (fun i => insR i c.length) = true)) (fun i _ => c.length - (intOf i).toNat)
          case atStart => exact ⟨0, Nat.zero_le _, rfl, HG, by simp [Hid]⟩
          case round =>
            clear c0 d0 HG
            obtain ⟨k, hk, rfl, HG, HA2⟩ := hrel
            obtain ⟨w7, hw7⟩ : ∃ w7, w7 = wr := ⟨_, rfl⟩
            rw [← hw7] at HG ⊢
            clear hw7
            by_cases hkl : k < c.length
            · obtain ⟨ig, io, rfl, x1, x2, x3, x4⟩ := HCI.out k hkl
              have hGW := grown_trans HG1.out HG.out
              have c0 : w7.cell? ⟨w.heap.size, 0, none⟩ = some (.slice (some ⟨pg, po, none⟩) p.length cap) := pres_grown HG.out _ _ (by have := HB1.out; simp [World.cell?, this])
              have d0 : w7.cell? ⟨pg, po + t, none⟩ = some (.slice (some ⟨ig, io, none⟩) c.length cc) := pres_grown hGW _ _ HD0.out
              have y1 := pres_grown hGW _ _ x1
              have y2 := pres_grown hGW _ _ x2
              have y3 := pres_grown hGW _ _ x3
              have y4 := pres_grown hGW _ _ x4
              have HF2 : Hid (∀ r, insR c[k] c.length = r → (r = false → (c.all fun i => insR i c.length) = false) ∧ (r = true → (c.take (k + 1)).all (fun i => insR i c.length) = true)) := fun r e =>
                ⟨fun e2 => all_split c _ k hkl (by rw [e, e2]), fun e2 => take_all c _ k hkl HA2.out (by rw [e, e2])⟩
              clear x1 x2 x3 x4 hGW
              generalize c[k] = ins at *
              obtain ⟨op, ia, ib, im⟩ := ins
              simp only at y1 y2 y3 y4
              have s0 : (0 : Int) ≤ (k : Int) := by omega
              have s1 : (k : Int) < c.length := by omega
              go_wp2_with fail
              have hg8 : w7.grownBy (w7.alloc (.cells #[.int .i64 op, .int .i64 ia, .int .i64 ib, .int .i64 im] 28)) none := grown_alloc (grown_refl _ _)
              have hb8 := heap_alloc_new w7 (.cells #[.int .i64 op, .int .i64 ia, .int .i64 ib, .int .i64 im] 28)
              generalize w7.alloc (.cells #[.int .i64 op, .int .i64 ia, .int .i64 ib, .int .i64 im] 28) = w8 at hg8 hb8 ⊢
              have z1 : w8.cell? ⟨w7.heap.size, 1, none⟩ = some (.int .i64 ia) := by simp [World.cell?, hb8]
              have z2 : w8.cell? ⟨w7.heap.size, 2, none⟩ = some (.int .i64 ib) := by simp [World.cell?, hb8]
              have z3 : w8.cell? ⟨w7.heap.size, 3, none⟩ = some (.int .i64 im) := by simp [World.cell?, hb8]
              have HG8 := hide (grown_trans HG.out hg8)
              clear hg8 hb8 y1 y2 y3 y4 d0 c0 HG
              refine (shape_m op w8).mono ?_
              rintro e w9 ⟨rfl, hw9⟩
              have hw9 := hw9.symm
              subst hw9
              have HIR : Hid (∀ r, (!decide ((shapeR op).1 < 0) && belowR ia (shapeR op).1 && belowR ib (shapeR op).2.1 && placeR (shapeR op).2.2 im c.length) = r → insR ⟨op, ia, ib, im⟩ c.length = r) := fun r e => e
              have hc3 : (shapeR op).2.2 = 0 ∨ (shapeR op).2.2 = 1 ∨ (shapeR op).2.2 = 2 := by
                unfold shapeR; repeat' split
                all_goals simp
              have ha0 : (shapeR op).1 = -1 ∨ 0 ≤ (shapeR op).1 := by
                unfold shapeR; repeat' split
                all_goals simp
              unfold shapeV
              generalize shapeR op = sr at *
              obtain ⟨sa, sb, sc⟩ := sr
              simp only at HIR hc3 ha0 ⊢
              go_wp2_with fail
              refine (rbelow_m ia sa w8).mono ?_
              rintro e w9 ⟨rfl, hw9⟩
              have hw9 := hw9.symm
              subst hw9
              go_wp2_with fail
              refine (rbelow_m ib sb w8).mono ?_
              rintro e w9 ⟨rfl, hw9⟩
              have hw9 := hw9.symm
              subst hw9
              generalize belowR ia sa = xb at *
              generalize belowR ib sb = yb at *
              have HPL : Hid (∀ r, placeR sc im c.length = r → insR ⟨op, ia, ib, im⟩ c.length = (!decide (sa < 0) && xb && yb && r)) := fun r e => HIR.out _ (by rw [e])
              clear HIR
              go_upto_region 16 with fail
              go_cut [12] (fun zv w' => zv = .bool (placeR sc im c.length) ∧ w' = w8)
              case first =>
                by_cases him : im = 0
                · have hpl2 : placeR sc im c.length = true := by unfold placeR; simp [him]
                  have him' : (im == 0) = true := by simpa using him
                  rcases hc3 with rfl | rfl | rfl
                  all_goals
                    go_wp2_with fail
                    go_meet
                    exact ⟨by rw [hpl2], rfl⟩
                · have him' : (im == 0) = false := by simpa using him
                  rcases hc3 with rfl | rfl | rfl
                  · have hpl2 : placeR 0 im c.length = false := by unfold placeR; simp [him]
                    go_wp2_with fail
                    go_meet
                    exact ⟨by rw [hpl2], rfl⟩
                  · have hpl2 : placeR 1 im c.length = true := by unfold placeR; simp
                    go_wp2_with fail
                    go_meet
                    exact ⟨by rw [hpl2], rfl⟩
                  · by_cases hip : 0 < im
                    · by_cases hic : im ≤ (c.length : Int)
                      · have hpl2 : placeR 2 im c.length = true := by unfold placeR; simp [hip, hic]
                        go_wp2_with fail
                        go_meet
                        exact ⟨by rw [hpl2], rfl⟩
                      · have hpl2 : placeR 2 im c.length = false := by unfold placeR; simp [him, hic]
                        have hic' : (c.length : Int) < im := by omega
                        go_wp2_with fail
                        go_meet
                        exact ⟨by rw [hpl2], rfl⟩
                    · have hpl2 : placeR 2 im c.length = false := by unfold placeR; simp [him, hip]
                      have hip' : im ≤ 0 := by omega
                      go_wp2_with fail
                      go_meet
                      exact ⟨by rw [hpl2], rfl⟩
              case rest =>
              obtain ⟨rfl, hwc⟩ := hcut
              have hwc2 := hwc.symm
              subst hwc2
              generalize placeR sc im c.length = zb at *
              have HIN := hide (HPL.out zb rfl)
              clear HPL z1 z2 z3 hc3
              go_upto_region 17 with fail
              go_cut [101] (fun bv w' => bv = .bool (!insR ⟨op, ia, ib, im⟩ c.length) ∧ w' = w8)
              case first =>
                rcases ha0 with rfl | ha0
                · have hin : insR ⟨op, ia, ib, im⟩ c.length = false := by rw [HIN.out]; simp
                  go_wp2_with fail
                  go_meet
                  exact ⟨by rw [hin]; rfl, rfl⟩
                · have hna : ¬ sa < 0 := by omega
                  have hin : insR ⟨op, ia, ib, im⟩ c.length = (xb && yb && zb) := by rw [HIN.out]; simp [hna]
                  cases xb <;> cases yb <;> cases zb
                  all_goals
                    go_wp2_with fail
                    go_meet
                    exact ⟨by rw [hin]; rfl, rfl⟩
              case rest =>
              obtain ⟨rfl, hwc⟩ := hcut
              have hwc2 := hwc.symm
              subst hwc2
              clear HIN ha0
              have HFx := hide (HF2.out (insR ⟨op, ia, ib, im⟩ c.length) rfl)
              clear HF2
              generalize insR ⟨op, ia, ib, im⟩ c.length = rb at *
              cases rb
              · have HE : Hid (checkN p = 1) := by
                  refine HN1.out (HCK.out _ ?_)
                  refine (HF.out _ rfl).1 ?_
                  rw [HFx.out.1 rfl]; simp
                go_wp2_with fail
                go_ret
                exact ⟨by rw [HE.out]; rfl, grown_trans HG1.out HG8.out⟩
              · have HA3 := hide (HFx.out.2 rfl)
                go_wp2_with fail
                go_roundw
                case rel => exact ⟨k + 1, by omega, by go_num, HG8, HA3⟩
                case measure => simp [intOf]; omega
            · have s1 : (c.length : Int) ≤ (k : Int) := by omega
              have HA4 : Hid ((p.take (t + 1)).all (fun c => decide (c.length ≤ 16) && c.all fun i => insR i c.length) = true) := by
                refine (HF.out _ rfl).2 ?_
                have := HA2.out
                rw [List.take_of_length_le (by omega)] at this
                rw [this]; simp [h16]
              go_wp2_with fail
              go_roundw
              case rel => exact ⟨t + 1, by omega, by go_num, HG, HA4⟩
              case measure => simp [intOf]; omega
        · have t3 : (16 : Int) < c.length := by omega
          have HE : Hid (checkN p = 1) := by
            refine HN1.out (HCK.out _ ?_)
            refine (HF.out _ rfl).1 ?_
            simp [h16]
          go_wp2_with fail
          go_ret
          exact ⟨by rw [HE.out]; rfl, grown_trans HG1.out HG.out⟩
      · have t1 : (p.length : Int) ≤ (t : Int) := by omega
        have HE : Hid (checkN p = 0) := by
          refine HN0.out (HCK.out _ ?_)
          have := HA.out
          rw [List.take_of_length_le (by omega)] at this
          exact this
        go_wp2_with fail
        go_ret
        exact ⟨by rw [HE.out]; rfl, grown_trans HG1.out HG.out⟩
  · have HE : Hid (checkN p = 1) := HN1.out (by
      unfold chkR
      by_cases h1 : 1 ≤ p.length
      · have h4 : ¬ p.length ≤ 4 := by omega
        simp [h4]
      · simp [h1])
    by_cases h1 : p.length < 1
    · have g1 : (p.length : Int) < 1 := by omega
      go_enter Tryd.func48, Tryd.ntmps48
      go_wp2_with fail
      go_ret
      exact ⟨by rw [HE.out]; rfl, grown_alloc (grown_refl _ _)⟩
    · have g1 : (1 : Int) ≤ p.length := by omega
      have g4 : (4 : Int) < p.length := by omega
      go_enter Tryd.func48, Tryd.ntmps48
      go_wp2_with fail
      go_ret
      exact ⟨by rw [HE.out]; rfl, grown_alloc (grown_refl _ _)⟩

end Go.Proofs.YtklenjmfalljgaaDoor

/- The reference's run: done, ready, reckon, said of cells. -/
namespace Go.Proofs.YtklenjmfalljgaaDoor
open Go.RowKit
attribute [local go_sem] Go.World.cell?_alloc_some

set_option maxHeartbeats 400000 in
theorem rdone_m (b ab n cap c2 g o t len c : Nat) (ao : Option Addr) (x : Int) (w : World) (ht : t < n) (ht4 : t < 4) (hlen : len ≤ 16)
    (hp : w.cell? ⟨b, 0, none⟩ = some (.slice (some ⟨g, o, none⟩) n cap)) (ha : w.cell? ⟨b, 1, none⟩ = some (.slice (some ⟨ab, 0, none⟩) n c2))
    (hr : w.cell? ⟨g, o + t, none⟩ = some (.slice ao len c)) (hx : w.cell? ⟨ab, t, none⟩ = some (.int .i64 x)) :
    Calls Tryd.prog 135 #[.pointer (some ⟨b, 0, none⟩), .int .i64 t] w fun e w' => e = .returned (.bool (decide ((len : Int) ≤ x))) ∧ Like w' w := by
  have h1 : (0 : Int) ≤ (t : Int) := by omega
  have h2 : (t : Int) < 4 := by omega
  have h3 : (t : Int) < n := by omega
  have h4 : (len : Int) ≤ 16 := by omega
  go_enter Tryd.func135, Tryd.ntmps135
  go_wp2
  go_region
  all_goals (go_wp2; go_ret; exact ⟨rfl, rfl, rfl, rfl, rfl⟩)

set_option maxHeartbeats 400000 in
theorem rready_done (b ab n cap c2 g o t len c : Nat) (ao : Option Addr) (x : Int) (w : World) (ht : t < n) (ht4 : t < 4) (hlen : len ≤ 16) (hd : (len : Int) ≤ x)
    (hp : w.cell? ⟨b, 0, none⟩ = some (.slice (some ⟨g, o, none⟩) n cap)) (ha : w.cell? ⟨b, 1, none⟩ = some (.slice (some ⟨ab, 0, none⟩) n c2))
    (hr : w.cell? ⟨g, o + t, none⟩ = some (.slice ao len c)) (hx : w.cell? ⟨ab, t, none⟩ = some (.int .i64 x)) :
    Calls Tryd.prog 133 #[.pointer (some ⟨b, 0, none⟩), .int .i64 t] w fun e w' => e = .returned (.bool false) ∧ w.grownBy w' none := by
  go_enter Tryd.func133, Tryd.ntmps133
  go_wp2_with fail
  refine (rdone_m b ab n cap c2 g o t len c ao x w ht ht4 hlen hp ha hr hx).mono ?_
  rintro e w' ⟨rfl, hl⟩
  simp only [hd, decide_true]
  go_wp2
  go_ret
  exact ⟨rfl, grown_like (grown_refl _ _) hl⟩

set_option maxHeartbeats 4000000 in
theorem rready_m (b ab n cap c2 g o t len c h ho k : Nat) (i : Ins) (ow : Int) (w : World) (ht : t < n) (ht4 : t < 4) (hlen : len ≤ 16) (hk : k < len)
    (ha0 : 0 ≤ i.a) (ha4 : i.op = 9 → i.a < 3)
    (hp : w.cell? ⟨b, 0, none⟩ = some (.slice (some ⟨g, o, none⟩) n cap)) (ha : w.cell? ⟨b, 1, none⟩ = some (.slice (some ⟨ab, 0, none⟩) n c2))
    (hr : w.cell? ⟨g, o + t, none⟩ = some (.slice (some ⟨h, ho, none⟩) len c)) (hx : w.cell? ⟨ab, t, none⟩ = some (.int .i64 k))
    (y1 : w.cell? ⟨h, ho + k * 4, none⟩ = some (.int .i64 i.op)) (y2 : w.cell? ⟨h, ho + k * 4 + 1, none⟩ = some (.int .i64 i.a))
    (y3 : w.cell? ⟨h, ho + k * 4 + 2, none⟩ = some (.int .i64 i.b)) (y4 : w.cell? ⟨h, ho + k * 4 + 3, none⟩ = some (.int .i64 i.n))
    (_hb : b < w.heap.size) (hown : i.op = 9 → w.cell? ⟨b, 7 + i.a.toNat, none⟩ = some (.int .i64 ow)) :
    Calls Tryd.prog 133 #[.pointer (some ⟨b, 0, none⟩), .int .i64 t] w fun e w' => e = .returned (.bool (!(i.op == 9) || decide (ow < 0))) ∧ w.grownBy w' none := by
  obtain ⟨op, a, ib, im⟩ := i
  simp only at *
  have h1 : (0 : Int) ≤ (t : Int) := by omega
  have h2 : (t : Int) < 4 := by omega
  have h3 : (t : Int) < n := by omega
  have h4 : (0 : Int) ≤ (k : Int) := by omega
  have h5 : (k : Int) < len := by omega
  have hne : decide ((len : Int) ≤ (k : Int)) = false := by simp; omega
  go_enter Tryd.func133, Tryd.ntmps133
  go_wp2_with fail
  refine (rdone_m b ab n cap c2 g o t len c _ k w ht ht4 hlen hp ha hr hx).mono ?_
  rintro e w1 ⟨rfl, hl⟩
  have hg1 : w.grownBy w1 none := grown_like (grown_refl _ _) hl
  have HG := hide hg1
  simp only [hne]
  replace hp := pres_grown hg1 _ _ hp
  replace ha := pres_grown hg1 _ _ ha
  replace hr := pres_grown hg1 _ _ hr
  replace hx := pres_grown hg1 _ _ hx
  replace y1 := pres_grown hg1 _ _ y1
  replace y2 := pres_grown hg1 _ _ y2
  replace y3 := pres_grown hg1 _ _ y3
  replace y4 := pres_grown hg1 _ _ y4
  replace hown : Hid (op = 9 → w1.cell? ⟨b, 7 + a.toNat, none⟩ = some (.int .i64 ow)) := fun e => pres_grown hg1 _ _ (hown e)
  clear hg1 hl
  have n1 := World.new_ne w1 _ hp
  have n2 := World.new_ne w1 _ hr
  have n3 := World.new_ne w1 _ hx
  have n4 := World.new_ne w1 _ y1
  simp only at n1 n2 n3 n4
  have m1 := Ne.symm n1
  have m2 := Ne.symm n2
  have m3 := Ne.symm n3
  have m4 := Ne.symm n4
  by_cases h9 : op = 9
  · subst h9
    have hown := hown.out rfl
    have ha3 := ha4 rfl
    obtain ⟨l, rfl⟩ : ∃ l : Nat, a = l := ⟨a.toNat, by omega⟩
    simp only [Int.toNat_natCast] at hown
    have h6 : (l : Int) < 3 := by omega
    clear ha4
    go_wp2
    go_region
    go_wp2
    go_quiet (fail)
    go_wp2
    go_ret
    exact ⟨by simp, grown_drewN _ (grown_drew (grown_alloc HG.out))⟩
  · have h9' : (op != 9) = true := by simpa using h9
    have h9'' : (op == 9) = false := by simpa using h9
    clear ha4 h9
    go_wp2
    go_region
    go_wp2
    go_quiet (fail)
    go_wp2
    go_ret
    exact ⟨by simp [h9''], grown_drewN _ (grown_drew (grown_alloc HG.out))⟩

def reckonR (op a b : Int) : Int × Bool :=
  if op = 4 then (wrap64 (a + b), true) else if op = 5 then (wrap64 (a - b), true) else if op = 6 then (wrap64 (a * b), true) else if b = 0 then (a, false) else (wrap64 (a.tdiv b), true)

set_option maxHeartbeats 4000000 in
theorem reckon_m (op a b : Int) (w : World) (h : op = 4 ∨ op = 5 ∨ op = 6 ∨ op = 7) :
    Calls Tryd.prog 170 #[.int .i64 op, .int .i64 a, .int .i64 b] w fun e w' => e = .returned (.tuple #[.int .i64 (reckonR op a b).1, .bool (reckonR op a b).2]) ∧ w' = w := by
  rcases h with rfl | rfl | rfl | rfl
  · go_enter Tryd.func170, Tryd.ntmps170
    go_wp2_with fail
    refine bodyPost_ret (v := .tuple #[.int .i64 (wrap64 (a + b)), .bool true]) (by simp [results, Tryd.results170, go_sem]) rfl ⟨rfl, rfl⟩
  · go_enter Tryd.func170, Tryd.ntmps170
    go_wp2_with fail
    refine bodyPost_ret (v := .tuple #[.int .i64 (wrap64 (a - b)), .bool true]) (by simp [results, Tryd.results170, go_sem]) rfl ⟨rfl, rfl⟩
  · go_enter Tryd.func170, Tryd.ntmps170
    go_wp2_with fail
    refine bodyPost_ret (v := .tuple #[.int .i64 (wrap64 (a * b)), .bool true]) (by simp [results, Tryd.results170, go_sem]) rfl ⟨rfl, rfl⟩
  · have HR : Hid (reckonR 7 a b = if b = 0 then (a, false) else (wrap64 (a.tdiv b), true)) := by unfold Hid reckonR; simp
    by_cases h0 : b = 0
    · subst h0
      go_enter Tryd.func170, Tryd.ntmps170
      go_wp2_with fail
      refine bodyPost_ret (v := .tuple #[.int .i64 a, .bool false]) (by simp [results, Tryd.results170, go_sem]) rfl ⟨by rw [HR.out]; rfl, rfl⟩
    · have h0' : (b == 0) = false := by simpa using h0
      by_cases hm : b = -1
      · subst hm
        have HT : Hid (a.tdiv (-1) = -a) := by unfold Hid; simp
        go_enter Tryd.func170, Tryd.ntmps170
        go_wp2_with fail
        refine bodyPost_ret (v := .tuple #[.int .i64 (wrap64 (-a)), .bool true]) (by simp [results, Tryd.results170, go_sem]) rfl ⟨by rw [HR.out, if_neg h0, HT.out], rfl⟩
      · have hm' : (b == -1) = false := by simpa using hm
        go_enter Tryd.func170, Tryd.ntmps170
        go_wp2_with fail
        refine bodyPost_ret (v := .tuple #[.int .i64 (wrap64 (a.tdiv b)), .bool true]) (by simp [results, Tryd.results170, go_sem]) rfl ⟨by rw [HR.out, if_neg h0], rfl⟩

end Go.Proofs.YtklenjmfalljgaaDoor

/- The reference's run in memory; the beginning of its step. -/
namespace Go.Proofs.YtklenjmfalljgaaDoor
open Go.RowKit
attribute [local go_sem] Go.World.cell?_alloc_some

def ownR (s : St) (l : Nat) : Int := if s.held l = true then s.own l else -1
def atF (n : Nat) (s : St) : List Value := (List.range n).map fun t => .int .i64 (s.next t)

def runC (ps : Value) (ab rb n : Nat) (st : Value) (s : St) (k th a : Int) : Array Value :=
  #[ps, .slice (some ⟨ab, 0, none⟩) n n, .slice (some ⟨rb, 0, none⟩) n n, .int .i64 (s.vars 0), .int .i64 (s.vars 1), .int .i64 (s.vars 2), .int .i64 (s.vars 3),
    .int .i64 (ownR s 0), .int .i64 (ownR s 1), .int .i64 (ownR s 2), st, .int .i64 k, .int .i64 th, .int .i64 a]

/-- The reference's run, in memory. -/
structure RunAt (w0 w : World) (b ab rb n : Nat) (ps st : Value) (s : St) (acc : List (Int × Int)) (k th a : Int) : Prop where
  main : w.heap[b]? = some (.cells (runC ps ab rb n st s k th a) 179 (0, 0))
  ats : ∃ ty, w.heap[ab]? = some (.cells (atF n s).toArray ty (0, 0))
  regs : w.heap[rb]? = some (.cells (regsF n s).toArray 34 (0, 0))
  row : w.ownsRow (b + 1) 48 2 st acc.length (flatS acc)
  frame : w0.grownBy w none
  ab0 : w0.heap.size ≤ ab
  rb0 : w0.heap.size ≤ rb
  abb : ab < b
  rbb : rb < b
  ne : ab ≠ rb

theorem lt_n4 {n t : Nat} (hn : n ≤ 4) (h : t < n) : (n = 1 ∧ t = 0) ∨ (n = 2 ∧ t = 0) ∨ (n = 2 ∧ t = 1) ∨ (n = 3 ∧ t = 0) ∨ (n = 3 ∧ t = 1) ∨ (n = 3 ∧ t = 2) ∨ (n = 4 ∧ t = 0) ∨ (n = 4 ∧ t = 1) ∨ (n = 4 ∧ t = 2) ∨ (n = 4 ∧ t = 3) := by omega

theorem atF_set (s : St) {n t : Nat} (hn : n ≤ 4) (h : t < n) (v : Int) : (atF n s).toArray.setIfInBounds t (.int .i64 v) = (atF n (s.setNext t v)).toArray := by
  rcases lt_n4 hn h with ⟨rfl, rfl⟩ | ⟨rfl, rfl⟩ | ⟨rfl, rfl⟩ | ⟨rfl, rfl⟩ | ⟨rfl, rfl⟩ | ⟨rfl, rfl⟩ | ⟨rfl, rfl⟩ | ⟨rfl, rfl⟩ | ⟨rfl, rfl⟩ | ⟨rfl, rfl⟩ <;> rfl
theorem regsF_set (s : St) {n t r : Nat} (hn : n ≤ 4) (h : t < n) (hr : r < 4) (v : Int) : (regsF n s).toArray.setIfInBounds (t * 4 + r) (.int .i64 v) = (regsF n (s.setReg t r v)).toArray := by
  rcases lt_n4 hn h with ⟨rfl, rfl⟩ | ⟨rfl, rfl⟩ | ⟨rfl, rfl⟩ | ⟨rfl, rfl⟩ | ⟨rfl, rfl⟩ | ⟨rfl, rfl⟩ | ⟨rfl, rfl⟩ | ⟨rfl, rfl⟩ | ⟨rfl, rfl⟩ | ⟨rfl, rfl⟩ <;> rcases lt4 hr with rfl | rfl | rfl | rfl <;> rfl

theorem RunAt.cell {w0 w : World} {b ab rb n : Nat} {ps st : Value} {s : St} {acc : List (Int × Int)} {k th a : Int} (h : RunAt w0 w b ab rb n ps st s acc k th a) (j : Nat) :
    w.cell? ⟨b, j, none⟩ = (runC ps ab rb n st s k th a)[j]? ∧ w.frozen? ⟨b, j, none⟩ = false := by
  simp [World.cell?, World.frozen?, h.main]
theorem RunAt.at_ {w0 w : World} {b ab rb n : Nat} {ps st : Value} {s : St} {acc : List (Int × Int)} {k th a : Int} (h : RunAt w0 w b ab rb n ps st s acc k th a) {t : Nat} (ht : t < n) :
    w.cell? ⟨ab, t, none⟩ = some (.int .i64 (s.next t)) ∧ w.frozen? ⟨ab, t, none⟩ = false := by
  obtain ⟨ty, h⟩ := h.ats
  constructor
  · simp [World.cell?, h, atF, ht]
  · simp [World.frozen?, h]
theorem RunAt.reg {w0 w : World} {b ab rb n : Nat} {ps st : Value} {s : St} {acc : List (Int × Int)} {k th a : Int} (h : RunAt w0 w b ab rb n ps st s acc k th a) (hn : n ≤ 4) {t r : Nat} (ht : t < n) (hr : r < 4) :
    w.cell? ⟨rb, t * 4 + r, none⟩ = some (.int .i64 (s.regs t r)) ∧ w.frozen? ⟨rb, t * 4 + r, none⟩ = false := by
  have h := h.regs
  constructor
  · simp only [World.cell?, h]
    rcases lt_n4 hn ht with ⟨rfl, rfl⟩ | ⟨rfl, rfl⟩ | ⟨rfl, rfl⟩ | ⟨rfl, rfl⟩ | ⟨rfl, rfl⟩ | ⟨rfl, rfl⟩ | ⟨rfl, rfl⟩ | ⟨rfl, rfl⟩ | ⟨rfl, rfl⟩ | ⟨rfl, rfl⟩ <;> rcases lt4 hr with rfl | rfl | rfl | rfl <;> rfl
  · simp [World.frozen?, h]

/-- Growth that leaves the run's blocks. -/
theorem RunAt.grown {w0 w w' : World} {b ab rb n : Nat} {ps st : Value} {s : St} {acc : List (Int × Int)} {k th a : Int} (h : RunAt w0 w b ab rb n ps st s acc k th a) (hg : w.grownBy w' none) : RunAt w0 w' b ab rb n ps st s acc k th a := by
  obtain ⟨t1, h1⟩ := h.ats
  have h2 := h.regs
  have B : ∀ i o, w.heap[i]? = some o → w'.heap[i]? = some o := fun i o e => by rw [hg.block i (Array.getElem?_eq_some_iff.1 e).1 (by simp)]; exact e
  exact ⟨B _ _ h.main, ⟨t1, B _ _ h1⟩, B _ _ h2, owns_grown h.row hg (fun _ e => by cases e), grown_trans h.frame hg, h.ab0, h.rb0, h.abb, h.rbb, h.ne⟩

theorem RunAt.setNext {w0 w : World} {b ab rb n : Nat} {ps st : Value} {s : St} {acc : List (Int × Int)} {k th a : Int} (h : RunAt w0 w b ab rb n ps st s acc k th a) (hn : n ≤ 4) {t : Nat} (ht : t < n) (v : Int) :
    RunAt w0 (w.setCell ⟨ab, t, none⟩ (.int .i64 v)) b ab rb n ps st (s.setNext t v) acc k th a := by
  obtain ⟨t1, h1⟩ := h.ats
  have h2 := h.regs
  have := h.abb
  refine ⟨?_, ⟨t1, ?_⟩, ?_, ownsRow_setCell_below h.row (by simp; omega) _, grown_setNew h.frame h.ab0, h.ab0, h.rb0, h.abb, h.rbb, h.ne⟩
  · rw [Below.heap_setCell w _ _ b (by simp; omega)]; exact h.main
  · rw [heap_setCell_same w ab t _ _ _ h1, atF_set s hn ht]
  · rw [Below.heap_setCell w _ _ rb (by simp; exact fun e => h.ne e.symm)]; exact h2

theorem RunAt.setReg {w0 w : World} {b ab rb n : Nat} {ps st : Value} {s : St} {acc : List (Int × Int)} {k th a : Int} (h : RunAt w0 w b ab rb n ps st s acc k th a) (hn : n ≤ 4) {t r : Nat} (ht : t < n) (hr : r < 4) (v : Int) :
    RunAt w0 (w.setCell ⟨rb, t * 4 + r, none⟩ (.int .i64 v)) b ab rb n ps st (s.setReg t r v) acc k th a := by
  obtain ⟨t1, h1⟩ := h.ats
  have h2 := h.regs
  have := h.rbb
  refine ⟨?_, ⟨t1, ?_⟩, ?_, ownsRow_setCell_below h.row (by simp; omega) _, grown_setNew h.frame h.rb0, h.ab0, h.rb0, h.abb, h.rbb, h.ne⟩
  · rw [Below.heap_setCell w _ _ b (by simp; omega)]; exact h.main
  · rw [Below.heap_setCell w _ _ ab (by simp; exact h.ne)]; exact h1
  · rw [heap_setCell_same w rb _ _ _ _ h2, regsF_set s hn ht hr]

/-- A cell of the run's own block is set. -/
theorem RunAt.setMain {w0 w : World} {b ab rb n : Nat} {ps st st' : Value} {s s' : St} {acc acc' : List (Int × Int)} {k th a k' th' a' : Int} (h : RunAt w0 w b ab rb n ps st s acc k th a) {j : Nat} {v : Value}
    (e : (runC ps ab rb n st s k th a).setIfInBounds j v = runC ps ab rb n st' s' k' th' a') (e1 : s'.next = s.next) (e2 : s'.regs = s.regs) (hr : w.ownsRow (b + 1) 48 2 st' acc'.length (flatS acc')) :
    RunAt w0 (w.setCell ⟨b, j, none⟩ v) b ab rb n ps st' s' acc' k' th' a' := by
  obtain ⟨t1, h1⟩ := h.ats
  have h2 := h.regs
  have := h.abb
  have := h.rbb
  refine ⟨?_, ⟨t1, ?_⟩, ?_, ownsRow_setCell_below hr (by simp) _, grown_setNew h.frame (by have := h.ab0; omega), h.ab0, h.rb0, h.abb, h.rbb, h.ne⟩
  · rw [heap_setCell_same w b j _ _ _ h.main, e]
  · rw [Below.heap_setCell w _ _ ab (by simp; omega), h1]; simp [atF, e1]
  · rw [Below.heap_setCell w _ _ rb (by simp; omega), h2]; simp [regsF, e2]

theorem RunAt.setVar {w0 w : World} {b ab rb n : Nat} {ps st : Value} {s : St} {acc : List (Int × Int)} {k th a : Int} (h : RunAt w0 w b ab rb n ps st s acc k th a) {x : Nat} (hx : x < 4) (v : Int) :
    RunAt w0 (w.setCell ⟨b, 3 + x, none⟩ (.int .i64 v)) b ab rb n ps st (s.setVar x v) acc k th a := by
  refine h.setMain ?_ rfl rfl h.row
  rcases lt4 hx with rfl | rfl | rfl | rfl <;> rfl
theorem RunAt.setLock {w0 w : World} {b ab rb n : Nat} {ps st : Value} {s : St} {acc : List (Int × Int)} {k th a : Int} (h : RunAt w0 w b ab rb n ps st s acc k th a) {l : Nat} (hl : l < 3) (hd : Bool) (o : Int) :
    RunAt w0 (w.setCell ⟨b, 7 + l, none⟩ (.int .i64 (if hd = true then o else -1))) b ab rb n ps st (s.setLock l hd o) acc k th a := by
  refine h.setMain ?_ rfl rfl h.row
  rcases lt3 hl with rfl | rfl | rfl <;> rfl

theorem RunAt.like {w0 w w' : World} {b ab rb n : Nat} {ps st : Value} {s : St} {acc : List (Int × Int)} {k th a : Int} (h : RunAt w0 w b ab rb n ps st s acc k th a) (hl : Like w' w) : RunAt w0 w' b ab rb n ps st s acc k th a := h.grown (grown_like (grown_refl _ _) hl)
theorem RunAt.own {w0 w : World} {b ab rb n : Nat} {ps st : Value} {s : St} {acc : List (Int × Int)} {k th a : Int} (h : RunAt w0 w b ab rb n ps st s acc k th a) {l : Nat} (hl : l < 3) : w.cell? ⟨b, 7 + l, none⟩ = some (.int .i64 (ownR s l)) := by
  rw [(h.cell _).1]; rcases lt3 hl with rfl | rfl | rfl <;> rfl
theorem RunAt.var {w0 w : World} {b ab rb n : Nat} {ps st : Value} {s : St} {acc : List (Int × Int)} {k th a : Int} (h : RunAt w0 w b ab rb n ps st s acc k th a) {l : Nat} (hl : l < 4) : w.cell? ⟨b, 3 + l, none⟩ = some (.int .i64 (s.vars l)) := by
  rw [(h.cell _).1]; rcases lt4 hl with rfl | rfl | rfl | rfl <;> rfl
theorem setReg_self (s : St) (t r : Nat) : s.setReg t r (s.regs t r) = s := by
  obtain ⟨a, b, c, d, e⟩ := s
  simp only [St.setReg, St.mk.injEq, true_and, and_true]
  funext t' r'
  by_cases h : t' = t ∧ r' = r
  · simp [h.1, h.2]
  · simp [h]

theorem owns_lt_size {w : World} {base : Nat} {e : TypeId} {size : Nat} {v : Value} {n : Nat} {xs : List Value} (h : w.ownsRow base e size v n xs) : v.ownBlock ≠ some w.heap.size := by
  rcases h.2 with ⟨e1, _⟩ | ⟨g', cap', cur, hv, hb, hh, _⟩
  · rw [e1]; simp [Value.ownBlock]
  · rw [hv]
    have := (Array.getElem?_eq_some_iff.1 hh).1
    simp [Value.ownBlock]
    omega

theorem RunAt.push {w0 w w5 : World} {b ab rb n : Nat} {ps st nst : Value} {s : St} {acc : List (Int × Int)} {k th a : Int} {x : Int × Int} (h : RunAt w0 w b ab rb n ps st s acc k th a)
    (hg : w.grownBy w5 st.ownBlock) (hown : w5.ownsRow (b + 1) 48 2 nst (acc.length + 1) (flatS acc ++ [.int .i64 x.1, .int .i64 x.2])) :
    RunAt w0 (w5.setCell ⟨b, 10, none⟩ nst) b ab rb n ps nst s (acc ++ [x]) k th a := by
  obtain ⟨t1, h1⟩ := h.ats
  have h2 := h.regs
  have e1 := h.abb
  have e2 := h.rbb
  have e3 := h.ab0
  have hob := owns_block h.row
  have B : ∀ i o, i ≤ b → w.heap[i]? = some o → w5.heap[i]? = some o := fun i o hi e => by
    rw [hg.block i (Array.getElem?_eq_some_iff.1 e).1 (fun e => by have := hob _ e.symm; omega)]; exact e
  refine ⟨?_, ⟨t1, ?_⟩, ?_, ownsRow_setCell_below ?_ (by simp) _, grown_setNew (grown_row h.frame hg (fun q e => by have := hob q e; omega)) (by omega), h.ab0, h.rb0, h.abb, h.rbb, h.ne⟩
  · rw [heap_setCell_same w5 b 10 _ _ _ (B _ _ (Nat.le_refl _) h.main)]; rfl
  · rw [Below.heap_setCell w5 _ _ ab (by simp; omega)]; exact B _ _ (by omega) h1
  · rw [Below.heap_setCell w5 _ _ rb (by simp; omega)]; exact B _ _ (by omega) h2
  · rw [flatS_snoc, List.length_append]; exact hown

set_option maxHeartbeats 4000000 in
set_option maxRecDepth 100000 in
theorem rstep_m (w0 w : World) (b ab rb n cap g o t len c h ho kk : Nat) (st : Value) (s : St) (acc : List (Int × Int)) (k th a : Int) (i : Ins) (hn : n ≤ 4) (ht : t < n) (hlen : len ≤ 16) (hk : kk < len) (hacc : acc.length < 500)
    (hR : RunAt w0 w b ab rb n (.slice (some ⟨g, o, none⟩) n cap) st s acc k th a) (hnx : s.next t = kk)
    (hr : w.cell? ⟨g, o + t, none⟩ = some (.slice (some ⟨h, ho, none⟩) len c))
    (y1 : w.cell? ⟨h, ho + kk * 4, none⟩ = some (.int .i64 i.op)) (y2 : w.cell? ⟨h, ho + kk * 4 + 1, none⟩ = some (.int .i64 i.a))
    (y3 : w.cell? ⟨h, ho + kk * 4 + 2, none⟩ = some (.int .i64 i.b)) (y4 : w.cell? ⟨h, ho + kk * 4 + 3, none⟩ = some (.int .i64 i.n)) (hv : vIns i len = true) (s' : St) (hs' : s' = s.setNext t (kk + 1)) (acc' : List (Int × Int)) (ha' : acc' = acc ++ [((t : Int), (kk : Int))]) :
    Calls Tryd.prog 134 #[.pointer (some ⟨b, 0, none⟩), .int .i64 t] w fun e w' => ∃ st', e = .returned (.bool (act t i s').1) ∧
      RunAt w0 w' b ab rb n (.slice (some ⟨g, o, none⟩) n cap) st' (act t i s').2 acc' k th a := by
  have HS := hide hs'
  have HAC := hide ha'
  clear hs' ha'
  obtain ⟨i0, hi0, hz0, hz1, hz2⟩ := info_parts info_step
  have HV := hide (vIns_say hv)
  clear hv
  obtain ⟨op, ia, ib, im⟩ := i
  simp only at *
  have h1 : (0 : Int) ≤ (t : Int) := by omega
  have h3 : (t : Int) < n := by omega
  have h4 : (0 : Int) ≤ (kk : Int) := by omega
  have h5 : (kk : Int) < len := by omega
  have p0 : w.cell? ⟨b, 0, none⟩ = some (.slice (some ⟨g, o, none⟩) n cap) := (hR.cell 0).1
  have p1 : w.cell? ⟨b, 1, none⟩ = some (.slice (some ⟨ab, 0, none⟩) n n) := (hR.cell 1).1
  have a1 : w.cell? ⟨ab, t, none⟩ = some (.int .i64 kk) := by rw [(hR.at_ ht).1, hnx]
  have HR := hide hR
  have HNX := hide hnx
  clear hR hnx
  have n1 := World.new_ne w _ p0
  have n2 := World.new_ne w _ hr
  have n3 := World.new_ne w _ a1
  have n4 := World.new_ne w _ y1
  simp only at n1 n2 n3 n4
  have m1 := Ne.symm n1
  have m2 := Ne.symm n2
  have m3 := Ne.symm n3
  have m4 := Ne.symm n4
  go_enter Tryd.func134, Tryd.ntmps134
  go_wp2
  go_region
  go_upto_region 2 with fail
  have hgI : w.grownBy (w.alloc (.cells #[.int .i64 op, .int .i64 ia, .int .i64 ib, .int .i64 im] 28)).drew none := grown_drew (grown_alloc (grown_refl _ _))
  have hbI : (w.alloc (.cells #[.int .i64 op, .int .i64 ia, .int .i64 ib, .int .i64 im] 28)).drew.heap[w.heap.size]? = some (.cells #[.int .i64 op, .int .i64 ia, .int .i64 ib, .int .i64 im] 28 (0, 0)) := heap_alloc_new w _
  generalize (w.alloc (.cells #[.int .i64 op, .int .i64 ia, .int .i64 ib, .int .i64 im] 28)).drew = w2 at hgI hbI ⊢
  have HR2 := hide (HR.out.grown hgI)
  have hbw : b < w.heap.size := (Array.getElem?_eq_some_iff.1 HR.out.main).1
  have hw2 : w.heap.size < w2.heap.size := (Array.getElem?_eq_some_iff.1 hbI).1
  have HBI := hide hbI
  have HNB : Hid (st.ownBlock ≠ some w.heap.size) := owns_lt_size HR.out.row
  clear hgI hbI p0 p1 a1 hr y1 y2 y3 y4 n1 n2 n3 n4 m1 m2 m3 m4 HR
  obtain ⟨s1, s2, s3, rfl⟩ := owns_form HR2.out.row
  have q1 : w2.cell? ⟨b, 10, none⟩ = some (.slice s1 s2 s3) := (HR2.out.cell 10).1
  have q2 : w2.cell? ⟨b, 1, none⟩ = some (.slice (some ⟨ab, 0, none⟩) n n) := (HR2.out.cell 1).1
  have q3 : w2.cell? ⟨ab, t, none⟩ = some (.int .i64 kk) := by rw [(HR2.out.at_ ht).1, HNX.out]
  refine wp_region_head (fun u => u.cell? ⟨b, 10, none⟩ = some (.slice s1 s2 s3) ∧ u.cell? ⟨b, 1, none⟩ = some (.slice (some ⟨ab, 0, none⟩) n n) ∧ u.cell? ⟨ab, t, none⟩ = some (.int .i64 kk)) 18 (by kernel_rfl) (by kernel_rfl) ?_ ?_
  · exact ⟨q1, q2, q3⟩
  intro hHeld
  refine wpHead_take (i := 0) (v := ?vv0) rfl (by kernel_rfl) (fun _ _ _ h => h) (Or.inl ⟨by rfl, ?hy0⟩) (by assumption) ?rest0
  case hy0 => (intro u hu; obtain ⟨g1, g2, g3⟩ := hu; go_simp; try with_reducible rfl)
  simp only [Act.put, List.setIfInBounds_toArray]
  refine wpHead_take (i := 1) (v := ?vv1) rfl (by kernel_rfl) (fun _ _ _ h => h) (Or.inl ⟨by rfl, ?hy1⟩) (by assumption) ?rest1
  case hy1 => (intro u hu; obtain ⟨g1, g2, g3⟩ := hu; go_simp; try with_reducible rfl)
  simp only [Act.put]
  refine wpHead_take (i := 2) (v := ?vv2) rfl (by kernel_rfl) (fun _ _ _ h => h) (Or.inl ⟨by rfl, ?hy2⟩) (by assumption) ?rest2
  case hy2 => (intro u hu; obtain ⟨g1, g2, g3⟩ := hu; go_simp; try with_reducible rfl)
  simp only [Act.put]
  refine wpHead_take (i := 3) (v := ?vv3) rfl (by kernel_rfl) (fun _ _ _ h => h) (Or.inl ⟨by rfl, ?hy3⟩) (by assumption) ?rest3
  case hy3 => (intro u hu; obtain ⟨g1, g2, g3⟩ := hu; go_simp; try with_reducible rfl)
  simp only [Act.put]
  refine wpHead_take (i := 4) (v := ?vv4) rfl (by kernel_rfl) (fun _ _ _ h => h) (Or.inl ⟨by rfl, ?hy4⟩) (by assumption) ?rest4
  case hy4 => (intro u hu; obtain ⟨g1, g2, g3⟩ := hu; go_simp; try with_reducible rfl)
  simp only [Act.put]
  refine wpHead_take (i := 5) (v := ?vv5) rfl (by kernel_rfl) (fun _ _ _ h => h) (Or.inl ⟨by rfl, ?hy5⟩) (by assumption) ?rest5
  case hy5 => (intro u hu; obtain ⟨g1, g2, g3⟩ := hu; go_simp; try with_reducible rfl)
  simp only [Act.put]
  refine wpHead_take (i := 6) (v := ?vv6) rfl (by kernel_rfl) (fun _ _ _ h => h) (Or.inl ⟨by rfl, ?hy6⟩) (by assumption) ?rest6
  case hy6 => (intro u hu; obtain ⟨g1, g2, g3⟩ := hu; go_simp; try with_reducible rfl)
  simp only [Act.put]
  refine wpHead_take (i := 7) (v := ?vv7) rfl (by kernel_rfl) (fun _ _ _ h => h) (Or.inl ⟨by rfl, ?hy7⟩) (by assumption) ?rest7
  case hy7 => (intro u hu; obtain ⟨g1, g2, g3⟩ := hu; go_simp; try with_reducible rfl)
  simp only [Act.put]
  refine wpHead_take (i := 8) (v := ?vv8) rfl (by kernel_rfl) (fun _ _ _ h => h) (Or.inl ⟨by rfl, ?hy8⟩) (by assumption) ?rest8
  case hy8 => (intro u hu; obtain ⟨g1, g2, g3⟩ := hu; go_simp; try with_reducible rfl)
  simp only [Act.put]
  refine wpHead_take (i := 9) (v := ?vv9) rfl (by kernel_rfl) (fun _ _ _ h => h) (Or.inl ⟨by rfl, ?hy9⟩) (by assumption) ?rest9
  case hy9 => (intro u hu; obtain ⟨g1, g2, g3⟩ := hu; go_simp; try with_reducible rfl)
  simp only [Act.put]
  refine wpHead_take (i := 10) (v := ?vv10) rfl (by kernel_rfl) (fun _ _ _ h => h) (Or.inl ⟨by rfl, ?hy10⟩) (by assumption) ?rest10
  case hy10 => (intro u hu; obtain ⟨g1, g2, g3⟩ := hu; go_simp; try with_reducible rfl)
  simp only [Act.put]
  refine wpHead_take (i := 11) (v := ?vv11) rfl (by kernel_rfl) (fun _ _ _ h => h) (Or.inl ⟨by rfl, ?hy11⟩) (by assumption) ?rest11
  case hy11 => (intro u hu; obtain ⟨g1, g2, g3⟩ := hu; go_simp; try with_reducible rfl)
  simp only [Act.put]
  refine wpHead_take (i := 12) (v := ?vv12) rfl (by kernel_rfl) (fun _ _ _ h => h) (Or.inl ⟨by rfl, ?hy12⟩) (by assumption) ?rest12
  case hy12 => (intro u hu; obtain ⟨g1, g2, g3⟩ := hu; go_simp; try with_reducible rfl)
  simp only [Act.put]
  refine wpHead_take (i := 13) (v := ?vv13) rfl (by kernel_rfl) (fun _ _ _ h => h) (Or.inl ⟨by rfl, ?hy13⟩) (by assumption) ?rest13
  case hy13 => (intro u hu; obtain ⟨g1, g2, g3⟩ := hu; go_simp; try with_reducible rfl)
  simp only [Act.put]
  refine wpHead_alone (i := 14) rfl (by kernel_rfl) (by kernel_rfl) (by rfl) ?_
  intro K15 hK15
  have HK15 := hide hK15
  clear hK15
  go_simp
  have hgA : w2.grownBy ((w2.alloc (.cells #[.int .i64 t, .int .i64 kk] 48)).drew) none := grown_drew (grown_alloc (grown_refl _ _))
  have hS5 : (w2.alloc (.cells #[.int .i64 t, .int .i64 kk] 48)).drew.cell? ⟨b, 10, none⟩ = some (.slice s1 s2 s3) ∧ (w2.alloc (.cells #[.int .i64 t, .int .i64 kk] 48)).drew.cell? ⟨b, 1, none⟩ = some (.slice (some ⟨ab, 0, none⟩) n n) ∧ (w2.alloc (.cells #[.int .i64 t, .int .i64 kk] 48)).drew.cell? ⟨ab, t, none⟩ = some (.int .i64 kk) :=
    ⟨pres_grown hgA _ _ q1, pres_grown hgA _ _ q2, pres_grown hgA _ _ q3⟩
  refine HK15.out _ _ hS5 ?_
  clear HK15
  have HGA := hide hgA
  clear hgA
  have h63 : acc.length + 1 ≤ maxLen := by unfold maxLen; omega
  have hby : (acc.length + 1) * 16 ≤ 140737488355328 := by omega
  refine wpHead_alone (i := 15) rfl (by kernel_rfl) (by kernel_rfl) (by rfl) ?_
  intro K16 hK16
  have HK16 := hide hK16
  clear hK16
  refine wp_append_lies _ (.tmp 30) (.tmp 40) 33 (by rfl) (b + 1) 48 i0 _ 2 16 Tryd.underlying33 hi0 hz0 hz1 hz2 rfl (by omega) (.slice s1 s2 s3) acc.length (flatS acc) (by rfl) (owns_grown HR2.out.row HGA.out (fun _ e => by cases e)) ⟨w2.heap.size, 0, none⟩ 1 1 [.int .i64 t, .int .i64 kk] (by rfl) (by rfl) (World.news_of_block (cs := #[.int .i64 t, .int .i64 kk]) (t := 48) (fr := (0, 0)) (heap_alloc_new w2 _)) (by simp [Value.oneCell']) (by omega) h63 hby (by simp; omega) (w2.heap.size + 1) (by simp) ?_
  intro g2 cap2 w5 hown5 hgrow hat hlt5
  have hob : ∀ q, (Value.slice s1 s2 s3).ownBlock = some q → b + 1 ≤ q := fun q e => owns_block HR2.out.row q e
  have hS6 : w5.cell? ⟨b, 10, none⟩ = some (.slice s1 s2 s3) ∧ w5.cell? ⟨b, 1, none⟩ = some (.slice (some ⟨ab, 0, none⟩) n n) ∧ w5.cell? ⟨ab, t, none⟩ = some (.int .i64 kk) := by
    obtain ⟨z1, z2, z3⟩ := hS5
    have := HR2.out.abb
    refine ⟨?_, ?_, ?_⟩
    · rw [hgrow.cell_far _ (World.block_lt_of_cell? _ _ z1) (fun e => by have := hob _ e.symm; simp only at this; omega)]; exact z1
    · rw [hgrow.cell_far _ (World.block_lt_of_cell? _ _ z2) (fun e => by have := hob _ e.symm; simp only at this; omega)]; exact z2
    · rw [hgrow.cell_far _ (World.block_lt_of_cell? _ _ z3) (fun e => by have := hob _ e.symm; simp only at this; omega)]; exact z3
  have HR6 : Hid (RunAt w0 (w5.setCell ⟨b, 10, none⟩ (.slice (some ⟨g2, 0, none⟩) (acc.length + 1) cap2)) b ab rb n (.slice (some ⟨g, o, none⟩) n cap) (.slice (some ⟨g2, 0, none⟩) (acc.length + 1) cap2) s (acc ++ [((t : Int), (kk : Int))]) k th a) :=
    RunAt.push HR2.out (grown_trans (grown_none HGA.out) hgrow) hown5
  have HBI6 : Hid ((w5.setCell ⟨b, 10, none⟩ (.slice (some ⟨g2, 0, none⟩) (acc.length + 1) cap2)).heap[w.heap.size]? = some (.cells #[.int .i64 op, .int .i64 ia, .int .i64 ib, .int .i64 im] 28 (0, 0))) := by
    unfold Hid
    have hnb : (Value.slice s1 s2 s3).ownBlock ≠ some w.heap.size := HNB.out
    rw [Below.heap_setCell _ _ _ _ (by simp; omega), hgrow.block _ (by have := HGA.out.size; omega) (fun e => hnb e.symm), HGA.out.block _ (by omega) (by simp)]
    exact HBI.out
  have f10 : w5.frozen? ⟨b, 10, none⟩ = false := by
    have := HR2.out.main
    have := hgrow.block b (by have := HGA.out.size; omega) (fun e => by have := hob _ e.symm; omega)
    simp [World.frozen?, this, HGA.out.block b (by omega) (by simp), HR2.out.main]
  clear hown5 hgrow hat
  refine HK16.out _ _ hS6 ?_
  clear HK16
  simp only [Act.put, List.setIfInBounds_toArray]
  refine wpHead_take (i := 16) (v := ?vv16) rfl (by kernel_rfl) (fun _ _ _ h => h) (Or.inl ⟨by rfl, ?hy16⟩) (by assumption) ?rest16
  case hy16 => (intro u hu; obtain ⟨g1, g2, g3⟩ := hu; go_simp; try with_reducible rfl)
  simp only [Act.put]
  refine wpHead_take (i := 17) (v := ?vv17) rfl (by kernel_rfl) (fun _ _ _ h => h) (Or.inl ⟨by rfl, ?hy17⟩) (by assumption) ?rest17
  case hy17 => (intro u hu; obtain ⟨g1, g2, g3⟩ := hu; go_simp; try with_reducible rfl)
  simp only [Act.put]
  refine wpHead_last rfl (by kernel_rfl) (by kernel_rfl) (by rfl) ?_
  obtain ⟨z1, z2, z3⟩ := hS6
  clear hHeld hS5 q1 q2 q3 HR2 HBI HGA hob
  go_simp
  clear z1 z2 z3 f10
  generalize w5.setCell ⟨b, 10, none⟩ (.slice (some ⟨g2, 0, none⟩) (acc.length + 1) cap2) = w6 at HR6 HBI6 ⊢
  have b1 : w6.cell? ⟨b, 1, none⟩ = some (.slice (some ⟨ab, 0, none⟩) n n) := (HR6.out.cell 1).1
  have b2 : w6.cell? ⟨b, 2, none⟩ = some (.slice (some ⟨rb, 0, none⟩) n n) := (HR6.out.cell 2).1
  have a6 : w6.cell? ⟨ab, t, none⟩ = some (.int .i64 kk) := by rw [(HR6.out.at_ ht).1, HNX.out]
  have a6f := (HR6.out.at_ ht).2
  have e1 : ab ≠ b := by have := HR6.out.abb; omega
  have e2 : b ≠ ab := Ne.symm e1
  have k16 : (kk : Int) < 16 := by omega
  go_upto_region 5 with fail
  have hR7 := HR6.out.setNext hn ht ((kk : Int) + 1)
  rw [← HS.out, ← HAC.out] at hR7
  have HR7 := hide hR7
  clear hR7
  have hnb : w.heap.size ≠ ab := by have := HR6.out.abb; omega
  have HB7 : Hid ((w6.setCell ⟨ab, t, none⟩ (.int .i64 ((kk : Int) + 1))).heap[w.heap.size]? = some (.cells #[.int .i64 op, .int .i64 ia, .int .i64 ib, .int .i64 im] 28 (0, 0))) := by
    unfold Hid
    rw [Below.heap_setCell _ _ _ _ (by simp; exact hnb)]; exact HBI6.out
  generalize w6.setCell ⟨ab, t, none⟩ (.int .i64 ((kk : Int) + 1)) = w7 at HR7 HB7 ⊢
  generalize Value.slice (some ⟨g2, 0, none⟩) (acc.length + 1) cap2 = st7 at *
  clear HS HAC HR6 HBI6 b1 b2 a6 a6f h4 h5 k16 HNX HNB h63 hby
  have x0 : w7.cell? ⟨w.heap.size, 0, none⟩ = some (.int .i64 op) := by have := HB7.out; simp [World.cell?, this]
  have x1 : w7.cell? ⟨w.heap.size, 1, none⟩ = some (.int .i64 ia) := by have := HB7.out; simp [World.cell?, this]
  have x2 : w7.cell? ⟨w.heap.size, 2, none⟩ = some (.int .i64 ib) := by have := HB7.out; simp [World.cell?, this]
  have x3 : w7.cell? ⟨w.heap.size, 3, none⟩ = some (.int .i64 im) := by have := HB7.out; simp [World.cell?, this]
  have HVo := HV.out
  clear HV
  rcases HVo with H | H | H | H | H | H | H | H | H | H | H
  · obtain ⟨rfl, e3, e4⟩ := H
    obtain ⟨r, rfl⟩ : ∃ r : Nat, ia = r := ⟨ia.toNat, by omega⟩
    have hr4 : r < 4 := by omega
    obtain ⟨c1, c2⟩ := HR7.out.reg hn ht hr4
    have HA : Hid (act t ⟨1, r, ib, im⟩ s' = (true, s'.setReg t r im)) := by simp [Hid, act]
    go_wp2
    go_region
    go_wp2
    go_ret
    exact ⟨st7, by rw [HA.out]; rfl, by rw [HA.out]; exact (HR7.out.setReg hn ht hr4 im).like ⟨rfl, rfl, rfl, rfl⟩⟩
  · obtain ⟨rfl, e3, e4, e5, e6⟩ := H
    obtain ⟨r, rfl⟩ : ∃ r : Nat, ia = r := ⟨ia.toNat, by omega⟩
    obtain ⟨v, rfl⟩ : ∃ v : Nat, ib = v := ⟨ib.toNat, by omega⟩
    have hr4 : r < 4 := by omega
    have hv4 : v < 4 := by omega
    obtain ⟨c1, c2⟩ := HR7.out.reg hn ht hr4
    have c3 := HR7.out.var hv4
    have HA : Hid (act t ⟨2, r, v, im⟩ s' = (true, s'.setReg t r (s'.vars v))) := by simp [Hid, act]
    go_wp2
    go_region
    go_wp2
    go_ret
    exact ⟨st7, by rw [HA.out]; rfl, by rw [HA.out]; exact (HR7.out.setReg hn ht hr4 _).like ⟨rfl, rfl, rfl, rfl⟩⟩
  · obtain ⟨rfl, e3, e4, e5, e6⟩ := H
    obtain ⟨r, rfl⟩ : ∃ r : Nat, ia = r := ⟨ia.toNat, by omega⟩
    obtain ⟨v, rfl⟩ : ∃ v : Nat, ib = v := ⟨ib.toNat, by omega⟩
    have hr4 : r < 4 := by omega
    have hv4 : v < 4 := by omega
    obtain ⟨c1, c2⟩ := HR7.out.reg hn ht hv4
    have c3 := HR7.out.var hr4
    have c4 := (HR7.out.cell (3 + r)).2
    have HA : Hid (act t ⟨3, r, v, im⟩ s' = (true, s'.setVar r (s'.regs t v))) := by simp [Hid, act]
    go_wp2
    go_region
    go_wp2
    go_ret
    exact ⟨st7, by rw [HA.out]; rfl, by rw [HA.out]; exact (HR7.out.setVar hr4 _).like ⟨rfl, rfl, rfl, rfl⟩⟩
  · obtain ⟨rfl, e3, e4, e5, e6⟩ := H
    obtain ⟨r, rfl⟩ : ∃ r : Nat, ia = r := ⟨ia.toNat, by omega⟩
    obtain ⟨v, rfl⟩ : ∃ v : Nat, ib = v := ⟨ib.toNat, by omega⟩
    have hr4 : r < 4 := by omega
    have hv4 : v < 4 := by omega
    obtain ⟨c1, c2⟩ := HR7.out.reg hn ht hr4
    obtain ⟨c3, c4⟩ := HR7.out.reg hn ht hv4
    have HA : Hid (act t ⟨4, r, v, im⟩ s' = ((reckonR 4 (s'.regs t r) (s'.regs t v)).2, s'.setReg t r (reckonR 4 (s'.regs t r) (s'.regs t v)).1)) := by
      simp [Hid, act, reckonR]
    have HCK : Hid (∀ u, Calls Tryd.prog 170 #[.int .i64 4, .int .i64 (s'.regs t r), .int .i64 (s'.regs t v)] u fun e w' => e = .returned (.tuple #[.int .i64 (reckonR 4 (s'.regs t r) (s'.regs t v)).1, .bool (reckonR 4 (s'.regs t r) (s'.regs t v)).2]) ∧ w' = u) := fun u => reckon_m 4 _ _ u (by omega)
    generalize reckonR 4 (s'.regs t r) (s'.regs t v) = rk at *
    obtain ⟨rk1, rk2⟩ := rk
    simp only at HA HCK
    go_wp2_with fail
    go_quiet ((go_at_call 170; exact Calls.quiet_of_same (HCK.out _)))
    go_wp2
    go_region
    go_wp2
    go_ret
    exact ⟨st7, by rw [HA.out]; rfl, by rw [HA.out]; exact (HR7.out.setReg hn ht hr4 _).like ⟨rfl, rfl, rfl, rfl⟩⟩
  · obtain ⟨rfl, e3, e4, e5, e6⟩ := H
    obtain ⟨r, rfl⟩ : ∃ r : Nat, ia = r := ⟨ia.toNat, by omega⟩
    obtain ⟨v, rfl⟩ : ∃ v : Nat, ib = v := ⟨ib.toNat, by omega⟩
    have hr4 : r < 4 := by omega
    have hv4 : v < 4 := by omega
    obtain ⟨c1, c2⟩ := HR7.out.reg hn ht hr4
    obtain ⟨c3, c4⟩ := HR7.out.reg hn ht hv4
    have HA : Hid (act t ⟨5, r, v, im⟩ s' = ((reckonR 5 (s'.regs t r) (s'.regs t v)).2, s'.setReg t r (reckonR 5 (s'.regs t r) (s'.regs t v)).1)) := by
      simp [Hid, act, reckonR]
    have HCK : Hid (∀ u, Calls Tryd.prog 170 #[.int .i64 5, .int .i64 (s'.regs t r), .int .i64 (s'.regs t v)] u fun e w' => e = .returned (.tuple #[.int .i64 (reckonR 5 (s'.regs t r) (s'.regs t v)).1, .bool (reckonR 5 (s'.regs t r) (s'.regs t v)).2]) ∧ w' = u) := fun u => reckon_m 5 _ _ u (by omega)
    generalize reckonR 5 (s'.regs t r) (s'.regs t v) = rk at *
    obtain ⟨rk1, rk2⟩ := rk
    simp only at HA HCK
    go_wp2_with fail
    go_quiet ((go_at_call 170; exact Calls.quiet_of_same (HCK.out _)))
    go_wp2
    go_region
    go_wp2
    go_ret
    exact ⟨st7, by rw [HA.out]; rfl, by rw [HA.out]; exact (HR7.out.setReg hn ht hr4 _).like ⟨rfl, rfl, rfl, rfl⟩⟩
  · obtain ⟨rfl, e3, e4, e5, e6⟩ := H
    obtain ⟨r, rfl⟩ : ∃ r : Nat, ia = r := ⟨ia.toNat, by omega⟩
    obtain ⟨v, rfl⟩ : ∃ v : Nat, ib = v := ⟨ib.toNat, by omega⟩
    have hr4 : r < 4 := by omega
    have hv4 : v < 4 := by omega
    obtain ⟨c1, c2⟩ := HR7.out.reg hn ht hr4
    obtain ⟨c3, c4⟩ := HR7.out.reg hn ht hv4
    have HA : Hid (act t ⟨6, r, v, im⟩ s' = ((reckonR 6 (s'.regs t r) (s'.regs t v)).2, s'.setReg t r (reckonR 6 (s'.regs t r) (s'.regs t v)).1)) := by
      simp [Hid, act, reckonR]
    have HCK : Hid (∀ u, Calls Tryd.prog 170 #[.int .i64 6, .int .i64 (s'.regs t r), .int .i64 (s'.regs t v)] u fun e w' => e = .returned (.tuple #[.int .i64 (reckonR 6 (s'.regs t r) (s'.regs t v)).1, .bool (reckonR 6 (s'.regs t r) (s'.regs t v)).2]) ∧ w' = u) := fun u => reckon_m 6 _ _ u (by omega)
    generalize reckonR 6 (s'.regs t r) (s'.regs t v) = rk at *
    obtain ⟨rk1, rk2⟩ := rk
    simp only at HA HCK
    go_wp2_with fail
    go_quiet ((go_at_call 170; exact Calls.quiet_of_same (HCK.out _)))
    go_wp2
    go_region
    go_wp2
    go_ret
    exact ⟨st7, by rw [HA.out]; rfl, by rw [HA.out]; exact (HR7.out.setReg hn ht hr4 _).like ⟨rfl, rfl, rfl, rfl⟩⟩
  · obtain ⟨rfl, e3, e4, e5, e6⟩ := H
    obtain ⟨r, rfl⟩ : ∃ r : Nat, ia = r := ⟨ia.toNat, by omega⟩
    obtain ⟨v, rfl⟩ : ∃ v : Nat, ib = v := ⟨ib.toNat, by omega⟩
    have hr4 : r < 4 := by omega
    have hv4 : v < 4 := by omega
    obtain ⟨c1, c2⟩ := HR7.out.reg hn ht hr4
    obtain ⟨c3, c4⟩ := HR7.out.reg hn ht hv4
    have HA : Hid (act t ⟨7, r, v, im⟩ s' = ((reckonR 7 (s'.regs t r) (s'.regs t v)).2, s'.setReg t r (reckonR 7 (s'.regs t r) (s'.regs t v)).1)) := by
      unfold Hid
      by_cases hz : s'.regs t v = 0
      · simp [act, reckonR, hz, setReg_self]
      · simp [act, reckonR, hz]
    have HCK : Hid (∀ u, Calls Tryd.prog 170 #[.int .i64 7, .int .i64 (s'.regs t r), .int .i64 (s'.regs t v)] u fun e w' => e = .returned (.tuple #[.int .i64 (reckonR 7 (s'.regs t r) (s'.regs t v)).1, .bool (reckonR 7 (s'.regs t r) (s'.regs t v)).2]) ∧ w' = u) := fun u => reckon_m 7 _ _ u (by omega)
    generalize reckonR 7 (s'.regs t r) (s'.regs t v) = rk at *
    obtain ⟨rk1, rk2⟩ := rk
    simp only at HA HCK
    go_wp2_with fail
    go_quiet ((go_at_call 170; exact Calls.quiet_of_same (HCK.out _)))
    go_wp2
    go_region
    go_wp2
    go_ret
    exact ⟨st7, by rw [HA.out]; rfl, by rw [HA.out]; exact (HR7.out.setReg hn ht hr4 _).like ⟨rfl, rfl, rfl, rfl⟩⟩
  · obtain ⟨rfl, e3, e4, e5, e6⟩ := H
    obtain ⟨r, rfl⟩ : ∃ r : Nat, ia = r := ⟨ia.toNat, by omega⟩
    have hr4 : r < 4 := by omega
    obtain ⟨c1, c2⟩ := HR7.out.reg hn ht hr4
    have b1 : w7.cell? ⟨b, 1, none⟩ = some (.slice (some ⟨ab, 0, none⟩) n n) := (HR7.out.cell 1).1
    obtain ⟨c3, c4⟩ := HR7.out.at_ ht
    by_cases hz : s'.regs t r = 0
    · have HA : Hid (act t ⟨8, r, ib, im⟩ s' = (true, s'.setNext t im)) := by simp [Hid, act, hz]
      rw [hz] at c1
      clear hz
      go_wp2
      go_quiet (fail)
      go_wp2
      go_region
      go_wp2
      go_ret
      exact ⟨st7, by rw [HA.out]; rfl, by rw [HA.out]; exact (HR7.out.setNext hn ht _).like ⟨rfl, rfl, rfl, rfl⟩⟩
    · have HA : Hid (act t ⟨8, r, ib, im⟩ s' = (true, s')) := by simp [Hid, act, hz]
      have hz' : (s'.regs t r == 0) = false := by simpa using hz
      go_wp2
      go_quiet (fail)
      go_wp2
      go_ret
      exact ⟨st7, by rw [HA.out]; rfl, by rw [HA.out]; exact HR7.out.like ⟨rfl, rfl, rfl, rfl⟩⟩
  · obtain ⟨rfl, e3, e4⟩ := H
    obtain ⟨r, rfl⟩ : ∃ r : Nat, ia = r := ⟨ia.toNat, by omega⟩
    have hr3 : r < 3 := by omega
    have c1 := HR7.out.own hr3
    have c2 := (HR7.out.cell (7 + r)).2
    have HA : Hid (act t ⟨9, r, ib, im⟩ s' = (true, s'.setLock r true t)) := by simp [Hid, act]
    go_wp2
    go_region
    go_wp2
    go_ret
    exact ⟨st7, by rw [HA.out]; rfl, by rw [HA.out]; exact (HR7.out.setLock hr3 true t).like ⟨rfl, rfl, rfl, rfl⟩⟩
  · obtain ⟨rfl, e3, e4⟩ := H
    obtain ⟨r, rfl⟩ : ∃ r : Nat, ia = r := ⟨ia.toNat, by omega⟩
    have hr3 : r < 3 := by omega
    have c1 := HR7.out.own hr3
    have c2 := (HR7.out.cell (7 + r)).2
    by_cases hz : s'.held r = true ∧ s'.own r = t
    · have HA : Hid (act t ⟨10, r, ib, im⟩ s' = (true, s'.setLock r false 0)) := by simp [Hid, act, hz]
      have hq : ownR s' r = t := by simp [ownR, hz.1, hz.2]
      rw [hq] at c1
      clear hz hq
      go_wp2
      go_quiet (fail)
      go_wp2
      go_region
      go_wp2
      go_ret
      exact ⟨st7, by rw [HA.out]; rfl, by rw [HA.out]; exact (HR7.out.setLock hr3 false 0).like ⟨rfl, rfl, rfl, rfl⟩⟩
    · have HA : Hid (act t ⟨10, r, ib, im⟩ s' = (false, s')) := by
        unfold Hid
        simp only [act]
        simp [hz]
      have hz' : (ownR s' r != (t : Int)) = true := by
        unfold ownR
        by_cases hh : s'.held r = true
        · simp only [hh, if_true]
          have : ¬ s'.own r = t := fun e => hz ⟨hh, e⟩
          simpa using this
        · simp only [hh]
          simp <;> omega
      clear hz
      go_wp2
      go_quiet (fail)
      go_wp2
      go_ret
      exact ⟨st7, by rw [HA.out]; rfl, by rw [HA.out]; exact HR7.out.like ⟨rfl, rfl, rfl, rfl⟩⟩
  · obtain ⟨rfl, e3, e4⟩ := H
    obtain ⟨r, rfl⟩ : ∃ r : Nat, ia = r := ⟨ia.toNat, by omega⟩
    have hr4 : r < 4 := by omega
    obtain ⟨c1, c2⟩ := HR7.out.reg hn ht hr4
    have HA : Hid (act t ⟨11, r, ib, im⟩ s' = (s'.regs t r != 0, s')) := by simp [Hid, act]
    go_wp2
    go_quiet (fail)
    go_wp2
    go_ret
    exact ⟨st7, by rw [HA.out]; rfl, by rw [HA.out]; exact HR7.out.like ⟨rfl, rfl, rfl, rfl⟩⟩

end Go.Proofs.YtklenjmfalljgaaDoor

/- The reference's run against the pure machine: done, ready, step. -/
namespace Go.Proofs.YtklenjmfalljgaaDoor
open Go.RowKit

def LkOk (s : St) : Prop := ∀ l, s.held l = true → 0 ≤ s.own l
theorem LkOk.zero : LkOk St.zero := fun l h => by simp [St.zero] at h
theorem LkOk.setNext {s : St} (h : LkOk s) (t : Nat) (v : Int) : LkOk (s.setNext t v) := h
theorem LkOk.setLock {s : St} (h : LkOk s) (l : Nat) (hd : Bool) (o : Int) (ho : 0 ≤ o) : LkOk (s.setLock l hd o) := fun l' e => by
  simp only [St.setLock] at e ⊢
  by_cases hl : l' = l
  · simp [hl, ho]
  · simp only [hl, if_false] at e ⊢; exact h l' e
theorem LkOk.act {s : St} (h : LkOk s) (t : Nat) (i : Ins) : LkOk (act t i s).2 := by
  by_cases h9 : i.op = 9
  · have e : Go.Proofs.YtklenjmfalljgaaDoor.act t i s = (true, s.setLock i.a.toNat true t) := by simp [Go.Proofs.YtklenjmfalljgaaDoor.act, h9]
    rw [e]; exact h.setLock _ _ _ (by omega)
  · by_cases h10 : i.op = 10
    · by_cases hz : s.held i.a.toNat = true ∧ s.own i.a.toNat = t
      · have e : Go.Proofs.YtklenjmfalljgaaDoor.act t i s = (true, s.setLock i.a.toNat false 0) := by simp [Go.Proofs.YtklenjmfalljgaaDoor.act, h10, hz]
        rw [e]; exact h.setLock _ _ _ (by omega)
      · have e : Go.Proofs.YtklenjmfalljgaaDoor.act t i s = (false, s) := by
          simp only [Go.Proofs.YtklenjmfalljgaaDoor.act, h10]
          simp [hz]
        rw [e]; exact h
    · have e : (Go.Proofs.YtklenjmfalljgaaDoor.act t i s).2.held = s.held ∧ (Go.Proofs.YtklenjmfalljgaaDoor.act t i s).2.own = s.own := by
        unfold Go.Proofs.YtklenjmfalljgaaDoor.act
        rw [if_neg h9, if_neg h10]
        repeat' split
        all_goals exact ⟨rfl, rfl⟩
      intro l hl
      rw [e.1] at hl
      rw [e.2]
      exact h l hl
theorem LkOk.step {s : St} (h : LkOk s) (p : List (List Ins)) (t : Nat) : LkOk (stepS p s t).2 := LkOk.act (h.setNext _ _) _ _
theorem LkOk.own {s : St} (h : LkOk s) (l : Nat) : decide (ownR s l < 0) = !s.held l := by
  unfold ownR
  cases e : s.held l
  · simp
  · have := h l e; simp; omega

theorem rprog {w0 : World} {ao : Option Addr} {cap : Nat} {p : List (List Ins)} (hP : ProgAt w0 (.agg #[.slice ao p.length cap]) p) {t : Nat} (ht : t < p.length) :
    ∃ g o, ao = some ⟨g, o, none⟩ ∧ ∃ rv, w0.cell? ⟨g, o + t, none⟩ = some rv ∧ CodeAt w0 rv (codeOf p t) := by
  obtain ⟨ao', cap', e, h⟩ := hP
  simp only [Value.agg.injEq, Array.mk.injEq, List.cons.injEq, Value.slice.injEq, and_true, true_and] at e
  obtain ⟨rfl, rfl⟩ := e
  obtain ⟨g, o, e1, rv, e2, e3⟩ := h t ht
  exact ⟨g, o, e1, rv, e2, by rw [codeOf_get ht]; exact e3⟩

theorem rdoneS {w0 w : World} {ao : Option Addr} {cap : Nat} {p : List (List Ins)} (hp : vProg p = true) (hP : ProgAt w0 (.agg #[.slice ao p.length cap]) p) {b ab rb : Nat} {st : Value} {s : St} {acc : List (Int × Int)} {k th a : Int}
    (hR : RunAt w0 w b ab rb p.length (.slice ao p.length cap) st s acc k th a) (hI : Inv p s) {t : Nat} (ht : t < p.length) :
    Calls Tryd.prog 135 #[.pointer (some ⟨b, 0, none⟩), .int .i64 t] w fun e w' => e = .returned (.bool (doneB p s t)) ∧ w.grownBy w' none := by
  have hn := vProg_len hp
  obtain ⟨g, o, rfl, rv, h1, ca, cc, rfl, _⟩ := rprog hP ht
  refine (rdone_m b ab p.length cap p.length g o t _ cc ca (s.next t) w ht (by omega) (vCode_len (vProg_code hp ht)) (hR.cell 0).1 (hR.cell 1).1 (pres_grown hR.frame _ _ h1) (hR.at_ ht).1).mono ?_
  rintro e w' ⟨rfl, hl⟩
  refine ⟨?_, grown_like (grown_refl _ _) hl⟩
  have := hI t ht
  congr 2
  unfold doneB
  rw [Bool.eq_iff_iff]; simp; omega

theorem rreadyS {w0 w : World} {ao : Option Addr} {cap : Nat} {p : List (List Ins)} (hp : vProg p = true) (hP : ProgAt w0 (.agg #[.slice ao p.length cap]) p) {b ab rb : Nat} {st : Value} {s : St} {acc : List (Int × Int)} {k th a : Int}
    (hR : RunAt w0 w b ab rb p.length (.slice ao p.length cap) st s acc k th a) (hI : Inv p s) (hL : LkOk s) {t : Nat} (ht : t < p.length) :
    Calls Tryd.prog 133 #[.pointer (some ⟨b, 0, none⟩), .int .i64 t] w fun e w' => e = .returned (.bool (readyB p s t)) ∧ w.grownBy w' none := by
  have hn := vProg_len hp
  have hin := hI t ht
  obtain ⟨g, o, rfl, rv, h1, ca, cc, rfl, hc⟩ := rprog hP ht
  by_cases hd : s.next t = ((codeOf p t).length : Int)
  · refine (rready_done b ab p.length cap p.length g o t _ cc ca (s.next t) w ht (by omega) (vCode_len (vProg_code hp ht)) (by omega) (hR.cell 0).1 (hR.cell 1).1 (pres_grown hR.frame _ _ h1) (hR.at_ ht).1).mono ?_
    rintro e w' ⟨rfl, hg⟩
    exact ⟨by simp [readyB, doneB, hd], hg⟩
  · obtain ⟨kk, hkk⟩ : ∃ kk : Nat, s.next t = kk := ⟨(s.next t).toNat, by omega⟩
    have hkl : kk < (codeOf p t).length := by omega
    obtain ⟨h, ho, rfl, x1, x2, x3, x4⟩ := hc kk hkl
    have hv := vProg_ins hp ht (k := (kk : Int)) (by simpa using hkl)
    have hie : insAt p t (s.next t) = (codeOf p t)[kk] := by rw [hkk, insAt_get (by simpa using hkl)]; simp
    have hie2 : insAt p t (kk : Int) = (codeOf p t)[kk] := by rw [insAt_get (by simpa using hkl)]; simp
    rw [hie2] at hv
    have hF := pres_grown hR.frame
    have say := vIns_say hv
    refine (rready_m b ab p.length cap p.length g o t _ cc h ho kk (codeOf p t)[kk] (ownR s (codeOf p t)[kk].a.toNat) w ht (by omega) (vCode_len (vProg_code hp ht)) hkl (by omega) (by omega) (hR.cell 0).1 (hR.cell 1).1 (hF _ _ h1) (by rw [(hR.at_ ht).1, hkk]) (hF _ _ x1) (hF _ _ x2) (hF _ _ x3) (hF _ _ x4) (Array.getElem?_eq_some_iff.1 hR.main).1 (fun e => hR.own (by omega))).mono ?_
    rintro e w' ⟨rfl, hg⟩
    refine ⟨?_, hg⟩
    have hnd : doneB p s t = false := by simpa [doneB] using hd
    rw [hL.own, readyB, hnd, hie]; simp

theorem rstepS {w0 w : World} {ao : Option Addr} {cap : Nat} {p : List (List Ins)} (hp : vProg p = true) (hP : ProgAt w0 (.agg #[.slice ao p.length cap]) p) {b ab rb : Nat} {st : Value} {s : St} {acc : List (Int × Int)} {k th a : Int}
    (hR : RunAt w0 w b ab rb p.length (.slice ao p.length cap) st s acc k th a) (hI : Inv p s) {t : Nat} (ht : t < p.length) (hd : doneB p s t = false) (hacc : acc.length < 500) :
    Calls Tryd.prog 134 #[.pointer (some ⟨b, 0, none⟩), .int .i64 t] w fun e w' => ∃ st', e = .returned (.bool (stepS p s t).1) ∧
      RunAt w0 w' b ab rb p.length (.slice ao p.length cap) st' (stepS p s t).2 (acc ++ [((t : Int), s.next t)]) k th a := by
  have hn := vProg_len hp
  have hin := hI t ht
  obtain ⟨g, o, rfl, rv, h1, ca, cc, rfl, hc⟩ := rprog hP ht
  have hd' : ¬ s.next t = ((codeOf p t).length : Int) := by simpa [doneB] using hd
  obtain ⟨kk, hkk⟩ : ∃ kk : Nat, s.next t = kk := ⟨(s.next t).toNat, by omega⟩
  have hkl : kk < (codeOf p t).length := by omega
  obtain ⟨h, ho, rfl, x1, x2, x3, x4⟩ := hc kk hkl
  have hv := vProg_ins hp ht (k := (kk : Int)) (by simpa using hkl)
  have hie2 : insAt p t (kk : Int) = (codeOf p t)[kk] := by rw [insAt_get (by simpa using hkl)]; simp
  rw [hie2] at hv
  have hF := pres_grown hR.frame
  have hst : stepS p s t = act t (codeOf p t)[kk] (s.setNext t (kk + 1)) := by unfold stepS; rw [hkk, hie2]
  rw [hst, hkk]
  exact rstep_m w0 w b ab rb p.length cap g o t _ cc h ho kk st s acc k th a (codeOf p t)[kk] (by omega) ht (vCode_len (vProg_code hp ht)) hkl hacc hR hkk (hF _ _ h1) (hF _ _ x1) (hF _ _ x2) (hF _ _ x3) (hF _ _ x4) hv _ rfl _ rfl

end Go.Proofs.YtklenjmfalljgaaDoor

/- The reference's Play: what its beginning makes; the verdict's cells. -/
namespace Go.Proofs.YtklenjmfalljgaaDoor
open Go.RowKit
attribute [local go_sem] Go.World.cell?_alloc_some

theorem makes (n : Nat) (hN : n = 1 ∨ n = 2 ∨ n = 3 ∨ n = 4) :
    (∀ u : World, (Instr.makeSlice 22 (.int .i64 n) (.int .i64 n)).run Tryd.prog u = .ok (.slice (some ⟨u.heap.size, 0, none⟩) n n) (u.alloc (.cells (atF n St.zero).toArray 3))) ∧
    (∀ u : World, (Instr.makeSlice 35 (.int .i64 n) (.int .i64 n)).run Tryd.prog u = .ok (.slice (some ⟨u.heap.size, 0, none⟩) n n) (u.alloc (.cells (regsF n St.zero).toArray 34))) := by
  obtain ⟨i0, hi0, hz0, hz1, hz2⟩ := info_parts info_int
  obtain ⟨i1, hi1, hy0, hy1, hy2⟩ := info_parts info_arr
  constructor
  · intro u
    have := run_makeSlice (P := Tryd.prog) u 22 3 i0 _ Tryd.underlying22 hi0 hz0 .i64 .i64 n n (by omega) (Int.le_refl _) (by rw [hz1]; omega) (by rw [hz2]; omega) (by omega)
    rw [this, hz1]
    have e : madeCells (Value.int .i64 0).cells ((n : Int).toNat * 1) = (atF n St.zero).toArray := by
      rcases hN with rfl | rfl | rfl | rfl <;> first | kernel_rfl | simp [madeCells, atF, Value.cells, St.zero, Array.range, List.range_succ]
    rw [e]; rfl
  · intro u
    have := run_makeSlice (P := Tryd.prog) u 35 34 i1 _ Tryd.underlying35 hi1 hy0 .i64 .i64 n n (by omega) (Int.le_refl _) (by rw [hy1]; omega) (by rw [hy2]; omega) (by omega)
    rw [this, hy1]
    have e : madeCells (Value.agg #[.int .i64 0, .int .i64 0, .int .i64 0, .int .i64 0]).cells ((n : Int).toNat * 4) = (regsF n St.zero).toArray := by
      rcases hN with rfl | rfl | rfl | rfl <;> first | kernel_rfl | simp [madeCells, regsF, Value.cells, St.zero, Array.range, List.range_succ]
    rw [e]; rfl

theorem runAt_new1 (w : World) (X : Obj) (n : Nat) (ps : Value) (t1 : TypeId) : RunAt w ((((w.alloc X).alloc (.cells (atF n St.zero).toArray t1)).alloc (.cells (regsF n St.zero).toArray 34)).alloc (.cells (runC ps (w.heap.size + 1) (w.heap.size + 1 + 1) n (.slice none 0 0) St.zero 0 0 0) 179))
    (w.heap.size + 1 + 1 + 1) (w.heap.size + 1) (w.heap.size + 1 + 1) n ps (.slice none 0 0) St.zero [] 0 0 0 := by
  refine ⟨?_, ⟨t1, ?_⟩, ?_, ⟨rfl, Or.inl ⟨rfl, rfl⟩⟩, grown_alloc (grown_alloc (grown_alloc (grown_alloc (grown_refl _ _)))), by omega, by omega, by omega, by omega, by omega⟩
  · have := heap_alloc_new (((w.alloc X).alloc (.cells (atF n St.zero).toArray t1)).alloc (.cells (regsF n St.zero).toArray 34)) (.cells (runC ps (w.heap.size + 1) (w.heap.size + 1 + 1) n (.slice none 0 0) St.zero 0 0 0) 179)
    simpa using this
  · rw [Below.heap_alloc _ _ _ (by simp), Below.heap_alloc _ _ _ (by simp)]
    have := heap_alloc_new (w.alloc X) (.cells (atF n St.zero).toArray t1)
    simpa using this
  · rw [Below.heap_alloc _ _ _ (by simp)]
    have := heap_alloc_new ((w.alloc X).alloc (.cells (atF n St.zero).toArray t1)) (.cells (regsF n St.zero).toArray 34)
    simpa using this
theorem runAt_new2 (w : World) (X : Obj) (n : Nat) (ps : Value) (t1 : TypeId) : RunAt w ((((w.alloc X).alloc (.cells (regsF n St.zero).toArray 34)).alloc (.cells (atF n St.zero).toArray t1)).alloc (.cells (runC ps (w.heap.size + 1 + 1) (w.heap.size + 1) n (.slice none 0 0) St.zero 0 0 0) 179))
    (w.heap.size + 1 + 1 + 1) (w.heap.size + 1 + 1) (w.heap.size + 1) n ps (.slice none 0 0) St.zero [] 0 0 0 := by
  refine ⟨?_, ⟨t1, ?_⟩, ?_, ⟨rfl, Or.inl ⟨rfl, rfl⟩⟩, grown_alloc (grown_alloc (grown_alloc (grown_alloc (grown_refl _ _)))), by omega, by omega, by omega, by omega, by omega⟩
  · have := heap_alloc_new (((w.alloc X).alloc (.cells (regsF n St.zero).toArray 34)).alloc (.cells (atF n St.zero).toArray t1)) (.cells (runC ps (w.heap.size + 1 + 1) (w.heap.size + 1) n (.slice none 0 0) St.zero 0 0 0) 179)
    simpa using this
  · rw [Below.heap_alloc _ _ _ (by simp)]
    have := heap_alloc_new ((w.alloc X).alloc (.cells (regsF n St.zero).toArray 34)) (.cells (atF n St.zero).toArray t1)
    simpa using this
  · rw [Below.heap_alloc _ _ _ (by simp), Below.heap_alloc _ _ _ (by simp)]
    have := heap_alloc_new (w.alloc X) (.cells (regsF n St.zero).toArray 34)
    simpa using this


theorem RunAt.verdict {w0 w : World} {b ab rb n : Nat} {ps st : Value} {s : St} {acc : List (Int × Int)} {k th a : Int} (h : RunAt w0 w b ab rb n ps st s acc k th a) (k' th' a' : Int) :
    RunAt w0 (((w.setCell ⟨b, 11, none⟩ (.int .i64 k')).setCell ⟨b, 12, none⟩ (.int .i64 th')).setCell ⟨b, 13, none⟩ (.int .i64 a')) b ab rb n ps st s acc k' th' a' := by
  have h1 : RunAt w0 (w.setCell ⟨b, 11, none⟩ (.int .i64 k')) b ab rb n ps st s acc k' th a := h.setMain rfl rfl rfl h.row
  have h2 : RunAt w0 ((w.setCell ⟨b, 11, none⟩ (.int .i64 k')).setCell ⟨b, 12, none⟩ (.int .i64 th')) b ab rb n ps st s acc k' th' a := h1.setMain rfl rfl rfl h1.row
  exact h2.setMain rfl rfl rfl h2.row
theorem RunAt.vcells {w0 w : World} {b ab rb n : Nat} {ps st : Value} {s : St} {acc : List (Int × Int)} {k th a : Int} (h : RunAt w0 w b ab rb n ps st s acc k th a) :
    w.cell? ⟨b, 10, none⟩ = some st ∧ w.cell? ⟨b, 11, none⟩ = some (.int .i64 k) ∧ w.cell? ⟨b, 12, none⟩ = some (.int .i64 th) ∧ w.cell? ⟨b, 13, none⟩ = some (.int .i64 a) ∧ w.frozen? ⟨b, 11, none⟩ = false ∧ w.frozen? ⟨b, 12, none⟩ = false ∧ w.frozen? ⟨b, 13, none⟩ = false :=
  ⟨(h.cell 10).1, (h.cell 11).1, (h.cell 12).1, (h.cell 13).1, (h.cell 11).2, (h.cell 12).2, (h.cell 13).2⟩
theorem RunAt.kind {w0 w : World} {b ab rb n : Nat} {ps st : Value} {s : St} {acc : List (Int × Int)} {k th a : Int} (h : RunAt w0 w b ab rb n ps st s acc k th a) (k' : Int) :
    RunAt w0 (w.setCell ⟨b, 11, none⟩ (.int .i64 k')) b ab rb n ps st s acc k' th a := h.setMain rfl rfl rfl h.row

theorem RunAt.last {w0 w : World} {b ab rb n : Nat} {ps st : Value} {s : St} {acc : List (Int × Int)} {k th a : Int} {x : Int × Int} (h : RunAt w0 w b ab rb n ps st s (acc ++ [x]) k th a) :
    ∃ g cap, st = .slice (some ⟨g, 0, none⟩) (acc.length + 1) cap ∧ w.cell? ⟨g, acc.length * 2, none⟩ = some (.int .i64 x.1) ∧ w.cell? ⟨g, acc.length * 2 + 1, none⟩ = some (.int .i64 x.2) := by
  have hr := h.row
  rw [List.length_append] at hr
  have hl : ∀ q : List (Int × Int), (flatS q).length = q.length * 2 := fun q => by
    induction q with
    | nil => rfl
    | cons y q ih =>
      have : flatS (y :: q) = .int .i64 y.1 :: .int .i64 y.2 :: flatS q := rfl
      rw [this]; simp [ih]; omega
  rcases hr.2 with ⟨_, e2⟩ | ⟨g, cap, cur, hv, hb, hh, hx⟩
  · simp at e2
  · have key : ∀ j v, (flatS (acc ++ [x]))[j]? = some v → w.cell? ⟨g, j, none⟩ = some v := fun j v e => by
      rw [← hx.2.2.2, List.getElem?_take] at e
      by_cases hj : j < (acc.length + [x].length) * 2
      · rw [if_pos hj] at e
        simp only [World.cell?, hh]
        simpa using e
      · rw [if_neg hj] at e; cases e
    refine ⟨g, cap, hv, key _ _ ?_, key _ _ ?_⟩
    · rw [flatS_snoc, List.getElem?_append_right (by rw [hl]; omega), hl]; simp
    · rw [flatS_snoc, List.getElem?_append_right (by rw [hl]; omega), hl]; simp

end Go.Proofs.YtklenjmfalljgaaDoor

/- The reference's Play. -/
namespace Go.Proofs.YtklenjmfalljgaaDoor
open Go.RowKit
attribute [local go_sem] Go.World.cell?_alloc_some

/-- What Play answers. -/
def Played (w : World) (n : Nat) (ps : Value) (o : Out) (e : Ending) (w' : World) : Prop :=
  ∃ b ab rb st, e = .returned (.pointer (some ⟨b, 0, none⟩)) ∧ RunAt w w' b ab rb n ps st o.st o.steps o.kind o.thread o.at_

set_option maxHeartbeats 4000000 in
set_option maxRecDepth 100000 in
theorem play_m (w : World) (ao : Option Addr) (cap : Nat) (p : List (List Ins)) (sv : Value) (sch : List Int) (hp : vProg p = true) (hP : ProgAt w (.agg #[.slice ao p.length cap]) p) (hI : IntsAt w.heap.size w sv sch) (h500 : sch.length ≤ 500) :
    Calls Tryd.prog 98 #[.agg #[.slice ao p.length cap], sv] w (Played w p.length (.slice ao p.length cap) (runS p sch)) := by
  have hn := vProg_len hp
  have HP := hide hP
  have HV := hide hp
  have HI := hide hI
  clear hp hP hI
  go_enter Tryd.func98, Tryd.ntmps98
  go_upto_region 2 with fail
  go_cut [6] (fun pv w' => ∃ b ab rb st, pv = .pointer (some ⟨b, 0, none⟩) ∧ RunAt w w' b ab rb p.length (.slice ao p.length cap) st St.zero [] 0 0 0)
  case first =>
    have hN : p.length = 1 ∨ p.length = 2 ∨ p.length = 3 ∨ p.length = 4 := by omega
    clear HP HV
    generalize p.length = n at *
    obtain ⟨hmA, hmB⟩ := makes n hN
    have n4 : (n : Int) ≤ 4 := by omega
    clear hN
    go_region
    all_goals go_wp2
    all_goals go_meet
    · first | exact ⟨_, _, _, _, rfl, (runAt_new1 w _ n _ _).like ⟨rfl, rfl, rfl, rfl⟩⟩ | exact ⟨_, _, _, _, rfl, (runAt_new2 w _ n _ _).like ⟨rfl, rfl, rfl, rfl⟩⟩
    · first | exact ⟨_, _, _, _, rfl, (runAt_new1 w _ n _ _).like ⟨rfl, rfl, rfl, rfl⟩⟩ | exact ⟨_, _, _, _, rfl, (runAt_new2 w _ n _ _).like ⟨rfl, rfl, rfl, rfl⟩⟩
  case rest =>
    obtain ⟨b, ab, rb, st0, rfl, hR0⟩ := hcut
    have HR0 := hide hR0
    clear hR0
    obtain ⟨so, sc, rfl, hsz, hcell⟩ := HI.out
    have HC := hide hcell
    clear hcell HI
    have q1 : (sch.length : Int) ≤ 500 := by omega
    have q2 : (p.length : Int) ≤ 4 := by omega
    go_wp2_with fail
    go_loopw [7] (fun i w' => ∃ (k : Nat) (s : St) (acc : List (Int × Int)) (st : Value), k ≤ sch.length ∧ i = .int .i64 k ∧ Hid (acc.length = k) ∧ Hid (RunAt w w' b ab rb p.length (.slice ao p.length cap) st s acc 0 0 0) ∧ Hid (Inv p s) ∧ Hid (LkOk s) ∧
      Hid (runS p sch = follow p (sch.drop k) k s acc)) (fun i _ => sch.length - (intOf i).toNat)
    case atStart => exact ⟨0, St.zero, [], st0, Nat.zero_le _, rfl, rfl, HR0, Inv.zero p, LkOk.zero, rfl⟩
    case round =>
      obtain ⟨k, s, acc, st, hk, rfl, HAL, HR, HIN, HLK, HF⟩ := hrel
      obtain ⟨w5, hw5⟩ : ∃ w5, w5 = wr := ⟨_, rfl⟩
      rw [← hw5] at HR ⊢
      clear hw5
      by_cases hlt : k < sch.length
      · obtain ⟨gb, go, rfl, hgb, hc⟩ := HC.out k hlt
        have hcr := pres_grown HR.out.frame _ _ hc
        clear hc
        have HD : Hid (sch.drop k = sch[k] :: sch.drop (k + 1)) := List.drop_eq_getElem_cons hlt
        generalize sch[k] = t at *
        have hk0 : (0 : Int) ≤ (k : Int) := by omega
        have hk1 : (k : Int) < sch.length := by omega
        obtain ⟨_, c11, c12, c13, f11, f12, f13⟩ := HR.out.vcells
        by_cases hb0 : 0 ≤ t
        · by_cases hb1 : t < p.length
          · obtain ⟨t', rfl⟩ := Int.eq_ofNat_of_zero_le hb0
            have ht' : t' < p.length := by omega
            go_wp2_with fail
            refine (rreadyS HV.out HP.out HR.out HIN.out HLK.out ht').mono ?_
            rintro e w6 ⟨rfl, hg6⟩
            have HR6 := hide (HR.out.grown hg6)
            replace hcr := pres_grown hg6 _ _ hcr
            clear hg6 c11 c12 c13 f11 f12 f13 HR
            obtain ⟨_, c11, c12, c13, f11, f12, f13⟩ := HR6.out.vcells
            cases hrd : readyB p s t'
            · have HW : Hid (runS p sch = ⟨acc, 2, 0, k, s⟩) := by
                unfold Hid
                rw [HF.out, HD.out]; exact follow_wrong _ _ _ _ _ _ (by simp [okAt, hrd])
              clear hrd
              go_wp2_with fail
              go_ret
              rw [HW.out]
              exact ⟨b, ab, rb, st, rfl, HR6.out.verdict 2 0 k⟩
            · have HK : Hid (okAt p s t' = true) := by
                unfold Hid okAt belowB
                simp [hrd, ht']
              have HDn : Hid (doneB p s t' = false) := by
                unfold Hid
                cases hd : doneB p s t' with
                | false => rfl
                | true => simp [readyB, hd] at hrd
              clear hrd c11 c12 c13 f11 f12 f13
              go_wp2_with fail
              refine (rstepS HV.out HP.out HR6.out HIN.out ht' HDn.out (by rw [HAL.out]; omega)).mono ?_
              rintro e w7 ⟨st', rfl, hR7⟩
              have HR7 := hide hR7
              clear hR7 HR6 hcr
              cases hstp : (stepS p s t').1
              · have HW : Hid (runS p sch = ⟨acc ++ [((t' : Int), s.next t')], 1, t', s.next t', (stepS p s t').2⟩) := by
                  unfold Hid
                  rw [HF.out, HD.out]; exact follow_fail _ _ _ _ _ _ HK.out (by simpa using hstp)
                clear hstp
                obtain ⟨lg, lc, rfl, l1, l2⟩ := HR7.out.last
                obtain ⟨c10, c11, c12, c13, f11, f12, f13⟩ := HR7.out.vcells
                have HLL : Hid (acc.length < 500) := by unfold Hid; rw [HAL.out]; omega
                generalize hgl : acc.length = L at *
                have HGL := hide hgl
                clear hgl
                have hL : (L : Int) < 500 := by have := HLL.out; omega
                go_wp2_with fail
                go_region
                have hg8 : w7.grownBy (w7.alloc (.cells #[.int .i64 t', .int .i64 (s.next t')] 48)).drew none := grown_drew (grown_alloc (grown_refl _ _))
                have hb8 : (w7.alloc (.cells #[.int .i64 t', .int .i64 (s.next t')] 48)).drew.heap[w7.heap.size]? = some (.cells #[.int .i64 t', .int .i64 (s.next t')] 48 (0, 0)) := heap_alloc_new w7 _
                generalize (w7.alloc (.cells #[.int .i64 t', .int .i64 (s.next t')] 48)).drew = w8 at hg8 hb8 ⊢
                have HR8 := hide (HR7.out.grown hg8)
                have z0 : w8.cell? ⟨w7.heap.size, 0, none⟩ = some (.int .i64 t') := by simp [World.cell?, hb8]
                have z1 : w8.cell? ⟨w7.heap.size, 1, none⟩ = some (.int .i64 (s.next t')) := by simp [World.cell?, hb8]
                clear hg8 hb8 c10 c11 c12 c13 f11 f12 f13 l1 l2 HR7
                obtain ⟨_, c11, c12, c13, f11, f12, f13⟩ := HR8.out.vcells
                go_wp2
                go_ret
                rw [HW.out]
                exact ⟨b, ab, rb, _, rfl, HR8.out.verdict 1 t' (s.next t')⟩
              · have HF2 : Hid (runS p sch = follow p (sch.drop (k + 1)) ((k + 1 : Nat) : Int) (stepS p s t').2 (acc ++ [((t' : Int), s.next t')])) := by
                  unfold Hid
                  rw [HF.out, HD.out, follow_go _ _ _ _ _ _ HK.out (by simpa using hstp)]
                  simp
                have HI2 := hide (HIN.out.step HV.out ht' HDn.out)
                have HL2 := hide (HLK.out.step p t')
                have HA2 : Hid ((acc ++ [((t' : Int), s.next t')]).length = k + 1) := by unfold Hid; rw [List.length_append, HAL.out]; rfl
                clear hstp
                go_wp2_with fail
                go_roundw
                case rel => exact ⟨k + 1, _, _, st', by omega, by go_num, HA2, HR7, HI2, HL2, HF2⟩
                case measure => simp [intOf]; omega
          · have hb1' : (p.length : Int) ≤ t := by omega
            have HW : Hid (runS p sch = ⟨acc, 2, 0, k, s⟩) := by
              unfold Hid
              rw [HF.out, HD.out]; exact follow_wrong _ _ _ _ _ _ (by simp [okAt, belowB, hb1])
            go_wp2_with fail
            go_ret
            rw [HW.out]
            exact ⟨b, ab, rb, st, rfl, HR.out.verdict 2 0 k⟩
        · have hb0' : t < 0 := by omega
          have HW : Hid (runS p sch = ⟨acc, 2, 0, k, s⟩) := by
            unfold Hid
            rw [HF.out, HD.out]; exact follow_wrong _ _ _ _ _ _ (by simp [okAt, belowB, hb0])
          go_wp2_with fail
          go_ret
          rw [HW.out]
          exact ⟨b, ab, rb, st, rfl, HR.out.verdict 2 0 k⟩
      · have HW : Hid (runS p sch = ⟨acc, endingS p s, 0, 0, s⟩) := by
          unfold Hid
          rw [HF.out, List.drop_eq_nil_of_le (by omega)]; rfl
        have hk1 : (sch.length : Int) ≤ (k : Int) := by omega
        clear HF HAL HC
        go_wp2_with fail
        go_loopw [11, 12, 13] (fun dv rv tv w' => ∃ t d r : Nat, t ≤ p.length ∧ dv = .int .i64 d ∧ rv = .int .i64 r ∧ tv = .int .i64 t ∧ d ≤ t ∧ r ≤ t ∧ Hid (d = t ↔ ∀ j, j < t → doneB p s j = true) ∧ Hid (r = 0 ↔ ∀ j, j < t → readyB p s j = false) ∧
          Hid (RunAt w w' b ab rb p.length (.slice ao p.length cap) st s acc 0 0 0)) (fun _ _ tv _ => p.length - (intOf tv).toNat)
        case atStart => exact ⟨0, 0, 0, Nat.zero_le _, rfl, rfl, rfl, Nat.le_refl _, Nat.le_refl _, ⟨fun _ j h => absurd h (by omega), fun _ => rfl⟩, ⟨fun _ j h => absurd h (by omega), fun _ => rfl⟩, HR⟩
        case round =>
          clear HR
          obtain ⟨t, d, r, ht, rfl, rfl, rfl, hd, hr, HD, HRd, HR⟩ := hrel
          obtain ⟨w6, hw6⟩ : ∃ w6, w6 = wr := ⟨_, rfl⟩
          rw [← hw6] at HR ⊢
          clear hw6
          by_cases hlt : t < p.length
          · have t0 : (0 : Int) ≤ (t : Int) := by omega
            have t1 : (t : Int) < p.length := by omega
            have d1 : (d : Int) ≤ 4 := by omega
            have r1 : (r : Int) ≤ 4 := by omega
            go_wp2_with fail
            refine (rdoneS HV.out HP.out HR.out HIN.out hlt).mono ?_
            rintro e w7 ⟨rfl, hg7⟩
            have HR7 := hide (HR.out.grown hg7)
            clear hg7 HR
            go_wp2_with fail
            refine (rreadyS HV.out HP.out HR7.out HIN.out HLK.out hlt).mono ?_
            rintro e w8 ⟨rfl, hg8⟩
            have HR8 := hide (HR7.out.grown hg8)
            clear hg8 HR7
            have HD2 : Hid ((if doneB p s t = true then d + 1 else d) = t + 1 ↔ ∀ j, j < t + 1 → doneB p s j = true) := by
              unfold Hid
              cases e : doneB p s t
              · simp only [Bool.false_eq_true, if_false]
                constructor
                · intro h; omega
                · intro h; have := h t (by omega); rw [e] at this; cases this
              · simp only [if_true]
                constructor
                · intro h j hj
                  by_cases hjt : j = t
                  · rw [hjt]; exact e
                  · exact HD.out.1 (by omega) j (by omega)
                · intro h
                  have := HD.out.2 (fun j hj => h j (by omega))
                  omega
            have HR2 : Hid ((if readyB p s t = true then r + 1 else r) = 0 ↔ ∀ j, j < t + 1 → readyB p s j = false) := by
              unfold Hid
              cases e : readyB p s t
              · simp only [Bool.false_eq_true, if_false]
                constructor
                · intro h j hj
                  by_cases hjt : j = t
                  · rw [hjt]; exact e
                  · exact HRd.out.1 h j (by omega)
                · intro h; exact HRd.out.2 (fun j hj => h j (by omega))
              · simp only [if_true]
                constructor
                · intro h; omega
                · intro h; have := h t (by omega); rw [e] at this; cases this
            clear HD HRd
            generalize doneB p s t = db at *
            generalize readyB p s t = rb' at *
            cases db <;> cases rb'
            all_goals
              go_wp2_with fail
              go_roundw
              case rel => exact ⟨t + 1, _, _, by omega, by go_num, by go_num, by go_num, by simp <;> omega, by simp <;> omega, HD2, HR2, HR8⟩
              case measure => simp [intOf]; omega
          · have t1 : (p.length : Int) ≤ (t : Int) := by omega
            obtain ⟨_, c11, c12, c13, f11, f12, f13⟩ := HR.out.vcells
            obtain rfl : t = p.length := by omega
            by_cases hr0 : r = 0
            · have hnr := HRd.out.1 hr0
              have HE := hide (ending_end hnr)
              subst hr0
              by_cases hdn : d = p.length
              · have hda := HD.out.1 hdn
                have HE3 : Hid (endingS p s = 3) := by
                  unfold Hid
                  rw [HE.out, endTo, if_pos]
                  rw [List.all_eq_true]
                  intro j hj
                  exact hda j (by simpa using hj)
                have hdb : ((d : Int) == (p.length : Int)) = true := by simp; omega
                clear hnr hda HD HRd HE hdn t1
                go_wp2_with fail
                go_ret
                rw [HW.out, HE3.out]
                exact ⟨b, ab, rb, st, rfl, ((HR.out.kind 5).kind 4).kind 3⟩
              · have HE4 : Hid (endingS p s = 4) := by
                  unfold Hid
                  rw [HE.out, endTo, if_neg]
                  intro h
                  rw [List.all_eq_true] at h
                  exact hdn (HD.out.2 (fun j hj => h j (by simpa using hj)))
                have hdb : ((d : Int) == (p.length : Int)) = false := by simp; omega
                clear hnr HD HRd HE hdn t1
                go_wp2_with fail
                go_ret
                rw [HW.out, HE4.out]
                exact ⟨b, ab, rb, st, rfl, (HR.out.kind 5).kind 4⟩
            · obtain ⟨j, hj, hrj⟩ : ∃ j, j < p.length ∧ readyB p s j = true := by
                by_cases hex : ∃ j, j < p.length ∧ readyB p s j = true
                · exact hex
                · exfalso
                  refine hr0 (HRd.out.2 (fun j hj => ?_))
                  cases e : readyB p s j
                  · rfl
                  · exact absurd ⟨j, hj, e⟩ hex
              have HE5 := hide (ending_open hj hrj)
              have hdn : d ≠ p.length := fun e => by
                have := HD.out.1 e j hj
                simp [readyB, this] at hrj
              have hdb : ((d : Int) == (p.length : Int)) = false := by simp; omega
              have hrb : ((r : Int) == 0) = false := by simp; omega
              clear HD HRd hdn hr0 hj hrj t1
              go_wp2_with fail
              go_ret
              rw [HW.out, HE5.out]
              exact ⟨b, ab, rb, st, rfl, HR.out.kind 5⟩

end Go.Proofs.YtklenjmfalljgaaDoor
