/- The second form's card of Runs: where what is read is of bulk at most the bound, every Check and Replay are as the reference says, whatever the owner does with what came out and with what was lent. -/
import Derived.Test.YtklenjmfalljgaaGreatDoorMH
import Derived.Test.YtklenjmfalljgaaGreatDoorRows
import Derived.Deep.Slices
import Derived.Deep.DeepHandedRow
import Derived.Deep.DeepWitnessRowRef
import Derived.LaidMore
import Derived.Carry
import Derived.ProofKit
import Derived.OpenShut
import Derived.Lib.SmallJoins
import Derived.Test.YtklenjmfalljgaaGreatDoorCards
import Derived.Test.YtklenjmfalljgaaGreatDoorTie

/- The walk of the hands' again. -/
namespace Go.Proofs.YtklenjmfalljgaaGreatDoor
open Go.RowKit
attribute [local go_sem] Go.World.cell?_alloc_some

/-- A nil list of a program has no room. -/
def ProgNil (W : World) (pv : Value) : Prop := ∀ g o n cap t rv, pv = .agg #[.slice (some ⟨g, o, none⟩) n cap] → t < n → W.cell? ⟨g, o + t, none⟩ = some rv → nilA rv

set_option maxHeartbeats 4000000 in
set_option maxRecDepth 100000 in
theorem again_g (W : World) (B : Nat) (w : World) (b : Nat) (who : Nat → Role) (n : Int) (f : Nat → Value) (K : Nat → List (Value × Int)) (pv sv : Value) (p : List (List Ins)) (s : List Int) (wh : Int)
    (h : Hz B w b who n f K) (hW : W.grownBy w none) (hWB : W.heap.size ≤ B) (hS : ShpAt W) (hP : ProgAt W pv p) (hPN : ProgNil W pv) (hI : IntsAt W.heap.size W sv s) (hnil : nilA sv) (hpl : p.length ≤ 1048576) (hpc : ∀ c ∈ p, c.length ≤ 1048576) (hsl : s.length ≤ 1048576) (hA : AskC wh) :
    Calls Tryz.prog 9 #[pt b, .int .i64 wh, pv, sv] w (HzG W B b n K) := by
  obtain ⟨i0, hi0, hz0, hz1, hz2⟩ := info_parts info_insH
  obtain ⟨i1, hi1, hy0, hy1, hy2⟩ := info_parts info_codeH
  have HH := hide h
  have HW := hide hW
  have HS := hide hS
  have HP := hide hP
  have HI := hide hI
  have HPC := hide hpc
  have HPN := hide hPN
  have HNL := hide hnil
  have HA := hide hA
  obtain ⟨ao, cap, rfl⟩ := hP.form
  obtain ⟨so, sc, rfl⟩ := hI.form
  have hpt : pt b = .pointer (some ⟨b, 0, none⟩) := rfl
  have HPG := hide (program_g W B (w.alloc (.cells #[.slice ao p.length cap] 24)) b who n f K [] [] [] (.agg #[.slice ao p.length cap]) p (h.lx.grown (grown_alloc (grown_refl _ _))) (grown_alloc hW) hWB hP hpl hpc (by simp) (by simp))
  clear h hW hS hP hI hpc hPN hnil hA
  rw [hpt] at HPG ⊢
  go_enter Tryz.func9, Tryz.ntmps9
  go_wp2_with fail
  refine HPG.out.mono ?_
  clear HPG
  rintro e w1 ⟨g, LC1, who1, f1, rfl, hx1, hlc, hf1, hb1⟩
  have hwo : who w.heap.size = .other := by
    by_cases e : who w.heap.size = .other
    · exact e
    · exact absurd (HH.out.1.1.dom _ e).2 (by omega)
  obtain ⟨hbx, hwx⟩ := hf1.oth w.heap.size (by simp) hwo (fun e => e)
  have HW1 : Hid (W.grownBy w1 none) := hf1.base (grown_alloc HW.out) hWB (fun g e => (HH.out.1.1.dom g e).1) (fun _ e => e.elim)
  have c1 : w1.cell? ⟨w.heap.size, 0, none⟩ = some (.slice ao p.length cap) := by
    simp only [World.cell?, hbx, heap_alloc_new]; rfl
  have hlt1 : w.heap.size < w1.heap.size := World.block_lt_of_cell? w1 _ c1
  have hll : LC1.length = p.length := by rw [← hlc]; simp
  simp only [List.nil_append] at hx1
  have hw9 : who1 w1.heap.size = .other := by
    by_cases e : who1 w1.heap.size = .other
    · exact e
    · exact absurd (hx1.hs.1.dom _ e).2 (by omega)
  have HX1 := hide hx1
  have HLC := hide hlc
  have HWX := hide hwx
  have HW9 := hide hw9
  have HLL := hide hll
  have HC1 := hide c1
  clear hx1 hlc hf1 hb1 hbx hwo hwx hll hw9 c1
  go_upto_region 2 with fail
  obtain ⟨w2, hw2⟩ : ∃ w2, w2 = w1.alloc (.cells #[.slice (some ⟨g, 0, none⟩) p.length (p.length + 2)] 24) := ⟨_, rfl⟩
  have HG12 : Hid (w1.grownBy w2 none) := by unfold Hid; rw [hw2]; exact grown_alloc (grown_refl _ _)
  have hb2 : w2.heap[w1.heap.size]? = some (.cells #[.slice (some ⟨g, 0, none⟩) p.length (p.length + 2)] 24 (0, 0)) := by rw [hw2]; exact heap_alloc_new w1 _
  rw [← hw2]
  clear hw2
  have HX2 := hide (HX1.out.grown HG12.out)
  have HW2 : Hid (W.grownBy w2 none) := grown_trans HW1.out HG12.out
  have c9 : w2.cell? ⟨w1.heap.size, 0, none⟩ = some (.slice (some ⟨g, 0, none⟩) p.length (p.length + 2)) := by simp [World.cell?, hb2]
  have HC9 := hide c9
  have HC2 := hide (pres_grown HG12.out _ _ HC1.out)
  have hl9 : w1.heap.size < w2.heap.size := World.block_lt_of_cell? w2 _ c9
  have HSG := hide (schedule_g B w2 b who1 n f1 K [] LC1 [(g, p.length)] 0 (.slice so s.length sc) s HX2.out ((HI.out.pres (pres_grown HW2.out)).mono HW2.out.size) (val_other HX2.out.hs hWB HI.out) hsl (by simp))
  clear hb2 c9 HC1 HG12 HX1
  rw [hpt] at HSG
  go_wp2_with fail
  refine HSG.out.mono ?_
  clear HSG
  rintro e w3 ⟨gs, who3, f3, rfl, hx3, hf3⟩
  simp only [List.nil_append] at hx3
  have HW3 : Hid (W.grownBy w3 none) := hf3.base HW2.out hWB (fun g e => (HX2.out.hs.1.dom g e).1) (fun _ e => e.elim)
  obtain ⟨hbx, hwx⟩ := hf3.oth w.heap.size (by omega) HWX.out (fun e => e)
  obtain ⟨hby, hwy⟩ := hf3.oth w1.heap.size hl9 HW9.out (fun e => e)
  have c6 : w3.cell? ⟨w.heap.size, 0, none⟩ = some (.slice ao p.length cap) := by rw [World.cell?_of_block hbx]; exact HC2.out
  have c9 : w3.cell? ⟨w1.heap.size, 0, none⟩ = some (.slice (some ⟨g, 0, none⟩) p.length (p.length + 2)) := by rw [World.cell?_of_block hby]; exact HC9.out
  have hgb : w3.heap[g]? = some (.cells (lentRows LC1) 75 (0, 0)) := by
    have := (hx3.le.lr 0 (by simp)).1
    simp only [List.getElem_cons_zero, List.take_zero, List.map_nil, List.sum_nil, List.drop_zero] at this
    rw [List.take_of_length_le (by rw [HLL.out]; omega)] at this
    exact this
  have hPx : ProgAt w3 (.agg #[.slice (some ⟨g, 0, none⟩) p.length (p.length + 2)]) p := lent_prog (LC0 := []) (by simpa using hx3.le) hgb HLC.out _
  have hIx : IntsAt w3.heap.size w3 (.slice (some ⟨gs, 0, none⟩) s.length (s.length + 2)) s := lent_ints (hx3.le.li (gs, s, .slice so s.length sc) (by simp)).1
  have HAS := hide (HA.out p s _ _ _ _ w3 (HS.out.pres (pres_grown HW3.out)) hPx hIx (fun _ _ e => by simp at e) (HP.out.pres (pres_grown HW3.out)) ((HI.out.pres (pres_grown HW3.out)).mono HW3.out.size) HNL.out hpl HPC.out)
  have HX3 := hide hx3
  have HWX3 := hide hwx
  have HW93 := hide hwy
  have HC6 := hide c6
  have HC93 := hide c9
  clear hx3 hf3 hbx hby hwx hwy hgb hPx hIx HWX HW9 HC2 HC9 HX2
  go_wp2_with fail
  refine HAS.out.mono ?_
  clear HAS c6 c9
  rintro e w4 ⟨rfl, hg4⟩
  have HX4 := hide (HX3.out.grown hg4)
  have HW4 : Hid (W.grownBy w4 none) := grown_trans HW3.out hg4
  have HC64 := hide (pres_grown hg4 _ _ HC6.out)
  have HC94 := hide (pres_grown hg4 _ _ HC93.out)
  clear hg4 HC6 HC93
  go_upto_region 5 with fail
  obtain ⟨w5, hw5⟩ : ∃ w5, w5 = w4.alloc (.cells #[.slice none 0 0] 24) := ⟨_, rfl⟩
  have HG45 : Hid (w4.grownBy w5 none) := by unfold Hid; rw [hw5]; exact grown_alloc (grown_refl _ _)
  have hb5 : w5.heap[w4.heap.size]? = some (.cells #[.slice none 0 0] 24 (0, 0)) := by rw [hw5]; exact heap_alloc_new w4 _
  rw [← hw5]
  clear hw5
  have hl5 : w4.heap.size < w5.heap.size := (Array.getElem?_eq_some_iff.1 hb5).1
  obtain ⟨hx5, hf5⟩ := HX4.out.new HG45.out (g := w4.heap.size) (Nat.le_refl _) hl5
  have HW5 : Hid (W.grownBy w5 none) := grown_trans HW4.out HG45.out
  have HC65 := hide (pres_grown HG45.out _ _ HC64.out)
  have HC95 := hide (pres_grown HG45.out _ _ HC94.out)
  have HW65 : Hid (setW who3 w4.heap.size .lent w.heap.size = .other) := by
    unfold Hid; rw [setW_ne _ _ (by have := World.block_lt_of_cell? w4 _ HC64.out; simp only at this; omega)]; exact HWX3.out
  have HW95 : Hid (setW who3 w4.heap.size .lent w1.heap.size = .other) := by
    unfold Hid; rw [setW_ne _ _ (by have := World.block_lt_of_cell? w4 _ HC94.out; simp only at this; omega)]; exact HW93.out
  obtain ⟨who5, hwho5⟩ : ∃ who5, who5 = setW who3 w4.heap.size .lent := ⟨_, rfl⟩
  have H0 : Hid (AgI B w5 who5 w5 b who5 n f3 K [(gs, s, .slice so s.length sc)] LC1 [(g, p.length)] w4.heap.size (.slice none 0 0) p 0) := by
    refine ⟨by rw [hwho5]; exact hx5, Fr.refl _ _ _, by simpa using HLC.out, hb5, by rw [hwho5]; exact setW_at _ _ _, fun e => ?_, ⟨rfl, Or.inl ⟨rfl, rfl⟩⟩, fun q e => by cases e⟩
    have := (HX4.out.le.lt _ e).1
    omega
  rw [← hwho5] at HW65 HW95
  have HDM : Hid (∀ q, who5 q ≠ .other → B ≤ q) := fun q e => (H0.out.lx.hs.1.dom q e).1
  clear hx5 hf5 hb5 hwho5 HX4 HX3 HG45 HC64 HC94 HWX3 HW93 HW4 HW3 HW2 HW1 HLC
  go_wp2_with fail
  go_loopw [13] (fun iv w' => ∃ i : Nat, i ≤ p.length ∧ iv = .int .i64 i ∧ Hid (∃ who' LC qv, AgI B w5 who5 w' b who' n f3 K [(gs, s, .slice so s.length sc)] LC [(g, p.length)] w4.heap.size qv p i)) (fun iv _ => p.length - (intOf iv).toNat)
  case atStart => exact ⟨0, Nat.zero_le _, rfl, ⟨_, _, _, H0.out⟩⟩
  case round =>
    clear H0
    obtain ⟨i, hi, rfl, HIE⟩ := hrel
    obtain ⟨who', LC, qv, hAI⟩ := HIE.out
    clear HIE
    obtain ⟨w6, hw6⟩ : ∃ w6, w6 = wr := ⟨_, rfl⟩
    rw [← hw6] at hAI ⊢
    clear hw6
    have HAI := hide hAI
    have c6 : w6.cell? ⟨w.heap.size, 0, none⟩ = some (.slice ao p.length cap) := by
      rw [World.cell?_of_block (hAI.fr.oth w.heap.size (World.block_lt_of_cell? w5 _ HC65.out) HW65.out (fun e => e)).1]; exact HC65.out
    have HW6 : Hid (W.grownBy w6 none) := hAI.fr.base HW5.out hWB HDM.out (fun _ e => e.elim)
    clear hAI
    by_cases hlt : i < p.length
    · have t0 : (0 : Int) ≤ (i : Int) := by omega
      have t1 : (i : Int) < p.length := by omega
      obtain ⟨pg, po, hao, rv, hrv, hcv⟩ := (show ∃ g o, ao = some ⟨g, o, none⟩ ∧ ∃ rv, W.cell? ⟨g, o + i, none⟩ = some rv ∧ CodeAt W rv p[i] from by
        obtain ⟨ao', cap', e, hh⟩ := HP.out
        simp only [Value.agg.injEq, Array.mk.injEq, List.cons.injEq, Value.slice.injEq, and_true, true_and] at e
        obtain ⟨g, o, e1, rv, e2, e3⟩ := hh i hlt
        exact ⟨g, o, by rw [e.1]; exact e1, rv, e2, e3⟩)
      subst hao
      have hnr : nilA rv := HPN.out pg po p.length cap i rv rfl hlt hrv
      have hcl : p[i].length ≤ 1048576 := HPC.out _ (List.getElem_mem hlt)
      obtain ⟨c, hc⟩ : ∃ c, p[i] = c := ⟨_, rfl⟩
      rw [hc] at hcv hcl
      have HCE := hide hc
      clear hc
      have hcv0 := hcv
      obtain ⟨ca, cc, rfl, _⟩ := hcv
      have hcv6 : CodeAt w6 (.slice ca c.length cc) c := hcv0.pres (pres_grown HW6.out)
      have r6 := pres_grown HW6.out _ _ hrv
      have HSO : Hid (ca = none → c.length = 0 ∧ cc = 0) := fun e => hnr _ _ (by rw [e])
      have HNW : Hid (∀ ad, ca = some ad → ∀ j u, (codeL c)[j]? = some u → w6.cell? (ad.add j) = some u) := fun ad e => by
        subst e; exact codeL_cells hcv6
      have hil : (codeL c).length = c.length * 4 := codeL_len c
      have h63 : 0 + c.length ≤ maxLen := by unfold maxLen; omega
      have q0 : (c.length : Int) ≤ 1048576 := by omega
      clear hcv0 hcv6 hrv hnr
      go_upto_if 49 with (at_builtin; refine wpList_append_any rfl _ _ _ rfl w6.heap.size 74 i0 _ 4 32 Tryz.underlying75 hi0 hz0 hz1 hz2 rfl (by omega) (.slice none 0 0) 0 [] rfl ⟨rfl, Or.inl ⟨rfl, rfl⟩⟩ ca c.length cc (codeL c) rfl hil HSO.out HNW.out (codeL_one _) h63 (by omega) (Nat.le_refl _) ?_; intro ta tn tc w7 hown7 hg7)
      simp only [Nat.zero_add, List.nil_append] at hown7
      have htn := owns_lenq hown7
      subst htn
      have HG7 : Hid (w6.grownBy w7 none) := hg7
      have HO7 := hide hown7
      clear hown7 hg7 hil h63 HSO HNW r6 c6
      go_cut [14] (fun tv w' => Hid (∃ ta tc, tv = .slice ta c.length tc ∧ w'.ownsRow w6.heap.size 74 4 tv c.length (codeL (modC c)) ∧ w6.grownBy w' none))
      case first =>
        by_cases hs1 : 0 < c.length
        · have t2 : (0 : Int) < c.length := by omega
          obtain ⟨tg, hta, htg, hfz⟩ : ∃ tg, ta = some ⟨tg, 0, none⟩ ∧ w6.heap.size ≤ tg ∧ ∀ o, w7.frozen? ⟨tg, o, none⟩ = false := by
            rcases HO7.out.2 with ⟨_, e⟩ | ⟨g, cap, cur, hv, hb', hh, _⟩
            · omega
            · simp only [Value.slice.injEq] at hv
              exact ⟨g, hv.1, hb', fun o => by simp [World.frozen?, hh]⟩
          subst hta
          have cu : ∀ j, j < 4 → ∃ u, w7.cell? ⟨tg, j, none⟩ = some u := fun j hj => by
            obtain ⟨u, hu⟩ : ∃ u, (codeL c)[j]? = some u := ⟨_, List.getElem?_eq_getElem (by rw [codeL_len]; omega)⟩
            exact ⟨u, by rw [HO7.out.cellAt _ (by omega)]; exact hu⟩
          obtain ⟨v0, m0⟩ := cu 0 (by omega)
          obtain ⟨v1, m1⟩ := cu 1 (by omega)
          obtain ⟨v2, m2⟩ := cu 2 (by omega)
          obtain ⟨v3, m3⟩ := cu 3 (by omega)
          have f0 := hfz 0
          have f1' := hfz 1
          have f2 := hfz 2
          have f3' := hfz 3
          have HNX : Hid (((((w7.setCell ⟨tg, 0, none⟩ (.int .i64 11)).setCell ⟨tg, 1, none⟩ (.int .i64 1)).setCell ⟨tg, 2, none⟩ (.int .i64 0)).setCell ⟨tg, 3, none⟩ (.int .i64 0)).ownsRow w6.heap.size 74 4 (.slice (some ⟨tg, 0, none⟩) c.length tc) c.length (codeL (modC c))) := by
            unfold Hid; rw [← modC_set hs1]; exact owns_setCell (owns_setCell (owns_setCell (owns_setCell HO7.out 0 _) 1 _) 2 _) 3 _
          have HNG : Hid (w6.grownBy ((((w7.setCell ⟨tg, 0, none⟩ (.int .i64 11)).setCell ⟨tg, 1, none⟩ (.int .i64 1)).setCell ⟨tg, 2, none⟩ (.int .i64 0)).setCell ⟨tg, 3, none⟩ (.int .i64 0)) none) := grown_setNew (grown_setNew (grown_setNew (grown_setNew HG7.out htg) htg) htg) htg
          clear hfz cu
          go_wp2_with fail
          go_meet
          exact ⟨_, _, rfl, HNX.out, HNG.out⟩
        · have t2 : (c.length : Int) ≤ 0 := by omega
          have HE : Hid (modC c = c) := modC_nil hs1
          go_wp2_with fail
          go_meet
          exact ⟨_, _, rfl, by rw [HE.out]; exact HO7.out, HG7.out⟩
      case rest =>
      obtain ⟨ta2, tc2, rfl, ho8, hg8⟩ := hcut.out
      clear hcut HO7 HG7
      obtain ⟨w8, hw8⟩ : ∃ w8, w8 = wc := ⟨_, rfl⟩
      rw [← hw8] at ho8 hg8 ⊢
      clear hw8
      refine ‹∀ a w, Code.wp Tryz.prog _ (Exit.inBlock 1 _) a w → _› _ _ ?_
      refine agRound (HAI.out.grown hg8) hlt HCE hpl hcl hl5 ho8 (fun q e => ?_) ?_ ?_
      · have h1 := owns_block ho8 q e
        by_cases ho : who' q = .other
        · exact ho
        · exact absurd (HAI.out.lx.hs.1.dom q ho).2 (by omega)
      · exact fun _ _ _ _ _ h => h
      intro z15 z53 z54 z55 z56 z57 z58 z59 z60 z61 z62 z63 z64 z65 z66 z67 z68 z69 z70 z71 z72 z73 z74 z75 z76 z77 z78 z79 z80 z81 z82 z83 z84 who'' LC' qv' w' hA'
      have HA' := hide hA'
      clear hA'
      go_wp2_with fail
      go_roundw
      case rel => exact ⟨i + 1, by omega, by go_num, ⟨who'', LC', qv', HA'.out⟩⟩
      case measure => simp [intOf]; omega
    · have t1 : (p.length : Int) ≤ (i : Int) := by omega
      have hin : i = p.length := by omega
      have HIN := hide hin
      have hLL := HAI.out.len hi
      have HLN := hide hLL
      have hcod : LC.map (·.2.1) = p.map modC := by
        have := HAI.out.cod
        rw [hin] at this
        simpa using this
      have HCD := hide hcod
      clear hin hLL hcod
      go_upto_if 37 with fail
      refine wp_cond_false rfl ?_
      refine wp_exit ?_
      refine ‹∀ a w, Code.wp Tryz.prog _ _ a w → _› _ _ ?_
      obtain ⟨qa, qn, qc, hqv⟩ := owns_form HAI.out.row
      subst hqv
      have hqn := owns_lenq HAI.out.row
      have hqn2 : qn = (p.map modC).length := by rw [hqn, HIN.out]; simp
      subst hqn2
      have hpm : (p.map modC).length = p.length := by simp
      refine againTail (p := p.map modC) (g := g) (qa := qa) (qc := qc) (by rw [hpm]; exact HAI.out.lx) HW6.out hWB HS.out HI.out HNL.out hsl HCD.out (by rw [hpm]; exact hpl) (fun c hc => ?_) HA ?_ ?_ ?_
      · obtain ⟨c0, h0, rfl⟩ := List.mem_map.1 hc
        rw [modC_len]; exact HPC.out c0 h0
      · intro w' hsz hbl
        have wgs : who' gs = .lent := (HAI.out.lx.le.li (gs, s, .slice so s.length sc) (by simp)).2.1
        have ngs : ∀ q, q ∉ [(gs, s, Value.slice so s.length sc)].map (·.1) ++ (LC.map (·.1) ++ [(g, p.length)].map (·.1)) → q ≠ gs := fun q hq e => hq (by rw [e]; simp)
        refine ⟨?_, ?_, ?_⟩
        · refine ⟨qa, qc, rfl, fun t ht => ?_⟩
          have htp : t < p.length := by rw [hpm] at ht; exact ht
          have htL : t < LC.length := by have := HLN.out; omega
          obtain ⟨qg, hqa⟩ : ∃ qg, qa = some ⟨qg, 0, none⟩ := by
            rcases HAI.out.row.2 with ⟨_, e⟩ | ⟨g, cap, cur, hv, hb', hh, _⟩
            · have := HIN.out; omega
            · simp only [Value.slice.injEq] at hv
              exact ⟨g, hv.1⟩
          subst hqa
          obtain ⟨h1, h2, h3⟩ := HAI.out.wrw qg rfl
          have hrow := HAI.out.row
          rw [← hqn] at hrow
          refine ⟨qg, 0, rfl, LC[t].2.2, ?_, ?_⟩
          · rw [Nat.zero_add, World.cell?_of_block (hbl qg (owns_ltH HAI.out.row qg rfl) (ngs qg h2) (fun k e => by rw [h1] at e; cases e)), hrow.cellAt _ (by omega)]
            rw [List.take_of_length_le (by have := HLN.out; omega)]
            simp [htL]
          · obtain ⟨_, _, c3, c4, _⟩ := HAI.out.lx.le.lc _ (List.getElem_mem htL)
            have e1 : LC[t].2.1 = (p.map modC)[t] := by
              have : (LC.map (·.2.1))[t]? = (p.map modC)[t]? := by rw [HCD.out]
              simpa [htL, htp] using this
            rw [← e1]
            exact code_oth c3 c4 (fun q h1 h2 => hbl q h1 (fun e => by rw [e, wgs] at h2; cases h2) (fun k e => by rw [h2] at e; cases e))
        · rw [World.cell?_of_block (hbl w4.heap.size (Array.getElem?_eq_some_iff.1 HAI.out.box).1 (ngs _ HAI.out.nbx) (fun k e => by rw [HAI.out.wbx] at e; cases e))]
          simp [World.cell?, HAI.out.box]
        · obtain ⟨h1, h2⟩ := HAI.out.fr.oth w1.heap.size (World.block_lt_of_cell? w5 _ HC95.out) HW95.out (fun e => e)
          rw [World.cell?_of_block (hbl w1.heap.size (by have := World.block_lt_of_cell? w5 _ HC95.out; have := HAI.out.fr.size; simp only at *; omega) (fun e => by rw [e, wgs] at h2; cases h2) (fun k e => by rw [h2] at e; cases e)), World.cell?_of_block h1, hpm]
          exact HC95.out
      · exact fun _ _ _ _ _ h => h
      · intro z0 z1 z2 z3 z4 z5 z6 z7 z9 z10 z11 z12 z13 z14 z15 z16 z17 z18 z19 z20 z21 z22 z23 z24 z25 z26 z27 z28 z29 z30 z31 z32 z33 z34 z35 z36 z37 z38 z39 z40 z41 z42 z43 z44 z45 z46 z47 z48 z49 z50 z51 z52 z53 z54 z55 z56 z57 z58 z59 z60 z61 z62 z63 z64 z65 z66 z67 z68 z69 z70 z71 z72 z73 z74 z75 z76 z77 z78 z79 z80 z81 z82 z83 z84 z85 z86 z87 z88 z89 z90 z91 z92 z93 z94 z95 z96 z97 z98 z99 z100 z101 z102 z103 z104 z105 z106 z107 z108 z109 z110 z111 z112 z113 z114 z115 z116 z117 z118 z119 z120 z121 z122 z123 z124 z125 z126 z127 z128 z129 z130 z131 z132 z133 z134 z135 z136 z137 z138 z139 f' w' hz hw
        have HZ := hide hz
        have HWF := hide hw
        clear hz hw
        go_ret
        exact ⟨rfl, who', f', K, HZ.out, HWF.out, fun c _ => by omega⟩

end Go.Proofs.YtklenjmfalljgaaGreatDoor

/- The walk of Runs. -/
namespace Go.Proofs.YtklenjmfalljgaaGreatDoor
open Go.RowKit
attribute [local go_sem] Go.World.cell?_alloc_some

theorem ctrR_check : checkRunN ctrP [0, 1, 0, 0, 0, 1, 1, 1] = 0 := by decide +kernel
theorem ctrR_kind : (runS ctrP [0, 1, 0, 0, 0, 1, 1, 1]).kind = 3 ∧ (runS ctrP [0, 1, 0, 0, 0, 1, 1, 1]).thread = 0 ∧ (runS ctrP [0, 1, 0, 0, 0, 1, 1, 1]).at_ = 0 ∧ (runS ctrP [0, 1, 0, 0, 0, 1, 1, 1]).st.vars 0 = 1 ∧ (runS ctrP [0, 1, 0, 0, 0, 1, 1, 1]).steps.length = 8 := by decide +kernel
theorem ints_eight {w : World} {g : Nat} {ty : TypeId} (h : w.heap[g]? = some (.cells #[.int .i64 0, .int .i64 1, .int .i64 0, .int .i64 0, .int .i64 0, .int .i64 1, .int .i64 1, .int .i64 1] ty (0, 0))) : IntsAt w.heap.size w (.slice (some ⟨g, 0, none⟩) 8 8) [0, 1, 0, 0, 0, 1, 1, 1] := by
  refine ⟨some ⟨g, 0, none⟩, 8, rfl, Nat.le_refl _, fun k hk => ⟨g, 0, rfl, (Array.getElem?_eq_some_iff.1 h).1, ?_⟩⟩
  simp only [World.cell?, h]
  have hk' : k < 8 := hk
  rcases (by omega : k = 0 ∨ k = 1 ∨ k = 2 ∨ k = 3 ∨ k = 4 ∨ k = 5 ∨ k = 6 ∨ k = 7) with rfl | rfl | rfl | rfl | rfl | rfl | rfl | rfl <;> rfl
/-- What Replay answers of the counter. -/
theorem ctrR_form {B : Nat} {w : World} {rv : Value} {c : Int} (h : ResV ctrP [0, 1, 0, 0, 0, 1, 1, 1] B w rv c) : c = 0 ∧ ∃ x1 x3 v1 v2 v3 y1 q y3, rv = .agg #[.int .i64 3, .int .i64 0, .int .i64 0, .slice x1 8 x3, .int .i64 1, .int .i64 v1, .int .i64 v2, .int .i64 v3, .slice y1 q y3] := by
  obtain ⟨k, t, a, v0, v1, v2, v3, x1, x3, y1, y3, m, q, rfl, hc, hh⟩ := h
  rw [ctrR_check] at hc
  rcases hh with ⟨_, h1, h2, h3, h4, _, _, _, h5, _⟩ | ⟨h0, _⟩
  · obtain ⟨e1, e2, e3, e4, e5⟩ := ctrR_kind
    rw [e1] at h1
    rw [e2] at h2
    rw [e3] at h3
    rw [e4] at h4
    rw [e5] at h5
    subst h1 h2 h3 h4 h5
    exact ⟨hc, _, _, _, _, _, _, _, _, rfl⟩
  · exact absurd hc h0

set_option maxHeartbeats 4000000 in
set_option maxRecDepth 100000 in
theorem runs_m (W : World) (pv sv qv tv : Value) (p q : List (List Ins)) (s t : List Int) (hS : ShpAt W) (hP : ProgAt W pv p) (hPN : ProgNil W pv) (hI : IntsAt W.heap.size W sv s) (hnil : nilA sv) (hP2 : ProgAt W qv q) (hJ : IntsAt W.heap.size W tv t)
    (hpl : p.length ≤ 1048576) (hpc : ∀ c ∈ p, c.length ≤ 1048576) (hql : q.length ≤ 1048576) (hqc : ∀ c ∈ q, c.length ≤ 1048576) (hsl : s.length ≤ 1048576) (htl : t.length ≤ 1048576) :
    Calls Tryz.prog 3 #[pv, sv, qv, tv] W fun e w' => e = .returned (.bool true) ∧ W.grownBy w' none := by
  have HS := hide hS
  have HP := hide hP
  have HPN := hide hPN
  have HI := hide hI
  have HNL := hide hnil
  have HP2 := hide hP2
  have HJ := hide hJ
  have HPC := hide hpc
  have HQC := hide hqc
  obtain ⟨ao, cap, rfl⟩ := hP.form
  obtain ⟨bo, bap, rfl⟩ := hP2.form
  obtain ⟨so, sc, rfl⟩ := hI.form
  obtain ⟨ta, tc, rfl⟩ := hJ.form
  have hpt : ∀ q, pt q = .pointer (some ⟨q, 0, none⟩) := fun _ => rfl
  clear hS hP hPN hI hnil hP2 hJ hpc hqc
  go_enter Tryz.func3, Tryz.ntmps3
  go_wp2_with fail
  obtain ⟨w0, hw0⟩ : ∃ w0, w0 = (W.alloc (.cells #[.slice ao p.length cap] 24)).alloc (.cells #[.slice bo q.length bap] 24) := ⟨_, rfl⟩
  rw [← hw0]
  have HG0 : Hid (W.grownBy w0 none) := by unfold Hid; rw [hw0]; exact grown_alloc (grown_alloc (grown_refl _ _))
  have HCA : Hid (w0.cell? ⟨W.heap.size, 0, none⟩ = some (.slice ao p.length cap)) := by
    have hb : w0.heap[W.heap.size]? = some (.cells #[.slice ao p.length cap] 24 (0, 0)) := by
      rw [hw0, Below.heap_alloc _ _ _ (by simp)]; exact heap_alloc_new W _
    unfold Hid; simp [World.cell?, hb]
  have HCB : Hid (w0.cell? ⟨W.heap.size + 1, 0, none⟩ = some (.slice bo q.length bap)) := by
    have hb : w0.heap[W.heap.size + 1]? = some (.cells #[.slice bo q.length bap] 24 (0, 0)) := by
      have := heap_alloc_new (W.alloc (.cells #[.slice ao p.length cap] 24)) (.cells #[.slice bo q.length bap] 24)
      rw [hw0]
      simpa using this
    unfold Hid; simp [World.cell?, hb]
  clear hw0
  refine (counter_m _).mono ?_
  rintro e w1 ⟨cv, rfl, hcp, hg1⟩
  have HG1 : Hid (w0.grownBy w1 none) := hg1
  have HCP := hide hcp
  obtain ⟨cao, ccp, hcv⟩ := hcp.form
  subst hcv
  clear hg1 hcp
  go_wp2_with fail
  obtain ⟨w2, hw2⟩ : ∃ w2, w2 = w1.alloc (.cells #[.int .i64 0, .int .i64 1, .int .i64 0, .int .i64 0, .int .i64 0, .int .i64 1, .int .i64 1, .int .i64 1] 3) := ⟨_, rfl⟩
  rw [← hw2]
  have HG12 : Hid (w1.grownBy w2 none) := by unfold Hid; rw [hw2]; exact grown_alloc (grown_refl _ _)
  have HL2 : Hid (IntsAt w2.heap.size w2 (.slice (some ⟨w1.heap.size, 0, none⟩) 8 8) [0, 1, 0, 0, 0, 1, 1, 1]) := by
    unfold Hid; rw [hw2]; exact ints_eight (heap_alloc_new w1 _)
  clear hw2
  refine (replay_m ctrP [0, 1, 0, 0, 0, 1, 1, 1] _ _ w2 (HS.out.pres (pres_grown (grown_trans HG0.out (grown_trans HG1.out HG12.out)))) (HCP.out.pres (pres_grown HG12.out)) HL2.out).mono ?_
  intro e w3 hR
  obtain ⟨hg3, rv, c, he, hV⟩ := hR.form
  clear hR
  subst he
  obtain ⟨hc0, x1, x3, v1, v2, v3, y1, yq, y3, hrv⟩ := ctrR_form hV
  clear hV
  subst hc0 hrv
  have HG3 : Hid (w0.grownBy w3 none) := grown_trans HG1.out (grown_trans HG12.out hg3)
  clear hg3 HCP HL2 HG12 HG1
  go_upto_region 2 with fail
  obtain ⟨w4, hw4⟩ : ∃ w4, w4 = w3.alloc (.cells #[.int .i64 3, .int .i64 0, .int .i64 0, .slice x1 8 x3, .int .i64 1, .int .i64 v1, .int .i64 v2, .int .i64 v3, .slice y1 yq y3] 32) := ⟨_, rfl⟩
  have hb4 : w4.heap[w3.heap.size]? = some (.cells #[.int .i64 3, .int .i64 0, .int .i64 0, .slice x1 8 x3, .int .i64 1, .int .i64 v1, .int .i64 v2, .int .i64 v3, .slice y1 yq y3] 32 (0, 0)) := by rw [hw4]; exact heap_alloc_new w3 _
  rw [← hw4]
  have HG4 : Hid (w0.grownBy w4 none) := by unfold Hid; rw [hw4]; exact grown_alloc HG3.out
  clear hw4 HG3
  obtain ⟨r0, r1, r2, r3, r4, _, _, _, _, _⟩ := nine_cells hb4
  clear hb4
  go_upto_region 5 with fail
  clear r0 r1 r2 r3 r4
  obtain ⟨w5, hw5⟩ : ∃ w5, w5 = w4.alloc (.cells (hcl f00) 43) := ⟨_, rfl⟩
  have hw5' : w4.alloc (.cells #[.slice none 0 0, .slice none 0 0, .slice none 0 0, .slice none 0 0, .slice none 0 0, .int .i64 0, .slice none 0 0, .slice none 0 0, .slice none 0 0, .slice none 0 0, .slice none 0 0, .slice none 0 0, .slice none 0 0, .slice none 0 0, .slice none 0 0, .slice none 0 0] 43) = w5 := by rw [hw5]; rfl
  rw [hw5']
  have HG45 : Hid (w4.grownBy w5 none) := by unfold Hid; rw [hw5]; exact grown_alloc (grown_refl _ _)
  have hz5 : Hz w4.heap.size w5 w4.heap.size (setW (fun _ => .other) w4.heap.size .hands) 0 f00 (fun _ => []) := Hz.start (by rw [hw5]; exact heap_alloc_new w4 _)
  have HWG : Hid (W.grownBy w4 none) := grown_trans HG0.out HG4.out
  have HS4 := hide (HS.out.pres (pres_grown HWG.out))
  have HP4 : Hid (ProgAt w4 (.agg #[.slice ao p.length cap]) p) := HP.out.pres (pres_grown HWG.out)
  have HQ4 : Hid (ProgAt w4 (.agg #[.slice bo q.length bap]) q) := HP2.out.pres (pres_grown HWG.out)
  have HI4 : Hid (IntsAt w4.heap.size w4 (.slice so s.length sc) s) := (HI.out.pres (pres_grown HWG.out)).mono HWG.out.size
  have HJ4 : Hid (IntsAt w4.heap.size w4 (.slice ta t.length tc) t) := (HJ.out.pres (pres_grown HWG.out)).mono HWG.out.size
  have HN4 : Hid (ProgNil w4 (.agg #[.slice ao p.length cap])) := fun g o n cp t rv e ht hc => by
    simp only [Value.agg.injEq, Array.mk.injEq, List.cons.injEq, Value.slice.injEq, and_true] at e
    obtain ⟨e1, e2, e3⟩ := e
    subst e1 e2 e3
    obtain ⟨ao', cap', e, hh⟩ := HP.out
    simp only [Value.agg.injEq, Array.mk.injEq, List.cons.injEq, Value.slice.injEq, and_true, true_and] at e
    obtain ⟨g', o', e1, rv', e2, _⟩ := hh t ht
    rw [← e.1] at e1
    simp only [Option.some.injEq, Addr.mk.injEq, and_true] at e1
    obtain ⟨rfl, rfl⟩ := e1
    have e3 := pres_grown HWG.out _ _ e2
    rw [e3] at hc
    simp only [Option.some.injEq] at hc
    rw [← hc]
    exact HPN.out g o p.length cap t rv' rfl ht e2
  have HCA4 := hide (pres_grown HG4.out _ _ HCA.out)
  have HCB4 := hide (pres_grown HG4.out _ _ HCB.out)
  have HF1 := hide (replayed_g w4 w4.heap.size w5 w4.heap.size _ 0 f00 _ _ _ p s hz5 HG45.out (Nat.le_refl _) HS4.out HP4.out HI4.out hpl HPC.out hsl (by omega) (by omega) (fun c _ => by simp))
  rw [hpt] at HF1
  clear hw5 hw5' hz5 HCA HCB HG4 HG0
  have c5 := pres_grown HG45.out _ _ HCA4.out
  go_wp2_with fail
  refine HF1.out.mono ?_
  clear HF1 c5
  rintro e w6 ⟨rfl, who6, f6, K6, hz6, hg6, hk6⟩
  have c6 := pres_grown hg6 _ _ HCB4.out
  have HK6 : Hid (∀ c, c < 5 → (K6 c).length ≤ 4) := fun c hc => by have := hk6 c hc; simp at this; omega
  have HF2 := hide (replayed_g w4 w4.heap.size w6 w4.heap.size _ _ f6 K6 _ _ q t hz6 hg6 (Nat.le_refl _) HS4.out HQ4.out HJ4.out hql HQC.out htl (by omega) (by omega) (fun c hc => by have := HK6.out c hc; omega))
  rw [hpt] at HF2
  clear hz6 hg6 hk6
  go_wp2_with fail
  refine HF2.out.mono ?_
  clear HF2 c6
  rintro e w7 ⟨rfl, who7, f7, K7, hz7, hg7, hk7⟩
  have c7 := pres_grown hg7 _ _ HCA4.out
  have HK7 : Hid (∀ c, c < 5 → (K7 c).length ≤ 8) := fun c hc => by have := hk7 c hc; have := HK6.out c hc; omega
  have HF3 := hide (replayed_g w4 w4.heap.size w7 w4.heap.size _ _ f7 K7 _ _ p s hz7 hg7 (Nat.le_refl _) HS4.out HP4.out HI4.out hpl HPC.out hsl (by omega) (by omega) (fun c hc => by have := HK7.out c hc; omega))
  rw [hpt] at HF3
  clear hz7 hg7 hk7 HK6
  go_wp2_with fail
  refine HF3.out.mono ?_
  clear HF3 c7
  rintro e w8 ⟨rfl, who8, f8, K8, hz8, hg8, hk8⟩
  have c8 := pres_grown hg8 _ _ HCA4.out
  have HF4 := hide (again_g w4 w4.heap.size w8 w4.heap.size _ _ f8 K8 _ _ p s 0 hz8 hg8 (Nat.le_refl _) HS4.out HP4.out HN4.out HI4.out HNL.out hpl HPC.out hsl (fun p s xv lv pv sv w h1 h2 h3 _ h4 h5 _ h6 h7 => asked_m p s xv lv pv sv w h1 h2 h3 h4 h5 h6 h7))
  rw [hpt] at HF4
  clear hz8 hg8 hk8 HK7
  go_wp2_with fail
  refine HF4.out.mono ?_
  clear HF4 c8
  rintro e w9 ⟨rfl, who9, f9, K9, hz9, hg9, hk9⟩
  have HG9 : Hid (W.grownBy w9 none) := grown_trans HWG.out hg9
  clear hz9 hg9 hk9
  go_wp2_with fail
  go_ret
  exact ⟨rfl, HG9.out⟩

end Go.Proofs.YtklenjmfalljgaaGreatDoor

/- The walks of instruction and program. -/
namespace Go.Proofs.YtklenjmfalljgaaGreatDoor
open Go.RowKit
attribute [local go_sem] Go.World.cell?_alloc_some

def insM (n many : Int) : Ins :=
  if n % 11 = 0 then ⟨1, n / 11 % 3, 0, n / 132 % 5 - 1⟩
  else if n % 11 = 7 then ⟨8, n / 11 % 3, 0, n / 132 % (many + 1)⟩
  else if n % 11 = 8 then ⟨9, n / 11 % 3, 0, 0⟩
  else if n % 11 = 9 then ⟨10, n / 11 % 3, 0, 0⟩
  else if n % 11 = 10 then (if 0 < n / 33 % 4 then ⟨2, n / 11 % 3, n / 33 % 4, 0⟩ else ⟨11, n / 11 % 3, 0, 0⟩)
  else ⟨1 + n % 11, n / 11 % 3, n / 33 % 4, 0⟩

def insN (c many : Int) : Ins := insM (pickN c 1099511627776) many

theorem insM_valid (n many : Int) (_hn : 0 ≤ n) (hm : 0 ≤ many) : vIns (insM n many) many = true := by
  have a1 : 0 ≤ n / 11 % 3 ∧ n / 11 % 3 < 3 := by omega
  have b1 : 0 ≤ n / 33 % 4 ∧ n / 33 % 4 < 4 := by omega
  have e1 : 0 ≤ n % 11 ∧ n % 11 < 11 := by omega
  have j1 : 0 ≤ n / 132 % (many + 1) ∧ n / 132 % (many + 1) < many + 1 := ⟨Int.emod_nonneg _ (by omega), Int.emod_lt_of_pos _ (by omega)⟩
  have hc : n % 11 = 0 ∨ n % 11 = 1 ∨ n % 11 = 2 ∨ n % 11 = 3 ∨ n % 11 = 4 ∨ n % 11 = 5 ∨ n % 11 = 6 ∨ n % 11 = 7 ∨ n % 11 = 8 ∨ n % 11 = 9 ∨ n % 11 = 10 := by omega
  rcases hc with e | e | e | e | e | e | e | e | e | e | e
  all_goals
    unfold insM
    simp only [e]
    generalize n / 11 % 3 = A at *
    generalize n / 33 % 4 = B at *
    generalize n / 132 % (many + 1) = J at *
    simp [vIns, shp, fitsB, belowB]
  all_goals first | omega | (split <;> simp <;> omega)

set_option maxHeartbeats 2000000 in
set_option maxRecDepth 100000 in
theorem instruction_core (c many n : Int) (hpk : ∀ w, Calls Tryz.prog 18 #[.int .i64 c, .int .i64 1099511627776] w fun e w' => e = .returned (.int .i64 n) ∧ w' = w) (hn0 : 0 ≤ n) (hn1 : n < 1099511627776) (h0 : 0 ≤ many) (h16 : many ≤ 16) (w : World) :
    Calls Tryz.prog 60 #[.int .i64 c, .int .i64 many] w fun e w' => e = .returned (.agg #[.int .i64 (insM n many).op, .int .i64 (insM n many).a, .int .i64 (insM n many).b, .int .i64 (insM n many).n]) ∧ w.grownBy w' none := by
  have HPK := hide hpk
  clear hpk
  have hcc : n % 11 = 0 ∨ n % 11 = 1 ∨ n % 11 = 2 ∨ n % 11 = 3 ∨ n % 11 = 4 ∨ n % 11 = 5 ∨ n % 11 = 6 ∨ n % 11 = 7 ∨ n % 11 = 8 ∨ n % 11 = 9 ∨ n % 11 = 10 := by omega
  have HJ : Hid (0 ≤ n / 132 % (many + 1)) := Int.emod_nonneg _ (by omega)
  rcases hcc with e | e | e | e | e | e | e | e | e | e | e
  · have HE : Hid (insM n many = ⟨1, n / 11 % 3, 0, n / 132 % 5 - 1⟩) := by unfold Hid insM; simp [e]
    rw [HE.out]
    clear HE
    go_enter Tryz.func60, Tryz.ntmps60
    go_wp2_with fail
    refine (HPK.out _).mono ?_
    rintro e' w1 ⟨rfl, rfl⟩
    go_wp2_with fail
    refine bodyPost_ret (v := .agg #[.int .i64 (1), .int .i64 (n / 11 % 3), .int .i64 (0), .int .i64 (n / 132 % 5 - 1)]) ?_ rfl ⟨rfl, ?_⟩
    · simp [results, Tryz.results60, go_sem]
    · repeat (first | exact grown_refl _ _ | refine grown_alloc ?_ | refine grown_setNew ?_ (by simp; omega))
  · have HE : Hid (insM n many = ⟨2, n / 11 % 3, n / 33 % 4, 0⟩) := by unfold Hid insM; simp [e]
    rw [HE.out]
    clear HE
    go_enter Tryz.func60, Tryz.ntmps60
    go_wp2_with fail
    refine (HPK.out _).mono ?_
    rintro e' w1 ⟨rfl, rfl⟩
    go_wp2_with fail
    refine bodyPost_ret (v := .agg #[.int .i64 (2), .int .i64 (n / 11 % 3), .int .i64 (n / 33 % 4), .int .i64 (0)]) ?_ rfl ⟨rfl, ?_⟩
    · simp [results, Tryz.results60, go_sem]
    · repeat (first | exact grown_refl _ _ | refine grown_alloc ?_ | refine grown_setNew ?_ (by simp; omega))
  · have HE : Hid (insM n many = ⟨3, n / 11 % 3, n / 33 % 4, 0⟩) := by unfold Hid insM; simp [e]
    rw [HE.out]
    clear HE
    go_enter Tryz.func60, Tryz.ntmps60
    go_wp2_with fail
    refine (HPK.out _).mono ?_
    rintro e' w1 ⟨rfl, rfl⟩
    go_wp2_with fail
    refine bodyPost_ret (v := .agg #[.int .i64 (3), .int .i64 (n / 11 % 3), .int .i64 (n / 33 % 4), .int .i64 (0)]) ?_ rfl ⟨rfl, ?_⟩
    · simp [results, Tryz.results60, go_sem]
    · repeat (first | exact grown_refl _ _ | refine grown_alloc ?_ | refine grown_setNew ?_ (by simp; omega))
  · have HE : Hid (insM n many = ⟨4, n / 11 % 3, n / 33 % 4, 0⟩) := by unfold Hid insM; simp [e]
    rw [HE.out]
    clear HE
    go_enter Tryz.func60, Tryz.ntmps60
    go_wp2_with fail
    refine (HPK.out _).mono ?_
    rintro e' w1 ⟨rfl, rfl⟩
    go_wp2_with fail
    refine bodyPost_ret (v := .agg #[.int .i64 (4), .int .i64 (n / 11 % 3), .int .i64 (n / 33 % 4), .int .i64 (0)]) ?_ rfl ⟨rfl, ?_⟩
    · simp [results, Tryz.results60, go_sem]
    · repeat (first | exact grown_refl _ _ | refine grown_alloc ?_ | refine grown_setNew ?_ (by simp; omega))
  · have HE : Hid (insM n many = ⟨5, n / 11 % 3, n / 33 % 4, 0⟩) := by unfold Hid insM; simp [e]
    rw [HE.out]
    clear HE
    go_enter Tryz.func60, Tryz.ntmps60
    go_wp2_with fail
    refine (HPK.out _).mono ?_
    rintro e' w1 ⟨rfl, rfl⟩
    go_wp2_with fail
    refine bodyPost_ret (v := .agg #[.int .i64 (5), .int .i64 (n / 11 % 3), .int .i64 (n / 33 % 4), .int .i64 (0)]) ?_ rfl ⟨rfl, ?_⟩
    · simp [results, Tryz.results60, go_sem]
    · repeat (first | exact grown_refl _ _ | refine grown_alloc ?_ | refine grown_setNew ?_ (by simp; omega))
  · have HE : Hid (insM n many = ⟨6, n / 11 % 3, n / 33 % 4, 0⟩) := by unfold Hid insM; simp [e]
    rw [HE.out]
    clear HE
    go_enter Tryz.func60, Tryz.ntmps60
    go_wp2_with fail
    refine (HPK.out _).mono ?_
    rintro e' w1 ⟨rfl, rfl⟩
    go_wp2_with fail
    refine bodyPost_ret (v := .agg #[.int .i64 (6), .int .i64 (n / 11 % 3), .int .i64 (n / 33 % 4), .int .i64 (0)]) ?_ rfl ⟨rfl, ?_⟩
    · simp [results, Tryz.results60, go_sem]
    · repeat (first | exact grown_refl _ _ | refine grown_alloc ?_ | refine grown_setNew ?_ (by simp; omega))
  · have HE : Hid (insM n many = ⟨7, n / 11 % 3, n / 33 % 4, 0⟩) := by unfold Hid insM; simp [e]
    rw [HE.out]
    clear HE
    go_enter Tryz.func60, Tryz.ntmps60
    go_wp2_with fail
    refine (HPK.out _).mono ?_
    rintro e' w1 ⟨rfl, rfl⟩
    go_wp2_with fail
    refine bodyPost_ret (v := .agg #[.int .i64 (7), .int .i64 (n / 11 % 3), .int .i64 (n / 33 % 4), .int .i64 (0)]) ?_ rfl ⟨rfl, ?_⟩
    · simp [results, Tryz.results60, go_sem]
    · repeat (first | exact grown_refl _ _ | refine grown_alloc ?_ | refine grown_setNew ?_ (by simp; omega))
  · have HE : Hid (insM n many = ⟨8, n / 11 % 3, 0, n / 132 % (many + 1)⟩) := by unfold Hid insM; simp [e]
    rw [HE.out]
    clear HE
    go_enter Tryz.func60, Tryz.ntmps60
    go_wp2_with fail
    refine (HPK.out _).mono ?_
    rintro e' w1 ⟨rfl, rfl⟩
    go_wp2_with fail
    refine bodyPost_ret (v := .agg #[.int .i64 (8), .int .i64 (n / 11 % 3), .int .i64 (0), .int .i64 (n / 132 % (many + 1))]) ?_ rfl ⟨rfl, ?_⟩
    · simp [results, Tryz.results60, go_sem]
    · repeat (first | exact grown_refl _ _ | refine grown_alloc ?_ | refine grown_setNew ?_ (by simp; omega))
  · have HE : Hid (insM n many = ⟨9, n / 11 % 3, 0, 0⟩) := by unfold Hid insM; simp [e]
    rw [HE.out]
    clear HE
    go_enter Tryz.func60, Tryz.ntmps60
    go_wp2_with fail
    refine (HPK.out _).mono ?_
    rintro e' w1 ⟨rfl, rfl⟩
    go_wp2_with fail
    refine bodyPost_ret (v := .agg #[.int .i64 (9), .int .i64 (n / 11 % 3), .int .i64 (0), .int .i64 (0)]) ?_ rfl ⟨rfl, ?_⟩
    · simp [results, Tryz.results60, go_sem]
    · repeat (first | exact grown_refl _ _ | refine grown_alloc ?_ | refine grown_setNew ?_ (by simp; omega))
  · have HE : Hid (insM n many = ⟨10, n / 11 % 3, 0, 0⟩) := by unfold Hid insM; simp [e]
    rw [HE.out]
    clear HE
    go_enter Tryz.func60, Tryz.ntmps60
    go_wp2_with fail
    refine (HPK.out _).mono ?_
    rintro e' w1 ⟨rfl, rfl⟩
    go_wp2_with fail
    refine bodyPost_ret (v := .agg #[.int .i64 (10), .int .i64 (n / 11 % 3), .int .i64 (0), .int .i64 (0)]) ?_ rfl ⟨rfl, ?_⟩
    · simp [results, Tryz.results60, go_sem]
    · repeat (first | exact grown_refl _ _ | refine grown_alloc ?_ | refine grown_setNew ?_ (by simp; omega))
  · by_cases hb : 0 < n / 33 % 4
    · have HE : Hid (insM n many = ⟨2, n / 11 % 3, n / 33 % 4, 0⟩) := by unfold Hid insM; simp [e, hb]
      rw [HE.out]
      clear HE
      go_enter Tryz.func60, Tryz.ntmps60
      go_wp2_with fail
      refine (HPK.out _).mono ?_
      rintro e' w1 ⟨rfl, rfl⟩
      go_wp2_with fail
      refine bodyPost_ret (v := .agg #[.int .i64 (2), .int .i64 (n / 11 % 3), .int .i64 (n / 33 % 4), .int .i64 (0)]) ?_ rfl ⟨rfl, ?_⟩
      · simp [results, Tryz.results60, go_sem]
      · repeat (first | exact grown_refl _ _ | refine grown_alloc ?_ | refine grown_setNew ?_ (by simp; omega))
    · have HE : Hid (insM n many = ⟨11, n / 11 % 3, 0, 0⟩) := by unfold Hid insM; simp [e, hb]
      have hb2 : n / 33 % 4 ≤ 0 := by omega
      rw [HE.out]
      clear HE
      go_enter Tryz.func60, Tryz.ntmps60
      go_wp2_with fail
      refine (HPK.out _).mono ?_
      rintro e' w1 ⟨rfl, rfl⟩
      go_wp2_with fail
      refine bodyPost_ret (v := .agg #[.int .i64 (11), .int .i64 (n / 11 % 3), .int .i64 (0), .int .i64 (0)]) ?_ rfl ⟨rfl, ?_⟩
      · simp [results, Tryz.results60, go_sem]
      · repeat (first | exact grown_refl _ _ | refine grown_alloc ?_ | refine grown_setNew ?_ (by simp; omega))

theorem instruction_m (c many : Int) (hc : -9223372036854775808 ≤ c) (hc2 : c ≤ 9223372036854775807) (h0 : 0 ≤ many) (h16 : many ≤ 16) (w : World) :
    Calls Tryz.prog 60 #[.int .i64 c, .int .i64 many] w fun e w' => e = .returned (.agg #[.int .i64 (insN c many).op, .int .i64 (insN c many).a, .int .i64 (insN c many).b, .int .i64 (insN c many).n]) ∧ w.grownBy w' none :=
  instruction_core c many _ (pick_m c 1099511627776 (by omega) (by omega) hc hc2) (pickN_range c 1099511627776 (by omega)).1 (pickN_range c 1099511627776 (by omega)).2 h0 h16 w

end Go.Proofs.YtklenjmfalljgaaGreatDoor

/- The walk of program. -/
namespace Go.Proofs.YtklenjmfalljgaaGreatDoor
open Go.RowKit
attribute [local go_sem] Go.World.cell?_alloc_some

/-- Lists of numbers in memory. -/
def RawAt (w : World) (v : Value) (l : List (List Int)) : Prop :=
  ∃ ao cap, v = .slice ao l.length cap ∧ ∀ t (ht : t < l.length), ∃ g o, ao = some ⟨g, o, none⟩ ∧ ∃ rv, w.cell? ⟨g, o + t, none⟩ = some rv ∧ IntsAt w.heap.size w rv l[t]

def codeN (r : List Int) : List Ins := (r.take 16).map fun c => insN c (min r.length 16 : Nat)
def thrN (raw : List (List Int)) (k : Nat) : List (List Ins) := (raw.take k).map codeN
def progN (raw : List (List Int)) : List (List Ins) := if (thrN raw 4).length = 0 then [[]] else thrN raw 4

theorem codeN_len (r : List Int) : (codeN r).length = min r.length 16 := by simp [codeN, Nat.min_comm]

theorem codeN_valid (r : List Int) : vCode (codeN r) = true := by
  have hl := codeN_len r
  simp only [vCode, Bool.and_eq_true, decide_eq_true_eq, List.all_eq_true]
  refine ⟨by omega, fun i hi => ?_⟩
  simp only [codeN, List.mem_map] at hi
  obtain ⟨c, _, rfl⟩ := hi
  rw [hl]
  exact insM_valid _ _ (pickN_range c 1099511627776 (by omega)).1 (by omega)

theorem progN_valid (raw : List (List Int)) : vProg (progN raw) = true := by
  unfold progN
  by_cases h : (thrN raw 4).length = 0
  · rw [if_pos h]; decide
  · rw [if_neg h]
    simp only [vProg, Bool.and_eq_true, decide_eq_true_eq, List.all_eq_true]
    refine ⟨by omega, by simp [thrN]; omega, fun c hc => ?_⟩
    simp only [thrN, List.mem_map] at hc
    obtain ⟨r, _, rfl⟩ := hc
    exact codeN_valid r

def insV (i : Ins) : List Value := [.int .i64 i.op, .int .i64 i.a, .int .i64 i.b, .int .i64 i.n]
def insCells (c : List Ins) : List Value := c.flatMap insV
theorem insCells_len (c : List Ins) : (insCells c).length = c.length * 4 := by
  induction c with
  | nil => rfl
  | cons i c ih => simp only [insCells, List.flatMap_cons, List.length_append] at *; rw [ih]; simp [insV]; omega
theorem insCells_snoc (c : List Ins) (i : Ins) : insCells (c ++ [i]) = insCells c ++ insV i := by simp [insCells]
theorem insCells_get : ∀ (c : List Ins) (k : Nat) (hk : k < c.length), (insCells c)[k * 4]? = some (.int .i64 c[k].op) ∧ (insCells c)[k * 4 + 1]? = some (.int .i64 c[k].a) ∧ (insCells c)[k * 4 + 2]? = some (.int .i64 c[k].b) ∧ (insCells c)[k * 4 + 3]? = some (.int .i64 c[k].n)
  | [], k, hk => by simp at hk
  | i :: c, 0, hk => by simp [insCells, insV]
  | i :: c, k + 1, hk => by
    have h := insCells_get c k (by simpa using hk)
    have e : insCells (i :: c) = insV i ++ insCells c := by simp [insCells]
    have e4 : ∀ j, (insCells (i :: c))[(k + 1) * 4 + j]? = (insCells c)[k * 4 + j]? := fun j => by
      rw [e, List.getElem?_append_right (by simp [insV]; omega)]
      congr 1
      simp [insV]; omega
    refine ⟨?_, ?_, ?_, ?_⟩
    · have := e4 0; simp only [Nat.add_zero] at this; rw [this]; simpa using h.1
    · rw [e4 1]; simpa using h.2.1
    · rw [e4 2]; simpa using h.2.2.1
    · rw [e4 3]; simpa using h.2.2.2

/-- A thread's code in a row of the call's own. -/
def CodeRow (L B : Nat) (w : World) (v : Value) (c : List Ins) : Prop := w.ownsRow L 74 4 v c.length (insCells c) ∧ ∀ h, v.ownBlock = some h → h < B

theorem CodeRow.codeAt {L B : Nat} {w : World} {v : Value} {c : List Ins} (h : CodeRow L B w v c) : CodeAt w v c := by
  obtain ⟨h1, _⟩ := h
  rcases h1.2 with ⟨e, e0⟩ | ⟨g, cap, cur, hv, _⟩
  · refine ⟨none, 0, by rw [e, e0], fun k hk => by omega⟩
  · refine ⟨some ⟨g, 0, none⟩, cap, hv, fun k hk => ⟨g, 0, rfl, ?_⟩⟩
    rw [hv] at h1
    have q := insCells_get c k hk
    refine ⟨?_, ?_, ?_, ?_⟩
    · rw [Nat.zero_add, h1.cellAt _ (by omega)]; exact q.1
    · rw [Nat.zero_add, h1.cellAt _ (by omega)]; exact q.2.1
    · rw [Nat.zero_add, h1.cellAt _ (by omega)]; exact q.2.2.1
    · rw [Nat.zero_add, h1.cellAt _ (by omega)]; exact q.2.2.2

theorem owns_step {w w' : World} {base : Nat} {e : TypeId} {size : Nat} {v : Value} {n : Nat} {xs : List Value} {r : Option Nat} (h : w.ownsRow base e size v n xs) (hg : w.grownBy w' r) (hr : ∀ k, r = some k → v.ownBlock ≠ some k) : w'.ownsRow base e size v n xs := by
  obtain ⟨h1, h2⟩ := h
  refine ⟨h1, ?_⟩
  rcases h2 with h2 | ⟨g, cap, cur, hv, hb, hh, rest⟩
  · exact Or.inl h2
  · have hlt : g < w.heap.size := (Array.getElem?_eq_some_iff.1 hh).1
    refine Or.inr ⟨g, cap, cur, hv, hb, ?_, rest⟩
    rw [hg.block g hlt (fun e => hr g e.symm (by rw [hv]; rfl))]; exact hh

theorem owns_types {w : World} {b1 b2 e1 e2 z1 z2 : Nat} {v1 v2 : Value} {n1 n2 : Nat} {x1 x2 : List Value} (h1 : w.ownsRow b1 e1 z1 v1 n1 x1) (h2 : w.ownsRow b2 e2 z2 v2 n2 x2) (he : e1 ≠ e2) : ∀ k, v1.ownBlock = some k → v2.ownBlock ≠ some k := by
  intro k hk hk2
  rcases h1.2 with ⟨e, _⟩ | ⟨g, _, c1, hv, _, hh, _⟩
  · rw [e] at hk; cases hk
  · rcases h2.2 with ⟨e, _⟩ | ⟨g', _, c2, hv', _, hh', _⟩
    · rw [e] at hk2; cases hk2
    · rw [hv] at hk
      rw [hv'] at hk2
      have e1 : g = k := by simpa [Value.ownBlock] using hk
      have e2 : g' = k := by simpa [Value.ownBlock] using hk2
      rw [e1] at hh
      rw [e2, hh] at hh'
      simp at hh'
      exact he hh'.2

/-- The threads so far. -/
def ThrAt (L B : Nat) (w : World) (tv : Value) (p : List (List Ins)) : Prop :=
  ∃ rows, w.ownsRow L 75 1 tv p.length rows ∧ (∀ h, tv.ownBlock = some h → h < B) ∧ ∀ j (hj : j < p.length), ∃ rv, rows[j]? = some rv ∧ CodeRow L B w rv p[j]

theorem ThrAt.step {L B : Nat} {w w' : World} {tv : Value} {p : List (List Ins)} {r : Option Nat} (h : ThrAt L B w tv p) (hg : w.grownBy w' r) (hr : ∀ q, r = some q → q < L ∨ B ≤ q) : ThrAt L B w' tv p := by
  obtain ⟨rows, h1, h2, h3⟩ := h
  refine ⟨rows, owns_step h1 hg (fun k e e2 => ?_), h2, fun j hj => ?_⟩
  · have := h2 k e2; have := owns_block h1 k e2; rcases hr k e with q | q <;> omega
  · obtain ⟨rv, e1, e2, e3⟩ := h3 j hj
    refine ⟨rv, e1, owns_step e2 hg (fun k e e4 => ?_), e3⟩
    have := e3 k e4; have := owns_block e2 k e4; rcases hr k e with q | q <;> omega
theorem ThrAt.mono {L B B' : Nat} {w : World} {tv : Value} {p : List (List Ins)} (h : ThrAt L B w tv p) (hb : B ≤ B') : ThrAt L B' w tv p := by
  obtain ⟨rows, h1, h2, h3⟩ := h
  refine ⟨rows, h1, fun q e => Nat.lt_of_lt_of_le (h2 q e) hb, fun j hj => ?_⟩
  obtain ⟨rv, e1, e2, e3⟩ := h3 j hj
  exact ⟨rv, e1, e2, fun q e => Nat.lt_of_lt_of_le (e3 q e) hb⟩

theorem ThrAt.progAt {L B : Nat} {w : World} {tv : Value} {p : List (List Ins)} (h : ThrAt L B w tv p) : ProgAt w (.agg #[tv]) p := by
  obtain ⟨rows, h1, h2, h3⟩ := h
  rcases h1.2 with ⟨e, e0⟩ | ⟨g, cap, cur, hv, _⟩
  · refine ⟨none, 0, by rw [e, e0], fun k hk => by omega⟩
  · refine ⟨some ⟨g, 0, none⟩, cap, by rw [hv], fun j hj => ⟨g, 0, rfl, ?_⟩⟩
    obtain ⟨rv, e1, e2⟩ := h3 j hj
    rw [hv] at h1
    exact ⟨rv, by rw [Nat.zero_add, h1.cellAt j (by omega)]; exact e1, e2.codeAt⟩

/-- p.Threads = append(p.Threads, l): the worlds behind the append. -/
theorem ThrAt.snoc {L B : Nat} {w w1 w2 : World} {tv tv' lv : Value} {p : List (List Ins)} {c : List Ins} {rows : List Value} (h : ThrAt L B w tv p) (ho : w.ownsRow L 75 1 tv p.length rows) (hl : CodeRow L B w lv c) (hg1 : w.grownBy w1 none)
    (hg2 : w1.grownBy w2 tv.ownBlock) (ho2 : w2.ownsRow L 75 1 tv' (p.length + 1) (rows ++ [lv])) (hB : B ≤ w2.heap.size) (ht : ∀ q, tv'.ownBlock = some q → q < w2.heap.size) : ThrAt L w2.heap.size w2 tv' (p ++ [c]) := by
  obtain ⟨rows', h1, h2, h3⟩ := h
  have hrows : rows' = rows := by
    rcases h1.2 with ⟨e, e0⟩ | ⟨g, cap, cur, hv, _, hh, _, _, _, ht1⟩
    · have a1 := h1.1; have a2 := ho.1
      rw [e0] at a1 a2
      rw [List.length_eq_zero_iff.1 (by omega : rows'.length = 0), List.length_eq_zero_iff.1 (by omega : rows.length = 0)]
    · rcases ho.2 with ⟨e, e0⟩ | ⟨g', cap', cur', hv', _, hh', _, _, _, ht2⟩
      · rw [e] at hv; cases hv
      · rw [hv] at hv'
        simp at hv'
        obtain ⟨e1, e2⟩ := hv'
        rw [← e1, hh] at hh'
        simp at hh'
        rw [← ht1, ← ht2, hh']
  subst hrows
  have hrow : ∀ {rv : Value} {c : List Ins}, CodeRow L B w rv c → CodeRow L w2.heap.size w2 rv c := fun {rv c} hc => by
    have a1 := owns_step hc.1 hg1 (fun k e => by cases e)
    have a2 := owns_step h1 hg1 (fun k e => by cases e)
    exact ⟨owns_step a1 hg2 (fun k e => owns_types a2 a1 (by decide) k e), fun q e => Nat.lt_of_lt_of_le (hc.2 q e) hB⟩
  refine ⟨rows' ++ [lv], by simpa using ho2, ht, fun j hj => ?_⟩
  have hlr : rows'.length = p.length := by have := h1.1; omega
  by_cases hlt : j < p.length
  · obtain ⟨rv, e1, e2⟩ := h3 j hlt
    exact ⟨rv, by rw [List.getElem?_append_left (by omega)]; exact e1, by rw [List.getElem_append_left hlt]; exact hrow e2⟩
  · have ej : j = p.length := by simp at hj; omega
    subst ej
    exact ⟨lv, by rw [List.getElem?_append_right (by omega)]; simp [hlr], by simpa using hrow hl⟩

theorem info_ins : ((Tryz.prog.info? 74).map fun i => (i.zero, i.size, i.bytes)) = some (some (.agg #[.int .i64 0, .int .i64 0, .int .i64 0, .int .i64 0]), 4, 32) := by kernel_rfl
theorem info_code : ((Tryz.prog.info? 75).map fun i => (i.zero, i.size, i.bytes)) = some (some (.slice none 0 0), 1, 24) := by kernel_rfl

end Go.Proofs.YtklenjmfalljgaaGreatDoor

/- The walk of program. -/
namespace Go.Proofs.YtklenjmfalljgaaGreatDoor
open Go.RowKit
attribute [local go_sem] Go.World.cell?_alloc_some

def isInt (c : Int) : Prop := -9223372036854775808 ≤ c ∧ c ≤ 9223372036854775807

/-- In the midst of program. -/
def ProgOut (w : World) (raw : List (List Int)) (t : Nat) (w' : World) : Prop :=
  ∃ tv, w'.heap[w.heap.size + 1]? = some (.cells #[tv] 24 (0, 0)) ∧ ThrAt (w.heap.size + 2) w'.heap.size w' tv (thrN raw t) ∧ w.grownBy w' none ∧ w'.heap[w.heap.size]? = some (.cells #[.slice none 0 0] 24 (0, 0)) ∧ w.heap.size + 2 ≤ w'.heap.size

def ProgIn (w : World) (raw : List (List Int)) (t Bt k : Nat) (c : List Ins) (lv : Value) (w' : World) : Prop :=
  ∃ tv, w'.heap[w.heap.size + 1]? = some (.cells #[tv] 24 (0, 0)) ∧ ThrAt (w.heap.size + 2) Bt w' tv (thrN raw t) ∧ w'.ownsRow Bt 74 4 lv k (insCells (c.take k)) ∧ w.grownBy w' none ∧ w'.heap[w.heap.size]? = some (.cells #[.slice none 0 0] 24 (0, 0)) ∧ w.heap.size + 2 ≤ Bt ∧ Bt ≤ w'.heap.size

theorem owns_lt {w : World} {base e size : Nat} {v : Value} {n : Nat} {xs : List Value} (h : w.ownsRow base e size v n xs) : ∀ q, v.ownBlock = some q → q < w.heap.size := fun q eq => by
  rcases h.2 with ⟨e1, _⟩ | ⟨g', _, _, hv, _, hh, _⟩
  · rw [e1] at eq; cases eq
  · rw [hv] at eq
    have := (Array.getElem?_eq_some_iff.1 hh).1
    simp [Value.ownBlock] at eq
    omega

theorem thrN_succ (raw : List (List Int)) (t : Nat) (ht : t < raw.length) : thrN raw (t + 1) = thrN raw t ++ [codeN raw[t]] := by
  unfold thrN
  rw [List.take_succ_eq_append_getElem ht, List.map_append]; rfl
theorem thrN_len (raw : List (List Int)) (t : Nat) (ht : t ≤ raw.length) : (thrN raw t).length = t := by simp [thrN]; omega

theorem heap_alloc_new2 (w : World) (a b : Obj) : ((w.alloc a).alloc b).heap[w.heap.size + 1]? = some b := by
  have := heap_alloc_new (w.alloc a) b
  simpa using this

theorem insV_one (i : Ins) : ∀ v ∈ insV i, v.oneCell' = true := by
  intro v hv; simp only [insV, List.mem_cons, List.not_mem_nil, or_false] at hv
  rcases hv with rfl | rfl | rfl | rfl <;> rfl

set_option maxHeartbeats 8000000 in
set_option maxRecDepth 100000 in
theorem program_t (raw : List (List Int)) (rv : Value) (w : World) (hR : RawAt w rv raw) (hb : ∀ t (ht : t < raw.length) k (hk : k < raw[t].length), isInt raw[t][k]) :
    Calls Tryz.prog 37 #[rv] w fun e w' => ∃ tv, e = .returned (.agg #[tv]) ∧ ThrAt (w.heap.size + 2) w'.heap.size w' tv (progN raw) ∧ w.grownBy w' none := by
  obtain ⟨i0, hi0, hz0, hz1, hz2⟩ := info_parts info_ins
  obtain ⟨i1, hi1, hy0, hy1, hy2⟩ := info_parts info_code
  obtain ⟨ao, cap, rfl, hR⟩ := hR
  have HR := hide hR
  have HBd := hide hb
  clear hR hb
  go_enter Tryz.func37, Tryz.ntmps37
  go_wp2_with fail
  go_loopw [4] (fun i w' => ∃ t : Nat, t ≤ raw.length ∧ t ≤ 4 ∧ i = .int .i64 t ∧ Hid (ProgOut w raw t w')) (fun i _ => raw.length - (intOf i).toNat)
  case atStart =>
    refine ⟨0, Nat.zero_le _, by omega, rfl, .slice none 0 0, ?_, ⟨[], ⟨rfl, Or.inl ⟨rfl, rfl⟩⟩, fun h e => (by cases e), fun j hj => (by simp [thrN] at hj)⟩, grown_alloc (grown_alloc (grown_refl _ _)), ?_, by simp⟩
    · have := heap_alloc_new (w.alloc (.cells #[.slice none 0 0] 24)) (.cells #[.slice none 0 0] 24)
      simpa using this
    · rw [Below.heap_alloc _ _ _ (by simp)]; exact heap_alloc_new w _
  case round =>
    obtain ⟨t, ht, ht4, rfl, HO⟩ := hrel
    obtain ⟨w3, hw3⟩ : ∃ w3, w3 = wr := ⟨_, rfl⟩
    subst hw3
    by_cases hgo : t < raw.length ∧ t < 4
    · obtain ⟨hlt, hlt4⟩ := hgo
      obtain ⟨pg, po, rfl, r1, hr1, hr2⟩ := HR.out t hlt
      obtain ⟨ra, rc, rfl, _, hr3⟩ := hr2
      have hpr : Pres w w3 := by obtain ⟨tv, _, _, hg, _⟩ := HO.out; exact pres_grown hg
      have hr1' := hpr _ _ hr1
      have HBt := hide (HBd.out t hlt)
      have HR3 := hide hr3
      have HCN : Hid (thrN raw (t + 1) = thrN raw t ++ [codeN raw[t]]) := thrN_succ raw t hlt
      clear hpr hr3
      have q0 : (0 : Int) ≤ (t : Int) := by omega
      have q1 : (t : Int) < raw.length := by omega
      have q2 : (t : Int) < 4 := by omega
      generalize raw[t] = r at *
      by_cases h16 : 16 < r.length
      · have g16 : (16 : Int) < r.length := by omega
        have hCl : (codeN r).length = 16 := by rw [codeN_len]; omega
        have HCl := hide hCl
        have hML : 16 ≤ 16 := by omega
        have hMr : 16 ≤ r.length := by omega
        clear hCl
        go_wp2_with fail
        go_loopw [5, 7] (fun lv i w' => ∃ k : Nat, k ≤ 16 ∧ i = .int .i64 k ∧ Hid (ProgIn w raw t w3.heap.size k (codeN r) lv w')) (fun _ i _ => 16 - (intOf i).toNat)
        case atStart =>
          obtain ⟨tv, o1, o2, o3, o4, o5⟩ := HO.out
          exact ⟨0, Nat.zero_le _, rfl, tv, o1, o2, ⟨rfl, Or.inl ⟨rfl, rfl⟩⟩, o3, o4, o5, Nat.le_refl _⟩
        case round =>
          obtain ⟨k, hk, rfl, HJ⟩ := hrel
          obtain ⟨w4, hw4⟩ : ∃ w4, w4 = wr := ⟨_, rfl⟩
          subst hw4
          by_cases hkl : k < 16
          · have hg4 : w.grownBy w4 none := by obtain ⟨tv, _, _, _, hg, _⟩ := HJ.out; exact hg
            have hkr : k < r.length := by omega
            obtain ⟨ig, io, rfl, _, hic⟩ := HR3.out k hkr
            have hic' := pres_grown hg4 _ _ hic
            have hr1'' : w4.cell? ⟨pg, po + t, none⟩ = some (.slice (some ⟨ig, io, none⟩) r.length rc) := pres_grown hg4 _ _ hr1
            have hbd := HBt.out k hkr
            have q3 : (0 : Int) ≤ (k : Int) := by omega
            have q4 : (k : Int) < r.length := by omega
            have q5 : (k : Int) < 16 := by omega
            have HCk : Hid ((codeN r)[k]? = some (insN r[k] ((16 : Nat) : Int))) := by
              unfold Hid codeN
              have e : min r.length 16 = 16 := by omega
              rw [e]
              simp [List.getElem?_take, hkr]
              omega
            clear hic
            generalize r[k] = c at *
            go_wp2_with fail
            refine (instruction_m c _ hbd.1 hbd.2 (by omega) (by omega) _).mono ?_
            rintro e w5 ⟨rfl, hg5⟩
            have HG5 := hide hg5
            have hsz5 := hg5.size
            clear hg5 hic' hr1''
            generalize hins : insN c (16) = i at *
            clear hins
            have h63 : k + 1 ≤ maxLen := by unfold maxLen; omega
            obtain ⟨tv, j1, j2, j3, j4, j5, j6, j7⟩ := HJ.out
            go_wp2_with (at_builtin; refine wpList_append_lies _ rfl _ _ _ rfl w3.heap.size 74 i0 _ 4 32 Tryz.underlying75 hi0 hz0 hz1 hz2 rfl (by omega) u5 k (insCells ((codeN r).take k)) rfl (owns_grown j3 (grown_alloc (grown_alloc HG5.out)) (fun _ e => by cases e)) ⟨w5.heap.size + 1, 0, none⟩ 1 1 (insV i) rfl rfl (World.news_of_block (cs := #[.int .i64 i.op, .int .i64 i.a, .int .i64 i.b, .int .i64 i.n]) (t := 74) (fr := (0, 0)) (heap_alloc_new2 w5 _ _)) (insV_one i) (by omega) h63 (by omega) (by simp; omega) (w5.heap.size + 2) (by simp) ?_; intro g6 cap6 w6 hown6 hgrow hat hlt6)
            have HNX : Hid (ProgIn w raw t w3.heap.size (k + 1) (codeN r) (.slice (some ⟨g6, 0, none⟩) (k + 1) cap6) w6) := by
              have hob := owns_block j3
              have hgw : w4.grownBy ((w5.alloc (.cells #[.int .i64 i.op, .int .i64 i.a, .int .i64 i.b, .int .i64 i.n] 74)).alloc (.cells #[.int .i64 i.op, .int .i64 i.a, .int .i64 i.b, .int .i64 i.n] 74)) none := grown_alloc (grown_alloc HG5.out)
              have hsz6 := hgrow.size
              simp only [World.size_alloc] at hsz6
              have hfar : ∀ q, q < w3.heap.size → w6.heap[q]? = w4.heap[q]? := fun q hq => by
                rw [hgrow.block q (by simp; omega) (fun e => by have := hob q e.symm; omega), hgw.block q (by omega) (by simp)]
              have hkc : k < (codeN r).length := by rw [HCl.out]; omega
              refine ⟨tv, by rw [hfar _ (by omega)]; exact j1, (j2.step hgw (fun q e => by cases e)).step hgrow (fun q e => Or.inr (hob q e)), ?_, grown_row (grown_trans j4 hgw) hgrow (fun q e => by have := hob q e; have := j4.size; omega), by rw [hfar _ (by omega)]; exact j5, j6, by omega⟩
              rw [List.take_succ_eq_append_getElem hkc, insCells_snoc]
              have e1 : (codeN r)[k] = i := by
                have := HCk.out
                rw [List.getElem?_eq_getElem hkc] at this
                simpa using this
              rw [e1]; exact hown6
            clear j1 j2 j3 j4 j5 j6 j7 hgrow hown6 hat
            go_wp2
            go_roundw
            case rel => exact ⟨k + 1, by omega, by go_num, HNX⟩
            case measure => simp [intOf]; omega
          · have hke : k = 16 := by omega
            have q5 : (16 : Int) ≤ (k : Int) := by omega
            obtain ⟨tv, j1, j2, j3, j4, j5, j6, j7⟩ := HJ.out
            have HJ3 : Hid (CodeRow (w.heap.size + 2) w4.heap.size w4 u5 (codeN r)) := by
              refine ⟨?_, owns_lt j3⟩
              rw [List.take_of_length_le (by rw [HCl.out]; omega)] at j3
              rw [HCl.out, ← hke]
              exact owns_mono j3 (by omega)
            obtain ⟨rows, p1, p2, p3⟩ := j2
            have hTl : (thrN raw t).length = t := thrN_len raw t ht
            rw [hTl] at p1
            have P1 := hide p1
            have J2 : Hid (ThrAt (w.heap.size + 2) w3.heap.size w4 tv (thrN raw t)) := ⟨rows, by rw [hTl]; exact p1, p2, p3⟩
            obtain ⟨tva, tvn, tvc, rfl⟩ := owns_form p1
            have c1 : w4.cell? ⟨w.heap.size + 1, 0, none⟩ = some (.slice tva tvn tvc) := by simp [World.cell?, j1]
            have c1f : w4.frozen? ⟨w.heap.size + 1, 0, none⟩ = false := by simp [World.frozen?, j1]
            obtain ⟨la, ln, lc, rfl⟩ := owns_form HJ3.out.1
            have h63 : t + 1 ≤ maxLen := by unfold maxLen; omega
            have J1 := hide j1
            have J5 := hide j5
            have J4 := hide j4
            clear p1 p2 p3 j1 j5 j4 hke j3
            go_wp2_with (at_builtin; refine wpList_append_lies _ rfl _ _ _ rfl (w.heap.size + 2) 75 i1 _ 1 24 Tryz.underlying22 hi1 hy0 hy1 hy2 rfl (by omega) (.slice tva tvn tvc) t rows rfl (owns_alloc P1.out) ⟨w4.heap.size, 0, none⟩ 1 1 [.slice la ln lc] rfl rfl (World.news_of_block (cs := #[.slice la ln lc]) (t := 75) (fr := (0, 0)) (heap_alloc_new w4 _)) (by simp [Value.oneCell']) (by omega) h63 (by omega) (by simp; omega) (w4.heap.size + 1) (by simp) ?_; intro g6 cap6 w6 hown6 hgrow hat hlt6; have c6 : w6.cell? ⟨w.heap.size + 1, 0, none⟩ = some (.slice tva tvn tvc) := (by rw [hgrow.cell_far _ (by simp; omega) (fun e => by have := owns_block P1.out _ e.symm; simp at this), World.cell?_alloc_lt _ _ _ (by simp; omega)]; exact c1); have c6f : w6.frozen? ⟨w.heap.size + 1, 0, none⟩ = false := (by rw [hgrow.frozen_far _ (by simp; omega) (fun e => by have := owns_block P1.out _ e.symm; simp at this), World.frozen?_alloc_old _ _ _ (by simp; omega)]; exact c1f))
            have HNX : Hid (ProgOut w raw (t + 1) (w6.setCell ⟨w.heap.size + 1, 0, none⟩ (.slice (some ⟨g6, 0, none⟩) (t + 1) cap6))) := by
              have hob := owns_block P1.out
              have hsz6 := hgrow.size
              simp only [World.size_alloc] at hsz6
              have hfar : ∀ q, q < w.heap.size + 2 → w6.heap[q]? = w4.heap[q]? := fun q hq => by
                rw [hgrow.block q (by simp; omega) (fun e => by have := hob q e.symm; omega), Below.heap_alloc _ _ _ (by omega)]
              have hsn := ThrAt.snoc (J2.out.mono (by omega : w3.heap.size ≤ w4.heap.size)) (rows := rows) (by rw [hTl]; exact P1.out) HJ3.out (grown_alloc (grown_refl _ _)) hgrow (tv' := .slice (some ⟨g6, 0, none⟩) (t + 1) cap6) (by rw [hTl]; exact hown6) (by omega) (owns_lt hown6)
              refine ⟨.slice (some ⟨g6, 0, none⟩) (t + 1) cap6, ?_, ?_, ?_, ?_, by simp; omega⟩
              · have := heap_setCell_same w6 (w.heap.size + 1) 0 _ _ (.slice (some ⟨g6, 0, none⟩) (t + 1) cap6) (by rw [hfar _ (by omega)]; exact J1.out)
                simpa using this
              · rw [HCN.out, World.size_setCell]
                exact hsn.step grown_set (fun q e => by cases e; exact Or.inl (by omega))
              · exact grown_setNew (grown_row (grown_alloc J4.out) hgrow (fun q e => by have := hob q e; omega)) (by omega)
              · rw [Below.heap_setCell _ _ _ _ (by simp), hfar _ (by omega)]; exact J5.out
            clear hgrow hown6 hat
            go_wp2
            go_roundw
            case rel => exact ⟨t + 1, by omega, by omega, by go_num, HNX⟩
            case measure => simp [intOf]; omega
      · have g16 : (r.length : Int) ≤ 16 := by omega
        have hCl : (codeN r).length = r.length := by rw [codeN_len]; omega
        have HCl := hide hCl
        have hML : r.length ≤ 16 := by omega
        have hMr : r.length ≤ r.length := by omega
        clear hCl
        go_wp2_with fail
        go_loopw [5, 7] (fun lv i w' => ∃ k : Nat, k ≤ r.length ∧ i = .int .i64 k ∧ Hid (ProgIn w raw t w3.heap.size k (codeN r) lv w')) (fun _ i _ => r.length - (intOf i).toNat)
        case atStart =>
          obtain ⟨tv, o1, o2, o3, o4, o5⟩ := HO.out
          exact ⟨0, Nat.zero_le _, rfl, tv, o1, o2, ⟨rfl, Or.inl ⟨rfl, rfl⟩⟩, o3, o4, o5, Nat.le_refl _⟩
        case round =>
          obtain ⟨k, hk, rfl, HJ⟩ := hrel
          obtain ⟨w4, hw4⟩ : ∃ w4, w4 = wr := ⟨_, rfl⟩
          subst hw4
          by_cases hkl : k < r.length
          · have hg4 : w.grownBy w4 none := by obtain ⟨tv, _, _, _, hg, _⟩ := HJ.out; exact hg
            have hkr : k < r.length := by omega
            obtain ⟨ig, io, rfl, _, hic⟩ := HR3.out k hkr
            have hic' := pres_grown hg4 _ _ hic
            have hr1'' : w4.cell? ⟨pg, po + t, none⟩ = some (.slice (some ⟨ig, io, none⟩) r.length rc) := pres_grown hg4 _ _ hr1
            have hbd := HBt.out k hkr
            have q3 : (0 : Int) ≤ (k : Int) := by omega
            have q4 : (k : Int) < r.length := by omega
            have q5 : (k : Int) < (r.length : Int) := by omega
            have HCk : Hid ((codeN r)[k]? = some (insN r[k] ((r.length : Nat) : Int))) := by
              unfold Hid codeN
              have e : min r.length 16 = r.length := by omega
              rw [e]
              simp [List.getElem?_take, hkr]
              omega
            clear hic
            generalize r[k] = c at *
            go_wp2_with fail
            refine (instruction_m c _ hbd.1 hbd.2 (by omega) (by omega) _).mono ?_
            rintro e w5 ⟨rfl, hg5⟩
            have HG5 := hide hg5
            have hsz5 := hg5.size
            clear hg5 hic' hr1''
            generalize hins : insN c ((r.length : Int)) = i at *
            clear hins
            have h63 : k + 1 ≤ maxLen := by unfold maxLen; omega
            obtain ⟨tv, j1, j2, j3, j4, j5, j6, j7⟩ := HJ.out
            go_wp2_with (at_builtin; refine wpList_append_lies _ rfl _ _ _ rfl w3.heap.size 74 i0 _ 4 32 Tryz.underlying75 hi0 hz0 hz1 hz2 rfl (by omega) u5 k (insCells ((codeN r).take k)) rfl (owns_grown j3 (grown_alloc (grown_alloc HG5.out)) (fun _ e => by cases e)) ⟨w5.heap.size + 1, 0, none⟩ 1 1 (insV i) rfl rfl (World.news_of_block (cs := #[.int .i64 i.op, .int .i64 i.a, .int .i64 i.b, .int .i64 i.n]) (t := 74) (fr := (0, 0)) (heap_alloc_new2 w5 _ _)) (insV_one i) (by omega) h63 (by omega) (by simp; omega) (w5.heap.size + 2) (by simp) ?_; intro g6 cap6 w6 hown6 hgrow hat hlt6)
            have HNX : Hid (ProgIn w raw t w3.heap.size (k + 1) (codeN r) (.slice (some ⟨g6, 0, none⟩) (k + 1) cap6) w6) := by
              have hob := owns_block j3
              have hgw : w4.grownBy ((w5.alloc (.cells #[.int .i64 i.op, .int .i64 i.a, .int .i64 i.b, .int .i64 i.n] 74)).alloc (.cells #[.int .i64 i.op, .int .i64 i.a, .int .i64 i.b, .int .i64 i.n] 74)) none := grown_alloc (grown_alloc HG5.out)
              have hsz6 := hgrow.size
              simp only [World.size_alloc] at hsz6
              have hfar : ∀ q, q < w3.heap.size → w6.heap[q]? = w4.heap[q]? := fun q hq => by
                rw [hgrow.block q (by simp; omega) (fun e => by have := hob q e.symm; omega), hgw.block q (by omega) (by simp)]
              have hkc : k < (codeN r).length := by rw [HCl.out]; omega
              refine ⟨tv, by rw [hfar _ (by omega)]; exact j1, (j2.step hgw (fun q e => by cases e)).step hgrow (fun q e => Or.inr (hob q e)), ?_, grown_row (grown_trans j4 hgw) hgrow (fun q e => by have := hob q e; have := j4.size; omega), by rw [hfar _ (by omega)]; exact j5, j6, by omega⟩
              rw [List.take_succ_eq_append_getElem hkc, insCells_snoc]
              have e1 : (codeN r)[k] = i := by
                have := HCk.out
                rw [List.getElem?_eq_getElem hkc] at this
                simpa using this
              rw [e1]; exact hown6
            clear j1 j2 j3 j4 j5 j6 j7 hgrow hown6 hat
            go_wp2
            go_roundw
            case rel => exact ⟨k + 1, by omega, by go_num, HNX⟩
            case measure => simp [intOf]; omega
          · have hke : k = r.length := by omega
            have q5 : ((r.length : Int) : Int) ≤ (k : Int) := by omega
            obtain ⟨tv, j1, j2, j3, j4, j5, j6, j7⟩ := HJ.out
            have HJ3 : Hid (CodeRow (w.heap.size + 2) w4.heap.size w4 u5 (codeN r)) := by
              refine ⟨?_, owns_lt j3⟩
              rw [List.take_of_length_le (by rw [HCl.out]; omega)] at j3
              rw [HCl.out, ← hke]
              exact owns_mono j3 (by omega)
            obtain ⟨rows, p1, p2, p3⟩ := j2
            have hTl : (thrN raw t).length = t := thrN_len raw t ht
            rw [hTl] at p1
            have P1 := hide p1
            have J2 : Hid (ThrAt (w.heap.size + 2) w3.heap.size w4 tv (thrN raw t)) := ⟨rows, by rw [hTl]; exact p1, p2, p3⟩
            obtain ⟨tva, tvn, tvc, rfl⟩ := owns_form p1
            have c1 : w4.cell? ⟨w.heap.size + 1, 0, none⟩ = some (.slice tva tvn tvc) := by simp [World.cell?, j1]
            have c1f : w4.frozen? ⟨w.heap.size + 1, 0, none⟩ = false := by simp [World.frozen?, j1]
            obtain ⟨la, ln, lc, rfl⟩ := owns_form HJ3.out.1
            have h63 : t + 1 ≤ maxLen := by unfold maxLen; omega
            have J1 := hide j1
            have J5 := hide j5
            have J4 := hide j4
            clear p1 p2 p3 j1 j5 j4 hke j3
            go_wp2_with (at_builtin; refine wpList_append_lies _ rfl _ _ _ rfl (w.heap.size + 2) 75 i1 _ 1 24 Tryz.underlying22 hi1 hy0 hy1 hy2 rfl (by omega) (.slice tva tvn tvc) t rows rfl (owns_alloc P1.out) ⟨w4.heap.size, 0, none⟩ 1 1 [.slice la ln lc] rfl rfl (World.news_of_block (cs := #[.slice la ln lc]) (t := 75) (fr := (0, 0)) (heap_alloc_new w4 _)) (by simp [Value.oneCell']) (by omega) h63 (by omega) (by simp; omega) (w4.heap.size + 1) (by simp) ?_; intro g6 cap6 w6 hown6 hgrow hat hlt6; have c6 : w6.cell? ⟨w.heap.size + 1, 0, none⟩ = some (.slice tva tvn tvc) := (by rw [hgrow.cell_far _ (by simp; omega) (fun e => by have := owns_block P1.out _ e.symm; simp at this), World.cell?_alloc_lt _ _ _ (by simp; omega)]; exact c1); have c6f : w6.frozen? ⟨w.heap.size + 1, 0, none⟩ = false := (by rw [hgrow.frozen_far _ (by simp; omega) (fun e => by have := owns_block P1.out _ e.symm; simp at this), World.frozen?_alloc_old _ _ _ (by simp; omega)]; exact c1f))
            have HNX : Hid (ProgOut w raw (t + 1) (w6.setCell ⟨w.heap.size + 1, 0, none⟩ (.slice (some ⟨g6, 0, none⟩) (t + 1) cap6))) := by
              have hob := owns_block P1.out
              have hsz6 := hgrow.size
              simp only [World.size_alloc] at hsz6
              have hfar : ∀ q, q < w.heap.size + 2 → w6.heap[q]? = w4.heap[q]? := fun q hq => by
                rw [hgrow.block q (by simp; omega) (fun e => by have := hob q e.symm; omega), Below.heap_alloc _ _ _ (by omega)]
              have hsn := ThrAt.snoc (J2.out.mono (by omega : w3.heap.size ≤ w4.heap.size)) (rows := rows) (by rw [hTl]; exact P1.out) HJ3.out (grown_alloc (grown_refl _ _)) hgrow (tv' := .slice (some ⟨g6, 0, none⟩) (t + 1) cap6) (by rw [hTl]; exact hown6) (by omega) (owns_lt hown6)
              refine ⟨.slice (some ⟨g6, 0, none⟩) (t + 1) cap6, ?_, ?_, ?_, ?_, by simp; omega⟩
              · have := heap_setCell_same w6 (w.heap.size + 1) 0 _ _ (.slice (some ⟨g6, 0, none⟩) (t + 1) cap6) (by rw [hfar _ (by omega)]; exact J1.out)
                simpa using this
              · rw [HCN.out, World.size_setCell]
                exact hsn.step grown_set (fun q e => by cases e; exact Or.inl (by omega))
              · exact grown_setNew (grown_row (grown_alloc J4.out) hgrow (fun q e => by have := hob q e; omega)) (by omega)
              · rw [Below.heap_setCell _ _ _ _ (by simp), hfar _ (by omega)]; exact J5.out
            clear hgrow hown6 hat
            go_wp2
            go_roundw
            case rel => exact ⟨t + 1, by omega, by omega, by go_num, HNX⟩
            case measure => simp [intOf]; omega
    · obtain ⟨tv, j1, j2, j4, j5, j6⟩ := HO.out
      have hTe : thrN raw t = thrN raw 4 := by
        unfold thrN
        by_cases h4 : t = 4
        · rw [h4]
        · rw [List.take_of_length_le (by omega), List.take_of_length_le (by omega)]
      have hTl : (thrN raw t).length = t := thrN_len raw t ht
      have HT : Hid (ThrAt (w.heap.size + 2) w3.heap.size w3 tv (thrN raw 4)) := by rw [← hTe]; exact j2
      obtain ⟨rows, p1, p2, p3⟩ := j2
      rw [hTl] at p1
      have P1 := hide p1
      obtain ⟨tva, tvn, tvc, rfl⟩ := owns_form p1
      have hn := owns_lenq p1
      subst hn
      have c1 : w3.cell? ⟨w.heap.size + 1, 0, none⟩ = some (.slice tva tvn tvc) := by simp [World.cell?, j1]
      have c1f : w3.frozen? ⟨w.heap.size + 1, 0, none⟩ = false := by simp [World.frozen?, j1]
      have c2 : w3.cell? ⟨w.heap.size, 0, none⟩ = some (.slice none 0 0) := by simp [World.cell?, j5]
      have c2f : w3.frozen? ⟨w.heap.size, 0, none⟩ = false := by simp [World.frozen?, j5]
      have J1 := hide j1
      have J4 := hide j4
      have J5 := hide j5
      have HTe := hide hTe
      have HTl := hide hTl
      have HNG := hide hgo
      clear p1 p2 p3 j1 j4 j5 hgo hTe hTl
      have q0 : (0 : Int) ≤ (tvn : Int) := by omega
      by_cases h0 : tvn = 0
      · have hr0 : raw.length = 0 := by
          by_cases e : raw.length = 0
          · exact e
          · exact absurd ⟨by omega, by omega⟩ HNG.out
        subst h0
        have hrr : (raw.length : Int) ≤ 0 := by omega
        have HPN : Hid (progN raw = thrN raw 4 ++ [[]]) := by
          unfold Hid progN
          have e : (thrN raw 4).length = 0 := by rw [← HTe.out]; exact HTl.out
          rw [if_pos e, List.length_eq_zero_iff.1 e]; rfl
        go_wp2_with (at_builtin; refine wpList_append_lies _ rfl _ _ _ rfl (w.heap.size + 2) 75 i1 _ 1 24 Tryz.underlying22 hi1 hy0 hy1 hy2 rfl (by omega) (.slice tva 0 tvc) 0 rows rfl (owns_alloc P1.out) ⟨w3.heap.size, 0, none⟩ 1 1 [.slice none 0 0] rfl rfl (World.news_of_block (cs := #[.slice none 0 0]) (t := 75) (fr := (0, 0)) (heap_alloc_new w3 _)) (by simp [Value.oneCell']) (by omega) (by unfold maxLen; omega) (by omega) (by simp; omega) (w3.heap.size + 1) (by simp) ?_; intro g6 cap6 w6 hown6 hgrow hat hlt6; have c6 : w6.cell? ⟨w.heap.size + 1, 0, none⟩ = some (.slice tva 0 tvc) := (by rw [hgrow.cell_far _ (by simp; omega) (fun e => by have := owns_block P1.out _ e.symm; simp at this), World.cell?_alloc_lt _ _ _ (by simp; omega)]; exact c1); have c6f : w6.frozen? ⟨w.heap.size + 1, 0, none⟩ = false := (by rw [hgrow.frozen_far _ (by simp; omega) (fun e => by have := owns_block P1.out _ e.symm; simp at this), World.frozen?_alloc_old _ _ _ (by simp; omega)]; exact c1f); have c7 : w6.cell? ⟨w.heap.size, 0, none⟩ = some (.slice none 0 0) := (by rw [hgrow.cell_far _ (by simp; omega) (fun e => by have := owns_block P1.out _ e.symm; simp at this; omega), World.cell?_alloc_lt _ _ _ (by simp; omega)]; exact c2); have c7f : w6.frozen? ⟨w.heap.size, 0, none⟩ = false := (by rw [hgrow.frozen_far _ (by simp; omega) (fun e => by have := owns_block P1.out _ e.symm; simp at this; omega), World.frozen?_alloc_old _ _ _ (by simp; omega)]; exact c2f))
        have hob := owns_block P1.out
        have hsz6 := hgrow.size
        simp only [World.size_alloc] at hsz6
        have hsn := ThrAt.snoc HT.out (rows := rows) (lv := .slice none 0 0) (c := []) (by rw [← HTe.out, HTl.out]; exact P1.out) ⟨⟨rfl, Or.inl ⟨rfl, rfl⟩⟩, fun h e => by cases e⟩ (grown_alloc (grown_refl _ _)) hgrow (tv' := .slice (some ⟨g6, 0, none⟩) (0 + 1) cap6) (by rw [← HTe.out, HTl.out]; exact hown6) (by omega) (owns_lt hown6)
        rw [← HPN.out] at hsn
        refine bodyPost_ret (v := .agg #[.slice (some ⟨g6, 0, none⟩) (0 + 1) cap6]) ?_ rfl ⟨_, rfl, ?_, ?_⟩
        · simp [results, Tryz.results37, go_sem, c7]
        · exact ((hsn.step grown_set (fun q e => by cases e; exact Or.inl (by omega))).step grown_set (fun q e => by cases e; exact Or.inl (by omega))).mono (by simp)
        · exact grown_setNew (grown_setNew (grown_row (grown_alloc J4.out) hgrow (fun q e => by have := hob q e; omega)) (by omega)) (by omega)
      · have HPN : Hid (progN raw = thrN raw 4) := by
          unfold Hid progN
          have e : (thrN raw 4).length ≠ 0 := by rw [← HTe.out, HTl.out]; exact h0
          rw [if_neg e]
        have hne : ((tvn : Int) == 0) = false := by simpa using h0
        by_cases hlt : tvn < raw.length
        · have g1 : (tvn : Int) < raw.length := by omega
          have g2 : (4 : Int) ≤ tvn := by
            by_cases e : tvn < 4
            · exact absurd ⟨hlt, e⟩ HNG.out
            · omega
          go_wp2_with fail
          rw [HPN.out]
          refine bodyPost_ret (v := .agg #[.slice tva tvn tvc]) ?_ rfl ⟨_, rfl, ?_, ?_⟩
          · simp [results, Tryz.results37, go_sem, c2]
          · exact (HT.out.step grown_set (fun q e => by cases e; exact Or.inl (by omega))).mono (by simp)
          · exact grown_setNew J4.out (by omega)
        · have g1 : (raw.length : Int) ≤ tvn := by omega
          go_wp2_with fail
          rw [HPN.out]
          refine bodyPost_ret (v := .agg #[.slice tva tvn tvc]) ?_ rfl ⟨_, rfl, ?_, ?_⟩
          · simp [results, Tryz.results37, go_sem, c2]
          · exact (HT.out.step grown_set (fun q e => by cases e; exact Or.inl (by omega))).mono (by simp)
          · exact grown_setNew J4.out (by omega)

theorem program_m (raw : List (List Int)) (rv : Value) (w : World) (hR : RawAt w rv raw) (hb : ∀ t (ht : t < raw.length) k (hk : k < raw[t].length), isInt raw[t][k]) :
    Calls Tryz.prog 37 #[rv] w fun e w' => ∃ tv, e = .returned (.agg #[tv]) ∧ ProgAt w' (.agg #[tv]) (progN raw) ∧ w.grownBy w' none :=
  (program_t raw rv w hR hb).mono fun _ _ ⟨tv, h1, h2, h3⟩ => ⟨tv, h1, h2.progAt, h3⟩

end Go.Proofs.YtklenjmfalljgaaGreatDoor

/- From the rows' readings to the walks' facts. -/
namespace Go.Proofs.YtklenjmfalljgaaGreatDoor
open Go.ChangeShapes Go.WideShapes Go.ChangeAt Go.RowKit

theorem own : ownKnob Tryz.prog.godebug = none := by kernel_rfl
theorem laidOut : laidOutB Tryz.prog = true := by kernel_rfl
theorem gShp : Tryz.prog.globalNamed "rerun/machine.shapes" = some 0 := by kernel_rfl
theorem tShp : (Tryz.prog.globals[0]?).map (·.type) = some 233 := by kernel_rfl
theorem cInt : Tryz.prog.cellsOf 3 = 1 := by kernel_rfl
theorem cInts : Tryz.prog.cellsOf 25 = 1 := by kernel_rfl
theorem cShape : Tryz.prog.cellsOf 232 = 3 := by kernel_rfl
theorem cKind : Tryz.prog.cellsOf 230 = 1 := by kernel_rfl

theorem grown_below {w w' : World} (h : w.grownBy w' none) : Below w.heap.size w w' := ⟨h.os, h.tape, h.output, h.size, fun k hk => h.block k hk (by simp)⟩

theorem lt_cell {w : World} {a : Addr} {v : Value} (h : w.cell? a = some v) : a.block < w.heap.size := by
  unfold World.cell? at h
  split at h
  · rename_i hh; exact (Array.getElem?_eq_some_iff.1 hh).1
  · cases h

theorem addr_form {w : World} {a : Addr} {j : Nat} {v : Value} (h0 : a.spot = none) (h : w.cell? (a.add j) = some v) : w.cell? ⟨a.block, a.off + j, none⟩ = some v := by
  have e : a.add j = ⟨a.block, a.off + j, none⟩ := by
    obtain ⟨b, o, s⟩ := a
    simp only at h0
    subst h0
    unfold Addr.add; split <;> simp_all
  rw [e] at h; exact h

section
variable {H : Type} {enc : TypeId × Value → H} {W : World}

theorem intsAt_of {fuel : Nat} {cs : List Value} {x : DataW H × List MemPlace} (h : DataW.trod enc Tryz.prog W 0 (fun _ => true) true fuel 25 cs = some x) :
    ∃ v l, cs = [v] ∧ IntsAt W.heap.size W v l ∧ ∀ k (hk : k < l.length), isInt l[k] := by
  rcases open_ints Tryz.underlying25 Tryz.underlying3 cInt h with ⟨rfl, _⟩ | ⟨a, len, cap, zs, rfl, _, hl, _, hz, _, hc, hw⟩
  · exact ⟨_, [], rfl, ⟨none, 0, rfl, Nat.le_refl _, fun k hk => by simp at hk⟩, fun k hk => by simp at hk⟩
  · simp only [if_true] at hz
    have hlen : (zs.take len).length = len := by simp; omega
    refine ⟨_, zs.take len, rfl, ⟨some a, cap, by rw [hlen], by omega, fun k hk => ?_⟩, fun k hk => ?_⟩
    · have h0 : a.spot = none := by
        have := hc 0 (by omega)
        exact World.cell?_spot (w := W) (by simpa [Addr.add] using this)
      have hkz : k < zs.length := by omega
      have := hc k hkz
      refine ⟨a.block, a.off, ?_, lt_cell (a := ⟨a.block, a.off + k, none⟩) (addr_form h0 this), ?_⟩
      · obtain ⟨b, o, s⟩ := a
        simp only at h0; subst h0; rfl
      · rw [addr_form h0 this]
        simp [List.getD, hkz]
    · have hkz : k < zs.length := by omega
      have := hw zs[k] (List.getElem_mem hkz)
      simp only [List.getElem_take]
      simpa [Lit.wf, IntKind.min, IntKind.max, IntKind.signed, IntKind.bits, isInt] using this

theorem rawAt_of {fuel : Nat} {cs : List Value} {x : DataW H × List MemPlace} (h : DataW.trod enc Tryz.prog W 0 (fun _ => true) true fuel 38 cs = some x) :
    ∃ v l, cs = [v] ∧ RawAt W v l ∧ ∀ t (ht : t < l.length) k (hk : k < l[t].length), isInt l[t][k] := by
  rcases Deep.open_slice1 Tryz.underlying38 cInts h with ⟨rfl, _⟩ | ⟨a, len, cap, m, n, V, D, Pl, rfl, _, hl, _, hm, _, hx⟩
  · exact ⟨_, [], rfl, ⟨none, 0, rfl, fun k hk => by simp at hk⟩, fun k hk => by simp at hk⟩
  · simp only [if_true] at hm
    obtain ⟨f, hf⟩ := Deep.choose_lt (α := List Int) (n := len) (p := fun i l => IntsAt W.heap.size W (V i) l ∧ ∀ k (hk : k < l.length), isInt l[k]) (fun i hi => by
      obtain ⟨v, l, e, h1, h2⟩ := intsAt_of (hx i (by omega)).2
      simp only [List.cons.injEq, and_true] at e
      rw [← e] at h1
      exact ⟨l, h1, h2⟩)
    have hlen : ((List.range len).map f).length = len := by simp
    refine ⟨_, (List.range len).map f, rfl, ⟨some a, cap, by rw [hlen], fun t ht => ?_⟩, fun t ht => ?_⟩
    · have ht' : t < len := by omega
      have h0 : a.spot = none := by
        have := (hx 0 (by omega)).1
        exact World.cell?_spot (w := W) (by simpa [Addr.add] using this)
      refine ⟨a.block, a.off, ?_, V t, addr_form h0 (hx t (by omega)).1, ?_⟩
      · obtain ⟨b, o, s⟩ := a
        simp only at h0; subst h0; rfl
      · simpa using (hf t ht').1
    · have ht' : t < len := by omega
      simpa using (hf t ht').2

set_option maxRecDepth 100000 in
theorem ints_arg {v : Value} {d : DataW H} {ps : List MemPlace} {base : Nat} (hval : Value.okWide Tryz.prog W .any base 25 v) (h : DataW.Trod enc Tryz.prog W 0 (fun _ => true) true 25 v d ps) :
    ∃ l, IntsAt W.heap.size W v l ∧ ∀ k (hk : k < l.length), isInt l[k] := by
  obtain ⟨a, len, cap, rfl⟩ := okWide_slice Tryz.underlying25 hval
  obtain ⟨fuel, hf⟩ := h
  obtain ⟨v', l, e, h1, h2⟩ := intsAt_of hf
  simp [Value.cells] at e
  rw [← e] at h1
  exact ⟨l, h1, h2⟩
set_option maxRecDepth 100000 in
theorem raw_arg {v : Value} {d : DataW H} {ps : List MemPlace} {base : Nat} (hval : Value.okWide Tryz.prog W .any base 38 v) (h : DataW.Trod enc Tryz.prog W 0 (fun _ => true) true 38 v d ps) :
    ∃ l, RawAt W v l ∧ ∀ t (ht : t < l.length) k (hk : k < l[t].length), isInt l[t][k] := by
  obtain ⟨a, len, cap, rfl⟩ := okWide_slice Tryz.underlying38 hval
  obtain ⟨fuel, hf⟩ := h
  obtain ⟨v', l, e, h1, h2⟩ := rawAt_of hf
  simp [Value.cells] at e
  rw [← e] at h1
  exact ⟨l, h1, h2⟩
set_option maxRecDepth 100000 in
theorem int_arg {v : Value} {d : DataW H} {ps : List MemPlace} {base : Nat} (hval : Value.okWide Tryz.prog W .any base 3 v) (h : DataW.Trod enc Tryz.prog W 0 (fun _ => true) true 3 v d ps) :
    ∃ n, v = .int .i64 n ∧ isInt n := by
  obtain ⟨n, rfl, _, _, hw⟩ := open_int Tryz.underlying3 hval h
  exact ⟨n, rfl, by simpa [Lit.wf, IntKind.min, IntKind.max, IntKind.signed, IntKind.bits, isInt] using hw⟩
end

theorem shp_tab (o j : Nat) (ho : o < 12) (hj : j < 3) (l : List (DataW Unit)) (h : (DataW.agg l : DataW Unit) = (match (Rows.laid_rerun_machine_shapes : DataW Unit) with | .agg l => l[o]?.getD .nil | _ => .nil)) : l[j]? = some (.lit (.int .i64 (shp o j))) := by
  have ho' : o = 0 ∨ o = 1 ∨ o = 2 ∨ o = 3 ∨ o = 4 ∨ o = 5 ∨ o = 6 ∨ o = 7 ∨ o = 8 ∨ o = 9 ∨ o = 10 ∨ o = 11 := by omega
  have hj' : j = 0 ∨ j = 1 ∨ j = 2 := by omega
  rcases ho' with rfl | rfl | rfl | rfl | rfl | rfl | rfl | rfl | rfl | rfl | rfl | rfl <;> (simp [Rows.laid_rerun_machine_shapes] at h; subst h; rcases hj' with rfl | rfl | rfl <;> rfl)

theorem shp_one {W : World} {g0 : Nat} {t0 : TypeId} {cs0 : Array Value} {f0 : Nat} {p0 : List MemPlace} (hg0 : Tryz.prog.globalNamed "rerun/machine.shapes" = some g0) (ht0 : (Tryz.prog.globals[g0]?).map (·.type) = some t0) (hv0 : W.var? Tryz.prog "rerun/machine.shapes" = some cs0)
    (hd0 : DataW.trod (fun _ => ()) Tryz.prog W 0 (fun _ => true) false f0 t0 cs0.toList = some (Rows.laid_rerun_machine_shapes, p0)) : ShpAt W := by
  obtain rfl := Option.some.inj (gShp.symm.trans hg0)
  obtain rfl := Option.some.inj (tShp.symm.trans ht0)
  obtain ⟨xs, m1, rfl, hx1, hlen, hn12, hel⟩ := DataW.trod_array Tryz.underlying233 hd0
  simp only [Prod.mk.injEq] at hx1
  intro o j ho hj
  have hox : o < xs.length := by omega
  have h1 := hel o ho
  rw [cShape, List.getElem?_eq_getElem hox] at h1
  obtain ⟨ys, m2, rfl, hy1, hylen, hn3, hfe⟩ := DataW.trod_struct Tryz.underlying232 h1
  have hdo : (DataW.agg (ys.map (·.1)) : DataW Unit) = xs[o].1 := by rw [hy1]
  have hxo : (xs.map (·.1))[o]? = some xs[o].1 := by simp [hox]
  have hdat : (DataW.agg (ys.map (·.1)) : DataW Unit) = (match (Rows.laid_rerun_machine_shapes : DataW Unit) with | .agg l => l[o]?.getD .nil | _ => .nil) := by
    rw [hdo, hx1.1]; simp [hox]
  have hyj := shp_tab o j ho hj _ hdat
  have hjl : j < ys.length := by rw [hn3]; simpa using hj
  have hf : DataW.trod (fun _ => ()) Tryz.prog W 0 (fun _ => true) false m2 230 ((((cs0.toList.drop (o * 3)).take 3).drop j).take 1) = some ys[j] := by
    have hj' : j = 0 ∨ j = 1 ∨ j = 2 := by omega
    rcases hj' with rfl | rfl | rfl
    · have := hfe 0 _ rfl; rw [List.getElem?_eq_getElem hjl] at this; simpa [cKind] using this
    · have := hfe 1 _ rfl; rw [List.getElem?_eq_getElem hjl] at this; simpa [cKind] using this
    · have := hfe 2 _ rfl; rw [List.getElem?_eq_getElem hjl] at this; simpa [cKind] using this
  obtain ⟨k, e1, e2, _⟩ := DataW.trod_int Tryz.underlying230 hf
  have hk : k = shp o j := by
    rw [List.getElem?_map, List.getElem?_eq_getElem hjl, e2] at hyj
    simpa using hyj
  have hcell := World.var?_cell hg0 hv0 (o * 3 + j)
  have hc : cs0[o * 3 + j]? = some (.int .i64 k) := by
    have h0 := congrArg (fun l => l[0]?) e1
    simp [hj] at h0
    exact h0
  rw [hk] at hc
  rw [hcell]; exact hc

theorem shp_of_laid {W : World} (h : laidMetH Tryz.prog [("rerun/machine.shapes", Rows.laid_rerun_machine_shapes)] W) : ShpAt W := by
  rw [MakeChecks.laidMetH_plain _ _ _ (by kernel_rfl)] at h
  obtain ⟨ps, ⟨g0, t0, cs0, f0, p0, q0, hg0, ht0, hv0, hd0, _, _⟩, _, _⟩ := h
  exact shp_one hg0 ht0 hv0 hd0

end Go.Proofs.YtklenjmfalljgaaGreatDoor

/- Programs as arguments, and how great they are. -/
namespace Go.Proofs.YtklenjmfalljgaaGreatDoor
open Go.ChangeShapes Go.WideShapes Go.ChangeAt Go.RowKit Go.Joins

theorem bulkOne {H : Type} (d : DataW H) : 1 ≤ Rows.uptoBulk d := by
  cases d with
  | lit l => cases l <;> simp [Rows.uptoBulk]
  | nil => simp [Rows.uptoBulk]
  | ptr d => simp [Rows.uptoBulk]
  | slice elems spare => simp [Rows.uptoBulk]
  | agg parts => simp [Rows.uptoBulk]
  | iface t d => simp [Rows.uptoBulk]
  | map entries => simp [Rows.uptoBulk]
  | held h => simp [Rows.uptoBulk]
theorem bulkLen {H : Type} (l : List (DataW H)) : l.length ≤ Rows.uptoBulkAll l := by
  induction l with
  | nil => simp [Rows.uptoBulkAll]
  | cons x r ih => have := bulkOne x; simp only [Rows.uptoBulkAll, List.length_cons]; omega
theorem bulkIn {H : Type} (l : List (DataW H)) (d : DataW H) (h : d ∈ l) : Rows.uptoBulk d ≤ Rows.uptoBulkAll l := by
  induction l with
  | nil => cases h
  | cons x r ih =>
    simp only [Rows.uptoBulkAll]
    rcases List.mem_cons.1 h with rfl | h
    · omega
    · have := ih h; omega

theorem cIns : Tryz.prog.cellsOf 74 = 4 := by kernel_rfl
theorem cCode : Tryz.prog.cellsOf 75 = 1 := by kernel_rfl
theorem cRows : Tryz.prog.cellsOf 22 = 1 := by kernel_rfl
theorem cProg : Tryz.prog.cellsOf 24 = 1 := by kernel_rfl

section
variable {H : Type} {enc : TypeId × Value → H} {W : World}

set_option maxRecDepth 100000 in
theorem ins_of {fuel : Nat} {cs : List Value} {x : DataW H × List MemPlace} (h : DataW.trod enc Tryz.prog W 0 (fun _ => true) true fuel 74 cs = some x) : ∃ i : Ins, cs = [.int .i64 i.op, .int .i64 i.a, .int .i64 i.b, .int .i64 i.n] := by
  obtain ⟨y0, y1, y2, y3, n, _, hl, h0, h1, h2, h3⟩ := trod_struct4 Tryz.underlying74 h
  rw [cIns] at hl
  match cs, hl with
  | [v0, v1, v2, v3], _ =>
    simp only [cInt, List.drop_zero, List.drop_succ_cons, List.take_succ_cons, List.take_zero] at h0 h1 h2 h3
    obtain ⟨k0, e0, _⟩ := DataW.trod_int Tryz.underlying3 h0
    obtain ⟨k1, e1, _⟩ := DataW.trod_int Tryz.underlying3 h1
    obtain ⟨k2, e2, _⟩ := DataW.trod_int Tryz.underlying3 h2
    obtain ⟨k3, e3, _⟩ := DataW.trod_int Tryz.underlying3 h3
    simp only [List.cons.injEq, and_true] at e0 e1 e2 e3
    subst e0 e1 e2 e3
    exact ⟨⟨k0, k1, k2, k3⟩, rfl⟩

set_option maxRecDepth 100000 in
theorem codeAt_of {fuel : Nat} {v : Value} {x : DataW H × List MemPlace} (h : DataW.trod enc Tryz.prog W 0 (fun _ => true) true fuel 75 [v] = some x) : ∃ c, CodeAt W v c ∧ nilA v ∧ c.length ≤ Rows.uptoBulk x.1 := by
  rcases Deep.open_slice Tryz.underlying75 h with ⟨e, _⟩ | ⟨a, len, cap, m, n, D, Pl, e, _, hl, _, hm, hx, hel⟩
  · simp only [List.cons.injEq, and_true] at e
    subst e
    exact ⟨[], ⟨none, 0, rfl, fun k hk => by simp at hk⟩, fun n c e => by simp at e; omega, by simp⟩
  · simp only [List.cons.injEq, and_true] at e
    subst e
    simp only [if_true] at hm
    rw [cIns] at hel
    have hinh : Inhabited Ins := ⟨⟨0, 0, 0, 0⟩⟩
    obtain ⟨f, hf⟩ := Deep.choose_lt (α := Ins) (n := len) (p := fun k i => W.cell? (a.add (k * 4)) = some (.int .i64 i.op) ∧ W.cell? (a.add (k * 4 + 1)) = some (.int .i64 i.a) ∧ W.cell? (a.add (k * 4 + 2)) = some (.int .i64 i.b) ∧ W.cell? (a.add (k * 4 + 3)) = some (.int .i64 i.n)) (fun k hk => by
      obtain ⟨cs', h1, h2⟩ := hel k (by omega)
      obtain ⟨i, rfl⟩ := ins_of h2
      obtain ⟨_, _, h3⟩ := World.cells?_some h1
      refine ⟨i, ?_, ?_, ?_, ?_⟩
      · have := h3 0 (by omega); rw [Deep.add_add] at this; simpa using this
      · have := h3 1 (by omega); rw [Deep.add_add] at this; simpa using this
      · have := h3 2 (by omega); rw [Deep.add_add] at this; simpa using this
      · have := h3 3 (by omega); rw [Deep.add_add] at this; simpa using this)
    have hlen : ((List.range len).map f).length = len := by simp
    refine ⟨(List.range len).map f, ⟨some a, cap, by rw [hlen], fun k hk => ?_⟩, fun n c e => by simp at e, ?_⟩
    · have hk' : k < len := by omega
      obtain ⟨h0, h1, h2, h3⟩ := hf k hk'
      have hs : a.spot = none := by
        have := (hf 0 (by omega)).1
        exact World.cell?_spot (w := W) (by simpa [Addr.add] using this)
      refine ⟨a.block, a.off, ?_, ?_, ?_, ?_, ?_⟩
      · obtain ⟨b, o, s⟩ := a
        simp only at hs; subst hs; rfl
      · simpa using addr_form hs h0
      · simpa [Nat.add_assoc] using addr_form hs h1
      · simpa [Nat.add_assoc] using addr_form hs h2
      · simpa [Nat.add_assoc] using addr_form hs h3
    · rw [hlen, hx]
      have := bulkLen ((List.range len).map D)
      simp only [Rows.uptoBulk]
      simp at this
      omega

set_option maxRecDepth 100000 in
theorem rowsAt_of {fuel : Nat} {v : Value} {x : DataW H × List MemPlace} (h : DataW.trod enc Tryz.prog W 0 (fun _ => true) true fuel 22 [v] = some x) :
    ∃ p, ProgAt W (.agg #[v]) p ∧ ProgNil W (.agg #[v]) ∧ p.length ≤ Rows.uptoBulk x.1 ∧ ∀ c ∈ p, c.length ≤ Rows.uptoBulk x.1 := by
  rcases Deep.open_slice1 Tryz.underlying22 cCode h with ⟨e, _⟩ | ⟨a, len, cap, m, n, V, D, Pl, e, _, hl, _, hm, hx, hel⟩
  · simp only [List.cons.injEq, and_true] at e
    subst e
    exact ⟨[], ⟨none, 0, rfl, fun k hk => by simp at hk⟩, fun g o n cap t rv e => by simp at e, by simp, fun c hc => by cases hc⟩
  · simp only [List.cons.injEq, and_true] at e
    subst e
    simp only [if_true] at hm
    obtain ⟨f, hf⟩ := Deep.choose_lt (α := List Ins) (n := len) (p := fun k c => CodeAt W (V k) c ∧ nilA (V k) ∧ c.length ≤ Rows.uptoBulk (D k)) (fun k hk => codeAt_of (hel k (by omega)).2)
    have hlen : ((List.range len).map f).length = len := by simp
    have hs : 0 < len → a.spot = none := fun h0 => by
      have := (hel 0 (by omega)).1
      exact World.cell?_spot (w := W) (by simpa [Addr.add] using this)
    have hall : len + 0 ≤ Rows.uptoBulkAll ((List.range len).map D) := by
      have := bulkLen ((List.range len).map D)
      simp at this; omega
    refine ⟨(List.range len).map f, ⟨some a, cap, by rw [hlen], fun k hk => ?_⟩, fun g o n cp t rv e ht hc => ?_, ?_, fun c hc => ?_⟩
    · have hk' : k < len := by omega
      have h0 := hs (by omega)
      refine ⟨a.block, a.off, ?_, V k, addr_form h0 (hel k (by omega)).1, ?_⟩
      · obtain ⟨b, o, s⟩ := a
        simp only at h0; subst h0; rfl
      · simpa using (hf k hk').1
    · simp only [Value.agg.injEq, Array.mk.injEq, List.cons.injEq, Value.slice.injEq, Option.some.injEq, and_true] at e
      obtain ⟨rfl, rfl, rfl⟩ := e
      have h1 := addr_form rfl (hel t (by omega)).1
      simp only at h1
      rw [h1] at hc
      simp only [Option.some.injEq] at hc
      rw [← hc]
      exact (hf t ht).2.1
    · rw [hlen, hx]
      simp only [Rows.uptoBulk]
      omega
    · obtain ⟨k, hk, rfl⟩ := List.mem_map.1 hc
      have hk' : k < len := by simpa using hk
      have h1 := (hf k hk').2.2
      have h2 := bulkIn ((List.range len).map D) (D k) (List.mem_map.2 ⟨k, hk, rfl⟩)
      rw [hx]
      simp only [Rows.uptoBulk]
      omega

set_option maxRecDepth 100000 in
theorem prog_argB {v : Value} {d : DataW H} {ps : List MemPlace} {base : Nat} (hval : Value.okWide Tryz.prog W .any base 24 v) (h : DataW.Trod enc Tryz.prog W 0 (fun _ => true) true 24 v d ps) :
    ∃ p, ProgAt W v p ∧ ProgNil W v ∧ p.length ≤ Rows.uptoBulk d ∧ ∀ c ∈ p, c.length ≤ Rows.uptoBulk d := by
  obtain ⟨cs, rfl, hsz⟩ := okWide_struct Tryz.underlying24 hval
  obtain ⟨fuel, hf⟩ := h
  obtain ⟨y0, n, hx, hl, h0⟩ := trod_struct1 Tryz.underlying24 hf
  rw [cProg] at hsz
  obtain ⟨l⟩ := cs
  match l, hsz with
  | [c0], _ =>
    have h0' : DataW.trod enc Tryz.prog W 0 (fun _ => true) true n 22 [c0] = some y0 := by simpa [Value.cells, cRows] using h0
    obtain ⟨p, h1, h2, h3, h4⟩ := rowsAt_of h0'
    have hd : d = .agg [y0.1] := congrArg Prod.fst hx
    have hb : Rows.uptoBulk y0.1 ≤ Rows.uptoBulk d := by
      rw [hd]
      simp only [Rows.uptoBulk, Rows.uptoBulkAll]
      omega
    exact ⟨p, h1, h2, Nat.le_trans h3 hb, fun c hc => Nat.le_trans (h4 c hc) hb⟩

set_option maxRecDepth 100000 in
theorem ints_argN {v : Value} {d : DataW H} {ps : List MemPlace} {base : Nat} (hval : Value.okWide Tryz.prog W .any base 25 v) (h : DataW.Trod enc Tryz.prog W 0 (fun _ => true) true 25 v d ps) :
    ∃ l, IntsAt W.heap.size W v l ∧ nilA v ∧ l.length ≤ Rows.uptoBulk d := by
  obtain ⟨a0, len0, cap0, rfl⟩ := okWide_slice Tryz.underlying25 hval
  obtain ⟨fuel, hf⟩ := h
  rcases open_ints Tryz.underlying25 Tryz.underlying3 cInt hf with ⟨e, _⟩ | ⟨a, len, cap, zs, e, _, hl, _, hz, hx, hc, hw⟩
  · simp [Value.cells] at e
    rw [e.1, e.2.1, e.2.2]
    exact ⟨[], ⟨none, 0, rfl, Nat.le_refl _, fun k hk => by simp at hk⟩, fun n c e => by simp at e; omega, by simp⟩
  · simp [Value.cells] at e
    rw [e.1, e.2.1, e.2.2]
    simp only [if_true] at hz
    have hlen : (zs.take len).length = len := by simp; omega
    refine ⟨zs.take len, ⟨some a, cap, by rw [hlen], by omega, fun k hk => ?_⟩, fun n c e => by simp at e, ?_⟩
    · have h0 : a.spot = none := by
        have := hc 0 (by omega)
        exact World.cell?_spot (w := W) (by simpa [Addr.add] using this)
      have hkz : k < zs.length := by omega
      have := hc k hkz
      refine ⟨a.block, a.off, ?_, lt_cell (a := ⟨a.block, a.off + k, none⟩) (addr_form h0 this), ?_⟩
      · obtain ⟨b, o, s⟩ := a
        simp only at h0; subst h0; rfl
      · rw [addr_form h0 this]
        simp [List.getD, hkz]
    · have hd : d = .slice (lits .i64 (zs.take len)) (lits .i64 (zs.drop len)) := congrArg Prod.fst hx
      rw [hd]
      have := bulkLen (lits (H := H) .i64 (zs.take len))
      have hll : (lits (H := H) .i64 (zs.take len)).length = (zs.take len).length := by simp [lits]
      simp only [Rows.uptoBulk]
      omega
end

end Go.Proofs.YtklenjmfalljgaaGreatDoor

/- The second form's card of Runs: where what is read is of bulk at most the bound, every Check and Replay are as the reference says, whatever the owner does with what came out and with what was lent. -/
namespace Go.Proofs.YtklenjmfalljgaaGreatDoor
open Go.ChangeShapes Go.WideShapes Go.ChangeAt Go.RowKit

set_option maxRecDepth 100000 in
/-- What the walk gives, for every argument within the bound and every world that holds the table. -/
theorem runs_contract (H : Type) (enc : TypeId × Value → H) (W : World) (base : Nat) (args : Array Value) (ds gs : List (DataW H)) (before : List MemPlace)
    (hval : ∀ (j : Nat) t v, Tryz.f3.params[j]? = some t → args[j]? = some v → Value.okWide Tryz.prog W .any base t v)
    (hW : DataW.Whole enc Tryz.prog Tryz.f3.params.toList Rows.runsSpec.vars false W args.toList ds gs before) (hk : Rows.uptoSmall H (ds ++ gs) = true) (hL : laidMetH Tryz.prog Rows.runsUptoRow.laid W) :
    Calls Tryz.prog 3 args W fun e W' => ∃ v, e = .returned v ∧ Rows.runsSpec.post enc Tryz.prog Tryz.f3 false true false false W args v W' := by
  have hW' := hW
  obtain ⟨p, q, hA0, hV, rfl, hfz, hnd⟩ := hW
  have hA : DataW.TrodAll enc Tryz.prog W 0 (fun _ => true) true Tryz.f3.params.toList args.toList ds p := hA0
  rw [Tryz.params3] at hA hval
  obtain ⟨v0, v1, v2, v3, d0, d1, d2, d3, p0, p1, p2, p3, rfl, rfl, rfl, h0, h1, h2, h3⟩ := trodAll_four hA
  obtain ⟨rfl, rfl⟩ := trodVars_none hV
  clear hA0
  have hbulk := of_decide_eq_true hk
  simp only [List.append_nil, Rows.uptoBulkAll] at hbulk
  obtain ⟨p, hp, hpn, hpl, hpc⟩ := prog_argB (hval 0 24 v0 rfl rfl) h0
  obtain ⟨a, ha, han, hal⟩ := ints_argN (hval 1 25 v1 rfl rfl) h1
  obtain ⟨q, hq, _, hql, hqc⟩ := prog_argB (hval 2 24 v2 rfl rfl) h2
  obtain ⟨b, hb', _, hbl⟩ := ints_argN (hval 3 25 v3 rfl rfl) h3
  refine (runs_m W v0 v1 v2 v3 p q a b (shp_of_laid hL) hp hpn ha han hq hb' (by omega) (fun c hc => by have := hpc c hc; omega) (by omega) (fun c hc => by have := hqc c hc; omega) (by omega) (by omega)).mono fun e W' ⟨he, hg⟩ => ?_
  subst he
  have hb := grown_below hg
  have hlt : ∀ x ∈ p0 ++ p1 ++ p2 ++ p3, x.block < W.heap.size := fun x hx => by simpa using hW'.lt x (by simpa using hx)
  refine ⟨_, rfl, _, _, _, [] ++ [], p0 ++ (p1 ++ (p2 ++ p3)), [], hW', trodAll_cons_mk (shut_bool Tryz.underlying4 _) trodAll_mk0, ?_, rfl, hb.frame _, fun h => by cases h⟩
  rw [Tryz.params3]
  exact trodAll_mk4 (p := p0) (p' := p1) (p'' := p2) (p3 := p3) (Below.trod laidOut (by kernel_rfl) (of_decide_eq_true (by kernel_rfl)) h0 hb (fun x hx => hlt x (by simp [hx]))) (Below.trod laidOut (by kernel_rfl) (of_decide_eq_true (by kernel_rfl)) h1 hb (fun x hx => hlt x (by simp [hx])))
    (Below.trod laidOut (by kernel_rfl) (of_decide_eq_true (by kernel_rfl)) h2 hb (fun x hx => hlt x (by simp [hx]))) (Below.trod laidOut (by kernel_rfl) (of_decide_eq_true (by kernel_rfl)) h3 hb (fun x hx => hlt x (by simp [hx])))

theorem runs_laid (os : Os) : laidMetH Tryz.prog Rows.runsUptoRow.laid ((World.doorLaid Tryz.prog 400 os).forCall (fun _ _ => 0) ⟨#[], #[.agg #[.slice none 0 0], .slice none 0 0, .agg #[.slice none 0 0], .slice none 0 0], []⟩).memory :=
  laidMetH_of_parts3 (fuel := 8) (laidMet_of_run' 8 (by kernel_rfl) (by kernel_rfl)) (by kernel_rfl) (by kernel_rfl)
theorem runs_reads (os : Os) {H : Type} (enc : TypeId × Value → H) : ∃ places, DataW.whole enc Tryz.prog ((World.doorLaid Tryz.prog 400 os).forCall (fun _ _ => 0) ⟨#[], #[.agg #[.slice none 0 0], .slice none 0 0, .agg #[.slice none 0 0], .slice none 0 0], []⟩).memory Tryz.f3.params.toList Rows.runsSpec.vars false #[Value.agg #[.slice none 0 0], .slice none 0 0, .agg #[.slice none 0 0], .slice none 0 0].toList 8 = some ([.agg [.nil], .nil, .agg [.nil], .nil], [], places) :=
  ⟨[], by kernel_rfl⟩

set_option maxRecDepth 100000 in
theorem runs_lifted (os : Os) (started : os.Started) (H : Type) (enc : TypeId × Value → H) (F : Stop.Interp) :
    ReturnsInHanded {} Tryz.checked os 3 .any ((Rows.OpenSpec.upto Rows.runsSpec).preRow enc Tryz.prog Tryz.f3 Rows.runsUptoRow.domain false Rows.runsUptoRow.laid) (((Rows.OpenSpec.upto Rows.runsSpec).at F).post enc Tryz.prog Tryz.f3 false true false false) := by
  obtain ⟨places, hx⟩ := runs_reads os enc
  refine returnsInHanded_of_row (C := Tryz.checked) (s := Rows.OpenSpec.upto Rows.runsSpec) own started (by kernel_rfl) Tryz.func3
    (witness_row_atRef (enc := enc) (C := Tryz.checked) false (World.doorLaid Tryz.prog 400 os) #[.agg #[.slice none 0 0], .slice none 0 0, .agg #[.slice none 0 0], .slice none 0 0] rfl (by kernel_rfl) (by kernel_rfl) (by kernel_rfl)
      (OpenSpec.preRow_of_cond 8 hx (by kernel_rfl) (fun k hk => by cases hk; kernel_rfl) (by kernel_rfl) (runs_laid os))) ?_
  intro W base args ds gs before hval hW _ hcond _ hL _ _
  exact runs_contract H enc W base args ds gs before hval hW (hcond _ rfl) hL

theorem runs_said : Rows.RunsUptoSaid :=
  OpenClaim.holds_of_cond 3 Tryz.f3 rfl rfl rfl rfl rfl rfl rfl ⟨rfl, rfl, rfl, rfl, rfl⟩ rfl rfl rfl rfl rfl (by kernel_rfl) Tryz.func3 (by kernel_rfl)
    (of_decide_eq_true (by kernel_rfl)) (by unfold Func.isWrapper; first | (rw [if_pos (by decide +kernel)]; kernel_rfl) | (rw [if_neg (by decide +kernel)]; exact ⟨rfl, rfl⟩))
    (fun os started H enc _ F => by rw [OpenClaim.pre_eq_preRow]; exact runs_lifted os started H enc F)

theorem runs_plain (f : FuncId) (fn : Func) (hf : Tryz.pinned.checked.prog.funcNamed "rerun/rerunlaw.Runs" = some f) (hfn : Tryz.pinned.checked.prog.funcs[f]? = some fn) :
    Rows.runsUptoCard.stood.looks = Tryz.pinned.checked.prog.looks [] ∧ ∀ (j : Nat) t, fn.params[j]? = some t → Tryz.pinned.checked.prog.wantsStandIn t = false := by
  obtain rfl : f = 3 := Option.some.inj ((show Tryz.prog.funcNamed "rerun/rerunlaw.Runs" = some 3 by kernel_rfl).symm.trans hf) |>.symm
  obtain rfl : fn = Tryz.f3 := (Option.some.inj (Tryz.func3.symm.trans hfn)).symm
  refine ⟨by kernel_rfl, fun j t ht => ?_⟩
  rw [Tryz.params3] at ht
  have hm : t ∈ [24, 25, 24, 25] := by simpa using Array.mem_of_getElem? ht
  have hall : ([24, 25, 24, 25].all fun u => !Tryz.prog.wantsStandIn u) = true := by kernel_rfl
  exact (show Tryz.prog.wantsStandIn t = false by simpa using List.all_eq_true.1 hall t hm)

theorem runs_card : Rows.RunsUptoCardSaid :=
  Claim7.holds_tied_plain_at .later [] _ _ _ _ runs_said (fun _ h => by cases h) (by kernel_rfl) (fun _ h => by cases h) runsUpto_row_tie rfl ⟨rfl, rfl⟩ (by kernel_rfl) rfl runs_plain (by kernel_rfl)
#print axioms runs_card

end Go.Proofs.YtklenjmfalljgaaGreatDoor
