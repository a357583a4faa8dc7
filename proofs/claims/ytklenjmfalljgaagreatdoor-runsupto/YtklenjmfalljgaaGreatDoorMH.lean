/- The texts Hgu Hgw Agn Apn Agt Agu Agr. -/
import Derived.Test.YtklenjmfalljgaaGreatDoorMG
import Derived.Deep.AppendLies
import Derived.Maps.AppendAt
import Derived.Deep.DeepCutAuto

/- The walk of the hands' replayed. -/
namespace Go.Proofs.YtklenjmfalljgaaGreatDoor
open Go.RowKit
attribute [local go_sem] Go.World.cell?_alloc_some run_eq4

set_option maxHeartbeats 4000000 in
set_option maxRecDepth 100000 in
theorem replayed_g (W : World) (B : Nat) (w : World) (b : Nat) (who : Nat → Role) (n : Int) (f : Nat → Value) (K : Nat → List (Value × Int)) (pv sv : Value) (p : List (List Ins)) (s : List Int)
    (h : Hz B w b who n f K) (hW : W.grownBy w none) (hWB : W.heap.size ≤ B) (hS : ShpAt W) (hP : ProgAt W pv p) (hI : IntsAt W.heap.size W sv s) (hpl : p.length ≤ 1048576) (hpc : ∀ c ∈ p, c.length ≤ 1048576) (hsl : s.length ≤ 1048576) (hn0 : 0 ≤ n) (hn1 : n ≤ 1000) (hK : ∀ c, c < 5 → (K c).length ≤ 1000) :
    Calls Tryz.prog 8 #[pt b, pv, sv] w (HzG W B b (n + 2) K) := by
  have HH := hide h
  have HW := hide hW
  have HS := hide hS
  have HP := hide hP
  have HI := hide hI
  have HPC := hide hpc
  have HK := hide hK
  obtain ⟨ao, cap, rfl⟩ := hP.form
  obtain ⟨so, sc, rfl⟩ := hI.form
  have hpt : pt b = .pointer (some ⟨b, 0, none⟩) := rfl
  have HPG := hide (program_g W B (w.alloc (.cells #[.slice ao p.length cap] 24)) b who n f K [] [] [] (.agg #[.slice ao p.length cap]) p (h.lx.grown (grown_alloc (grown_refl _ _))) (grown_alloc hW) hWB hP hpl hpc (by simp) (by simp))
  clear h hW hS hP hI hpc hK
  rw [hpt] at HPG ⊢
  go_enter Tryz.func8, Tryz.ntmps8
  go_wp2_with fail
  refine HPG.out.mono ?_
  clear HPG
  rintro e w1 ⟨g, LC1, who1, f1, rfl, hx1, hlc, hf1, hb1⟩
  have hwo : who w.heap.size = .other := by
    by_cases e : who w.heap.size = .other
    · exact e
    · exact absurd (HH.out.1.1.dom _ e).2 (by omega)
  obtain ⟨hbx, hwx⟩ := hf1.oth w.heap.size (by simp) hwo (fun e => e)
  have HW1 : Hid (W.grownBy w1 none) := hf1.base (grown_alloc HW.out) hWB (fun g e => (HH.out.1.1.dom g e).1) (fun _ e => e.elim)
  have c1 : w1.cell? ⟨w.heap.size, 0, none⟩ = some (.slice ao p.length cap) := by
    simp only [World.cell?, hbx, heap_alloc_new]; rfl
  have hll : LC1.length = p.length := by rw [← hlc]; simp
  simp only [List.nil_append] at hx1
  have hPx : ProgAt w1 (.agg #[.slice (some ⟨g, 0, none⟩) p.length (p.length + 2)]) p := lent_prog (LC0 := []) (by simpa using hx1.le) hb1 hlc _
  have HCM := hide (check_m p _ w1 (HS.out.pres (pres_grown HW1.out)) hPx)
  have HX1 := hide hx1
  have HWX := hide hwx
  have HLL := hide hll
  have HC1 := hide c1
  clear hx1 hlc hf1 hb1 hbx hwo hwx hll hPx c1
  go_wp2_with fail
  refine HCM.out.mono ?_
  clear HCM
  rintro e w2 ⟨rfl, hg2⟩
  have HW2 : Hid (W.grownBy w2 none) := grown_trans HW1.out hg2
  have HX2 := hide (HX1.out.grown hg2)
  have c2 := pres_grown hg2 _ _ HC1.out
  have hlt2 : w.heap.size < w2.heap.size := World.block_lt_of_cell? w2 _ c2
  have HPG := hide (program_g W B w2 b who1 n f1 K [] LC1 [(g, p.length)] (.agg #[.slice ao p.length cap]) p HX2.out HW2.out hWB HP.out hpl HPC.out (by rw [HLL.out]; omega) (by simp))
  have HC2 := hide c2
  obtain ⟨cn, hcn⟩ : ∃ cn, cn = checkN p := ⟨_, rfl⟩
  rw [← hcn]
  have HCN := hide hcn
  clear hg2 HX1 HC1 hcn
  rw [hpt] at HPG
  go_wp2_with fail
  refine HPG.out.mono ?_
  clear HPG c2
  rintro e w3 ⟨g3, LC3, who3, f3, rfl, hx3, hlc3, hf3, hb3⟩
  have HW3 : Hid (W.grownBy w3 none) := hf3.base HW2.out hWB (fun g e => (HX2.out.hs.1.dom g e).1) (fun _ e => e.elim)
  obtain ⟨hbx, hwx⟩ := hf3.oth w.heap.size hlt2 HWX.out (fun e => e)
  have HC3 : Hid (w3.cell? ⟨w.heap.size, 0, none⟩ = some (.slice ao p.length cap)) := by
    unfold Hid; rw [World.cell?_of_block hbx]; exact HC2.out
  have hlt3 : w.heap.size < w3.heap.size := World.block_lt_of_cell? w3 _ HC3.out
  have hll3 : LC3.length = p.length := by rw [← hlc3]; simp
  simp only [List.singleton_append] at hx3
  have HSG := hide (schedule_g B w3 b who3 n f3 K [] (LC1 ++ LC3) [(g, p.length), (g3, p.length)] 0 (.slice so s.length sc) s hx3 ((HI.out.pres (pres_grown HW3.out)).mono HW3.out.size) (val_other hx3.hs hWB HI.out) hsl (by simp))
  have HX3 := hide hx3
  have HLC3 := hide hlc3
  have HLL3 := hide hll3
  have HWX3 := hide hwx
  clear hx3 hlc3 hf3 hb3 hbx hwx hll3 HX2 HC2 HWX
  rw [hpt] at HSG
  go_wp2_with fail
  refine HSG.out.mono ?_
  clear HSG
  rintro e w4 ⟨gs, who4, f4, rfl, hx4, hf4⟩
  simp only [List.nil_append] at hx4
  have HW4 : Hid (W.grownBy w4 none) := hf4.base HW3.out hWB (fun g e => (HX3.out.hs.1.dom g e).1) (fun _ e => e.elim)
  obtain ⟨hbx, hwx⟩ := hf4.oth w.heap.size hlt3 HWX3.out (fun e => e)
  have HWX4 := hide hwx
  have HC4 : Hid (w4.cell? ⟨w.heap.size, 0, none⟩ = some (.slice ao p.length cap)) := by
    unfold Hid; rw [World.cell?_of_block hbx]; exact HC3.out
  have hgb : w4.heap[g3]? = some (.cells (lentRows LC3) 75 (0, 0)) := by
    have := (hx4.le.lr 1 (by simp)).1
    simp only [List.getElem_cons_succ, List.getElem_cons_zero, List.take_succ_cons, List.take_zero, List.map_cons, List.map_nil, List.sum_cons, List.sum_nil, Nat.add_zero] at this
    rw [List.drop_append_of_le_length (by rw [HLL.out]; omega), List.drop_eq_nil_of_le (by rw [HLL.out]; omega), List.nil_append, List.take_of_length_le (by rw [HLL3.out]; omega)] at this
    exact this
  have hPx : ProgAt w4 (.agg #[.slice (some ⟨g3, 0, none⟩) p.length (p.length + 2)]) p := lent_prog (LC0 := LC1) hx4.le hgb HLC3.out _
  have hIx : IntsAt w4.heap.size w4 (.slice (some ⟨gs, 0, none⟩) s.length (s.length + 2)) s := lent_ints (hx4.le.li (gs, s, .slice so s.length sc) (by simp)).1
  have HRP := hide (replay_m p s _ _ w4 (HS.out.pres (pres_grown HW4.out)) hPx hIx)
  have HX4 := hide hx4
  clear hx4 hf4 hbx hwx hgb hPx hIx HX3 HC3 HWX3 hlt2 hlt3
  go_wp2_with fail
  refine HRP.out.mono ?_
  clear HRP
  intro e w5 hR
  obtain ⟨hg5, rv, c, he, hV⟩ := hR.form
  clear hR
  subst he
  have HR := hide hV
  obtain ⟨k, t, a, v0, v1, v2, v3, x1, x3, y1, y3, m, q, hrv, hx⟩ := hV
  clear hx
  subst hrv
  have HG45 := hide hg5
  clear hg5
  go_wp2_with fail
  have hg6 : w5.grownBy (w5.alloc (.cells #[.int .i64 k, .int .i64 t, .int .i64 a, .slice x1 m x3, .int .i64 v0, .int .i64 v1, .int .i64 v2, .int .i64 v3, .slice y1 q y3] 32)) none := grown_alloc (grown_refl _ _)
  have hb6 := heap_alloc_new w5 (.cells #[.int .i64 k, .int .i64 t, .int .i64 a, .slice x1 m x3, .int .i64 v0, .int .i64 v1, .int .i64 v2, .int .i64 v3, .slice y1 q y3] 32)
  generalize w5.alloc (.cells #[.int .i64 k, .int .i64 t, .int .i64 a, .slice x1 m x3, .int .i64 v0, .int .i64 v1, .int .i64 v2, .int .i64 v3, .slice y1 q y3] 32) = w6 at hg6 hb6 ⊢
  have HG56 := hide hg6
  have HB6 := hide hb6
  have HL6 : Hid (w5.heap.size < w6.heap.size) := (Array.getElem?_eq_some_iff.1 hb6).1
  have HW6 : Hid (W.grownBy w6 none) := grown_trans HW4.out (grown_trans HG45.out hg6)
  have HBK := hide (back_g B w6 b who4 n f4 K _ _ _ (HX4.out.grown (grown_trans HG45.out hg6)) (by simp) (by rw [List.length_append, HLL.out, HLL3.out]; omega) (by simp))
  rw [hpt] at HBK
  clear hg6 hb6
  refine HBK.out.mono ?_
  clear HBK
  rintro e w7 ⟨rfl, f7, hz7, hf7⟩
  have HW7 : Hid (W.grownBy w7 none) := hf7.base HW6.out hWB (fun g e => (HX4.out.hs.1.dom g e).1) (fun _ e => e.elim)
  have hot : ∀ g, w4.heap.size ≤ g → who4 g = .other := fun g h1 => by
    by_cases e : who4 g = .other
    · exact e
    · exact absurd (HX4.out.hs.1.dom g e).2 (by omega)
  have HOT := hide hot
  have HD4 : Hid (B ≤ w4.heap.size) := by
    have := HX4.out.low
    unfold Hid; omega
  have h45 := HG45.out.size
  have HB7 : Hid (w7.heap[w5.heap.size]? = some (.cells #[.int .i64 k, .int .i64 t, .int .i64 a, .slice x1 m x3, .int .i64 v0, .int .i64 v1, .int .i64 v2, .int .i64 v3, .slice y1 q y3] 32 (0, 0))) := by
    unfold Hid; rw [(hf7.oth w5.heap.size HL6.out (hot _ h45) (fun e => e)).1]; exact HB6.out
  have HC7 : Hid (w7.cell? ⟨w.heap.size, 0, none⟩ = some (.slice ao p.length cap)) := by
    have hc6 := pres_grown (grown_trans HG45.out HG56.out) _ _ HC4.out
    unfold Hid
    rw [World.cell?_of_block (hf7.oth w.heap.size (World.block_lt_of_cell? w6 _ hc6) HWX4.out (fun e => e)).1]
    exact hc6
  obtain ⟨hm, hq, hxr, hyr⟩ := HR.out.rows
  have HX7 : Hid (w7.ownsRow w4.heap.size 84 2 (.slice x1 m x3) m (flatS (stpL p s))) := owns_same (owns_grown hxr HG56.out (fun _ e => by cases e)) (fun g e => (hf7.oth g (Nat.lt_of_lt_of_le (owns_ltH hxr g e) HG56.out.size) (hot g (owns_block hxr g e)) (fun e => e)).1)
  have HY7 : Hid (w7.ownsRow w4.heap.size 29 4 (.slice y1 q y3) q (regsF (rgsN p s) (runS p s).st)) := owns_same (owns_grown hyr HG56.out (fun _ e => by cases e)) (fun g e => (hf7.oth g (Nat.lt_of_lt_of_le (owns_ltH hyr g e) HG56.out.size) (hot g (owns_block hyr g e)) (fun e => e)).1)
  have HNX : Hid ((Value.slice x1 m x3).ownBlock ≠ some w5.heap.size) := fun e => by have := owns_ltH hxr _ e; omega
  have HXO : Hid (∀ g, (Value.slice x1 m x3).ownBlock = some g → who4 g = .other) := fun g e => hot g (owns_block hxr g e)
  have HYO : Hid (∀ g, (Value.slice y1 q y3).ownBlock = some g → who4 g = .other) := fun g e => hot g (owns_block hyr g e)
  have HMQ : Hid (m = (stpL p s).length ∧ q = rgsN p s) := ⟨hm, hq⟩
  have HZ7 := hide hz7
  have HRF := hide (refreplay_m p s _ _ w7 (HP.out.pres (pres_grown HW7.out)) ((HI.out.pres (pres_grown HW7.out)).mono HW7.out.size) hpl HPC.out)
  have c7 := HC7.out
  have HO8 : Hid (who4 w5.heap.size = .other) := hot _ h45
  clear hz7 hf7 hot hm hq hxr hyr HX4 HC4 HB6 HW6 HL6 HG56 HWX4 h45
  go_wp2_with fail
  refine HRF.out.mono ?_
  clear HRF c7
  intro e w8 hR
  obtain ⟨hg8, rv, c', he, hV⟩ := hR.form
  clear hR
  subst he
  have HR8 := hide hV
  obtain ⟨hcc, k2, t2, a2, u0, u1, u2, u3, e1, e2, e3, e4, m2, q2, z1, z3, r1, r3, hA, hB⟩ := HR.out.same hV
  clear hV
  simp only [Value.agg.injEq, Array.mk.injEq, List.cons.injEq, Value.int.injEq, Value.slice.injEq, true_and, and_true] at hA
  obtain ⟨rfl, rfl, rfl, ⟨rfl, rfl, rfl⟩, rfl, rfl, rfl, rfl, rfl, rfl, rfl⟩ := hA
  subst hB hcc
  have HG78 := hide hg8
  clear hg8 HR
  go_upto_region 5 with fail
  have hg9 : w8.grownBy (w8.alloc (.cells #[.int .i64 k, .int .i64 t, .int .i64 a, .slice z1 m z3, .int .i64 v0, .int .i64 v1, .int .i64 v2, .int .i64 v3, .slice r1 q r3] 32)) none := grown_alloc (grown_refl _ _)
  have hb9 := heap_alloc_new w8 (.cells #[.int .i64 k, .int .i64 t, .int .i64 a, .slice z1 m z3, .int .i64 v0, .int .i64 v1, .int .i64 v2, .int .i64 v3, .slice r1 q r3] 32)
  generalize w8.alloc (.cells #[.int .i64 k, .int .i64 t, .int .i64 a, .slice z1 m z3, .int .i64 v0, .int .i64 v1, .int .i64 v2, .int .i64 v3, .slice r1 q r3] 32) = w9 at hg9 hb9 ⊢
  have HG79 : Hid (w7.grownBy w9 none) := grown_trans HG78.out hg9
  have HB9 := hide hb9
  have HB59 : Hid (w9.heap[w5.heap.size]? = some (.cells #[.int .i64 k, .int .i64 t, .int .i64 a, .slice x1 m x3, .int .i64 v0, .int .i64 v1, .int .i64 v2, .int .i64 v3, .slice y1 q y3] 32 (0, 0))) := by
    unfold Hid; rw [HG79.out.block _ (Array.getElem?_eq_some_iff.1 HB7.out).1 (by simp)]; exact HB7.out
  obtain ⟨hm, hq, hzr, hrr⟩ := HR8.out.rows
  have HX9 : Hid (w9.ownsRow w4.heap.size 84 2 (.slice x1 m x3) m (flatS (stpL p s))) := owns_grown HX7.out HG79.out (fun _ e => by cases e)
  have HY9 : Hid (w9.ownsRow w4.heap.size 29 4 (.slice y1 q y3) q (regsF (rgsN p s) (runS p s).st)) := owns_grown HY7.out HG79.out (fun _ e => by cases e)
  have HSS : Hid (SamS w9 x1 z1 m) := samS_of hm HX9.out (owns_grown hzr hg9 (fun _ e => by cases e))
  have HSR : Hid (SamR w9 y1 r1 q) := by
    have h1 := HY9.out
    have h2 := owns_grown hrr hg9 (fun _ e => by cases e)
    rw [← hq] at h1 h2
    exact samR_of h1 h2
  clear hg9 hb9 hm hq hzr hrr HB7 HX7 HY7 HG78 HR8
  have HST : Hid (∀ u, w9.grownBy u none → u.cell? ⟨w.heap.size, 0, none⟩ = some (.slice ao p.length cap) ∧ (u.cell? ⟨w5.heap.size, 0, none⟩ = some (.int .i64 k) ∧ u.cell? ⟨w5.heap.size, 1, none⟩ = some (.int .i64 t) ∧ u.cell? ⟨w5.heap.size, 2, none⟩ = some (.int .i64 a) ∧ u.cell? ⟨w5.heap.size, 3, none⟩ = some (.slice x1 m x3) ∧ u.cell? ⟨w5.heap.size, 4, none⟩ = some (.int .i64 v0) ∧ u.cell? ⟨w5.heap.size, 5, none⟩ = some (.int .i64 v1) ∧ u.cell? ⟨w5.heap.size, 6, none⟩ = some (.int .i64 v2) ∧ u.cell? ⟨w5.heap.size, 7, none⟩ = some (.int .i64 v3) ∧ u.cell? ⟨w5.heap.size, 8, none⟩ = some (.slice y1 q y3)) ∧ (u.cell? ⟨w8.heap.size, 0, none⟩ = some (.int .i64 k) ∧ u.cell? ⟨w8.heap.size, 1, none⟩ = some (.int .i64 t) ∧ u.cell? ⟨w8.heap.size, 2, none⟩ = some (.int .i64 a) ∧ u.cell? ⟨w8.heap.size, 3, none⟩ = some (.slice z1 m z3) ∧ u.cell? ⟨w8.heap.size, 4, none⟩ = some (.int .i64 v0) ∧ u.cell? ⟨w8.heap.size, 5, none⟩ = some (.int .i64 v1) ∧ u.cell? ⟨w8.heap.size, 6, none⟩ = some (.int .i64 v2) ∧ u.cell? ⟨w8.heap.size, 7, none⟩ = some (.int .i64 v3) ∧ u.cell? ⟨w8.heap.size, 8, none⟩ = some (.slice r1 q r3))) := fun u hu => by
    have ka : u.heap[w5.heap.size]? = some (.cells #[.int .i64 k, .int .i64 t, .int .i64 a, .slice x1 m x3, .int .i64 v0, .int .i64 v1, .int .i64 v2, .int .i64 v3, .slice y1 q y3] 32 (0, 0)) := by rw [hu.block _ (Array.getElem?_eq_some_iff.1 HB59.out).1 (by simp)]; exact HB59.out
    have kb : u.heap[w8.heap.size]? = some (.cells #[.int .i64 k, .int .i64 t, .int .i64 a, .slice z1 m z3, .int .i64 v0, .int .i64 v1, .int .i64 v2, .int .i64 v3, .slice r1 q r3] 32 (0, 0)) := by rw [hu.block _ (Array.getElem?_eq_some_iff.1 HB9.out).1 (by simp)]; exact HB9.out
    obtain ⟨p0, p1, p2, p3, p4, p5, p6, p7, p8, _⟩ := nine_cells ka
    obtain ⟨q0, q1, q2, q3, q4, q5, q6, q7, q8, _⟩ := nine_cells kb
    exact ⟨pres_grown (grown_trans HG79.out hu) _ _ HC7.out, ⟨p0, p1, p2, p3, p4, p5, p6, p7, p8⟩, ⟨q0, q1, q2, q3, q4, q5, q6, q7, q8⟩⟩
  have HRC : Hid (∀ u, w9.grownBy u none → Calls Tryz.prog 32 #[.agg #[.slice ao p.length cap]] u fun e w' => e = .returned (.int .i64 cn) ∧ u.grownBy w' none) := fun u hu => by
    rw [HCN.out]; exact refcheck_m p _ u (HP.out.pres (pres_grown (grown_trans HW7.out (grown_trans HG79.out hu)))) hpl HPC.out
  have HEND : Hid (∀ u, w9.grownBy u none → Hz B u b who4 n f7 K ∧ W.grownBy u none ∧ u.ownsRow B 84 2 (.slice x1 m x3) m (flatS (stpL p s)) ∧ u.ownsRow B 29 4 (.slice y1 q y3) q (regsF (rgsN p s) (runS p s).st) ∧ SamS u x1 z1 m ∧ SamR u y1 r1 q) := fun u hu =>
    ⟨⟨HZ7.out.1.grown (grown_trans HG79.out hu), HZ7.out.2⟩, grown_trans HW7.out (grown_trans HG79.out hu), owns_mono (owns_grown HX9.out hu (fun _ e => by cases e)) HD4.out, owns_mono (owns_grown HY9.out hu (fun _ e => by cases e)) HD4.out, HSS.out.pres (pres_grown hu), HSR.out.pres (pres_grown hu)⟩
  have HML : Hid (m ≤ 500 ∧ q ≤ 4) := ⟨by rw [HMQ.out.1]; exact stpL_le p s, by rw [HMQ.out.2]; exact rgsN_le p s⟩
  have hSt9 := HST.out w9.drew (grown_drew (grown_refl _ _))
  clear HX9 HY9 HSS HSR HB59 HB9 HZ7 HC7 HCN HMQ
  refine wp_region_head (fun u => u.cell? ⟨w.heap.size, 0, none⟩ = some (.slice ao p.length cap) ∧ (u.cell? ⟨w5.heap.size, 0, none⟩ = some (.int .i64 k) ∧ u.cell? ⟨w5.heap.size, 1, none⟩ = some (.int .i64 t) ∧ u.cell? ⟨w5.heap.size, 2, none⟩ = some (.int .i64 a) ∧ u.cell? ⟨w5.heap.size, 3, none⟩ = some (.slice x1 m x3) ∧ u.cell? ⟨w5.heap.size, 4, none⟩ = some (.int .i64 v0) ∧ u.cell? ⟨w5.heap.size, 5, none⟩ = some (.int .i64 v1) ∧ u.cell? ⟨w5.heap.size, 6, none⟩ = some (.int .i64 v2) ∧ u.cell? ⟨w5.heap.size, 7, none⟩ = some (.int .i64 v3) ∧ u.cell? ⟨w5.heap.size, 8, none⟩ = some (.slice y1 q y3)) ∧ (u.cell? ⟨w8.heap.size, 0, none⟩ = some (.int .i64 k) ∧ u.cell? ⟨w8.heap.size, 1, none⟩ = some (.int .i64 t) ∧ u.cell? ⟨w8.heap.size, 2, none⟩ = some (.int .i64 a) ∧ u.cell? ⟨w8.heap.size, 3, none⟩ = some (.slice z1 m z3) ∧ u.cell? ⟨w8.heap.size, 4, none⟩ = some (.int .i64 v0) ∧ u.cell? ⟨w8.heap.size, 5, none⟩ = some (.int .i64 v1) ∧ u.cell? ⟨w8.heap.size, 6, none⟩ = some (.int .i64 v2) ∧ u.cell? ⟨w8.heap.size, 7, none⟩ = some (.int .i64 v3) ∧ u.cell? ⟨w8.heap.size, 8, none⟩ = some (.slice r1 q r3))) 46 (by kernel_rfl) (by kernel_rfl) hSt9 ?_
  intro hHeld
  refine wpHead_take (i := 0) (v := ?vv1) rfl (by kernel_rfl) (fun _ _ _ h => h) (Or.inl ⟨by kernel_rfl, ?hy1⟩) hHeld ?rest1
  case hy1 => (rintro u ⟨hu0, ⟨ha0, ha1, ha2, ha3, ha4, ha5, ha6, ha7, ha8⟩, ⟨hb0, hb1, hb2, hb3, hb4, hb5, hb6, hb7, hb8⟩⟩; go_simp; try with_reducible rfl)
  simp only [Act.put, List.setIfInBounds_toArray]
  refine wpHead_take (i := 1) (v := ?vv2) rfl (by kernel_rfl) (fun _ _ _ h => h) (Or.inl ⟨by kernel_rfl, ?hy2⟩) hHeld ?rest2
  case hy2 => (rintro u ⟨hu0, ⟨ha0, ha1, ha2, ha3, ha4, ha5, ha6, ha7, ha8⟩, ⟨hb0, hb1, hb2, hb3, hb4, hb5, hb6, hb7, hb8⟩⟩; go_simp; try with_reducible rfl)
  simp only [Act.put]
  refine wpHead_take (i := 2) (v := ?vv3) rfl (by kernel_rfl) (fun _ _ _ h => h) (Or.inl ⟨by kernel_rfl, ?hy3⟩) hHeld ?rest3
  case hy3 => (rintro u ⟨hu0, ⟨ha0, ha1, ha2, ha3, ha4, ha5, ha6, ha7, ha8⟩, ⟨hb0, hb1, hb2, hb3, hb4, hb5, hb6, hb7, hb8⟩⟩; go_simp; try with_reducible rfl)
  simp only [Act.put]
  refine wpHead_take (i := 4) (v := ?vv4) rfl (by kernel_rfl) (fun _ _ _ h => h) (Or.inl ⟨by kernel_rfl, ?hy4⟩) hHeld ?rest4
  case hy4 => (rintro u ⟨hu0, ⟨ha0, ha1, ha2, ha3, ha4, ha5, ha6, ha7, ha8⟩, ⟨hb0, hb1, hb2, hb3, hb4, hb5, hb6, hb7, hb8⟩⟩; go_simp; try with_reducible rfl)
  simp only [Act.put]
  refine wpHead_alone (i := 3) rfl (by kernel_rfl) (by kernel_rfl) (by kernel_rfl) ?_
  intro K3 hK3
  have HK3 := hide hK3
  clear hK3
  go_simp
  refine (num_mR _ _).mono ?_
  rintro e wA ⟨rfl, hwA⟩
  obtain rfl := hwA.symm
  refine HK3.out _ _ hHeld ?_
  clear HK3
  try simp only [Act.put, List.setIfInBounds_toArray]
  refine wpHead_alone (i := 5) rfl (by kernel_rfl) (by kernel_rfl) (by kernel_rfl) ?_
  intro K5 hK5
  have HK5 := hide hK5
  clear hK5
  go_simp
  refine (HRC.out _ (grown_drew (grown_refl _ _))).mono ?_
  rintro e w10 ⟨rfl, hg10⟩
  have HG910 : Hid (w9.grownBy w10 none) := grown_offDrew hg10
  have hHeld2 := HST.out w10 HG910.out
  clear hg10
  refine HK5.out _ _ hHeld2 ?_
  clear HK5
  try simp only [Act.put, List.setIfInBounds_toArray]
  refine wpHead_take (i := 6) (v := ?vv5) rfl (by kernel_rfl) (fun _ _ _ h => h) (Or.inl ⟨by kernel_rfl, ?hy5⟩) hHeld2 ?rest5
  case hy5 => (rintro u ⟨hu0, ⟨ha0, ha1, ha2, ha3, ha4, ha5, ha6, ha7, ha8⟩, ⟨hb0, hb1, hb2, hb3, hb4, hb5, hb6, hb7, hb8⟩⟩; go_simp; try with_reducible rfl)
  simp only [Act.put, List.setIfInBounds_toArray]
  refine wpHead_take (i := 7) (v := ?vv6) rfl (by kernel_rfl) (fun _ _ _ h => h) (Or.inl ⟨by kernel_rfl, ?hy6⟩) hHeld2 ?rest6
  case hy6 => (rintro u ⟨hu0, ⟨ha0, ha1, ha2, ha3, ha4, ha5, ha6, ha7, ha8⟩, ⟨hb0, hb1, hb2, hb3, hb4, hb5, hb6, hb7, hb8⟩⟩; go_simp; try with_reducible rfl)
  simp only [Act.put]
  refine wpHead_take (i := 8) (v := ?vv7) rfl (by kernel_rfl) (fun _ _ _ h => h) (Or.inl ⟨by kernel_rfl, ?hy7⟩) hHeld2 ?rest7
  case hy7 => (rintro u ⟨hu0, ⟨ha0, ha1, ha2, ha3, ha4, ha5, ha6, ha7, ha8⟩, ⟨hb0, hb1, hb2, hb3, hb4, hb5, hb6, hb7, hb8⟩⟩; go_simp; try with_reducible rfl)
  simp only [Act.put]
  refine wpHead_take (i := 9) (v := ?vv8) rfl (by kernel_rfl) (fun _ _ _ h => h) (Or.inl ⟨by kernel_rfl, ?hy8⟩) hHeld2 ?rest8
  case hy8 => (rintro u ⟨hu0, ⟨ha0, ha1, ha2, ha3, ha4, ha5, ha6, ha7, ha8⟩, ⟨hb0, hb1, hb2, hb3, hb4, hb5, hb6, hb7, hb8⟩⟩; go_simp; try with_reducible rfl)
  simp only [Act.put]
  refine wpHead_take (i := 11) (v := ?vv9) rfl (by kernel_rfl) (fun _ _ _ h => h) (Or.inl ⟨by kernel_rfl, ?hy9⟩) hHeld2 ?rest9
  case hy9 => (rintro u ⟨hu0, ⟨ha0, ha1, ha2, ha3, ha4, ha5, ha6, ha7, ha8⟩, ⟨hb0, hb1, hb2, hb3, hb4, hb5, hb6, hb7, hb8⟩⟩; go_simp; try with_reducible rfl)
  simp only [Act.put]
  refine wpHead_alone (i := 10) rfl (by kernel_rfl) (by kernel_rfl) (by kernel_rfl) ?_
  intro K10 hK10
  have HK10 := hide hK10
  clear hK10
  go_simp
  refine (num_mR _ _).mono ?_
  rintro e wB ⟨rfl, hwB⟩
  obtain rfl := hwB.symm
  refine HK10.out _ _ hHeld2 ?_
  clear HK10
  try simp only [Act.put, List.setIfInBounds_toArray]
  refine wpHead_take (i := 12) (v := ?vv10) rfl (by kernel_rfl) (fun _ _ _ h => h) (Or.inl ⟨by kernel_rfl, ?hy10⟩) hHeld2 ?rest10
  case hy10 => (rintro u ⟨hu0, ⟨ha0, ha1, ha2, ha3, ha4, ha5, ha6, ha7, ha8⟩, ⟨hb0, hb1, hb2, hb3, hb4, hb5, hb6, hb7, hb8⟩⟩; go_simp; try with_reducible rfl)
  simp only [Act.put, List.setIfInBounds_toArray]
  refine wpHead_take (i := 13) (v := ?vv11) rfl (by kernel_rfl) (fun _ _ _ h => h) (Or.inl ⟨by kernel_rfl, ?hy11⟩) hHeld2 ?rest11
  case hy11 => (rintro u ⟨hu0, ⟨ha0, ha1, ha2, ha3, ha4, ha5, ha6, ha7, ha8⟩, ⟨hb0, hb1, hb2, hb3, hb4, hb5, hb6, hb7, hb8⟩⟩; go_simp; try with_reducible rfl)
  simp only [Act.put]
  refine wpHead_take (i := 14) (v := ?vv12) rfl (by kernel_rfl) (fun _ _ _ h => h) (Or.inl ⟨by kernel_rfl, ?hy12⟩) hHeld2 ?rest12
  case hy12 => (rintro u ⟨hu0, ⟨ha0, ha1, ha2, ha3, ha4, ha5, ha6, ha7, ha8⟩, ⟨hb0, hb1, hb2, hb3, hb4, hb5, hb6, hb7, hb8⟩⟩; go_simp; try with_reducible rfl)
  simp only [Act.put]
  refine wpHead_take (i := 15) (v := ?vv13) rfl (by kernel_rfl) (fun _ _ _ h => h) (Or.inl ⟨by kernel_rfl, ?hy13⟩) hHeld2 ?rest13
  case hy13 => (rintro u ⟨hu0, ⟨ha0, ha1, ha2, ha3, ha4, ha5, ha6, ha7, ha8⟩, ⟨hb0, hb1, hb2, hb3, hb4, hb5, hb6, hb7, hb8⟩⟩; go_simp; try with_reducible rfl)
  simp only [Act.put]
  refine wpHead_take (i := 16) (v := ?vv14) rfl (by kernel_rfl) (fun _ _ _ h => h) (Or.inl ⟨by kernel_rfl, ?hy14⟩) hHeld2 ?rest14
  case hy14 => (rintro u ⟨hu0, ⟨ha0, ha1, ha2, ha3, ha4, ha5, ha6, ha7, ha8⟩, ⟨hb0, hb1, hb2, hb3, hb4, hb5, hb6, hb7, hb8⟩⟩; go_simp; try with_reducible rfl)
  simp only [Act.put]
  refine wpHead_take (i := 17) (v := ?vv15) rfl (by kernel_rfl) (fun _ _ _ h => h) (Or.inl ⟨by kernel_rfl, ?hy15⟩) hHeld2 ?rest15
  case hy15 => (rintro u ⟨hu0, ⟨ha0, ha1, ha2, ha3, ha4, ha5, ha6, ha7, ha8⟩, ⟨hb0, hb1, hb2, hb3, hb4, hb5, hb6, hb7, hb8⟩⟩; go_simp; try with_reducible rfl)
  simp only [Act.put]
  refine wpHead_take (i := 18) (v := ?vv16) rfl (by kernel_rfl) (fun _ _ _ h => h) (Or.inl ⟨by kernel_rfl, ?hy16⟩) hHeld2 ?rest16
  case hy16 => (rintro u ⟨hu0, ⟨ha0, ha1, ha2, ha3, ha4, ha5, ha6, ha7, ha8⟩, ⟨hb0, hb1, hb2, hb3, hb4, hb5, hb6, hb7, hb8⟩⟩; go_simp; try with_reducible rfl)
  simp only [Act.put]
  refine wpHead_take (i := 19) (v := ?vv17) rfl (by kernel_rfl) (fun _ _ _ h => h) (Or.inl ⟨by kernel_rfl, ?hy17⟩) hHeld2 ?rest17
  case hy17 => (rintro u ⟨hu0, ⟨ha0, ha1, ha2, ha3, ha4, ha5, ha6, ha7, ha8⟩, ⟨hb0, hb1, hb2, hb3, hb4, hb5, hb6, hb7, hb8⟩⟩; go_simp; try with_reducible rfl)
  simp only [Act.put]
  refine wpHead_take (i := 20) (v := ?vv18) rfl (by kernel_rfl) (fun _ _ _ h => h) (Or.inl ⟨by kernel_rfl, ?hy18⟩) hHeld2 ?rest18
  case hy18 => (rintro u ⟨hu0, ⟨ha0, ha1, ha2, ha3, ha4, ha5, ha6, ha7, ha8⟩, ⟨hb0, hb1, hb2, hb3, hb4, hb5, hb6, hb7, hb8⟩⟩; go_simp; try with_reducible rfl)
  simp only [Act.put]
  refine wpHead_take (i := 21) (v := ?vv19) rfl (by kernel_rfl) (fun _ _ _ h => h) (Or.inl ⟨by kernel_rfl, ?hy19⟩) hHeld2 ?rest19
  case hy19 => (rintro u ⟨hu0, ⟨ha0, ha1, ha2, ha3, ha4, ha5, ha6, ha7, ha8⟩, ⟨hb0, hb1, hb2, hb3, hb4, hb5, hb6, hb7, hb8⟩⟩; go_simp; try with_reducible rfl)
  simp only [Act.put]
  refine wpHead_take (i := 22) (v := ?vv20) rfl (by kernel_rfl) (fun _ _ _ h => h) (Or.inl ⟨by kernel_rfl, ?hy20⟩) hHeld2 ?rest20
  case hy20 => (rintro u ⟨hu0, ⟨ha0, ha1, ha2, ha3, ha4, ha5, ha6, ha7, ha8⟩, ⟨hb0, hb1, hb2, hb3, hb4, hb5, hb6, hb7, hb8⟩⟩; go_simp; try with_reducible rfl)
  simp only [Act.put]
  refine wpHead_take (i := 23) (v := ?vv21) rfl (by kernel_rfl) (fun _ _ _ h => h) (Or.inl ⟨by kernel_rfl, ?hy21⟩) hHeld2 ?rest21
  case hy21 => (rintro u ⟨hu0, ⟨ha0, ha1, ha2, ha3, ha4, ha5, ha6, ha7, ha8⟩, ⟨hb0, hb1, hb2, hb3, hb4, hb5, hb6, hb7, hb8⟩⟩; go_simp; try with_reducible rfl)
  simp only [Act.put]
  refine wpHead_take (i := 24) (v := ?vv22) rfl (by kernel_rfl) (fun _ _ _ h => h) (Or.inl ⟨by kernel_rfl, ?hy22⟩) hHeld2 ?rest22
  case hy22 => (rintro u ⟨hu0, ⟨ha0, ha1, ha2, ha3, ha4, ha5, ha6, ha7, ha8⟩, ⟨hb0, hb1, hb2, hb3, hb4, hb5, hb6, hb7, hb8⟩⟩; go_simp; try with_reducible rfl)
  simp only [Act.put]
  refine wpHead_take (i := 25) (v := ?vv23) rfl (by kernel_rfl) (fun _ _ _ h => h) (Or.inl ⟨by kernel_rfl, ?hy23⟩) hHeld2 ?rest23
  case hy23 => (rintro u ⟨hu0, ⟨ha0, ha1, ha2, ha3, ha4, ha5, ha6, ha7, ha8⟩, ⟨hb0, hb1, hb2, hb3, hb4, hb5, hb6, hb7, hb8⟩⟩; go_simp; try with_reducible rfl)
  simp only [Act.put]
  refine wpHead_take (i := 26) (v := ?vv24) rfl (by kernel_rfl) (fun _ _ _ h => h) (Or.inl ⟨by kernel_rfl, ?hy24⟩) hHeld2 ?rest24
  case hy24 => (rintro u ⟨hu0, ⟨ha0, ha1, ha2, ha3, ha4, ha5, ha6, ha7, ha8⟩, ⟨hb0, hb1, hb2, hb3, hb4, hb5, hb6, hb7, hb8⟩⟩; go_simp; try with_reducible rfl)
  simp only [Act.put]
  refine wpHead_take (i := 27) (v := ?vv25) rfl (by kernel_rfl) (fun _ _ _ h => h) (Or.inl ⟨by kernel_rfl, ?hy25⟩) hHeld2 ?rest25
  case hy25 => (rintro u ⟨hu0, ⟨ha0, ha1, ha2, ha3, ha4, ha5, ha6, ha7, ha8⟩, ⟨hb0, hb1, hb2, hb3, hb4, hb5, hb6, hb7, hb8⟩⟩; go_simp; try with_reducible rfl)
  simp only [Act.put]
  refine wpHead_take (i := 28) (v := ?vv26) rfl (by kernel_rfl) (fun _ _ _ h => h) (Or.inl ⟨by kernel_rfl, ?hy26⟩) hHeld2 ?rest26
  case hy26 => (rintro u ⟨hu0, ⟨ha0, ha1, ha2, ha3, ha4, ha5, ha6, ha7, ha8⟩, ⟨hb0, hb1, hb2, hb3, hb4, hb5, hb6, hb7, hb8⟩⟩; go_simp; try with_reducible rfl)
  simp only [Act.put]
  refine wpHead_take (i := 29) (v := ?vv27) rfl (by kernel_rfl) (fun _ _ _ h => h) (Or.inl ⟨by kernel_rfl, ?hy27⟩) hHeld2 ?rest27
  case hy27 => (rintro u ⟨hu0, ⟨ha0, ha1, ha2, ha3, ha4, ha5, ha6, ha7, ha8⟩, ⟨hb0, hb1, hb2, hb3, hb4, hb5, hb6, hb7, hb8⟩⟩; go_simp; try with_reducible rfl)
  simp only [Act.put]
  refine wpHead_take (i := 30) (v := ?vv28) rfl (by kernel_rfl) (fun _ _ _ h => h) (Or.inl ⟨by kernel_rfl, ?hy28⟩) hHeld2 ?rest28
  case hy28 => (rintro u ⟨hu0, ⟨ha0, ha1, ha2, ha3, ha4, ha5, ha6, ha7, ha8⟩, ⟨hb0, hb1, hb2, hb3, hb4, hb5, hb6, hb7, hb8⟩⟩; go_simp; try with_reducible rfl)
  simp only [Act.put]
  refine wpHead_take (i := 31) (v := ?vv29) rfl (by kernel_rfl) (fun _ _ _ h => h) (Or.inl ⟨by kernel_rfl, ?hy29⟩) hHeld2 ?rest29
  case hy29 => (rintro u ⟨hu0, ⟨ha0, ha1, ha2, ha3, ha4, ha5, ha6, ha7, ha8⟩, ⟨hb0, hb1, hb2, hb3, hb4, hb5, hb6, hb7, hb8⟩⟩; go_simp; try with_reducible rfl)
  simp only [Act.put]
  refine wpHead_take (i := 32) (v := ?vv30) rfl (by kernel_rfl) (fun _ _ _ h => h) (Or.inl ⟨by kernel_rfl, ?hy30⟩) hHeld2 ?rest30
  case hy30 => (rintro u ⟨hu0, ⟨ha0, ha1, ha2, ha3, ha4, ha5, ha6, ha7, ha8⟩, ⟨hb0, hb1, hb2, hb3, hb4, hb5, hb6, hb7, hb8⟩⟩; go_simp; try with_reducible rfl)
  simp only [Act.put]
  refine wpHead_take (i := 33) (v := ?vv31) rfl (by kernel_rfl) (fun _ _ _ h => h) (Or.inl ⟨by kernel_rfl, ?hy31⟩) hHeld2 ?rest31
  case hy31 => (rintro u ⟨hu0, ⟨ha0, ha1, ha2, ha3, ha4, ha5, ha6, ha7, ha8⟩, ⟨hb0, hb1, hb2, hb3, hb4, hb5, hb6, hb7, hb8⟩⟩; go_simp; try with_reducible rfl)
  simp only [Act.put]
  refine wpHead_take (i := 34) (v := ?vv32) rfl (by kernel_rfl) (fun _ _ _ h => h) (Or.inl ⟨by kernel_rfl, ?hy32⟩) hHeld2 ?rest32
  case hy32 => (rintro u ⟨hu0, ⟨ha0, ha1, ha2, ha3, ha4, ha5, ha6, ha7, ha8⟩, ⟨hb0, hb1, hb2, hb3, hb4, hb5, hb6, hb7, hb8⟩⟩; go_simp; try with_reducible rfl)
  simp only [Act.put]
  refine wpHead_take (i := 35) (v := ?vv33) rfl (by kernel_rfl) (fun _ _ _ h => h) (Or.inl ⟨by kernel_rfl, ?hy33⟩) hHeld2 ?rest33
  case hy33 => (rintro u ⟨hu0, ⟨ha0, ha1, ha2, ha3, ha4, ha5, ha6, ha7, ha8⟩, ⟨hb0, hb1, hb2, hb3, hb4, hb5, hb6, hb7, hb8⟩⟩; go_simp; try with_reducible rfl)
  simp only [Act.put]
  refine wpHead_take (i := 36) (v := ?vv34) rfl (by kernel_rfl) (fun _ _ _ h => h) (Or.inl ⟨by kernel_rfl, ?hy34⟩) hHeld2 ?rest34
  case hy34 => (rintro u ⟨hu0, ⟨ha0, ha1, ha2, ha3, ha4, ha5, ha6, ha7, ha8⟩, ⟨hb0, hb1, hb2, hb3, hb4, hb5, hb6, hb7, hb8⟩⟩; go_simp; try with_reducible rfl)
  simp only [Act.put]
  refine wpHead_take (i := 37) (v := ?vv35) rfl (by kernel_rfl) (fun _ _ _ h => h) (Or.inl ⟨by kernel_rfl, ?hy35⟩) hHeld2 ?rest35
  case hy35 => (rintro u ⟨hu0, ⟨ha0, ha1, ha2, ha3, ha4, ha5, ha6, ha7, ha8⟩, ⟨hb0, hb1, hb2, hb3, hb4, hb5, hb6, hb7, hb8⟩⟩; go_simp; try with_reducible rfl)
  simp only [Act.put]
  refine wpHead_take (i := 38) (v := ?vv36) rfl (by kernel_rfl) (fun _ _ _ h => h) (Or.inl ⟨by kernel_rfl, ?hy36⟩) hHeld2 ?rest36
  case hy36 => (rintro u ⟨hu0, ⟨ha0, ha1, ha2, ha3, ha4, ha5, ha6, ha7, ha8⟩, ⟨hb0, hb1, hb2, hb3, hb4, hb5, hb6, hb7, hb8⟩⟩; go_simp; try with_reducible rfl)
  simp only [Act.put]
  refine wpHead_take (i := 39) (v := ?vv37) rfl (by kernel_rfl) (fun _ _ _ h => h) (Or.inl ⟨by kernel_rfl, ?hy37⟩) hHeld2 ?rest37
  case hy37 => (rintro u ⟨hu0, ⟨ha0, ha1, ha2, ha3, ha4, ha5, ha6, ha7, ha8⟩, ⟨hb0, hb1, hb2, hb3, hb4, hb5, hb6, hb7, hb8⟩⟩; go_simp; try with_reducible rfl)
  simp only [Act.put]
  refine wpHead_take (i := 40) (v := ?vv38) rfl (by kernel_rfl) (fun _ _ _ h => h) (Or.inl ⟨by kernel_rfl, ?hy38⟩) hHeld2 ?rest38
  case hy38 => (rintro u ⟨hu0, ⟨ha0, ha1, ha2, ha3, ha4, ha5, ha6, ha7, ha8⟩, ⟨hb0, hb1, hb2, hb3, hb4, hb5, hb6, hb7, hb8⟩⟩; go_simp; try with_reducible rfl)
  simp only [Act.put]
  refine wpHead_take (i := 41) (v := ?vv39) rfl (by kernel_rfl) (fun _ _ _ h => h) (Or.inl ⟨by kernel_rfl, ?hy39⟩) hHeld2 ?rest39
  case hy39 => (rintro u ⟨hu0, ⟨ha0, ha1, ha2, ha3, ha4, ha5, ha6, ha7, ha8⟩, ⟨hb0, hb1, hb2, hb3, hb4, hb5, hb6, hb7, hb8⟩⟩; go_simp; try with_reducible rfl)
  simp only [Act.put]
  refine wpHead_take (i := 42) (v := ?vv40) rfl (by kernel_rfl) (fun _ _ _ h => h) (Or.inl ⟨by kernel_rfl, ?hy40⟩) hHeld2 ?rest40
  case hy40 => (rintro u ⟨hu0, ⟨ha0, ha1, ha2, ha3, ha4, ha5, ha6, ha7, ha8⟩, ⟨hb0, hb1, hb2, hb3, hb4, hb5, hb6, hb7, hb8⟩⟩; go_simp; try with_reducible rfl)
  simp only [Act.put]
  refine wpHead_take (i := 43) (v := ?vv41) rfl (by kernel_rfl) (fun _ _ _ h => h) (Or.inl ⟨by kernel_rfl, ?hy41⟩) hHeld2 ?rest41
  case hy41 => (rintro u ⟨hu0, ⟨ha0, ha1, ha2, ha3, ha4, ha5, ha6, ha7, ha8⟩, ⟨hb0, hb1, hb2, hb3, hb4, hb5, hb6, hb7, hb8⟩⟩; go_simp; try with_reducible rfl)
  simp only [Act.put]
  refine wpHead_take (i := 44) (v := ?vv42) rfl (by kernel_rfl) (fun _ _ _ h => h) (Or.inl ⟨by kernel_rfl, ?hy42⟩) hHeld2 ?rest42
  case hy42 => (rintro u ⟨hu0, ⟨ha0, ha1, ha2, ha3, ha4, ha5, ha6, ha7, ha8⟩, ⟨hb0, hb1, hb2, hb3, hb4, hb5, hb6, hb7, hb8⟩⟩; go_simp; try with_reducible rfl)
  simp only [Act.put]
  refine wpHead_take (i := 45) (v := ?vv43) rfl (by kernel_rfl) (fun _ _ _ h => h) (Or.inl ⟨by kernel_rfl, ?hy43⟩) hHeld2 ?rest43
  case hy43 => (rintro u ⟨hu0, ⟨ha0, ha1, ha2, ha3, ha4, ha5, ha6, ha7, ha8⟩, ⟨hb0, hb1, hb2, hb3, hb4, hb5, hb6, hb7, hb8⟩⟩; go_simp; try with_reducible rfl)
  simp only [Act.put]
  refine wpHead_last rfl (by kernel_rfl) (by kernel_rfl) (by kernel_rfl) ?_
  go_simp
  clear hHeld
  refine ‹∀ a w, Code.wp Tryz.prog _ _ a w → _› _ _ ?_
  obtain ⟨z0, z2, z3', z4, z5, z6⟩ := HEND.out w10 HG910.out
  refine repTail z0 z2 hWB z3' z4 HXO HYO z5 z6 hHeld2.2.1.2.2.2.1 hHeld2.2.1.2.2.2.2.2.2.2.2 hHeld2.2.2.2.2.2.1 hHeld2.2.2.2.2.2.2.2.2.2.2 HO8 HNX HML.out.1 HML.out.2 hn0 hn1 HK ?_
  intro z0 z1 z2 z3 z4 z5 z7 z8 z9 z10 z11 z12 z13 z14 z15 z16 z17 z18 z19 z20 z21 z22 z23 z24 z25 z26 z27 z28 z29 z30 z31 z32 z33 z34 z35 z36 z37 z38 z39 z40 z41 z42 z43 z44 z45 z46 z47 z48 z49 z50 z51 z52 z53 z54 z55 z56 z57 z58 z59 z60 z61 z62 z63 z64 z65 z66 z67 z68 z69 z70 z71 z72 z73 z74 z75 z76 z77 z78 z79 z80 z81 z82 z83 z84 z85 z86 z87 z88 z89 z90 z91 z92 z93 z94 z95 z96 z97 z98 z99 z100 z101 z102 z103 z104 z105 z106 z107 z108 z109 z110 z111 z112 z113 z114 z115 z116 z117 z118 z119 z120 z121 z122 z123 z124 z125 z126 z127 z128 z129 z130 z131 z132 z133 z134 z135 z136 z137 z138 z139 z140 w' hh
  have HHF := hide hh
  clear hh
  go_ret
  exact ⟨rfl, HHF.out⟩

end Go.Proofs.YtklenjmfalljgaaGreatDoor

/- Hands that were just made. -/
namespace Go.Proofs.YtklenjmfalljgaaGreatDoor
open Go.RowKit

def f00 : Nat → Value := fun k => if k = 5 then .int .i64 0 else .slice none 0 0
/-- Hands that were just made. -/
theorem Hz.start {w : World} {b : Nat} (h : w.heap[b]? = some (.cells (hcl f00) 43 (0, 0))) : Hz b w b (setW (fun _ => .other) b .hands) 0 f00 (fun _ => []) := by
  have hnil : ∀ k, k ≠ 5 → f00 k = .slice none 0 0 := fun k hk => by unfold f00; rw [if_neg hk]
  refine ⟨⟨⟨h, rfl, fun c hc => ?_, fun c hc => ?_, fun c hc g e => ?_, fun c hc g e => ?_, setW_at _ _ _, fun c hc x hx => (by cases hx), fun g e => ?_⟩, fun c hc x hx => (by cases hx)⟩, fun k hk => hnil k (by omega)⟩
  · rw [hnil _ (by omega)]; exact ⟨rfl, Or.inl ⟨rfl, rfl⟩⟩
  · rw [hnil _ (by omega)]; exact ⟨rfl, Or.inl ⟨rfl, rfl⟩⟩
  · rw [hnil _ (by omega)] at e; cases e
  · rw [hnil _ (by omega)] at e; cases e
  · by_cases e2 : g = b
    · subst e2; exact ⟨Nat.le_refl _, (Array.getElem?_eq_some_iff.1 h).1⟩
    · rw [setW_ne _ _ e2] at e; exact absurd rfl e

end Go.Proofs.YtklenjmfalljgaaGreatDoor

/- Lists that are lent, written over by their owner. -/
namespace Go.Proofs.YtklenjmfalljgaaGreatDoor
open Go.RowKit

section
variable {B : Nat} {w w' : World} {b : Nat} {who : Nat → Role} {n : Int} {f : Nat → Value} {K : Nat → List (Value × Int)} {E : Nat → List Value} {LI : List (Nat × List Int × Value)} {LC : List (Nat × List Ins × Value)} {LR : List (Nat × Nat)} {tail : Nat}

/-- A row of a block that is lent, but in no list, grows. -/
theorem Lx.outRow (h : Lx B w b who n f K E LI LC LR tail) {g : Nat} (hg : w.grownBy w' (some g)) (hw : who g = .lent) (hn : g ∉ LI.map (·.1) ++ (LC.map (·.1) ++ LR.map (·.1))) : Lx B w' b who n f K E LI LC LR tail ∧ Fr w w' who who (fun _ => False) := by
  have hne : ∀ g', g' < w.heap.size → g' ≠ g → w'.heap[g']? = w.heap[g']? := fun g' h1 e => hg.block g' h1 (by simpa using e)
  have hfr : Fr w w' who who (fun _ => False) := ⟨hg.os, hg.tape, hg.output, hg.size, fun g' h1 h2 _ => ⟨hne g' h1 (fun e => by subst e; rw [hw] at h2; cases h2), h2⟩⟩
  exact ⟨⟨⟨h.hs.1.same hg.size (fun g' h1 _ h3 => hne g' h1 (fun e => by subst e; rw [hw] at h3; cases h3)), h.hs.2⟩, h.lr.same (fun g' k e => hne g' (h.hs.1.dom g' (by rw [e]; simp)).2 (fun e2 => by subst e2; rw [hw] at e; cases e)), h.le.keepIn hfr (fun g' e => ⟨hne g' (h.le.lt g' e).1 (fun e2 => hn (by rw [← e2]; exact e)), (h.le.lt g' e).2⟩)⟩, hfr⟩

theorem nd_lc (h : Le w who LI LC LR tail) {i j : Nat} (hi : i < LC.length) (hj : j < LC.length) (hij : i ≠ j) : LC[i].1 ≠ LC[j].1 := by
  intro e
  have hnd := (List.nodup_append.1 (List.nodup_append.1 h.nd).2.1).1
  have h1 : (LC.map (·.1))[i]'(by simpa using hi) = (LC.map (·.1))[j]'(by simpa using hj) := by simpa using e
  have hp := List.pairwise_iff_getElem.1 hnd
  rcases Nat.lt_or_gt_of_ne hij with hlt | hlt
  · exact hp i j (by simpa using hi) (by simpa using hj) hlt h1
  · exact hp j i (by simpa using hj) (by simpa using hi) hlt h1.symm
theorem nd_li (h : Le w who LI LC LR tail) {x : Nat × List Int × Value} (hx : x ∈ LI) {i : Nat} (hi : i < LC.length) : x.1 ≠ LC[i].1 := by
  intro e
  exact (List.nodup_append.1 h.nd).2.2 x.1 (List.mem_map.2 ⟨x, hx, rfl⟩) LC[i].1 (List.mem_append.2 (Or.inl (List.mem_map.2 ⟨_, List.getElem_mem hi, rfl⟩))) e
theorem nd_lr (h : Le w who LI LC LR tail) {j : Nat} (hj : j < LR.length) {i : Nat} (hi : i < LC.length) : LR[j].1 ≠ LC[i].1 := by
  intro e
  exact (List.nodup_append.1 (List.nodup_append.1 h.nd).2.1).2.2 LC[i].1 (List.mem_map.2 ⟨_, List.getElem_mem hi, rfl⟩) LR[j].1 (List.mem_map.2 ⟨_, List.getElem_mem hj, rfl⟩) e.symm

theorem map_set_same {α β : Type} (F : α → β) (l : List α) (i : Nat) (y : α) (hi : i < l.length) (e : F y = F l[i]) : (l.set i y).map F = l.map F := by
  rw [List.map_set, e]
  apply List.ext_getElem (by simp)
  intro k h1 h2
  rw [List.getElem_set]
  by_cases hk : i = k
  · subst hk; simp
  · rw [if_neg hk]

/-- A list of instructions that is lent holds others of the same number; so does what is told of it. -/
theorem Lx.recode (h : Lx B w b who n f K (EL LI LC LR) LI LC LR 0) {i : Nat} (hi : i < LC.length) {w1 : World} (hc : Chg w w1 (fun g => g = LC[i].1)) {c' : List Ins} {cv' : Value} {g3 m3 c3 : Nat} (hf3 : f 3 = .slice (some ⟨g3, 0, none⟩) m3 c3)
    (hb : w1.heap[LC[i].1]? = some (.cells (lentCode c') 74 (0, 0))) (hl : c'.length = LC[i].2.1.length) (hC : CodeAt w1 cv' c') (hv : valOther who cv') :
    Lx B (w1.setCell ⟨g3, i, none⟩ cv') b who n f K (EL LI (LC.set i (LC[i].1, c', cv')) LR) LI (LC.set i (LC[i].1, c', cv')) LR 0 ∧ Fr w (w1.setCell ⟨g3, i, none⟩ cv') who who (fun _ => False) := by
  have w3 : who g3 = .lrow 3 := h.lr.wr 3 (by omega) g3 (by rw [hf3]; rfl)
  have wx : who LC[i].1 = .lent := (h.le.lc _ (List.getElem_mem hi)).2.1
  have hgx3 : LC[i].1 ≠ g3 := fun e => by rw [e, w3] at wx; cases wx
  have hne3 : ∀ g, g ≠ g3 → (w1.setCell ⟨g3, i, none⟩ cv').heap[g]? = w1.heap[g]? := fun g e => Below.heap_setCell _ _ _ _ (by simpa using e)
  have hne : ∀ g, g < w.heap.size → g ≠ LC[i].1 → g ≠ g3 → (w1.setCell ⟨g3, i, none⟩ cv').heap[g]? = w.heap[g]? := fun g h1 h2 h3 => by rw [hne3 g h3]; exact hc.blk g h1 h2
  have hfr : Fr w (w1.setCell ⟨g3, i, none⟩ cv') who who (fun _ => False) := ⟨hc.os, hc.tape, hc.output, by simpa using hc.size, fun g h1 h2 _ => ⟨hne g h1 (fun e => by rw [e, wx] at h2; cases h2) (fun e => by rw [e, w3] at h2; cases h2), h2⟩⟩
  have e1 : (LC.set i (LC[i].1, c', cv')).map (·.1) = LC.map (·.1) := map_set_same _ _ _ _ hi rfl
  have e2 : (LC.set i (LC[i].1, c', cv')).map (fun x => sl2 x.1 x.2.1.length) = LC.map (fun x => sl2 x.1 x.2.1.length) := map_set_same _ _ _ _ hi (by simp only; rw [hl])
  have e3 : (LC.set i (LC[i].1, c', cv')).map slC = LC.map slC := map_set_same _ _ _ _ hi (by simp only [slC]; rw [hl])
  refine ⟨⟨⟨h.hs.1.same (by simpa using hc.size) (fun g h1 _ h3 => hne g h1 (fun e => by rw [e, wx] at h3; cases h3) (fun e => by rw [e, w3] at h3; cases h3)), h.hs.2⟩, ⟨fun k hk => ?_, h.lr.wr⟩, ⟨fun x hx => ?_, fun x hx => ?_, fun j hj => ?_, by simpa using h.le.sum, by rw [e1]; exact h.le.nd⟩⟩, hfr⟩
  · have hother : k ≠ 3 → EL LI (LC.set i (LC[i].1, c', cv')) LR k = EL LI LC LR k := fun hk3 => by
      rcases (by omega : k = 0 ∨ k = 1 ∨ k = 2 ∨ k = 4) with rfl | rfl | rfl | rfl
      · rfl
      · rfl
      · exact e2
      · rfl
    by_cases hk3 : k = 3
    · subst hk3
      have hr := h.lr.r 3 (by omega)
      rw [hf3] at hr
      have hm := owns_lenq hr
      subst hm
      have hr1 : w1.ownsRow B (tR 3) 1 (.slice (some ⟨g3, 0, none⟩) (EL LI LC LR 3).length c3) (EL LI LC LR 3).length (EL LI LC LR 3) := owns_same hr (fun g e => by
        simp only [Value.ownBlock, Option.some.injEq] at e
        subst e
        exact hc.blk g3 (h.hs.1.dom g3 (by rw [w3]; simp)).2 (fun e => hgx3 e.symm))
      have hr2 := owns_setCell hr1 i cv'
      have e4 : (EL LI LC LR 3).set i cv' = EL LI (LC.set i (LC[i].1, c', cv')) LR 3 := by simp [EL, List.map_set]
      have e5 : (EL LI LC LR 3).length = (EL LI (LC.set i (LC[i].1, c', cv')) LR 3).length := by simp [EL]
      rw [e4] at hr2
      rw [hf3, ← e5]
      exact hr2
    · rw [hother hk3]
      exact owns_same (h.lr.r k hk) (fun g e => by
        have hw := h.lr.wr k hk g e
        refine hne g (h.hs.1.dom g (by rw [hw]; simp)).2 (fun e => by rw [e, wx] at hw; cases hw) (fun e => ?_)
        rw [e, w3] at hw
        simp at hw
        omega)
  · obtain ⟨a, b', c, d, e⟩ := h.le.li x hx
    obtain ⟨k1, k2⟩ := int_keeps c d hfr
    refine ⟨?_, b', k1, k2, e⟩
    rw [hne x.1 (Array.getElem?_eq_some_iff.1 a).1 (nd_li h.le hx hi) (fun e => by rw [e, w3] at b'; cases b')]
    exact a
  · obtain ⟨j, hj, rfl⟩ := List.getElem_of_mem hx
    have hj' : j < LC.length := by simpa using hj
    by_cases hij : i = j
    · subst hij
      rw [List.getElem_set_self]
      refine ⟨by rw [hne3 _ hgx3]; exact hb, wx, code_oth hC hv (fun g _ h2 => hne3 g (fun e => by rw [e, w3] at h2; cases h2)), hv, ?_⟩
      show c'.length ≤ 1048576
      rw [hl]
      exact (h.le.lc _ (List.getElem_mem hi)).2.2.2.2
    · rw [List.getElem_set_ne hij]
      obtain ⟨a, b', c, d, e⟩ := h.le.lc _ (List.getElem_mem hj')
      refine ⟨?_, b', code_oth c d (fun g h1 h2 => (hfr.oth g h1 h2 (fun e => e)).1), d, e⟩
      rw [hne _ (Array.getElem?_eq_some_iff.1 a).1 (fun e => nd_lc h.le hi hj' hij e.symm) (fun e => by rw [e, w3] at b'; cases b')]
      exact a
  · obtain ⟨a, b', c⟩ := h.le.lr j hj
    refine ⟨?_, b', c⟩
    have e6 : lentRows (((LC.set i (LC[i].1, c', cv')).drop ((LR.take j).map (·.2)).sum).take LR[j].2) = lentRows ((LC.drop ((LR.take j).map (·.2)).sum).take LR[j].2) := by
      unfold lentRows
      rw [List.map_take, List.map_drop, e3, ← List.map_drop, ← List.map_take]
    rw [e6, hne _ (Array.getElem?_eq_some_iff.1 a).1 (nd_lr h.le hj hi) (fun e => by rw [e, w3] at b'; cases b')]
    exact a

/-- The list of numbers that is lent holds others of the same number; so does what is told of it. -/
theorem Lx.reints {gs : Nat} {s : List Int} {sv : Value} (h : Lx B w b who n f K (EL [(gs, s, sv)] LC LR) [(gs, s, sv)] LC LR 0) {w1 : World} (hc : Chg w w1 (fun g => g = gs)) {t : List Int} {tv : Value} {g1 m1 c1 : Nat} (hf1 : f 1 = .slice (some ⟨g1, 0, none⟩) m1 c1)
    (hb : w1.heap[gs]? = some (.cells (lentRow t) 3 (0, 0))) (hl : t.length = s.length) (hC : IntsAt w1.heap.size w1 tv t) (hv : valOther who tv) :
    Lx B (w1.setCell ⟨g1, 0, none⟩ tv) b who n f K (EL [(gs, t, tv)] LC LR) [(gs, t, tv)] LC LR 0 ∧ Fr w (w1.setCell ⟨g1, 0, none⟩ tv) who who (fun _ => False) := by
  have w3 : who g1 = .lrow 1 := h.lr.wr 1 (by omega) g1 (by rw [hf1]; rfl)
  have wx : who gs = .lent := (h.le.li (gs, s, sv) (by simp)).2.1
  have hgx3 : gs ≠ g1 := fun e => by rw [e, w3] at wx; cases wx
  have hne3 : ∀ g, g ≠ g1 → (w1.setCell ⟨g1, 0, none⟩ tv).heap[g]? = w1.heap[g]? := fun g e => Below.heap_setCell _ _ _ _ (by simpa using e)
  have hne : ∀ g, g < w.heap.size → g ≠ gs → g ≠ g1 → (w1.setCell ⟨g1, 0, none⟩ tv).heap[g]? = w.heap[g]? := fun g h1 h2 h3 => by rw [hne3 g h3]; exact hc.blk g h1 h2
  have hfr : Fr w (w1.setCell ⟨g1, 0, none⟩ tv) who who (fun _ => False) := ⟨hc.os, hc.tape, hc.output, by simpa using hc.size, fun g h1 h2 _ => ⟨hne g h1 (fun e => by rw [e, wx] at h2; cases h2) (fun e => by rw [e, w3] at h2; cases h2), h2⟩⟩
  have hnd := (List.nodup_append.1 h.le.nd).2.2
  refine ⟨⟨⟨h.hs.1.same (by simpa using hc.size) (fun g h1 _ h3 => hne g h1 (fun e => by rw [e, wx] at h3; cases h3) (fun e => by rw [e, w3] at h3; cases h3)), h.hs.2⟩, ⟨fun k hk => ?_, h.lr.wr⟩, ⟨fun x hx => ?_, fun x hx => ?_, fun j hj => ?_, h.le.sum, h.le.nd⟩⟩, hfr⟩
  · have hother : k ≠ 1 → EL [(gs, t, tv)] LC LR k = EL [(gs, s, sv)] LC LR k := fun hk3 => by
      rcases (by omega : k = 0 ∨ k = 2 ∨ k = 3 ∨ k = 4) with rfl | rfl | rfl | rfl
      · simp [EL, hl]
      · rfl
      · rfl
      · rfl
    by_cases hk3 : k = 1
    · subst hk3
      have hr := h.lr.r 1 (by omega)
      rw [hf1] at hr
      have hm := owns_lenq hr
      subst hm
      have hr1 : w1.ownsRow B (tR 1) 1 (.slice (some ⟨g1, 0, none⟩) (EL [(gs, s, sv)] LC LR 1).length c1) (EL [(gs, s, sv)] LC LR 1).length (EL [(gs, s, sv)] LC LR 1) := owns_same hr (fun g e => by
        simp only [Value.ownBlock, Option.some.injEq] at e
        subst e
        exact hc.blk g1 (h.hs.1.dom g1 (by rw [w3]; simp)).2 (fun e => hgx3 e.symm))
      have hr2 := owns_setCell hr1 0 tv
      rw [hf1]
      simpa [EL] using hr2
    · rw [hother hk3]
      exact owns_same (h.lr.r k hk) (fun g e => by
        have hw := h.lr.wr k hk g e
        refine hne g (h.hs.1.dom g (by rw [hw]; simp)).2 (fun e => by rw [e, wx] at hw; cases hw) (fun e => ?_)
        rw [e, w3] at hw
        simp at hw
        omega)
  · have hx' : x = (gs, t, tv) := by simpa using hx
    subst hx'
    refine ⟨by rw [hne3 _ hgx3]; exact hb, wx, ?_, hv, by show t.length ≤ 1048576; rw [hl]; exact (h.le.li (gs, s, sv) (by simp)).2.2.2.2⟩
    have := ints_oth hC hv (w' := w1.setCell ⟨g1, 0, none⟩ tv) (by simp) (fun g _ h2 => hne3 g (fun e => by rw [e, w3] at h2; cases h2))
    exact this
  · obtain ⟨a, b', c, d, e⟩ := h.le.lc x hx
    refine ⟨?_, b', code_oth c d (fun g h1 h2 => (hfr.oth g h1 h2 (fun e => e)).1), d, e⟩
    rw [hne _ (Array.getElem?_eq_some_iff.1 a).1 (fun e => hnd gs (by simp) x.1 (List.mem_append.2 (Or.inl (List.mem_map.2 ⟨x, hx, rfl⟩))) e.symm) (fun e => by rw [e, w3] at b'; cases b')]
    exact a
  · obtain ⟨a, b', c⟩ := h.le.lr j hj
    refine ⟨?_, b', c⟩
    rw [hne _ (Array.getElem?_eq_some_iff.1 a).1 (fun e => hnd gs (by simp) LR[j].1 (List.mem_append.2 (Or.inr (List.mem_map.2 ⟨_, List.getElem_mem hj, rfl⟩))) e.symm) (fun e => by rw [e, w3] at b'; cases b')]
    exact a
end

end Go.Proofs.YtklenjmfalljgaaGreatDoor

/- append of a slice that may be nil. -/
namespace Go.Proofs.YtklenjmfalljgaaGreatDoor
open Go.RowKit

section
variable {P : Program} {w : World} {ops : Array Oper} {rest : List Oper} {o : Oper} {a : Act} {Q : Exit → Act → World → Prop}
/-- append of a slice (nil, empty or not) onto a row of the call's own. -/
theorem wpList_append_any (hgd : o.guard = none) (s x : Operand) (t : TypeId) (ho : o.op = .call { callee := .builtin .append, args := #[s, x], argTypes := #[t, t] })
    (base : Nat) (e : TypeId) (i : TypeInfo) (z : Value) (size bytes : Nat) (ht : P.underlying t = some (.slice e)) (hi : P.info? e = some i) (hz : i.zero = some z) (hsize : i.size = size) (hby : i.bytes = bytes) (hzs : z.cells.size = size) (hsz : 0 < size)
    (v : Value) (n : Nat) (xs : List Value) (hs : a.eval s = v) (hown : w.ownsRow base e size v n xs) (so : Option Addr) (m c : Nat) (news : List Value) (hx : a.eval x = .slice so m c) (hl : news.length = m * size)
    (hso : so = none → m = 0 ∧ c = 0) (hnews : ∀ ad, so = some ad → ∀ j u, news[j]? = some u → w.cell? (ad.add j) = some u) (h1 : ∀ u ∈ news, u.oneCell' = true) (h63 : n + m ≤ maxLen) (hbytes : (n + m) * bytes ≤ 140737488355328) (hbase : base ≤ w.heap.size)
    (h : ∀ ta tn tc w', w'.ownsRow base e size (.slice ta tn tc) (n + m) (xs ++ news) → w.grownBy w' v.ownBlock → wpList P ops Q rest (a.put o.dst (.slice ta tn tc)) w') : wpList P ops Q (o :: rest) a w := by
  refine wpList_plain hgd fun K hK => ?_
  cases so with
  | none =>
    obtain ⟨rfl, rfl⟩ := hso rfl
    have hrun := run_append_owned_none (P := P) w base t o.type e i size ht hi v n xs hown
    have hx0 : news = [] := List.length_eq_zero_iff.1 (by omega)
    obtain ⟨ta, tn, tc, rfl⟩ := owns_form hown
    unfold Oper.wp
    simp [execOp, ho, resolve, invoke, builtin, hs, hx, hrun, Result.andThen]
    exact hK _ _ (h _ _ _ w (by rw [hx0]; simpa using hown) (grown_refl _ _))
  | some ad =>
    obtain ⟨v', w', hrun, h2, h3, h4, h5⟩ := run_append_own_at (P := P) w base t o.type e i z size bytes ht hi hz hsize hby hzs hsz v n xs hown ad m c news hl (hnews ad rfl) h1 h63 hbytes hbase
    obtain ⟨ta, tn, tc, rfl⟩ := owns_form h2
    unfold Oper.wp
    simp [execOp, ho, resolve, invoke, builtin, hs, hx, hrun, Result.andThen]
    exact hK _ _ (h _ _ _ w' h2 h3)
end

end Go.Proofs.YtklenjmfalljgaaGreatDoor

/- The hands' again: behind the programs, the schedule. -/
namespace Go.Proofs.YtklenjmfalljgaaGreatDoor
open Go.RowKit
attribute [local go_sem] Go.World.cell?_alloc_some

def nilA (x : Value) : Prop := ∀ n c, x = .slice none n c → n = 0 ∧ c = 0
theorem owns_nilA {w : World} {base : Nat} {e : TypeId} {size : Nat} {v : Value} {n : Nat} {xs : List Value} (h : w.ownsRow base e size v n xs) : nilA v := by
  intro n' c' e
  rcases h.2 with ⟨e1, _⟩ | ⟨g, cap, cur, hv, _⟩
  · rw [e1] at e; simp at e; omega
  · rw [hv] at e; simp at e
theorem ints_ofA {B : Nat} {w : World} {ao : Option Addr} {cap : Nat} {l : List Int} (h : IntsAt B w (.slice ao l.length cap) l) : ∀ b, ao = some b → ∀ j u, (ints l)[j]? = some u → w.cell? (b.add j) = some u := by
  rintro b rfl j u hj
  obtain ⟨a, c, e, _, h2⟩ := h
  have hl := (List.getElem?_eq_some_iff.1 hj).1
  rw [ints_len] at hl
  obtain ⟨g', o', e1, e2, e3⟩ := h2 j hl
  simp only [Value.slice.injEq] at e
  rw [e1] at e
  simp only [Option.some.injEq] at e
  obtain ⟨rfl, _⟩ := e
  have hadd : (⟨g', o', none⟩ : Addr).add j = ⟨g', o' + j, none⟩ := by unfold Addr.add; split <;> simp_all
  rw [hadd, e3]
  have : (ints l)[j]? = some (.int .i64 l[j]) := by simp [ints, hl]
  rw [this] at hj; exact hj
/-- The first two change places. -/
def swp : List Int → List Int
  | x :: y :: r => y :: x :: r
  | l => l
theorem swp_len (l : List Int) : (swp l).length = l.length := by
  unfold swp; split <;> simp
theorem swp_short {l : List Int} (h : ¬ 1 < l.length) : swp l = l := by
  match l, h with
  | [], _ => rfl
  | [x], _ => rfl
  | x :: y :: r, h => simp at h
theorem swp_set {l : List Int} (h : 1 < l.length) : ((ints l).set 0 (.int .i64 l[1])).set 1 (.int .i64 (l[0]'(by omega))) = ints (swp l) := by
  match l, h with
  | x :: y :: r, _ => rfl
/-- In the midst: k numbers are the other list's. -/
def mixI (s t : List Int) (k : Nat) : List Int := t.take k ++ s.drop k
theorem mixI_len {s t : List Int} (h : t.length = s.length) (k : Nat) (hk : k ≤ s.length) : (mixI s t k).length = s.length := by simp [mixI]; omega
theorem mixI_zero (s t : List Int) : mixI s t 0 = s := by simp [mixI]
theorem mixI_end {s t : List Int} (h : t.length = s.length) (k : Nat) (hk : s.length ≤ k) : mixI s t k = t := by
  unfold mixI; rw [List.take_of_length_le (by omega), List.drop_of_length_le hk, List.append_nil]
theorem mixI_next {s t : List Int} (h : t.length = s.length) (k : Nat) (hk : k < s.length) : (lentRow (mixI s t k)).setIfInBounds k (.int .i64 (t[k]'(by omega))) = lentRow (mixI s t (k + 1)) := by
  have e1 : mixI s t (k + 1) = (mixI s t k).set k (t[k]'(by omega)) := by
    unfold mixI
    rw [List.take_succ_eq_append_getElem (by omega : k < t.length), List.set_append, if_neg (by simp; omega)]
    have : k - (t.take k).length = 0 := by simp; omega
    rw [this]
    have e2 : s.drop k = s[k] :: s.drop (k + 1) := List.drop_eq_getElem_cons hk
    rw [e2, List.set_cons_zero]
    simp only [List.append_assoc, List.cons_append, List.nil_append]
  rw [e1]
  unfold lentRow ints
  rw [List.map_set]
  simp only [List.setIfInBounds_toArray]
  congr 1
  rw [List.set_append, if_pos (by simp [mixI]; omega)]

/-- What asked answers of one question, whoever asks. -/
def AskC (wh : Int) : Prop := ∀ (p : List (List Ins)) (s : List Int) (xv lv pv sv : Value) (w : World), ShpAt w → ProgAt w xv p → IntsAt w.heap.size w lv s → nilA lv → ProgAt w pv p → IntsAt w.heap.size w sv s → nilA sv → p.length ≤ 1048576 → (∀ c ∈ p, c.length ≤ 1048576) →
  Calls Tryz.prog 36 #[.int .i64 wh, xv, lv, pv, sv] w fun e w' => e = .returned (.bool true) ∧ w.grownBy w' none

set_option maxHeartbeats 4000000 in
set_option maxRecDepth 100000 in
theorem againTail {W : World} {B : Nat} {w : World} {b : Nat} {who : Nat → Role} {n : Int} {f : Nat → Value} {K : Nat → List (Value × Int)} {gs g n9 n12 qc sc : Nat} {so qa : Option Addr} {s : List Int} {p : List (List Ins)} {LC : List (Nat × List Ins × Value)} {wh : Int}
    (h : Lx B w b who n f K (EL [(gs, s, .slice so s.length sc)] LC [(g, p.length)]) [(gs, s, .slice so s.length sc)] LC [(g, p.length)] 0) (hW : W.grownBy w none) (hWB : W.heap.size ≤ B) (hS : ShpAt W) (hI : IntsAt W.heap.size W (.slice so s.length sc) s) (hnil : nilA (.slice so s.length sc)) (hsl : s.length ≤ 1048576)
    (hp : LC.map (·.2.1) = p) (hpl : p.length ≤ 1048576) (hpc : ∀ c ∈ p, c.length ≤ 1048576) (HA : Hid (AskC wh))
    (HB : Hid (∀ w', w.heap.size ≤ w'.heap.size → (∀ g', g' < w.heap.size → g' ≠ gs → (∀ k, who g' ≠ .lrow k) → w'.heap[g']? = w.heap[g']?) → ProgAt w' (.agg #[.slice qa p.length qc]) p ∧ w'.cell? ⟨n12, 0, none⟩ = some (.slice qa p.length qc) ∧ w'.cell? ⟨n9, 0, none⟩ = some (.slice (some ⟨g, 0, none⟩) p.length (p.length + 2))))
    {Q : Exit → Act → World → Prop} {c2 c4 c5 c6 c7 c8 c13 c14 c15 c16 c17 c18 c19 c20 c21 c22 c23 c24 c25 c26 c27 c28 c29 c30 c31 c32 c33 c34 c35 c36 c37 c38 c39 c40 c41 c42 c43 c44 c45 c46 c47 c48 c49 c50 c51 c52 c53 c54 c55 c56 c57 c58 c59 c60 c61 c62 c63 c64 c65 c66 c67 c68 c69 c70 c71 c72 c73 c74 c75 c76 c77 c78 c79 c80 c81 c82 c83 c84 c85 c86 c87 c88 c89 c90 c91 c92 c93 c94 c95 c96 c97 c98 c99 c100 c101 c102 c103 c104 c105 c106 c107 c108 c109 c110 c111 c112 c113 c114 c115 c116 c117 c118 c119 c120 c121 c122 c123 c124 c125 c126 c127 c128 c129 c130 c131 c132 c133 c134 c135 c136 c137 c138 c139 : Value} (HQP : Hid (∀ c a d v w, Q (.panic c) (Act.put a (some d) v) w → Q (.panic c) a w))
    (HQ : Hid (∀ {z0 z1 z2 z3 z4 z5 z6 z7 z9 z10 z11 z12 z13 z14 z15 z16 z17 z18 z19 z20 z21 z22 z23 z24 z25 z26 z27 z28 z29 z30 z31 z32 z33 z34 z35 z36 z37 z38 z39 z40 z41 z42 z43 z44 z45 z46 z47 z48 z49 z50 z51 z52 z53 z54 z55 z56 z57 z58 z59 z60 z61 z62 z63 z64 z65 z66 z67 z68 z69 z70 z71 z72 z73 z74 z75 z76 z77 z78 z79 z80 z81 z82 z83 z84 z85 z86 z87 z88 z89 z90 z91 z92 z93 z94 z95 z96 z97 z98 z99 z100 z101 z102 z103 z104 z105 z106 z107 z108 z109 z110 z111 z112 z113 z114 z115 z116 z117 z118 z119 z120 z121 z122 z123 z124 z125 z126 z127 z128 z129 z130 z131 z132 z133 z134 z135 z136 z137 z138 z139 : Value} (f' : Nat → Value) (w' : World), Hz B w' b who n f' K → W.grownBy w' none → Q .ret ⟨#[z0, z1, z2, z3, z4, z5, z6, z7, .bool true, z9, z10, z11, z12, z13, z14, z15, z16, z17, z18, z19, z20, z21, z22, z23, z24, z25, z26, z27, z28, z29, z30, z31, z32, z33, z34, z35, z36, z37, z38, z39, z40, z41, z42, z43, z44, z45, z46, z47, z48, z49, z50, z51, z52, z53, z54, z55, z56, z57, z58, z59, z60, z61, z62, z63, z64, z65, z66, z67, z68, z69, z70, z71, z72, z73, z74, z75, z76, z77, z78, z79, z80, z81, z82, z83, z84, z85, z86, z87, z88, z89, z90, z91, z92, z93, z94, z95, z96, z97, z98, z99, z100, z101, z102, z103, z104, z105, z106, z107, z108, z109, z110, z111, z112, z113, z114, z115, z116, z117, z118, z119, z120, z121, z122, z123, z124, z125, z126, z127, z128, z129, z130, z131, z132, z133, z134, z135, z136, z137, z138, z139], []⟩ w')) :
    Code.wp Tryz.prog (tailOf Tryz.f9 18) Q ⟨#[.pointer (some ⟨b, 0, none⟩), .int .i64 wh, c2, .slice so s.length sc, c4, c5, c6, c7, c8, .pointer (some ⟨n9, 0, none⟩), .slice (some ⟨gs, 0, none⟩) s.length (s.length + 2), .bool true, .pointer (some ⟨n12, 0, none⟩), c13, c14, c15, c16, c17, c18, c19, c20, c21, c22, c23, c24, c25, c26, c27, c28, c29, c30, c31, c32, c33, c34, c35, c36, c37, c38, c39, c40, c41, c42, c43, c44, c45, c46, c47, c48, c49, c50, c51, c52, c53, c54, c55, c56, c57, c58, c59, c60, c61, c62, c63, c64, c65, c66, c67, c68, c69, c70, c71, c72, c73, c74, c75, c76, c77, c78, c79, c80, c81, c82, c83, c84, c85, c86, c87, c88, c89, c90, c91, c92, c93, c94, c95, c96, c97, c98, c99, c100, c101, c102, c103, c104, c105, c106, c107, c108, c109, c110, c111, c112, c113, c114, c115, c116, c117, c118, c119, c120, c121, c122, c123, c124, c125, c126, c127, c128, c129, c130, c131, c132, c133, c134, c135, c136, c137, c138, c139], []⟩ w := by
  conv => arg 2; whnf
  obtain ⟨i0, hi0, hz0, hz1, hz2⟩ := info_parts info_int
  have HX := hide h
  have HW := hide hW
  have HS := hide hS
  have HI := hide hI
  have HP := hide hp
  have HPC := hide hpc
  have hIw : IntsAt w.heap.size w (.slice so s.length sc) s := (hI.pres (pres_grown hW)).mono hW.size
  have HIW := hide hIw
  have HSO : Hid (so = none → s.length = 0 ∧ sc = 0) := fun e => hnil _ _ (by rw [e])
  have HNW : Hid (∀ ad, so = some ad → ∀ j u, (ints s)[j]? = some u → w.cell? (ad.add j) = some u) := ints_ofA hIw
  have hil : (ints s).length = s.length * 1 := by rw [ints_len]; omega
  have h63 : 0 + s.length ≤ maxLen := by unfold maxLen; omega
  have q0 : (s.length : Int) ≤ 1048576 := by omega
  clear h hW hS hI hp hpc hnil hIw
  go_upto_if 90 with (at_builtin; refine wpList_append_any rfl _ _ _ rfl w.heap.size 3 i0 _ 1 8 Tryz.underlying25 hi0 hz0 hz1 hz2 rfl (by omega) (.slice none 0 0) 0 [] rfl ⟨rfl, Or.inl ⟨rfl, rfl⟩⟩ so s.length sc (ints s) rfl hil HSO.out HNW.out (ints_one _) h63 (by omega) (Nat.le_refl _) ?_; intro ta tn tc w1 hown1 hg1)
  simp only [Nat.zero_add, List.nil_append] at hown1
  have htn := owns_lenq hown1
  subst htn
  have HG1 : Hid (w.grownBy w1 none) := hg1
  have HO1 := hide hown1
  clear hown1 hg1 hil h63 HSO HNW
  go_cut [16] from 85 to 100 (fun tv w' => Hid (∃ ta tc, tv = .slice ta s.length tc ∧ w'.ownsRow w.heap.size 3 1 tv s.length (ints (swp s)) ∧ w.grownBy w' none))
  case first =>
    by_cases hs1 : 1 < s.length
    · have t1 : (1 : Int) < s.length := by omega
      obtain ⟨tg, hta, htg, hfz⟩ : ∃ tg, ta = some ⟨tg, 0, none⟩ ∧ w.heap.size ≤ tg ∧ ∀ o, w1.frozen? ⟨tg, o, none⟩ = false := by
        rcases HO1.out.2 with ⟨_, e⟩ | ⟨g, cap, cur, hv, hb', hh, _⟩
        · omega
        · simp only [Value.slice.injEq] at hv
          exact ⟨g, hv.1, hb', fun o => by simp [World.frozen?, hh]⟩
      subst hta
      obtain ⟨sg, sf, hso, d0, d1⟩ : ∃ sg sf, so = some ⟨sg, sf, none⟩ ∧ w1.cell? ⟨sg, sf, none⟩ = some (.int .i64 (s[0]'(by omega))) ∧ w1.cell? ⟨sg, sf + 1, none⟩ = some (.int .i64 s[1]) := by
        obtain ⟨ao, cap, e, _, h⟩ := HIW.out
        simp only [Value.slice.injEq] at e
        obtain ⟨g1, o1, e1, _, k1⟩ := h 0 (by omega)
        obtain ⟨g2, o2, e2, _, k2⟩ := h 1 hs1
        rw [e1] at e2
        simp only [Option.some.injEq, Addr.mk.injEq, and_true] at e2
        obtain ⟨rfl, rfl⟩ := e2
        exact ⟨g1, o1, by rw [e.1]; exact e1, pres_grown HG1.out _ _ k1, pres_grown HG1.out _ _ k2⟩
      have hsl2 : sg < w.heap.size := by
        obtain ⟨ao, cap, e, _, h⟩ := HIW.out
        simp only [Value.slice.injEq] at e
        obtain ⟨g1, o1, e1, k0, _⟩ := h 0 (by omega)
        rw [← e.1, hso] at e1
        simp only [Option.some.injEq, Addr.mk.injEq, and_true] at e1
        omega
      subst hso
      have hne1 : tg ≠ sg := by omega
      have hne2 : sg ≠ tg := by omega
      have f0 := hfz 0
      have f1 := hfz 1
      have u0 : w1.cell? ⟨tg, 0, none⟩ = some (.int .i64 (s[0]'(by omega))) := by rw [HO1.out.cellAt _ (by omega)]; simp [ints]
      have u1 : w1.cell? ⟨tg, 1, none⟩ = some (.int .i64 s[1]) := by rw [HO1.out.cellAt _ (by omega)]; simp [ints]
      have HNX : Hid (((w1.setCell ⟨tg, 0, none⟩ (.int .i64 s[1])).setCell ⟨tg, 1, none⟩ (.int .i64 (s[0]'(by omega)))).ownsRow w.heap.size 3 1 (.slice (some ⟨tg, 0, none⟩) s.length tc) s.length (ints (swp s))) := by
        unfold Hid; rw [← swp_set hs1]; exact owns_setCell (owns_setCell HO1.out 0 _) 1 _
      have HNG : Hid (w.grownBy ((w1.setCell ⟨tg, 0, none⟩ (.int .i64 s[1])).setCell ⟨tg, 1, none⟩ (.int .i64 (s[0]'(by omega)))) none) := grown_setNew (grown_setNew HG1.out htg) htg
      generalize s[0]'(by omega) = y0 at *
      generalize s[1] = y1 at *
      clear hfz
      go_wp2_with fail
      go_meet
      exact ⟨_, _, rfl, HNX.out, HNG.out⟩
    · have t1 : (s.length : Int) ≤ 1 := by omega
      have HE : Hid (swp s = s) := swp_short hs1
      go_wp2_with fail
      go_meet
      exact ⟨_, _, rfl, by rw [HE.out]; exact HO1.out, HG1.out⟩
  case rest =>
  obtain ⟨ta2, tc2, rfl, ho2, hg2⟩ := hcut.out
  clear hcut HO1 HG1
  obtain ⟨w2, hw2⟩ : ∃ w2, w2 = wc := ⟨_, rfl⟩
  rw [← hw2] at ho2 hg2 ⊢
  clear hw2
  have HX2 := hide (HX.out.grown hg2)
  have HW2 : Hid (W.grownBy w2 none) := grown_trans HW.out hg2
  have HG2 := hide hg2
  have HO2 := hide ho2
  have HTL := hide (swp_len s)
  have hxr := HX2.out.lr.r 0 (by omega)
  have hxl : (EL [(gs, s, .slice so s.length sc)] LC [(g, p.length)] 0).length = 1 := rfl
  obtain ⟨r0, rc, hr0, d1⟩ := row_cell hxr (i := 0) (by rw [hxl]; omega)
  rw [hxl] at hr0
  have d1' : w2.cell? ⟨r0, 0, none⟩ = some (.slice (some ⟨gs, 0, none⟩) (s.length + 2) (s.length + 2)) := d1
  have d0 : w2.cell? ⟨b, 0, none⟩ = some (.slice (some ⟨r0, 0, none⟩) 1 rc) := by rw [← hr0]; exact HX2.out.cell (by omega)
  have hgsb : w2.heap[gs]? = some (.cells (lentRow s) 3 (0, 0)) := (HX2.out.le.li (gs, s, .slice so s.length sc) (by simp)).1
  have wgs : who gs = .lent := (HX2.out.le.li (gs, s, .slice so s.length sc) (by simp)).2.1
  have wr0 : who r0 = .lrow 0 := HX2.out.lr.wr 0 (by omega) r0 (by rw [hr0]; rfl)
  have wb : who b = .hands := HX2.out.hs.1.wb
  have nb : b ≠ gs := fun e => by rw [e, wgs] at wb; cases wb
  have nr : r0 ≠ gs := fun e => by rw [e, wgs] at wr0; cases wr0
  have HD0 := hide d0
  have HD1 := hide d1'
  have H0 : Hid (Chg w2 w2 (fun g' => g' = gs) ∧ w2.heap[gs]? = some (.cells (lentRow (mixI s (swp s) 0)) 3 (0, 0))) := ⟨Chg.refl _ _, by rw [mixI_zero]; exact hgsb⟩
  clear ho2 hg2 hxr hxl d1 d1' d0 hgsb hr0
  go_wp2_with fail
  go_loopw [17] (fun kv w' => ∃ k : Nat, k ≤ s.length ∧ kv = .int .i64 k ∧ Hid (Chg w2 w' (fun g' => g' = gs) ∧ w'.heap[gs]? = some (.cells (lentRow (mixI s (swp s) k)) 3 (0, 0)))) (fun kv _ => s.length - (intOf kv).toNat)
  case atStart => exact ⟨0, Nat.zero_le _, rfl, H0⟩
  case round =>
    clear H0
    obtain ⟨k, hk, rfl, HK⟩ := hrel
    obtain ⟨w3, hw3⟩ : ∃ w3, w3 = wr := ⟨_, rfl⟩
    rw [← hw3] at HK ⊢
    clear hw3
    by_cases hlt : k < s.length
    · have t0 : (0 : Int) ≤ (k : Int) := by omega
      have t1 : (k : Int) < s.length := by omega
      have t2 : (k : Int) < (s.length : Int) + 2 := by omega
      have hkt : k < (swp s).length := by have := HTL.out; omega
      obtain ⟨tg, hta, htg⟩ : ∃ tg, ta2 = some ⟨tg, 0, none⟩ ∧ w.heap.size ≤ tg := by
        rcases HO2.out.2 with ⟨_, e⟩ | ⟨g, cap, cur, hv, hb', hh, _⟩
        · omega
        · simp only [Value.slice.injEq] at hv
          exact ⟨g, hv.1, hb'⟩
      subst hta
      have ngt : tg ≠ gs := fun e => by
        have := (HX.out.hs.1.dom gs (by rw [wgs]; simp)).2
        omega
      have k0 := HK.out.1.cell HD0.out (by simpa using nb)
      have k1 := HK.out.1.cell HD1.out (by simpa using nr)
      have k2 : w3.cell? ⟨tg, k, none⟩ = some (.int .i64 (swp s)[k]) := by
        refine HK.out.1.cell ?_ (by simpa using ngt)
        rw [HO2.out.cellAt _ (by omega)]; simp [ints, hkt]
      have fz : w3.frozen? ⟨gs, k, none⟩ = false := by simp [World.frozen?, HK.out.2]
      have hcu : ∃ u, w3.cell? ⟨gs, k, none⟩ = some u := by
        have hl := lentRow_len (mixI s (swp s) k)
        rw [mixI_len HTL.out k hk] at hl
        exact ⟨_, by simp only [World.cell?, HK.out.2]; exact Array.getElem?_eq_getElem (by omega)⟩
      obtain ⟨u0, ku⟩ := hcu
      have HNX : Hid (Chg w2 (w3.setCell ⟨gs, k, none⟩ (.int .i64 (swp s)[k])) (fun g' => g' = gs) ∧ (w3.setCell ⟨gs, k, none⟩ (.int .i64 (swp s)[k])).heap[gs]? = some (.cells (lentRow (mixI s (swp s) (k + 1))) 3 (0, 0))) :=
        ⟨HK.out.1.set rfl, by rw [heap_setCell_same w3 gs k _ _ _ HK.out.2, mixI_next HTL.out k hlt]⟩
      generalize hx : (swp s)[k] = x at *
      clear hx HK
      go_upto_region 26 with fail
      refine wp_region_head (fun u => u.cell? ⟨b, 0, none⟩ = some (.slice (some ⟨r0, 0, none⟩) 1 rc) ∧ u.cell? ⟨r0, 0, none⟩ = some (.slice (some ⟨gs, 0, none⟩) (s.length + 2) (s.length + 2)) ∧ u.cell? ⟨tg, k, none⟩ = some (.int .i64 x)) 12 (by kernel_rfl) (by kernel_rfl) ⟨k0, k1, k2⟩ ?_
      intro hHeld
      refine wpHead_take (i := 0) (v := ?vva0) rfl (by kernel_rfl) (fun c _ _ h => HQP.out c _ _ _ _ h) (Or.inl ⟨by rfl, ?hya0⟩) hHeld ?resta0
      case hya0 => (rintro u ⟨hu0, hu1, hu2⟩; go_simp; try with_reducible rfl)
      simp only [Act.put, List.setIfInBounds_toArray]
      refine wpHead_take (i := 1) (v := ?vva1) rfl (by kernel_rfl) (fun c _ _ h => HQP.out c _ _ _ _ h) (Or.inl ⟨by rfl, ?hya1⟩) hHeld ?resta1
      case hya1 => (rintro u ⟨hu0, hu1, hu2⟩; go_simp; try with_reducible rfl)
      simp only [Act.put]
      refine wpHead_take (i := 2) (v := ?vva2) rfl (by kernel_rfl) (fun c _ _ h => HQP.out c _ _ _ _ h) (Or.inl ⟨by rfl, ?hya2⟩) hHeld ?resta2
      case hya2 => (rintro u ⟨hu0, hu1, hu2⟩; go_simp; try with_reducible rfl)
      simp only [Act.put]
      refine wpHead_take (i := 3) (v := ?vva3) rfl (by kernel_rfl) (fun c _ _ h => HQP.out c _ _ _ _ h) (Or.inl ⟨by rfl, ?hya3⟩) hHeld ?resta3
      case hya3 => (rintro u ⟨hu0, hu1, hu2⟩; go_simp; try with_reducible rfl)
      simp only [Act.put]
      refine wpHead_take (i := 4) (v := ?vva4) rfl (by kernel_rfl) (fun c _ _ h => HQP.out c _ _ _ _ h) (Or.inl ⟨by rfl, ?hya4⟩) hHeld ?resta4
      case hya4 => (rintro u ⟨hu0, hu1, hu2⟩; go_simp; try with_reducible rfl)
      simp only [Act.put]
      refine wpHead_take (i := 5) (v := ?vva5) rfl (by kernel_rfl) (fun c _ _ h => HQP.out c _ _ _ _ h) (Or.inl ⟨by rfl, ?hya5⟩) hHeld ?resta5
      case hya5 => (rintro u ⟨hu0, hu1, hu2⟩; go_simp; try with_reducible rfl)
      simp only [Act.put]
      refine wpHead_take (i := 6) (v := ?vva6) rfl (by kernel_rfl) (fun c _ _ h => HQP.out c _ _ _ _ h) (Or.inl ⟨by rfl, ?hya6⟩) hHeld ?resta6
      case hya6 => (rintro u ⟨hu0, hu1, hu2⟩; go_simp; try with_reducible rfl)
      simp only [Act.put]
      refine wpHead_take (i := 7) (v := ?vva7) rfl (by kernel_rfl) (fun c _ _ h => HQP.out c _ _ _ _ h) (Or.inl ⟨by rfl, ?hya7⟩) hHeld ?resta7
      case hya7 => (rintro u ⟨hu0, hu1, hu2⟩; go_simp; try with_reducible rfl)
      simp only [Act.put]
      refine wpHead_take (i := 8) (v := ?vva8) rfl (by kernel_rfl) (fun c _ _ h => HQP.out c _ _ _ _ h) (Or.inl ⟨by rfl, ?hya8⟩) hHeld ?resta8
      case hya8 => (rintro u ⟨hu0, hu1, hu2⟩; go_simp; try with_reducible rfl)
      simp only [Act.put]
      refine wpHead_take (i := 9) (v := ?vva9) rfl (by kernel_rfl) (fun c _ _ h => HQP.out c _ _ _ _ h) (Or.inl ⟨by rfl, ?hya9⟩) hHeld ?resta9
      case hya9 => (rintro u ⟨hu0, hu1, hu2⟩; go_simp; try with_reducible rfl)
      simp only [Act.put]
      refine wpHead_take (i := 10) (v := ?vva10) rfl (by kernel_rfl) (fun c _ _ h => HQP.out c _ _ _ _ h) (Or.inl ⟨by rfl, ?hya10⟩) hHeld ?resta10
      case hya10 => (rintro u ⟨hu0, hu1, hu2⟩; go_simp; try with_reducible rfl)
      simp only [Act.put]
      refine wpHead_take (i := 11) (v := ?vva11) rfl (by kernel_rfl) (fun c _ _ h => HQP.out c _ _ _ _ h) (Or.inl ⟨by rfl, ?hya11⟩) hHeld ?resta11
      case hya11 => (rintro u ⟨hu0, hu1, hu2⟩; go_simp; try with_reducible rfl)
      simp only [Act.put]
      refine wpHead_last rfl (by kernel_rfl) (by kernel_rfl) (by rfl) ?_
      go_simp
      clear hHeld
      go_wp2_with fail
      go_roundw
      case rel => exact ⟨k + 1, by omega, by go_num, ⟨⟨HNX.out.1.os, HNX.out.1.tape, HNX.out.1.output, HNX.out.1.size, HNX.out.1.blk⟩, HNX.out.2⟩⟩
      case measure => simp [intOf]; omega
    · have t1 : (s.length : Int) ≤ (k : Int) := by omega
      have hb3 := HK.out.2
      rw [mixI_end HTL.out k (by omega)] at hb3
      have hxr := HX2.out.lr.r 1 (by omega)
      have hxl : (EL [(gs, s, .slice so s.length sc)] LC [(g, p.length)] 1).length = 1 := rfl
      obtain ⟨g1, rc1, hf1, d1⟩ := row_cell hxr (i := 0) (by rw [hxl]; omega)
      rw [hxl] at hf1
      have wg1 : who g1 = .lrow 1 := HX2.out.lr.wr 1 (by omega) g1 (by rw [hf1]; rfl)
      have ng1 : g1 ≠ gs := fun e => by rw [e, wgs] at wg1; cases wg1
      have e0 : w3.cell? ⟨b, 1, none⟩ = some (.slice (some ⟨g1, 0, none⟩) 1 rc1) := HK.out.1.cell (by rw [← hf1]; exact HX2.out.cell (by omega)) (by simpa using nb)
      obtain ⟨u1, e1⟩ : ∃ u, w3.cell? ⟨g1, 0, none⟩ = some u := ⟨_, HK.out.1.cell d1 (by simpa using ng1)⟩
      have fz : w3.frozen? ⟨g1, 0, none⟩ = false := by
        have hlt := (HX2.out.hs.1.dom g1 (by rw [wg1]; simp)).2
        have := free_at (i := 0) (by rw [hf1] at hxr; rw [hxl] at hxr; exact hxr)
        simp only [World.frozen?, HK.out.1.blk g1 hlt (by simpa using ng1)] at this ⊢
        exact this
      have hto : ∀ q, (Value.slice ta2 s.length tc2).ownBlock = some q → w.heap.size ≤ q := fun q e => owns_block HO2.out q e
      have hoo : w3.ownsRow w.heap.size 3 1 (.slice ta2 s.length tc2) s.length (ints (swp s)) := owns_same HO2.out (fun q e => by
        refine HK.out.1.blk q (owns_ltH HO2.out q e) (fun e2 => ?_)
        have h1 := hto q e
        have h2 := (HX.out.hs.1.dom gs (by rw [wgs]; simp)).2
        omega)
      rw [← HTL.out] at hoo
      have hvo : valOther who (.slice ta2 (swp s).length tc2) := fun q o l c e hl => by
        simp only [Value.slice.injEq] at e
        obtain ⟨e1, e2, _⟩ := e
        have h1 : w.heap.size ≤ q := by
          rcases hoo.2 with ⟨e3, _⟩ | ⟨g', cap', cur, hv, hb', _⟩
          · simp only [Value.slice.injEq] at e3
            rw [e3.1] at e1; cases e1
          · simp only [Value.slice.injEq] at hv
            rw [hv.1] at e1
            simp only [Option.some.injEq, Addr.mk.injEq, and_true] at e1
            omega
        by_cases ho : who q = .other
        · exact ho
        · exact absurd (HX.out.hs.1.dom q ho).2 (by omega)
      obtain ⟨hx4, hf4⟩ := HX2.out.reints HK.out.1 hf1 hb3 HTL.out (owns_ints hoo) hvo
      obtain ⟨w4, hw4⟩ : ∃ w4, w4 = w3.setCell ⟨g1, 0, none⟩ (.slice ta2 s.length tc2) := ⟨_, rfl⟩
      have hw4' : w3.setCell ⟨g1, 0, none⟩ (.slice ta2 (swp s).length tc2) = w4 := by rw [hw4, HTL.out]
      rw [hw4'] at hx4 hf4
      have HW4 : Hid (W.grownBy w4 none) := hf4.base HW2.out hWB (fun g e => (HX2.out.hs.1.dom g e).1) (fun _ e => e.elim)
      obtain ⟨hq4, c12, c9⟩ := HB.out w4 (Nat.le_trans HG2.out.size hf4.size) (fun g' h1 h2 h3 => by
        rw [hw4, Below.heap_setCell _ _ _ _ (by simp only; exact fun e => h3 1 (by rw [e]; exact wg1)), HK.out.1.blk g' (Nat.lt_of_lt_of_le h1 HG2.out.size) h2]
        exact HG2.out.block g' h1 (by simp))
      have hgb : w4.heap[g]? = some (.cells (lentRows LC) 75 (0, 0)) := by
        have := (hx4.le.lr 0 (by simp)).1
        simp only [List.getElem_cons_zero, List.take_zero, List.map_nil, List.sum_nil, List.drop_zero] at this
        rw [List.take_of_length_le (by rw [← HP.out]; simp)] at this
        exact this
      have hPx : ProgAt w4 (.agg #[.slice (some ⟨g, 0, none⟩) p.length (p.length + 2)]) p := lent_prog (LC0 := []) (by simpa using hx4.le) hgb HP.out _
      have hli := hx4.le.li (gs, swp s, .slice ta2 (swp s).length tc2) (by simp)
      have hIx := lent_ints hli.1
      have hIt := hli.2.2.1
      have HAS := hide (HA.out p (swp s) _ _ _ _ w4 (HS.out.pres (pres_grown HW4.out)) hPx hIx (fun _ _ e => by simp at e) hq4 hIt (owns_nilA hoo) hpl HPC.out)
      simp only [HTL.out] at HAS
      have HX4 := hide hx4
      have hpt : pt b = .pointer (some ⟨b, 0, none⟩) := rfl
      clear hx4 hf4 hq4 hgb hPx hli hIx hIt hoo hvo hto d1 hxr hxl hb3 HK
      go_upto_region 28 with fail
      rw [← hw4]
      clear hw4 hw4' e0 e1 fz
      go_wp2_with fail
      refine HAS.out.mono ?_
      clear HAS
      rintro e w5 ⟨rfl, hg5⟩
      have HW5 : Hid (W.grownBy w5 none) := grown_trans HW4.out hg5
      have HX5 := hide (HX4.out.grown hg5)
      have HBK := hide (back_g B w5 b who n f K _ _ _ HX5.out (by simp) (by have := congrArg List.length HP.out; simp at this; omega) (by simp))
      clear hg5 c12 c9
      rw [hpt] at HBK
      go_wp2_with fail
      refine HBK.out.mono ?_
      clear HBK
      rintro e w6 ⟨rfl, f6, hz6, hf6⟩
      have HZ6 := hide hz6
      have HW6 : Hid (W.grownBy w6 none) := hf6.base HW5.out hWB (fun g e => (HX5.out.hs.1.dom g e).1) (fun _ e => e.elim)
      clear hz6 hf6
      go_wp2_with fail
      exact HQ.out f6 _ HZ6.out HW6.out

end Go.Proofs.YtklenjmfalljgaaGreatDoor

/- Programs that are lent, written over, one by one. -/
namespace Go.Proofs.YtklenjmfalljgaaGreatDoor
open Go.RowKit

def modC : List Ins → List Ins
  | [] => []
  | _ :: r => ⟨11, 1, 0, 0⟩ :: r
theorem modC_len (c : List Ins) : (modC c).length = c.length := by cases c <;> rfl
theorem modC_nil {c : List Ins} (h : ¬ 0 < c.length) : modC c = c := by
  match c, h with
  | [], _ => rfl
  | x :: r, h => simp at h
theorem modC_set {c : List Ins} (h : 0 < c.length) : ((((codeL c).set 0 (.int .i64 11)).set 1 (.int .i64 1)).set 2 (.int .i64 0)).set 3 (.int .i64 0) = codeL (modC c) := by
  match c, h with
  | x :: r, _ => rfl
def mixC (c d : List Ins) (k : Nat) : List Ins := d.take k ++ c.drop k
theorem mixC_len {c d : List Ins} (h : d.length = c.length) (k : Nat) (hk : k ≤ c.length) : (mixC c d k).length = c.length := by simp [mixC]; omega
theorem mixC_zero (c d : List Ins) : mixC c d 0 = c := by simp [mixC]
theorem mixC_end {c d : List Ins} (h : d.length = c.length) (k : Nat) (hk : c.length ≤ k) : mixC c d k = d := by
  unfold mixC; rw [List.take_of_length_le (by omega), List.drop_of_length_le hk, List.append_nil]
theorem codeL_append (a b : List Ins) : codeL (a ++ b) = codeL a ++ codeL b := by simp [codeL]
theorem set4_at (A : List Value) (i j : Ins) (R : List Value) (k : Nat) (hk : A.length = k) : (((((A ++ (insL i ++ R)).set k (.int .i64 j.op)).set (k + 1) (.int .i64 j.a)).set (k + 2) (.int .i64 j.b)).set (k + 3) (.int .i64 j.n)) = A ++ (insL j ++ R) := by
  subst hk
  simp [insL]
theorem mixC_next {c d : List Ins} (h : d.length = c.length) (k : Nat) (hk : k < c.length) :
    ((((lentCode (mixC c d k)).setIfInBounds (k * 4) (.int .i64 (d[k]'(by omega)).op)).setIfInBounds (k * 4 + 1) (.int .i64 (d[k]'(by omega)).a)).setIfInBounds (k * 4 + 2) (.int .i64 (d[k]'(by omega)).b)).setIfInBounds (k * 4 + 3) (.int .i64 (d[k]'(by omega)).n) = lentCode (mixC c d (k + 1)) := by
  have e1 : lentCode (mixC c d k) = (codeL (d.take k) ++ (insL c[k] ++ (codeL (c.drop (k + 1)) ++ (insInk ++ insInk)))).toArray := by
    unfold lentCode mixC
    rw [List.drop_eq_getElem_cons hk]
    simp only [codeL, List.flatMap_append, List.flatMap_cons, List.append_assoc]
  have e2 : lentCode (mixC c d (k + 1)) = (codeL (d.take k) ++ (insL (d[k]'(by omega)) ++ (codeL (c.drop (k + 1)) ++ (insInk ++ insInk)))).toArray := by
    unfold lentCode mixC
    rw [List.take_succ_eq_append_getElem (by omega : k < d.length)]
    simp only [codeL, List.flatMap_append, List.flatMap_cons, List.flatMap_nil, List.append_nil, List.append_assoc]
  rw [e1, e2]
  simp only [List.setIfInBounds_toArray]
  rw [set4_at _ _ _ _ _ (by rw [codeL_len]; simp; omega)]

section
variable {B : Nat} {w w' : World} {b : Nat} {who : Nat → Role} {n : Int} {f : Nat → Value} {K : Nat → List (Value × Int)} {E : Nat → List Value} {LI : List (Nat × List Int × Value)} {LC : List (Nat × List Ins × Value)} {LR : List (Nat × Nat)} {tail : Nat}

/-- A row that is lent, but in no list, grows, into a new block maybe. -/
theorem Lx.outNew (h : Lx B w b who n f K E LI LC LR tail) {r : Option Nat} (hg : w.grownBy w' r) (hr : ∀ g, r = some g → who g = .lent ∧ g ∉ LI.map (·.1) ++ (LC.map (·.1) ++ LR.map (·.1))) {g8 : Nat} (h8 : r = some g8 ∨ (w.heap.size ≤ g8 ∧ g8 < w'.heap.size)) :
    Lx B w' b (setW who g8 .lent) n f K E LI LC LR tail ∧ Fr w w' who (setW who g8 .lent) (fun _ => False) := by
  have hne : ∀ g', g' < w.heap.size → r ≠ some g' → w'.heap[g']? = w.heap[g']? := fun g' h1 e => hg.block g' h1 (fun e2 => e e2.symm)
  have hrl : ∀ g', r = some g' → who g' = .lent := fun g' e => (hr g' e).1
  have hw8 : ∀ g', who g' ≠ .other → setW who g8 .lent g' = who g' := fun g' e => by
    by_cases e8 : g' = g8
    · subst e8
      rcases h8 with h8 | h8
      · rw [setW_at, hrl _ h8]
      · exact absurd (h.hs.1.dom g' e).2 (by omega)
    · exact setW_ne _ _ e8
  have hs1 : Hs B w' b who n f K (marksOf K) := h.hs.1.same hg.size (fun g' h1 _ h3 => hne g' h1 (fun e => by rw [hrl g' e] at h3; cases h3))
  have hlow := h.low
  have hs2 : Hs B w' b (setW who g8 .lent) n f K (marksOf K) := hs1.more hw8 (fun g' e => by
    by_cases e8 : g' = g8
    · subst e8
      rcases h8 with h8 | h8
      · exact hs1.dom g' (by rw [hrl _ h8]; simp)
      · exact ⟨by omega, h8.2⟩
    · rw [setW_ne _ _ e8] at e; exact hs1.dom g' e)
  have hlr : Lr B w' who f E := h.lr.same (fun g' k e => hne g' (h.hs.1.dom g' (by rw [e]; simp)).2 (fun e2 => by rw [hrl g' e2] at e; cases e))
  have hfr : Fr w w' who (setW who g8 .lent) (fun _ => False) := ⟨hg.os, hg.tape, hg.output, hg.size, fun g' h1 h2 _ => ⟨hne g' h1 (fun e => by rw [hrl g' e] at h2; cases h2), by
    by_cases e8 : g' = g8
    · subst e8
      rcases h8 with h8 | h8
      · rw [hrl _ h8] at h2; cases h2
      · omega
    · rw [setW_ne _ _ e8]; exact h2⟩⟩
  refine ⟨⟨⟨hs2, fun c hc x hx g e => ?_⟩, hlr.more hw8, h.le.keepIn hfr (fun g' e => ⟨hne g' (h.le.lt g' e).1 (fun e2 => (hr g' e2).2 e), ?_⟩)⟩, hfr⟩
  · have := h.hs.2 c hc x hx g e
    rw [hw8 g (by rw [this]; simp)]; exact this
  · rw [hw8 g' (by rw [(h.le.lt g' e).2]; simp)]; exact (h.le.lt g' e).2
end

/-- In the midst: i programs are written over. -/
structure AgI (B : Nat) (w5 : World) (who5 : Nat → Role) (w' : World) (b : Nat) (who' : Nat → Role) (n : Int) (f : Nat → Value) (K : Nat → List (Value × Int)) (LI : List (Nat × List Int × Value)) (LC : List (Nat × List Ins × Value)) (LR : List (Nat × Nat)) (n12 : Nat) (qv : Value) (p : List (List Ins)) (i : Nat) : Prop where
  lx : Lx B w' b who' n f K (EL LI LC LR) LI LC LR 0
  fr : Fr w5 w' who5 who' (fun _ => False)
  cod : LC.map (·.2.1) = (p.take i).map modC ++ p.drop i
  box : w'.heap[n12]? = some (.cells #[qv] 24 (0, 0))
  wbx : who' n12 = .lent
  nbx : n12 ∉ LI.map (·.1) ++ (LC.map (·.1) ++ LR.map (·.1))
  row : w'.ownsRow w5.heap.size 75 1 qv i ((LC.take i).map (·.2.2))
  wrw : ∀ g, qv.ownBlock = some g → who' g = .lent ∧ g ∉ LI.map (·.1) ++ (LC.map (·.1) ++ LR.map (·.1)) ∧ g ≠ n12
theorem AgI.len {B : Nat} {w5 : World} {who5 : Nat → Role} {w' : World} {b : Nat} {who' : Nat → Role} {n : Int} {f : Nat → Value} {K : Nat → List (Value × Int)} {LI : List (Nat × List Int × Value)} {LC : List (Nat × List Ins × Value)} {LR : List (Nat × Nat)} {n12 : Nat} {qv : Value} {p : List (List Ins)} {i : Nat}
    (h : AgI B w5 who5 w' b who' n f K LI LC LR n12 qv p i) (hi : i ≤ p.length) : LC.length = p.length := by
  have := congrArg List.length h.cod
  simp at this
  omega
theorem AgI.at_ {B : Nat} {w5 : World} {who5 : Nat → Role} {w' : World} {b : Nat} {who' : Nat → Role} {n : Int} {f : Nat → Value} {K : Nat → List (Value × Int)} {LI : List (Nat × List Int × Value)} {LC : List (Nat × List Ins × Value)} {LR : List (Nat × Nat)} {n12 : Nat} {qv : Value} {p : List (List Ins)} {i : Nat}
    (h : AgI B w5 who5 w' b who' n f K LI LC LR n12 qv p i) (hi : i < p.length) (hl : i < LC.length) : LC[i].2.1 = p[i] := by
  have h1 : (LC.map (·.2.1))[i]? = some p[i] := by
    rw [h.cod, List.getElem?_append_right (by simp; omega)]
    have : i - ((p.take i).map modC).length = 0 := by simp; omega
    rw [this, List.drop_eq_getElem_cons hi]
    rfl
  simpa [hl] using h1
theorem cod_next {LC : List (Nat × List Ins × Value)} {p : List (List Ins)} {i : Nat} {g : Nat} {v : Value} (h : LC.map (·.2.1) = (p.take i).map modC ++ p.drop i) (hi : i < p.length) : (LC.set i (g, modC p[i], v)).map (·.2.1) = (p.take (i + 1)).map modC ++ p.drop (i + 1) := by
  rw [List.map_set, h, List.take_succ_eq_append_getElem hi, List.drop_eq_getElem_cons hi, List.set_append, if_neg (by simp; omega)]
  have : i - ((p.take i).map modC).length = 0 := by simp; omega
  rw [this]
  simp only [List.set_cons_zero, List.map_append, List.map_cons, List.map_nil, List.append_assoc, List.cons_append, List.nil_append]
theorem row_nextA {LC : List (Nat × List Ins × Value)} {i : Nat} {y : Nat × List Ins × Value} (hi : i < LC.length) : ((LC.set i y).take (i + 1)).map (·.2.2) = (LC.take i).map (·.2.2) ++ [y.2.2] := by
  rw [List.take_succ_eq_append_getElem (by simpa using hi), List.getElem_set_self, List.take_set_of_le (Nat.le_refl _)]
  simp

end Go.Proofs.YtklenjmfalljgaaGreatDoor

/- The hands' again: the end of a round. -/
namespace Go.Proofs.YtklenjmfalljgaaGreatDoor
open Go.RowKit
attribute [local go_sem] Go.World.cell?_alloc_some

theorem AgI.grown {B : Nat} {w5 : World} {who5 : Nat → Role} {w w' : World} {b : Nat} {who' : Nat → Role} {n : Int} {f : Nat → Value} {K : Nat → List (Value × Int)} {LI : List (Nat × List Int × Value)} {LC : List (Nat × List Ins × Value)} {LR : List (Nat × Nat)} {n12 : Nat} {qv : Value} {p : List (List Ins)} {i : Nat}
    (h : AgI B w5 who5 w b who' n f K LI LC LR n12 qv p i) (hg : w.grownBy w' none) : AgI B w5 who5 w' b who' n f K LI LC LR n12 qv p i :=
  ⟨h.lx.grown hg, h.fr.trans (Fr.grown hg), h.cod, by rw [hg.block _ (Array.getElem?_eq_some_iff.1 h.box).1 (by simp)]; exact h.box, h.wbx, h.nbx, owns_grown h.row hg (fun _ e => by cases e), h.wrw⟩

theorem code_own {w : World} {base tc : Nat} {ta : Option Addr} {d : List Ins} {m : Nat} (h : w.ownsRow base 74 4 (.slice ta m tc) m (codeL d)) (hm : d.length = m) : CodeAt w (.slice ta m tc) d := by
  subst hm
  refine ⟨ta, tc, rfl, fun k hk => ?_⟩
  obtain ⟨tg, hta⟩ : ∃ tg, ta = some ⟨tg, 0, none⟩ := by
    rcases h.2 with ⟨_, e⟩ | ⟨g, cap, cur, hv, hb', hh, _⟩
    · omega
    · simp only [Value.slice.injEq] at hv
      exact ⟨g, hv.1⟩
  subst hta
  obtain ⟨l0, l1, l2, l3⟩ := codeL_get d k hk
  have ct : ∀ j v, (codeL d)[j]? = some v → w.cell? ⟨tg, j, none⟩ = some v := fun j v hj => by
    rw [h.cellAt _ (by have := (List.getElem?_eq_some_iff.1 hj).1; rw [codeL_len] at this; exact this)]
    exact hj
  refine ⟨tg, 0, rfl, ?_, ?_, ?_, ?_⟩
  · rw [Nat.zero_add]; exact ct _ _ l0
  · rw [Nat.zero_add]; exact ct _ _ l1
  · rw [Nat.zero_add]; exact ct _ _ l2
  · rw [Nat.zero_add]; exact ct _ _ l3

set_option maxHeartbeats 4000000 in
set_option maxRecDepth 100000 in
theorem agRound {B : Nat} {w5 : World} {who5 : Nat → Role} {w : World} {b : Nat} {who' : Nat → Role} {n : Int} {f : Nat → Value} {K0 : Nat → List (Value × Int)} {LI : List (Nat × List Int × Value)} {LC : List (Nat × List Ins × Value)} {LR : List (Nat × Nat)} {n12 : Nat} {qv : Value} {p : List (List Ins)} {i base tc : Nat} {ta : Option Addr} {c : List Ins}
    (hA : AgI B w5 who5 w b who' n f K0 LI LC LR n12 qv p i) (hi : i < p.length) (HCE : Hid (p[i] = c)) (hpl : p.length ≤ 1048576) (hcl : c.length ≤ 1048576) (hn12 : n12 < w5.heap.size) (hO : w.ownsRow base 74 4 (.slice ta c.length tc) c.length (codeL (modC c))) (hoth : ∀ q, (Value.slice ta c.length tc).ownBlock = some q → who' q = .other)
    {K : Act → World → Prop} {Q' : Exit → Act → World → Prop} {c1 c2 c3 c4 c5 c6 c7 c8 c9 c10 c11 c15 c16 c17 c18 c19 c20 c21 c22 c23 c24 c25 c26 c27 c28 c29 c30 c31 c32 c33 c34 c35 c36 c37 c38 c39 c40 c41 c42 c43 c44 c45 c46 c47 c48 c49 c50 c51 c52 c53 c54 c55 c56 c57 c58 c59 c60 c61 c62 c63 c64 c65 c66 c67 c68 c69 c70 c71 c72 c73 c74 c75 c76 c77 c78 c79 c80 c81 c82 c83 c84 c85 c86 c87 c88 c89 c90 c91 c92 c93 c94 c95 c96 c97 c98 c99 c100 c101 c102 c103 c104 c105 c106 c107 c108 c109 c110 c111 c112 c113 c114 c115 c116 c117 c118 c119 c120 c121 c122 c123 c124 c125 c126 c127 c128 c129 c130 c131 c132 c133 c134 c135 c136 c137 c138 c139 : Value} (HQP : Hid (∀ c a d v w, Q' (.panic c) (Act.put a (some d) v) w → Q' (.panic c) a w))
    (HK : Hid (∀ {z15 z53 z54 z55 z56 z57 z58 z59 z60 z61 z62 z63 z64 z65 z66 z67 z68 z69 z70 z71 z72 z73 z74 z75 z76 z77 z78 z79 z80 z81 z82 z83 z84 : Value} (who'' : Nat → Role) (LC' : List (Nat × List Ins × Value)) (qv' : Value) (w' : World), AgI B w5 who5 w' b who'' n f K0 LI LC' LR n12 qv' p (i + 1) → K ⟨#[.pointer (some ⟨b, 0, none⟩), c1, c2, c3, c4, c5, c6, c7, c8, c9, c10, c11, .pointer (some ⟨n12, 0, none⟩), .int .i64 (i : Int), .slice ta c.length tc, z15, c16, c17, c18, c19, c20, c21, c22, c23, c24, c25, c26, c27, c28, c29, c30, c31, c32, c33, c34, c35, c36, c37, c38, c39, c40, c41, c42, c43, c44, c45, c46, c47, c48, c49, c50, c51, c52, z53, z54, z55, z56, z57, z58, z59, z60, z61, z62, z63, z64, z65, z66, z67, z68, z69, z70, z71, z72, z73, z74, z75, z76, z77, z78, z79, z80, z81, z82, z83, z84, c85, c86, c87, c88, c89, c90, c91, c92, c93, c94, c95, c96, c97, c98, c99, c100, c101, c102, c103, c104, c105, c106, c107, c108, c109, c110, c111, c112, c113, c114, c115, c116, c117, c118, c119, c120, c121, c122, c123, c124, c125, c126, c127, c128, c129, c130, c131, c132, c133, c134, c135, c136, c137, c138, c139], []⟩ w')) :
    Code.wp Tryz.prog (tailOf Tryz.f9 12) (Exit.inBlock 1 (Exit.then K Q')) ⟨#[.pointer (some ⟨b, 0, none⟩), c1, c2, c3, c4, c5, c6, c7, c8, c9, c10, c11, .pointer (some ⟨n12, 0, none⟩), .int .i64 (i : Int), .slice ta c.length tc, c15, c16, c17, c18, c19, c20, c21, c22, c23, c24, c25, c26, c27, c28, c29, c30, c31, c32, c33, c34, c35, c36, c37, c38, c39, c40, c41, c42, c43, c44, c45, c46, c47, c48, c49, c50, c51, c52, c53, c54, c55, c56, c57, c58, c59, c60, c61, c62, c63, c64, c65, c66, c67, c68, c69, c70, c71, c72, c73, c74, c75, c76, c77, c78, c79, c80, c81, c82, c83, c84, c85, c86, c87, c88, c89, c90, c91, c92, c93, c94, c95, c96, c97, c98, c99, c100, c101, c102, c103, c104, c105, c106, c107, c108, c109, c110, c111, c112, c113, c114, c115, c116, c117, c118, c119, c120, c121, c122, c123, c124, c125, c126, c127, c128, c129, c130, c131, c132, c133, c134, c135, c136, c137, c138, c139], []⟩ w := by
  conv => arg 2; whnf
  obtain ⟨i1, hi1, hy0, hy1, hy2⟩ := info_parts info_codeH
  have HA := hide hA
  have hLL := hA.len (Nat.le_of_lt hi)
  have hiL : i < LC.length := by omega
  have hce : LC[i].2.1 = c := by rw [hA.at_ hi hiL]; exact HCE.out
  have wgx : who' LC[i].1 = .lent := (hA.lx.le.lc _ (List.getElem_mem hiL)).2.1
  have hgxb : w.heap[LC[i].1]? = some (.cells (lentCode c) 74 (0, 0)) := by rw [← hce]; exact (hA.lx.le.lc _ (List.getElem_mem hiL)).1
  obtain ⟨r2, rc, hr2, d1⟩ := row_cell (hA.lx.lr.r 2 (by omega)) (i := i) (by simpa [EL] using hiL)
  obtain ⟨g3, c3', hf3, d3⟩ := row_cell (hA.lx.lr.r 3 (by omega)) (i := i) (by simpa [EL] using hiL)
  have el2 : (EL LI LC LR 2).length = p.length := by simp [EL, hLL]
  have el3 : (EL LI LC LR 3).length = p.length := by simp [EL, hLL]
  have d1' : w.cell? ⟨r2, i, none⟩ = some (.slice (some ⟨LC[i].1, 0, none⟩) (c.length + 2) (c.length + 2)) := by rw [d1]; simp [EL, sl2, hce]
  obtain ⟨u3, d3'⟩ : ∃ u, w.cell? ⟨g3, i, none⟩ = some u := ⟨_, d3⟩
  rw [el2] at hr2
  rw [el3] at hf3
  have hr3 := hA.lx.lr.r 3 (by omega)
  rw [hf3, el3] at hr3
  have d0 : w.cell? ⟨b, 2, none⟩ = some (.slice (some ⟨r2, 0, none⟩) p.length rc) := by rw [← hr2]; exact hA.lx.cell (by omega)
  have d4 : w.cell? ⟨b, 3, none⟩ = some (.slice (some ⟨g3, 0, none⟩) p.length c3') := by rw [← hf3]; exact hA.lx.cell (by omega)
  have f3 : w.frozen? ⟨g3, i, none⟩ = false := free_at hr3
  have wr2 : who' r2 = .lrow 2 := hA.lx.lr.wr 2 (by omega) r2 (by rw [hr2]; rfl)
  have wg3 : who' g3 = .lrow 3 := hA.lx.lr.wr 3 (by omega) g3 (by rw [hf3]; rfl)
  have wb : who' b = .hands := hA.lx.hs.1.wb
  have hg3l : g3 < w.heap.size := (hA.lx.hs.1.dom g3 (by rw [wg3]; simp)).2
  obtain ⟨gx, hgx⟩ : ∃ gx, gx = LC[i].1 := ⟨_, rfl⟩
  rw [← hgx] at wgx hgxb d1'
  have nb : b ≠ gx := fun e => by rw [e, wgx] at wb; cases wb
  have nr2 : r2 ≠ gx := fun e => by rw [e, wgx] at wr2; cases wr2
  have ng3 : g3 ≠ gx := fun e => by rw [e, wgx] at wg3; cases wg3
  have HGX := hide hgx
  have HD0 := hide d0
  have HD1 := hide d1'
  have HD3 := hide d3'
  have HD4 := hide d4
  have HF3 := hide f3
  have HFV := hide hf3
  have HO := hide hO
  have HOT := hide hoth
  have HTL := hide (modC_len c)
  have H0 : Hid (Chg w w (fun g' => g' = gx) ∧ w.heap[gx]? = some (.cells (lentCode (mixC c (modC c) 0)) 74 (0, 0))) := ⟨Chg.refl _ _, by rw [mixC_zero]; exact hgxb⟩
  have q0 : (c.length : Int) ≤ 1048576 := by omega
  have q1 : (p.length : Int) ≤ 1048576 := by omega
  have q2 : (0 : Int) ≤ (i : Int) := by omega
  have q3 : (i : Int) < p.length := by omega
  have HCL := hide hce
  clear hA hgx hgxb d0 d1 d1' d3 d3' d4 f3 hf3 hr3 hO hoth hr2 el2 el3 hce
  go_wp2_with fail
  go_loopw [15] (fun kv w' => ∃ k : Nat, k ≤ c.length ∧ kv = .int .i64 k ∧ Hid (Chg w w' (fun g' => g' = gx) ∧ w'.heap[gx]? = some (.cells (lentCode (mixC c (modC c) k)) 74 (0, 0)))) (fun kv _ => c.length - (intOf kv).toNat)
  case atStart => exact ⟨0, Nat.zero_le _, rfl, H0⟩
  case round =>
    clear H0
    obtain ⟨k, hk, rfl, HKK⟩ := hrel
    obtain ⟨w3, hw3⟩ : ∃ w3, w3 = wr := ⟨_, rfl⟩
    rw [← hw3] at HKK ⊢
    clear hw3
    by_cases hlt : k < c.length
    · have t0 : (0 : Int) ≤ (k : Int) := by omega
      have t1 : (k : Int) < c.length := by omega
      have t2 : (k : Int) < (c.length : Int) + 2 := by omega
      have hkt : k < (modC c).length := by have := HTL.out; omega
      obtain ⟨tg, hta⟩ : ∃ tg, ta = some ⟨tg, 0, none⟩ := by
        rcases HO.out.2 with ⟨_, e⟩ | ⟨g, cap, cur, hv, hb', hh, _⟩
        · omega
        · simp only [Value.slice.injEq] at hv
          exact ⟨g, hv.1⟩
      subst hta
      have ngt : tg ≠ gx := fun e => by
        have := HOT.out tg rfl
        rw [e, wgx] at this; cases this
      have k0 := HKK.out.1.cell HD0.out (by simpa using nb)
      have k1 := HKK.out.1.cell HD1.out (by simpa using nr2)
      obtain ⟨l0, l1, l2, l3⟩ := codeL_get (modC c) k hkt
      have ct : ∀ j v, (codeL (modC c))[j]? = some v → w3.cell? ⟨tg, j, none⟩ = some v := fun j v hj => by
        refine HKK.out.1.cell ?_ (by simpa using ngt)
        rw [HO.out.cellAt _ (by have := (List.getElem?_eq_some_iff.1 hj).1; rw [codeL_len, HTL.out] at this; exact this)]
        exact hj
      have k2 := ct _ _ l0
      have k3 := ct _ _ l1
      have k4 := ct _ _ l2
      have k5 := ct _ _ l3
      have hsz : (lentCode (mixC c (modC c) k)).size = (c.length + 2) * 4 := by rw [lentCode_size, mixC_len HTL.out k hk]
      have cu : ∀ j, j < (c.length + 2) * 4 → ∃ u, w3.cell? ⟨gx, j, none⟩ = some u := fun j hj => ⟨_, by simp only [World.cell?, HKK.out.2]; exact Array.getElem?_eq_getElem (by omega)⟩
      obtain ⟨v0, m0⟩ := cu (k * 4) (by omega)
      obtain ⟨v1, m1⟩ := cu (k * 4 + 1) (by omega)
      obtain ⟨v2, m2⟩ := cu (k * 4 + 2) (by omega)
      obtain ⟨v3, m3⟩ := cu (k * 4 + 3) (by omega)
      have fz : ∀ j, w3.frozen? ⟨gx, j, none⟩ = false := fun j => by simp [World.frozen?, HKK.out.2]
      have z0 := fz (k * 4)
      have z1 := fz (k * 4 + 1)
      have z2 := fz (k * 4 + 2)
      have z3 := fz (k * 4 + 3)
      have HNX : Hid (Chg w ((((w3.setCell ⟨gx, k * 4, none⟩ (.int .i64 (modC c)[k].op)).setCell ⟨gx, k * 4 + 1, none⟩ (.int .i64 (modC c)[k].a)).setCell ⟨gx, k * 4 + 2, none⟩ (.int .i64 (modC c)[k].b)).setCell ⟨gx, k * 4 + 3, none⟩ (.int .i64 (modC c)[k].n)) (fun g' => g' = gx) ∧
          ((((w3.setCell ⟨gx, k * 4, none⟩ (.int .i64 (modC c)[k].op)).setCell ⟨gx, k * 4 + 1, none⟩ (.int .i64 (modC c)[k].a)).setCell ⟨gx, k * 4 + 2, none⟩ (.int .i64 (modC c)[k].b)).setCell ⟨gx, k * 4 + 3, none⟩ (.int .i64 (modC c)[k].n)).heap[gx]? = some (.cells (lentCode (mixC c (modC c) (k + 1))) 74 (0, 0))) := by
        refine ⟨(((HKK.out.1.set rfl).set rfl).set rfl).set rfl, ?_⟩
        rw [← mixC_next HTL.out k hlt]
        exact heap_setCell_same _ gx _ _ _ _ (heap_setCell_same _ gx _ _ _ _ (heap_setCell_same _ gx _ _ _ _ (heap_setCell_same w3 gx _ _ _ _ HKK.out.2)))
      generalize (modC c)[k].op = x0 at *
      generalize (modC c)[k].a = x1 at *
      generalize (modC c)[k].b = x2 at *
      generalize (modC c)[k].n = x3 at *
      clear l0 l1 l2 l3 ct cu fz hsz HKK
      go_upto_region 15 with fail
      refine wp_region_head (fun u => u.cell? ⟨b, 2, none⟩ = some (.slice (some ⟨r2, 0, none⟩) p.length rc) ∧ u.cell? ⟨r2, i, none⟩ = some (.slice (some ⟨gx, 0, none⟩) (c.length + 2) (c.length + 2)) ∧ u.cell? ⟨tg, k * 4, none⟩ = some (.int .i64 x0) ∧ u.cell? ⟨tg, k * 4 + 1, none⟩ = some (.int .i64 x1) ∧ u.cell? ⟨tg, k * 4 + 2, none⟩ = some (.int .i64 x2) ∧ u.cell? ⟨tg, k * 4 + 3, none⟩ = some (.int .i64 x3)) 13 (by kernel_rfl) (by kernel_rfl) ⟨k0, k1, k2, k3, k4, k5⟩ ?_
      intro hHeld
      refine wpHead_take (i := 0) (v := ?vva0) rfl (by kernel_rfl) (fun c _ _ h => HQP.out c _ _ _ _ h) (Or.inl ⟨by rfl, ?hya0⟩) hHeld ?resta0
      case hya0 => (rintro u ⟨hu0, hu1, hu2, hu3, hu4, hu5⟩; go_simp; try with_reducible rfl)
      simp only [Act.put, List.setIfInBounds_toArray]
      refine wpHead_take (i := 1) (v := ?vva1) rfl (by kernel_rfl) (fun c _ _ h => HQP.out c _ _ _ _ h) (Or.inl ⟨by rfl, ?hya1⟩) hHeld ?resta1
      case hya1 => (rintro u ⟨hu0, hu1, hu2, hu3, hu4, hu5⟩; go_simp; try with_reducible rfl)
      simp only [Act.put]
      refine wpHead_take (i := 2) (v := ?vva2) rfl (by kernel_rfl) (fun c _ _ h => HQP.out c _ _ _ _ h) (Or.inl ⟨by rfl, ?hya2⟩) hHeld ?resta2
      case hya2 => (rintro u ⟨hu0, hu1, hu2, hu3, hu4, hu5⟩; go_simp; try with_reducible rfl)
      simp only [Act.put]
      refine wpHead_take (i := 3) (v := ?vva3) rfl (by kernel_rfl) (fun c _ _ h => HQP.out c _ _ _ _ h) (Or.inl ⟨by rfl, ?hya3⟩) hHeld ?resta3
      case hya3 => (rintro u ⟨hu0, hu1, hu2, hu3, hu4, hu5⟩; go_simp; try with_reducible rfl)
      simp only [Act.put]
      refine wpHead_take (i := 4) (v := ?vva4) rfl (by kernel_rfl) (fun c _ _ h => HQP.out c _ _ _ _ h) (Or.inl ⟨by rfl, ?hya4⟩) hHeld ?resta4
      case hya4 => (rintro u ⟨hu0, hu1, hu2, hu3, hu4, hu5⟩; go_simp; try with_reducible rfl)
      simp only [Act.put]
      refine wpHead_take (i := 5) (v := ?vva5) rfl (by kernel_rfl) (fun c _ _ h => HQP.out c _ _ _ _ h) (Or.inl ⟨by rfl, ?hya5⟩) hHeld ?resta5
      case hya5 => (rintro u ⟨hu0, hu1, hu2, hu3, hu4, hu5⟩; go_simp; try with_reducible rfl)
      simp only [Act.put]
      refine wpHead_take (i := 6) (v := ?vva6) rfl (by kernel_rfl) (fun c _ _ h => HQP.out c _ _ _ _ h) (Or.inl ⟨by rfl, ?hya6⟩) hHeld ?resta6
      case hya6 => (rintro u ⟨hu0, hu1, hu2, hu3, hu4, hu5⟩; go_simp; try with_reducible rfl)
      simp only [Act.put]
      refine wpHead_take (i := 7) (v := ?vva7) rfl (by kernel_rfl) (fun c _ _ h => HQP.out c _ _ _ _ h) (Or.inl ⟨by rfl, ?hya7⟩) hHeld ?resta7
      case hya7 => (rintro u ⟨hu0, hu1, hu2, hu3, hu4, hu5⟩; go_simp; try with_reducible rfl)
      simp only [Act.put]
      refine wpHead_take (i := 8) (v := ?vva8) rfl (by kernel_rfl) (fun c _ _ h => HQP.out c _ _ _ _ h) (Or.inl ⟨by rfl, ?hya8⟩) hHeld ?resta8
      case hya8 => (rintro u ⟨hu0, hu1, hu2, hu3, hu4, hu5⟩; go_simp; try with_reducible rfl)
      simp only [Act.put]
      refine wpHead_take (i := 9) (v := ?vva9) rfl (by kernel_rfl) (fun c _ _ h => HQP.out c _ _ _ _ h) (Or.inl ⟨by rfl, ?hya9⟩) hHeld ?resta9
      case hya9 => (rintro u ⟨hu0, hu1, hu2, hu3, hu4, hu5⟩; go_simp; try with_reducible rfl)
      simp only [Act.put]
      refine wpHead_take (i := 10) (v := ?vva10) rfl (by kernel_rfl) (fun c _ _ h => HQP.out c _ _ _ _ h) (Or.inl ⟨by rfl, ?hya10⟩) hHeld ?resta10
      case hya10 => (rintro u ⟨hu0, hu1, hu2, hu3, hu4, hu5⟩; go_simp; try with_reducible rfl)
      simp only [Act.put]
      refine wpHead_take (i := 11) (v := ?vva11) rfl (by kernel_rfl) (fun c _ _ h => HQP.out c _ _ _ _ h) (Or.inl ⟨by rfl, ?hya11⟩) hHeld ?resta11
      case hya11 => (rintro u ⟨hu0, hu1, hu2, hu3, hu4, hu5⟩; go_simp; try with_reducible rfl)
      simp only [Act.put]
      refine wpHead_take (i := 12) (v := ?vva12) rfl (by kernel_rfl) (fun c _ _ h => HQP.out c _ _ _ _ h) (Or.inl ⟨by rfl, ?hya12⟩) hHeld ?resta12
      case hya12 => (rintro u ⟨hu0, hu1, hu2, hu3, hu4, hu5⟩; go_simp; try with_reducible rfl)
      simp only [Act.put]
      refine wpHead_last rfl (by kernel_rfl) (by kernel_rfl) (by rfl) ?_
      go_simp
      clear hHeld
      go_wp2_with fail
      go_roundw
      case rel => exact ⟨k + 1, by omega, by go_num, ⟨⟨HNX.out.1.os, HNX.out.1.tape, HNX.out.1.output, HNX.out.1.size, HNX.out.1.blk⟩, HNX.out.2⟩⟩
      case measure => simp [intOf]; omega
    · have t1 : (c.length : Int) ≤ (k : Int) := by omega
      have hb3 := HKK.out.2
      rw [mixC_end HTL.out k (by omega)] at hb3
      have e4 := HKK.out.1.cell HD4.out (by simpa using nb)
      have e3 := HKK.out.1.cell HD3.out (by simpa using ng3)
      have z3 : w3.frozen? ⟨g3, i, none⟩ = false := by
        have := HF3.out
        simp only [World.frozen?, HKK.out.1.blk g3 hg3l (by simpa using ng3)] at this ⊢
        exact this
      have hoo : w3.ownsRow base 74 4 (.slice ta c.length tc) c.length (codeL (modC c)) := owns_same HO.out (fun q e => by
        refine HKK.out.1.blk q (owns_ltH HO.out q e) (fun e2 => ?_)
        have h1 := HOT.out q e
        rw [e2, wgx] at h1; cases h1)
      have hvo : valOther who' (.slice ta c.length tc) := fun q o l cc e hl => by
        simp only [Value.slice.injEq] at e
        rcases hoo.2 with ⟨e3, _⟩ | ⟨g', cap', cur, hv, hb', _⟩
        · simp only [Value.slice.injEq] at e3
          rw [e3.1] at e; cases e.1
        · simp only [Value.slice.injEq] at hv
          rw [hv.1] at e
          simp only [Option.some.injEq, Addr.mk.injEq, and_true] at e
          rw [← e.1.1]
          exact HOT.out g' (by rw [hv.1]; rfl)
      have hcg : Chg w w3 (fun g' => g' = LC[i].1) := by rw [← HGX.out]; exact HKK.out.1
      obtain ⟨hx4, hf4⟩ := HA.out.lx.recode hiL hcg HFV.out (by rw [← HGX.out]; exact hb3) (by rw [HTL.out, HCL.out]) (code_own hoo HTL.out) hvo
      rw [← HGX.out] at hx4
      obtain ⟨w4, hw4⟩ : ∃ w4, w4 = w3.setCell ⟨g3, i, none⟩ (.slice ta c.length tc) := ⟨_, rfl⟩
      rw [← hw4] at hx4 hf4
      have hsame : ∀ q, q < w.heap.size → q ≠ gx → q ≠ g3 → w4.heap[q]? = w.heap[q]? := fun q h1 h2 h3 => by
        rw [hw4, Below.heap_setCell _ _ _ _ (by simpa using h3)]; exact HKK.out.1.blk q h1 h2
      have emap : (LC.set i (gx, modC c, Value.slice ta c.length tc)).map (·.1) = LC.map (·.1) := map_set_same _ _ _ _ hiL HGX.out
      have ngx : ∀ q, q ∉ LI.map (·.1) ++ (LC.map (·.1) ++ LR.map (·.1)) → q ≠ gx := fun q hq e => hq (List.mem_append.2 (Or.inr (List.mem_append.2 (Or.inl (List.mem_map.2 ⟨_, List.getElem_mem hiL, by rw [e, HGX.out]⟩)))))
      have n123 : n12 ≠ g3 := fun e => by have := HA.out.wbx; rw [e, wg3] at this; cases this
      have hbox4 : w4.heap[n12]? = some (.cells #[qv] 24 (0, 0)) := by
        rw [hsame n12 (Array.getElem?_eq_some_iff.1 HA.out.box).1 (ngx _ HA.out.nbx) n123]; exact HA.out.box
      have hrow4 : w4.ownsRow w5.heap.size 75 1 qv i ((LC.take i).map (·.2.2)) := owns_same HA.out.row (fun q e => by
        obtain ⟨h1, h2, _⟩ := HA.out.wrw q e
        exact hsame q (owns_ltH HA.out.row q e) (ngx q h2) (fun e2 => by rw [e2, wg3] at h1; cases h1))
      have hsz5 : w5.heap.size ≤ w4.heap.size := Nat.le_trans HA.out.fr.size hf4.size
      obtain ⟨qa, qn, qc, hqv⟩ := owns_form hrow4
      subst hqv
      have hqn := owns_lenq hrow4
      subst hqn
      have HX4 := hide hx4
      have HF4 := hide hf4
      have HR4 := hide hrow4
      have HB4 := hide hbox4
      have HEM := hide emap
      have HNG := hide ngx
      clear hx4 hf4 hrow4 hbox4 hsame hcg hoo hvo emap ngx hb3 HKK
      go_upto_region 17 with fail
      rw [← hw4]
      clear hw4 e3 e4 z3
      have c12 : w4.cell? ⟨n12, 0, none⟩ = some (.slice qa qn qc) := by simp [World.cell?, HB4.out]
      have h63 : qn + 1 ≤ maxLen := by unfold maxLen; omega
      go_wp2_with (at_builtin; refine wpList_append_lies _ rfl _ _ _ rfl w5.heap.size 75 i1 _ 1 24 Tryz.underlying22 hi1 hy0 hy1 hy2 rfl (by omega) (.slice qa qn qc) qn ((LC.take qn).map (·.2.2)) rfl (owns_alloc HR4.out) ⟨w4.heap.size, 0, none⟩ 1 1 [.slice ta c.length tc] rfl rfl (World.news_of_block (cs := #[.slice ta c.length tc]) (t := 75) (fr := (0, 0)) (heap_alloc_new w4 _)) (by simp [Value.oneCell']) (by omega) h63 (by omega) (by simp; omega) (w4.heap.size + 1) (by simp) ?_; intro g8 cap8 w8 hown8 hgrow8 hat8 hlt8; have b0 : w8.heap[n12]? = some (.cells #[.slice qa qn qc] 24 (0, 0)) := (by rw [hgrow8.block n12 (by have := (Array.getElem?_eq_some_iff.1 HB4.out).1; simp; omega) (fun e => (HA.out.wrw n12 e.symm).2.2 rfl), Below.heap_alloc _ _ _ (Array.getElem?_eq_some_iff.1 HB4.out).1]; exact HB4.out); have b1 : w8.cell? ⟨n12, 0, none⟩ = some (.slice qa qn qc) := (by simp [World.cell?, b0]); have b2 : w8.frozen? ⟨n12, 0, none⟩ = false := (by simp [World.frozen?, b0]); have HB8 := hide b0; have HO8 := hide hown8; have HG8 := hide hgrow8; have HT8 := hide hat8; clear b0 hown8 hgrow8 hat8 c12)
      obtain ⟨hx8, hf8⟩ := (HX4.out.grown (grown_alloc (o := .cells #[.slice ta c.length tc] 75) (grown_refl _ _))).outNew HG8.out (fun q e => ⟨(HA.out.wrw q e).1, by rw [HEM.out]; exact (HA.out.wrw q e).2.1⟩) (g8 := g8) (by
        rcases HT8.out with h1 | h1
        · exact Or.inl h1
        · exact Or.inr ⟨by simp; omega, hlt8⟩)
      have hg85 : w5.heap.size ≤ g8 := owns_block HO8.out g8 rfl
      have hw12 : setW who' g8 .lent n12 = .lent := by rw [setW_ne _ _ (by omega)]; exact HA.out.wbx
      refine HK.out (setW who' g8 .lent) (LC.set qn (gx, modC c, .slice ta c.length tc)) (.slice (some ⟨g8, 0, none⟩) (qn + 1) cap8) _ ⟨hx8.setOut hw12 (by rw [HEM.out]; exact HA.out.nbx), (((HA.out.fr.trans HF4.out).trans (Fr.grown (grown_alloc (grown_refl _ _)))).trans hf8).trans (Fr.set (Or.inl (by rw [hw12]; simp))), ?_, ?_, hw12, by rw [HEM.out]; exact HA.out.nbx, ?_, fun q e => ?_⟩
      · have := cod_next (g := gx) (v := Value.slice ta c.length tc) HA.out.cod hi
        rw [HCE.out] at this
        exact this
      · rw [heap_setCell_same w8 n12 0 _ _ _ HB8.out]; rfl
      · rw [row_nextA hiL]
        exact owns_setCell_ne HO8.out (by simp [Value.ownBlock]; omega)
      · simp only [Value.ownBlock, Option.some.injEq] at e
        subst e
        refine ⟨setW_at _ _ _, ?_, by omega⟩
        rw [HEM.out]
        rcases HT8.out with h1 | h1
        · exact (HA.out.wrw g8 h1).2.1
        · intro hm
          have := (HX4.out.le.lt g8 (by rw [HEM.out]; exact hm)).1
          omega

end Go.Proofs.YtklenjmfalljgaaGreatDoor
