/- The second form's card of Shortens: where what is read is of bulk at most the bound, every Shorten is as the reference says, whatever the owner does with what came out and with what was lent. -/
import Derived.Test.YtklenjmfalljgaaDoorMI
import Derived.Test.YtklenjmfalljgaaDoorRows
import Derived.Deep.Slices
import Derived.Deep.DeepHandedRow
import Derived.Deep.DeepWitnessRowRef
import Derived.LaidMore
import Derived.Carry
import Derived.ProofKit
import Derived.OpenShut
import Derived.Lib.SmallJoins
import Derived.Test.YtklenjmfalljgaaDoorCards
import Derived.Test.YtklenjmfalljgaaDoorTie

/- The walk of the hands' shortened. -/
namespace Go.Proofs.YtklenjmfalljgaaDoor
open Go.RowKit
attribute [local go_sem] Go.World.cell?_alloc_some

/-- What Shorten answers: the list, the trials, the number. -/
def shOut (p : List (List Ins)) (s : List Int) (fuel : Int) : List Int := if checkRunN p s = 0 ∧ 0 ≤ fuel then (shortS p s fuel.toNat).1 else []
def shNum (p : List (List Ins)) (s : List Int) (fuel : Int) : Int := if checkRunN p s = 0 ∧ 0 ≤ fuel then (((shortS p s fuel.toNat).2 : Nat) : Int) else 0
def shErr (p : List (List Ins)) (s : List Int) (fuel : Int) : Int := if checkRunN p s = 0 then (if 0 ≤ fuel then 0 else 2) else checkRunN p s
theorem Shortened.form {p : List (List Ins)} {s : List Int} {fuel : Int} {w w' : World} {e : Ending} (h : Shortened p s fuel w e w') :
    w.grownBy w' none ∧ ∃ v, e = .returned (.tuple #[v, .int .i64 (shNum p s fuel), .int .i64 (shErr p s fuel)]) ∧ w'.ownsRow w.heap.size 3 1 v (shOut p s fuel).length (ints (shOut p s fuel)) := by
  obtain ⟨hg, h⟩ := h
  rcases h with ⟨h0, hf, v, he, ho⟩ | ⟨h0, hf, he⟩ | ⟨h0, he⟩
  · refine ⟨hg, v, ?_, ?_⟩
    · unfold shNum shErr; rw [if_pos ⟨h0, hf⟩, if_pos h0, if_pos hf]; exact he
    · unfold shOut; rw [if_pos ⟨h0, hf⟩]; exact ho
  · have hn : ¬ (checkRunN p s = 0 ∧ 0 ≤ fuel) := by omega
    refine ⟨hg, .slice none 0 0, ?_, ?_⟩
    · unfold shNum shErr; rw [if_neg hn, if_pos h0, if_neg (by omega)]; exact he
    · unfold shOut; rw [if_neg hn]; exact ⟨rfl, Or.inl ⟨rfl, rfl⟩⟩
  · have hn : ¬ (checkRunN p s = 0 ∧ 0 ≤ fuel) := fun e => h0 e.1
    refine ⟨hg, .slice none 0 0, ?_, ?_⟩
    · unfold shNum shErr; rw [if_neg hn, if_neg h0]; exact he
    · unfold shOut; rw [if_neg hn]; exact ⟨rfl, Or.inl ⟨rfl, rfl⟩⟩
theorem shOut_le (p : List (List Ins)) (s : List Int) (fuel : Int) : (shOut p s fuel).length ≤ 500 := by
  unfold shOut
  by_cases h : checkRunN p s = 0 ∧ 0 ≤ fuel
  · rw [if_pos h]
    have h5 := (check_zero h.1).2
    unfold shortS
    have h1 := shr_len (p := p) (V := runS p s) fuel.toNat (s.take (cameTo (runS p s))) 0 0
    have h2 : (s.take (cameTo (runS p s))).length ≤ s.length := by simp; omega
    omega
  · rw [if_neg h]; simp

set_option maxHeartbeats 4000000 in
set_option maxRecDepth 100000 in
theorem shortened_g (W : World) (B : Nat) (w : World) (b : Nat) (who : Nat → Role) (n : Int) (f : Nat → Value) (K : Nat → List (Value × Int)) (pv sv : Value) (p : List (List Ins)) (s : List Int) (fuel : Int)
    (h : Hz B w b who n f K) (hW : W.grownBy w none) (hWB : W.heap.size ≤ B) (hS : ShpAt W) (hP : ProgAt W pv p) (hI : IntsAt W.heap.size W sv s) (hnil : nilOk sv) (hfu : fuel ≤ 9223372036854775807) (hpl : p.length ≤ 1048576) (hpc : ∀ c ∈ p, c.length ≤ 1048576) (hsl : s.length ≤ 1048576) (hn0 : 0 ≤ n) (hn1 : n ≤ 1000) (hK : ∀ c, c < 5 → (K c).length ≤ 1000) :
    Calls Tryd.prog 29 #[pt b, pv, sv, .int .i64 fuel] w (HzG W B b (n + 1) K) := by
  have HH := hide h
  have HW := hide hW
  have HS := hide hS
  have HP := hide hP
  have HI := hide hI
  have HNL := hide hnil
  have HPC := hide hpc
  have HK := hide hK
  obtain ⟨ao, cap, rfl⟩ := hP.form
  obtain ⟨so, sc, rfl⟩ := hI.form
  have hpt : pt b = .pointer (some ⟨b, 0, none⟩) := rfl
  have HPG := hide (program_g W B (w.alloc (.cells #[.slice ao p.length cap] 25)) b who n f K [] [] [] (.agg #[.slice ao p.length cap]) p (h.lx.grown (grown_alloc (grown_refl _ _))) (grown_alloc hW) hWB hP hpl hpc (by simp) (by simp))
  clear h hW hS hP hI hnil hpc hK
  rw [hpt] at HPG ⊢
  go_enter Tryd.func29, Tryd.ntmps29
  go_wp2_with fail
  refine HPG.out.mono ?_
  clear HPG
  rintro e w1 ⟨g, LC1, who1, f1, rfl, hx1, hlc, hf1, hb1⟩
  have hwo : who w.heap.size = .other := by
    by_cases e : who w.heap.size = .other
    · exact e
    · exact absurd (HH.out.1.1.dom _ e).2 (by omega)
  obtain ⟨hbx, hwx⟩ := hf1.oth w.heap.size (by simp) hwo (fun e => e)
  have HW1 : Hid (W.grownBy w1 none) := hf1.base (grown_alloc HW.out) hWB (fun g e => (HH.out.1.1.dom g e).1) (fun _ e => e.elim)
  have c1 : w1.cell? ⟨w.heap.size, 0, none⟩ = some (.slice ao p.length cap) := by
    simp only [World.cell?, hbx, heap_alloc_new]; rfl
  have hlt1 : w.heap.size < w1.heap.size := World.block_lt_of_cell? w1 _ c1
  have hll : LC1.length = p.length := by rw [← hlc]; simp
  simp only [List.nil_append] at hx1
  have HSG := hide (schedule_g B w1 b who1 n f1 K [] LC1 [(g, p.length)] 0 (.slice so s.length sc) s hx1 ((HI.out.pres (pres_grown HW1.out)).mono HW1.out.size) (val_other hx1.hs hWB HI.out) hsl (by simp))
  have HX1 := hide hx1
  have HLC := hide hlc
  have HWX := hide hwx
  have HLL := hide hll
  have HC1 := hide c1
  clear hx1 hlc hf1 hb1 hbx hwo hwx hll c1
  rw [hpt] at HSG
  go_wp2_with fail
  refine HSG.out.mono ?_
  clear HSG
  rintro e w2 ⟨gs, who2, f2, rfl, hx2, hf2⟩
  simp only [List.nil_append] at hx2
  have HW2 : Hid (W.grownBy w2 none) := hf2.base HW1.out hWB (fun g e => (HX1.out.hs.1.dom g e).1) (fun _ e => e.elim)
  obtain ⟨hbx, hwx⟩ := hf2.oth w.heap.size hlt1 HWX.out (fun e => e)
  have HWX2 := hide hwx
  have HC2 : Hid (w2.cell? ⟨w.heap.size, 0, none⟩ = some (.slice ao p.length cap)) := by
    unfold Hid; rw [World.cell?_of_block hbx]; exact HC1.out
  have hlt2 : w.heap.size < w2.heap.size := World.block_lt_of_cell? w2 _ HC2.out
  have hgb : w2.heap[g]? = some (.cells (lentRows LC1) 29 (0, 0)) := by
    have := (hx2.le.lr 0 (by simp)).1
    simp only [List.getElem_cons_zero, List.take_zero, List.map_nil, List.sum_nil, List.drop_zero] at this
    rw [List.take_of_length_le (by rw [HLL.out]; omega)] at this
    exact this
  have hPx : ProgAt w2 (.agg #[.slice (some ⟨g, 0, none⟩) p.length (p.length + 2)]) p := lent_prog (LC0 := []) (by simpa using hx2.le) hgb HLC.out _
  have hIx : IntsAt w2.heap.size w2 (.slice (some ⟨gs, 0, none⟩) s.length (s.length + 2)) s := lent_ints (hx2.le.li (gs, s, .slice so s.length sc) (by simp)).1
  have HFM := hide (shorten_m p s _ _ fuel w2 (HS.out.pres (pres_grown HW2.out)) hPx hIx (fun _ _ e => by simp at e) hfu)
  have HX2 := hide hx2
  clear hx2 hf2 hbx hwx hgb hPx hIx HX1 HC1 HWX hlt1
  go_wp2_with fail
  refine HFM.out.mono ?_
  clear HFM
  intro e w3 hF
  obtain ⟨hg3, v, he, ho3⟩ := hF.form
  clear hF
  subst he
  obtain ⟨x1, x2, x3, rfl⟩ := owns_form ho3
  have HO3 := hide ho3
  have HG23 := hide hg3
  have HW3 : Hid (W.grownBy w3 none) := grown_trans HW2.out hg3
  have HBK := hide (back_g B w3 b who2 n f2 K _ _ _ (HX2.out.grown hg3) (by simp) (by rw [HLL.out]; omega) (by simp))
  clear ho3 hg3
  rw [hpt] at HBK
  generalize hcr : shErr p s fuel = cr at *
  generalize hnm : shNum p s fuel = nm at *
  have HCR := hide hcr
  have HNM := hide hnm
  clear hcr hnm
  go_wp2_with fail
  refine HBK.out.mono ?_
  clear HBK
  rintro e w4 ⟨rfl, f4, hz4, hf4⟩
  have HW4 : Hid (W.grownBy w4 none) := hf4.base HW3.out hWB (fun g e => (HX2.out.hs.1.dom g e).1) (fun _ e => e.elim)
  have hbo : ∀ q, (Value.slice x1 x2 x3).ownBlock = some q → w2.heap.size ≤ q ∧ q < w3.heap.size ∧ who2 q = .other := fun q e => by
    have h1 := owns_block HO3.out q e
    refine ⟨h1, owns_ltH HO3.out q e, ?_⟩
    by_cases ho : who2 q = .other
    · exact ho
    · exact absurd (HX2.out.hs.1.dom q ho).2 (by omega)
  have HBO := hide hbo
  have HO4 : Hid (w4.ownsRow w2.heap.size 3 1 (.slice x1 x2 x3) (shOut p s fuel).length (ints (shOut p s fuel))) := owns_same HO3.out (fun q e => (hf4.oth q (hbo q e).2.1 (hbo q e).2.2 (fun e => e)).1)
  have c4 : w4.cell? ⟨w.heap.size, 0, none⟩ = some (.slice ao p.length cap) := by
    rw [World.cell?_of_block (hf4.oth w.heap.size (by have := HG23.out.size; omega) HWX2.out (fun e => e)).1]
    exact pres_grown HG23.out _ _ HC2.out
  have HZ4 := hide hz4
  have HRF := hide (refshorten_m p s _ _ fuel w4 (HP.out.pres (pres_grown HW4.out)) ((HI.out.pres (pres_grown HW4.out)).mono HW4.out.size) HNL.out hfu hpl HPC.out)
  have HD2 : Hid (B ≤ w2.heap.size) := by
    have := HX2.out.low
    unfold Hid; omega
  clear hz4 hf4 hbo HO3 HX2 HC2
  go_wp2_with fail
  refine HRF.out.mono ?_
  clear HRF
  intro e w5 hF
  obtain ⟨hg5, v', he, ho5⟩ := hF.form
  clear hF
  subst he
  rw [HCR.out, HNM.out]
  obtain ⟨y1, y2, y3, rfl⟩ := owns_form ho5
  have HG45 := hide hg5
  have HO5 : Hid (w5.ownsRow w2.heap.size 3 1 (.slice x1 x2 x3) (shOut p s fuel).length (ints (shOut p s fuel))) := owns_grown HO4.out hg5 (fun _ e => by cases e)
  have HSM := hide (same_m (shOut p s fuel) (shOut p s fuel) _ _ w5 (owns_ints HO5.out) (owns_ints ho5) (by have := shOut_le p s fuel; omega))
  rw [show (shOut p s fuel == shOut p s fuel) = true by simp] at HSM
  clear hg5 ho5 HO4 c4
  go_wp2_with fail
  refine HSM.out.mono ?_
  clear HSM
  rintro e w6 ⟨rfl, hl6⟩
  have HG56 : Hid (w5.grownBy w6 none) := grown_of_like hl6
  have HG46 : Hid (w4.grownBy w6 none) := grown_trans HG45.out HG56.out
  have HO6 : Hid (w6.ownsRow B 3 1 (.slice x1 x2 x3) (shOut p s fuel).length (ints (shOut p s fuel))) := owns_mono (owns_grown HO5.out HG56.out (fun _ e => by cases e)) HD2.out
  have HKI := hide (keepInts_g B w6 b who2 n f4 K (.slice x1 x2 x3) (shOut p s fuel).length _ (HZ4.out.1.grown HG46.out) HO6.out (fun q e => (HBO.out q e).2.2) hn0 (by omega) (by have := HK.out 0 (by omega); omega) (by have := shOut_le p s fuel; omega))
  clear hl6 HO5 HO6
  rw [hpt] at HKI
  go_wp2_with fail
  refine HKI.out.mono ?_
  clear HKI
  rintro e w7 ⟨⟨rv, rfl⟩, who7, f7, K7, hH7, hA7⟩
  have HW6 : Hid (W.grownBy w6 none) := grown_trans HW4.out HG46.out
  have HW7 : Hid (W.grownBy w7 none) := hA7.fr.base HW6.out hWB (fun g e => (HZ4.out.1.1.dom g e).1) (fun q e => by have := (HBO.out q e).1; have := HW2.out.size; omega)
  have HZ7 : Hid (Hz B w7 b who7 (n + 1) f7 K7) := ⟨hH7, fun k hk => by rw [hA7.lent k hk]; exact HZ4.out.2 k hk⟩
  have HK7 : Hid (∀ c, c < 5 → (K7 c).length ≤ (K c).length + 4) := fun c hc => by
    by_cases e : c = 0
    · subst e; have := hA7.len; omega
    · rw [hA7.oth c e]; omega
  have HHO := hide (holds_g B w7 b who7 (n + 1) f7 K7 hH7 (fun c hc => by have := HK7.out c hc; have := HK.out c hc; omega))
  clear hH7 hA7
  rw [hpt] at HHO
  go_wp2_with fail
  refine HHO.out.mono ?_
  clear HHO
  rintro e w8 ⟨rfl, hl8⟩
  have HG78 : Hid (w7.grownBy w8 none) := grown_of_like hl8
  clear hl8
  go_wp2_with (go_at_call 47; refine (num_mR _ _).mono ?_; rintro e w9 ⟨rfl, hw9⟩; have hw9' := hw9.symm; subst hw9')
  go_ret
  exact ⟨by simp, who7, f7, K7, ⟨HZ7.out.1.grown HG78.out, HZ7.out.2⟩, grown_trans HW7.out HG78.out, HK7.out⟩

end Go.Proofs.YtklenjmfalljgaaDoor

/- The walk of the law's asked: Shorten. -/
namespace Go.Proofs.YtklenjmfalljgaaDoor
open Go.RowKit
attribute [local go_sem] Go.World.cell?_alloc_some

set_option maxHeartbeats 4000000 in
set_option maxRecDepth 100000 in
theorem askedS_m (p : List (List Ins)) (s : List Int) (xv lv pv sv : Value) (w : World) (hS : ShpAt w) (hX : ProgAt w xv p) (hL : IntsAt w.heap.size w lv s) (hln : nilOk lv) (hP : ProgAt w pv p) (hI : IntsAt w.heap.size w sv s) (hsn : nilOk sv) (hpl : p.length ≤ 1048576) (hpc : ∀ c ∈ p, c.length ≤ 1048576) :
    Calls Tryd.prog 67 #[.int .i64 2, xv, lv, pv, sv] w fun e w' => e = .returned (.bool true) ∧ w.grownBy w' none := by
  have HS := hide hS
  have HX := hide hX
  have HL := hide hL
  have HP := hide hP
  have HI := hide hI
  have HPC := hide hpc
  have HLN := hide hln
  have HSN := hide hsn
  obtain ⟨ao, cap, rfl⟩ := hX.form
  obtain ⟨ao2, cap2, rfl⟩ := hP.form
  obtain ⟨so, sc, rfl⟩ := hL.form
  obtain ⟨so2, sc2, rfl⟩ := hI.form
  clear hS hX hL hP hI hpc hln hsn
  go_enter Tryd.func67, Tryd.ntmps67
  go_wp2_with fail
  have hg0 : w.grownBy ((w.alloc (.cells #[.slice ao p.length cap] 25)).alloc (.cells #[.slice ao2 p.length cap2] 25)) none := grown_alloc (grown_alloc (grown_refl _ _))
  have hb8 : ((w.alloc (.cells #[.slice ao p.length cap] 25)).alloc (.cells #[.slice ao2 p.length cap2] 25)).cell? ⟨w.heap.size + 1, 0, none⟩ = some (.slice ao2 p.length cap2) := by
    have := heap_alloc_new (w.alloc (.cells #[.slice ao p.length cap] 25)) (.cells #[.slice ao2 p.length cap2] 25)
    simp only [World.size_alloc] at this
    simp only [World.cell?, this]
    rfl
  generalize (w.alloc (.cells #[.slice ao p.length cap] 25)).alloc (.cells #[.slice ao2 p.length cap2] 25) = w1 at hg0 hb8 ⊢
  have HG1 := hide hg0
  clear hg0
  refine (shorten_m p s _ _ 50 w1 (HS.out.pres (pres_grown HG1.out)) (HX.out.pres (pres_grown HG1.out)) ((HL.out.pres (pres_grown HG1.out)).mono HG1.out.size) HLN.out (by omega)).mono ?_
  intro e w2 hF
  obtain ⟨hg2, v, he, ho2⟩ := hF.form
  clear hF
  subst he
  obtain ⟨x1, x2, x3, rfl⟩ := owns_form ho2
  have HO2 := hide ho2
  have HG2 := hide (grown_trans HG1.out hg2)
  replace hb8 := pres_grown hg2 _ _ hb8
  clear ho2 hg2
  obtain ⟨cr, hcr⟩ : ∃ cr, cr = shErr p s 50 := ⟨_, rfl⟩
  obtain ⟨nm, hnm⟩ : ∃ nm, nm = shNum p s 50 := ⟨_, rfl⟩
  rw [← hcr, ← hnm]
  have HCQ := hide hcr
  have HNQ := hide hnm
  clear hcr hnm
  go_wp2_with fail
  refine (refshorten_m p s _ _ 50 w2 (HP.out.pres (pres_grown HG2.out)) ((HI.out.pres (pres_grown HG2.out)).mono HG2.out.size) HSN.out (by omega) hpl HPC.out).mono ?_
  intro e w3 hF
  obtain ⟨hg3, v', he, ho3⟩ := hF.form
  clear hF
  subst he
  rw [← HCQ.out, ← HNQ.out]
  obtain ⟨y1, y2, y3, rfl⟩ := owns_form ho3
  have HG3 := hide (grown_trans HG2.out hg3)
  have HSM := hide (same_m (shOut p s 50) (shOut p s 50) _ _ w3 (owns_ints (owns_grown HO2.out hg3 (fun _ e => by cases e))) (owns_ints ho3) (by have := shOut_le p s 50; omega))
  rw [show (shOut p s 50 == shOut p s 50) = true by simp] at HSM
  clear hg3 ho3 hb8
  go_wp2_with fail
  refine HSM.out.mono ?_
  clear HSM
  rintro e w4 ⟨rfl, hl4⟩
  have HG4 : Hid (w.grownBy w4 none) := grown_trans HG3.out (grown_of_like hl4)
  clear hl4
  go_wp2_with (go_at_call 47; refine (num_mR _ _).mono ?_; rintro e w9 ⟨rfl, hw9⟩; have hw9' := hw9.symm; subst hw9')
  go_ret
  exact ⟨by simp, HG4.out⟩

end Go.Proofs.YtklenjmfalljgaaDoor

/- Hands that were just made. -/
namespace Go.Proofs.YtklenjmfalljgaaDoor
open Go.RowKit

def f00 : Nat → Value := fun k => if k = 5 then .int .i64 0 else .slice none 0 0
/-- Hands that were just made. -/
theorem Hz.start {w : World} {b : Nat} (h : w.heap[b]? = some (.cells (hcl f00) 62 (0, 0))) : Hz b w b (setW (fun _ => .other) b .hands) 0 f00 (fun _ => []) := by
  have hnil : ∀ k, k ≠ 5 → f00 k = .slice none 0 0 := fun k hk => by unfold f00; rw [if_neg hk]
  refine ⟨⟨⟨h, rfl, fun c hc => ?_, fun c hc => ?_, fun c hc g e => ?_, fun c hc g e => ?_, setW_at _ _ _, fun c hc x hx => (by cases hx), fun g e => ?_⟩, fun c hc x hx => (by cases hx)⟩, fun k hk => hnil k (by omega)⟩
  · rw [hnil _ (by omega)]; exact ⟨rfl, Or.inl ⟨rfl, rfl⟩⟩
  · rw [hnil _ (by omega)]; exact ⟨rfl, Or.inl ⟨rfl, rfl⟩⟩
  · rw [hnil _ (by omega)] at e; cases e
  · rw [hnil _ (by omega)] at e; cases e
  · by_cases e2 : g = b
    · subst e2; exact ⟨Nat.le_refl _, (Array.getElem?_eq_some_iff.1 h).1⟩
    · rw [setW_ne _ _ e2] at e; exact absurd rfl e

end Go.Proofs.YtklenjmfalljgaaDoor

/- The walk of Shortens. -/
namespace Go.Proofs.YtklenjmfalljgaaDoor
open Go.RowKit
attribute [local go_sem] Go.World.cell?_alloc_some

theorem ctr_err : shErr ctrP [0, 0, 1, 2, 0] 9 = 0 := by decide +kernel
theorem ctr_num : shNum ctrP [0, 0, 1, 2, 0] 9 = 4 := by decide +kernel
theorem ctr_short : shOut ctrP [0, 0, 1, 2, 0] 9 = [2] := by decide +kernel
theorem ints_lit5 {w : World} {g : Nat} {ty : TypeId} (h : w.heap[g]? = some (.cells #[.int .i64 0, .int .i64 0, .int .i64 1, .int .i64 2, .int .i64 0] ty (0, 0))) : IntsAt w.heap.size w (.slice (some ⟨g, 0, none⟩) 5 5) [0, 0, 1, 2, 0] := by
  refine ⟨some ⟨g, 0, none⟩, 5, rfl, Nat.le_refl _, fun k hk => ⟨g, 0, rfl, (Array.getElem?_eq_some_iff.1 h).1, ?_⟩⟩
  simp only [World.cell?, h]
  have hk' : k < 5 := hk
  rcases (by omega : k = 0 ∨ k = 1 ∨ k = 2 ∨ k = 3 ∨ k = 4) with rfl | rfl | rfl | rfl | rfl <;> rfl

set_option maxHeartbeats 4000000 in
set_option maxRecDepth 100000 in
theorem shortens_m (W : World) (pv av : Value) (fuel : Int) (p : List (List Ins)) (a : List Int) (hS : ShpAt W) (hP : ProgAt W pv p) (hPN : ProgNil W pv) (hI : IntsAt W.heap.size W av a) (hnil : nilA av) (hfu : fuel ≤ 9223372036854775807) (hpl : p.length ≤ 1048576) (hpc : ∀ c ∈ p, c.length ≤ 1048576) (hal : a.length ≤ 1048576) :
    Calls Tryd.prog 8 #[pv, av, .int .i64 fuel] W fun e w' => e = .returned (.bool true) ∧ W.grownBy w' none := by
  have HS := hide hS
  have HP := hide hP
  have HPN := hide hPN
  have HI := hide hI
  have HNL := hide hnil
  have HPC := hide hpc
  obtain ⟨ao, cap, rfl⟩ := hP.form
  obtain ⟨so, sc, rfl⟩ := hI.form
  have hpt : ∀ q, pt q = .pointer (some ⟨q, 0, none⟩) := fun _ => rfl
  clear hS hP hPN hI hnil hpc
  go_enter Tryd.func8, Tryd.ntmps8
  go_wp2_with fail
  refine (counter_m _).mono ?_
  rintro e w1 ⟨cv, rfl, hcp, hg1⟩
  have HG1 : Hid (W.grownBy w1 none) := grown_trans (grown_alloc (grown_refl _ _)) hg1
  have hb1 : w1.heap[W.heap.size]? = some (.cells #[.slice ao p.length cap] 25 (0, 0)) := by
    rw [hg1.block W.heap.size (by simp) (by simp)]; exact heap_alloc_new W _
  have c1 : w1.cell? ⟨W.heap.size, 0, none⟩ = some (.slice ao p.length cap) := by simp [World.cell?, hb1]
  have HC1 := hide c1
  have HCP := hide hcp
  obtain ⟨cao, ccp, hcv⟩ := hcp.form
  subst hcv
  clear hg1 hb1 hcp c1
  go_wp2_with fail
  obtain ⟨w2, hw2⟩ : ∃ w2, w2 = w1.alloc (.cells #[.int .i64 0, .int .i64 0, .int .i64 1, .int .i64 2, .int .i64 0] 3) := ⟨_, rfl⟩
  rw [← hw2]
  have HG12 : Hid (w1.grownBy w2 none) := by unfold Hid; rw [hw2]; exact grown_alloc (grown_refl _ _)
  have HL2 : Hid (IntsAt w2.heap.size w2 (.slice (some ⟨w1.heap.size, 0, none⟩) 5 5) [0, 0, 1, 2, 0]) := by
    unfold Hid; rw [hw2]; exact ints_lit5 (heap_alloc_new w1 _)
  clear hw2
  refine (shorten_m ctrP [0, 0, 1, 2, 0] _ _ 9 w2 (HS.out.pres (pres_grown (grown_trans HG1.out HG12.out))) (HCP.out.pres (pres_grown HG12.out)) HL2.out (fun _ _ e => by simp at e) (by omega)).mono ?_
  intro e w3 hF
  obtain ⟨hg3, v, he, ho3⟩ := hF.form
  clear hF
  subst he
  rw [ctr_err, ctr_num]
  rw [ctr_short] at ho3
  obtain ⟨x1, x2, x3, rfl⟩ := owns_form ho3
  have hx2 := owns_lenq ho3
  subst hx2
  obtain ⟨vg, hvg⟩ : ∃ vg, x1 = some ⟨vg, 0, none⟩ := by
    rcases ho3.2 with ⟨_, e⟩ | ⟨g, cap, cur, hv, hb', hh, _⟩
    · simp at e
    · simp only [Value.slice.injEq] at hv
      exact ⟨g, hv.1⟩
  subst hvg
  have k1 : w3.cell? ⟨vg, 0, none⟩ = some (.int .i64 2) := by rw [ho3.cellAt _ (by simp)]; rfl
  have HG3 : Hid (W.grownBy w3 none) := grown_trans HG1.out (grown_trans HG12.out hg3)
  have HC3 := hide (pres_grown (grown_trans HG12.out hg3) _ _ HC1.out)
  clear ho3 hg3 HC1 HCP HL2 HG12 HG1
  go_upto_region 5 with fail
  clear k1
  obtain ⟨w4, hw4⟩ : ∃ w4, w4 = w3.alloc (.cells (hcl f00) 62) := ⟨_, rfl⟩
  have hw4' : w3.alloc (.cells #[.slice none 0 0, .slice none 0 0, .slice none 0 0, .slice none 0 0, .slice none 0 0, .int .i64 0, .slice none 0 0, .slice none 0 0, .slice none 0 0, .slice none 0 0, .slice none 0 0, .slice none 0 0, .slice none 0 0, .slice none 0 0, .slice none 0 0, .slice none 0 0] 62) = w4 := by rw [hw4]; rfl
  rw [hw4']
  have HG34 : Hid (w3.grownBy w4 none) := by unfold Hid; rw [hw4]; exact grown_alloc (grown_refl _ _)
  have hz4 : Hz w3.heap.size w4 w3.heap.size (setW (fun _ => .other) w3.heap.size .hands) 0 f00 (fun _ => []) := Hz.start (by rw [hw4]; exact heap_alloc_new w3 _)
  have HS3 := hide (HS.out.pres (pres_grown HG3.out))
  have HP3 : Hid (ProgAt w3 (.agg #[.slice ao p.length cap]) p) := HP.out.pres (pres_grown HG3.out)
  have HI3 : Hid (IntsAt w3.heap.size w3 (.slice so a.length sc) a) := (HI.out.pres (pres_grown HG3.out)).mono HG3.out.size
  have HN3 : Hid (ProgNil w3 (.agg #[.slice ao p.length cap])) := fun g o n cp t rv e ht hc => by
    simp only [Value.agg.injEq, Array.mk.injEq, List.cons.injEq, Value.slice.injEq, and_true] at e
    obtain ⟨e1, e2, e3⟩ := e
    subst e1 e2 e3
    obtain ⟨ao', cap', e, hh⟩ := HP.out
    simp only [Value.agg.injEq, Array.mk.injEq, List.cons.injEq, Value.slice.injEq, and_true, true_and] at e
    obtain ⟨g', o', e1, rv', e2, _⟩ := hh t ht
    rw [← e.1] at e1
    simp only [Option.some.injEq, Addr.mk.injEq, and_true] at e1
    obtain ⟨rfl, rfl⟩ := e1
    have e3 := pres_grown HG3.out _ _ e2
    rw [e3] at hc
    simp only [Option.some.injEq] at hc
    rw [← hc]
    exact HPN.out g o p.length cap t rv' rfl ht e2
  have HF1 := hide (shortened_g w3 w3.heap.size w4 w3.heap.size _ 0 f00 _ _ _ p a fuel hz4 HG34.out (Nat.le_refl _) HS3.out HP3.out HI3.out HNL.out hfu hpl HPC.out hal (by omega) (by omega) (fun c _ => by simp))
  rw [hpt] at HF1
  clear hw4 hw4' hz4
  have c4 := pres_grown HG34.out _ _ HC3.out
  go_wp2_with fail
  refine HF1.out.mono ?_
  clear HF1 c4
  rintro e w5 ⟨rfl, who5, f5, K5, hz5, hg5, hk5⟩
  have c5 := pres_grown hg5 _ _ HC3.out
  have HK5 : Hid (∀ c, c < 5 → (K5 c).length ≤ 4) := fun c hc => by have := hk5 c hc; simpa using this
  have HF2 := hide (shortened_g w3 w3.heap.size w5 w3.heap.size _ _ f5 K5 _ _ p a 3 hz5 hg5 (Nat.le_refl _) HS3.out HP3.out HI3.out HNL.out (by omega) hpl HPC.out hal (by omega) (by omega) (fun c hc => by have := HK5.out c hc; omega))
  rw [hpt] at HF2
  clear hz5 hg5 hk5
  go_wp2_with fail
  refine HF2.out.mono ?_
  clear HF2 c5
  rintro e w6 ⟨rfl, who6, f6, K6, hz6, hg6, hk6⟩
  have c6 := pres_grown hg6 _ _ HC3.out
  have HK6 : Hid (∀ c, c < 5 → (K6 c).length ≤ 8) := fun c hc => by have := hk6 c hc; have := HK5.out c hc; omega
  have HF3 := hide (shortened_g w3 w3.heap.size w6 w3.heap.size _ _ f6 K6 _ _ p a fuel hz6 hg6 (Nat.le_refl _) HS3.out HP3.out HI3.out HNL.out hfu hpl HPC.out hal (by omega) (by omega) (fun c hc => by have := HK6.out c hc; omega))
  rw [hpt] at HF3
  clear hz6 hg6 hk6 HK5
  go_wp2_with fail
  refine HF3.out.mono ?_
  clear HF3 c6
  rintro e w10 ⟨rfl, who10, f10, K10, hz10, hg10, hk10⟩
  have c10 := pres_grown hg10 _ _ HC3.out
  have HF6 := hide (again_g w3 w3.heap.size w10 w3.heap.size _ _ f10 K10 _ _ p a 2 hz10 hg10 (Nat.le_refl _) HS3.out HP3.out HN3.out HI3.out HNL.out hpl HPC.out hal askedS_m)
  rw [hpt] at HF6
  clear hz10 hg10 hk10 HK6
  go_wp2_with fail
  refine HF6.out.mono ?_
  clear HF6 c10
  rintro e w11 ⟨rfl, who11, f11, K11, hz11, hg11, hk11⟩
  have HG11 : Hid (W.grownBy w11 none) := grown_trans HG3.out hg11
  clear hz11 hg11 hk11
  go_wp2_with fail
  go_ret
  exact ⟨rfl, HG11.out⟩

end Go.Proofs.YtklenjmfalljgaaDoor

/- From the rows' readings to the walks' facts. -/
namespace Go.Proofs.YtklenjmfalljgaaDoor
open Go.ChangeShapes Go.WideShapes Go.ChangeAt Go.RowKit

theorem own : ownKnob Tryd.prog.godebug = none := by kernel_rfl
theorem laidOut : laidOutB Tryd.prog = true := by kernel_rfl
theorem gShp : Tryd.prog.globalNamed "rerun/machine.shapes" = some 0 := by kernel_rfl
theorem tShp : (Tryd.prog.globals[0]?).map (·.type) = some 263 := by kernel_rfl
theorem cInt : Tryd.prog.cellsOf 3 = 1 := by kernel_rfl
theorem cInts : Tryd.prog.cellsOf 22 = 1 := by kernel_rfl
theorem cShape : Tryd.prog.cellsOf 262 = 3 := by kernel_rfl
theorem cKind : Tryd.prog.cellsOf 260 = 1 := by kernel_rfl

theorem grown_below {w w' : World} (h : w.grownBy w' none) : Below w.heap.size w w' := ⟨h.os, h.tape, h.output, h.size, fun k hk => h.block k hk (by simp)⟩

theorem lt_cell {w : World} {a : Addr} {v : Value} (h : w.cell? a = some v) : a.block < w.heap.size := by
  unfold World.cell? at h
  split at h
  · rename_i hh; exact (Array.getElem?_eq_some_iff.1 hh).1
  · cases h

theorem addr_form {w : World} {a : Addr} {j : Nat} {v : Value} (h0 : a.spot = none) (h : w.cell? (a.add j) = some v) : w.cell? ⟨a.block, a.off + j, none⟩ = some v := by
  have e : a.add j = ⟨a.block, a.off + j, none⟩ := by
    obtain ⟨b, o, s⟩ := a
    simp only at h0
    subst h0
    unfold Addr.add; split <;> simp_all
  rw [e] at h; exact h

section
variable {H : Type} {enc : TypeId × Value → H} {W : World}

theorem intsAt_of {fuel : Nat} {cs : List Value} {x : DataW H × List MemPlace} (h : DataW.trod enc Tryd.prog W 0 (fun _ => true) true fuel 22 cs = some x) :
    ∃ v l, cs = [v] ∧ IntsAt W.heap.size W v l ∧ ∀ k (hk : k < l.length), isInt l[k] := by
  rcases open_ints Tryd.underlying22 Tryd.underlying3 cInt h with ⟨rfl, _⟩ | ⟨a, len, cap, zs, rfl, _, hl, _, hz, _, hc, hw⟩
  · exact ⟨_, [], rfl, ⟨none, 0, rfl, Nat.le_refl _, fun k hk => by simp at hk⟩, fun k hk => by simp at hk⟩
  · simp only [if_true] at hz
    have hlen : (zs.take len).length = len := by simp; omega
    refine ⟨_, zs.take len, rfl, ⟨some a, cap, by rw [hlen], by omega, fun k hk => ?_⟩, fun k hk => ?_⟩
    · have h0 : a.spot = none := by
        have := hc 0 (by omega)
        exact World.cell?_spot (w := W) (by simpa [Addr.add] using this)
      have hkz : k < zs.length := by omega
      have := hc k hkz
      refine ⟨a.block, a.off, ?_, lt_cell (a := ⟨a.block, a.off + k, none⟩) (addr_form h0 this), ?_⟩
      · obtain ⟨b, o, s⟩ := a
        simp only at h0; subst h0; rfl
      · rw [addr_form h0 this]
        simp [List.getD, hkz]
    · have hkz : k < zs.length := by omega
      have := hw zs[k] (List.getElem_mem hkz)
      simp only [List.getElem_take]
      simpa [Lit.wf, IntKind.min, IntKind.max, IntKind.signed, IntKind.bits, isInt] using this

theorem rawAt_of {fuel : Nat} {cs : List Value} {x : DataW H × List MemPlace} (h : DataW.trod enc Tryd.prog W 0 (fun _ => true) true fuel 41 cs = some x) :
    ∃ v l, cs = [v] ∧ RawAt W v l ∧ ∀ t (ht : t < l.length) k (hk : k < l[t].length), isInt l[t][k] := by
  rcases Deep.open_slice1 Tryd.underlying41 cInts h with ⟨rfl, _⟩ | ⟨a, len, cap, m, n, V, D, Pl, rfl, _, hl, _, hm, _, hx⟩
  · exact ⟨_, [], rfl, ⟨none, 0, rfl, fun k hk => by simp at hk⟩, fun k hk => by simp at hk⟩
  · simp only [if_true] at hm
    obtain ⟨f, hf⟩ := Deep.choose_lt (α := List Int) (n := len) (p := fun i l => IntsAt W.heap.size W (V i) l ∧ ∀ k (hk : k < l.length), isInt l[k]) (fun i hi => by
      obtain ⟨v, l, e, h1, h2⟩ := intsAt_of (hx i (by omega)).2
      simp only [List.cons.injEq, and_true] at e
      rw [← e] at h1
      exact ⟨l, h1, h2⟩)
    have hlen : ((List.range len).map f).length = len := by simp
    refine ⟨_, (List.range len).map f, rfl, ⟨some a, cap, by rw [hlen], fun t ht => ?_⟩, fun t ht => ?_⟩
    · have ht' : t < len := by omega
      have h0 : a.spot = none := by
        have := (hx 0 (by omega)).1
        exact World.cell?_spot (w := W) (by simpa [Addr.add] using this)
      refine ⟨a.block, a.off, ?_, V t, addr_form h0 (hx t (by omega)).1, ?_⟩
      · obtain ⟨b, o, s⟩ := a
        simp only at h0; subst h0; rfl
      · simpa using (hf t ht').1
    · have ht' : t < len := by omega
      simpa using (hf t ht').2

set_option maxRecDepth 100000 in
theorem ints_arg {v : Value} {d : DataW H} {ps : List MemPlace} {base : Nat} (hval : Value.okWide Tryd.prog W .any base 22 v) (h : DataW.Trod enc Tryd.prog W 0 (fun _ => true) true 22 v d ps) :
    ∃ l, IntsAt W.heap.size W v l ∧ ∀ k (hk : k < l.length), isInt l[k] := by
  obtain ⟨a, len, cap, rfl⟩ := okWide_slice Tryd.underlying22 hval
  obtain ⟨fuel, hf⟩ := h
  obtain ⟨v', l, e, h1, h2⟩ := intsAt_of hf
  simp [Value.cells] at e
  rw [← e] at h1
  exact ⟨l, h1, h2⟩
set_option maxRecDepth 100000 in
theorem raw_arg {v : Value} {d : DataW H} {ps : List MemPlace} {base : Nat} (hval : Value.okWide Tryd.prog W .any base 41 v) (h : DataW.Trod enc Tryd.prog W 0 (fun _ => true) true 41 v d ps) :
    ∃ l, RawAt W v l ∧ ∀ t (ht : t < l.length) k (hk : k < l[t].length), isInt l[t][k] := by
  obtain ⟨a, len, cap, rfl⟩ := okWide_slice Tryd.underlying41 hval
  obtain ⟨fuel, hf⟩ := h
  obtain ⟨v', l, e, h1, h2⟩ := rawAt_of hf
  simp [Value.cells] at e
  rw [← e] at h1
  exact ⟨l, h1, h2⟩
set_option maxRecDepth 100000 in
theorem int_arg {v : Value} {d : DataW H} {ps : List MemPlace} {base : Nat} (hval : Value.okWide Tryd.prog W .any base 3 v) (h : DataW.Trod enc Tryd.prog W 0 (fun _ => true) true 3 v d ps) :
    ∃ n, v = .int .i64 n ∧ isInt n := by
  obtain ⟨n, rfl, _, _, hw⟩ := open_int Tryd.underlying3 hval h
  exact ⟨n, rfl, by simpa [Lit.wf, IntKind.min, IntKind.max, IntKind.signed, IntKind.bits, isInt] using hw⟩
end

theorem shp_tab (o j : Nat) (ho : o < 12) (hj : j < 3) (l : List (DataW Unit)) (h : (DataW.agg l : DataW Unit) = (match (Rows.laid_rerun_machine_shapes : DataW Unit) with | .agg l => l[o]?.getD .nil | _ => .nil)) : l[j]? = some (.lit (.int .i64 (shp o j))) := by
  have ho' : o = 0 ∨ o = 1 ∨ o = 2 ∨ o = 3 ∨ o = 4 ∨ o = 5 ∨ o = 6 ∨ o = 7 ∨ o = 8 ∨ o = 9 ∨ o = 10 ∨ o = 11 := by omega
  have hj' : j = 0 ∨ j = 1 ∨ j = 2 := by omega
  rcases ho' with rfl | rfl | rfl | rfl | rfl | rfl | rfl | rfl | rfl | rfl | rfl | rfl <;> (simp [Rows.laid_rerun_machine_shapes] at h; subst h; rcases hj' with rfl | rfl | rfl <;> rfl)

theorem shp_one {W : World} {g0 : Nat} {t0 : TypeId} {cs0 : Array Value} {f0 : Nat} {p0 : List MemPlace} (hg0 : Tryd.prog.globalNamed "rerun/machine.shapes" = some g0) (ht0 : (Tryd.prog.globals[g0]?).map (·.type) = some t0) (hv0 : W.var? Tryd.prog "rerun/machine.shapes" = some cs0)
    (hd0 : DataW.trod (fun _ => ()) Tryd.prog W 0 (fun _ => true) false f0 t0 cs0.toList = some (Rows.laid_rerun_machine_shapes, p0)) : ShpAt W := by
  obtain rfl := Option.some.inj (gShp.symm.trans hg0)
  obtain rfl := Option.some.inj (tShp.symm.trans ht0)
  obtain ⟨xs, m1, rfl, hx1, hlen, hn12, hel⟩ := DataW.trod_array Tryd.underlying263 hd0
  simp only [Prod.mk.injEq] at hx1
  intro o j ho hj
  have hox : o < xs.length := by omega
  have h1 := hel o ho
  rw [cShape, List.getElem?_eq_getElem hox] at h1
  obtain ⟨ys, m2, rfl, hy1, hylen, hn3, hfe⟩ := DataW.trod_struct Tryd.underlying262 h1
  have hdo : (DataW.agg (ys.map (·.1)) : DataW Unit) = xs[o].1 := by rw [hy1]
  have hxo : (xs.map (·.1))[o]? = some xs[o].1 := by simp [hox]
  have hdat : (DataW.agg (ys.map (·.1)) : DataW Unit) = (match (Rows.laid_rerun_machine_shapes : DataW Unit) with | .agg l => l[o]?.getD .nil | _ => .nil) := by
    rw [hdo, hx1.1]; simp [hox]
  have hyj := shp_tab o j ho hj _ hdat
  have hjl : j < ys.length := by rw [hn3]; simpa using hj
  have hf : DataW.trod (fun _ => ()) Tryd.prog W 0 (fun _ => true) false m2 260 ((((cs0.toList.drop (o * 3)).take 3).drop j).take 1) = some ys[j] := by
    have hj' : j = 0 ∨ j = 1 ∨ j = 2 := by omega
    rcases hj' with rfl | rfl | rfl
    · have := hfe 0 _ rfl; rw [List.getElem?_eq_getElem hjl] at this; simpa [cKind] using this
    · have := hfe 1 _ rfl; rw [List.getElem?_eq_getElem hjl] at this; simpa [cKind] using this
    · have := hfe 2 _ rfl; rw [List.getElem?_eq_getElem hjl] at this; simpa [cKind] using this
  obtain ⟨k, e1, e2, _⟩ := DataW.trod_int Tryd.underlying260 hf
  have hk : k = shp o j := by
    rw [List.getElem?_map, List.getElem?_eq_getElem hjl, e2] at hyj
    simpa using hyj
  have hcell := World.var?_cell hg0 hv0 (o * 3 + j)
  have hc : cs0[o * 3 + j]? = some (.int .i64 k) := by
    have h0 := congrArg (fun l => l[0]?) e1
    simp [hj] at h0
    exact h0
  rw [hk] at hc
  rw [hcell]; exact hc

theorem shp_of_laid {W : World} (h : laidMetH Tryd.prog [("rerun/machine.shapes", Rows.laid_rerun_machine_shapes)] W) : ShpAt W := by
  rw [MakeChecks.laidMetH_plain _ _ _ (by kernel_rfl)] at h
  obtain ⟨ps, ⟨g0, t0, cs0, f0, p0, q0, hg0, ht0, hv0, hd0, _, _⟩, _, _⟩ := h
  exact shp_one hg0 ht0 hv0 hd0

end Go.Proofs.YtklenjmfalljgaaDoor

/- Programs as arguments, and how great they are. -/
namespace Go.Proofs.YtklenjmfalljgaaDoor
open Go.ChangeShapes Go.WideShapes Go.ChangeAt Go.RowKit Go.Joins

theorem bulkOne {H : Type} (d : DataW H) : 1 ≤ Rows.uptoBulk d := by
  cases d with
  | lit l => cases l <;> simp [Rows.uptoBulk]
  | nil => simp [Rows.uptoBulk]
  | ptr d => simp [Rows.uptoBulk]
  | slice elems spare => simp [Rows.uptoBulk]
  | agg parts => simp [Rows.uptoBulk]
  | iface t d => simp [Rows.uptoBulk]
  | map entries => simp [Rows.uptoBulk]
  | held h => simp [Rows.uptoBulk]
theorem bulkLen {H : Type} (l : List (DataW H)) : l.length ≤ Rows.uptoBulkAll l := by
  induction l with
  | nil => simp [Rows.uptoBulkAll]
  | cons x r ih => have := bulkOne x; simp only [Rows.uptoBulkAll, List.length_cons]; omega
theorem bulkIn {H : Type} (l : List (DataW H)) (d : DataW H) (h : d ∈ l) : Rows.uptoBulk d ≤ Rows.uptoBulkAll l := by
  induction l with
  | nil => cases h
  | cons x r ih =>
    simp only [Rows.uptoBulkAll]
    rcases List.mem_cons.1 h with rfl | h
    · omega
    · have := ih h; omega

theorem cIns : Tryd.prog.cellsOf 28 = 4 := by kernel_rfl
theorem cCode : Tryd.prog.cellsOf 29 = 1 := by kernel_rfl
theorem cRows : Tryd.prog.cellsOf 23 = 1 := by kernel_rfl
theorem cProg : Tryd.prog.cellsOf 25 = 1 := by kernel_rfl

section
variable {H : Type} {enc : TypeId × Value → H} {W : World}

set_option maxRecDepth 100000 in
theorem ins_of {fuel : Nat} {cs : List Value} {x : DataW H × List MemPlace} (h : DataW.trod enc Tryd.prog W 0 (fun _ => true) true fuel 28 cs = some x) : ∃ i : Ins, cs = [.int .i64 i.op, .int .i64 i.a, .int .i64 i.b, .int .i64 i.n] := by
  obtain ⟨y0, y1, y2, y3, n, _, hl, h0, h1, h2, h3⟩ := trod_struct4 Tryd.underlying28 h
  rw [cIns] at hl
  match cs, hl with
  | [v0, v1, v2, v3], _ =>
    simp only [cInt, List.drop_zero, List.drop_succ_cons, List.take_succ_cons, List.take_zero] at h0 h1 h2 h3
    obtain ⟨k0, e0, _⟩ := DataW.trod_int Tryd.underlying3 h0
    obtain ⟨k1, e1, _⟩ := DataW.trod_int Tryd.underlying3 h1
    obtain ⟨k2, e2, _⟩ := DataW.trod_int Tryd.underlying3 h2
    obtain ⟨k3, e3, _⟩ := DataW.trod_int Tryd.underlying3 h3
    simp only [List.cons.injEq, and_true] at e0 e1 e2 e3
    subst e0 e1 e2 e3
    exact ⟨⟨k0, k1, k2, k3⟩, rfl⟩

set_option maxRecDepth 100000 in
theorem codeAt_of {fuel : Nat} {v : Value} {x : DataW H × List MemPlace} (h : DataW.trod enc Tryd.prog W 0 (fun _ => true) true fuel 29 [v] = some x) : ∃ c, CodeAt W v c ∧ nilA v ∧ c.length ≤ Rows.uptoBulk x.1 := by
  rcases Deep.open_slice Tryd.underlying29 h with ⟨e, _⟩ | ⟨a, len, cap, m, n, D, Pl, e, _, hl, _, hm, hx, hel⟩
  · simp only [List.cons.injEq, and_true] at e
    subst e
    exact ⟨[], ⟨none, 0, rfl, fun k hk => by simp at hk⟩, fun n c e => by simp at e; omega, by simp⟩
  · simp only [List.cons.injEq, and_true] at e
    subst e
    simp only [if_true] at hm
    rw [cIns] at hel
    have hinh : Inhabited Ins := ⟨⟨0, 0, 0, 0⟩⟩
    obtain ⟨f, hf⟩ := Deep.choose_lt (α := Ins) (n := len) (p := fun k i => W.cell? (a.add (k * 4)) = some (.int .i64 i.op) ∧ W.cell? (a.add (k * 4 + 1)) = some (.int .i64 i.a) ∧ W.cell? (a.add (k * 4 + 2)) = some (.int .i64 i.b) ∧ W.cell? (a.add (k * 4 + 3)) = some (.int .i64 i.n)) (fun k hk => by
      obtain ⟨cs', h1, h2⟩ := hel k (by omega)
      obtain ⟨i, rfl⟩ := ins_of h2
      obtain ⟨_, _, h3⟩ := World.cells?_some h1
      refine ⟨i, ?_, ?_, ?_, ?_⟩
      · have := h3 0 (by omega); rw [Deep.add_add] at this; simpa using this
      · have := h3 1 (by omega); rw [Deep.add_add] at this; simpa using this
      · have := h3 2 (by omega); rw [Deep.add_add] at this; simpa using this
      · have := h3 3 (by omega); rw [Deep.add_add] at this; simpa using this)
    have hlen : ((List.range len).map f).length = len := by simp
    refine ⟨(List.range len).map f, ⟨some a, cap, by rw [hlen], fun k hk => ?_⟩, fun n c e => by simp at e, ?_⟩
    · have hk' : k < len := by omega
      obtain ⟨h0, h1, h2, h3⟩ := hf k hk'
      have hs : a.spot = none := by
        have := (hf 0 (by omega)).1
        exact World.cell?_spot (w := W) (by simpa [Addr.add] using this)
      refine ⟨a.block, a.off, ?_, ?_, ?_, ?_, ?_⟩
      · obtain ⟨b, o, s⟩ := a
        simp only at hs; subst hs; rfl
      · simpa using addr_form hs h0
      · simpa [Nat.add_assoc] using addr_form hs h1
      · simpa [Nat.add_assoc] using addr_form hs h2
      · simpa [Nat.add_assoc] using addr_form hs h3
    · rw [hlen, hx]
      have := bulkLen ((List.range len).map D)
      simp only [Rows.uptoBulk]
      simp at this
      omega

set_option maxRecDepth 100000 in
theorem rowsAt_of {fuel : Nat} {v : Value} {x : DataW H × List MemPlace} (h : DataW.trod enc Tryd.prog W 0 (fun _ => true) true fuel 23 [v] = some x) :
    ∃ p, ProgAt W (.agg #[v]) p ∧ ProgNil W (.agg #[v]) ∧ p.length ≤ Rows.uptoBulk x.1 ∧ ∀ c ∈ p, c.length ≤ Rows.uptoBulk x.1 := by
  rcases Deep.open_slice1 Tryd.underlying23 cCode h with ⟨e, _⟩ | ⟨a, len, cap, m, n, V, D, Pl, e, _, hl, _, hm, hx, hel⟩
  · simp only [List.cons.injEq, and_true] at e
    subst e
    exact ⟨[], ⟨none, 0, rfl, fun k hk => by simp at hk⟩, fun g o n cap t rv e => by simp at e, by simp, fun c hc => by cases hc⟩
  · simp only [List.cons.injEq, and_true] at e
    subst e
    simp only [if_true] at hm
    obtain ⟨f, hf⟩ := Deep.choose_lt (α := List Ins) (n := len) (p := fun k c => CodeAt W (V k) c ∧ nilA (V k) ∧ c.length ≤ Rows.uptoBulk (D k)) (fun k hk => codeAt_of (hel k (by omega)).2)
    have hlen : ((List.range len).map f).length = len := by simp
    have hs : 0 < len → a.spot = none := fun h0 => by
      have := (hel 0 (by omega)).1
      exact World.cell?_spot (w := W) (by simpa [Addr.add] using this)
    have hall : len + 0 ≤ Rows.uptoBulkAll ((List.range len).map D) := by
      have := bulkLen ((List.range len).map D)
      simp at this; omega
    refine ⟨(List.range len).map f, ⟨some a, cap, by rw [hlen], fun k hk => ?_⟩, fun g o n cp t rv e ht hc => ?_, ?_, fun c hc => ?_⟩
    · have hk' : k < len := by omega
      have h0 := hs (by omega)
      refine ⟨a.block, a.off, ?_, V k, addr_form h0 (hel k (by omega)).1, ?_⟩
      · obtain ⟨b, o, s⟩ := a
        simp only at h0; subst h0; rfl
      · simpa using (hf k hk').1
    · simp only [Value.agg.injEq, Array.mk.injEq, List.cons.injEq, Value.slice.injEq, Option.some.injEq, and_true] at e
      obtain ⟨rfl, rfl, rfl⟩ := e
      have h1 := addr_form rfl (hel t (by omega)).1
      simp only at h1
      rw [h1] at hc
      simp only [Option.some.injEq] at hc
      rw [← hc]
      exact (hf t ht).2.1
    · rw [hlen, hx]
      simp only [Rows.uptoBulk]
      omega
    · obtain ⟨k, hk, rfl⟩ := List.mem_map.1 hc
      have hk' : k < len := by simpa using hk
      have h1 := (hf k hk').2.2
      have h2 := bulkIn ((List.range len).map D) (D k) (List.mem_map.2 ⟨k, hk, rfl⟩)
      rw [hx]
      simp only [Rows.uptoBulk]
      omega

set_option maxRecDepth 100000 in
theorem prog_argB {v : Value} {d : DataW H} {ps : List MemPlace} {base : Nat} (hval : Value.okWide Tryd.prog W .any base 25 v) (h : DataW.Trod enc Tryd.prog W 0 (fun _ => true) true 25 v d ps) :
    ∃ p, ProgAt W v p ∧ ProgNil W v ∧ p.length ≤ Rows.uptoBulk d ∧ ∀ c ∈ p, c.length ≤ Rows.uptoBulk d := by
  obtain ⟨cs, rfl, hsz⟩ := okWide_struct Tryd.underlying25 hval
  obtain ⟨fuel, hf⟩ := h
  obtain ⟨y0, n, hx, hl, h0⟩ := trod_struct1 Tryd.underlying25 hf
  rw [cProg] at hsz
  obtain ⟨l⟩ := cs
  match l, hsz with
  | [c0], _ =>
    have h0' : DataW.trod enc Tryd.prog W 0 (fun _ => true) true n 23 [c0] = some y0 := by simpa [Value.cells, cRows] using h0
    obtain ⟨p, h1, h2, h3, h4⟩ := rowsAt_of h0'
    have hd : d = .agg [y0.1] := congrArg Prod.fst hx
    have hb : Rows.uptoBulk y0.1 ≤ Rows.uptoBulk d := by
      rw [hd]
      simp only [Rows.uptoBulk, Rows.uptoBulkAll]
      omega
    exact ⟨p, h1, h2, Nat.le_trans h3 hb, fun c hc => Nat.le_trans (h4 c hc) hb⟩

set_option maxRecDepth 100000 in
theorem ints_argN {v : Value} {d : DataW H} {ps : List MemPlace} {base : Nat} (hval : Value.okWide Tryd.prog W .any base 22 v) (h : DataW.Trod enc Tryd.prog W 0 (fun _ => true) true 22 v d ps) :
    ∃ l, IntsAt W.heap.size W v l ∧ nilA v ∧ l.length ≤ Rows.uptoBulk d := by
  obtain ⟨a0, len0, cap0, rfl⟩ := okWide_slice Tryd.underlying22 hval
  obtain ⟨fuel, hf⟩ := h
  rcases open_ints Tryd.underlying22 Tryd.underlying3 cInt hf with ⟨e, _⟩ | ⟨a, len, cap, zs, e, _, hl, _, hz, hx, hc, hw⟩
  · simp [Value.cells] at e
    rw [e.1, e.2.1, e.2.2]
    exact ⟨[], ⟨none, 0, rfl, Nat.le_refl _, fun k hk => by simp at hk⟩, fun n c e => by simp at e; omega, by simp⟩
  · simp [Value.cells] at e
    rw [e.1, e.2.1, e.2.2]
    simp only [if_true] at hz
    have hlen : (zs.take len).length = len := by simp; omega
    refine ⟨zs.take len, ⟨some a, cap, by rw [hlen], by omega, fun k hk => ?_⟩, fun n c e => by simp at e, ?_⟩
    · have h0 : a.spot = none := by
        have := hc 0 (by omega)
        exact World.cell?_spot (w := W) (by simpa [Addr.add] using this)
      have hkz : k < zs.length := by omega
      have := hc k hkz
      refine ⟨a.block, a.off, ?_, lt_cell (a := ⟨a.block, a.off + k, none⟩) (addr_form h0 this), ?_⟩
      · obtain ⟨b, o, s⟩ := a
        simp only at h0; subst h0; rfl
      · rw [addr_form h0 this]
        simp [List.getD, hkz]
    · have hd : d = .slice (lits .i64 (zs.take len)) (lits .i64 (zs.drop len)) := congrArg Prod.fst hx
      rw [hd]
      have := bulkLen (lits (H := H) .i64 (zs.take len))
      have hll : (lits (H := H) .i64 (zs.take len)).length = (zs.take len).length := by simp [lits]
      simp only [Rows.uptoBulk]
      omega
end

end Go.Proofs.YtklenjmfalljgaaDoor

/- The second form's card of Shortens: where what is read is of bulk at most the bound, every Shorten is as the reference says, whatever the owner does with what came out and with what was lent. -/
namespace Go.Proofs.YtklenjmfalljgaaDoor
open Go.ChangeShapes Go.WideShapes Go.ChangeAt Go.RowKit

set_option maxRecDepth 100000 in
/-- What the walk gives, for every argument within the bound and every world that holds the table. -/
theorem shortens_contract (H : Type) (enc : TypeId × Value → H) (W : World) (base : Nat) (args : Array Value) (ds gs : List (DataW H)) (before : List MemPlace)
    (hval : ∀ (j : Nat) t v, Tryd.f8.params[j]? = some t → args[j]? = some v → Value.okWide Tryd.prog W .any base t v)
    (hW : DataW.Whole enc Tryd.prog Tryd.f8.params.toList Rows.shortensSpec.vars false W args.toList ds gs before) (hk : Rows.uptoSmall H (ds ++ gs) = true) (hL : laidMetH Tryd.prog Rows.shortensUptoRow.laid W) :
    Calls Tryd.prog 8 args W fun e W' => ∃ v, e = .returned v ∧ Rows.shortensSpec.post enc Tryd.prog Tryd.f8 false true false false W args v W' := by
  have hW' := hW
  obtain ⟨p, q, hA0, hV, rfl, hfz, hnd⟩ := hW
  have hA : DataW.TrodAll enc Tryd.prog W 0 (fun _ => true) true Tryd.f8.params.toList args.toList ds p := hA0
  rw [Tryd.params8] at hA hval
  obtain ⟨v0, v1, v2, d0, d1, d2, p0, p1, p2, rfl, rfl, rfl, h0, h1, h2⟩ := trodAll_three hA
  obtain ⟨rfl, rfl⟩ := trodVars_none hV
  clear hA0
  have hbulk := of_decide_eq_true hk
  simp only [List.append_nil, Rows.uptoBulkAll] at hbulk
  obtain ⟨p, hp, hpn, hpl, hpc⟩ := prog_argB (hval 0 25 v0 rfl rfl) h0
  obtain ⟨a, ha, han, hal⟩ := ints_argN (hval 1 22 v1 rfl rfl) h1
  obtain ⟨n, hn0, hn⟩ := int_arg (hval 2 3 v2 rfl rfl) h2
  subst hn0
  refine (shortens_m W v0 v1 n p a (shp_of_laid hL) hp hpn ha han hn.2 (by omega) (fun c hc => by have := hpc c hc; omega) (by omega)).mono fun e W' ⟨he, hg⟩ => ?_
  subst he
  have hb := grown_below hg
  have hlt : ∀ x ∈ p0 ++ p1 ++ p2, x.block < W.heap.size := fun x hx => by simpa using hW'.lt x (by simpa using hx)
  refine ⟨_, rfl, _, _, _, [] ++ [], p0 ++ (p1 ++ p2), [], hW', trodAll_cons_mk (shut_bool Tryd.underlying4 _) trodAll_mk0, ?_, rfl, hb.frame _, fun h => by cases h⟩
  rw [Tryd.params8]
  exact trodAll_mk3 (p := p0) (p' := p1) (p'' := p2) (Below.trod laidOut (by kernel_rfl) (of_decide_eq_true (by kernel_rfl)) h0 hb (fun x hx => hlt x (by simp [hx]))) (Below.trod laidOut (by kernel_rfl) (of_decide_eq_true (by kernel_rfl)) h1 hb (fun x hx => hlt x (by simp [hx])))
    (Below.trod laidOut (by kernel_rfl) (of_decide_eq_true (by kernel_rfl)) h2 hb (fun x hx => hlt x (by simp [hx])))

theorem shortens_laid (os : Os) : laidMetH Tryd.prog Rows.shortensUptoRow.laid ((World.doorLaid Tryd.prog 400 os).forCall (fun _ _ => 0) ⟨#[], #[.agg #[.slice none 0 0], .slice none 0 0, .int .i64 0], []⟩).memory :=
  laidMetH_of_parts3 (fuel := 8) (laidMet_of_run' 8 (by kernel_rfl) (by kernel_rfl)) (by kernel_rfl) (by kernel_rfl)
theorem shortens_reads (os : Os) {H : Type} (enc : TypeId × Value → H) : ∃ places, DataW.whole enc Tryd.prog ((World.doorLaid Tryd.prog 400 os).forCall (fun _ _ => 0) ⟨#[], #[.agg #[.slice none 0 0], .slice none 0 0, .int .i64 0], []⟩).memory Tryd.f8.params.toList Rows.shortensSpec.vars false #[Value.agg #[.slice none 0 0], .slice none 0 0, .int .i64 0].toList 8 = some ([.agg [.nil], .nil, .lit (.int .i64 0)], [], places) :=
  ⟨[], by kernel_rfl⟩

set_option maxRecDepth 100000 in
theorem shortens_lifted (os : Os) (started : os.Started) (H : Type) (enc : TypeId × Value → H) (F : Stop.Interp) :
    ReturnsInHanded {} Tryd.checked os 8 .any ((Rows.OpenSpec.upto Rows.shortensSpec).preRow enc Tryd.prog Tryd.f8 Rows.shortensUptoRow.domain false Rows.shortensUptoRow.laid) (((Rows.OpenSpec.upto Rows.shortensSpec).at F).post enc Tryd.prog Tryd.f8 false true false false) := by
  obtain ⟨places, hx⟩ := shortens_reads os enc
  refine returnsInHanded_of_row (C := Tryd.checked) (s := Rows.OpenSpec.upto Rows.shortensSpec) own started (by kernel_rfl) Tryd.func8
    (witness_row_atRef (enc := enc) (C := Tryd.checked) false (World.doorLaid Tryd.prog 400 os) #[.agg #[.slice none 0 0], .slice none 0 0, .int .i64 0] rfl (by kernel_rfl) (by kernel_rfl) (by kernel_rfl)
      (OpenSpec.preRow_of_cond 8 hx (by kernel_rfl) (fun k hk => by cases hk; kernel_rfl) (by kernel_rfl) (shortens_laid os))) ?_
  intro W base args ds gs before hval hW _ hcond _ hL _ _
  exact shortens_contract H enc W base args ds gs before hval hW (hcond _ rfl) hL

theorem shortens_said : Rows.ShortensUptoSaid :=
  OpenClaim.holds_of_cond 8 Tryd.f8 rfl rfl rfl rfl rfl rfl rfl ⟨rfl, rfl, rfl, rfl, rfl⟩ rfl rfl rfl rfl rfl (by kernel_rfl) Tryd.func8 (by kernel_rfl)
    (of_decide_eq_true (by kernel_rfl)) (by unfold Func.isWrapper; first | (rw [if_pos (by decide +kernel)]; kernel_rfl) | (rw [if_neg (by decide +kernel)]; exact ⟨rfl, rfl⟩))
    (fun os started H enc _ F => by rw [OpenClaim.pre_eq_preRow]; exact shortens_lifted os started H enc F)

theorem shortens_plain (f : FuncId) (fn : Func) (hf : Tryd.pinned.checked.prog.funcNamed "rerun/rerunlaw.Shortens" = some f) (hfn : Tryd.pinned.checked.prog.funcs[f]? = some fn) :
    Rows.shortensUptoCard.stood.looks = Tryd.pinned.checked.prog.looks [] ∧ ∀ (j : Nat) t, fn.params[j]? = some t → Tryd.pinned.checked.prog.wantsStandIn t = false := by
  obtain rfl : f = 8 := Option.some.inj ((show Tryd.prog.funcNamed "rerun/rerunlaw.Shortens" = some 8 by kernel_rfl).symm.trans hf) |>.symm
  obtain rfl : fn = Tryd.f8 := (Option.some.inj (Tryd.func8.symm.trans hfn)).symm
  refine ⟨by kernel_rfl, fun j t ht => ?_⟩
  rw [Tryd.params8] at ht
  have hm : t ∈ [25, 22, 3] := by simpa using Array.mem_of_getElem? ht
  have hall : ([25, 22, 3].all fun u => !Tryd.prog.wantsStandIn u) = true := by kernel_rfl
  exact (show Tryd.prog.wantsStandIn t = false by simpa using List.all_eq_true.1 hall t hm)

theorem shortens_card : Rows.ShortensUptoCardSaid :=
  Claim7.holds_tied_plain_at .later [] _ _ _ _ shortens_said (fun _ h => by cases h) (by kernel_rfl) (fun _ h => by cases h) shortensUpto_row_tie rfl ⟨rfl, rfl⟩ (by kernel_rfl) rfl shortens_plain (by kernel_rfl)
#print axioms shortens_card

end Go.Proofs.YtklenjmfalljgaaDoor
