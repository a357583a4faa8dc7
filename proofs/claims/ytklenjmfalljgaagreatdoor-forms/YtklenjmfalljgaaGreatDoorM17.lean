/- The texts Hgp Hgw. -/
import Derived.Test.YtklenjmfalljgaaGreatDoorM16

/- The walk of the hands' compared. -/
namespace Go.Proofs.YtklenjmfalljgaaGreatDoor
open Go.RowKit
attribute [local go_sem] Go.World.cell?_alloc_some

def sameOut (p : List (List Ins)) (a b : List Int) : Bool := if checkRunsN p [a, b] = 0 then sameS p a b else false
theorem Samed.form {p : List (List Ins)} {a b : List Int} {w w' : World} {e : Ending} (h : Samed p a b w e w') :
    w.grownBy w' none ∧ e = .returned (.tuple #[.bool (sameOut p a b), .int .i64 (checkRunsN p [a, b])]) := by
  obtain ⟨hg, h⟩ := h
  rcases h with ⟨h0, he⟩ | ⟨h0, he⟩
  · exact ⟨hg, by unfold sameOut; rw [if_pos h0, h0]; exact he⟩
  · exact ⟨hg, by unfold sameOut; rw [if_neg h0]; exact he⟩

set_option maxHeartbeats 4000000 in
set_option maxRecDepth 100000 in
theorem compared_e (W : World) (B : Nat) (w : World) (b : Nat) (who : Nat → Role) (n : Int) (f : Nat → Value) (K : Nat → List (Value × Int)) (pv sv tv : Value) (p : List (List Ins)) (s t : List Int)
    (h : Hz B w b who n f K) (hW : W.grownBy w none) (hWB : W.heap.size ≤ B) (hS : ShpAt W) (hP : ProgAt W pv p) (hI : IntsAt W.heap.size W sv s) (hJ : IntsAt w.heap.size w tv t) (hJv : valOther who tv) (hpl : p.length ≤ 5864062014634) (hpc : ∀ c ∈ p, c.length ≤ 4398046510976) (hsl : s.length ≤ 17592186043904) (htl : t.length ≤ 17592186043904) :
    Calls Tryz.prog 21 #[pt b, pv, sv, tv] w (HzE W B b n K w who) := by
  have HH := hide h
  have HW := hide hW
  have HS := hide hS
  have HP := hide hP
  have HI := hide hI
  have HJ := hide (And.intro hJ hJv)
  have HPC := hide hpc
  obtain ⟨ao, cap, rfl⟩ := hP.form
  obtain ⟨so, sc, rfl⟩ := hI.form
  obtain ⟨ta, tc, rfl⟩ := hJ.form
  have hpt : pt b = .pointer (some ⟨b, 0, none⟩) := rfl
  have HPG := hide (program_g W B (w.alloc (.cells #[.slice ao p.length cap] 24)) b who n f K [] [] [] (.agg #[.slice ao p.length cap]) p (h.lx.grown (grown_alloc (grown_refl _ _))) (grown_alloc hW) hWB hP hpl hpc (by simpa using hpl) (by simp))
  clear h hW hS hP hI hJ hJv hpc
  rw [hpt] at HPG ⊢
  go_enter Tryz.func21, Tryz.ntmps21
  go_wp2_with fail
  refine HPG.out.mono ?_
  clear HPG
  rintro e w1 ⟨g, LC1, who1, f1, rfl, hx1, hlc, hf1, hb1⟩
  have hwo : who w.heap.size = .other := by
    by_cases e : who w.heap.size = .other
    · exact e
    · exact absurd (HH.out.1.1.dom _ e).2 (by omega)
  obtain ⟨hbx, hwx⟩ := hf1.oth w.heap.size (by simp) hwo (fun e => e)
  have HW1 : Hid (W.grownBy w1 none) := hf1.base (grown_alloc HW.out) hWB (fun g e => (HH.out.1.1.dom g e).1) (fun _ e => e.elim)
  have HF1 : Hid (Fr w w1 who who1 (fun g => w.heap.size ≤ g)) := (Fr.grown (grown_alloc (grown_refl _ _))).step0 hf1
  have c1 : w1.cell? ⟨w.heap.size, 0, none⟩ = some (.slice ao p.length cap) := by
    simp only [World.cell?, hbx, heap_alloc_new]; rfl
  have hlt1 : w.heap.size < w1.heap.size := World.block_lt_of_cell? w1 _ c1
  have hll : LC1.length = p.length := by rw [← hlc]; simp
  simp only [List.nil_append] at hx1
  have HSG := hide (schedule_g B w1 b who1 n f1 K [] LC1 [(g, p.length)] 0 (.slice so s.length sc) s hx1 ((HI.out.pres (pres_grown HW1.out)).mono HW1.out.size) (val_other hx1.hs hWB HI.out) hsl (by simp))
  have HJ1 := hide (int_keeps HJ.out.1 HJ.out.2 ((Fr.grown (grown_alloc (grown_refl _ _))).trans hf1))
  have HX1 := hide hx1
  have HLC := hide hlc
  have HWX := hide hwx
  have HLL := hide hll
  have HC1 := hide c1
  clear hx1 hlc hf1 hb1 hbx hwo hwx hll c1
  rw [hpt] at HSG
  go_wp2_with fail
  refine HSG.out.mono ?_
  clear HSG
  rintro e w2 ⟨gs, who2, f2, rfl, hx2, hf2⟩
  simp only [List.nil_append] at hx2
  have HW2 : Hid (W.grownBy w2 none) := hf2.base HW1.out hWB (fun g e => (HX1.out.hs.1.dom g e).1) (fun _ e => e.elim)
  have HF2 : Hid (Fr w w2 who who2 (fun g => w.heap.size ≤ g)) := HF1.out.step0 hf2
  obtain ⟨hbx, hwx⟩ := hf2.oth w.heap.size hlt1 HWX.out (fun e => e)
  have HWX2 := hide hwx
  have HC2 : Hid (w2.cell? ⟨w.heap.size, 0, none⟩ = some (.slice ao p.length cap)) := by
    unfold Hid; rw [World.cell?_of_block hbx]; exact HC1.out
  have hlt2 : w.heap.size < w2.heap.size := World.block_lt_of_cell? w2 _ HC2.out
  have HJ2 := hide (int_keeps HJ1.out.1 HJ1.out.2 hf2)
  have HSG := hide (schedule_g B w2 b who2 n f2 K [(gs, s, .slice so s.length sc)] LC1 [(g, p.length)] 0 (.slice ta t.length tc) t hx2 HJ2.out.1 HJ2.out.2 htl (by simp))
  have HX2 := hide hx2
  clear hx2 hf2 hbx hwx HX1 HC1 HWX hlt1
  rw [hpt] at HSG
  go_wp2_with fail
  refine HSG.out.mono ?_
  clear HSG
  rintro e w3 ⟨gt, who3, f3, rfl, hx3, hf3⟩
  simp only [List.cons_append, List.nil_append] at hx3
  have HW3 : Hid (W.grownBy w3 none) := hf3.base HW2.out hWB (fun g e => (HX2.out.hs.1.dom g e).1) (fun _ e => e.elim)
  have HF3 : Hid (Fr w w3 who who3 (fun g => w.heap.size ≤ g)) := HF2.out.step0 hf3
  obtain ⟨hbx, hwx⟩ := hf3.oth w.heap.size hlt2 HWX2.out (fun e => e)
  have HWX3 := hide hwx
  have HC3 : Hid (w3.cell? ⟨w.heap.size, 0, none⟩ = some (.slice ao p.length cap)) := by
    unfold Hid; rw [World.cell?_of_block hbx]; exact HC2.out
  have hlt3 : w.heap.size < w3.heap.size := World.block_lt_of_cell? w3 _ HC3.out
  have hgb : w3.heap[g]? = some (.cells (lentRows LC1) 75 (0, 0)) := by
    have := (hx3.le.lr 0 (by simp)).1
    simp only [List.getElem_cons_zero, List.take_zero, List.map_nil, List.sum_nil, List.drop_zero] at this
    rw [List.take_of_length_le (by rw [HLL.out]; omega)] at this
    exact this
  have hPx : ProgAt w3 (.agg #[.slice (some ⟨g, 0, none⟩) p.length (p.length + 2)]) p := lent_prog (LC0 := []) (by simpa using hx3.le) hgb HLC.out _
  have hIx : IntsAt w3.heap.size w3 (.slice (some ⟨gs, 0, none⟩) s.length (s.length + 2)) s := lent_ints (hx3.le.li (gs, s, .slice so s.length sc) (by simp)).1
  have hJx : IntsAt w3.heap.size w3 (.slice (some ⟨gt, 0, none⟩) t.length (t.length + 2)) t := lent_ints (hx3.le.li (gt, t, .slice ta t.length tc) (by simp)).1
  have HFM := hide (sameP_m p s t _ _ _ w3 (HS.out.pres (pres_grown HW3.out)) hPx hIx hJx)
  have HJ3 := hide (int_keeps HJ2.out.1 HJ2.out.2 hf3)
  have HX3 := hide hx3
  clear hx3 hf3 hbx hwx hgb hPx hIx hJx HX2 HC2 HWX2 hlt2
  go_wp2_with fail
  refine HFM.out.mono ?_
  clear HFM
  intro e w4 hF
  obtain ⟨hg4, he⟩ := hF.form
  clear hF
  subst he
  have HG34 := hide hg4
  have HW4 : Hid (W.grownBy w4 none) := grown_trans HW3.out hg4
  have HBK := hide (back_g B w4 b who3 n f3 K _ _ _ (HX3.out.grown hg4) (by simp) (by rw [HLL.out]; omega) (by simp))
  clear hg4
  rw [hpt] at HBK
  generalize hcr : checkRunsN p [s, t] = cr at *
  generalize hso : sameOut p s t = zz at *
  have HCR := hide hcr
  have HSO := hide hso
  clear hcr hso
  go_wp2_with fail
  refine HBK.out.mono ?_
  clear HBK
  rintro e w5 ⟨rfl, f5, hz5, hf5⟩
  have HW5 : Hid (W.grownBy w5 none) := hf5.base HW4.out hWB (fun g e => (HX3.out.hs.1.dom g e).1) (fun _ e => e.elim)
  have HF5 : Hid (Fr w w5 who who3 (fun g => w.heap.size ≤ g)) := (HF3.out.stepG HG34.out).step0 hf5
  have c5 : w5.cell? ⟨w.heap.size, 0, none⟩ = some (.slice ao p.length cap) := by
    rw [World.cell?_of_block (hf5.oth w.heap.size (by have := HG34.out.size; omega) HWX3.out (fun e => e)).1]
    exact pres_grown HG34.out _ _ HC3.out
  have HJ5 := hide (int_keeps HJ3.out.1 HJ3.out.2 ((Fr.grown HG34.out).trans hf5))
  have HZ5 := hide hz5
  have HRF := hide (refSame_m p s t _ _ _ w5 (HP.out.pres (pres_grown HW5.out)) ((HI.out.pres (pres_grown HW5.out)).mono HW5.out.size) HJ5.out.1 hpl HPC.out)
  clear hz5 hf5 HX3 HC3
  go_wp2_with fail
  refine HRF.out.mono ?_
  clear HRF
  intro e w6 hF
  obtain ⟨hg6, he⟩ := hF.form
  clear hF
  subst he
  rw [HCR.out, HSO.out]
  have HG56 := hide hg6
  clear hg6 c5
  cases zz
  · go_wp2_with (go_at_call 31; refine (num_mR _ _).mono ?_; rintro e w9 ⟨rfl, hw9⟩; have hw9' := hw9.symm; subst hw9')
    go_ret
    exact ⟨by simp, who3, f5, ⟨HZ5.out.1.grown HG56.out, HZ5.out.2⟩, grown_trans HW5.out HG56.out, HF5.out.stepG HG56.out⟩
  · go_wp2_with (go_at_call 31; refine (num_mR _ _).mono ?_; rintro e w9 ⟨rfl, hw9⟩; have hw9' := hw9.symm; subst hw9')
    go_ret
    exact ⟨by simp, who3, f5, ⟨HZ5.out.1.grown HG56.out, HZ5.out.2⟩, grown_trans HW5.out HG56.out, HF5.out.stepG HG56.out⟩
theorem compared_g (W : World) (B : Nat) (w : World) (b : Nat) (who : Nat → Role) (n : Int) (f : Nat → Value) (K : Nat → List (Value × Int)) (pv sv tv : Value) (p : List (List Ins)) (s t : List Int)
    (h : Hz B w b who n f K) (hW : W.grownBy w none) (hWB : W.heap.size ≤ B) (hS : ShpAt W) (hP : ProgAt W pv p) (hI : IntsAt W.heap.size W sv s) (hJ : IntsAt w.heap.size w tv t) (hJv : valOther who tv) (hpl : p.length ≤ 5864062014634) (hpc : ∀ c ∈ p, c.length ≤ 4398046510976) (hsl : s.length ≤ 17592186043904) (htl : t.length ≤ 17592186043904) :
    Calls Tryz.prog 21 #[pt b, pv, sv, tv] w (HzG W B b n K) :=
  (compared_e W B w b who n f K pv sv tv p s t h hW hWB hS hP hI hJ hJv hpl hpc hsl htl).mono fun _ _ h => h.g

end Go.Proofs.YtklenjmfalljgaaGreatDoor

/- Hands that were just made. -/
namespace Go.Proofs.YtklenjmfalljgaaGreatDoor
open Go.RowKit

def f00 : Nat → Value := fun k => if k = 5 then .int .i64 0 else .slice none 0 0
/-- Hands that were just made. -/
theorem Hz.start {w : World} {b : Nat} (h : w.heap[b]? = some (.cells (hcl f00) 43 (0, 0))) : Hz b w b (setW (fun _ => .other) b .hands) 0 f00 (fun _ => []) := by
  have hnil : ∀ k, k ≠ 5 → f00 k = .slice none 0 0 := fun k hk => by unfold f00; rw [if_neg hk]
  refine ⟨⟨⟨h, rfl, fun c hc => ?_, fun c hc => ?_, fun c hc g e => ?_, fun c hc g e => ?_, setW_at _ _ _, fun c hc x hx => (by cases hx), fun g e => ?_⟩, fun c hc x hx => (by cases hx)⟩, fun k hk => hnil k (by omega)⟩
  · rw [hnil _ (by omega)]; exact ⟨rfl, Or.inl ⟨rfl, rfl⟩⟩
  · rw [hnil _ (by omega)]; exact ⟨rfl, Or.inl ⟨rfl, rfl⟩⟩
  · rw [hnil _ (by omega)] at e; cases e
  · rw [hnil _ (by omega)] at e; cases e
  · by_cases e2 : g = b
    · subst e2; exact ⟨Nat.le_refl _, (Array.getElem?_eq_some_iff.1 h).1⟩
    · rw [setW_ne _ _ e2] at e; exact absurd rfl e

end Go.Proofs.YtklenjmfalljgaaGreatDoor
