/- For every program and all schedules: every Form and Same are as the reference says, whatever the owner does with what came out and with what was lent. The row of Forms, and its card. -/
import Derived.Test.YtklenjmfalljgaaGreatDoorM20
import Derived.Test.YtklenjmfalljgaaGreatDoorM22
import Derived.Test.YtklenjmfalljgaaGreatDoorCards
import Derived.Test.YtklenjmfalljgaaGreatDoorTie

/- For every program and all schedules: every Form and Same are as the reference says, whatever the owner does with what came out and with what was lent. The row of Forms, and its card. -/
namespace Go.Proofs.YtklenjmfalljgaaGreatDoor
open Go.ChangeShapes Go.WideShapes Go.ChangeAt Go.RowKit

set_option maxRecDepth 100000 in
/-- What the walk gives, for every argument and every world that holds the table. -/
theorem forms_contract (H : Type) (enc : TypeId × Value → H) (W : World) (base : Nat) (args : Array Value) (ds gs : List (DataW H)) (before : List MemPlace)
    (hval : ∀ (j : Nat) t v, Tryz.f5.params[j]? = some t → args[j]? = some v → Value.okWide Tryz.prog W .any base t v)
    (hW : DataW.Whole enc Tryz.prog Tryz.f5.params.toList Rows.formsSpec.vars false W args.toList ds gs before) 
    (hwt : (DataW.weightsEach Tryz.prog (Tryz.f5.params.toList ++ (OpenSpec.ofChange Rows.formsSpec).bare.plain.varTypes Tryz.prog) (ds ++ gs)).all (· ≤ reachBytes) = true) (hL : laidMetH Tryz.prog Rows.formsRow.laid W) :
    Calls Tryz.prog 5 args W fun e W' => ∃ v, e = .returned v ∧ Rows.formsSpec.post enc Tryz.prog Tryz.f5 false true false false W args v W' := by
  have hW' := hW
  obtain ⟨p, q, hA0, hV, rfl, hfz, hnd⟩ := hW
  have hA : DataW.TrodAll enc Tryz.prog W 0 (fun _ => true) true Tryz.f5.params.toList args.toList ds p := hA0
  rw [Tryz.params5] at hA hval hwt
  obtain ⟨v0, v1, v2, d0, d1, d2, p0, p1, p2, rfl, rfl, rfl, h0, h1, h2⟩ := trodAll_three hA
  obtain ⟨rfl, rfl⟩ := trodVars_none hV
  clear hA0
  rw [List.all_eq_true] at hwt
  have hre : reachBytes = 140737488351232 := by decide
  have hl0 : Light 24 d0 := fun n hn => by
    have := of_decide_eq_true (hwt n (by simp [DataW.weightsEach, hn]))
    omega
  have hl1 : Light 25 d1 := fun n hn => by
    have := of_decide_eq_true (hwt n (by simp [DataW.weightsEach, hn]))
    omega
  have hl2 : Light 25 d2 := fun n hn => by
    have := of_decide_eq_true (hwt n (by simp [DataW.weightsEach, hn]))
    omega
  obtain ⟨p, hp, hpn, hpl, hpc⟩ := prog_argW (hval 0 24 v0 rfl rfl) h0 hl0
  obtain ⟨a, ha, han, hal⟩ := ints_argW (hval 1 25 v1 rfl rfl) h1 hl1
  obtain ⟨b, hb', _, hbl⟩ := ints_argW (hval 2 25 v2 rfl rfl) h2 hl2
  refine (forms_m W v0 v1 v2 p a b (shp_of_laid hL) hp hpn ha han hb' (by omega) (fun c hc => by have := hpc c hc; omega) (by omega) (by omega)).mono fun e W' ⟨he, hg⟩ => ?_
  subst he
  have hb := grown_below hg
  have hlt : ∀ x ∈ p0 ++ p1 ++ p2, x.block < W.heap.size := fun x hx => by simpa using hW'.lt x (by simpa using hx)
  refine ⟨_, rfl, _, _, _, [] ++ [], p0 ++ (p1 ++ p2), [], hW', trodAll_cons_mk (shut_bool Tryz.underlying4 _) trodAll_mk0, ?_, rfl, hb.frame _, fun h => by cases h⟩
  rw [Tryz.params5]
  exact trodAll_mk3 (p := p0) (p' := p1) (p'' := p2) (Below.trod laidOut (by kernel_rfl) (of_decide_eq_true (by kernel_rfl)) h0 hb (fun x hx => hlt x (by simp [hx]))) (Below.trod laidOut (by kernel_rfl) (of_decide_eq_true (by kernel_rfl)) h1 hb (fun x hx => hlt x (by simp [hx])))
    (Below.trod laidOut (by kernel_rfl) (of_decide_eq_true (by kernel_rfl)) h2 hb (fun x hx => hlt x (by simp [hx])))

theorem forms_laid (os : Os) : laidMetH Tryz.prog Rows.formsRow.laid ((World.doorLaid Tryz.prog 400 os).forCall (fun _ _ => 0) ⟨#[], #[.agg #[.slice none 0 0], .slice none 0 0, .slice none 0 0], []⟩).memory :=
  laidMetH_of_parts3 (fuel := 8) (laidMet_of_run' 8 (by kernel_rfl) (by kernel_rfl)) (by kernel_rfl) (by kernel_rfl)
theorem forms_reads (os : Os) {H : Type} (enc : TypeId × Value → H) : ∃ places, DataW.whole enc Tryz.prog ((World.doorLaid Tryz.prog 400 os).forCall (fun _ _ => 0) ⟨#[], #[.agg #[.slice none 0 0], .slice none 0 0, .slice none 0 0], []⟩).memory Tryz.f5.params.toList Rows.formsSpec.vars false #[Value.agg #[.slice none 0 0], .slice none 0 0, .slice none 0 0].toList 8 = some ([.agg [.nil], .nil, .nil], [], places) :=
  ⟨[], by kernel_rfl⟩

set_option maxRecDepth 100000 in
theorem forms_lifted (os : Os) (started : os.Started) (H : Type) (enc : TypeId × Value → H) (F : Stop.Interp) :
    ReturnsInHanded {} Tryz.checked os 5 .any ((OpenSpec.ofChange Rows.formsSpec).preRow enc Tryz.prog Tryz.f5 Rows.formsRow.domain false Rows.formsRow.laid) (((OpenSpec.ofChange Rows.formsSpec).at F).post enc Tryz.prog Tryz.f5 false true false false) := by
  obtain ⟨places, hx⟩ := forms_reads os enc
  refine returnsInHanded_of_row (C := Tryz.checked) (s := OpenSpec.ofChange Rows.formsSpec) own started (by kernel_rfl) Tryz.func5
    (witness_row_atRef (enc := enc) (C := Tryz.checked) false (World.doorLaid Tryz.prog 400 os) #[.agg #[.slice none 0 0], .slice none 0 0, .slice none 0 0] rfl (by kernel_rfl) (by kernel_rfl) (by kernel_rfl)
      (OpenSpec.preRow_of_cond 8 hx (by kernel_rfl) (fun k hk => by cases hk) (by kernel_rfl) (forms_laid os))) ?_
  intro W base args ds gs before hval hW _ _ hwt hL _ _
  exact forms_contract H enc W base args ds gs before hval hW hwt hL

theorem forms_said : Rows.FormsSaid :=
  OpenClaim.holds_of_cond 5 Tryz.f5 rfl rfl rfl rfl rfl rfl rfl ⟨rfl, rfl, rfl, rfl, rfl⟩ rfl rfl rfl rfl rfl (by kernel_rfl) Tryz.func5 (by kernel_rfl)
    (of_decide_eq_true (by kernel_rfl)) (by unfold Func.isWrapper; first | (rw [if_pos (by decide +kernel)]; kernel_rfl) | (rw [if_neg (by decide +kernel)]; exact ⟨rfl, rfl⟩))
    (fun os started H enc _ F => by rw [OpenClaim.pre_eq_preRow]; exact forms_lifted os started H enc F)

theorem forms_plain (f : FuncId) (fn : Func) (hf : Tryz.pinned.checked.prog.funcNamed "rerun/rerunlaw.Forms" = some f) (hfn : Tryz.pinned.checked.prog.funcs[f]? = some fn) :
    Rows.formsCard.stood.looks = Tryz.pinned.checked.prog.looks [] ∧ ∀ (j : Nat) t, fn.params[j]? = some t → Tryz.pinned.checked.prog.wantsStandIn t = false := by
  obtain rfl : f = 5 := Option.some.inj ((show Tryz.prog.funcNamed "rerun/rerunlaw.Forms" = some 5 by kernel_rfl).symm.trans hf) |>.symm
  obtain rfl : fn = Tryz.f5 := (Option.some.inj (Tryz.func5.symm.trans hfn)).symm
  refine ⟨by kernel_rfl, fun j t ht => ?_⟩
  rw [Tryz.params5] at ht
  have hm : t ∈ [24, 25, 25] := by simpa using Array.mem_of_getElem? ht
  have hall : ([24, 25, 25].all fun u => !Tryz.prog.wantsStandIn u) = true := by kernel_rfl
  exact (show Tryz.prog.wantsStandIn t = false by simpa using List.all_eq_true.1 hall t hm)

theorem forms_card : Rows.FormsCardSaid :=
  Claim7.holds_tied_plain_at .later [] _ _ _ _ forms_said (fun _ h => by cases h) (by kernel_rfl) (fun _ h => by cases h) forms_row_tie rfl ⟨rfl, rfl⟩ (by kernel_rfl) rfl forms_plain (by kernel_rfl)
#print axioms forms_card

end Go.Proofs.YtklenjmfalljgaaGreatDoor
