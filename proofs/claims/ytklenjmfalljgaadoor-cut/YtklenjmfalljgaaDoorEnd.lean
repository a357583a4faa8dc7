/- The walk of ending. -/
import Derived.Test.YtklenjmfalljgaaDoorMach
namespace Go.Proofs.YtklenjmfalljgaaDoor
open Go.RowKit

/-- ending's answer after k threads, none of which was ready. -/
def endTo (p : List (List Ins)) (s : St) (k : Nat) : Int := if (List.range k).all (doneB p s) then 3 else 4

theorem endTo_succ (p : List (List Ins)) (s : St) (k : Nat) : endTo p s (k + 1) = if doneB p s k = true then endTo p s k else 4 := by
  unfold endTo
  rw [List.range_succ, List.all_append]
  by_cases h : doneB p s k = true <;> simp [h]

theorem ending_open {p : List (List Ins)} {s : St} {k : Nat} (hk : k < p.length) (h : readyB p s k = true) : endingS p s = 5 := by
  unfold endingS
  rw [if_pos]
  exact List.any_eq_true.2 ⟨k, List.mem_range.2 hk, h⟩

theorem ending_end {p : List (List Ins)} {s : St} (h : ∀ k, k < p.length → readyB p s k = false) : endingS p s = endTo p s p.length := by
  unfold endingS endTo
  rw [if_neg]
  intro hc
  obtain ⟨k, hk, hr⟩ := List.any_eq_true.1 hc
  rw [h k (List.mem_range.1 hk)] at hr
  cases hr

set_option maxHeartbeats 1000000 in
theorem ending_m {B m b : Nat} {w : World} {p : List (List Ins)} {s : St} (hp : vProg p = true) (hM : MachAt B w m p) (hB : B ≤ b) (hs : StAt w b s) (hI : Inv p s) :
    Calls Tryd.prog 108 #[.pointer (some ⟨m, 0, none⟩), .pointer (some ⟨b, 0, none⟩)] w
      fun e w' => e = .returned (.int .i64 (endingS p s)) ∧ w.grownBy w' none := by
  have hb := hs.lt
  have hlen := vProg_len hp
  have HM : Hid (MachAt B w m p) := hM
  have HS : Hid (StAt w b s) := hs
  have HI : Hid (Inv p s) := hI
  have HP : Hid (vProg p = true) := hp
  obtain ⟨g, cap, hm, hg, h1, h2⟩ := hM
  have h3 : (p.length : Int) ≤ 4 := by omega
  clear h2 hs hI hp hm hg
  go_enter Tryd.func108, Tryd.ntmps108
  go_wp2
  go_loopw [5, 12] (fun e i w' => ∃ k : Nat, k ≤ p.length ∧ i = .int .i64 k ∧ e = .int .i64 (endTo p s k) ∧ Hid (w.grownBy w' none) ∧ Hid (∀ j, j < k → readyB p s j = false)) (fun _ i _ => p.length - (intOf i).toNat)
  case atStart => exact ⟨0, Nat.zero_le _, rfl, rfl, grown_refl _ _, fun j hj => by omega⟩
  case round =>
    obtain ⟨k, hk, rfl, rfl, HG, HR⟩ := hrel
    by_cases hlt : k < p.length
    · go_wp2_with fail
      refine (ready_m HP.out (HM.out.grown' (by omega) HG.out) (HS.out.grown HG.out) HI.out hlt).mono ?_
      rintro e w1 ⟨rfl, hg1⟩
      have HG1 : Hid (w.grownBy w1 none) := grown_trans HG.out hg1
      clear hg1
      cases hr : readyB p s k
      · go_wp2_with fail
        refine (done_m HP.out (HM.out.grown' (by omega) HG1.out) (HS.out.grown HG1.out) hlt).mono ?_
        rintro e w2 ⟨rfl, hg2⟩
        have HG2 : Hid (w.grownBy w2 none) := grown_trans HG1.out hg2
        clear hg2
        have HS1 : Hid (endTo p s (k + 1) = if doneB p s k = true then endTo p s k else 4) := endTo_succ p s k
        have HR1 : Hid (∀ j, j < k + 1 → readyB p s j = false) := fun j hj => by
          by_cases e : j = k
          · rw [e]; exact hr
          · exact HR.out j (by omega)
        clear hr
        cases hd : doneB p s k
        · go_wp2
          go_roundw
          case rel => exact ⟨k + 1, by omega, by go_num, by rw [HS1.out, hd]; rfl, HG2, HR1⟩
          case measure => simp [intOf]; omega
        · go_wp2
          go_roundw
          case rel => exact ⟨k + 1, by omega, by go_num, by rw [HS1.out, hd]; rfl, HG2, HR1⟩
          case measure => simp [intOf]; omega
      · have HE : Hid (endingS p s = 5) := ending_open hlt hr
        clear hr
        go_wp2
        go_ret
        exact ⟨by rw [HE.out]; rfl, HG1⟩
    · have e : k = p.length := by omega
      have HE : Hid (endingS p s = endTo p s k) := by rw [e]; exact ending_end (fun j hj => HR.out j (by omega))
      clear e
      go_wp2
      go_ret
      exact ⟨by rw [HE.out]; rfl, HG⟩

end Go.Proofs.YtklenjmfalljgaaDoor
