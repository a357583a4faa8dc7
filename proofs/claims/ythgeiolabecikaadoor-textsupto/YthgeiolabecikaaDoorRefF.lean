/- The walks of the reference's scheduled, often and digits. -/
import Derived.Test.YthgeiolabecikaaDoorRefE
namespace Go.Proofs.YthgeiolabecikaaDoor
open Go.RowKit
attribute [local go_sem] Go.World.cell?_alloc_some

set_option maxRecDepth 100000 in
set_option maxHeartbeats 1000000 in
theorem scheduled_m (l : List Int) (v : Value) (w : World) (hI : IntsAt w.heap.size w v l) :
    Calls Tryd.prog 45 #[v] w fun e w' => e = .returned (.bool (validS l)) ∧ w.grownBy w' none := by
  obtain ⟨ao, cap, rfl, hcap, hc⟩ := hI
  by_cases h5 : l.length ≤ 500
  · have g5 : (l.length : Int) ≤ 500 := by omega
    have HV : Hid (validS l = l.all okN) := by unfold Hid validS; rw [decide_eq_true h5]; rfl
    have HC := hide hc
    clear hc
    go_enter Tryd.func45, Tryd.ntmps45
    go_wp2
    go_loopw [3] (fun i w' => ∃ k : Nat, k ≤ l.length ∧ i = .int .i64 k ∧ w' = w ∧ Hid ((l.take k).all okN = true)) (fun i _ => l.length - (intOf i).toNat)
    case atStart => exact ⟨0, Nat.zero_le _, rfl, rfl, rfl⟩
    case round =>
      obtain ⟨k, hk, rfl, rfl, HA⟩ := hrel
      by_cases hlt : k < l.length
      · obtain ⟨g, o, rfl, hg, c0⟩ := HC.out k hlt
        have HAs := hide (all_take_succ l okN k hlt)
        have hk0 : (0 : Int) ≤ (k : Int) := by omega
        have hk1 : (k : Int) < l.length := by omega
        have HF : Hid (okN l[k] = false → validS l = false) := by
          intro h
          rw [HV.out]
          have : (l.take (k + 1)).all okN = false := by rw [HAs.out, h]; simp
          rw [← List.take_append_drop (k + 1) l, List.all_append, this]; rfl
        generalize l[k] = x at *
        by_cases h0 : 0 ≤ x
        · by_cases h63 : x ≤ 63
          · have HA1 : Hid ((l.take (k + 1)).all okN = true) := by unfold Hid; rw [HAs.out, HA.out]; simp [okN, h0, h63]
            have h0' : ¬ x < 0 := by omega
            have h63' : ¬ 63 < x := by omega
            go_wp2
            go_roundw
            case rel => exact ⟨k + 1, by omega, by go_num, trivial, HA1⟩
            case measure => simp [intOf]; omega
          · have HE := hide (HF.out (by simp [okN, h63]))
            have h63' : 63 < x := by omega
            go_wp2
            go_ret
            exact ⟨by rw [HE.out]; rfl, grown_refl _ _⟩
        · have HE := hide (HF.out (by simp [okN, h0]))
          have h0' : x < 0 := by omega
          go_wp2
          go_ret
          exact ⟨by rw [HE.out]; rfl, grown_refl _ _⟩
      · have HE : Hid (validS l = true) := by
          unfold Hid
          rw [HV.out]
          have := HA.out
          rw [List.take_of_length_le (by omega)] at this
          exact this
        go_wp2
        go_ret
        exact ⟨by rw [HE.out]; rfl, grown_refl _ _⟩
  · have g5 : 500 < (l.length : Int) := by omega
    have HV : Hid (validS l = false) := by unfold Hid validS; rw [decide_eq_false h5]; rfl
    clear hc
    go_enter Tryd.func45, Tryd.ntmps45
    go_wp2
    go_ret
    exact ⟨by rw [HV.out]; rfl, grown_refl _ _⟩

def oftS : List Int → Nat
  | [] => 0
  | t :: r => (r.takeWhile (· == t)).length + 1

theorem oft_cons (t : Int) (r : List Int) : oftS (t :: r) = (r.takeWhile (· == t)).length + 1 := rfl

theorem oft_at (t : Int) (r : List Int) (k : Nat) (hk : k < (t :: r).length) (ha : ∀ j (hj : j < (t :: r).length), j < k → (t :: r)[j] = t) (hne : (t :: r)[k] ≠ t) : oftS (t :: r) = k := by
  rw [oft_cons]
  cases k with
  | zero => exact absurd rfl hne
  | succ k =>
    have h1 : ∀ (q : List Int) (k : Nat) (hk : k < q.length), (∀ j (hj : j < q.length), j < k → q[j] = t) → q[k] ≠ t → (q.takeWhile (· == t)).length = k := by
      intro q
      induction q with
      | nil => intro k hk; simp at hk
      | cons b q ih =>
        intro k hk h1 h2
        cases k with
        | zero => rw [List.takeWhile_cons, if_neg (by simpa using h2)]; rfl
        | succ k =>
          have h0 := h1 0 (by simp) (by omega)
          simp at h0
          rw [List.takeWhile_cons, if_pos (by simpa using h0)]
          simp
          exact ih k (by simpa using hk) (fun j hj hjk => by have := h1 (j + 1) (by simpa using hj) (by omega); simpa using this) (by simpa using h2)
    rw [h1 r k (by simpa using hk) (fun j hj hjk => by have := ha (j + 1) (by simpa using hj) (by omega); simpa using this) (by simpa using hne)]
theorem oft_all (t : Int) (r : List Int) (ha : ∀ j (hj : j < (t :: r).length), (t :: r)[j] = t) : oftS (t :: r) = (t :: r).length := by
  rw [oft_cons]
  have : r.takeWhile (· == t) = r := by
    have h2 : ∀ x ∈ r, x = t := by
      intro x hx
      obtain ⟨j, hj, rfl⟩ := List.getElem_of_mem hx
      have := ha (j + 1) (by simpa using hj)
      simpa using this
    clear ha
    induction r with
    | nil => rfl
    | cons b q ih => rw [List.takeWhile_cons, if_pos (by simpa using h2 b (by simp)), ih (fun x hx => h2 x (by simp [hx]))]
  rw [this]; rfl

theorem grp_oft (t : Int) (r : List Int) : grp (t :: r) = (t, (oftS (t :: r) : Int)) :: grp ((t :: r).drop (oftS (t :: r))) := by
  induction r generalizing t with
  | nil => simp [grp, oftS]
  | cons b q ih =>
    have e := ih b
    by_cases h : t = b
    · subst h
      have e1 : oftS (t :: t :: q) = oftS (t :: q) + 1 := by simp [oftS]
      rw [grp, e, e1]
      simp
    · have e1 : oftS (t :: b :: q) = 1 := by
        rw [oft_cons, List.takeWhile_cons, if_neg (by simpa using fun e => h e.symm)]; rfl
      rw [grp, e1, e]
      simp [h]
      exact e.symm
theorem oft_le (l : List Int) : oftS l ≤ l.length := by
  cases l with
  | nil => simp [oftS]
  | cons t r =>
    rw [oft_cons]
    have := (List.takeWhile_sublist (· == t) (l := r)).length_le
    simpa using this

set_option maxRecDepth 100000 in
set_option maxHeartbeats 1000000 in
theorem often_m (t : Int) (r : List Int) (v : Value) (w : World) (hI : IntsAt w.heap.size w v (t :: r)) (hln : (t :: r).length ≤ 1000000) :
    Calls Tryd.prog 48 #[v] w fun e w' => e = .returned (.int .i64 (oftS (t :: r))) ∧ w.grownBy w' none := by
  obtain ⟨ao, cap, rfl, hcap, hc⟩ := hI
  obtain ⟨g, o, rfl, hg, c0⟩ := hc 0 (by simp)
  have HC : Hid (∀ k (hk : k < (t :: r).length), w.cell? ⟨g, o + k, none⟩ = some (.int .i64 (t :: r)[k])) := by
    intro k hk
    obtain ⟨g', o', e, _, c⟩ := hc k hk
    simp only [Option.some.injEq, Addr.mk.injEq, and_true] at e
    obtain ⟨rfl, rfl⟩ := e
    exact c
  simp only [List.getElem_cons_zero, Nat.add_zero] at c0
  clear hc
  have hpos : 0 < (t :: r).length := by simp
  generalize hl : t :: r = l at *
  have HLl := hide hl
  clear hl
  have hpos' : (0 : Int) < l.length := by omega
  go_enter Tryd.func48, Tryd.ntmps48
  go_wp2_with fail
  go_loopw [3] (fun i w' => ∃ k : Nat, k ≤ l.length ∧ i = .int .i64 k ∧ Hid (Like w' w) ∧ Hid (∀ j (hj : j < l.length), j < k → l[j] = t)) (fun i _ => l.length - (intOf i).toNat)
  case atStart => exact ⟨0, Nat.zero_le _, rfl, hide (like_refl _), hide (fun j _ h => by omega)⟩
  case round =>
    obtain ⟨k, hk, rfl, HK, HA⟩ := hrel
    obtain ⟨w5, hw5⟩ : ∃ w5, w5 = wr := ⟨_, rfl⟩
    subst hw5
    have cL : ∀ a, w5.cell? a = w.cell? a := fun a => by simp [World.cell?, HK.out.1]
    have c1 : w5.cell? ⟨g, o, none⟩ = some (.int .i64 t) := by rw [cL]; exact c0
    by_cases hlt : k < l.length
    · have c2 : w5.cell? ⟨g, o + k, none⟩ = some (.int .i64 l[k]) := by rw [cL]; exact HC.out k hlt
      have hk0 : (0 : Int) ≤ (k : Int) := by omega
      have hk1 : (k : Int) < l.length := by omega
      clear cL c0
      by_cases heq : l[k] = t
      · have hq : (l[k] == t) = true := by simpa using heq
        have HA1 : Hid (∀ j (hj : j < l.length), j < k + 1 → l[j] = t) := by
          intro j hj hjk
          by_cases e : j = k
          · subst e; exact heq
          · exact HA.out j hj (by omega)
        clear heq
        generalize l[k] = x at *
        go_wp2_with fail
        go_quiet (fail)
        go_wp2_with fail
        go_roundw
        case rel => exact ⟨k + 1, by omega, by go_num, hide (like_dn HK.out _), HA1⟩
        case measure => simp [intOf]; omega
      · have hq : (l[k] == t) = false := by simpa using heq
        have HE : Hid (oftS l = k) := by
          have h1 := HA.out
          have h2 := HLl.out
          subst h2
          exact oft_at t r k hlt h1 heq
        clear heq
        generalize l[k] = x at *
        go_wp2_with fail
        go_quiet (fail)
        go_wp2_with fail
        go_ret
        exact ⟨by rw [HE.out]; rfl, grown_drewN _ (grown_of_like HK.out)⟩
    · have HE : Hid (oftS l = k) := by
        have h1 := HA.out
        have h2 := HLl.out
        subst h2
        rw [oft_all t r (fun j hj => h1 j hj (Nat.lt_of_lt_of_le hj (Nat.le_of_not_lt hlt)))]; exact Nat.le_antisymm (Nat.le_of_not_lt hlt) hk
      have hk1 : decide ((k : Int) < l.length) = false := by simp; omega
      clear cL c0
      go_wp2_with fail
      go_quiet (fail)
      go_wp2_with fail
      go_ret
      exact ⟨by rw [HE.out]; rfl, grown_drewN _ (grown_of_like HK.out)⟩

end Go.Proofs.YthgeiolabecikaaDoor
