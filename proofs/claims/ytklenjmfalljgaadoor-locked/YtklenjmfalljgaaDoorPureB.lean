/- On runs: a run of a list and one number more; schedules that are made so. -/
import Derived.Test.YtklenjmfalljgaaDoorPure
namespace Go.Proofs.YtklenjmfalljgaaDoor

/-- The state and the steps behind a list all of whose numbers were done. -/
def stp (p : List (List Ins)) : List Int → St → List (Int × Int) → Option (St × List (Int × Int))
  | [], s, acc => some (s, acc)
  | t :: r, s, acc => if okAt p s t = true then (if (stepS p s t.toNat).1 = true then stp p r (stepS p s t.toNat).2 (acc ++ [(t, s.next t.toNat)]) else none) else none

theorem endingS_range (p : List (List Ins)) (s : St) : 3 ≤ endingS p s ∧ endingS p s ≤ 5 := by
  unfold endingS
  split
  · omega
  · split <;> omega

theorem follow_stp (p : List (List Ins)) : ∀ (a b : List Int) (i : Int) (s : St) (acc : List (Int × Int)) (s' : St) (acc' : List (Int × Int)), stp p a s acc = some (s', acc') → follow p (a ++ b) i s acc = follow p b (i + a.length) s' acc'
  | [], b, i, s, acc, s', acc', h => by
    simp [stp] at h
    obtain ⟨rfl, rfl⟩ := h
    simp
  | t :: r, b, i, s, acc, s', acc', h => by
    simp only [stp] at h
    split at h
    · rename_i h1
      split at h
      · rename_i h2
        rw [List.cons_append, follow_go p t (r ++ b) i s acc h1 h2, follow_stp p r b (i + 1) _ _ s' acc' h]
        congr 1
        simp
        omega
      · cases h
    · cases h

theorem follow_none (p : List (List Ins)) : ∀ (a b : List Int) (i : Int) (s : St) (acc : List (Int × Int)), stp p a s acc = none → follow p (a ++ b) i s acc = follow p a i s acc ∧ ((follow p a i s acc).kind = 1 ∨ (follow p a i s acc).kind = 2)
  | [], b, i, s, acc, h => by simp [stp] at h
  | t :: r, b, i, s, acc, h => by
    by_cases h1 : okAt p s t = true
    · by_cases h2 : (stepS p s t.toNat).1 = true
      · simp only [stp, h1, h2, if_true] at h
        rw [List.cons_append, follow_go p t (r ++ b) i s acc h1 h2, follow_go p t r i s acc h1 h2]
        exact follow_none p r b (i + 1) _ _ h
      · have h3 : (stepS p s t.toNat).1 = false := by simpa using h2
        rw [List.cons_append, follow_fail p t (r ++ b) i s acc h1 h3, follow_fail p t r i s acc h1 h3]
        exact ⟨rfl, Or.inl rfl⟩
    · have h3 : okAt p s t = false := by simpa using h1
      rw [List.cons_append, follow_wrong p t (r ++ b) i s acc h3, follow_wrong p t r i s acc h3]
      exact ⟨rfl, Or.inr rfl⟩

theorem stp_len (p : List (List Ins)) : ∀ (a : List Int) (s : St) (acc : List (Int × Int)) (s' : St) (acc' : List (Int × Int)), stp p a s acc = some (s', acc') → acc'.length = acc.length + a.length
  | [], s, acc, s', acc', h => by
    simp [stp] at h
    obtain ⟨rfl, rfl⟩ := h
    simp
  | t :: r, s, acc, s', acc', h => by
    simp only [stp] at h
    split at h
    · split at h
      · have := stp_len p r _ _ s' acc' h
        simp at this ⊢
        omega
      · cases h
    · cases h

theorem run_stp {p : List (List Ins)} {a : List Int} {s' : St} {acc' : List (Int × Int)} (h : stp p a St.zero [] = some (s', acc')) : runS p a = ⟨acc', endingS p s', 0, 0, s'⟩ := by
  have := follow_stp p a [] 0 St.zero [] s' acc' h
  rw [List.append_nil] at this
  unfold runS
  rw [this]; rfl

theorem stp_of_kind {p : List (List Ins)} {a : List Int} (h : (runS p a).kind ≠ 1 ∧ (runS p a).kind ≠ 2) : ∃ s' acc', stp p a St.zero [] = some (s', acc') := by
  cases hs : stp p a St.zero [] with
  | none =>
    have := (follow_none p a [] 0 St.zero [] hs).2
    unfold runS at h
    rcases this with e | e
    · exact absurd e h.1
    · exact absurd e h.2
  | some x => exact ⟨x.1, x.2, rfl⟩

/-- One number more. -/
theorem run_snoc {p : List (List Ins)} {a : List Int} {s' : St} {acc' : List (Int × Int)} (h : stp p a St.zero [] = some (s', acc')) (t : Int) :
    (okAt p s' t = true → (runS p (a ++ [t])).kind ≠ 2 ∧ (runS p (a ++ [t])).steps = acc' ++ [(t, s'.next t.toNat)]) ∧ (okAt p s' t = false → (runS p (a ++ [t])).kind = 2) := by
  have e : runS p (a ++ [t]) = follow p [t] (0 + a.length) s' acc' := follow_stp p a [t] 0 St.zero [] s' acc' h
  rw [e]
  refine ⟨fun h1 => ?_, fun h1 => ?_⟩
  · by_cases h2 : (stepS p s' t.toNat).1 = true
    · rw [follow_go p t [] _ s' acc' h1 h2, follow_nil]
      have := endingS_range p (stepS p s' t.toNat).2
      exact ⟨by simp only; omega, rfl⟩
    · have h3 : (stepS p s' t.toNat).1 = false := by simpa using h2
      rw [follow_fail p t [] _ s' acc' h1 h3]
      exact ⟨by simp, rfl⟩
  · rw [follow_wrong p t [] _ s' acc' h1]

theorem ending_five {p : List (List Ins)} {s : St} (h : endingS p s = 5) : ∃ t, t < p.length ∧ readyB p s t = true := by
  unfold endingS at h
  split at h
  · rename_i h1
    obtain ⟨t, h2, h3⟩ := List.any_eq_true.1 h1
    exact ⟨t, List.mem_range.1 h2, h3⟩
  · split at h <;> omega

/-- A schedule that was made number by number: all its numbers were done; so long as it was open it grew. -/
def Sched (p : List (List Ins)) (a : List Int) : Prop := (runS p a).kind ≠ 2 ∧ (runS p a).steps.length = a.length

theorem sched_nil (p : List (List Ins)) : Sched p [] := by
  have : runS p [] = ⟨[], endingS p St.zero, 0, 0, St.zero⟩ := rfl
  unfold Sched
  rw [this]
  have := endingS_range p St.zero
  exact ⟨by simp only; omega, rfl⟩

theorem open_stp {p : List (List Ins)} {a : List Int} (h : (runS p a).kind = 5) : ∃ s' acc', stp p a St.zero [] = some (s', acc') ∧ endingS p s' = 5 := by
  obtain ⟨s', acc', hs⟩ := stp_of_kind (p := p) (a := a) ⟨by omega, by omega⟩
  refine ⟨s', acc', hs, ?_⟩
  rw [run_stp hs] at h
  exact h

theorem sched_snoc {p : List (List Ins)} {a : List Int} (h5 : (runS p a).kind = 5) {t : Int} (ht : (runS p (a ++ [t])).kind ≠ 2) : Sched p (a ++ [t]) := by
  obtain ⟨s', acc', hs, _⟩ := open_stp h5
  have h1 := run_snoc hs t
  have hl := stp_len p a _ _ _ _ hs
  cases ho : okAt p s' t with
  | false => exact absurd (h1.2 ho) ht
  | true => exact ⟨ht, by rw [(h1.1 ho).2]; simp at hl ⊢; omega⟩

/-- An open run has a thread that may go on. -/
theorem open_some {p : List (List Ins)} {a : List Int} (h5 : (runS p a).kind = 5) : ∃ t : Nat, t < p.length ∧ (runS p (a ++ [(t : Int)])).kind ≠ 2 := by
  obtain ⟨s', acc', hs, he⟩ := open_stp h5
  obtain ⟨t, ht, hr⟩ := ending_five he
  refine ⟨t, ht, ((run_snoc hs t).1 ?_).1⟩
  simp [okAt, belowB, hr, ht]

/-- Going round from any number on, all come. -/
theorem round_all (n f j : Int) (hf : 0 ≤ f) (hf2 : f < n) (hj : 0 ≤ j) (hj2 : j < n) : ∃ k : Nat, (k : Int) < n ∧ (f + k) % n = j := by
  by_cases h : f ≤ j
  · refine ⟨(j - f).toNat, by omega, ?_⟩
    have : f + ((j - f).toNat : Int) = j := by omega
    rw [this]; exact Int.emod_eq_of_lt hj hj2
  · refine ⟨(j + n - f).toNat, by omega, ?_⟩
    have : f + ((j + n - f).toNat : Int) = j + n := by omega
    rw [this, Int.add_emod_right]; exact Int.emod_eq_of_lt hj hj2

theorem open_round {p : List (List Ins)} {a : List Int} (h5 : (runS p a).kind = 5) {f : Int} (hf : 0 ≤ f) (hf2 : f < p.length) : ∃ k : Nat, k < p.length ∧ (runS p (a ++ [(f + k) % p.length])).kind ≠ 2 := by
  obtain ⟨t, ht, hk⟩ := open_some h5
  obtain ⟨k, h1, h2⟩ := round_all p.length f t hf hf2 (by omega) (by omega)
  exact ⟨k, by omega, by rw [h2]; exact hk⟩

end Go.Proofs.YtklenjmfalljgaaDoor
