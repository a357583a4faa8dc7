/- On beginnings of runs. -/
import Derived.Test.YtklenjmfalljgaaDoorPureB
namespace Go.Proofs.YtklenjmfalljgaaDoor

theorem follow_fst (p : List (List Ins)) : ∀ (l : List Int) (i : Int) (s : St) (acc : List (Int × Int)), ∃ m, m ≤ l.length ∧ (follow p l i s acc).steps.map (·.1) = acc.map (·.1) ++ l.take m ∧ acc.length + m = (follow p l i s acc).steps.length ∧ ∃ more, (follow p l i s acc).steps = acc ++ more
  | [], i, s, acc => ⟨0, Nat.le_refl _, by simp [follow_nil], by simp [follow_nil], [], by simp [follow_nil]⟩
  | t :: r, i, s, acc => by
    by_cases h1 : okAt p s t = true
    · by_cases h2 : (stepS p s t.toNat).1 = true
      · rw [follow_go p t r i s acc h1 h2]
        obtain ⟨m, q1, q2, q3, more, q4⟩ := follow_fst p r (i + 1) (stepS p s t.toNat).2 (acc ++ [(t, s.next t.toNat)])
        refine ⟨m + 1, by simp; omega, by rw [q2]; simp, by rw [← q3]; simp; omega, (t, s.next t.toNat) :: more, by rw [q4]; simp⟩
      · have h3 : (stepS p s t.toNat).1 = false := by simpa using h2
        rw [follow_fail p t r i s acc h1 h3]
        exact ⟨1, by simp, by simp, by simp, _, rfl⟩
    · have h3 : okAt p s t = false := by simpa using h1
      rw [follow_wrong p t r i s acc h3]
      exact ⟨0, by simp, by simp, by simp, [], by simp⟩

theorem sched_fst {p : List (List Ins)} {a : List Int} (h : Sched p a) : (runS p a).steps.map (·.1) = a := by
  obtain ⟨m, q1, q2, q3, _⟩ := follow_fst p a 0 St.zero []
  have h2 := h.2
  unfold runS at *
  simp at q2 q3
  have : m = a.length := by omega
  rw [q2, this]; simp

theorem stp_steps {p : List (List Ins)} {a b : List Int} {s' : St} {acc' : List (Int × Int)} (h : stp p a St.zero [] = some (s', acc')) : ∃ more, (runS p (a ++ b)).steps = acc' ++ more := by
  have e : runS p (a ++ b) = follow p b (0 + a.length) s' acc' := follow_stp p a b 0 St.zero [] s' acc' h
  obtain ⟨_, _, _, _, more, q⟩ := follow_fst p b (0 + a.length) s' acc'
  exact ⟨more, by rw [e]; exact q⟩

/-- A beginning of such a schedule goes through, and the next number may go on. -/
theorem sched_prefix {p : List (List Ins)} {a : List Int} (h : Sched p a) {k : Nat} (hk : k < a.length) :
    ∃ s' acc', stp p (a.take k) St.zero [] = some (s', acc') ∧ acc' = (runS p a).steps.take k ∧ okAt p s' a[k] = true := by
  have ea : a = a.take k ++ a.drop k := (List.take_append_drop k a).symm
  have ed : a.drop k = a[k] :: a.drop (k + 1) := List.drop_eq_getElem_cons hk
  have hlk : (a.take k).length = k := by simp; omega
  cases hs : stp p (a.take k) St.zero [] with
  | none =>
    exfalso
    have e1 := (follow_none p (a.take k) (a.drop k) 0 St.zero [] hs).1
    rw [← ea] at e1
    obtain ⟨m, q1, _, q3, _⟩ := follow_fst p (a.take k) 0 St.zero []
    have h2 := h.2
    unfold runS at h2
    rw [e1, ← q3] at h2
    simp at h2 q1
    omega
  | some x =>
    obtain ⟨s', acc'⟩ := x
    have hl := stp_len p _ _ _ _ _ hs
    have e1 : runS p a = follow p (a.drop k) (0 + (a.take k).length) s' acc' := by
      have := follow_stp p (a.take k) (a.drop k) 0 St.zero [] s' acc' hs
      rw [← ea] at this; exact this
    refine ⟨s', acc', rfl, ?_, ?_⟩
    · obtain ⟨more, q⟩ := stp_steps (b := a.drop k) hs
      rw [← ea] at q
      rw [q, List.take_left' (by simpa [hlk] using hl)]
    · cases ho : okAt p s' a[k] with
      | true => rfl
      | false =>
        exfalso
        rw [ed, follow_wrong p _ _ _ _ _ ho] at e1
        have := h.1
        rw [e1] at this
        exact this rfl

/-- The beginning: its run. -/
theorem cut_run {p : List (List Ins)} {a : List Int} (h : Sched p a) {k : Nat} (hk : k ≤ a.length) :
    (runS p (a.take k)).steps = (runS p a).steps.take k ∧ (k < a.length → (runS p (a.take k)).kind = 5 ∧ (runS p (a.take k)).thread = 0 ∧ (runS p (a.take k)).at_ = 0) := by
  by_cases hlt : k < a.length
  · obtain ⟨s', acc', h1, h2, h3⟩ := sched_prefix h hlt
    rw [run_stp h1]
    refine ⟨h2, fun _ => ⟨?_, rfl, rfl⟩⟩
    simp only [okAt, Bool.and_eq_true, belowB, decide_eq_true_eq] at h3
    have hr : (List.range p.length).any (readyB p s') = true := List.any_eq_true.2 ⟨a[k].toNat, List.mem_range.2 (by omega), h3.2⟩
    simp [endingS, hr]
  · have e : k = a.length := by omega
    subst e
    have := h.2
    refine ⟨?_, fun h => absurd h hlt⟩
    rw [List.take_length, List.take_of_length_le (by omega)]

/-- With a number that is nobody's in between. -/
theorem cut_wrong {p : List (List Ins)} {a : List Int} (h : Sched p a) {k : Nat} (hk : k ≤ a.length) (x : Int) (hx : x < 0 ∨ (p.length : Int) ≤ x) :
    ((runS p (a.take k)).kind = 1 → runS p (a.take k ++ [x] ++ a.drop k) = runS p (a.take k)) ∧
    ((runS p (a.take k)).kind ≠ 1 → runS p (a.take k ++ [x] ++ a.drop k) = ⟨(runS p (a.take k)).steps, 2, 0, k, (runS p (a.take k)).st⟩) := by
  have hlk : (a.take k).length = k := by simp; omega
  cases hs : stp p (a.take k) St.zero [] with
  | none =>
    have e1 := follow_none p (a.take k) ([x] ++ a.drop k) 0 St.zero [] hs
    rw [← List.append_assoc] at e1
    refine ⟨fun _ => e1.1, fun hne => ?_⟩
    exfalso
    have hk2 : (runS p (a.take k)).kind = 2 := by
      rcases e1.2 with e | e
      · exact absurd e hne
      · exact e
    by_cases hlt : k < a.length
    · obtain ⟨s', acc', h1, _⟩ := sched_prefix h hlt
      rw [hs] at h1; cases h1
    · have e : k = a.length := by omega
      subst e
      rw [List.take_length] at hk2
      exact h.1 hk2
  | some y =>
    obtain ⟨s', acc'⟩ := y
    have er := run_stp hs
    have e1 : runS p (a.take k ++ [x] ++ a.drop k) = follow p ([x] ++ a.drop k) (0 + (a.take k).length) s' acc' := by
      rw [List.append_assoc]
      exact follow_stp p (a.take k) ([x] ++ a.drop k) 0 St.zero [] s' acc' hs
    have ho : okAt p s' x = false := by
      simp only [okAt, belowB, Bool.and_eq_false_iff, decide_eq_false_iff_not]
      left; omega
    have hend := endingS_range p s'
    rw [er]
    refine ⟨fun h1 => by simp only at h1; omega, fun _ => ?_⟩
    rw [e1, List.singleton_append, follow_wrong p x _ _ s' acc' ho, hlk]
    simp

end Go.Proofs.YtklenjmfalljgaaDoor
