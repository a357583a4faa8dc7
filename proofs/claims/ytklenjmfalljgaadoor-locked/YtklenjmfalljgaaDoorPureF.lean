/- Threads that add under a lock, and without: whole runs. -/
import Derived.Test.YtklenjmfalljgaaDoorPureE
namespace Go.Proofs.YtklenjmfalljgaaDoor
open Go.RowKit (wrap64)

theorem sumN_full {f : Nat → Int} {b : Int} : ∀ {n : Nat}, (∀ j, j < n → f j ≤ b) → sumN f n ≤ n * b ∧ (sumN f n = n * b → ∀ j, j < n → f j = b)
  | 0, _ => ⟨by simp [sumN], fun _ j hj => by omega⟩
  | n + 1, h => by
    have h1 := sumN_full (n := n) (fun j hj => h j (by omega))
    have h2 := h n (by omega)
    have e : ((n + 1 : Nat) : Int) * b = n * b + b := by rw [Int.natCast_add, Int.add_mul]; simp
    refine ⟨by simp only [sumN]; omega, fun hs j hj => ?_⟩
    simp only [sumN] at hs
    by_cases ej : j = n
    · subst ej; omega
    · exact h1.2 (by omega) j (by omega)

theorem sumN_scale {f : Nat → Int} {c : Int} : ∀ {n : Nat}, sumN (fun j => f j * c) n = c * sumN f n
  | 0 => by simp [sumN]
  | n + 1 => by
    have := sumN_scale (f := f) (c := c) (n := n)
    simp only [sumN, this, Int.mul_add]
    rw [Int.mul_comm (f n) c]

theorem sumN_zero : ∀ (n : Nat), sumN St.zero.next n = 0
  | 0 => rfl
  | n + 1 => by simp only [sumN, sumN_zero n]; rfl

/-- A property of states that every step of a ready thread keeps, where none fails. -/
theorem follow_keep {p : List (List Ins)} {n : Nat} {I : St → Prop} (hp : p.length = n)
    (hstep : ∀ s t, I s → t < n → readyB p s t = true → (stepS p s t).1 = true ∧ I (stepS p s t).2 ∧ ∀ j, (stepS p s t).2.next j = if j = t then s.next t + 1 else s.next j) :
    ∀ (a : List Int) (i : Int) (s : St) (acc : List (Int × Int)), I s →
      (follow p a i s acc).kind = 2 ∨ (I (follow p a i s acc).st ∧ (follow p a i s acc).kind = endingS p (follow p a i s acc).st ∧ sumN (follow p a i s acc).st.next n = sumN s.next n + a.length)
  | [], i, s, acc, h => Or.inr ⟨h, rfl, by simp [follow_nil]⟩
  | t :: r, i, s, acc, h => by
    by_cases h1 : okAt p s t = true
    · have h1' := h1
      simp only [okAt, Bool.and_eq_true, belowB, decide_eq_true_eq] at h1'
      have ht : t.toNat < n := by omega
      obtain ⟨s1, s2, s3⟩ := hstep s t.toNat h ht h1'.2
      rw [follow_go p t r i s acc h1 s1]
      rcases follow_keep hp hstep r (i + 1) _ (acc ++ [(t, s.next t.toNat)]) s2 with e | ⟨e1, e2, e3⟩
      · exact Or.inl e
      · refine Or.inr ⟨e1, e2, ?_⟩
        rw [e3, sumN_upd (f := s.next) ht (fun j _ hne => by rw [s3 j, if_neg hne]), s3, if_pos rfl]
        simp
        omega
    · have h3 : okAt p s t = false := by simpa using h1
      rw [follow_wrong p t r i s acc h3]
      exact Or.inl rfl

/-- With the lock: the sum is right in the end. -/
theorem locked_run {p : List (List Ins)} {ms : Nat → Int} {n k : Nat} (hn : n ≤ 4) (hms : ∀ j, j < n → 0 ≤ ms j ∧ ms j ≤ 1000) (hp : p.length = n) (hc : ∀ t, t < n → codeOf p t = lockC k (ms t))
    {a : List Int} (hs : Sched p a) (h48 : (a.length = 48 ∨ a.length = 200) ∨ (runS p a).kind ≠ 5) : (runS p a).kind = 3 ∧ (runS p a).st.vars 3 = 2 * sumN ms n := by
  rcases follow_keep hp (fun s t L ht hr => lstep hn hms L ht (hc t ht) hr) a 0 St.zero [] (LInv.zero ms n k) with e | ⟨L, hk, hsum⟩
  · exact absurd e hs.1
  change LInv ms n k (runS p a).st at L
  change (runS p a).kind = endingS p (runS p a).st at hk
  change sumN (runS p a).st.next n = sumN St.zero.next n + a.length at hsum
  rw [sumN_zero, Int.zero_add] at hsum
  generalize (runS p a).st = s at *
  have hl : ∀ t, t < n → (codeOf p t).length = 12 := fun t ht => by rw [hc t ht]; rfl
  have hfull := sumN_full (f := s.next) (b := 12) (n := n) (fun j hj => (L.pc j hj).2)
  -- a thread whose next instruction is not the lock's is ready
  have hrd : ∀ t, t < n → s.next t ≠ 12 → (s.held k = false ∨ crit (s.next t)) → readyB p s t = true := fun t ht hne hor => by
    have hpc := L.pc t ht
    have hcase : ∃ e, (e = 0 ∨ e = 6) ∧ (s.next t = e ∨ s.next t = e + 1 ∨ s.next t = e + 2 ∨ s.next t = e + 3 ∨ s.next t = e + 4 ∨ s.next t = e + 5) := by
      by_cases h6 : s.next t < 6
      · exact ⟨0, Or.inl rfl, by omega⟩
      · exact ⟨6, Or.inr rfl, by omega⟩
    obtain ⟨e, he, hi⟩ := hcase
    obtain ⟨c0, c1, c2, c3, c4, c5⟩ := lock_ins (hc t ht) he
    have hd : doneB p s t = false := by simp [doneB, hl t ht, hne]
    rcases hi with hi | hi | hi | hi | hi | hi
    · have hf : s.held k = false := by
        rcases hor with h | h
        · exact h
        · simp only [crit] at h; omega
      simp [readyB, hd, hi, c0, hf]
    all_goals simp [readyB, hd, hi, c1, c2, c3, c4, c5]
  have hany : (List.range p.length).any (readyB p s) = false := by
    cases h : (List.range p.length).any (readyB p s) with
    | false => rfl
    | true =>
      exfalso
      have h5 : (runS p a).kind = 5 := by rw [hk]; simp [endingS, h]
      obtain ⟨t, ht, hr⟩ := List.any_eq_true.1 h
      have ht := List.mem_range.1 ht
      rw [hp] at ht
      have hd : s.next t ≠ 12 := by
        intro e
        simp [readyB, doneB, hl t ht, e] at hr
      have hlen : a.length = 48 ∨ a.length = 200 := by
        rcases h48 with h | h
        · exact h
        · exact absurd h5 h
      have hall := hfull.2 (by omega) t ht
      exact hd hall
  have hall : (List.range p.length).all (doneB p s) = true := by
    rw [List.all_eq_true]
    intro t ht
    have ht := List.mem_range.1 ht
    rw [hp] at ht
    cases hd : doneB p s t with
    | true => rfl
    | false =>
      exfalso
      have hne : s.next t ≠ 12 := by simpa [doneB, hl t ht] using hd
      have hno : ∀ j, j < n → readyB p s j = false := fun j hj => by
        cases hr : readyB p s j with
        | false => rfl
        | true =>
          have : (List.range p.length).any (readyB p s) = true := List.any_eq_true.2 ⟨j, List.mem_range.2 (by omega), hr⟩
          rw [hany] at this; cases this
      cases hh : s.held k with
      | false =>
        have := hrd t ht hne (Or.inl hh)
        rw [hno t ht] at this; cases this
      | true =>
        obtain ⟨h, h1, _, h3, _⟩ := L.hold hh
        have := hrd h h1 (by simp only [crit] at h3; omega) (Or.inr h3)
        rw [hno h h1] at this; cases this
  refine ⟨by rw [hk]; simp [endingS, hany, hall], ?_⟩
  rw [L.var]
  have e : sumN (fun t => ms t * cnt (s.next t)) n = sumN (fun t => ms t * 2) n := sumN_congr (fun t ht => by
    have hd := List.all_eq_true.1 hall t (List.mem_range.2 (by omega))
    have : s.next t = 12 := by simpa [doneB, hl t ht] using hd
    rw [this]; rfl)
  rw [e, sumN_scale]

/-- What holds all along, without the lock. -/
structure BInv (ms : Nat → Int) (n : Nat) (s : St) : Prop where
  pc : ∀ t, t < n → 0 ≤ s.next t ∧ s.next t ≤ 4
  var : 0 ≤ s.vars 3 ∧ s.vars 3 ≤ sumN (fun t => if s.next t = 4 then ms t else 0) n
  r2 : ∀ t, t < n → (s.next t = 1 ∨ s.next t = 2) → 0 ≤ s.regs t 2 ∧ s.regs t 2 ≤ sumN (fun t => if s.next t = 4 then ms t else 0) n
  r1 : ∀ t, t < n → s.next t = 2 → s.regs t 1 = ms t
  r3 : ∀ t, t < n → s.next t = 3 → 0 ≤ s.regs t 2 ∧ s.regs t 2 ≤ sumN (fun t => if s.next t = 4 then ms t else 0) n + ms t

theorem BInv.zero (ms : Nat → Int) (n : Nat) : BInv ms n St.zero := by
  have : ∀ n, sumN (fun t => if St.zero.next t = 4 then ms t else 0) n = 0 := fun n => by
    induction n with
    | zero => rfl
    | succ n ih => simp only [sumN, ih]; simp [St.zero]
  refine ⟨fun t _ => ⟨Int.le_refl _, by simp [St.zero]⟩, by rw [this]; simp [St.zero], fun t _ h => by simp [St.zero] at h, fun t _ h => by simp [St.zero] at h, fun t _ h => by simp [St.zero] at h⟩

theorem bare_ins {p : List (List Ins)} {t : Nat} {m : Int} (hc : codeOf p t = addC m) :
    insAt p t 0 = ⟨2, 2, 3, 0⟩ ∧ insAt p t 1 = ⟨1, 1, 0, m⟩ ∧ insAt p t 2 = ⟨4, 2, 1, 0⟩ ∧ insAt p t 3 = ⟨3, 3, 2, 0⟩ := by
  unfold insAt; rw [hc]; exact ⟨rfl, rfl, rfl, rfl⟩

theorem bstep {p : List (List Ins)} {ms : Nat → Int} {n : Nat} {s : St} {t : Nat} (hn : n ≤ 4) (hms : ∀ j, j < n → 0 ≤ ms j ∧ ms j ≤ 1000) (L : BInv ms n s) (ht : t < n) (hc : codeOf p t = addC (ms t)) (hr : readyB p s t = true) :
    (stepS p s t).1 = true ∧ BInv ms n (stepS p s t).2 ∧ ∀ j, (stepS p s t).2.next j = if j = t then s.next t + 1 else s.next j := by
  have hmt := hms t ht
  have hl : (codeOf p t).length = 4 := by rw [hc]; rfl
  have hpc := L.pc t ht
  simp only [readyB, doneB, hl, Bool.and_eq_true, Bool.not_eq_true', beq_eq_false_iff_ne, ne_eq] at hr
  obtain ⟨hd, _⟩ := hr
  have hS := (sumN_le (f := fun t => if s.next t = 4 then ms t else 0) (b := 1000) (n := n) (fun j hj => by have := hms j hj; split <;> omega))
  have hi : s.next t = 0 ∨ s.next t = 1 ∨ s.next t = 2 ∨ s.next t = 3 := by omega
  obtain ⟨c0, c1, c2, c3⟩ := bare_ins hc
  have hv := L.var
  -- the stored ones: as before, but for the last step
  have hst : ∀ y : Nat → Int, (∀ j, y j = if j = t then s.next t + 1 else s.next j) → sumN (fun j => if y j = 4 then ms j else 0) n = sumN (fun j => if s.next j = 4 then ms j else 0) n + (if s.next t = 3 then ms t else 0) := fun y hy => by
    rw [sumN_upd (f := fun j => if s.next j = 4 then ms j else 0) ht (fun j _ hne => by simp only [hy, if_neg hne])]
    simp only [hy, if_true]
    split <;> split <;> split <;> omega
  rcases hi with hi | hi | hi | hi
  · have hs : stepS p s t = (true, (s.setNext t (s.next t + 1)).setReg t 2 (s.vars 3)) := by unfold stepS; rw [hi, c0]; simp [act, St.setNext]
    have hq := hst ((s.setNext t (s.next t + 1)).setReg t 2 (s.vars 3)).next (fun j => rfl)
    rw [if_neg (by omega)] at hq
    rw [hs]
    refine ⟨rfl, ⟨fun j hj => ?_, ?_, fun j hj h => ?_, fun j hj h => ?_, fun j hj h => ?_⟩, fun j => rfl⟩
    · have := L.pc j hj; simp only [St.setReg, St.setNext]; split <;> omega
    · rw [hq]; simp only [St.setReg, St.setNext]; omega
    all_goals
      (try rw [hq])
      have g1 := L.r2 j hj; have g2 := L.r1 j hj; have g3 := L.r3 j hj
      simp only [St.setReg, St.setNext] at h ⊢
      by_cases ej : j = t
      · simp only [ej, if_true] at h ⊢; first | omega | (simp; omega)
      · simp only [if_neg ej] at h; simp only [ej, false_and, if_false]; omega
  · have hs : stepS p s t = (true, (s.setNext t (s.next t + 1)).setReg t 1 (ms t)) := by unfold stepS; rw [hi, c1]; simp [act]
    have hq := hst ((s.setNext t (s.next t + 1)).setReg t 1 (ms t)).next (fun j => rfl)
    rw [if_neg (by omega)] at hq
    rw [hs]
    refine ⟨rfl, ⟨fun j hj => ?_, ?_, fun j hj h => ?_, fun j hj h => ?_, fun j hj h => ?_⟩, fun j => rfl⟩
    · have := L.pc j hj; simp only [St.setReg, St.setNext]; split <;> omega
    · rw [hq]; simp only [St.setReg, St.setNext]; omega
    all_goals
      (try rw [hq])
      have g1 := L.r2 j hj; have g2 := L.r1 j hj; have g3 := L.r3 j hj
      simp only [St.setReg, St.setNext] at h ⊢
      by_cases ej : j = t
      · subst ej; simp only [if_true] at h ⊢; first | omega | (simp; done) | (simp; omega)
      · simp only [if_neg ej] at h; simp only [ej, false_and, if_false]; omega
  · have g1 := L.r2 t ht (by omega)
    have g2 := L.r1 t ht (by omega)
    have hw := wrap64_small (x := s.regs t 2 + ms t) (by omega)
    have hs : stepS p s t = (true, (s.setNext t (s.next t + 1)).setReg t 2 (s.regs t 2 + ms t)) := by unfold stepS; rw [hi, c2]; simp [act, St.setNext, g2, hw]
    have hq := hst ((s.setNext t (s.next t + 1)).setReg t 2 (s.regs t 2 + ms t)).next (fun j => rfl)
    rw [if_neg (by omega)] at hq
    rw [hs]
    refine ⟨rfl, ⟨fun j hj => ?_, ?_, fun j hj h => ?_, fun j hj h => ?_, fun j hj h => ?_⟩, fun j => rfl⟩
    · have := L.pc j hj; simp only [St.setReg, St.setNext]; split <;> omega
    · rw [hq]; simp only [St.setReg, St.setNext]; omega
    all_goals
      (try rw [hq])
      have g3 := L.r2 j hj; have g4 := L.r1 j hj; have g5 := L.r3 j hj
      simp only [St.setReg, St.setNext] at h ⊢
      by_cases ej : j = t
      · subst ej; simp only [if_true] at h ⊢; first | omega | (simp; done) | (simp; omega)
      · simp only [if_neg ej] at h; simp only [ej, false_and, if_false]; omega
  · have g1 := L.r3 t ht (by omega)
    have hs : stepS p s t = (true, (s.setNext t (s.next t + 1)).setVar 3 (s.regs t 2)) := by unfold stepS; rw [hi, c3]; simp [act, St.setNext]
    have hq := hst ((s.setNext t (s.next t + 1)).setVar 3 (s.regs t 2)).next (fun j => rfl)
    rw [if_pos hi] at hq
    rw [hs]
    refine ⟨rfl, ⟨fun j hj => ?_, ?_, fun j hj h => ?_, fun j hj h => ?_, fun j hj h => ?_⟩, fun j => rfl⟩
    · have := L.pc j hj; simp only [St.setVar, St.setNext]; split <;> omega
    · rw [hq]; simp only [St.setVar, St.setNext, if_true]; omega
    all_goals
      (try rw [hq])
      have g3 := L.r2 j hj; have g4 := L.r1 j hj; have g5 := L.r3 j hj
      simp only [St.setVar, St.setNext] at h ⊢
      by_cases ej : j = t
      · simp only [ej, if_true] at h; omega
      · simp only [if_neg ej] at h; omega

/-- Without the lock: no more than the sum. -/
theorem bare_run {p : List (List Ins)} {ms : Nat → Int} {n : Nat} (hn : n ≤ 4) (hms : ∀ j, j < n → 0 ≤ ms j ∧ ms j ≤ 1000) (hp : p.length = n) (hc : ∀ t, t < n → codeOf p t = addC (ms t))
    {a : List Int} (hs : Sched p a) (h48 : (a.length = 48 ∨ a.length = 200) ∨ (runS p a).kind ≠ 5) : (runS p a).kind = 3 ∧ 0 ≤ (runS p a).st.vars 3 ∧ (runS p a).st.vars 3 ≤ sumN ms n := by
  rcases follow_keep hp (fun s t L ht hr => bstep hn hms L ht (hc t ht) hr) a 0 St.zero [] (BInv.zero ms n) with e | ⟨L, hk, hsum⟩
  · exact absurd e hs.1
  change BInv ms n (runS p a).st at L
  change (runS p a).kind = endingS p (runS p a).st at hk
  change sumN (runS p a).st.next n = sumN St.zero.next n + a.length at hsum
  rw [sumN_zero, Int.zero_add] at hsum
  generalize (runS p a).st = s at *
  have hl : ∀ t, t < n → (codeOf p t).length = 4 := fun t ht => by rw [hc t ht]; rfl
  have hfull := (sumN_full (f := s.next) (b := 4) (n := n) (fun j hj => (L.pc j hj).2)).1
  have hany : (List.range p.length).any (readyB p s) = false := by
    cases h : (List.range p.length).any (readyB p s) with
    | false => rfl
    | true =>
      exfalso
      have h5 : (runS p a).kind = 5 := by rw [hk]; simp [endingS, h]
      rcases h48 with h | h
      · omega
      · exact absurd h5 h
  have hall : (List.range p.length).all (doneB p s) = true := by
    rw [List.all_eq_true]
    intro t ht0
    have ht := List.mem_range.1 ht0
    rw [hp] at ht
    cases hd : doneB p s t with
    | true => rfl
    | false =>
      exfalso
      have hne : s.next t ≠ 4 := by simpa [doneB, hl t ht] using hd
      have hpc := L.pc t ht
      obtain ⟨c0, c1, c2, c3⟩ := bare_ins (hc t ht)
      have hr : readyB p s t = true := by
        have hi : s.next t = 0 ∨ s.next t = 1 ∨ s.next t = 2 ∨ s.next t = 3 := by omega
        rcases hi with hi | hi | hi | hi <;> simp [readyB, hd, hi, c0, c1, c2, c3]
      have : (List.range p.length).any (readyB p s) = true := List.any_eq_true.2 ⟨t, ht0, hr⟩
      rw [hany] at this; cases this
  have hle := sumN_mono (f := fun t => if s.next t = 4 then ms t else 0) (g := ms) (n := n) (fun j hj => by have := hms j hj; split <;> omega)
  have hv := L.var
  exact ⟨by rw [hk]; simp [endingS, hany, hall], hv.1, by omega⟩

end Go.Proofs.YtklenjmfalljgaaDoor
