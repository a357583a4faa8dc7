/- Threads that change places. -/
import Derived.Test.YtklenjmfalljgaaDoorPureC
namespace Go.Proofs.YtklenjmfalljgaaDoor

/-- f and g turn the numbers below n into one another. -/
structure Ren (n : Nat) (f g : Nat → Nat) : Prop where
  lt : ∀ t, t < n → f t < n
  glt : ∀ t, t < n → g t < n
  fg : ∀ x, x < n → f (g x) = x
  gf : ∀ t, t < n → g (f t) = t

theorem Ren.inj {n : Nat} {f g : Nat → Nat} (R : Ren n f g) {a b : Nat} (ha : a < n) (hb : b < n) (h : f a = f b) : a = b := by
  rw [← R.gf a ha, ← R.gf b hb, h]

/-- Two states that differ by the threads' places alone: thread t of the second is thread f t of the first. -/
structure Alk (n : Nat) (f : Nat → Nat) (s s' : St) : Prop where
  vars : s'.vars = s.vars
  held : s'.held = s.held
  own : ∀ l, s.held l = true → ∃ y : Nat, y < n ∧ s'.own l = y ∧ s.own l = f y
  regs : ∀ t, t < n → s'.regs t = s.regs (f t)
  next : ∀ t, t < n → s'.next t = s.next (f t)

variable {n : Nat} {f g : Nat → Nat}

theorem Alk.zero : Alk n f St.zero St.zero := ⟨rfl, rfl, fun l h => by simp [St.zero] at h, fun _ _ => rfl, fun _ _ => rfl⟩

theorem Alk.setReg (R : Ren n f g) {s s' : St} (A : Alk n f s s') {t : Nat} (ht : t < n) (r : Nat) (v : Int) : Alk n f (s.setReg (f t) r v) (s'.setReg t r v) := by
  refine ⟨A.vars, A.held, A.own, fun t' h' => ?_, A.next⟩
  funext r'
  simp only [St.setReg]
  by_cases e : t' = t
  · simp [e, A.regs t ht]
  · have e2 : f t' ≠ f t := fun h => e (R.inj h' ht h)
    simp [e, e2, A.regs t' h']

theorem Alk.setVar {s s' : St} (A : Alk n f s s') (x : Nat) (v : Int) : Alk n f (s.setVar x v) (s'.setVar x v) := by
  refine ⟨?_, A.held, A.own, A.regs, A.next⟩
  simp only [St.setVar, A.vars]

theorem Alk.setNext (R : Ren n f g) {s s' : St} (A : Alk n f s s') {t : Nat} (ht : t < n) (v : Int) : Alk n f (s.setNext (f t) v) (s'.setNext t v) := by
  refine ⟨A.vars, A.held, A.own, A.regs, fun t' h' => ?_⟩
  simp only [St.setNext]
  by_cases e : t' = t
  · simp [e]
  · have e2 : f t' ≠ f t := fun h => e (R.inj h' ht h)
    simp [e, e2, A.next t' h']

theorem Alk.take {s s' : St} (A : Alk n f s s') {t : Nat} (ht : t < n) (l : Nat) : Alk n f (s.setLock l true (f t)) (s'.setLock l true t) := by
  refine ⟨A.vars, by simp only [St.setLock, A.held], fun l' h => ?_, A.regs, A.next⟩
  simp only [St.setLock] at h ⊢
  by_cases e : l' = l
  · simp only [e, if_true]; exact ⟨t, ht, rfl, rfl⟩
  · simp only [e, if_false] at h ⊢
    exact A.own l' h

theorem Alk.give {s s' : St} (A : Alk n f s s') (l : Nat) : Alk n f (s.setLock l false 0) (s'.setLock l false 0) := by
  refine ⟨A.vars, by simp only [St.setLock, A.held], fun l' h => ?_, A.regs, A.next⟩
  simp only [St.setLock] at h ⊢
  by_cases e : l' = l
  · simp [e] at h
  · simp only [e, if_false] at h ⊢
    exact A.own l' h

def RelP (n : Nat) (f : Nat → Nat) (x x' : Bool × St) : Prop := x'.1 = x.1 ∧ Alk n f x.2 x'.2

theorem act_ren (R : Ren n f g) {s s' : St} (A : Alk n f s s') {t : Nat} (ht : t < n) (i : Ins) : RelP n f (act (f t) i s) (act t i s') := by
  unfold act
  rw [A.regs t ht, A.vars, A.held]
  by_cases h1 : i.op = 1
  · rw [if_pos h1, if_pos h1]; exact ⟨rfl, A.setReg R ht _ _⟩
  rw [if_neg h1, if_neg h1]
  by_cases h1 : i.op = 2
  · rw [if_pos h1, if_pos h1]; exact ⟨rfl, A.setReg R ht _ _⟩
  rw [if_neg h1, if_neg h1]
  by_cases h1 : i.op = 3
  · rw [if_pos h1, if_pos h1]; exact ⟨rfl, A.setVar _ _⟩
  rw [if_neg h1, if_neg h1]
  by_cases h1 : i.op = 4
  · rw [if_pos h1, if_pos h1]; exact ⟨rfl, A.setReg R ht _ _⟩
  rw [if_neg h1, if_neg h1]
  by_cases h1 : i.op = 5
  · rw [if_pos h1, if_pos h1]; exact ⟨rfl, A.setReg R ht _ _⟩
  rw [if_neg h1, if_neg h1]
  by_cases h1 : i.op = 6
  · rw [if_pos h1, if_pos h1]; exact ⟨rfl, A.setReg R ht _ _⟩
  rw [if_neg h1, if_neg h1]
  by_cases h1 : i.op = 7
  · rw [if_pos h1, if_pos h1]
    by_cases h0 : s.regs (f t) i.b.toNat = 0
    · rw [if_pos h0, if_pos h0]; exact ⟨rfl, A⟩
    · rw [if_neg h0, if_neg h0]; exact ⟨rfl, A.setReg R ht _ _⟩
  rw [if_neg h1, if_neg h1]
  by_cases h1 : i.op = 8
  · rw [if_pos h1, if_pos h1]
    by_cases h0 : s.regs (f t) i.a.toNat = 0
    · rw [if_pos h0, if_pos h0]; exact ⟨rfl, A.setNext R ht _⟩
    · rw [if_neg h0, if_neg h0]; exact ⟨rfl, A⟩
  rw [if_neg h1, if_neg h1]
  by_cases h1 : i.op = 9
  · rw [if_pos h1, if_pos h1]; exact ⟨rfl, A.take ht _⟩
  rw [if_neg h1, if_neg h1]
  by_cases h1 : i.op = 10
  · rw [if_pos h1, if_pos h1]
    by_cases hh : s.held i.a.toNat = true
    · obtain ⟨y, hy, e1, e2⟩ := A.own _ hh
      by_cases h0 : y = t
      · rw [if_pos ⟨hh, by rw [e2, h0]⟩, if_pos ⟨hh, by rw [e1, h0]⟩]; exact ⟨rfl, A.give _⟩
      · have h2 : f y ≠ f t := fun h => h0 (R.inj hy ht h)
        rw [if_neg (fun h => h2 (by have := h.2; rw [e2] at this; omega)), if_neg (fun h => h0 (by have := h.2; rw [e1] at this; omega))]; exact ⟨rfl, A⟩
    · rw [if_neg (fun h => hh h.1), if_neg (fun h => hh h.1)]; exact ⟨rfl, A⟩
  rw [if_neg h1, if_neg h1]
  exact ⟨rfl, A⟩

/-- q is p with its threads' places changed. -/
structure Moved (p q : List (List Ins)) (f : Nat → Nat) : Prop where
  len : q.length = p.length
  code : ∀ t, t < p.length → codeOf q t = codeOf p (f t)

section
variable {p q : List (List Ins)} {s s' : St}

theorem done_ren (M : Moved p q f) (A : Alk p.length f s s') {t : Nat} (ht : t < p.length) : doneB q s' t = doneB p s (f t) := by simp [doneB, A.next t ht, M.code t ht]
theorem ready_ren (M : Moved p q f) (A : Alk p.length f s s') {t : Nat} (ht : t < p.length) : readyB q s' t = readyB p s (f t) := by
  simp [readyB, done_ren M A ht, insAt, A.next t ht, M.code t ht, A.held]
theorem step_ren (R : Ren p.length f g) (M : Moved p q f) (A : Alk p.length f s s') {t : Nat} (ht : t < p.length) : RelP p.length f (stepS p s (f t)) (stepS q s' t) := by
  have h := act_ren R (A.setNext R ht (s.next (f t) + 1)) ht (insAt p (f t) (s.next (f t)))
  unfold stepS
  rw [A.next t ht]
  have e : insAt q t (s.next (f t)) = insAt p (f t) (s.next (f t)) := by simp [insAt, M.code t ht]
  rw [e]; exact h

theorem ending_ren (R : Ren p.length f g) (M : Moved p q f) (A : Alk p.length f s s') : endingS q s' = endingS p s := by
  have h1 : (List.range q.length).any (readyB q s') = (List.range p.length).any (readyB p s) := by
    rw [Bool.eq_iff_iff, List.any_eq_true, List.any_eq_true, M.len]
    constructor
    · rintro ⟨t, h, e⟩
      have ht := List.mem_range.1 h
      exact ⟨f t, List.mem_range.2 (R.lt t ht), by rw [← ready_ren M A ht]; exact e⟩
    · rintro ⟨x, h, e⟩
      have hx := List.mem_range.1 h
      exact ⟨g x, List.mem_range.2 (R.glt x hx), by rw [ready_ren M A (R.glt x hx), R.fg x hx]; exact e⟩
  have h2 : (List.range q.length).all (doneB q s') = (List.range p.length).all (doneB p s) := by
    rw [Bool.eq_iff_iff, List.all_eq_true, List.all_eq_true, M.len]
    constructor
    · intro h x hx
      have hx := List.mem_range.1 hx
      have := h (g x) (List.mem_range.2 (R.glt x hx))
      rw [done_ren M A (R.glt x hx), R.fg x hx] at this; exact this
    · intro h t ht
      have ht := List.mem_range.1 ht
      rw [done_ren M A ht]
      exact h _ (List.mem_range.2 (R.lt t ht))
  unfold endingS
  rw [h1, h2]
end

/-- What is asked of the two runs. -/
structure SameRun (n : Nat) (f g : Nat → Nat) (o o' : Out) : Prop where
  len : o'.steps.length = o.steps.length
  kind : o'.kind = o.kind
  at_ : o'.at_ = o.at_
  thread : o.kind = 1 → 0 ≤ o.thread ∧ o.thread < n ∧ o'.thread = g o.thread.toNat
  st : Alk n f o.st o'.st

theorem follow_ren {p q : List (List Ins)} (R : Ren p.length f g) (M : Moved p q f) : ∀ (a : List Int) (i : Int) (s s' : St) (acc acc' : List (Int × Int)), Alk p.length f s s' → acc'.length = acc.length → (∀ x ∈ a, 0 ≤ x ∧ x < p.length) →
    SameRun p.length f g (follow p a i s acc) (follow q (a.map fun x => (g x.toNat : Int)) i s' acc')
  | [], i, s, s', acc, acc', A, hl, _ => by
    rw [List.map_nil, follow_nil, follow_nil]
    refine ⟨hl, ending_ren R M A, rfl, fun h => ?_, A⟩
    have := endingS_range p s
    simp only at h
    omega
  | t :: r, i, s, s', acc, acc', A, hl, hx => by
    obtain ⟨h0, h1⟩ := hx t (by simp)
    have ht : t.toNat < p.length := by omega
    have hg := R.glt _ ht
    have hfg := R.fg _ ht
    have hok : okAt q s' (g t.toNat : Int) = okAt p s t := by
      have e := ready_ren M A hg
      rw [hfg] at e
      simp only [okAt, belowB, M.len, Int.toNat_natCast, e]
      have : (0 : Int) ≤ (g t.toNat : Int) ∧ (g t.toNat : Int) < (p.length : Int) := by omega
      simp [this.1, this.2, h0, h1]
    have hs := step_ren R M A hg
    rw [hfg] at hs
    have hn := A.next _ hg
    rw [hfg] at hn
    rw [List.map_cons]
    by_cases hk : okAt p s t = true
    · rw [hk] at hok
      by_cases h2 : (stepS p s t.toNat).1 = true
      · have h2' : (stepS q s' (g t.toNat : Int).toNat).1 = true := by rw [Int.toNat_natCast, hs.1]; exact h2
        rw [follow_go p t r i s acc hk h2, follow_go q _ _ i s' acc' hok h2']
        exact follow_ren R M r (i + 1) _ _ _ _ (by rw [Int.toNat_natCast]; exact hs.2) (by simp [hl]) (fun x h => hx x (by simp [h]))
      · have h3 : (stepS p s t.toNat).1 = false := by simpa using h2
        have h3' : (stepS q s' (g t.toNat : Int).toNat).1 = false := by rw [Int.toNat_natCast, hs.1]; exact h3
        rw [follow_fail p t r i s acc hk h3, follow_fail q _ _ i s' acc' hok h3']
        exact ⟨by simp [hl], rfl, by simp [hn], fun _ => ⟨h0, h1, rfl⟩, by simpa using hs.2⟩
    · have hk2 : okAt p s t = false := by simpa using hk
      rw [hk2] at hok
      rw [follow_wrong p t r i s acc hk2, follow_wrong q _ _ i s' acc' hok]
      exact ⟨hl, rfl, rfl, fun h => by simp at h, A⟩

theorem sched_range {p : List (List Ins)} {a : List Int} (h : Sched p a) : ∀ x ∈ a, 0 ≤ x ∧ x < p.length := by
  intro x hx
  obtain ⟨k, hk, rfl⟩ := List.getElem_of_mem hx
  obtain ⟨s', acc', _, _, h3⟩ := sched_prefix h hk
  simp only [okAt, Bool.and_eq_true, belowB, decide_eq_true_eq] at h3
  exact h3.1

theorem run_ren {p q : List (List Ins)} (R : Ren p.length f g) (M : Moved p q f) {a : List Int} (h : Sched p a) : SameRun p.length f g (runS p a) (runS q (a.map fun x => (g x.toNat : Int))) :=
  follow_ren R M a 0 _ _ [] [] Alk.zero rfl (sched_range h)

/-- The turn by d places. -/
def turnF (n d t : Nat) : Nat := (t + d) % n
def turnG (n d x : Nat) : Nat := (x + n - d) % n
theorem turn_ren {n d : Nat} (h1 : 1 ≤ n) (h4 : n ≤ 4) (hd : d < n) : Ren n (turnF n d) (turnG n d) := by
  have hn : n = 1 ∨ n = 2 ∨ n = 3 ∨ n = 4 := by omega
  refine ⟨fun t ht => Nat.mod_lt _ (by omega), fun t ht => Nat.mod_lt _ (by omega), fun x hx => ?_, fun t ht => ?_⟩ <;>
    · unfold turnF turnG
      rcases hn with rfl | rfl | rfl | rfl <;> omega

end Go.Proofs.YtklenjmfalljgaaDoor
