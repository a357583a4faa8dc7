/- The texts Frn Fro Frr Fha Fhb Fhc Frs Fhd. -/
import Derived.Test.YtklenjmfalljgaaGreatDoorMF
import Derived.Maps.Own
import Derived.Maps.OwnOps
import Derived.Maps.Views
import Derived.DeepKeys4
import Derived.Deep.DeepCutAuto

/- Steps that have nothing to do with one another change places: the machine comes to the same (no dump is named here). -/
namespace Go.Proofs.YtklenjmfalljgaaGreatDoor
open Go.RowKit (wrap64)

/-- What an instruction writes into its thread's registers. -/
def locR (i : Ins) (R : Nat → Int) (v : Int) (r : Nat) : Int :=
  if r = i.a.toNat then
    (if i.op = 1 then i.n else if i.op = 2 then v else if i.op = 4 then wrap64 (R i.a.toNat + R i.b.toNat) else if i.op = 5 then wrap64 (R i.a.toNat - R i.b.toNat)
     else if i.op = 6 then wrap64 (R i.a.toNat * R i.b.toNat) else if i.op = 7 then (if R i.b.toNat = 0 then R r else wrap64 ((R i.a.toNat).tdiv (R i.b.toNat))) else R r)
  else R r
/-- Does it do? -/
def locOk (t : Nat) (i : Ins) (R : Nat → Int) (h : Bool) (o : Int) : Bool :=
  if i.op = 7 then R i.b.toNat != 0 else if i.op = 10 then decide (h = true ∧ o = t) else if 1 ≤ i.op ∧ i.op ≤ 9 then true else R i.a.toNat != 0

theorem act_parts (t : Nat) (i : Ins) (s : St) :
    (act t i s).1 = locOk t i (s.regs t) (s.held i.a.toNat) (s.own i.a.toNat) ∧
    (act t i s).2.vars = (fun x => if i.op = 3 ∧ x = i.a.toNat then s.regs t i.b.toNat else s.vars x) ∧
    (act t i s).2.held = (fun l => if i.op = 9 ∧ l = i.a.toNat then true else if i.op = 10 ∧ l = i.a.toNat ∧ s.held i.a.toNat = true ∧ s.own i.a.toNat = t then false else s.held l) ∧
    (act t i s).2.own = (fun l => if i.op = 9 ∧ l = i.a.toNat then (t : Int) else if i.op = 10 ∧ l = i.a.toNat ∧ s.held i.a.toNat = true ∧ s.own i.a.toNat = t then 0 else s.own l) ∧
    (act t i s).2.regs = (fun t' r => if t' = t then locR i (s.regs t) (s.vars i.b.toNat) r else s.regs t' r) ∧
    (act t i s).2.next = (fun t' => if t' = t ∧ i.op = 8 ∧ s.regs t i.a.toNat = 0 then i.n else s.next t') := by
  have hc : i.op = 1 ∨ i.op = 2 ∨ i.op = 3 ∨ i.op = 4 ∨ i.op = 5 ∨ i.op = 6 ∨ i.op = 7 ∨ i.op = 8 ∨ i.op = 9 ∨ i.op = 10 ∨ (i.op ≠ 1 ∧ i.op ≠ 2 ∧ i.op ≠ 3 ∧ i.op ≠ 4 ∧ i.op ≠ 5 ∧ i.op ≠ 6 ∧ i.op ≠ 7 ∧ i.op ≠ 8 ∧ i.op ≠ 9 ∧ i.op ≠ 10) := by omega
  have key : ∀ (c : Prop) [Decidable c] (f : Nat → Nat → Int) (x : Int) (t' r : Nat), (if t' = t ∧ r = i.a.toNat then x else s.regs t' r) = (if t' = t then (if r = i.a.toNat then x else s.regs t r) else s.regs t' r) := by
    intro c _ f x t' r
    by_cases h1 : t' = t
    · subst h1; simp
    · simp [h1]
  have keep : ∀ (t' r : Nat), s.regs t' r = (if t' = t then s.regs t r else s.regs t' r) := by
    intro t' r
    by_cases h1 : t' = t
    · subst h1; simp
    · simp [h1]
  rcases hc with e | e | e | e | e | e | e | e | e | e | e
  · simp [act, e, locOk, locR, St.setReg, key True (fun _ _ => 0)]
  · simp [act, e, locOk, locR, St.setReg, key True (fun _ _ => 0)]
  · simp [act, e, locOk, locR, St.setVar]
    funext t' r; exact keep t' r
  · simp [act, e, locOk, locR, St.setReg, key True (fun _ _ => 0)]
  · simp [act, e, locOk, locR, St.setReg, key True (fun _ _ => 0)]
  · simp [act, e, locOk, locR, St.setReg, key True (fun _ _ => 0)]
  · by_cases h0 : s.regs t i.b.toNat = 0
    · simp [act, e, locOk, locR, h0]
      funext t' r; exact keep t' r
    · simp [act, e, locOk, locR, h0, St.setReg, key True (fun _ _ => 0)]
  · by_cases h0 : s.regs t i.a.toNat = 0
    · simp [act, e, locOk, locR, h0, St.setNext]
      funext t' r; exact keep t' r
    · simp [act, e, locOk, locR, h0]
      funext t' r; exact keep t' r
  · simp [act, e, locOk, locR, St.setLock]
    funext t' r; exact keep t' r
  · by_cases h0 : s.held i.a.toNat = true ∧ s.own i.a.toNat = t
    · simp [act, e, locOk, locR, h0, St.setLock]
      funext t' r; exact keep t' r
    · have h1 : ¬ (s.held i.a.toNat = true ∧ s.own i.a.toNat = t) := h0
      have h2 : ∀ l, ¬ (l = i.a.toNat ∧ s.held i.a.toNat = true ∧ s.own i.a.toNat = t) := fun l h => h1 h.2
      simp [act, e, locOk, locR, h1]
      funext t' r; exact keep t' r
  · obtain ⟨e1, e2, e3, e4, e5, e6, e7, e8, e9, e10⟩ := e
    have h1 : ¬ (1 ≤ i.op ∧ i.op ≤ 9) := by omega
    simp only [act, locOk, locR, e1, e2, e3, e4, e5, e6, e7, e8, e9, e10, if_false, h1, false_and, and_false]
    refine ⟨trivial, trivial, trivial, trivial, ?_, trivial⟩
    funext t' r
    simp only [ite_self]; exact keep t' r

/-- What an instruction has to do with what threads share: 0 nothing, 1 a lock, 2 reads a variable, 3 writes one; which. -/
def tou (i : Ins) : Nat × Nat := if i.op = 9 ∨ i.op = 10 then (1, i.a.toNat) else if i.op = 2 then (2, i.b.toNat) else if i.op = 3 then (3, i.a.toNat) else (0, 0)
def clash (x y : Nat × Nat) : Bool := x.1 != 0 && y.1 != 0 && x.2 == y.2 && ((x.1 == 1) == (y.1 == 1)) && !(x.1 == 2 && y.1 == 2)

/-- A step that was done, or failed. -/
structure Ev where
  t : Nat
  k : Int
  bad : Bool

def depE (p : List (List Ins)) (x y : Ev) : Bool := x.bad || y.bad || x.t == y.t || clash (tou (insAt p x.t x.k)) (tou (insAt p y.t y.k))
theorem clash_symm (x y : Nat × Nat) : clash x y = clash y x := by
  unfold clash
  rw [Bool.eq_iff_iff]
  simp only [Bool.and_eq_true, bne_iff_ne, beq_iff_eq, Bool.not_eq_true', Bool.and_eq_false_iff]
  constructor
  · rintro ⟨⟨⟨⟨a, b⟩, c⟩, e⟩, f⟩; exact ⟨⟨⟨⟨b, a⟩, c.symm⟩, e.symm⟩, f.symm⟩
  · rintro ⟨⟨⟨⟨a, b⟩, c⟩, e⟩, f⟩; exact ⟨⟨⟨⟨b, a⟩, c.symm⟩, e.symm⟩, f.symm⟩
theorem depE_symm (p : List (List Ins)) (x y : Ev) : depE p x y = depE p y x := by
  unfold depE
  rw [clash_symm, Bool.or_comm x.bad y.bad]
  congr 2
  rw [Bool.eq_iff_iff]; simp; exact eq_comm

def goes (p : List (List Ins)) (s : St) (x : Ev) : Prop := x.t < p.length ∧ readyB p s x.t = true ∧ s.next x.t = x.k ∧ (stepS p s x.t).1 = !x.bad
def RunE (p : List (List Ins)) : St → List Ev → St → Prop
  | s, [], s' => s' = s
  | s, x :: r, s' => goes p s x ∧ RunE p (stepS p s x.t).2 r s'

/-- What a step leaves. -/
theorem step_parts (p : List (List Ins)) (s : St) (t : Nat) (i : Ins) (hi : insAt p t (s.next t) = i) :
    (stepS p s t).1 = locOk t i (s.regs t) (s.held i.a.toNat) (s.own i.a.toNat) ∧
    (stepS p s t).2.vars = (fun x => if i.op = 3 ∧ x = i.a.toNat then s.regs t i.b.toNat else s.vars x) ∧
    (stepS p s t).2.held = (fun l => if i.op = 9 ∧ l = i.a.toNat then true else if i.op = 10 ∧ l = i.a.toNat ∧ s.held i.a.toNat = true ∧ s.own i.a.toNat = t then false else s.held l) ∧
    (stepS p s t).2.own = (fun l => if i.op = 9 ∧ l = i.a.toNat then (t : Int) else if i.op = 10 ∧ l = i.a.toNat ∧ s.held i.a.toNat = true ∧ s.own i.a.toNat = t then 0 else s.own l) ∧
    (stepS p s t).2.regs = (fun t' r => if t' = t then locR i (s.regs t) (s.vars i.b.toNat) r else s.regs t' r) ∧
    (stepS p s t).2.next = (fun t' => if t' = t then (if i.op = 8 ∧ s.regs t i.a.toNat = 0 then i.n else s.next t + 1) else s.next t') := by
  subst hi
  obtain ⟨h1, h2, h3, h4, h5, h6⟩ := act_parts t (insAt p t (s.next t)) (s.setNext t (s.next t + 1))
  refine ⟨h1, h2, h3, h4, h5, ?_⟩
  unfold stepS
  rw [h6]
  funext t'
  simp only [St.setNext]
  by_cases e : t' = t
  · simp [e]
  · simp [e]

theorem St.eq_of {s s' : St} (h1 : s.vars = s'.vars) (h2 : s.held = s'.held) (h3 : s.own = s'.own) (h4 : s.regs = s'.regs) (h5 : s.next = s'.next) : s = s' := by
  cases s; cases s'; simp at *; exact ⟨h1, h2, h3, h4, h5⟩

theorem locR_val (i : Ins) (R : Nat → Int) (v v' : Int) (h : i.op = 2 → v = v') : locR i R v = locR i R v' := by
  funext r
  unfold locR
  by_cases e : i.op = 2
  · rw [h e]
  · simp [e]
theorem locOk_val (t : Nat) (i : Ins) (R : Nat → Int) (h h' : Bool) (o o' : Int) (e : i.op = 10 → h = h' ∧ o = o') : locOk t i R h o = locOk t i R h' o' := by
  unfold locOk
  by_cases e1 : i.op = 10
  · rw [(e e1).1, (e e1).2]
  · simp [e1]

/-- Two steps that have nothing to do with one another change places. -/
theorem step_swap {p : List (List Ins)} {s : St} {x y : Ev} (hx : goes p s x) (hy : goes p (stepS p s x.t).2 y) (hd : depE p x y = false) :
    goes p s y ∧ goes p (stepS p s y.t).2 x ∧ (stepS p (stepS p s y.t).2 x.t).2 = (stepS p (stepS p s x.t).2 y.t).2 := by
  obtain ⟨x1, x2, x3, x4⟩ := hx
  obtain ⟨y1, y2, y3, y4⟩ := hy
  have hne : x.t ≠ y.t := by
    intro e; simp [depE, e] at hd
  have hcl : clash (tou (insAt p x.t x.k)) (tou (insAt p y.t y.k)) = false := by
    cases hc : clash (tou (insAt p x.t x.k)) (tou (insAt p y.t y.k)) with
    | false => rfl
    | true => simp [depE, hc] at hd
  generalize hxi : insAt p x.t x.k = i at *
  generalize hyi : insAt p y.t y.k = j at *
  have hxs : insAt p x.t (s.next x.t) = i := by rw [x3]; exact hxi
  obtain ⟨a1, a2, a3, a4, a5, a6⟩ := step_parts p s x.t i hxs
  generalize hs1 : (stepS p s x.t).2 = s1 at *
  have hn1 : s1.next y.t = s.next y.t := by rw [a6]; simp [Ne.symm hne]
  rw [hn1] at y3
  have hys : insAt p y.t (s.next y.t) = j := by rw [y3]; exact hyi
  obtain ⟨b1, b2, b3, b4, b5, b6⟩ := step_parts p s1 y.t j (by rw [hn1]; exact hys)
  obtain ⟨c1, c2, c3, c4, c5, c6⟩ := step_parts p s y.t j hys
  generalize hs2 : (stepS p s y.t).2 = s2 at *
  have hn2 : s2.next x.t = s.next x.t := by rw [c6]; simp [hne]
  obtain ⟨d1, d2, d3, d4, d5, d6⟩ := step_parts p s2 x.t i (by rw [hn2]; exact hxs)
  have r1 : s1.regs y.t = s.regs y.t := by rw [a5]; simp [Ne.symm hne]
  have r2 : s2.regs x.t = s.regs x.t := by rw [c5]; simp [hne]
  -- what they share
  have hl : ¬ ((i.op = 9 ∨ i.op = 10) ∧ (j.op = 9 ∨ j.op = 10) ∧ i.a.toNat = j.a.toNat) := by
    rintro ⟨h1, h2, h3⟩
    simp [clash, tou, h1, h2, h3] at hcl
  have hss : ¬ (i.op = 3 ∧ j.op = 3 ∧ i.a.toNat = j.a.toNat) := by
    rintro ⟨h1, h2, h3⟩
    simp [clash, tou, h1, h2, h3] at hcl
  have hsl : ¬ (i.op = 3 ∧ j.op = 2 ∧ i.a.toNat = j.b.toNat) := by
    rintro ⟨h1, h2, h3⟩
    simp [clash, tou, h1, h2, h3] at hcl
  have hls : ¬ (i.op = 2 ∧ j.op = 3 ∧ i.b.toNat = j.a.toNat) := by
    rintro ⟨h1, h2, h3⟩
    simp [clash, tou, h1, h2, h3] at hcl
  have v1 : j.op = 2 → s1.vars j.b.toNat = s.vars j.b.toNat := fun e => by
    rw [a2]; simp only; rw [if_neg]; rintro ⟨h1, h2⟩; exact hsl ⟨h1, e, h2.symm⟩
  have v2 : i.op = 2 → s2.vars i.b.toNat = s.vars i.b.toNat := fun e => by
    rw [c2]; simp only; rw [if_neg]; rintro ⟨h1, h2⟩; exact hls ⟨e, h1, h2⟩
  have l1 : (j.op = 9 ∨ j.op = 10) → s1.held j.a.toNat = s.held j.a.toNat ∧ s1.own j.a.toNat = s.own j.a.toNat := fun e => by
    have n1 : ¬ (i.op = 9 ∧ j.a.toNat = i.a.toNat) := fun h => hl ⟨Or.inl h.1, e, h.2.symm⟩
    have n2 : ¬ (i.op = 10 ∧ j.a.toNat = i.a.toNat ∧ s.held i.a.toNat = true ∧ s.own i.a.toNat = x.t) := fun h => hl ⟨Or.inr h.1, e, h.2.1.symm⟩
    rw [a3, a4]; simp only; rw [if_neg n1, if_neg n2, if_neg n1, if_neg n2]; exact ⟨rfl, rfl⟩
  have l2 : (i.op = 9 ∨ i.op = 10) → s2.held i.a.toNat = s.held i.a.toNat ∧ s2.own i.a.toNat = s.own i.a.toNat := fun e => by
    have n1 : ¬ (j.op = 9 ∧ i.a.toNat = j.a.toNat) := fun h => hl ⟨e, Or.inl h.1, h.2⟩
    have n2 : ¬ (j.op = 10 ∧ i.a.toNat = j.a.toNat ∧ s.held j.a.toNat = true ∧ s.own j.a.toNat = y.t) := fun h => hl ⟨e, Or.inr h.1, h.2.1⟩
    rw [c3, c4]; simp only; rw [if_neg n1, if_neg n2, if_neg n1, if_neg n2]; exact ⟨rfl, rfl⟩
  have lx : i.op = 10 → s2.held i.a.toNat = s.held i.a.toNat ∧ s2.own i.a.toNat = s.own i.a.toNat := fun e => l2 (Or.inr e)
  have ly : j.op = 10 → s1.held j.a.toNat = s.held j.a.toNat ∧ s1.own j.a.toNat = s.own j.a.toNat := fun e => l1 (Or.inr e)
  have ry : readyB p s y.t = true := by
    unfold readyB doneB at y2 ⊢
    rw [hn1, hys] at y2
    rw [hys]
    by_cases e : j.op = 9
    · rw [(l1 (Or.inl e)).1] at y2; exact y2
    · simpa [e] using y2
  have rx : readyB p s2 x.t = true := by
    unfold readyB doneB at x2 ⊢
    rw [hxs] at x2
    rw [hn2, hxs]
    by_cases e : i.op = 9
    · rw [(l2 (Or.inl e)).1]; exact x2
    · simpa [e] using x2
  have oy : locOk y.t j (s1.regs y.t) (s1.held j.a.toNat) (s1.own j.a.toNat) = locOk y.t j (s.regs y.t) (s.held j.a.toNat) (s.own j.a.toNat) := by
    rw [r1]; exact locOk_val _ _ _ _ _ _ _ ly
  have ox : locOk x.t i (s2.regs x.t) (s2.held i.a.toNat) (s2.own i.a.toNat) = locOk x.t i (s.regs x.t) (s.held i.a.toNat) (s.own i.a.toNat) := by
    rw [r2]; exact locOk_val _ _ _ _ _ _ _ lx
  refine ⟨⟨y1, ry, y3, ?_⟩, ⟨x1, rx, by rw [hn2]; exact x3, ?_⟩, St.eq_of ?_ ?_ ?_ ?_ ?_⟩
  · rw [c1, ← oy, ← b1]; exact y4
  · rw [d1, ox, ← a1]; exact x4
  · funext v
    rw [d2, b2]
    simp only
    by_cases e1 : i.op = 3 ∧ v = i.a.toNat
    · have e2 : ¬ (j.op = 3 ∧ v = j.a.toNat) := fun h => hss ⟨e1.1, h.1, by rw [← e1.2]; exact h.2⟩
      rw [if_pos e1, if_neg e2, r2, a2]
      simp only
      rw [if_pos e1]
    · rw [if_neg e1, r1, c2]
      simp only
      by_cases e2 : j.op = 3 ∧ v = j.a.toNat
      · rw [if_pos e2, if_pos e2]
      · rw [if_neg e2, if_neg e2, a2]; simp only; rw [if_neg e1]
  · funext l
    by_cases e1 : (i.op = 9 ∨ i.op = 10) ∧ l = i.a.toNat
    · have n1 : ¬ (j.op = 9 ∧ l = j.a.toNat) := fun h => hl ⟨e1.1, Or.inl h.1, by rw [← e1.2]; exact h.2⟩
      have n2 : ∀ q : Prop, ¬ (j.op = 10 ∧ l = j.a.toNat ∧ q) := fun q h => hl ⟨e1.1, Or.inr h.1, by rw [← e1.2]; exact h.2.1⟩
      have h2 : s2.held l = s.held l := by rw [c3]; simp only; rw [if_neg n1, if_neg (n2 _)]
      rw [d3, b3]
      simp only
      rw [if_neg n1, if_neg (n2 _), h2, a3]
      simp only
      rw [(l2 e1.1).1, (l2 e1.1).2]
    · have n1 : ¬ (i.op = 9 ∧ l = i.a.toNat) := fun h => e1 ⟨Or.inl h.1, h.2⟩
      have n2 : ∀ q : Prop, ¬ (i.op = 10 ∧ l = i.a.toNat ∧ q) := fun q h => e1 ⟨Or.inr h.1, h.2.1⟩
      have h1 : s1.held l = s.held l := by rw [a3]; simp only; rw [if_neg n1, if_neg (n2 _)]
      rw [d3, b3]
      simp only
      rw [if_neg n1, if_neg (n2 _), h1, c3]
      simp only
      by_cases e2 : j.op = 9 ∨ j.op = 10
      · rw [(l1 e2).1, (l1 e2).2]
      · have m1 : ¬ j.op = 9 := fun h => e2 (Or.inl h)
        have m2 : ¬ j.op = 10 := fun h => e2 (Or.inr h)
        simp [m1, m2]
  · funext l
    by_cases e1 : (i.op = 9 ∨ i.op = 10) ∧ l = i.a.toNat
    · have n1 : ¬ (j.op = 9 ∧ l = j.a.toNat) := fun h => hl ⟨e1.1, Or.inl h.1, by rw [← e1.2]; exact h.2⟩
      have n2 : ∀ q : Prop, ¬ (j.op = 10 ∧ l = j.a.toNat ∧ q) := fun q h => hl ⟨e1.1, Or.inr h.1, by rw [← e1.2]; exact h.2.1⟩
      have h2 : s2.own l = s.own l := by rw [c4]; simp only; rw [if_neg n1, if_neg (n2 _)]
      rw [d4, b4]
      simp only
      rw [if_neg n1, if_neg (n2 _), h2, a4]
      simp only
      rw [(l2 e1.1).1, (l2 e1.1).2]
    · have n1 : ¬ (i.op = 9 ∧ l = i.a.toNat) := fun h => e1 ⟨Or.inl h.1, h.2⟩
      have n2 : ∀ q : Prop, ¬ (i.op = 10 ∧ l = i.a.toNat ∧ q) := fun q h => e1 ⟨Or.inr h.1, h.2.1⟩
      have h1 : s1.own l = s.own l := by rw [a4]; simp only; rw [if_neg n1, if_neg (n2 _)]
      rw [d4, b4]
      simp only
      rw [if_neg n1, if_neg (n2 _), h1, c4]
      simp only
      by_cases e2 : j.op = 9 ∨ j.op = 10
      · rw [(l1 e2).1, (l1 e2).2]
      · have m1 : ¬ j.op = 9 := fun h => e2 (Or.inl h)
        have m2 : ¬ j.op = 10 := fun h => e2 (Or.inr h)
        simp [m1, m2]
  · funext t' r
    rw [d5, b5]
    simp only
    by_cases e1 : t' = x.t
    · subst e1
      rw [if_pos rfl, if_neg hne, r2, locR_val i _ _ _ v2, a5]
      simp
    · rw [if_neg e1, c5, r1, locR_val j _ _ _ v1]
      simp only
      by_cases e2 : t' = y.t
      · simp [e2]
      · rw [if_neg e2, if_neg e2, a5]; simp [e1]
  · funext t'
    rw [d6, b6]
    simp only
    by_cases e1 : t' = x.t
    · subst e1
      rw [if_pos rfl, if_neg hne, r2, hn2, a6]
      simp
    · rw [if_neg e1, c6, r1, hn1]
      simp only
      by_cases e2 : t' = y.t
      · simp [e2]
      · rw [if_neg e2, if_neg e2, a6]; simp [e1]

theorem RunE.append {p : List (List Ins)} : ∀ {a b : List Ev} {s s' : St}, RunE p s (a ++ b) s' ↔ ∃ s1, RunE p s a s1 ∧ RunE p s1 b s'
  | [], b, s, s' => by simp [RunE]
  | x :: a, b, s, s' => by
    simp only [List.cons_append, RunE, RunE.append (a := a)]
    constructor
    · rintro ⟨h1, s1, h2, h3⟩; exact ⟨s1, ⟨h1, h2⟩, h3⟩
    · rintro ⟨s1, ⟨h1, h2⟩, h3⟩; exact ⟨h1, s1, h2, h3⟩

/-- A run of steps, some of which changed places. -/
theorem RunE.eqv {p : List (List Ins)} {s s' : St} {xs ys : List Ev} (h : Eqv (depE p) xs ys) : RunE p s xs s' → RunE p s ys s' := by
  refine h (fun xs ys => RunE p s xs s' → RunE p s ys s') (fun _ => id) (fun a x y b h1 h2 => ?_) (fun _ _ _ i1 i2 h => i2 (i1 h))
  show RunE p s (a ++ x :: y :: b) s' → RunE p s (a ++ y :: x :: b) s'
  rw [RunE.append, RunE.append]
  rintro ⟨s1, ha, hx, hy, hb⟩
  obtain ⟨g1, g2, g3⟩ := step_swap hx hy h1
  exact ⟨s1, ha, g1, g2, by rw [g3]; exact hb⟩

end Go.Proofs.YtklenjmfalljgaaGreatDoor

/- A run's steps, and the form of a schedule: it runs to the same, and is its own (no dump is named here). -/
namespace Go.Proofs.YtklenjmfalljgaaGreatDoor

def Ev.tI (e : Ev) : Int := (e.t : Int)
def Ev.pr (e : Ev) : Int × Int := ((e.t : Int), e.k)
def evG (x : Int × Int) : Ev := ⟨x.1.toNat, x.2, false⟩
def evB (x : Int × Int) : Ev := ⟨x.1.toNat, x.2, true⟩
def good (xs : List Ev) : Prop := ∀ e ∈ xs, e.bad = false

/-- The steps of a run; the last one failed, if the run did. -/
def evsOf (o : Out) : List Ev := if o.kind = 1 then o.steps.dropLast.map evG ++ (o.steps.getLast?.map evB).toList else o.steps.map evG

theorem evG_pr {e : Ev} (h : e.bad = false) : evG e.pr = e := by cases e; simp [evG, Ev.pr] at *; exact h
theorem evB_pr {e : Ev} (h : e.bad = true) : evB e.pr = e := by cases e; simp [evB, Ev.pr] at *; exact h
theorem evG_all {xs : List Ev} (h : good xs) : (xs.map Ev.pr).map evG = xs := by
  induction xs with
  | nil => rfl
  | cons x r ih =>
    simp only [List.map_cons]
    rw [evG_pr (h x (List.mem_cons_self ..)), ih (fun e he => h e (List.mem_cons_of_mem _ he))]
theorem evsOf_good {o : Out} {xs : List Ev} (hk : o.kind ≠ 1) (hs : o.steps = xs.map Ev.pr) (h : good xs) : evsOf o = xs := by
  unfold evsOf; rw [if_neg hk, hs, evG_all h]
theorem evsOf_bad {o : Out} {ys : List Ev} {z : Ev} (hk : o.kind = 1) (hs : o.steps = (ys ++ [z]).map Ev.pr) (h : good ys) (hz : z.bad = true) : evsOf o = ys ++ [z] := by
  unfold evsOf; rw [if_pos hk, hs]; simp [evG_all h, evB_pr hz]

theorem goes_ok {p : List (List Ins)} {s : St} {x : Ev} (h : goes p s x) : okAt p s x.tI = true := by
  obtain ⟨h1, h2, _⟩ := h
  simp [okAt, belowB, Ev.tI, h1, h2]

/-- What a run is, by its steps. -/
theorem follow_cases (p : List (List Ins)) : ∀ (l : List Int) (i : Int) (s : St) (acc : List (Int × Int)), ∃ xs s', RunE p s xs s' ∧ (follow p l i s acc).steps = acc ++ xs.map Ev.pr ∧ (follow p l i s acc).st = s' ∧
    ((good xs ∧ xs.map Ev.tI = l ∧ (follow p l i s acc).kind = endingS p s' ∧ (follow p l i s acc).thread = 0 ∧ (follow p l i s acc).at_ = 0) ∨
     (good xs ∧ (∃ u r, l = xs.map Ev.tI ++ u :: r ∧ okAt p s' u = false) ∧ (follow p l i s acc).kind = 2 ∧ (follow p l i s acc).thread = 0 ∧ (follow p l i s acc).at_ = i + xs.length) ∨
     (∃ ys z r, xs = ys ++ [z] ∧ good ys ∧ z.bad = true ∧ l = xs.map Ev.tI ++ r ∧ (follow p l i s acc).kind = 1 ∧ (follow p l i s acc).thread = z.tI ∧ (follow p l i s acc).at_ = z.k))
  | [], i, s, acc => ⟨[], s, rfl, by simp [follow], rfl, Or.inl ⟨by simp [good], rfl, rfl, rfl, rfl⟩⟩
  | t :: r, i, s, acc => by
    by_cases h1 : okAt p s t = true
    · have hb : 0 ≤ t ∧ t < p.length ∧ readyB p s t.toNat = true := by
        simp [okAt, belowB] at h1; exact ⟨h1.1.1, h1.1.2, h1.2⟩
      obtain ⟨hb1, hb2, hb3⟩ := hb
      have ht : ((t.toNat : Nat) : Int) = t := by omega
      by_cases h2 : (stepS p s t.toNat).1 = true
      · obtain ⟨xs, s', hr, hs, hst, hc⟩ := follow_cases p r (i + 1) (stepS p s t.toNat).2 (acc ++ [(t, s.next t.toNat)])
        rw [follow_go p t r i s acc h1 h2]
        have hg : goes p s ⟨t.toNat, s.next t.toNat, false⟩ := ⟨by simp only; omega, hb3, rfl, by simpa using h2⟩
        refine ⟨⟨t.toNat, s.next t.toNat, false⟩ :: xs, s', ⟨hg, hr⟩, ?_, hst, ?_⟩
        · rw [hs]; simp [Ev.pr, ht]
        · have hgood : ∀ {zs : List Ev}, good zs → good (⟨t.toNat, s.next t.toNat, false⟩ :: zs) := fun h e he => by
            rcases List.mem_cons.1 he with he | he
            · rw [he]
            · exact h e he
          rcases hc with ⟨g1, g2, g3, g4, g5⟩ | ⟨g1, ⟨u, r', g2, g2'⟩, g3, g4, g5⟩ | ⟨ys, z, r', g1, g2, g3, g4, g5, g6, g7⟩
          · exact Or.inl ⟨hgood g1, by simp [Ev.tI, ht]; exact g2, g3, g4, g5⟩
          · exact Or.inr (Or.inl ⟨hgood g1, ⟨u, r', by simp [Ev.tI, ht]; exact g2, g2'⟩, g3, g4, by rw [g5]; simp; omega⟩)
          · exact Or.inr (Or.inr ⟨⟨t.toNat, s.next t.toNat, false⟩ :: ys, z, r', by rw [g1]; rfl, hgood g2, g3, by simp [Ev.tI, ht]; exact g4, g5, g6, g7⟩)
      · have h3 : (stepS p s t.toNat).1 = false := by simpa using h2
        rw [follow_fail p t r i s acc h1 h3]
        refine ⟨[⟨t.toNat, s.next t.toNat, true⟩], _, ⟨⟨by simp only; omega, hb3, rfl, by simpa using h3⟩, rfl⟩, by simp [Ev.pr, ht], rfl, Or.inr (Or.inr ⟨[], _, r, rfl, by simp [good], rfl, by simp [Ev.tI, ht], rfl, by simp [Ev.tI, ht], rfl⟩)⟩
    · have h3 : okAt p s t = false := by simpa using h1
      rw [follow_wrong p t r i s acc h3]
      exact ⟨[], s, rfl, by simp, rfl, Or.inr (Or.inl ⟨by simp [good], ⟨t, r, rfl, h3⟩, rfl, rfl, by simp⟩)⟩

theorem follow_of_good (p : List (List Ins)) : ∀ (xs : List Ev) (l : List Int) (i : Int) (s s' : St) (acc : List (Int × Int)), good xs → RunE p s xs s' → follow p (xs.map Ev.tI ++ l) i s acc = follow p l (i + xs.length) s' (acc ++ xs.map Ev.pr)
  | [], l, i, s, s', acc, _, h => by cases h; simp
  | x :: r, l, i, s, s', acc, hg, ⟨h1, h2⟩ => by
    have hb := hg x (List.mem_cons_self ..)
    have hok := goes_ok h1
    obtain ⟨g1, g2, g3, g4⟩ := h1
    have e1 : x.tI.toNat = x.t := by simp [Ev.tI]
    rw [List.map_cons, List.cons_append, follow_go p _ _ i s acc hok (by rw [e1, g4, hb]; rfl), e1, follow_of_good p r l (i + 1) _ s' _ (fun e he => hg e (List.mem_cons_of_mem _ he)) h2]
    congr 1
    · simp; omega
    · simp [Ev.pr, Ev.tI, g3]

theorem follow_good {p : List (List Ins)} {xs : List Ev} {i : Int} {s s' : St} {acc : List (Int × Int)} (hg : good xs) (h : RunE p s xs s') : follow p (xs.map Ev.tI) i s acc = ⟨acc ++ xs.map Ev.pr, endingS p s', 0, 0, s'⟩ := by
  have := follow_of_good p xs [] i s s' acc hg h
  rw [List.append_nil] at this
  rw [this]; rfl
theorem follow_bad {p : List (List Ins)} {ys : List Ev} {z : Ev} {i : Int} {s s' : St} {acc : List (Int × Int)} (hg : good ys) (hz : z.bad = true) (h : RunE p s (ys ++ [z]) s') : follow p ((ys ++ [z]).map Ev.tI) i s acc = ⟨acc ++ (ys ++ [z]).map Ev.pr, 1, z.tI, z.k, s'⟩ := by
  rw [RunE.append] at h
  obtain ⟨s1, h1, h2, h3⟩ := h
  have hok := goes_ok h2
  obtain ⟨g1, g2, g3, g4⟩ := h2
  have e1 : z.tI.toNat = z.t := by simp [Ev.tI]
  rw [List.map_append, follow_of_good p ys _ i s s1 acc hg h1, List.map_cons, List.map_nil, follow_fail p _ _ _ s1 _ hok (by rw [e1, g4, hz]; rfl), e1, g3]
  cases h3
  simp [Ev.pr, Ev.tI]

/-- Pairs of a layer and a thread, put in order. -/
def insK (x : Nat × Nat) : List (Nat × Nat) → List (Nat × Nat)
  | [] => [x]
  | y :: r => if x.1 < y.1 ∨ (x.1 = y.1 ∧ x.2 ≤ y.2) then x :: y :: r else y :: insK x r
def sortK : List (Nat × Nat) → List (Nat × Nat)
  | [] => []
  | x :: r => insK x (sortK r)
def leP (x y : Nat × Nat) : Prop := x.1 < y.1 ∨ (x.1 = y.1 ∧ x.2 ≤ y.2)
theorem insK_perm (x : Nat × Nat) : ∀ l, (insK x l).Perm (x :: l)
  | [] => List.Perm.refl _
  | y :: r => by
    unfold insK
    split
    · exact List.Perm.refl _
    · exact ((insK_perm x r).cons y).trans (List.Perm.swap _ _ _)
theorem sortK_perm : ∀ l, (sortK l).Perm l
  | [] => List.Perm.refl _
  | x :: r => (insK_perm x (sortK r)).trans ((sortK_perm r).cons x)
theorem insK_sorted (x : Nat × Nat) : ∀ l, l.Pairwise leP → (insK x l).Pairwise leP
  | [], _ => by simp [insK]
  | y :: r, h => by
    have h0 := h
    rw [List.pairwise_cons] at h
    unfold insK
    split
    · rename_i hxy
      rw [List.pairwise_cons]
      refine ⟨fun z hz => ?_, h0⟩
      rcases List.mem_cons.1 hz with hz | hz
      · subst hz; exact hxy
      · have := h.1 z hz
        unfold leP at *; omega
    · rename_i hxy
      rw [List.pairwise_cons]
      refine ⟨fun z hz => ?_, insK_sorted x r h.2⟩
      have hz' := (insK_perm x r).mem_iff.1 hz
      rcases List.mem_cons.1 hz' with hz' | hz'
      · subst hz'; unfold leP; omega
      · exact h.1 z hz'
theorem sortK_sorted : ∀ l, (sortK l).Pairwise leP
  | [] => List.Pairwise.nil
  | x :: r => insK_sorted x _ (sortK_sorted r)
theorem sortK_one {a b : List (Nat × Nat)} (h : a.Perm b) (hb : b.Pairwise leP) : sortK a = b := sorted_one ((sortK_perm a).trans h) (sortK_sorted a) hb
theorem sortK_congr {a b : List (Nat × Nat)} (h : a.Perm b) : sortK a = sortK b := sortK_one (h.trans (sortK_perm b).symm) (sortK_sorted b)

def keyE (x : Ev × Nat) : Nat × Nat := (x.2, x.1.t)
def keysE (p : List (List Ins)) (xs : List Ev) : List (Nat × Nat) := (tl (depE p) [] xs).map keyE
def formE (p : List (List Ins)) (xs : List Ev) : List Int := (sortK (keysE p xs)).map fun x => (x.2 : Int)
/-- THE FORM of what a run did. -/
def formS (p : List (List Ins)) (o : Out) : List Int := formE p (evsOf o)

theorem formE_eqv {p : List (List Ins)} {xs ys : List Ev} (h : Eqv (depE p) xs ys) : formE p xs = formE p ys := by
  unfold formE keysE; rw [sortK_congr (h.labels.map keyE)]
theorem formE_sorted {p : List (List Ins)} {ys : List Ev} (h : (tl (depE p) [] ys).Pairwise (leK Ev.t)) : formE p ys = ys.map Ev.tI := by
  have hp : (keysE p ys).Pairwise leP := by
    unfold keysE
    rw [List.pairwise_map]
    exact h.imp (fun {a b} hab => hab)
  unfold formE
  rw [sortK_one (List.Perm.refl _) hp]
  unfold keysE
  rw [List.map_map]
  have := tl_fst (depE p) [] ys
  conv => rhs; rw [← this, List.map_map]
  rfl
theorem formE_length (p : List (List Ins)) (xs : List Ev) : (formE p xs).length = xs.length := by
  unfold formE keysE
  rw [List.length_map, (sortK_perm _).length_eq, List.length_map, tl_length]

theorem good_perm {xs ys : List Ev} (h : xs.Perm ys) (hg : good xs) : good ys := fun e he => hg e (h.mem_iff.2 he)
theorem Eqv.perm {α : Type} {d : α → α → Bool} {xs ys : List α} (h : Eqv d xs ys) : xs.Perm ys := by
  have := h.labels.map (·.1)
  rwa [tl_fst, tl_fst] at this

/-- The form of a run none of whose steps failed. -/
theorem form_good {p : List (List Ins)} {xs : List Ev} {s' : St} (hg : good xs) (h : RunE p St.zero xs s') : ∃ ys, good ys ∧ RunE p St.zero ys s' ∧ formE p xs = ys.map Ev.tI ∧ formE p ys = formE p xs ∧ ys.length = xs.length := by
  obtain ⟨ys, h1, h2⟩ := sorted_of (d := depE p) Ev.t (depE_symm p) xs
  exact ⟨ys, good_perm h1.perm hg, RunE.eqv h1 h, by rw [formE_eqv h1, formE_sorted h2], (formE_eqv h1).symm, h1.perm.length_eq.symm⟩

/-- .. and of one whose last one did. -/
theorem form_bad {p : List (List Ins)} {us : List Ev} {z : Ev} {s' : St} (hg : good us) (hz : z.bad = true) (h : RunE p St.zero (us ++ [z]) s') :
    ∃ vs, good vs ∧ RunE p St.zero (vs ++ [z]) s' ∧ formE p (us ++ [z]) = (vs ++ [z]).map Ev.tI ∧ formE p (vs ++ [z]) = formE p (us ++ [z]) ∧ vs.length = us.length := by
  obtain ⟨ys, h1, h2⟩ := sorted_of (d := depE p) Ev.t (depE_symm p) (us ++ [z])
  have hne : ys ≠ [] := by
    intro e; subst e
    have := h1.perm.length_eq
    simp at this
  obtain ⟨vs, z', rfl⟩ : ∃ vs z', ys = vs ++ [z'] := ⟨ys.dropLast, ys.getLast hne, (List.dropLast_concat_getLast _).symm⟩
  have hlab := h1.labels
  rw [tl_snoc, tl_snoc] at hlab
  rw [tl_snoc, List.pairwise_append] at h2
  have hgt : ∀ q ∈ tl (depE p) [] us, q.2 + 1 ≤ layIn (depE p) (tl (depE p) [] us) z := fun q hq => layIn_ge (depE p) hq (by simp [depE, hz])
  generalize layIn (depE p) (tl (depE p) [] us) z = L at *
  generalize hl' : layIn (depE p) (tl (depE p) [] vs) z' = L' at *
  have hzz : z' = z := by
    have hm : (z', L') ∈ tl (depE p) [] us ++ [(z, L)] := hlab.mem_iff.2 (by simp)
    rcases List.mem_append.1 hm with hm | hm
    · exfalso
      have k1 := hgt _ hm
      have hm2 : (z, L) ∈ tl (depE p) [] vs ++ [(z', L')] := hlab.mem_iff.1 (by simp)
      rcases List.mem_append.1 hm2 with hm2 | hm2
      · have := h2.2.2 _ hm2 _ (List.mem_singleton.2 rfl)
        unfold leK at this
        simp only at this k1
        omega
      · simp at hm2
        simp only at k1
        omega
    · simp at hm
      exact hm.1
  subst hzz
  have hp : us.Perm vs := by
    have := h1.perm
    rwa [List.perm_append_right_iff] at this
  have h2' : (tl (depE p) [] (vs ++ [z'])).Pairwise (leK Ev.t) := by
    rw [tl_snoc, List.pairwise_append, hl']; exact h2
  exact ⟨vs, good_perm hp hg, RunE.eqv h1 h, by rw [formE_eqv h1, formE_sorted h2'], (formE_eqv h1).symm, hp.length_eq.symm⟩

/-- P8: the form of a schedule that is not wrong runs to the same, and is its own. -/
theorem formed_run {p : List (List Ins)} {a : List Int} (h : Sched p a) :
    (runS p (formS p (runS p a))).kind = (runS p a).kind ∧ (runS p (formS p (runS p a))).thread = (runS p a).thread ∧ (runS p (formS p (runS p a))).at_ = (runS p a).at_ ∧ (runS p (formS p (runS p a))).st = (runS p a).st ∧
    (runS p (formS p (runS p a))).steps.length = (runS p a).steps.length ∧ formS p (runS p (formS p (runS p a))) = formS p (runS p a) ∧ (formS p (runS p a)).length = a.length := by
  obtain ⟨h2, hlen⟩ := h
  have hc := follow_cases p a 0 St.zero []
  change ∃ xs s', RunE p St.zero xs s' ∧ (runS p a).steps = [] ++ xs.map Ev.pr ∧ (runS p a).st = s' ∧ ((good xs ∧ xs.map Ev.tI = a ∧ (runS p a).kind = endingS p s' ∧ (runS p a).thread = 0 ∧ (runS p a).at_ = 0) ∨ (good xs ∧ (∃ u r, a = xs.map Ev.tI ++ u :: r ∧ okAt p s' u = false) ∧ (runS p a).kind = 2 ∧ (runS p a).thread = 0 ∧ (runS p a).at_ = 0 + xs.length) ∨ (∃ ys z r, xs = ys ++ [z] ∧ good ys ∧ z.bad = true ∧ a = xs.map Ev.tI ++ r ∧ (runS p a).kind = 1 ∧ (runS p a).thread = z.tI ∧ (runS p a).at_ = z.k)) at hc
  obtain ⟨xs, s', hr, hs, hst, hc⟩ := hc
  rw [List.nil_append] at hs
  generalize hO : runS p a = o at *
  rcases hc with ⟨g1, g2, g3, g4, g5⟩ | ⟨_, _, g3, _⟩ | ⟨us, z, r, g1, g2, g3, g4, g5, g6, g7⟩
  · have hk1 : o.kind ≠ 1 := by have := endingS_range p s'; omega
    have he := evsOf_good hk1 hs g1
    obtain ⟨ys, f1, f2, f3, f4, f5⟩ := form_good g1 hr
    unfold formS
    rw [he, f3]
    have hrun : runS p (ys.map Ev.tI) = ⟨ys.map Ev.pr, endingS p s', 0, 0, s'⟩ := by unfold runS; rw [follow_good f1 f2]; simp
    rw [hrun]
    refine ⟨g3.symm, g4.symm, g5.symm, hst.symm, by rw [hs]; simpa using f5, ?_, by rw [← g2]; simpa using f5⟩
    rw [evsOf_good (xs := ys) (by have := endingS_range p s'; simp only; omega) rfl f1, f4, f3]
  · exact absurd g3 h2
  · subst g1
    have he := evsOf_bad g5 hs g2 g3
    obtain ⟨vs, f1, f2, f3, f4, f5⟩ := form_bad g2 g3 hr
    unfold formS
    rw [he, f3]
    have hrun : runS p ((vs ++ [z]).map Ev.tI) = ⟨(vs ++ [z]).map Ev.pr, 1, z.tI, z.k, s'⟩ := by unfold runS; rw [follow_bad f1 g3 f2]; simp
    rw [hrun]
    refine ⟨g5.symm, g6.symm, g7.symm, hst.symm, by rw [hs]; simpa using f5, ?_, ?_⟩
    · rw [evsOf_bad (ys := vs) (z := z) rfl rfl f1 g3, f4, f3]
    · rw [← hlen, hs]; simpa using f5

end Go.Proofs.YtklenjmfalljgaaGreatDoor

/- Layers told by who used what, and by looking at each two steps; rows by layers told by going through all of them (no dump is named here). -/
namespace Go.Proofs.YtklenjmfalljgaaGreatDoor

/-- What a step uses: the kind (0 its thread, 1 a variable, 2 a lock), which, whether it writes it. -/
def usesI (t : Nat) (i : Ins) : List (Nat × Nat × Bool) := (0, t, true) :: (if i.op = 9 ∨ i.op = 10 then [(2, i.a.toNat, true)] else if i.op = 2 then [(1, i.b.toNat, false)] else if i.op = 3 then [(1, i.a.toNat, true)] else [])
def usesE (p : List (List Ins)) (e : Ev) : List (Nat × Nat × Bool) := usesI e.t (insAt p e.t e.k)

def histOf (p : List (List Ins)) : List (Ev × Nat) → Nat × Nat × Bool → Nat
  | [], _ => 0
  | q :: r, u => if u ∈ usesE p q.1 then max (q.2 + 1) (histOf p r u) else histOf p r u
def aheadS (H : Nat × Nat × Bool → Nat) : List (Nat × Nat × Bool) → Nat → Nat
  | [], n => n
  | u :: r, n => aheadS H r (if u.2.2 = true then max (max n (H (u.1, u.2.1, true))) (H (u.1, u.2.1, false)) else max n (H (u.1, u.2.1, true)))

theorem layIn_iff {α : Type} (d : α → α → Bool) (past : List (α × Nat)) (x : α) (n : Nat) : layIn d past x ≤ n ↔ ∀ q ∈ past, d q.1 x = true → q.2 + 1 ≤ n := by
  constructor
  · intro h q hq hd; exact Nat.le_trans (layIn_ge d hq hd) h
  · exact layIn_le d
theorem histOf_iff (p : List (List Ins)) (u : Nat × Nat × Bool) (n : Nat) : ∀ past, histOf p past u ≤ n ↔ ∀ q ∈ past, u ∈ usesE p q.1 → q.2 + 1 ≤ n
  | [] => by simp [histOf]
  | q :: r => by
    have ih := histOf_iff p u n r
    unfold histOf
    by_cases h : u ∈ usesE p q.1
    · rw [if_pos h, Nat.max_le, ih]; simp [h]
    · rw [if_neg h, ih]; simp [h]
theorem aheadS_iff (H : Nat × Nat × Bool → Nat) (n : Nat) : ∀ (us : List (Nat × Nat × Bool)) (m : Nat), aheadS H us m ≤ n ↔ m ≤ n ∧ ∀ u ∈ us, H (u.1, u.2.1, true) ≤ n ∧ (u.2.2 = true → H (u.1, u.2.1, false) ≤ n)
  | [], m => by simp [aheadS]
  | u :: r, m => by
    unfold aheadS
    rw [aheadS_iff H n r]
    by_cases h : u.2.2 = true
    · rw [if_pos h, Nat.max_le, Nat.max_le]; simp [h, and_assoc]
    · rw [if_neg h, Nat.max_le]; simp [h, and_assoc]

theorem dep_uses (p : List (List Ins)) {x y : Ev} (hx : x.bad = false) (hy : y.bad = false) : depE p y x = true ↔ ∃ u ∈ usesE p x, (u.1, u.2.1, true) ∈ usesE p y ∨ (u.2.2 = true ∧ (u.1, u.2.1, false) ∈ usesE p y) := by
  unfold depE usesE usesI
  generalize insAt p x.t x.k = i
  generalize insAt p y.t y.k = j
  by_cases i9 : i.op = 9 ∨ i.op = 10
  · by_cases j9 : j.op = 9 ∨ j.op = 10
    · simp [clash, tou, hx, hy, i9, j9]; omega
    · by_cases j2 : j.op = 2
      · have : ¬ (j.op = 9 ∨ j.op = 10) := by omega
        simp [clash, tou, hx, hy, i9, j2]; omega
      · by_cases j3 : j.op = 3
        · simp [clash, tou, hx, hy, i9, j3]; omega
        · simp [clash, tou, hx, hy, i9, j9, j2, j3]; omega
  · by_cases i2 : i.op = 2
    · by_cases j9 : j.op = 9 ∨ j.op = 10
      · simp [clash, tou, hx, hy, i2, j9]; omega
      · by_cases j2 : j.op = 2
        · simp [clash, tou, hx, hy, i2, j2]; omega
        · by_cases j3 : j.op = 3
          · simp [clash, tou, hx, hy, i2, j3]; omega
          · simp [clash, tou, hx, hy, i2, j9, j2, j3]; omega
    · by_cases i3 : i.op = 3
      · by_cases j9 : j.op = 9 ∨ j.op = 10
        · simp [clash, tou, hx, hy, i3, j9]; omega
        · by_cases j2 : j.op = 2
          · simp [clash, tou, hx, hy, i3, j2]; omega
          · by_cases j3 : j.op = 3
            · simp [clash, tou, hx, hy, i3, j3]; omega
            · simp [clash, tou, hx, hy, i3, j9, j2, j3]; omega
      · by_cases j9 : j.op = 9 ∨ j.op = 10
        · simp [clash, tou, hx, hy, i9, i2, i3, j9]; omega
        · by_cases j2 : j.op = 2
          · simp [clash, tou, hx, hy, i9, i2, i3, j2]; omega
          · by_cases j3 : j.op = 3
            · simp [clash, tou, hx, hy, i9, i2, i3, j3]; omega
            · simp [clash, tou, hx, hy, i9, i2, i3, j9, j2, j3]; omega

/-- Who used what last tells the layer. -/
theorem ahead_lay (p : List (List Ins)) {past : List (Ev × Nat)} {x : Ev} (hx : x.bad = false) (hp : ∀ q ∈ past, q.1.bad = false) : aheadS (histOf p past) (usesE p x) 0 = layIn (depE p) past x := by
  have key : ∀ n, aheadS (histOf p past) (usesE p x) 0 ≤ n ↔ layIn (depE p) past x ≤ n := by
    intro n
    rw [aheadS_iff, layIn_iff]
    constructor
    · rintro ⟨_, h⟩ q hq hd
      obtain ⟨u, hu, h1⟩ := (dep_uses p hx (hp q hq)).1 hd
      have h2 := h u hu
      rcases h1 with h1 | ⟨h1, h3⟩
      · exact (histOf_iff p _ n past).1 h2.1 q hq h1
      · exact (histOf_iff p _ n past).1 (h2.2 h1) q hq h3
    · intro h
      refine ⟨Nat.zero_le _, fun u hu => ⟨(histOf_iff p _ n past).2 fun q hq h1 => ?_, fun hw => (histOf_iff p _ n past).2 fun q hq h1 => ?_⟩⟩
      · exact h q hq ((dep_uses p hx (hp q hq)).2 ⟨u, hu, Or.inl h1⟩)
      · exact h q hq ((dep_uses p hx (hp q hq)).2 ⟨u, hu, Or.inr ⟨hw, h1⟩⟩)
  have h1 := (key (layIn (depE p) past x)).2 (Nat.le_refl _)
  have h2 := (key (aheadS (histOf p past) (usesE p x) 0)).1 (Nat.le_refl _)
  omega

/-- How high the layers are. -/
def highOf : List (Ev × Nat) → Nat
  | [] => 0
  | q :: r => max (q.2 + 1) (highOf r)
theorem high_bad (p : List (List Ins)) {past : List (Ev × Nat)} {x : Ev} (hx : x.bad = true) : layIn (depE p) past x = highOf past := by
  induction past with
  | nil => rfl
  | cons q r ih =>
    unfold layIn highOf
    rw [if_pos (by simp [depE, hx]), ih]

/-- A layer is no more than the place. -/
theorem lay_lt {α : Type} (d : α → α → Bool) : ∀ (xs : List α) (past : List (α × Nat)) (m : Nat), (∀ q ∈ past, q.2 < m) → ∀ k q, (tl d past xs)[k]? = some q → q.2 ≤ m + k
  | [], past, m, _, k, q, h => by simp [tl] at h
  | x :: r, past, m, hm, k, q, h => by
    have hx : layIn d past x ≤ m := layIn_le d (fun y hy _ => hm y hy)
    cases k with
    | zero => simp [tl] at h; subst h; exact hx
    | succ k =>
      simp only [tl, List.getElem?_cons_succ] at h
      have := lay_lt d r _ (m + 1) (fun y hy => by
        rcases List.mem_cons.1 hy with hy | hy
        · subst hy; simp only; omega
        · have := hm y hy; omega) k q h
      omega

/-- All pairs, layer by layer, thread by thread, place by place. -/
def goThrough (n : Nat) (ks : List (Nat × Nat)) : List (Nat × Nat) := (List.range n).flatMap fun l => (List.range 4).flatMap fun t => ks.filter fun k => k.1 == l && k.2 == t

theorem pairwise_flatMap {β : Type} {R : β → β → Prop} {f : Nat → List β} {n : Nat} (h1 : ∀ l, l < n → (f l).Pairwise R) (h2 : ∀ l l', l < l' → l' < n → ∀ x ∈ f l, ∀ y ∈ f l', R x y) : ((List.range n).flatMap f).Pairwise R := by
  induction n with
  | zero => simp
  | succ n ih =>
    rw [List.range_succ, List.flatMap_append, List.pairwise_append]
    refine ⟨ih (fun l h => h1 l (by omega)) (fun l l' h h' => h2 l l' h (by omega)), by simpa using h1 n (by omega), fun x hx y hy => ?_⟩
    obtain ⟨l, hl, hx⟩ := List.mem_flatMap.1 hx
    simp at hy hl
    exact h2 l n hl (by omega) x hx y hy
theorem count_flat {f : Nat → List (Nat × Nat)} (q : Nat × Nat) (c : Nat) : ∀ {n : Nat} (_ : ∀ l, l < n → (f l).count q = if l = c then (f c).count q else 0), ((List.range n).flatMap f).count q = if c < n then (f c).count q else 0
  | 0, _ => by simp
  | n + 1, h => by
    rw [List.range_succ, List.flatMap_append, List.count_append, count_flat q c (fun l hl => h l (by omega))]
    have := h n (by omega)
    simp only [List.flatMap_cons, List.flatMap_nil, List.append_nil, this]
    by_cases e : n = c
    · subst e; simp
    · rw [if_neg e]
      by_cases e2 : c < n
      · rw [if_pos e2, if_pos (by omega)]; rfl
      · rw [if_neg e2, if_neg (by omega)]

theorem goThrough_perm {n : Nat} {ks : List (Nat × Nat)} (h : ∀ k ∈ ks, k.1 < n ∧ k.2 < 4) : (goThrough n ks).Perm ks := by
  rw [List.perm_iff_count]
  intro q
  have hin : ∀ l t, (ks.filter fun k => k.1 == l && k.2 == t).count q = if l = q.1 ∧ t = q.2 then ks.count q else 0 := by
    intro l t
    by_cases e : l = q.1 ∧ t = q.2
    · rw [if_pos e, List.count_filter (by simp [e.1, e.2])]
    · rw [if_neg e, List.count_eq_zero]
      intro hm
      have := (List.mem_filter.1 hm).2
      simp at this
      exact e ⟨this.1.symm, this.2.symm⟩
  have h2 : ∀ l, ((List.range 4).flatMap fun t => ks.filter fun k => k.1 == l && k.2 == t).count q = if l = q.1 then (if q.2 < 4 then ks.count q else 0) else 0 := by
    intro l
    rw [count_flat q q.2 (fun t _ => by rw [hin, hin]; by_cases e1 : l = q.1 <;> by_cases e2 : t = q.2 <;> simp [e1, e2]), hin]
    by_cases e1 : l = q.1 <;> simp [e1]
  unfold goThrough
  rw [count_flat q q.1 (fun l _ => by rw [h2, h2]; by_cases e1 : l = q.1 <;> simp [e1]), h2]
  simp only [if_true]
  by_cases hm : q ∈ ks
  · have := h q hm
    rw [if_pos this.1, if_pos this.2]
  · have : ks.count q = 0 := List.count_eq_zero.2 hm
    rw [this]; simp
theorem goThrough_sorted (n : Nat) (ks : List (Nat × Nat)) : (goThrough n ks).Pairwise leP := by
  have hm : ∀ l t x, x ∈ (ks.filter fun k => k.1 == l && k.2 == t) → x.1 = l ∧ x.2 = t := fun l t x hx => by
    have := (List.mem_filter.1 hx).2
    simpa using this
  refine pairwise_flatMap (fun l _ => pairwise_flatMap (fun t _ => ?_) (fun t t' h _ x hx y hy => ?_)) (fun l l' h _ x hx y hy => ?_)
  · refine List.Pairwise.imp_of_mem (R := fun _ _ => True) (fun {x y} hx hy _ => ?_) (List.pairwise_of_forall (fun _ _ => trivial))
    have h1 := hm l t x hx
    have h2 := hm l t y hy
    unfold leP; omega
  · have h1 := hm l t x hx
    have h2 := hm l t' y hy
    unfold leP; omega
  · obtain ⟨t, _, hx⟩ := List.mem_flatMap.1 hx
    obtain ⟨t', _, hy⟩ := List.mem_flatMap.1 hy
    have h1 := hm l t x hx
    have h2 := hm l' t' y hy
    unfold leP; omega

/-- The form, as the document's answer tells it. -/
theorem form_through {p : List (List Ins)} {xs : List Ev} (ht : ∀ e ∈ xs, e.t < 4) : formE p xs = (goThrough xs.length (keysE p xs)).map fun x => (x.2 : Int) := by
  unfold formE
  rw [sortK_one (goThrough_perm ?_).symm (goThrough_sorted _ _)]
  intro k hk
  unfold keysE at hk
  obtain ⟨q, hq, rfl⟩ := List.mem_map.1 hk
  obtain ⟨j, hj, rfl⟩ := List.getElem_of_mem hq
  have hj' : j < xs.length := by rwa [tl_length] at hj
  have := lay_lt (depE p) xs [] 0 (by simp) j _ (List.getElem?_eq_getElem hj)
  refine ⟨by simp only [keyE]; omega, ?_⟩
  have hm : ((tl (depE p) [] xs)[j]).1 ∈ xs := by
    have h1 : ((tl (depE p) [] xs)[j]).1 ∈ (tl (depE p) [] xs).map (·.1) := List.mem_map.2 ⟨_, List.getElem_mem hj, rfl⟩
    rwa [tl_fst] at h1
  exact ht _ hm

end Go.Proofs.YtklenjmfalljgaaGreatDoor

/- A history of uses in memory: a map whose keys are structs. -/
namespace Go.Proofs.YtklenjmfalljgaaGreatDoor
open Go.RowKit Go.Maps

abbrev Use := Nat × Nat × Bool
def useV (u : Use) : Value := .agg #[.int .i64 u.1, .int .i64 u.2.1, .bool u.2.2]
def useL (u : Use) : Lit := .string (keyBytes [.int .i64 u.1, .int .i64 u.2.1, .bool u.2.2])
def smallU (u : Use) : Prop := u.1 ≤ 1000 ∧ u.2.1 ≤ 1000

theorem law_use : Keyed Tryz.prog 220 := Keyed.of_law (deep_law_laid (by kernel_rfl) (m := Tryz.prog.types.size + 1) (of_decide_eq_true (by kernel_rfl)) (of_decide_eq_true (by kernel_rfl)) (by kernel_rfl) (by kernel_rfl))
theorem zero_int (w : World) : (zeroValue 3).run Tryz.prog w = .ok (.int .i64 0) w := by kernel_rfl

theorem wf_small {n : Nat} (h : n ≤ 1000000) : (Lit.int .i64 (n : Int)).wf = true := WalkArith.wf_i64 (by omega)

set_option maxRecDepth 100000 in
theorem use_key {u : Use} (h : smallU u) : keyOf Tryz.prog 220 (useV u) = some (useL u) := by
  have k1 : Tryz.prog.keyType 220 = true := by kernel_rfl
  have hw1 := wf_small (n := u.1) (by have := h.1; omega)
  have hw2 := wf_small (n := u.2.1) (by have := h.2; omega)
  obtain ⟨m, hm⟩ : ∃ m, Tryz.prog.types.size + 1 = m + 2 := ⟨Tryz.prog.types.size - 1, by have : 2 ≤ Tryz.prog.types.size := of_decide_eq_true (by kernel_rfl); omega⟩
  have c1 : Tryz.prog.cellsOf 220 = 3 := by kernel_rfl
  have c2 : Tryz.prog.cellsOf 218 = 1 := by kernel_rfl
  have c3 : Tryz.prog.cellsOf 3 = 1 := by kernel_rfl
  have c4 : Tryz.prog.cellsOf 4 = 1 := by kernel_rfl
  have l1 : Tryz.prog.keyLits (m + 1) 218 [.int .i64 (u.1 : Int)] = some [.int .i64 (u.1 : Int)] := by
    unfold Program.keyLits; rw [Tryz.underlying218]; simp only [hw1, and_self, if_true]
  have l2 : Tryz.prog.keyLits (m + 1) 3 [.int .i64 (u.2.1 : Int)] = some [.int .i64 (u.2.1 : Int)] := by
    unfold Program.keyLits; rw [Tryz.underlying3]; simp only [hw2, and_self, if_true]
  have l3 : Tryz.prog.keyLits (m + 1) 4 [.bool u.2.2] = some [.bool u.2.2] := by
    unfold Program.keyLits; rw [Tryz.underlying4]
  have top : Tryz.prog.keyLits (m + 2) 220 [.int .i64 (u.1 : Int), .int .i64 (u.2.1 : Int), .bool u.2.2] = some [.int .i64 (u.1 : Int), .int .i64 (u.2.1 : Int), .bool u.2.2] := by
    unfold Program.keyLits; rw [Tryz.underlying220]
    simp only
    rw [if_pos ⟨by rw [c1]; rfl, by simp⟩]
    simp only [List.mapM_cons, List.mapM_nil, c2, c3, c4, List.drop_zero, List.drop_succ_cons, List.take_succ_cons, List.take_zero, l1, l2, l3]
    rfl
  have hf : (useV u).formed Tryz.prog 220 = true := by
    unfold Value.formed useV
    rw [Tryz.underlying220]
    simp only [c1]
    rfl
  unfold keyOf
  rw [Tryz.underlying220]
  simp only [k1, hf, Bool.and_self, if_true, hm]
  have hc : (useV u).cells.toList = [.int .i64 (u.1 : Int), .int .i64 (u.2.1 : Int), .bool u.2.2] := rfl
  rw [hc, top]
  rfl

theorem useL_inj {u v : Use} (hu : smallU u) (hv : smallU v) (h : useL u = useL v) : u = v := by
  have h1 := use_key hu
  have h2 := use_key hv
  rw [← h] at h2
  have := law_use.inj h1 h2
  unfold useV at this
  simp at this
  obtain ⟨u1, u2, u3⟩ := u
  obtain ⟨v1, v2, v3⟩ := v
  simp at this ⊢
  exact ⟨by omega, by omega, this.2.2⟩

/-- The block b is a map that tells F. -/
def HistAt (w : World) (b n : Nat) (F : Use → Nat) : Prop :=
  ∃ D : DataW Unit, w.ownsMap Tryz.prog 220 (plainElem Tryz.prog 3) b n D ∧ ∀ u, smallU u → D.atKey (useL u) (.lit (.int .i64 0)) = .lit (.int .i64 (F u))

theorem HistAt.made (w : World) : HistAt (w.alloc (.map #[] 0)) w.heap.size 0 (fun _ => 0) := ⟨.map [], World.ownsMap_made _ _ _ _, fun _ _ => rfl⟩
theorem HistAt.kept {w w' : World} {b n : Nat} {F : Use → Nat} (h : HistAt w b n F) (hg : w.grownBy w' none) : HistAt w' b n F := by
  obtain ⟨D, h1, h2⟩ := h
  exact ⟨D, h1.kept hg (by simp), h2⟩
theorem HistAt.lt {w : World} {b n : Nat} {F : Use → Nat} (h : HistAt w b n F) : b < w.heap.size := by
  obtain ⟨D, h1, h2⟩ := h
  exact h1.lt
theorem HistAt.look {w : World} {b n : Nat} {F : Use → Nat} (h : HistAt w b n F) {u : Use} (hu : smallU u) :
    (Instr.lookup 193 (.map (some b)) (useV u) false).run Tryz.prog w = .ok (.int .i64 (F u)) w := by
  obtain ⟨D, h1, h2⟩ := h
  obtain ⟨c, hr, hat, _⟩ := h1.lookup_int law_use Tryz.underlying193 Tryz.underlying3 (zero_int w) (use_key hu)
  rw [h2 u hu] at hat
  simp at hat
  rw [hr, ← hat]
def putF (F : Use → Nat) (u : Use) (x : Nat) : Use → Nat := fun v => if v = u then x else F v
theorem HistAt.put {w : World} {b n : Nat} {F : Use → Nat} (h : HistAt w b n F) {u : Use} (hu : smallU u) {x : Nat} (hx : x ≤ 1000000) (hn : n ≤ 1000000) :
    ∃ w', (Instr.mapUpdate 193 (.map (some b)) (useV u) (.int .i64 (x : Int))).run Tryz.prog w = .ok () w' ∧ HistAt w' b (n + 1) (putF F u x) ∧ w.grownBy w' (some b) := by
  obtain ⟨D, h1, h2⟩ := h
  obtain ⟨w', hr, ho, hg⟩ := h1.update law_use Tryz.underlying193 (by unfold maxLen; omega) (use_key hu) (plainElem_int Tryz.underlying3 (wf_small hx))
  refine ⟨w', hr, ⟨_, ho, fun v hv => ?_⟩, hg⟩
  unfold putF
  by_cases e : v = u
  · subst e
    rw [if_pos rfl]
    refine atKey_put_same ?_ ?_ _ _
    · obtain ⟨es, _, _, _, _, rfl⟩ := h1; exact ⟨_, rfl⟩
    · exact trivial
  · rw [if_neg e, atKey_put_other (fun e2 => e (useL_inj hv hu e2))]
    exact h2 v hv

end Go.Proofs.YtklenjmfalljgaaGreatDoor

/- The walks of usesOf, ahead and enter. -/
namespace Go.Proofs.YtklenjmfalljgaaGreatDoor
open Go.RowKit Go.Maps
attribute [local go_sem] Go.World.cell?_alloc_some

/-- Uses in a row. -/
def UsesAt (w : World) (v : Value) (us : List Use) : Prop :=
  ∃ g cap, v = .slice (some ⟨g, 0, none⟩) us.length cap ∧ g < w.heap.size ∧ ∀ k (hk : k < us.length), w.cell? ⟨g, k * 3, none⟩ = some (.int .i64 (us[k].1 : Int)) ∧ w.cell? ⟨g, k * 3 + 1, none⟩ = some (.int .i64 (us[k].2.1 : Int)) ∧ w.cell? ⟨g, k * 3 + 2, none⟩ = some (.bool us[k].2.2)
theorem UsesAt.grown {w w' : World} {v : Value} {us : List Use} (h : UsesAt w v us) (hg : w.grownBy w' none) : UsesAt w' v us := by
  obtain ⟨g, cap, e, hl, h2⟩ := h
  refine ⟨g, cap, e, Nat.lt_of_lt_of_le hl hg.size, fun k hk => ?_⟩
  obtain ⟨a, b, c⟩ := h2 k hk
  exact ⟨pres_grown hg _ _ a, pres_grown hg _ _ b, pres_grown hg _ _ c⟩
theorem uses_one {W : World} {t : TypeId} {g : Nat} {u : Use} (hg : W.heap.size = g) : UsesAt (W.alloc (.cells #[.int .i64 (u.1 : Int), .int .i64 (u.2.1 : Int), .bool u.2.2] t)) (.slice (some ⟨g, 0, none⟩) 1 1) [u] := by
  subst hg
  have h := heap_alloc_new W (.cells #[.int .i64 (u.1 : Int), .int .i64 (u.2.1 : Int), .bool u.2.2] t)
  refine ⟨W.heap.size, 1, rfl, by simp, fun k hk => ?_⟩
  have hk0 : k = 0 := by simp at hk; omega
  subst hk0
  simp only [World.cell?, h]
  exact ⟨rfl, rfl, rfl⟩
theorem uses_two {W : World} {t : TypeId} {g : Nat} {u v : Use} (hg : W.heap.size = g) : UsesAt (W.alloc (.cells #[.int .i64 (u.1 : Int), .int .i64 (u.2.1 : Int), .bool u.2.2, .int .i64 (v.1 : Int), .int .i64 (v.2.1 : Int), .bool v.2.2] t)) (.slice (some ⟨g, 0, none⟩) 2 2) [u, v] := by
  subst hg
  have h := heap_alloc_new W (.cells #[.int .i64 (u.1 : Int), .int .i64 (u.2.1 : Int), .bool u.2.2, .int .i64 (v.1 : Int), .int .i64 (v.2.1 : Int), .bool v.2.2] t)
  refine ⟨W.heap.size, 2, rfl, by simp, fun k hk => ?_⟩
  have hk0 : k = 0 ∨ k = 1 := by simp at hk; omega
  rcases hk0 with rfl | rfl
  · simp only [World.cell?, h]
    exact ⟨rfl, rfl, rfl⟩
  · simp only [World.cell?, h]
    exact ⟨rfl, rfl, rfl⟩

set_option maxHeartbeats 1000000 in
set_option maxRecDepth 100000 in
theorem usesOf_m (t : Nat) (i : Ins) (w : World) (ha : 0 ≤ i.a) (hb : 0 ≤ i.b) :
    Calls Tryz.prog 107 #[.int .i64 (t : Int), .agg #[.int .i64 i.op, .int .i64 i.a, .int .i64 i.b, .int .i64 i.n]] w fun e w' => ∃ v, e = .returned v ∧ UsesAt w' v (usesI t i) ∧ w.grownBy w' none := by
  obtain ⟨op, a, b, n⟩ := i
  obtain ⟨a, rfl⟩ := Int.eq_ofNat_of_zero_le ha
  obtain ⟨b, rfl⟩ := Int.eq_ofNat_of_zero_le hb
  simp only
  have HG : Hid (∀ x y z, w.grownBy (((w.alloc x).alloc y).alloc z) none) := fun x y z => grown_alloc (grown_alloc (grown_alloc (grown_refl _ _)))
  by_cases h9 : op = 9 ∨ op = 10
  · have HU : Hid (usesI t ⟨op, a, b, n⟩ = [(0, t, true), (2, a, true)]) := by unfold Hid usesI; simp [h9]
    rcases h9 with rfl | rfl
    · go_enter Tryz.func107, Tryz.ntmps107
      go_wp2_with fail
      go_ret
      exact ⟨_, rfl, by rw [HU.out]; exact uses_two (u := (0, t, true)) (v := (2, a, true)) (by simp), HG.out _ _ _⟩
    · go_enter Tryz.func107, Tryz.ntmps107
      go_wp2_with fail
      go_ret
      exact ⟨_, rfl, by rw [HU.out]; exact uses_two (u := (0, t, true)) (v := (2, a, true)) (by simp), HG.out _ _ _⟩
  · by_cases h2 : op = 2
    · have HU : Hid (usesI t ⟨op, a, b, n⟩ = [(0, t, true), (1, b, false)]) := by unfold Hid usesI; simp [h2]
      subst h2
      go_enter Tryz.func107, Tryz.ntmps107
      go_wp2_with fail
      go_ret
      exact ⟨_, rfl, by rw [HU.out]; exact uses_two (u := (0, t, true)) (v := (1, b, false)) (by simp), HG.out _ _ _⟩
    · by_cases h3 : op = 3
      · have HU : Hid (usesI t ⟨op, a, b, n⟩ = [(0, t, true), (1, a, true)]) := by unfold Hid usesI; simp [h3]
        subst h3
        go_enter Tryz.func107, Tryz.ntmps107
        go_wp2_with fail
        go_ret
        exact ⟨_, rfl, by rw [HU.out]; exact uses_two (u := (0, t, true)) (v := (1, a, true)) (by simp), HG.out _ _ _⟩
      · have HU : Hid (usesI t ⟨op, a, b, n⟩ = [(0, t, true)]) := by unfold Hid usesI; simp [h9, h2, h3]
        have e2 : (op == 2) = false := by simpa using h2
        have e3 : (op == 3) = false := by simpa using h3
        have e9 : (op == 9) = false := by simp; omega
        have e10 : (op == 10) = false := by simp; omega
        clear h9 h2 h3
        go_enter Tryz.func107, Tryz.ntmps107
        go_wp2_with fail
        go_ret
        exact ⟨_, rfl, by rw [HU.out]; exact uses_one (u := (0, t, true)) (by simp), HG.out _ _ _⟩

theorem aheadS_small (F : Use → Nat) (hF : ∀ u, F u ≤ 1000) : ∀ (us : List Use) (n : Nat), n ≤ 1000 → aheadS F us n ≤ 1000
  | [], n, h => h
  | u :: r, n, h => by
    unfold aheadS
    have h1 := hF (u.1, u.2.1, true)
    have h2 := hF (u.1, u.2.1, false)
    exact aheadS_small F hF r _ (by split <;> omega)

set_option maxHeartbeats 2000000 in
set_option maxRecDepth 100000 in
theorem ahead_m {w : World} {b n : Nat} {F : Use → Nat} (hH : HistAt w b n F) (hF : ∀ u, F u ≤ 1000) (us : List Use) (hus : ∀ u ∈ us, smallU u) (v : Value) (hU : UsesAt w v us) (hl : us.length ≤ 10) :
    Calls Tryz.prog 108 #[.map (some b), v] w fun e w' => e = .returned (.int .i64 (aheadS F us 0 : Nat)) ∧ w.grownBy w' none := by
  obtain ⟨g, cap, rfl, hg, hc⟩ := hU
  have HH := hide hH
  have HF := hide hF
  have HS := hide hus
  have HC := hide hc
  have hl' : (us.length : Int) ≤ 10 := by omega
  clear hH hF hus hc
  go_enter Tryz.func108, Tryz.ntmps108
  go_wp2_with fail
  go_loopw [5, 10] (fun x i w' => ∃ k m : Nat, k ≤ us.length ∧ i = .int .i64 k ∧ x = .int .i64 m ∧ m ≤ 1000 ∧ Hid (w.grownBy w' none) ∧ Hid (aheadS F us 0 = aheadS F (us.drop k) m)) (fun _ i _ => us.length - (intOf i).toNat)
  case atStart => exact ⟨0, 0, Nat.zero_le _, rfl, rfl, by omega, grown_refl _ _, rfl⟩
  case round =>
    obtain ⟨k, m, hk, rfl, rfl, hm, HG, HA⟩ := hrel
    obtain ⟨w5, hw5⟩ : ∃ w5, w5 = wr := ⟨_, rfl⟩
    rw [← hw5] at HG ⊢
    clear hw5
    by_cases hlt : k < us.length
    · obtain ⟨c0, c1, c2⟩ := HC.out k hlt
      have d0 := pres_grown HG.out _ _ c0
      have d1 := pres_grown HG.out _ _ c1
      have d2 := pres_grown HG.out _ _ c2
      have HST : Hid (aheadS F us 0 = aheadS F (us.drop (k + 1)) (if us[k].2.2 = true then max (max m (F (us[k].1, us[k].2.1, true))) (F (us[k].1, us[k].2.1, false)) else max m (F (us[k].1, us[k].2.1, true)))) := by
        unfold Hid
        rw [HA.out, List.drop_eq_getElem_cons hlt, aheadS]
      have hsm := HS.out _ (List.getElem_mem hlt)
      have HLT : Hid (∀ u, w5.grownBy u none → (Instr.lookup 193 (.map (some b)) (.agg #[.int .i64 (us[k].1 : Int), .int .i64 (us[k].2.1 : Int), .bool true]) false).run Tryz.prog u = .ok (.int .i64 (F (us[k].1, us[k].2.1, true))) u) := fun u hu => ((HH.out.kept HG.out).kept hu).look (u := (us[k].1, us[k].2.1, true)) hsm
      have HLF : Hid (∀ u, w5.grownBy u none → (Instr.lookup 193 (.map (some b)) (.agg #[.int .i64 (us[k].1 : Int), .int .i64 (us[k].2.1 : Int), .bool false]) false).run Tryz.prog u = .ok (.int .i64 (F (us[k].1, us[k].2.1, false))) u) := fun u hu => ((HH.out.kept HG.out).kept hu).look (u := (us[k].1, us[k].2.1, false)) hsm
      have hft := HF.out (us[k].1, us[k].2.1, true)
      have hff := HF.out (us[k].1, us[k].2.1, false)
      clear c0 c1 c2 hsm HA
      generalize us[k] = u at *
      obtain ⟨u1, u2, u3⟩ := u
      simp only at *
      generalize F (u1, u2, true) = ft at *
      generalize F (u1, u2, false) = ff at *
      have k0 : (0 : Int) ≤ (k : Int) := by omega
      have k1 : (k : Int) < us.length := by omega
      have rt := HLT.out (w5.alloc (.cells #[.int .i64 (u1 : Int), .int .i64 (u2 : Int), .bool u3] 220)) (grown_alloc (grown_refl _ _))
      have rf := HLF.out (w5.alloc (.cells #[.int .i64 (u1 : Int), .int .i64 (u2 : Int), .bool u3] 220)) (grown_alloc (grown_refl _ _))
      clear HLT HLF
      cases u3
      · simp only [Bool.false_eq_true, if_false] at HST
        go_wp2_with fail
        go_roundw
        case rel => exact ⟨k + 1, max m ft, by omega, by go_num, by congr 1; (repeat' split) <;> omega, by omega, grown_alloc HG.out, HST⟩
        case measure => simp [intOf]; omega
      · simp only [if_true] at HST
        go_wp2_with fail
        go_roundw
        case rel => exact ⟨k + 1, max (max m ft) ff, by omega, by go_num, by congr 1; (repeat' split) <;> omega, by omega, grown_alloc HG.out, HST⟩
        case measure => simp [intOf]; omega
    · have k1 : (us.length : Int) ≤ (k : Int) := by omega
      have HE : Hid (aheadS F us 0 = m) := by
        unfold Hid; rw [HA.out, List.drop_of_length_le (by omega)]; rfl
      go_wp2_with fail
      go_ret
      exact ⟨by rw [HE.out]; rfl, HG.out⟩

end Go.Proofs.YtklenjmfalljgaaGreatDoor

/- The walk of enter. -/
namespace Go.Proofs.YtklenjmfalljgaaGreatDoor
open Go.RowKit Go.Maps
attribute [local go_sem] Go.World.cell?_alloc_some

theorem HistAt.nocell {w : World} {b n : Nat} {F : Use → Nat} (h : HistAt w b n F) (o : Nat) : w.cell? ⟨b, o, none⟩ = none := by
  obtain ⟨D, ⟨es, cl, hb, _⟩, _⟩ := h
  simp [World.cell?, hb]

def enterF (x : Nat) : List Use → (Use → Nat) → Use → Nat
  | [], F => F
  | u :: r, F => enterF x r (putF F u (max (F u) x))
theorem enterF_eq (x : Nat) : ∀ (us : List Use) (F : Use → Nat) (v : Use), enterF x us F v = if v ∈ us then max (F v) x else F v
  | [], F, v => by simp [enterF]
  | u :: r, F, v => by
    unfold enterF
    rw [enterF_eq x r]
    unfold putF
    by_cases e : v = u
    · subst e
      simp
    · simp [e]
theorem enterF_snoc (x : Nat) (us : List Use) (u : Use) (F : Use → Nat) : enterF x (us ++ [u]) F = putF (enterF x us F) u (max (enterF x us F u) x) := by
  induction us generalizing F with
  | nil => rfl
  | cons a r ih => simp only [List.cons_append, enterF]; exact ih _

theorem grown_somes {w w' w'' : World} {b : Nat} (h : w.grownBy w' (some b)) (h' : w'.grownBy w'' (some b)) : w.grownBy w'' (some b) := grown_trans h h'

set_option maxHeartbeats 2000000 in
set_option maxRecDepth 100000 in
theorem enter_m {w : World} {b n : Nat} {F : Use → Nat} (hH : HistAt w b n F) (hF : ∀ u, F u ≤ 1000) (hn : n ≤ 100000) (us : List Use) (hus : ∀ u ∈ us, smallU u) (v : Value) (hU : UsesAt w v us) (hl : us.length ≤ 10) (layer : Nat) (hla : layer ≤ 900) :
    Calls Tryz.prog 109 #[.map (some b), v, .int .i64 (layer : Int)] w fun e w' => (∃ v, e = .returned v) ∧ HistAt w' b (n + us.length) (enterF (layer + 1) us F) ∧ w.grownBy w' (some b) := by
  obtain ⟨g, cap, rfl, hg, hc⟩ := hU
  have HH := hide hH
  have HF := hide hF
  have HS := hide hus
  have HC := hide hc
  have hl' : (us.length : Int) ≤ 10 := by omega
  have hla' : (layer : Int) ≤ 900 := by omega
  have hla0 : (0 : Int) ≤ (layer : Int) := by omega
  have hbw := hH.lt
  clear hH hF hus hc
  go_enter Tryz.func109, Tryz.ntmps109
  go_wp2_with fail
  go_loopw [10] (fun i w' => ∃ k : Nat, k ≤ us.length ∧ i = .int .i64 k ∧ Hid (HistAt w' b (n + k) (enterF (layer + 1) (us.take k) F)) ∧ Hid (w.grownBy w' (some b))) (fun i _ => us.length - (intOf i).toNat)
  case atStart => exact ⟨0, Nat.zero_le _, rfl, HH, grown_refl _ _⟩
  case round =>
    obtain ⟨k, hk, rfl, HI, HG⟩ := hrel
    obtain ⟨w5, hw5⟩ : ∃ w5, w5 = wr := ⟨_, rfl⟩
    rw [← hw5] at HI HG ⊢
    clear hw5
    by_cases hlt : k < us.length
    · obtain ⟨c0, c1, c2⟩ := HC.out k hlt
      have hgb : g ≠ b := fun e => by
        have := HH.out.nocell (k * 3)
        rw [← e, c0] at this; cases this
      have hblk := HG.out.block g hg (by simpa using hgb)
      have d0 : w5.cell? ⟨g, k * 3, none⟩ = some (.int .i64 (us[k].1 : Int)) := by rw [World.cell?_of_block hblk]; exact c0
      have d1 : w5.cell? ⟨g, k * 3 + 1, none⟩ = some (.int .i64 (us[k].2.1 : Int)) := by rw [World.cell?_of_block hblk]; exact c1
      have d2 : w5.cell? ⟨g, k * 3 + 2, none⟩ = some (.bool us[k].2.2) := by rw [World.cell?_of_block hblk]; exact c2
      have hsm := HS.out _ (List.getElem_mem hlt)
      have HNX : Hid (enterF (layer + 1) (us.take (k + 1)) F = putF (enterF (layer + 1) (us.take k) F) us[k] (max (enterF (layer + 1) (us.take k) F us[k]) (layer + 1))) := by
        unfold Hid; rw [List.take_succ_eq_append_getElem hlt, enterF_snoc]
      have hfx : enterF (layer + 1) (us.take k) F us[k] ≤ 1000 := by
        rw [enterF_eq]
        have := HF.out us[k]
        split <;> omega
      have hbw5 := HI.out.lt
      clear c0 c1 c2 hblk
      generalize us[k] = u at *
      obtain ⟨u1, u2, u3⟩ := u
      simp only at d0 d1 d2
      generalize enterF (layer + 1) (us.take k) F = G at *
      generalize hfv : G (u1, u2, u3) = fv at *
      have HFV := hide hfv
      clear hfv
      have k0 : (0 : Int) ≤ (k : Int) := by omega
      have k1 : (k : Int) < us.length := by omega
      have HI6 : Hid (HistAt (w5.alloc (.cells #[.int .i64 (u1 : Int), .int .i64 (u2 : Int), .bool u3] 220)).drew b (n + k) G) := HI.out.kept (grown_drew (grown_alloc (grown_refl _ _)))
      obtain ⟨w7, hup, hH7, hg7⟩ := HI6.out.put (u := (u1, u2, u3)) hsm (x := max fv (layer + 1)) (by omega) (by omega)
      have HH7 : Hid (HistAt w7 b (n + (k + 1)) (enterF (layer + 1) (us.take (k + 1)) F)) := by
        unfold Hid; rw [HNX.out]; exact hH7
      have HG7 : Hid (w.grownBy w7 (some b)) := grown_trans HG.out (grown_trans (grown_drew (grown_alloc (grown_refl _ _))) hg7)
      have hmx : (if (fv : Int) < (layer : Int) + 1 then ((layer : Int) + 1) else (fv : Int)) = ((max fv (layer + 1) : Nat) : Int) := by split <;> omega
      clear hH7 hg7 HNX
      have hX : (w5.alloc (.cells #[.int .i64 (u1 : Int), .int .i64 (u2 : Int), .bool u3] 220)).drew.heap[w5.heap.size]? = some (.cells #[.int .i64 (u1 : Int), .int .i64 (u2 : Int), .bool u3] 220) := heap_alloc_new w5 _
      go_upto_region 3 with fail
      refine wp_region_head (fun u => (u.cell? ⟨w5.heap.size, 0, none⟩ = some (.int .i64 (u1 : Int)) ∧ u.cell? ⟨w5.heap.size, 1, none⟩ = some (.int .i64 (u2 : Int)) ∧ u.cell? ⟨w5.heap.size, 2, none⟩ = some (.bool u3)) ∧ HistAt u b (n + k) G) 8 (by kernel_rfl) (by kernel_rfl) ⟨⟨by simp only [World.cell?, hX]; rfl, by simp only [World.cell?, hX]; rfl, by simp only [World.cell?, hX]; rfl⟩, HI6.out⟩ ?_
      intro hHeld
      have hwr : IntKind.i64.wrap ((layer : Int) + 1) = (layer : Int) + 1 := by rw [IntKind.wrap_i64]; omega
      refine wpHead_take (i := 0) (v := ?vva0) rfl (by kernel_rfl) (fun _ _ _ h => h) (Or.inl ⟨by rfl, ?hya0⟩) hHeld ?resta0
      case hya0 => (rintro u ⟨⟨hu0, hu1, hu2⟩, hu3⟩; go_simp; try with_reducible rfl)
      simp only [Act.put, List.setIfInBounds_toArray]
      refine wpHead_take (i := 1) (v := ?vva1) rfl (by kernel_rfl) (fun _ _ _ h => h) (Or.inl ⟨by rfl, ?hya1⟩) hHeld ?resta1
      case hya1 => (rintro u ⟨⟨hu0, hu1, hu2⟩, hu3⟩; go_simp; try with_reducible rfl)
      simp only [Act.put]
      refine wpHead_take (i := 2) (v := ?vva2) rfl (by kernel_rfl) (fun _ _ _ h => h) (Or.inl ⟨by rfl, ?hya2⟩) hHeld ?resta2
      case hya2 => (rintro u ⟨⟨hu0, hu1, hu2⟩, hu3⟩; go_simp; try with_reducible rfl)
      simp only [Act.put]
      refine wpHead_take (i := 3) (v := ?vva3) rfl (by kernel_rfl) (fun _ _ _ h => h) (Or.inl ⟨by rfl, ?hya3⟩) hHeld ?resta3
      case hya3 => (rintro u ⟨⟨hu0, hu1, hu2⟩, hu3⟩; go_simp; try with_reducible rfl)
      simp only [Act.put]
      refine wpHead_take (i := 4) (v := .int .i64 (fv : Int)) rfl (by kernel_rfl) (fun _ _ _ h => h) (Or.inl ⟨by rfl, ?hya4⟩) hHeld ?resta4
      case hya4 => (rintro u ⟨⟨hu0, hu1, hu2⟩, hu3⟩; have hr := hu3.look (u := (u1, u2, u3)) hsm; rw [HFV.out] at hr; unfold useV at hr; clear hu3; go_simp)
      simp only [Act.put]
      refine wpHead_take (i := 5) (v := ?vva5) rfl (by kernel_rfl) (fun _ _ _ h => h) (Or.inl ⟨by rfl, ?hya5⟩) hHeld ?resta5
      case hya5 => (rintro u ⟨⟨hu0, hu1, hu2⟩, hu3⟩; go_simp; try with_reducible rfl)
      simp only [Act.put]
      refine wpHead_take (i := 6) (v := .int .i64 ((layer : Int) + 1)) rfl (by kernel_rfl) (fun _ _ _ h => h) (Or.inl ⟨by rfl, ?hya6⟩) hHeld ?resta6
      case hya6 => (rintro u ⟨⟨hu0, hu1, hu2⟩, hu3⟩; go_simp; try rw [hwr])
      simp only [Act.put]
      refine wpHead_take (i := 7) (v := .int .i64 ((max fv (layer + 1) : Nat) : Int)) rfl (by kernel_rfl) (fun _ _ _ h => h) (Or.inl ⟨by rfl, ?hya7⟩) hHeld ?resta7
      case hya7 => (rintro u ⟨⟨hu0, hu1, hu2⟩, hu3⟩; clear hu3; go_simp; try rw [hmx])
      simp only [Act.put]
      refine wpHead_last rfl (by kernel_rfl) (by kernel_rfl) (by rfl) ?_
      unfold useV at hup
      go_simp
      clear hHeld hup HI6 hwr hmx hX
      go_wp2_with fail
      go_roundw
      case rel => exact ⟨k + 1, by omega, by go_num, HH7, HG7⟩
      case measure => simp [intOf]; omega
    · have k1 : (us.length : Int) ≤ (k : Int) := by omega
      have ek : k = us.length := by omega
      have HE : Hid (HistAt w5 b (n + us.length) (enterF (layer + 1) us F)) := by
        have := HI.out
        rwa [List.take_of_length_le (by omega), ek] at this
      go_wp2_with fail
      go_end0
      exact ⟨⟨_, rfl⟩, HE.out, HG.out⟩

end Go.Proofs.YtklenjmfalljgaaGreatDoor

/- Layers, step by step; the steps of a run are steps of the program (no dump is named here). -/
namespace Go.Proofs.YtklenjmfalljgaaGreatDoor

theorem histOf_snoc (p : List (List Ins)) (q : Ev × Nat) (u : Nat × Nat × Bool) : ∀ L, histOf p (L ++ [q]) u = if u ∈ usesE p q.1 then max (histOf p L u) (q.2 + 1) else histOf p L u
  | [] => by simp [histOf]
  | y :: r => by
    simp only [List.cons_append, histOf, histOf_snoc p q u r]
    split <;> split <;> omega
theorem highOf_snoc (q : Ev × Nat) : ∀ L, highOf (L ++ [q]) = max (highOf L) (q.2 + 1)
  | [] => by simp [highOf]
  | y :: r => by
    simp only [List.cons_append, highOf, highOf_snoc q r]
    omega
theorem histOf_le (p : List (List Ins)) (xs : List Ev) (u : Nat × Nat × Bool) : histOf p (tl (depE p) [] xs) u ≤ xs.length := by
  rw [histOf_iff]
  intro q hq _
  obtain ⟨j, hj, rfl⟩ := List.getElem_of_mem hq
  have := lay_lt (depE p) xs [] 0 (by simp) j _ (List.getElem?_eq_getElem hj)
  rw [tl_length] at hj
  omega
theorem highOf_le (p : List (List Ins)) (xs : List Ev) : highOf (tl (depE p) [] xs) ≤ xs.length := by
  have key : ∀ (L : List (Ev × Nat)) (n : Nat), (∀ q ∈ L, q.2 + 1 ≤ n) → highOf L ≤ n := by
    intro L n
    induction L with
    | nil => simp [highOf]
    | cons y r ih =>
      intro h
      unfold highOf
      have h1 := h y (List.mem_cons_self ..)
      have h2 := ih (fun q hq => h q (List.mem_cons_of_mem _ hq))
      omega
  apply key
  intro q hq
  obtain ⟨j, hj, rfl⟩ := List.getElem_of_mem hq
  have := lay_lt (depE p) xs [] 0 (by simp) j _ (List.getElem?_eq_getElem hj)
  rw [tl_length] at hj
  omega
theorem lay_le (p : List (List Ins)) (xs : List Ev) (x : Ev) : layIn (depE p) (tl (depE p) [] xs) x ≤ xs.length := by
  apply layIn_le
  intro q hq _
  obtain ⟨j, hj, rfl⟩ := List.getElem_of_mem hq
  have := lay_lt (depE p) xs [] 0 (by simp) j _ (List.getElem?_eq_getElem hj)
  rw [tl_length] at hj
  omega

/-- The steps of a run, with what can be said of each. -/
structure Stood (p : List (List Ins)) (o : Out) (xs : List Ev) : Prop where
  ev : evsOf o = xs
  st : o.steps = xs.map Ev.pr
  th : ∀ e ∈ xs, e.t < p.length ∧ 0 ≤ e.k ∧ e.k < (codeOf p e.t).length
  gd : ∀ i (hi : i < xs.length), xs[i].bad = (decide (o.kind = 1) && decide (i + 1 = xs.length))

theorem run_places {p : List (List Ins)} (hp : vProg p = true) : ∀ (xs : List Ev) (s s' : St), Inv p s → RunE p s xs s' → ∀ e ∈ xs, e.t < p.length ∧ 0 ≤ e.k ∧ e.k < (codeOf p e.t).length
  | [], _, _, _, _, e, he => by cases he
  | x :: r, s, s', hI, ⟨hx, hr⟩, e, he => by
    obtain ⟨h1, h2, h3, h4⟩ := hx
    have hd : doneB p s x.t = false := by
      cases hd : doneB p s x.t with
      | false => rfl
      | true => simp [readyB, hd] at h2
    rcases List.mem_cons.1 he with he | he
    · subst he
      have hn := hI e.t h1
      have hne : s.next e.t ≠ ((codeOf p e.t).length : Int) := by simpa [doneB] using hd
      rw [h3] at hn hne
      exact ⟨h1, hn.1, by omega⟩
    · exact run_places hp r _ s' (Inv.step hp hI h1 hd) hr e he

theorem stood_of {p : List (List Ins)} (hp : vProg p = true) (s : List Int) : ∃ xs, Stood p (runS p s) xs := by
  have hc := follow_cases p s 0 St.zero []
  change ∃ xs s', RunE p St.zero xs s' ∧ (runS p s).steps = [] ++ xs.map Ev.pr ∧ (runS p s).st = s' ∧ ((good xs ∧ xs.map Ev.tI = s ∧ (runS p s).kind = endingS p s' ∧ (runS p s).thread = 0 ∧ (runS p s).at_ = 0) ∨ (good xs ∧ (∃ u r, s = xs.map Ev.tI ++ u :: r ∧ okAt p s' u = false) ∧ (runS p s).kind = 2 ∧ (runS p s).thread = 0 ∧ (runS p s).at_ = 0 + xs.length) ∨ (∃ ys z r, xs = ys ++ [z] ∧ good ys ∧ z.bad = true ∧ s = xs.map Ev.tI ++ r ∧ (runS p s).kind = 1 ∧ (runS p s).thread = z.tI ∧ (runS p s).at_ = z.k)) at hc
  obtain ⟨xs, s', hr, hs, hst, hc⟩ := hc
  rw [List.nil_append] at hs
  have hth := run_places hp xs St.zero s' (Inv.zero p) hr
  refine ⟨xs, ?_⟩
  have hgood : good xs → (runS p s).kind ≠ 1 → Stood p (runS p s) xs := fun g hk => by
    refine ⟨evsOf_good hk hs g, hs, hth, fun i hi => ?_⟩
    rw [g _ (List.getElem_mem hi)]; simp [hk]
  rcases hc with ⟨g1, _, g3, _⟩ | ⟨g1, _, g3, _⟩ | ⟨us, z, r, g1, g2, g3, _, g5, _⟩
  · exact hgood g1 (by have := endingS_range p s'; omega)
  · exact hgood g1 (by omega)
  · subst g1
    refine ⟨evsOf_bad g5 hs g2 g3, hs, hth, fun i hi => ?_⟩
    by_cases e : i = us.length
    · subst e; simp [g3, g5]
    · have hi' : i < us.length := by simp at hi; omega
      rw [List.getElem_append_left hi', g2 _ (List.getElem_mem hi')]
      simp; intro _; omega

/-- The layer of the next step, as who used what tells it. -/
theorem lay_next {p : List (List Ins)} {o : Out} {xs : List Ev} (h : Stood p o xs) {i : Nat} (hi : i < xs.length) :
    layIn (depE p) (tl (depE p) [] (xs.take i)) xs[i] = if o.kind = 1 ∧ i + 1 = xs.length then highOf (tl (depE p) [] (xs.take i)) else aheadS (histOf p (tl (depE p) [] (xs.take i))) (usesE p xs[i]) 0 := by
  have hg := h.gd i hi
  by_cases e : o.kind = 1 ∧ i + 1 = xs.length
  · rw [if_pos e, high_bad p (by rw [hg]; simp [e])]
  · rw [if_neg e, ahead_lay p (by rw [hg]; simp; omega)]
    intro q hq
    have hm : q.1 ∈ xs.take i := by
      have h1 : q.1 ∈ (tl (depE p) [] (xs.take i)).map (·.1) := List.mem_map.2 ⟨q, hq, rfl⟩
      rwa [tl_fst] at h1
    obtain ⟨j, hj, hj2⟩ := List.getElem_of_mem hm
    have hj' : j < i := by simp at hj; omega
    have hjx : j < xs.length := by omega
    have e1 : q.1 = xs[j] := by rw [← hj2]; simp
    rw [e1, h.gd j hjx]
    simp; intro _; omega
theorem keys_next {p : List (List Ins)} {xs : List Ev} {i : Nat} (hi : i < xs.length) : tl (depE p) [] (xs.take (i + 1)) = tl (depE p) [] (xs.take i) ++ [(xs[i], layIn (depE p) (tl (depE p) [] (xs.take i)) xs[i])] := by
  rw [List.take_succ_eq_append_getElem hi, tl_snoc]

end Go.Proofs.YtklenjmfalljgaaGreatDoor

/- The walk of place. -/
namespace Go.Proofs.YtklenjmfalljgaaGreatDoor
open Go.RowKit Go.Maps
attribute [local go_sem] Go.World.cell?_alloc_some

theorem vIns_ab {i : Ins} {len : Int} (h : vIns i len = true) : 0 ≤ i.a ∧ i.a < 4 ∧ 0 ≤ i.b ∧ i.b < 4 := by
  obtain ⟨h1, h2⟩ := vIns_op h
  obtain ⟨h3, h4, h5⟩ := vIns_parts h
  have hc : i.op = 1 ∨ i.op = 2 ∨ i.op = 3 ∨ i.op = 4 ∨ i.op = 5 ∨ i.op = 6 ∨ i.op = 7 ∨ i.op = 8 ∨ i.op = 9 ∨ i.op = 10 ∨ i.op = 11 := by omega
  rcases hc with e | e | e | e | e | e | e | e | e | e | e <;> rw [e] at h3 h4 h5 <;> simp [shp, fitsB, belowB] at h3 h4 h5 <;> omega
theorem uses_small {t : Nat} {i : Ins} (ht : t < 4) (ha : i.a < 4) (hb : i.b < 4) : (∀ u ∈ usesI t i, smallU u) ∧ (usesI t i).length ≤ 10 := by
  unfold usesI smallU
  by_cases h9 : i.op = 9 ∨ i.op = 10
  · simp [h9]; omega
  · by_cases h2 : i.op = 2
    · simp [h2]; omega
    · by_cases h3 : i.op = 3
      · simp [h3]; omega
      · simp [h9, h2, h3]; omega

def pairI (q : Nat × Nat) : Int × Int := ((q.1 : Int), (q.2 : Int))
/-- The cells of pairs. -/
def flatK (ks : List (Nat × Nat)) : List Value := flatS (ks.map pairI)
theorem flatK_len (ks : List (Nat × Nat)) : (flatK ks).length = ks.length * 2 := by
  induction ks with
  | nil => rfl
  | cons x r ih => simp only [flatK, flatS, List.map_cons, List.flatMap_cons, List.length_append] at *; simp at *; omega
theorem flatK_snoc (ks : List (Nat × Nat)) (q : Nat × Nat) : flatK (ks ++ [q]) = flatK ks ++ [.int .i64 (q.1 : Int), .int .i64 (q.2 : Int)] := by
  unfold flatK; rw [List.map_append, List.map_cons, List.map_nil, flatS_snoc]; rfl
theorem row_set2 (L : List Value) (x y : Value) (i n : Nat) (hl : L.length = i * 2) (hi : i < n) : ((L ++ List.replicate ((n - i) * 2) (Value.int .i64 0)).set (i * 2) x).set (i * 2 + 1) y = (L ++ [x, y]) ++ List.replicate ((n - (i + 1)) * 2) (Value.int .i64 0) := by
  obtain ⟨k, hk⟩ : ∃ k, (n - i) * 2 = k + 2 ∧ (n - (i + 1)) * 2 = k := ⟨(n - (i + 1)) * 2, by omega, rfl⟩
  rw [hk.1, hk.2, List.set_append, if_neg (by omega), hl, Nat.sub_self, List.replicate_succ, List.set_cons_zero, List.set_append, if_neg (by omega), hl]
  have e : i * 2 + 1 - i * 2 = 1 := by omega
  rw [e, List.replicate_succ]
  simp

theorem info_placed : ((Tryz.prog.info? 161).map fun i => (i.zero, i.size, i.bytes)) = some (some (.agg #[.int .i64 0, .int .i64 0]), 2, 16) := by kernel_rfl
theorem made_two (n : Nat) : (madeCells #[Value.int .i64 0, .int .i64 0] n).toList = List.replicate n (.int .i64 0) := by
  apply List.ext_getElem (by simp [madeCells])
  intro i h1 h2
  simp only [madeCells, Array.toList_map, List.getElem_map, List.getElem_replicate]
  have : i < n := by simpa using h2
  simp only [Array.toList_range, List.getElem_range]
  rcases (by omega : i % 2 = 0 ∨ i % 2 = 1) with h | h <;> simp [h]

theorem flatS_at : ∀ (l : List (Int × Int)) (j : Nat) (hj : j < l.length), (flatS l)[j * 2]? = some (.int .i64 l[j].1) ∧ (flatS l)[j * 2 + 1]? = some (.int .i64 l[j].2)
  | [], j, hj => by simp at hj
  | x :: l, 0, hj => by simp [flatS]
  | x :: l, j + 1, hj => by
    have h := flatS_at l j (by simpa using hj)
    have e : flatS (x :: l) = [.int .i64 x.1, .int .i64 x.2] ++ flatS l := by simp [flatS]
    have e2 : ∀ q, (flatS (x :: l))[(j + 1) * 2 + q]? = (flatS l)[j * 2 + q]? := fun q => by
      rw [e, List.getElem?_append_right (by simp; omega)]
      congr 1
      simp; omega
    refine ⟨?_, ?_⟩
    · have := e2 0; simp only [Nat.add_zero] at this; rw [this]; simpa using h.1
    · rw [e2 1]; simpa using h.2
theorem steps_at {w : World} {base : Nat} {ao : Option Addr} {c : Nat} {xs : List Ev} {o : Out} (h : w.ownsRow base 84 2 (.slice ao xs.length c) xs.length (flatS o.steps)) (he : o.steps = xs.map Ev.pr) {j : Nat} (hj : j < xs.length) :
    ∃ g, ao = some ⟨g, 0, none⟩ ∧ w.cell? ⟨g, j * 2, none⟩ = some (.int .i64 (xs[j].t : Int)) ∧ w.cell? ⟨g, j * 2 + 1, none⟩ = some (.int .i64 xs[j].k) := by
  rcases h.2 with ⟨_, e⟩ | ⟨g, cap, _, e, _⟩
  · omega
  · simp only [Value.slice.injEq, true_and] at e
    obtain ⟨rfl, rfl⟩ := e
    have hj' : j < o.steps.length := by rw [he]; simpa using hj
    have q := flatS_at o.steps j hj'
    have e1 : o.steps[j] = xs[j].pr := by simp [he]
    rw [e1] at q
    exact ⟨g, rfl, by rw [h.cellAt _ (by omega)]; exact q.1, by rw [h.cellAt _ (by omega)]; exact q.2⟩
theorem ins_at {w : World} {ao : Option Addr} {cap : Nat} {p : List (List Ins)} (hP : ProgAt w (.agg #[.slice ao p.length cap]) p) {t : Nat} (ht : t < p.length) {k : Nat} (hk : k < (codeOf p t).length) :
    ∃ g o ca cc cg co, ao = some ⟨g, o, none⟩ ∧ ca = some ⟨cg, co, none⟩ ∧ w.cell? ⟨g, o + t, none⟩ = some (.slice ca (codeOf p t).length cc) ∧ w.cell? ⟨cg, co + k * 4, none⟩ = some (.int .i64 (insAt p t k).op) ∧ w.cell? ⟨cg, co + k * 4 + 1, none⟩ = some (.int .i64 (insAt p t k).a) ∧ w.cell? ⟨cg, co + k * 4 + 2, none⟩ = some (.int .i64 (insAt p t k).b) ∧ w.cell? ⟨cg, co + k * 4 + 3, none⟩ = some (.int .i64 (insAt p t k).n) := by
  obtain ⟨ao', cap', e, h⟩ := hP
  simp at e
  obtain ⟨rfl, rfl⟩ := e
  obtain ⟨g, o, e1, rv, c0, ca, cc, e2, h2⟩ := h t ht
  have ec := codeOf_get ht
  rw [← ec] at h2 e2
  obtain ⟨cg, co, e3, k0, k1, k2, k3⟩ := h2 k hk
  have ei : insAt p t (k : Int) = (codeOf p t)[k] := by rw [insAt_get (by simpa using hk)]; simp
  rw [ei]
  exact ⟨g, o, ca, cc, cg, co, e1, e3, by rw [c0, e2], k0, k1, k2, k3⟩

theorem HistAt.keptRow {w w' : World} {b n r : Nat} {F : Use → Nat} (h : HistAt w b n F) (hg : w.grownBy w' (some r)) (hr : r ≠ b) : HistAt w' b n F := by
  obtain ⟨D, h1, h2⟩ := h
  exact ⟨D, h1.kept hg (by simpa using Ne.symm hr), h2⟩
theorem HistAt.mono {w : World} {b n n' : Nat} {F : Use → Nat} (h : HistAt w b n F) (hn : n ≤ n') : HistAt w b n' F := by
  obtain ⟨D, h1, h2⟩ := h
  exact ⟨D, h1.mono hn, h2⟩
theorem grown_cell {w : World} {g o : Nat} {v : Value} : w.grownBy (w.setCell ⟨g, o, none⟩ v) (some g) := ⟨rfl, rfl, rfl, by simp, fun k _ hk => Below.heap_setCell _ _ _ _ (by simp at hk ⊢; omega)⟩

/-- In the midst of place: i steps stand. -/
structure PlIn (p : List (List Ins)) (xs : List Ev) (W w' : World) (gl gm i h : Nat) : Prop where
  row : w'.heap[gl]? = some (.cells (flatK ((tl (depE p) [] (xs.take i)).map keyE) ++ List.replicate ((xs.length - i) * 2) (Value.int .i64 0)).toArray 161 (0, 0))
  his : HistAt w' gm (i * 10) (histOf p (tl (depE p) [] (xs.take i)))
  hgh : h = highOf (tl (depE p) [] (xs.take i))
  gr : ∀ k, k < W.heap.size → w'.heap[k]? = W.heap[k]?
  sz : W.heap.size ≤ w'.heap.size
  os : w'.os = W.os ∧ w'.tape = W.tape ∧ w'.output = W.output

set_option maxHeartbeats 4000000 in
set_option maxRecDepth 100000 in
theorem place_m {p : List (List Ins)} {o : Out} {xs : List Ev} (hp : vProg p = true) (hSt : Stood p o xs) (h500 : xs.length ≤ 500) (w : World) (pv : Value) (hP : ProgAt w pv p) (base : Nat) (sao : Option Addr) (scp : Nat)
    (hs : w.ownsRow base 84 2 (.slice sao xs.length scp) xs.length (flatS o.steps)) (v0 v1 v2 v3 : Int) (gao : Option Addr) (gn gc : Nat) :
    Calls Tryz.prog 74 #[pv, .agg #[.int .i64 o.kind, .int .i64 o.thread, .int .i64 o.at_, .slice sao xs.length scp, .int .i64 v0, .int .i64 v1, .int .i64 v2, .int .i64 v3, .slice gao gn gc]] w fun e w' => ∃ g, e = .returned (.slice (some ⟨g, 0, none⟩) xs.length xs.length) ∧ w.heap.size ≤ g ∧ w'.heap[g]? = some (.cells (flatK (keysE p xs)).toArray 161 (0, 0)) ∧ w.grownBy w' none := by
  obtain ⟨i0, hi0, hz0, hz1, hz2⟩ := info_parts info_placed
  obtain ⟨ao, cap, rfl⟩ := hP.form
  have HP := hide hP
  have HV := hide hp
  have HSt := hide hSt
  have HR := hide hs
  have hlen := vProg_len hp
  have q0 : (xs.length : Int) ≤ 500 := by omega
  have q1 : (0 : Int) ≤ (xs.length : Int) := by omega
  clear hP hp hSt hs
  go_enter Tryz.func74, Tryz.ntmps74
  go_upto_region 1 with fail
  have hB0 : w.grownBy ((w.alloc (.cells #[.slice ao p.length cap] 24)).alloc (.cells #[.int .i64 o.kind, .int .i64 o.thread, .int .i64 o.at_, .slice sao xs.length scp, .int .i64 v0, .int .i64 v1, .int .i64 v2, .int .i64 v3, .slice gao gn gc] 32)) none := grown_alloc (grown_alloc (grown_refl _ _))
  have hPb : ((w.alloc (.cells #[.slice ao p.length cap] 24)).alloc (.cells #[.int .i64 o.kind, .int .i64 o.thread, .int .i64 o.at_, .slice sao xs.length scp, .int .i64 v0, .int .i64 v1, .int .i64 v2, .int .i64 v3, .slice gao gn gc] 32)).heap[w.heap.size]? = some (.cells #[.slice ao p.length cap] 24 (0, 0)) := by
    rw [Below.heap_alloc _ _ _ (by simp)]; exact heap_alloc_new _ _
  have hRb : ((w.alloc (.cells #[.slice ao p.length cap] 24)).alloc (.cells #[.int .i64 o.kind, .int .i64 o.thread, .int .i64 o.at_, .slice sao xs.length scp, .int .i64 v0, .int .i64 v1, .int .i64 v2, .int .i64 v3, .slice gao gn gc] 32)).heap[w.heap.size + 1]? = some (.cells #[.int .i64 o.kind, .int .i64 o.thread, .int .i64 o.at_, .slice sao xs.length scp, .int .i64 v0, .int .i64 v1, .int .i64 v2, .int .i64 v3, .slice gao gn gc] 32 (0, 0)) := by
    have := heap_alloc_new (w.alloc (.cells #[.slice ao p.length cap] 24)) (.cells #[.int .i64 o.kind, .int .i64 o.thread, .int .i64 o.at_, .slice sao xs.length scp, .int .i64 v0, .int .i64 v1, .int .i64 v2, .int .i64 v3, .slice gao gn gc] 32)
    simpa using this
  have hsz1 : ((w.alloc (.cells #[.slice ao p.length cap] 24)).alloc (.cells #[.int .i64 o.kind, .int .i64 o.thread, .int .i64 o.at_, .slice sao xs.length scp, .int .i64 v0, .int .i64 v1, .int .i64 v2, .int .i64 v3, .slice gao gn gc] 32)).heap.size = w.heap.size + 2 := by simp
  generalize (w.alloc (.cells #[.slice ao p.length cap] 24)).alloc (.cells #[.int .i64 o.kind, .int .i64 o.thread, .int .i64 o.at_, .slice sao xs.length scp, .int .i64 v0, .int .i64 v1, .int .i64 v2, .int .i64 v3, .slice gao gn gc] 32) = w1 at *
  have HPB := hide hPb
  have HRB := hide hRb
  have HB0 := hide hB0
  have r3 : w1.cell? ⟨w.heap.size + 1, 3, none⟩ = some (.slice sao xs.length scp) := by simp [World.cell?, hRb]
  clear hPb hRb hB0
  go_upto_region 2 with (at_make; refine wpList_make_full _ rfl _ _ _ rfl w1.heap.size 161 i0 _ 2 Tryz.underlying157 hi0 hz0 hz1 .i64 .i64 _ _ xs.length rfl rfl rfl rfl (by rw [hz2]; omega) (by unfold maxLen; omega) (by simp) ?_; intro w2 hown2 hg2)
  have hrow2 : w2.heap[w1.heap.size]? = some (.cells (List.replicate (xs.length * 2) (Value.int .i64 0)).toArray 161 (0, 0)) := by
    rcases hown2.2 with ⟨e, _⟩ | ⟨g', cap', cur, hv, _, hh, _, _, hcs, htk⟩
    · cases e
    · simp only [Value.slice.injEq, Option.some.injEq, Addr.mk.injEq, true_and, and_true] at hv
      obtain ⟨rfl, rfl⟩ := hv
      rw [hh]
      have e1 : cur.toList = List.replicate (xs.length * 2) (Value.int .i64 0) := by
        rw [← made_two]
        simp only [Value.cells] at htk
        rw [← htk, List.take_of_length_le (by simp; omega)]
      rw [← e1]
  have hs2 : w1.heap.size < w2.heap.size := (Array.getElem?_eq_some_iff.1 hrow2).1
  have HG2 : Hid (w1.grownBy w2 none) := hg2
  have HR2 := hide hrow2
  rw [hsz1] at hs2 HR2
  clear hown2 hg2 hrow2
  have hmm := @run_makeMap Tryz.prog
  have r4 : w2.cell? ⟨w.heap.size + 1, 3, none⟩ = some (.slice sao xs.length scp) := pres_grown HG2.out _ _ r3
  go_upto_region 4 with fail
  have H0 : Hid (PlIn p xs w1 (w2.alloc (.map #[] 0)) (w.heap.size + 2) w2.heap.size 0 0) := by
    refine ⟨?_, ?_, rfl, fun k hk => ?_, ?_, HG2.out.os, HG2.out.tape, HG2.out.output⟩
    · rw [Below.heap_alloc _ _ _ hs2]
      simpa [tl, flatK, flatS] using HR2.out
    · have e : histOf p (tl (depE p) [] (xs.take 0)) = fun _ => 0 := by funext u; simp [tl, histOf]
      rw [e]
      have := HistAt.made w2
      simpa using this
    · rw [Below.heap_alloc _ _ _ (by have := HG2.out.size; omega)]
      exact HG2.out.block k hk (by simp)
    · have := HG2.out.size; simp; omega
  obtain ⟨gm, hgm⟩ : ∃ gm, gm = w2.heap.size := ⟨_, rfl⟩
  obtain ⟨gl, hgl⟩ : ∃ gl, gl = w.heap.size + 2 := ⟨_, rfl⟩
  have HGL : Hid (gl = w1.heap.size ∧ w1.heap.size = w.heap.size + 2 ∧ gl < gm) := ⟨by omega, hsz1, by omega⟩
  rw [← hgm, ← hgl] at H0 ⊢
  clear hgm hgl hmm hs2 HR2 hsz1
  go_wp2_with fail
  go_loopw [7, 20] (fun hv iv w' => ∃ (i h : Nat), i ≤ xs.length ∧ iv = .int .i64 i ∧ hv = .int .i64 h ∧ Hid (PlIn p xs w1 w' gl gm i h)) (fun _ iv _ => xs.length - (intOf iv).toNat)
  case atStart => exact ⟨0, 0, Nat.zero_le _, rfl, rfl, H0⟩
  case round =>
    clear H0 r3 r4
    obtain ⟨i, h, hi, rfl, rfl, HI⟩ := hrel
    obtain ⟨w5, hw5⟩ : ∃ w5, w5 = wr := ⟨_, rfl⟩
    rw [← hw5] at HI ⊢
    clear hw5
    have HPr : Hid (∀ a v, w1.cell? a = some v → w5.cell? a = some v) := fun a v hc => by
      rw [World.cell?_of_block (HI.out.gr a.block (World.block_lt_of_cell? w1 _ hc))]; exact hc
    by_cases hlt : i < xs.length
    · have hmem := List.getElem_mem hlt
      obtain ⟨ht, hk0, hk1⟩ := HSt.out.th _ hmem
      obtain ⟨g, rfl, s0, s1⟩ := steps_at HR.out HSt.out.st hlt
      obtain ⟨kn, hkn⟩ := Int.eq_ofNat_of_zero_le hk0
      have hkl : kn < (codeOf p xs[i].t).length := by omega
      obtain ⟨pg, po, ca, cc, cg, co, rfl, rfl, m0, m1, m2, m3, m4⟩ := ins_at HP.out ht hkl
      have hvi := vProg_ins HV.out ht (k := (kn : Int)) (by simpa using hkl)
      obtain ⟨ha0, ha1, hb0, hb1⟩ := vIns_ab hvi
      obtain ⟨hsm, hul⟩ := uses_small (t := xs[i].t) (i := insAt p xs[i].t kn) (by omega) ha1 hb1
      have HUE : Hid (usesE p xs[i] = usesI xs[i].t (insAt p xs[i].t kn)) := by unfold Hid usesE; rw [hkn]
      have HLN := hide (lay_next HSt.out hlt)
      rw [HUE.out] at HLN
      have HKN := hide (keys_next (p := p) hlt)
      have hpb := HPB.out
      have hrb := HRB.out
      have up : ∀ a v, w.cell? a = some v → w5.cell? a = some v := fun a v hc => HPr.out _ _ (pres_grown HB0.out _ _ hc)
      have s0' := up _ _ s0
      have s1' := up _ _ s1
      have m0' := up _ _ m0
      have m1' := up _ _ m1
      have m2' := up _ _ m2
      have m3' := up _ _ m3
      have m4' := up _ _ m4
      rw [hkn] at s1'
      have n0 : w5.cell? ⟨w.heap.size, 0, none⟩ = some (.slice (some ⟨pg, po, none⟩) p.length cap) := HPr.out _ _ (by simp [World.cell?, hpb])
      have n1 : w5.cell? ⟨w.heap.size + 1, 0, none⟩ = some (.int .i64 o.kind) := HPr.out _ _ (by simp [World.cell?, hrb])
      have n3 : w5.cell? ⟨w.heap.size + 1, 3, none⟩ = some (.slice (some ⟨g, 0, none⟩) xs.length scp) := HPr.out _ _ (by simp [World.cell?, hrb])
      have HUO := hide (fun u : World => usesOf_m xs[i].t (insAt p xs[i].t kn) u ha0 hb0)
      have HTB : Hid (xs[i].t < 4) := by unfold Hid; omega
      have hcl : (codeOf p xs[i].t).length ≤ 16 := vCode_len (vProg_code HV.out ht)
      clear s0 s1 m0 m1 m2 m3 m4 hvi hpb hrb up hk0 hk1 hmem ha0 ha1 hb0 hb1
      generalize hix : insAt p xs[i].t (kn : Int) = ix at *
      generalize hcx : (codeOf p xs[i].t).length = cl at *
      generalize hus : usesI xs[i].t ix = us at *
      generalize hxi : xs[i] = x at *
      obtain ⟨xt, xk, xb⟩ := x
      simp only at *
      clear hix hcx hus
      have t0 : (0 : Int) ≤ (i : Int) := by omega
      have t1 : (i : Int) < xs.length := by omega
      have t2 : (0 : Int) ≤ (xt : Int) := by omega
      have t3 : (xt : Int) < p.length := by omega
      have t4 : (0 : Int) ≤ (kn : Int) := by omega
      have t5 : (kn : Int) < cl := by omega
      go_upto_region 7 with fail
      have hX := heap_alloc_new w5 (.cells #[.int .i64 (xt : Int), .int .i64 (kn : Int)] 84)
      have hg6 : w5.grownBy (w5.alloc (.cells #[.int .i64 (xt : Int), .int .i64 (kn : Int)] 84)) none := grown_alloc (grown_refl _ _)
      have hs6 : (w5.alloc (.cells #[.int .i64 (xt : Int), .int .i64 (kn : Int)] 84)).heap.size = w5.heap.size + 1 := by simp
      generalize w5.alloc (.cells #[.int .i64 (xt : Int), .int .i64 (kn : Int)] 84) = w6 at *
      have b0 : w6.cell? ⟨w5.heap.size, 0, none⟩ = some (.int .i64 (xt : Int)) := by simp only [World.cell?, hX]; rfl
      have b1 : w6.cell? ⟨w5.heap.size, 1, none⟩ = some (.int .i64 (kn : Int)) := by simp only [World.cell?, hX]; rfl
      have HX6 := hide hX
      have HG6 := hide hg6
      have HS6 := hide hs6
      have hHeld0 : w6.drew.cell? ⟨w5.heap.size, 0, none⟩ = some (.int .i64 (xt : Int)) ∧ w6.drew.cell? ⟨w5.heap.size, 1, none⟩ = some (.int .i64 (kn : Int)) ∧ w6.drew.cell? ⟨w.heap.size, 0, none⟩ = some (.slice (some ⟨pg, po, none⟩) p.length cap) ∧ w6.drew.cell? ⟨pg, po + xt, none⟩ = some (.slice (some ⟨cg, co, none⟩) cl cc) ∧ w6.drew.cell? ⟨cg, co + kn * 4, none⟩ = some (.int .i64 ix.op) ∧ w6.drew.cell? ⟨cg, co + kn * 4 + 1, none⟩ = some (.int .i64 ix.a) ∧ w6.drew.cell? ⟨cg, co + kn * 4 + 2, none⟩ = some (.int .i64 ix.b) ∧ w6.drew.cell? ⟨cg, co + kn * 4 + 3, none⟩ = some (.int .i64 ix.n) :=
        ⟨b0, b1, pres_grown hg6 _ _ n0, pres_grown hg6 _ _ m0', pres_grown hg6 _ _ m1', pres_grown hg6 _ _ m2', pres_grown hg6 _ _ m3', pres_grown hg6 _ _ m4'⟩
      clear hX hs6 hg6 b0 b1
      refine wp_region_head (fun u => u.cell? ⟨w5.heap.size, 0, none⟩ = some (.int .i64 (xt : Int)) ∧ u.cell? ⟨w5.heap.size, 1, none⟩ = some (.int .i64 (kn : Int)) ∧ u.cell? ⟨w.heap.size, 0, none⟩ = some (.slice (some ⟨pg, po, none⟩) p.length cap) ∧ u.cell? ⟨pg, po + xt, none⟩ = some (.slice (some ⟨cg, co, none⟩) cl cc) ∧ u.cell? ⟨cg, co + kn * 4, none⟩ = some (.int .i64 ix.op) ∧ u.cell? ⟨cg, co + kn * 4 + 1, none⟩ = some (.int .i64 ix.a) ∧ u.cell? ⟨cg, co + kn * 4 + 2, none⟩ = some (.int .i64 ix.b) ∧ u.cell? ⟨cg, co + kn * 4 + 3, none⟩ = some (.int .i64 ix.n)) 13 (by kernel_rfl) (by kernel_rfl) hHeld0 ?_
      intro hHeld
      refine wpHead_take (i := 0) (v := ?vva0) rfl (by kernel_rfl) (fun _ _ _ h => h) (Or.inl ⟨by rfl, ?hya0⟩) hHeld ?resta0
      case hya0 => (rintro u ⟨hu0, hu1, hu2, hu3, hu4, hu5, hu6, hu7⟩; go_simp; try with_reducible rfl)
      simp only [Act.put, List.setIfInBounds_toArray]
      refine wpHead_take (i := 1) (v := ?vva1) rfl (by kernel_rfl) (fun _ _ _ h => h) (Or.inl ⟨by rfl, ?hya1⟩) hHeld ?resta1
      case hya1 => (rintro u ⟨hu0, hu1, hu2, hu3, hu4, hu5, hu6, hu7⟩; go_simp; try with_reducible rfl)
      simp only [Act.put]
      refine wpHead_take (i := 2) (v := ?vva2) rfl (by kernel_rfl) (fun _ _ _ h => h) (Or.inl ⟨by rfl, ?hya2⟩) hHeld ?resta2
      case hya2 => (rintro u ⟨hu0, hu1, hu2, hu3, hu4, hu5, hu6, hu7⟩; go_simp; try with_reducible rfl)
      simp only [Act.put]
      refine wpHead_take (i := 3) (v := ?vva3) rfl (by kernel_rfl) (fun _ _ _ h => h) (Or.inl ⟨by rfl, ?hya3⟩) hHeld ?resta3
      case hya3 => (rintro u ⟨hu0, hu1, hu2, hu3, hu4, hu5, hu6, hu7⟩; go_simp; try with_reducible rfl)
      simp only [Act.put]
      refine wpHead_take (i := 4) (v := ?vva4) rfl (by kernel_rfl) (fun _ _ _ h => h) (Or.inl ⟨by rfl, ?hya4⟩) hHeld ?resta4
      case hya4 => (rintro u ⟨hu0, hu1, hu2, hu3, hu4, hu5, hu6, hu7⟩; go_simp; try with_reducible rfl)
      simp only [Act.put]
      refine wpHead_take (i := 5) (v := ?vva5) rfl (by kernel_rfl) (fun _ _ _ h => h) (Or.inl ⟨by rfl, ?hya5⟩) hHeld ?resta5
      case hya5 => (rintro u ⟨hu0, hu1, hu2, hu3, hu4, hu5, hu6, hu7⟩; go_simp; try with_reducible rfl)
      simp only [Act.put]
      refine wpHead_take (i := 6) (v := ?vva6) rfl (by kernel_rfl) (fun _ _ _ h => h) (Or.inl ⟨by rfl, ?hya6⟩) hHeld ?resta6
      case hya6 => (rintro u ⟨hu0, hu1, hu2, hu3, hu4, hu5, hu6, hu7⟩; go_simp; try with_reducible rfl)
      simp only [Act.put]
      refine wpHead_take (i := 7) (v := ?vva7) rfl (by kernel_rfl) (fun _ _ _ h => h) (Or.inl ⟨by rfl, ?hya7⟩) hHeld ?resta7
      case hya7 => (rintro u ⟨hu0, hu1, hu2, hu3, hu4, hu5, hu6, hu7⟩; go_simp; try with_reducible rfl)
      simp only [Act.put]
      refine wpHead_take (i := 8) (v := ?vva8) rfl (by kernel_rfl) (fun _ _ _ h => h) (Or.inl ⟨by rfl, ?hya8⟩) hHeld ?resta8
      case hya8 => (rintro u ⟨hu0, hu1, hu2, hu3, hu4, hu5, hu6, hu7⟩; go_simp; try with_reducible rfl)
      simp only [Act.put]
      refine wpHead_take (i := 9) (v := ?vva9) rfl (by kernel_rfl) (fun _ _ _ h => h) (Or.inl ⟨by rfl, ?hya9⟩) hHeld ?resta9
      case hya9 => (rintro u ⟨hu0, hu1, hu2, hu3, hu4, hu5, hu6, hu7⟩; go_simp; try with_reducible rfl)
      simp only [Act.put]
      refine wpHead_take (i := 10) (v := ?vva10) rfl (by kernel_rfl) (fun _ _ _ h => h) (Or.inl ⟨by rfl, ?hya10⟩) hHeld ?resta10
      case hya10 => (rintro u ⟨hu0, hu1, hu2, hu3, hu4, hu5, hu6, hu7⟩; go_simp; try with_reducible rfl)
      simp only [Act.put]
      refine wpHead_take (i := 11) (v := ?vva11) rfl (by kernel_rfl) (fun _ _ _ h => h) (Or.inl ⟨by rfl, ?hya11⟩) hHeld ?resta11
      case hya11 => (rintro u ⟨hu0, hu1, hu2, hu3, hu4, hu5, hu6, hu7⟩; go_simp; try with_reducible rfl)
      simp only [Act.put]
      refine wpHead_alone (i := 12) rfl (by kernel_rfl) (by kernel_rfl) (by rfl) ?_
      intro K12 hK12
      have HK12 := hide hK12
      clear hK12
      go_simp
      refine (HUO.out _).mono ?_
      rintro e w7 ⟨uv, rfl, hU7, hg7⟩
      have HG67 : Hid (w6.grownBy w7 none) := ⟨hg7.os, hg7.tape, hg7.output, hg7.size, hg7.block⟩
      refine HK12.out _ _ ⟨pres_grown hg7 _ _ hHeld.1, pres_grown hg7 _ _ hHeld.2.1, pres_grown hg7 _ _ hHeld.2.2.1, pres_grown hg7 _ _ hHeld.2.2.2.1, pres_grown hg7 _ _ hHeld.2.2.2.2.1, pres_grown hg7 _ _ hHeld.2.2.2.2.2.1, pres_grown hg7 _ _ hHeld.2.2.2.2.2.2.1, pres_grown hg7 _ _ hHeld.2.2.2.2.2.2.2⟩ ?_
      clear HK12 hg7 hHeld hHeld0 HUO
      try simp only [Act.put, List.setIfInBounds_toArray]
      refine wpHead_last rfl (by kernel_rfl) (by kernel_rfl) (by rfl) ?_
      go_simp
      have hul2 : us.length ≤ 10 := hul
      have HU7 := hide hU7
      have HG57 : Hid (w5.grownBy w7 none) := grown_trans HG6.out HG67.out
      have HH7 : Hid (HistAt w7 gm (i * 10) (histOf p (tl (depE p) [] (xs.take i)))) := HI.out.his.kept HG57.out
      have hFb : ∀ u, histOf p (tl (depE p) [] (xs.take i)) u ≤ 1000 := fun u => by have := histOf_le p (xs.take i) u; simp at this; omega
      have HFb := hide hFb
      have HSM := hide hsm
      have hhi : h ≤ 500 := by rw [HI.out.hgh]; have := highOf_le p (xs.take i); simp at this; omega
      have HLB : Hid (layIn (depE p) (tl (depE p) [] (xs.take i)) ⟨xt, xk, xb⟩ ≤ 500) := by
        unfold Hid; have := lay_le p (xs.take i) ⟨xt, xk, xb⟩; simp at this; omega
      have HAB : Hid (aheadS (histOf p (tl (depE p) [] (xs.take i))) us 0 ≤ 1000) := aheadS_small _ hFb us 0 (by omega)
      have n1' := pres_grown HG57.out _ _ n1
      have n3' := pres_grown HG57.out _ _ n3
      clear hU7 hsm hul hFb n0 n1 n3 m0' m1' m2' m3' m4' s0' s1'
      obtain ⟨ug, uc, hue⟩ : ∃ ug uc, uv = .slice (some ⟨ug, 0, none⟩) us.length uc := by
        obtain ⟨ug, uc, e, _⟩ := HU7.out; exact ⟨ug, uc, e⟩
      subst hue
      go_wp2_with fail
      refine (ahead_m HH7.out HFb.out us HSM.out _ HU7.out hul2).mono ?_
      rintro e w8 ⟨rfl, hg8⟩
      have HG78 := hide hg8
      have k1 := pres_grown hg8 _ _ n1'
      have k3 := pres_grown hg8 _ _ n3'
      clear hg8 n1' n3'
      generalize hlx : layIn (depE p) (tl (depE p) [] (xs.take i)) ⟨xt, xk, xb⟩ = lx at *
      generalize hah : aheadS (histOf p (tl (depE p) [] (xs.take i))) us 0 = ah at *
      have HLX := hide hlx
      have HHG := hide HI.out.hgh
      rw [← HHG.out] at HLN
      have hah0 : (ah : Int) ≤ 1000 := by have := HAB.out; omega
      clear hlx hah
      go_upto_region 9 with fail
      obtain ⟨bl, hbl⟩ : ∃ bl : Bool, bl = decide (o.kind = 1 ∧ i + 1 = xs.length) := ⟨_, rfl⟩
      have HBL := hide hbl
      clear hbl
      go_cut [52] (fun q w' => q = .bool bl ∧ w' = w8)
      case first =>
        by_cases e1 : i + 1 = xs.length
        · have e3 : (xs.length : Int) - 1 = (i : Int) := by omega
          by_cases e2 : o.kind = 1
          · have hb : bl = true := by rw [HBL.out]; simp [e1, e2]
            rw [e2] at k1
            go_wp2_with fail
            all_goals first | (go_meet; exact ⟨by rw [hb], rfl⟩) | (exfalso; omega)
          · have hb : bl = false := by rw [HBL.out]; simp [e2]
            have hb2 : (o.kind == 1) = false := by simpa using e2
            go_wp2_with fail
            all_goals first | (go_meet; exact ⟨by rw [hb], rfl⟩) | (exfalso; omega)
        · have hb : bl = false := by rw [HBL.out]; simp [e1]
          have e3 : (i : Int) < (xs.length : Int) - 1 := by omega
          have e4 : ((i : Int) == (xs.length : Int) - 1) = false := by simp; omega
          go_wp2_with fail
          all_goals first | (go_meet; exact ⟨by rw [hb], rfl⟩) | (exfalso; omega)
      case rest =>
      obtain ⟨rfl, hwc⟩ := hcut
      have hwc2 := hwc.symm
      subst hwc2
      go_upto_if 52 with fail
      go_cut [11] (fun q w' => q = .int .i64 (lx : Int) ∧ w' = w8)
      case first =>
        cases bl with
        | true =>
          have hl : lx = h := by rw [HLN.out, if_pos (by have := HBL.out.symm; simpa using this)]
          go_wp2_with fail
          go_meet
          exact ⟨by rw [hl], rfl⟩
        | false =>
          have hl : lx = ah := by rw [HLN.out, if_neg (by have := HBL.out.symm; simpa using this)]
          go_wp2_with fail
          go_meet
          exact ⟨by rw [hl], rfl⟩
      case rest =>
      obtain ⟨rfl, hwc⟩ := hcut
      have hwc2 := hwc.symm
      subst hwc2
      clear HLN HBL
      have hlx9 : lx ≤ 900 := by have := HLB.out; omega
      have hlx' : (lx : Int) ≤ 900 := by omega
      have hlx0 : (0 : Int) ≤ (lx : Int) := by omega
      have hh' : (h : Int) ≤ 500 := by omega
      have hh0 : (0 : Int) ≤ (h : Int) := by omega
      have HH8 : Hid (HistAt w8 gm (i * 10) (histOf p (tl (depE p) [] (xs.take i)))) := HH7.out.kept HG78.out
      have HU8 : Hid (UsesAt w8 (.slice (some ⟨ug, 0, none⟩) us.length uc) us) := HU7.out.grown HG78.out
      have HG58 : Hid (w5.grownBy w8 none) := grown_trans HG57.out HG78.out
      go_wp2_with fail
      refine (enter_m HH8.out HFb.out (by omega) us HSM.out _ HU8.out hul2 lx hlx9).mono ?_
      rintro e w9 ⟨⟨rv9, rfl⟩, hH9, hg9⟩
      have hgm5 : gm < w5.heap.size := HI.out.his.lt
      have hX9 : w9.heap[w5.heap.size]? = some (.cells #[.int .i64 (xt : Int), .int .i64 (kn : Int)] 84 (0, 0)) := by
        have h68 := grown_trans HG67.out HG78.out
        have hs := HS6.out
        rw [hg9.block _ (by have := h68.size; omega) (by simp; omega), h68.block _ (by omega) (by simp)]; exact HX6.out
      have hr9 : w9.heap[gl]? = some (.cells (flatK ((tl (depE p) [] (xs.take i)).map keyE) ++ List.replicate ((xs.length - i) * 2) (Value.int .i64 0)).toArray 161 (0, 0)) := by
        have hlt5 := (Array.getElem?_eq_some_iff.1 HI.out.row).1
        rw [hg9.block _ (by have := HG58.out.size; omega) (by have := HGL.out; simp; omega), HG58.out.block _ hlt5 (by simp)]; exact HI.out.row
      have HR9 := hide hr9
      have y0 : w9.cell? ⟨w5.heap.size, 0, none⟩ = some (.int .i64 (xt : Int)) := by simp [World.cell?, hX9]
      obtain ⟨R, hR⟩ : ∃ R : List Value, R = flatK ((tl (depE p) [] (xs.take i)).map keyE) ++ List.replicate ((xs.length - i) * 2) (Value.int .i64 0) := ⟨_, rfl⟩
      have hkl2 : (flatK ((tl (depE p) [] (xs.take i)).map keyE)).length = i * 2 := by
        rw [flatK_len, List.length_map, tl_length]; simp; omega
      have hRl : R.length = xs.length * 2 := by rw [hR, List.length_append, hkl2, List.length_replicate]; omega
      rw [← hR] at hr9
      obtain ⟨z0, hz0'⟩ : ∃ z, w9.cell? ⟨gl, i * 2, none⟩ = some z := ⟨R[i * 2]'(by omega), by simp only [World.cell?, hr9]; simp⟩
      obtain ⟨z1, hz1'⟩ : ∃ z, (w9.setCell ⟨gl, i * 2, none⟩ (.int .i64 (lx : Int))).cell? ⟨gl, i * 2 + 1, none⟩ = some z := by
        have hr10 := heap_setCell_same w9 gl (i * 2) _ _ (.int .i64 (lx : Int)) hr9
        exact ⟨_, by simp only [World.cell?, hr10]; exact Array.getElem?_eq_getElem (by simp; omega)⟩
      have fz0 : w9.frozen? ⟨gl, i * 2, none⟩ = false := by simp [World.frozen?, hr9]
      have fz1 : (w9.setCell ⟨gl, i * 2, none⟩ (.int .i64 (lx : Int))).frozen? ⟨gl, i * 2 + 1, none⟩ = false := by
        have hr10 := heap_setCell_same w9 gl (i * 2) _ _ (.int .i64 (lx : Int)) hr9
        simp [World.frozen?, hr10]
      have HFIN : Hid (PlIn p xs w1 ((w9.setCell ⟨gl, i * 2, none⟩ (.int .i64 (lx : Int))).setCell ⟨gl, i * 2 + 1, none⟩ (.int .i64 (xt : Int))) gl gm (i + 1) (max h (lx + 1))) := by
        have hkn' := HKN.out
        have hg10 : w9.grownBy ((w9.setCell ⟨gl, i * 2, none⟩ (.int .i64 (lx : Int))).setCell ⟨gl, i * 2 + 1, none⟩ (.int .i64 (xt : Int))) (some gl) := grown_trans grown_cell grown_cell
        have hlo := HGL.out
        have hs5 := HI.out.sz
        refine ⟨?_, ?_, ?_, fun k hk => ?_, ?_, ?_⟩
        · have hr10 := heap_setCell_same w9 gl (i * 2) _ _ (.int .i64 (lx : Int)) HR9.out
          have hr11 := heap_setCell_same _ gl (i * 2 + 1) _ _ (.int .i64 (xt : Int)) hr10
          rw [hr11]
          simp only [List.setIfInBounds_toArray]
          rw [row_set2 _ _ _ i xs.length hkl2 hlt, hkn', List.map_append, List.map_cons, List.map_nil, flatK_snoc]
          rfl
        · have h9 := (hH9.keptRow hg10 (by omega)).mono (n' := (i + 1) * 10) (by omega)
          have e : enterF (lx + 1) us (histOf p (tl (depE p) [] (xs.take i))) = histOf p (tl (depE p) [] (xs.take (i + 1))) := by
            funext u
            rw [enterF_eq, hkn', histOf_snoc, HUE.out]
          rw [e] at h9; exact h9
        · rw [hkn', highOf_snoc, ← HHG.out]
        · rw [hg10.block k (by have := hg9.size; have := HG58.out.size; omega) (by simp; omega), hg9.block k (by have := HG58.out.size; omega) (by simp; omega), HG58.out.block k (by omega) (by simp)]
          exact HI.out.gr k hk
        · have h1 := hg10.size
          have h2 := hg9.size
          have h3 := HG58.out.size
          omega
        · exact ⟨hg10.os.trans (hg9.os.trans (HG58.out.os.trans HI.out.os.1)), hg10.tape.trans (hg9.tape.trans (HG58.out.tape.trans HI.out.os.2.1)), hg10.output.trans (hg9.output.trans (HG58.out.output.trans HI.out.os.2.2))⟩
      have hne : gl ≠ w5.heap.size := by have := (Array.getElem?_eq_some_iff.1 HI.out.row).1; omega
      clear hr9 hX9 hR hRl hkl2 hH9 hg9 HH8 HU8 k1 k3 HH7 HU7
      go_wp2_with fail
      go_roundw
      case rel => exact ⟨i + 1, max h (lx + 1), by omega, by go_num, by congr 1; (repeat' split) <;> omega, HFIN⟩
      case measure => simp [intOf]; omega
    · have t1 : (xs.length : Int) ≤ (i : Int) := by omega
      have ei : i = xs.length := by omega
      have HRf : Hid (w5.heap[gl]? = some (.cells (flatK (keysE p xs)).toArray 161 (0, 0))) := by
        have := HI.out.row
        rw [ei, List.take_length, Nat.sub_self] at this
        unfold Hid keysE
        simpa using this
      have HGf : Hid (w.grownBy w5 none) := by
        have hlo := HGL.out
        refine ⟨HI.out.os.1.trans HB0.out.os, HI.out.os.2.1.trans HB0.out.tape, HI.out.os.2.2.trans HB0.out.output, Nat.le_trans HB0.out.size HI.out.sz, fun k hk _ => ?_⟩
        rw [HI.out.gr k (Nat.lt_of_lt_of_le hk HB0.out.size)]
        exact HB0.out.block k hk (by simp)
      have hlo : w.heap.size ≤ gl := by have := HGL.out; omega
      go_wp2_with fail
      go_ret
      exact ⟨gl, rfl, hlo, HRf.out, HGf.out⟩

end Go.Proofs.YtklenjmfalljgaaGreatDoor
