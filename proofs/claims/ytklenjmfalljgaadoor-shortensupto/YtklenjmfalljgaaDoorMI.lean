/- The texts Frm Frn Fro Frq Svd Sho Fld Shp Sht Rfs. -/
import Derived.Test.YtklenjmfalljgaaDoorMH
import Derived.RowKit

/- Rows of things of which some depend on one another: their layers, what may change places, the row by layers (no dump is named here). -/
namespace Go.Proofs.YtklenjmfalljgaaDoor

section
variable {α : Type} (d : α → α → Bool) (th : α → Nat)

/-- The layer of x behind a past of things with their layers. -/
def layIn : List (α × Nat) → α → Nat
  | [], _ => 0
  | y :: r, x => if d y.1 x = true then max (y.2 + 1) (layIn r x) else layIn r x

/-- A row's things with their layers, behind a past. -/
def tl : List (α × Nat) → List α → List (α × Nat)
  | _, [] => []
  | past, x :: r => (x, layIn d past x) :: tl ((x, layIn d past x) :: past) r

theorem layIn_append (a b : List (α × Nat)) (x : α) : layIn d (a ++ b) x = max (layIn d a x) (layIn d b x) := by
  induction a with
  | nil => simp [layIn]
  | cons y r ih =>
    simp only [List.cons_append, layIn, ih]
    split <;> omega
theorem layIn_perm {a b : List (α × Nat)} (h : a.Perm b) (x : α) : layIn d a x = layIn d b x := by
  induction h with
  | nil => rfl
  | cons y _ ih => simp only [layIn, ih]
  | swap y z l =>
    simp only [layIn]
    split <;> split <;> omega
  | trans _ _ ih1 ih2 => rw [ih1, ih2]
theorem tl_perm {a b : List (α × Nat)} (h : a.Perm b) (xs : List α) : tl d a xs = tl d b xs := by
  induction xs generalizing a b with
  | nil => rfl
  | cons x r ih =>
    simp only [tl]
    rw [layIn_perm d h x, ih (h.cons _)]
theorem tl_append (past : List (α × Nat)) (xs ys : List α) : tl d past (xs ++ ys) = tl d past xs ++ tl d (tl d past xs ++ past) ys := by
  induction xs generalizing past with
  | nil => simp [tl]
  | cons x r ih =>
    simp only [List.cons_append, tl]
    rw [ih]
    congr 2
    exact tl_perm d (by simp) ys
theorem tl_fst (past : List (α × Nat)) (xs : List α) : (tl d past xs).map (·.1) = xs := by
  induction xs generalizing past with
  | nil => rfl
  | cons x r ih => simp only [tl, List.map_cons, ih]
theorem tl_length (past : List (α × Nat)) (xs : List α) : (tl d past xs).length = xs.length := by
  have := congrArg List.length (tl_fst d past xs); simpa using this
theorem tl_snoc (xs : List α) (x : α) : tl d [] (xs ++ [x]) = tl d [] xs ++ [(x, layIn d (tl d [] xs) x)] := by
  rw [tl_append]; simp [tl]
theorem layIn_ge {past : List (α × Nat)} {y : α × Nat} {x : α} (h : y ∈ past) (hd : d y.1 x = true) : y.2 + 1 ≤ layIn d past x := by
  induction past with
  | nil => cases h
  | cons z r ih =>
    simp only [layIn]
    rcases List.mem_cons.1 h with h | h
    · subst h; rw [if_pos hd]; omega
    · have := ih h
      split <;> omega
theorem layIn_le {past : List (α × Nat)} {x : α} {n : Nat} (h : ∀ y ∈ past, d y.1 x = true → y.2 + 1 ≤ n) : layIn d past x ≤ n := by
  induction past with
  | nil => simp [layIn]
  | cons z r ih =>
    simp only [layIn]
    have h1 := ih (fun y hy => h y (List.mem_cons_of_mem _ hy))
    split
    · have := h z (List.mem_cons_self ..) ‹_›; omega
    · exact h1

/-- Rows that come of one another by neighbours that change places and do not depend on one another. -/
def Eqv (xs ys : List α) : Prop := ∀ R : List α → List α → Prop, (∀ a, R a a) → (∀ (a : List α) (x y : α) (b : List α), d x y = false → d y x = false → R (a ++ x :: y :: b) (a ++ y :: x :: b)) → (∀ a b c, R a b → R b c → R a c) → R xs ys

variable {d}
theorem Eqv.refl (xs : List α) : Eqv d xs xs := fun _ h _ _ => h xs
theorem Eqv.swap (a : List α) (x y : α) (b : List α) (h1 : d x y = false) (h2 : d y x = false) : Eqv d (a ++ x :: y :: b) (a ++ y :: x :: b) := fun _ _ h _ => h a x y b h1 h2
theorem Eqv.trans {xs ys zs : List α} (h : Eqv d xs ys) (h' : Eqv d ys zs) : Eqv d xs zs := fun R h1 h2 h3 => h3 xs ys zs (h R h1 h2 h3) (h' R h1 h2 h3)
theorem Eqv.snoc {xs ys : List α} (h : Eqv d xs ys) (z : α) : Eqv d (xs ++ [z]) (ys ++ [z]) := by
  refine h (fun xs ys => Eqv d (xs ++ [z]) (ys ++ [z])) (fun _ => Eqv.refl _) (fun a x y b h1 h2 => ?_) (fun _ _ _ i1 i2 => i1.trans i2)
  simpa using Eqv.swap a x y (b ++ [z]) h1 h2

theorem tl_swap (a : List α) (x y : α) (b : List α) (h1 : d x y = false) (h2 : d y x = false) :
    ∃ la lx ly lb, tl d [] (a ++ x :: y :: b) = la ++ (x, lx) :: (y, ly) :: lb ∧ tl d [] (a ++ y :: x :: b) = la ++ (y, ly) :: (x, lx) :: lb ∧ la.length = a.length ∧ lb.length = b.length := by
  refine ⟨tl d [] a, layIn d (tl d [] a ++ []) x, layIn d (tl d [] a ++ []) y, tl d ((y, layIn d (tl d [] a ++ []) y) :: (x, layIn d (tl d [] a ++ []) x) :: (tl d [] a ++ [])) b, ?_, ?_, tl_length _ _ _, tl_length _ _ _⟩
  · have e : layIn d ((x, layIn d (tl d [] a ++ []) x) :: (tl d [] a ++ [])) y = layIn d (tl d [] a ++ []) y := by simp [layIn, h1]
    rw [tl_append]
    simp only [tl]
    rw [e]
  · have e : layIn d ((y, layIn d (tl d [] a ++ []) y) :: (tl d [] a ++ [])) x = layIn d (tl d [] a ++ []) x := by simp [layIn, h2]
    rw [tl_append]
    simp only [tl]
    rw [e, tl_perm d (List.Perm.swap _ _ _) b]
theorem Eqv.labels {xs ys : List α} (h : Eqv d xs ys) : (tl d [] xs).Perm (tl d [] ys) := by
  refine h (fun xs ys => (tl d [] xs).Perm (tl d [] ys)) (fun _ => List.Perm.refl _) (fun a x y b h1 h2 => ?_) (fun _ _ _ i1 i2 => i1.trans i2)
  obtain ⟨la, lx, ly, lb, e1, e2, _⟩ := tl_swap a x y b h1 h2
  show (tl d [] (a ++ x :: y :: b)).Perm (tl d [] (a ++ y :: x :: b))
  rw [e1, e2]
  exact (List.Perm.swap _ _ _).append_left la

/-- By layers, in a layer by rising threads. -/
def leK (x y : α × Nat) : Prop := x.2 < y.2 ∨ (x.2 = y.2 ∧ th x.1 ≤ th y.1)
theorem leK_trans {x y z : α × Nat} (h1 : leK th x y) (h2 : leK th y z) : leK th x z := by unfold leK at *; omega
theorem leK_total (x y : α × Nat) : leK th x y ∨ leK th y x := by unfold leK; omega

/-- Every row comes to one by layers. -/
theorem sorted_of (hs : ∀ x y, d x y = d y x) (xs : List α) : ∃ ys, Eqv d xs ys ∧ (tl d [] ys).Pairwise (leK th) := by
  have ins : ∀ (n : Nat) (ys : List α) (x : α), ys.length = n → (tl d [] ys).Pairwise (leK th) → ∃ us, Eqv d (ys ++ [x]) us ∧ (tl d [] us).Pairwise (leK th) := by
    intro n
    induction n with
    | zero =>
      intro ys x hl _
      have : ys = [] := List.length_eq_zero_iff.1 hl
      subst this
      exact ⟨[x], Eqv.refl _, by simp [tl]⟩
    | succ n ih =>
      intro ys x hl hp
      obtain ⟨zs, z, rfl⟩ : ∃ zs z, ys = zs ++ [z] := ⟨ys.dropLast, ys.getLast (by intro e; simp [e] at hl), (List.dropLast_concat_getLast _).symm⟩
      have hp1 := hp
      rw [tl_snoc, List.pairwise_append] at hp1
      obtain ⟨hz, _, hlast⟩ := hp1
      by_cases hk : leK th (z, layIn d (tl d [] zs) z) (x, layIn d (tl d [] (zs ++ [z])) x)
      · refine ⟨_, Eqv.refl _, ?_⟩
        rw [tl_snoc, List.pairwise_append]
        refine ⟨hp, by simp, fun u hu v hv => ?_⟩
        simp only [List.mem_singleton] at hv
        subst hv
        rw [tl_snoc] at hu
        rcases List.mem_append.1 hu with hu | hu
        · exact leK_trans th (hlast u hu _ (by simp)) hk
        · simp only [List.mem_singleton] at hu
          subst hu
          exact hk
      · have hdx : d z x = false := by
          cases hd : d z x with
          | false => rfl
          | true =>
            exfalso
            apply hk
            left
            have := layIn_ge d (past := tl d [] (zs ++ [z])) (y := (z, layIn d (tl d [] zs) z)) (x := x) (by rw [tl_snoc]; simp) hd
            simp only at this ⊢
            omega
        have hxd : d x z = false := by rw [hs]; exact hdx
        obtain ⟨us, hu1, hu2⟩ := ih zs x (by simpa using hl) hz
        have hle : layIn d (tl d [] (zs ++ [z])) x = layIn d (tl d [] zs) x := by
          rw [tl_snoc, layIn_append]; simp [layIn, hdx]
        have hzu : layIn d (tl d [] us) z = layIn d (tl d [] zs) z := by
          rw [← layIn_perm d hu1.labels, tl_snoc, layIn_append]; simp [layIn, hxd]
        refine ⟨us ++ [z], ?_, ?_⟩
        · have e1 : Eqv d (zs ++ [z] ++ [x]) (zs ++ [x] ++ [z]) := by simpa using Eqv.swap zs z x [] hdx hxd
          exact e1.trans (hu1.snoc z)
        · rw [tl_snoc, hzu, List.pairwise_append]
          refine ⟨hu2, by simp, fun u hu v hv => ?_⟩
          simp only [List.mem_singleton] at hv
          subst hv
          have hm := hu1.labels.mem_iff.2 hu
          rw [tl_snoc] at hm
          rcases List.mem_append.1 hm with hm | hm
          · exact hlast u hm _ (by simp)
          · simp only [List.mem_singleton] at hm
            subst hm
            rw [hle] at hk
            exact (leK_total th _ _).resolve_left hk
  induction hn : xs.length generalizing xs with
  | zero =>
    have : xs = [] := List.length_eq_zero_iff.1 hn
    subst this
    exact ⟨[], Eqv.refl _, by simp [tl]⟩
  | succ n ih =>
    obtain ⟨zs, z, rfl⟩ : ∃ zs z, xs = zs ++ [z] := ⟨xs.dropLast, xs.getLast (by intro e; simp [e] at hn), (List.dropLast_concat_getLast _).symm⟩
    obtain ⟨ys, h1, h2⟩ := ih zs (by simpa using hn)
    obtain ⟨us, h3, h4⟩ := ins ys.length ys z rfl h2
    exact ⟨us, (h1.snoc z).trans h3, h4⟩
end

/-- Two sorted rows of the same pairs are one. -/
theorem sorted_one : ∀ {a b : List (Nat × Nat)}, a.Perm b → a.Pairwise (fun x y => x.1 < y.1 ∨ (x.1 = y.1 ∧ x.2 ≤ y.2)) → b.Pairwise (fun x y => x.1 < y.1 ∨ (x.1 = y.1 ∧ x.2 ≤ y.2)) → a = b
  | [], b, h, _, _ => (List.nil_perm.1 h).symm
  | x :: a, [], h, _, _ => absurd h.length_eq (by simp)
  | x :: a, y :: b, h, h1, h2 => by
    rw [List.pairwise_cons] at h1 h2
    have e : x = y := by
      have hx : x ∈ y :: b := h.mem_iff.1 (List.mem_cons_self ..)
      have hy : y ∈ x :: a := h.mem_iff.2 (List.mem_cons_self ..)
      rcases List.mem_cons.1 hx with hx | hx
      · exact hx
      · rcases List.mem_cons.1 hy with hy | hy
        · exact hy.symm
        · have k1 := h1.1 y hy
          have k2 := h2.1 x hx
          obtain ⟨x1, x2⟩ := x
          obtain ⟨y1, y2⟩ := y
          simp only at k1 k2
          have e1 : x1 = y1 := by omega
          have e2 : x2 = y2 := by omega
          rw [e1, e2]
    subst e
    rw [sorted_one (List.perm_cons _ |>.1 h) h1.2 h2.2]

end Go.Proofs.YtklenjmfalljgaaDoor

/- Steps that have nothing to do with one another change places: the machine comes to the same (no dump is named here). -/
namespace Go.Proofs.YtklenjmfalljgaaDoor
open Go.RowKit (wrap64)

/-- What an instruction writes into its thread's registers. -/
def locR (i : Ins) (R : Nat → Int) (v : Int) (r : Nat) : Int :=
  if r = i.a.toNat then
    (if i.op = 1 then i.n else if i.op = 2 then v else if i.op = 4 then wrap64 (R i.a.toNat + R i.b.toNat) else if i.op = 5 then wrap64 (R i.a.toNat - R i.b.toNat)
     else if i.op = 6 then wrap64 (R i.a.toNat * R i.b.toNat) else if i.op = 7 then (if R i.b.toNat = 0 then R r else wrap64 ((R i.a.toNat).tdiv (R i.b.toNat))) else R r)
  else R r
/-- Does it do? -/
def locOk (t : Nat) (i : Ins) (R : Nat → Int) (h : Bool) (o : Int) : Bool :=
  if i.op = 7 then R i.b.toNat != 0 else if i.op = 10 then decide (h = true ∧ o = t) else if 1 ≤ i.op ∧ i.op ≤ 9 then true else R i.a.toNat != 0

theorem act_parts (t : Nat) (i : Ins) (s : St) :
    (act t i s).1 = locOk t i (s.regs t) (s.held i.a.toNat) (s.own i.a.toNat) ∧
    (act t i s).2.vars = (fun x => if i.op = 3 ∧ x = i.a.toNat then s.regs t i.b.toNat else s.vars x) ∧
    (act t i s).2.held = (fun l => if i.op = 9 ∧ l = i.a.toNat then true else if i.op = 10 ∧ l = i.a.toNat ∧ s.held i.a.toNat = true ∧ s.own i.a.toNat = t then false else s.held l) ∧
    (act t i s).2.own = (fun l => if i.op = 9 ∧ l = i.a.toNat then (t : Int) else if i.op = 10 ∧ l = i.a.toNat ∧ s.held i.a.toNat = true ∧ s.own i.a.toNat = t then 0 else s.own l) ∧
    (act t i s).2.regs = (fun t' r => if t' = t then locR i (s.regs t) (s.vars i.b.toNat) r else s.regs t' r) ∧
    (act t i s).2.next = (fun t' => if t' = t ∧ i.op = 8 ∧ s.regs t i.a.toNat = 0 then i.n else s.next t') := by
  have hc : i.op = 1 ∨ i.op = 2 ∨ i.op = 3 ∨ i.op = 4 ∨ i.op = 5 ∨ i.op = 6 ∨ i.op = 7 ∨ i.op = 8 ∨ i.op = 9 ∨ i.op = 10 ∨ (i.op ≠ 1 ∧ i.op ≠ 2 ∧ i.op ≠ 3 ∧ i.op ≠ 4 ∧ i.op ≠ 5 ∧ i.op ≠ 6 ∧ i.op ≠ 7 ∧ i.op ≠ 8 ∧ i.op ≠ 9 ∧ i.op ≠ 10) := by omega
  have key : ∀ (c : Prop) [Decidable c] (f : Nat → Nat → Int) (x : Int) (t' r : Nat), (if t' = t ∧ r = i.a.toNat then x else s.regs t' r) = (if t' = t then (if r = i.a.toNat then x else s.regs t r) else s.regs t' r) := by
    intro c _ f x t' r
    by_cases h1 : t' = t
    · subst h1; simp
    · simp [h1]
  have keep : ∀ (t' r : Nat), s.regs t' r = (if t' = t then s.regs t r else s.regs t' r) := by
    intro t' r
    by_cases h1 : t' = t
    · subst h1; simp
    · simp [h1]
  rcases hc with e | e | e | e | e | e | e | e | e | e | e
  · simp [act, e, locOk, locR, St.setReg, key True (fun _ _ => 0)]
  · simp [act, e, locOk, locR, St.setReg, key True (fun _ _ => 0)]
  · simp [act, e, locOk, locR, St.setVar]
    funext t' r; exact keep t' r
  · simp [act, e, locOk, locR, St.setReg, key True (fun _ _ => 0)]
  · simp [act, e, locOk, locR, St.setReg, key True (fun _ _ => 0)]
  · simp [act, e, locOk, locR, St.setReg, key True (fun _ _ => 0)]
  · by_cases h0 : s.regs t i.b.toNat = 0
    · simp [act, e, locOk, locR, h0]
      funext t' r; exact keep t' r
    · simp [act, e, locOk, locR, h0, St.setReg, key True (fun _ _ => 0)]
  · by_cases h0 : s.regs t i.a.toNat = 0
    · simp [act, e, locOk, locR, h0, St.setNext]
      funext t' r; exact keep t' r
    · simp [act, e, locOk, locR, h0]
      funext t' r; exact keep t' r
  · simp [act, e, locOk, locR, St.setLock]
    funext t' r; exact keep t' r
  · by_cases h0 : s.held i.a.toNat = true ∧ s.own i.a.toNat = t
    · simp [act, e, locOk, locR, h0, St.setLock]
      funext t' r; exact keep t' r
    · have h1 : ¬ (s.held i.a.toNat = true ∧ s.own i.a.toNat = t) := h0
      have h2 : ∀ l, ¬ (l = i.a.toNat ∧ s.held i.a.toNat = true ∧ s.own i.a.toNat = t) := fun l h => h1 h.2
      simp [act, e, locOk, locR, h1]
      funext t' r; exact keep t' r
  · obtain ⟨e1, e2, e3, e4, e5, e6, e7, e8, e9, e10⟩ := e
    have h1 : ¬ (1 ≤ i.op ∧ i.op ≤ 9) := by omega
    simp only [act, locOk, locR, e1, e2, e3, e4, e5, e6, e7, e8, e9, e10, if_false, h1, false_and, and_false]
    refine ⟨trivial, trivial, trivial, trivial, ?_, trivial⟩
    funext t' r
    simp only [ite_self]; exact keep t' r

/-- What an instruction has to do with what threads share: 0 nothing, 1 a lock, 2 reads a variable, 3 writes one; which. -/
def tou (i : Ins) : Nat × Nat := if i.op = 9 ∨ i.op = 10 then (1, i.a.toNat) else if i.op = 2 then (2, i.b.toNat) else if i.op = 3 then (3, i.a.toNat) else (0, 0)
def clash (x y : Nat × Nat) : Bool := x.1 != 0 && y.1 != 0 && x.2 == y.2 && ((x.1 == 1) == (y.1 == 1)) && !(x.1 == 2 && y.1 == 2)

/-- A step that was done, or failed. -/
structure Ev where
  t : Nat
  k : Int
  bad : Bool

def depE (p : List (List Ins)) (x y : Ev) : Bool := x.bad || y.bad || x.t == y.t || clash (tou (insAt p x.t x.k)) (tou (insAt p y.t y.k))
theorem clash_symm (x y : Nat × Nat) : clash x y = clash y x := by
  unfold clash
  rw [Bool.eq_iff_iff]
  simp only [Bool.and_eq_true, bne_iff_ne, beq_iff_eq, Bool.not_eq_true', Bool.and_eq_false_iff]
  constructor
  · rintro ⟨⟨⟨⟨a, b⟩, c⟩, e⟩, f⟩; exact ⟨⟨⟨⟨b, a⟩, c.symm⟩, e.symm⟩, f.symm⟩
  · rintro ⟨⟨⟨⟨a, b⟩, c⟩, e⟩, f⟩; exact ⟨⟨⟨⟨b, a⟩, c.symm⟩, e.symm⟩, f.symm⟩
theorem depE_symm (p : List (List Ins)) (x y : Ev) : depE p x y = depE p y x := by
  unfold depE
  rw [clash_symm, Bool.or_comm x.bad y.bad]
  congr 2
  rw [Bool.eq_iff_iff]; simp; exact eq_comm

def goes (p : List (List Ins)) (s : St) (x : Ev) : Prop := x.t < p.length ∧ readyB p s x.t = true ∧ s.next x.t = x.k ∧ (stepS p s x.t).1 = !x.bad
def RunE (p : List (List Ins)) : St → List Ev → St → Prop
  | s, [], s' => s' = s
  | s, x :: r, s' => goes p s x ∧ RunE p (stepS p s x.t).2 r s'

/-- What a step leaves. -/
theorem step_parts (p : List (List Ins)) (s : St) (t : Nat) (i : Ins) (hi : insAt p t (s.next t) = i) :
    (stepS p s t).1 = locOk t i (s.regs t) (s.held i.a.toNat) (s.own i.a.toNat) ∧
    (stepS p s t).2.vars = (fun x => if i.op = 3 ∧ x = i.a.toNat then s.regs t i.b.toNat else s.vars x) ∧
    (stepS p s t).2.held = (fun l => if i.op = 9 ∧ l = i.a.toNat then true else if i.op = 10 ∧ l = i.a.toNat ∧ s.held i.a.toNat = true ∧ s.own i.a.toNat = t then false else s.held l) ∧
    (stepS p s t).2.own = (fun l => if i.op = 9 ∧ l = i.a.toNat then (t : Int) else if i.op = 10 ∧ l = i.a.toNat ∧ s.held i.a.toNat = true ∧ s.own i.a.toNat = t then 0 else s.own l) ∧
    (stepS p s t).2.regs = (fun t' r => if t' = t then locR i (s.regs t) (s.vars i.b.toNat) r else s.regs t' r) ∧
    (stepS p s t).2.next = (fun t' => if t' = t then (if i.op = 8 ∧ s.regs t i.a.toNat = 0 then i.n else s.next t + 1) else s.next t') := by
  subst hi
  obtain ⟨h1, h2, h3, h4, h5, h6⟩ := act_parts t (insAt p t (s.next t)) (s.setNext t (s.next t + 1))
  refine ⟨h1, h2, h3, h4, h5, ?_⟩
  unfold stepS
  rw [h6]
  funext t'
  simp only [St.setNext]
  by_cases e : t' = t
  · simp [e]
  · simp [e]

theorem St.eq_of {s s' : St} (h1 : s.vars = s'.vars) (h2 : s.held = s'.held) (h3 : s.own = s'.own) (h4 : s.regs = s'.regs) (h5 : s.next = s'.next) : s = s' := by
  cases s; cases s'; simp at *; exact ⟨h1, h2, h3, h4, h5⟩

theorem locR_val (i : Ins) (R : Nat → Int) (v v' : Int) (h : i.op = 2 → v = v') : locR i R v = locR i R v' := by
  funext r
  unfold locR
  by_cases e : i.op = 2
  · rw [h e]
  · simp [e]
theorem locOk_val (t : Nat) (i : Ins) (R : Nat → Int) (h h' : Bool) (o o' : Int) (e : i.op = 10 → h = h' ∧ o = o') : locOk t i R h o = locOk t i R h' o' := by
  unfold locOk
  by_cases e1 : i.op = 10
  · rw [(e e1).1, (e e1).2]
  · simp [e1]

/-- Two steps that have nothing to do with one another change places. -/
theorem step_swap {p : List (List Ins)} {s : St} {x y : Ev} (hx : goes p s x) (hy : goes p (stepS p s x.t).2 y) (hd : depE p x y = false) :
    goes p s y ∧ goes p (stepS p s y.t).2 x ∧ (stepS p (stepS p s y.t).2 x.t).2 = (stepS p (stepS p s x.t).2 y.t).2 := by
  obtain ⟨x1, x2, x3, x4⟩ := hx
  obtain ⟨y1, y2, y3, y4⟩ := hy
  have hne : x.t ≠ y.t := by
    intro e; simp [depE, e] at hd
  have hcl : clash (tou (insAt p x.t x.k)) (tou (insAt p y.t y.k)) = false := by
    cases hc : clash (tou (insAt p x.t x.k)) (tou (insAt p y.t y.k)) with
    | false => rfl
    | true => simp [depE, hc] at hd
  generalize hxi : insAt p x.t x.k = i at *
  generalize hyi : insAt p y.t y.k = j at *
  have hxs : insAt p x.t (s.next x.t) = i := by rw [x3]; exact hxi
  obtain ⟨a1, a2, a3, a4, a5, a6⟩ := step_parts p s x.t i hxs
  generalize hs1 : (stepS p s x.t).2 = s1 at *
  have hn1 : s1.next y.t = s.next y.t := by rw [a6]; simp [Ne.symm hne]
  rw [hn1] at y3
  have hys : insAt p y.t (s.next y.t) = j := by rw [y3]; exact hyi
  obtain ⟨b1, b2, b3, b4, b5, b6⟩ := step_parts p s1 y.t j (by rw [hn1]; exact hys)
  obtain ⟨c1, c2, c3, c4, c5, c6⟩ := step_parts p s y.t j hys
  generalize hs2 : (stepS p s y.t).2 = s2 at *
  have hn2 : s2.next x.t = s.next x.t := by rw [c6]; simp [hne]
  obtain ⟨d1, d2, d3, d4, d5, d6⟩ := step_parts p s2 x.t i (by rw [hn2]; exact hxs)
  have r1 : s1.regs y.t = s.regs y.t := by rw [a5]; simp [Ne.symm hne]
  have r2 : s2.regs x.t = s.regs x.t := by rw [c5]; simp [hne]
  -- what they share
  have hl : ¬ ((i.op = 9 ∨ i.op = 10) ∧ (j.op = 9 ∨ j.op = 10) ∧ i.a.toNat = j.a.toNat) := by
    rintro ⟨h1, h2, h3⟩
    simp [clash, tou, h1, h2, h3] at hcl
  have hss : ¬ (i.op = 3 ∧ j.op = 3 ∧ i.a.toNat = j.a.toNat) := by
    rintro ⟨h1, h2, h3⟩
    simp [clash, tou, h1, h2, h3] at hcl
  have hsl : ¬ (i.op = 3 ∧ j.op = 2 ∧ i.a.toNat = j.b.toNat) := by
    rintro ⟨h1, h2, h3⟩
    simp [clash, tou, h1, h2, h3] at hcl
  have hls : ¬ (i.op = 2 ∧ j.op = 3 ∧ i.b.toNat = j.a.toNat) := by
    rintro ⟨h1, h2, h3⟩
    simp [clash, tou, h1, h2, h3] at hcl
  have v1 : j.op = 2 → s1.vars j.b.toNat = s.vars j.b.toNat := fun e => by
    rw [a2]; simp only; rw [if_neg]; rintro ⟨h1, h2⟩; exact hsl ⟨h1, e, h2.symm⟩
  have v2 : i.op = 2 → s2.vars i.b.toNat = s.vars i.b.toNat := fun e => by
    rw [c2]; simp only; rw [if_neg]; rintro ⟨h1, h2⟩; exact hls ⟨e, h1, h2⟩
  have l1 : (j.op = 9 ∨ j.op = 10) → s1.held j.a.toNat = s.held j.a.toNat ∧ s1.own j.a.toNat = s.own j.a.toNat := fun e => by
    have n1 : ¬ (i.op = 9 ∧ j.a.toNat = i.a.toNat) := fun h => hl ⟨Or.inl h.1, e, h.2.symm⟩
    have n2 : ¬ (i.op = 10 ∧ j.a.toNat = i.a.toNat ∧ s.held i.a.toNat = true ∧ s.own i.a.toNat = x.t) := fun h => hl ⟨Or.inr h.1, e, h.2.1.symm⟩
    rw [a3, a4]; simp only; rw [if_neg n1, if_neg n2, if_neg n1, if_neg n2]; exact ⟨rfl, rfl⟩
  have l2 : (i.op = 9 ∨ i.op = 10) → s2.held i.a.toNat = s.held i.a.toNat ∧ s2.own i.a.toNat = s.own i.a.toNat := fun e => by
    have n1 : ¬ (j.op = 9 ∧ i.a.toNat = j.a.toNat) := fun h => hl ⟨e, Or.inl h.1, h.2⟩
    have n2 : ¬ (j.op = 10 ∧ i.a.toNat = j.a.toNat ∧ s.held j.a.toNat = true ∧ s.own j.a.toNat = y.t) := fun h => hl ⟨e, Or.inr h.1, h.2.1⟩
    rw [c3, c4]; simp only; rw [if_neg n1, if_neg n2, if_neg n1, if_neg n2]; exact ⟨rfl, rfl⟩
  have lx : i.op = 10 → s2.held i.a.toNat = s.held i.a.toNat ∧ s2.own i.a.toNat = s.own i.a.toNat := fun e => l2 (Or.inr e)
  have ly : j.op = 10 → s1.held j.a.toNat = s.held j.a.toNat ∧ s1.own j.a.toNat = s.own j.a.toNat := fun e => l1 (Or.inr e)
  have ry : readyB p s y.t = true := by
    unfold readyB doneB at y2 ⊢
    rw [hn1, hys] at y2
    rw [hys]
    by_cases e : j.op = 9
    · rw [(l1 (Or.inl e)).1] at y2; exact y2
    · simpa [e] using y2
  have rx : readyB p s2 x.t = true := by
    unfold readyB doneB at x2 ⊢
    rw [hxs] at x2
    rw [hn2, hxs]
    by_cases e : i.op = 9
    · rw [(l2 (Or.inl e)).1]; exact x2
    · simpa [e] using x2
  have oy : locOk y.t j (s1.regs y.t) (s1.held j.a.toNat) (s1.own j.a.toNat) = locOk y.t j (s.regs y.t) (s.held j.a.toNat) (s.own j.a.toNat) := by
    rw [r1]; exact locOk_val _ _ _ _ _ _ _ ly
  have ox : locOk x.t i (s2.regs x.t) (s2.held i.a.toNat) (s2.own i.a.toNat) = locOk x.t i (s.regs x.t) (s.held i.a.toNat) (s.own i.a.toNat) := by
    rw [r2]; exact locOk_val _ _ _ _ _ _ _ lx
  refine ⟨⟨y1, ry, y3, ?_⟩, ⟨x1, rx, by rw [hn2]; exact x3, ?_⟩, St.eq_of ?_ ?_ ?_ ?_ ?_⟩
  · rw [c1, ← oy, ← b1]; exact y4
  · rw [d1, ox, ← a1]; exact x4
  · funext v
    rw [d2, b2]
    simp only
    by_cases e1 : i.op = 3 ∧ v = i.a.toNat
    · have e2 : ¬ (j.op = 3 ∧ v = j.a.toNat) := fun h => hss ⟨e1.1, h.1, by rw [← e1.2]; exact h.2⟩
      rw [if_pos e1, if_neg e2, r2, a2]
      simp only
      rw [if_pos e1]
    · rw [if_neg e1, r1, c2]
      simp only
      by_cases e2 : j.op = 3 ∧ v = j.a.toNat
      · rw [if_pos e2, if_pos e2]
      · rw [if_neg e2, if_neg e2, a2]; simp only; rw [if_neg e1]
  · funext l
    by_cases e1 : (i.op = 9 ∨ i.op = 10) ∧ l = i.a.toNat
    · have n1 : ¬ (j.op = 9 ∧ l = j.a.toNat) := fun h => hl ⟨e1.1, Or.inl h.1, by rw [← e1.2]; exact h.2⟩
      have n2 : ∀ q : Prop, ¬ (j.op = 10 ∧ l = j.a.toNat ∧ q) := fun q h => hl ⟨e1.1, Or.inr h.1, by rw [← e1.2]; exact h.2.1⟩
      have h2 : s2.held l = s.held l := by rw [c3]; simp only; rw [if_neg n1, if_neg (n2 _)]
      rw [d3, b3]
      simp only
      rw [if_neg n1, if_neg (n2 _), h2, a3]
      simp only
      rw [(l2 e1.1).1, (l2 e1.1).2]
    · have n1 : ¬ (i.op = 9 ∧ l = i.a.toNat) := fun h => e1 ⟨Or.inl h.1, h.2⟩
      have n2 : ∀ q : Prop, ¬ (i.op = 10 ∧ l = i.a.toNat ∧ q) := fun q h => e1 ⟨Or.inr h.1, h.2.1⟩
      have h1 : s1.held l = s.held l := by rw [a3]; simp only; rw [if_neg n1, if_neg (n2 _)]
      rw [d3, b3]
      simp only
      rw [if_neg n1, if_neg (n2 _), h1, c3]
      simp only
      by_cases e2 : j.op = 9 ∨ j.op = 10
      · rw [(l1 e2).1, (l1 e2).2]
      · have m1 : ¬ j.op = 9 := fun h => e2 (Or.inl h)
        have m2 : ¬ j.op = 10 := fun h => e2 (Or.inr h)
        simp [m1, m2]
  · funext l
    by_cases e1 : (i.op = 9 ∨ i.op = 10) ∧ l = i.a.toNat
    · have n1 : ¬ (j.op = 9 ∧ l = j.a.toNat) := fun h => hl ⟨e1.1, Or.inl h.1, by rw [← e1.2]; exact h.2⟩
      have n2 : ∀ q : Prop, ¬ (j.op = 10 ∧ l = j.a.toNat ∧ q) := fun q h => hl ⟨e1.1, Or.inr h.1, by rw [← e1.2]; exact h.2.1⟩
      have h2 : s2.own l = s.own l := by rw [c4]; simp only; rw [if_neg n1, if_neg (n2 _)]
      rw [d4, b4]
      simp only
      rw [if_neg n1, if_neg (n2 _), h2, a4]
      simp only
      rw [(l2 e1.1).1, (l2 e1.1).2]
    · have n1 : ¬ (i.op = 9 ∧ l = i.a.toNat) := fun h => e1 ⟨Or.inl h.1, h.2⟩
      have n2 : ∀ q : Prop, ¬ (i.op = 10 ∧ l = i.a.toNat ∧ q) := fun q h => e1 ⟨Or.inr h.1, h.2.1⟩
      have h1 : s1.own l = s.own l := by rw [a4]; simp only; rw [if_neg n1, if_neg (n2 _)]
      rw [d4, b4]
      simp only
      rw [if_neg n1, if_neg (n2 _), h1, c4]
      simp only
      by_cases e2 : j.op = 9 ∨ j.op = 10
      · rw [(l1 e2).1, (l1 e2).2]
      · have m1 : ¬ j.op = 9 := fun h => e2 (Or.inl h)
        have m2 : ¬ j.op = 10 := fun h => e2 (Or.inr h)
        simp [m1, m2]
  · funext t' r
    rw [d5, b5]
    simp only
    by_cases e1 : t' = x.t
    · subst e1
      rw [if_pos rfl, if_neg hne, r2, locR_val i _ _ _ v2, a5]
      simp
    · rw [if_neg e1, c5, r1, locR_val j _ _ _ v1]
      simp only
      by_cases e2 : t' = y.t
      · simp [e2]
      · rw [if_neg e2, if_neg e2, a5]; simp [e1]
  · funext t'
    rw [d6, b6]
    simp only
    by_cases e1 : t' = x.t
    · subst e1
      rw [if_pos rfl, if_neg hne, r2, hn2, a6]
      simp
    · rw [if_neg e1, c6, r1, hn1]
      simp only
      by_cases e2 : t' = y.t
      · simp [e2]
      · rw [if_neg e2, if_neg e2, a6]; simp [e1]

theorem RunE.append {p : List (List Ins)} : ∀ {a b : List Ev} {s s' : St}, RunE p s (a ++ b) s' ↔ ∃ s1, RunE p s a s1 ∧ RunE p s1 b s'
  | [], b, s, s' => by simp [RunE]
  | x :: a, b, s, s' => by
    simp only [List.cons_append, RunE, RunE.append (a := a)]
    constructor
    · rintro ⟨h1, s1, h2, h3⟩; exact ⟨s1, ⟨h1, h2⟩, h3⟩
    · rintro ⟨s1, ⟨h1, h2⟩, h3⟩; exact ⟨h1, s1, h2, h3⟩

/-- A run of steps, some of which changed places. -/
theorem RunE.eqv {p : List (List Ins)} {s s' : St} {xs ys : List Ev} (h : Eqv (depE p) xs ys) : RunE p s xs s' → RunE p s ys s' := by
  refine h (fun xs ys => RunE p s xs s' → RunE p s ys s') (fun _ => id) (fun a x y b h1 h2 => ?_) (fun _ _ _ i1 i2 h => i2 (i1 h))
  show RunE p s (a ++ x :: y :: b) s' → RunE p s (a ++ y :: x :: b) s'
  rw [RunE.append, RunE.append]
  rintro ⟨s1, ha, hx, hy, hb⟩
  obtain ⟨g1, g2, g3⟩ := step_swap hx hy h1
  exact ⟨s1, ha, g1, g2, by rw [g3]; exact hb⟩

end Go.Proofs.YtklenjmfalljgaaDoor

/- A run's steps, and the form of a schedule: it runs to the same, and is its own (no dump is named here). -/
namespace Go.Proofs.YtklenjmfalljgaaDoor

def Ev.tI (e : Ev) : Int := (e.t : Int)
def Ev.pr (e : Ev) : Int × Int := ((e.t : Int), e.k)
def evG (x : Int × Int) : Ev := ⟨x.1.toNat, x.2, false⟩
def evB (x : Int × Int) : Ev := ⟨x.1.toNat, x.2, true⟩
def good (xs : List Ev) : Prop := ∀ e ∈ xs, e.bad = false

/-- The steps of a run; the last one failed, if the run did. -/
def evsOf (o : Out) : List Ev := if o.kind = 1 then o.steps.dropLast.map evG ++ (o.steps.getLast?.map evB).toList else o.steps.map evG

theorem evG_pr {e : Ev} (h : e.bad = false) : evG e.pr = e := by cases e; simp [evG, Ev.pr] at *; exact h
theorem evB_pr {e : Ev} (h : e.bad = true) : evB e.pr = e := by cases e; simp [evB, Ev.pr] at *; exact h
theorem evG_all {xs : List Ev} (h : good xs) : (xs.map Ev.pr).map evG = xs := by
  induction xs with
  | nil => rfl
  | cons x r ih =>
    simp only [List.map_cons]
    rw [evG_pr (h x (List.mem_cons_self ..)), ih (fun e he => h e (List.mem_cons_of_mem _ he))]
theorem evsOf_good {o : Out} {xs : List Ev} (hk : o.kind ≠ 1) (hs : o.steps = xs.map Ev.pr) (h : good xs) : evsOf o = xs := by
  unfold evsOf; rw [if_neg hk, hs, evG_all h]
theorem evsOf_bad {o : Out} {ys : List Ev} {z : Ev} (hk : o.kind = 1) (hs : o.steps = (ys ++ [z]).map Ev.pr) (h : good ys) (hz : z.bad = true) : evsOf o = ys ++ [z] := by
  unfold evsOf; rw [if_pos hk, hs]; simp [evG_all h, evB_pr hz]

theorem goes_ok {p : List (List Ins)} {s : St} {x : Ev} (h : goes p s x) : okAt p s x.tI = true := by
  obtain ⟨h1, h2, _⟩ := h
  simp [okAt, belowB, Ev.tI, h1, h2]

/-- What a run is, by its steps. -/
theorem follow_cases (p : List (List Ins)) : ∀ (l : List Int) (i : Int) (s : St) (acc : List (Int × Int)), ∃ xs s', RunE p s xs s' ∧ (follow p l i s acc).steps = acc ++ xs.map Ev.pr ∧ (follow p l i s acc).st = s' ∧
    ((good xs ∧ xs.map Ev.tI = l ∧ (follow p l i s acc).kind = endingS p s' ∧ (follow p l i s acc).thread = 0 ∧ (follow p l i s acc).at_ = 0) ∨
     (good xs ∧ (∃ u r, l = xs.map Ev.tI ++ u :: r ∧ okAt p s' u = false) ∧ (follow p l i s acc).kind = 2 ∧ (follow p l i s acc).thread = 0 ∧ (follow p l i s acc).at_ = i + xs.length) ∨
     (∃ ys z r, xs = ys ++ [z] ∧ good ys ∧ z.bad = true ∧ l = xs.map Ev.tI ++ r ∧ (follow p l i s acc).kind = 1 ∧ (follow p l i s acc).thread = z.tI ∧ (follow p l i s acc).at_ = z.k))
  | [], i, s, acc => ⟨[], s, rfl, by simp [follow], rfl, Or.inl ⟨by simp [good], rfl, rfl, rfl, rfl⟩⟩
  | t :: r, i, s, acc => by
    by_cases h1 : okAt p s t = true
    · have hb : 0 ≤ t ∧ t < p.length ∧ readyB p s t.toNat = true := by
        simp [okAt, belowB] at h1; exact ⟨h1.1.1, h1.1.2, h1.2⟩
      obtain ⟨hb1, hb2, hb3⟩ := hb
      have ht : ((t.toNat : Nat) : Int) = t := by omega
      by_cases h2 : (stepS p s t.toNat).1 = true
      · obtain ⟨xs, s', hr, hs, hst, hc⟩ := follow_cases p r (i + 1) (stepS p s t.toNat).2 (acc ++ [(t, s.next t.toNat)])
        rw [follow_go p t r i s acc h1 h2]
        have hg : goes p s ⟨t.toNat, s.next t.toNat, false⟩ := ⟨by simp only; omega, hb3, rfl, by simpa using h2⟩
        refine ⟨⟨t.toNat, s.next t.toNat, false⟩ :: xs, s', ⟨hg, hr⟩, ?_, hst, ?_⟩
        · rw [hs]; simp [Ev.pr, ht]
        · have hgood : ∀ {zs : List Ev}, good zs → good (⟨t.toNat, s.next t.toNat, false⟩ :: zs) := fun h e he => by
            rcases List.mem_cons.1 he with he | he
            · rw [he]
            · exact h e he
          rcases hc with ⟨g1, g2, g3, g4, g5⟩ | ⟨g1, ⟨u, r', g2, g2'⟩, g3, g4, g5⟩ | ⟨ys, z, r', g1, g2, g3, g4, g5, g6, g7⟩
          · exact Or.inl ⟨hgood g1, by simp [Ev.tI, ht]; exact g2, g3, g4, g5⟩
          · exact Or.inr (Or.inl ⟨hgood g1, ⟨u, r', by simp [Ev.tI, ht]; exact g2, g2'⟩, g3, g4, by rw [g5]; simp; omega⟩)
          · exact Or.inr (Or.inr ⟨⟨t.toNat, s.next t.toNat, false⟩ :: ys, z, r', by rw [g1]; rfl, hgood g2, g3, by simp [Ev.tI, ht]; exact g4, g5, g6, g7⟩)
      · have h3 : (stepS p s t.toNat).1 = false := by simpa using h2
        rw [follow_fail p t r i s acc h1 h3]
        refine ⟨[⟨t.toNat, s.next t.toNat, true⟩], _, ⟨⟨by simp only; omega, hb3, rfl, by simpa using h3⟩, rfl⟩, by simp [Ev.pr, ht], rfl, Or.inr (Or.inr ⟨[], _, r, rfl, by simp [good], rfl, by simp [Ev.tI, ht], rfl, by simp [Ev.tI, ht], rfl⟩)⟩
    · have h3 : okAt p s t = false := by simpa using h1
      rw [follow_wrong p t r i s acc h3]
      exact ⟨[], s, rfl, by simp, rfl, Or.inr (Or.inl ⟨by simp [good], ⟨t, r, rfl, h3⟩, rfl, rfl, by simp⟩)⟩

theorem follow_of_good (p : List (List Ins)) : ∀ (xs : List Ev) (l : List Int) (i : Int) (s s' : St) (acc : List (Int × Int)), good xs → RunE p s xs s' → follow p (xs.map Ev.tI ++ l) i s acc = follow p l (i + xs.length) s' (acc ++ xs.map Ev.pr)
  | [], l, i, s, s', acc, _, h => by cases h; simp
  | x :: r, l, i, s, s', acc, hg, ⟨h1, h2⟩ => by
    have hb := hg x (List.mem_cons_self ..)
    have hok := goes_ok h1
    obtain ⟨g1, g2, g3, g4⟩ := h1
    have e1 : x.tI.toNat = x.t := by simp [Ev.tI]
    rw [List.map_cons, List.cons_append, follow_go p _ _ i s acc hok (by rw [e1, g4, hb]; rfl), e1, follow_of_good p r l (i + 1) _ s' _ (fun e he => hg e (List.mem_cons_of_mem _ he)) h2]
    congr 1
    · simp; omega
    · simp [Ev.pr, Ev.tI, g3]

theorem follow_good {p : List (List Ins)} {xs : List Ev} {i : Int} {s s' : St} {acc : List (Int × Int)} (hg : good xs) (h : RunE p s xs s') : follow p (xs.map Ev.tI) i s acc = ⟨acc ++ xs.map Ev.pr, endingS p s', 0, 0, s'⟩ := by
  have := follow_of_good p xs [] i s s' acc hg h
  rw [List.append_nil] at this
  rw [this]; rfl
theorem follow_bad {p : List (List Ins)} {ys : List Ev} {z : Ev} {i : Int} {s s' : St} {acc : List (Int × Int)} (hg : good ys) (hz : z.bad = true) (h : RunE p s (ys ++ [z]) s') : follow p ((ys ++ [z]).map Ev.tI) i s acc = ⟨acc ++ (ys ++ [z]).map Ev.pr, 1, z.tI, z.k, s'⟩ := by
  rw [RunE.append] at h
  obtain ⟨s1, h1, h2, h3⟩ := h
  have hok := goes_ok h2
  obtain ⟨g1, g2, g3, g4⟩ := h2
  have e1 : z.tI.toNat = z.t := by simp [Ev.tI]
  rw [List.map_append, follow_of_good p ys _ i s s1 acc hg h1, List.map_cons, List.map_nil, follow_fail p _ _ _ s1 _ hok (by rw [e1, g4, hz]; rfl), e1, g3]
  cases h3
  simp [Ev.pr, Ev.tI]

/-- Pairs of a layer and a thread, put in order. -/
def insK (x : Nat × Nat) : List (Nat × Nat) → List (Nat × Nat)
  | [] => [x]
  | y :: r => if x.1 < y.1 ∨ (x.1 = y.1 ∧ x.2 ≤ y.2) then x :: y :: r else y :: insK x r
def sortK : List (Nat × Nat) → List (Nat × Nat)
  | [] => []
  | x :: r => insK x (sortK r)
def leP (x y : Nat × Nat) : Prop := x.1 < y.1 ∨ (x.1 = y.1 ∧ x.2 ≤ y.2)
theorem insK_perm (x : Nat × Nat) : ∀ l, (insK x l).Perm (x :: l)
  | [] => List.Perm.refl _
  | y :: r => by
    unfold insK
    split
    · exact List.Perm.refl _
    · exact ((insK_perm x r).cons y).trans (List.Perm.swap _ _ _)
theorem sortK_perm : ∀ l, (sortK l).Perm l
  | [] => List.Perm.refl _
  | x :: r => (insK_perm x (sortK r)).trans ((sortK_perm r).cons x)
theorem insK_sorted (x : Nat × Nat) : ∀ l, l.Pairwise leP → (insK x l).Pairwise leP
  | [], _ => by simp [insK]
  | y :: r, h => by
    have h0 := h
    rw [List.pairwise_cons] at h
    unfold insK
    split
    · rename_i hxy
      rw [List.pairwise_cons]
      refine ⟨fun z hz => ?_, h0⟩
      rcases List.mem_cons.1 hz with hz | hz
      · subst hz; exact hxy
      · have := h.1 z hz
        unfold leP at *; omega
    · rename_i hxy
      rw [List.pairwise_cons]
      refine ⟨fun z hz => ?_, insK_sorted x r h.2⟩
      have hz' := (insK_perm x r).mem_iff.1 hz
      rcases List.mem_cons.1 hz' with hz' | hz'
      · subst hz'; unfold leP; omega
      · exact h.1 z hz'
theorem sortK_sorted : ∀ l, (sortK l).Pairwise leP
  | [] => List.Pairwise.nil
  | x :: r => insK_sorted x _ (sortK_sorted r)
theorem sortK_one {a b : List (Nat × Nat)} (h : a.Perm b) (hb : b.Pairwise leP) : sortK a = b := sorted_one ((sortK_perm a).trans h) (sortK_sorted a) hb
theorem sortK_congr {a b : List (Nat × Nat)} (h : a.Perm b) : sortK a = sortK b := sortK_one (h.trans (sortK_perm b).symm) (sortK_sorted b)

def keyE (x : Ev × Nat) : Nat × Nat := (x.2, x.1.t)
def keysE (p : List (List Ins)) (xs : List Ev) : List (Nat × Nat) := (tl (depE p) [] xs).map keyE
def formE (p : List (List Ins)) (xs : List Ev) : List Int := (sortK (keysE p xs)).map fun x => (x.2 : Int)
/-- THE FORM of what a run did. -/
def formS (p : List (List Ins)) (o : Out) : List Int := formE p (evsOf o)

theorem formE_eqv {p : List (List Ins)} {xs ys : List Ev} (h : Eqv (depE p) xs ys) : formE p xs = formE p ys := by
  unfold formE keysE; rw [sortK_congr (h.labels.map keyE)]
theorem formE_sorted {p : List (List Ins)} {ys : List Ev} (h : (tl (depE p) [] ys).Pairwise (leK Ev.t)) : formE p ys = ys.map Ev.tI := by
  have hp : (keysE p ys).Pairwise leP := by
    unfold keysE
    rw [List.pairwise_map]
    exact h.imp (fun {a b} hab => hab)
  unfold formE
  rw [sortK_one (List.Perm.refl _) hp]
  unfold keysE
  rw [List.map_map]
  have := tl_fst (depE p) [] ys
  conv => rhs; rw [← this, List.map_map]
  rfl
theorem formE_length (p : List (List Ins)) (xs : List Ev) : (formE p xs).length = xs.length := by
  unfold formE keysE
  rw [List.length_map, (sortK_perm _).length_eq, List.length_map, tl_length]

theorem good_perm {xs ys : List Ev} (h : xs.Perm ys) (hg : good xs) : good ys := fun e he => hg e (h.mem_iff.2 he)
theorem Eqv.perm {α : Type} {d : α → α → Bool} {xs ys : List α} (h : Eqv d xs ys) : xs.Perm ys := by
  have := h.labels.map (·.1)
  rwa [tl_fst, tl_fst] at this

/-- The form of a run none of whose steps failed. -/
theorem form_good {p : List (List Ins)} {xs : List Ev} {s' : St} (hg : good xs) (h : RunE p St.zero xs s') : ∃ ys, good ys ∧ RunE p St.zero ys s' ∧ formE p xs = ys.map Ev.tI ∧ formE p ys = formE p xs ∧ ys.length = xs.length := by
  obtain ⟨ys, h1, h2⟩ := sorted_of (d := depE p) Ev.t (depE_symm p) xs
  exact ⟨ys, good_perm h1.perm hg, RunE.eqv h1 h, by rw [formE_eqv h1, formE_sorted h2], (formE_eqv h1).symm, h1.perm.length_eq.symm⟩

/-- .. and of one whose last one did. -/
theorem form_bad {p : List (List Ins)} {us : List Ev} {z : Ev} {s' : St} (hg : good us) (hz : z.bad = true) (h : RunE p St.zero (us ++ [z]) s') :
    ∃ vs, good vs ∧ RunE p St.zero (vs ++ [z]) s' ∧ formE p (us ++ [z]) = (vs ++ [z]).map Ev.tI ∧ formE p (vs ++ [z]) = formE p (us ++ [z]) ∧ vs.length = us.length := by
  obtain ⟨ys, h1, h2⟩ := sorted_of (d := depE p) Ev.t (depE_symm p) (us ++ [z])
  have hne : ys ≠ [] := by
    intro e; subst e
    have := h1.perm.length_eq
    simp at this
  obtain ⟨vs, z', rfl⟩ : ∃ vs z', ys = vs ++ [z'] := ⟨ys.dropLast, ys.getLast hne, (List.dropLast_concat_getLast _).symm⟩
  have hlab := h1.labels
  rw [tl_snoc, tl_snoc] at hlab
  rw [tl_snoc, List.pairwise_append] at h2
  have hgt : ∀ q ∈ tl (depE p) [] us, q.2 + 1 ≤ layIn (depE p) (tl (depE p) [] us) z := fun q hq => layIn_ge (depE p) hq (by simp [depE, hz])
  generalize layIn (depE p) (tl (depE p) [] us) z = L at *
  generalize hl' : layIn (depE p) (tl (depE p) [] vs) z' = L' at *
  have hzz : z' = z := by
    have hm : (z', L') ∈ tl (depE p) [] us ++ [(z, L)] := hlab.mem_iff.2 (by simp)
    rcases List.mem_append.1 hm with hm | hm
    · exfalso
      have k1 := hgt _ hm
      have hm2 : (z, L) ∈ tl (depE p) [] vs ++ [(z', L')] := hlab.mem_iff.1 (by simp)
      rcases List.mem_append.1 hm2 with hm2 | hm2
      · have := h2.2.2 _ hm2 _ (List.mem_singleton.2 rfl)
        unfold leK at this
        simp only at this k1
        omega
      · simp at hm2
        simp only at k1
        omega
    · simp at hm
      exact hm.1
  subst hzz
  have hp : us.Perm vs := by
    have := h1.perm
    rwa [List.perm_append_right_iff] at this
  have h2' : (tl (depE p) [] (vs ++ [z'])).Pairwise (leK Ev.t) := by
    rw [tl_snoc, List.pairwise_append, hl']; exact h2
  exact ⟨vs, good_perm hp hg, RunE.eqv h1 h, by rw [formE_eqv h1, formE_sorted h2'], (formE_eqv h1).symm, hp.length_eq.symm⟩

/-- P8: the form of a schedule that is not wrong runs to the same, and is its own. -/
theorem formed_run {p : List (List Ins)} {a : List Int} (h : Sched p a) :
    (runS p (formS p (runS p a))).kind = (runS p a).kind ∧ (runS p (formS p (runS p a))).thread = (runS p a).thread ∧ (runS p (formS p (runS p a))).at_ = (runS p a).at_ ∧ (runS p (formS p (runS p a))).st = (runS p a).st ∧
    (runS p (formS p (runS p a))).steps.length = (runS p a).steps.length ∧ formS p (runS p (formS p (runS p a))) = formS p (runS p a) ∧ (formS p (runS p a)).length = a.length := by
  obtain ⟨h2, hlen⟩ := h
  have hc := follow_cases p a 0 St.zero []
  change ∃ xs s', RunE p St.zero xs s' ∧ (runS p a).steps = [] ++ xs.map Ev.pr ∧ (runS p a).st = s' ∧ ((good xs ∧ xs.map Ev.tI = a ∧ (runS p a).kind = endingS p s' ∧ (runS p a).thread = 0 ∧ (runS p a).at_ = 0) ∨ (good xs ∧ (∃ u r, a = xs.map Ev.tI ++ u :: r ∧ okAt p s' u = false) ∧ (runS p a).kind = 2 ∧ (runS p a).thread = 0 ∧ (runS p a).at_ = 0 + xs.length) ∨ (∃ ys z r, xs = ys ++ [z] ∧ good ys ∧ z.bad = true ∧ a = xs.map Ev.tI ++ r ∧ (runS p a).kind = 1 ∧ (runS p a).thread = z.tI ∧ (runS p a).at_ = z.k)) at hc
  obtain ⟨xs, s', hr, hs, hst, hc⟩ := hc
  rw [List.nil_append] at hs
  generalize hO : runS p a = o at *
  rcases hc with ⟨g1, g2, g3, g4, g5⟩ | ⟨_, _, g3, _⟩ | ⟨us, z, r, g1, g2, g3, g4, g5, g6, g7⟩
  · have hk1 : o.kind ≠ 1 := by have := endingS_range p s'; omega
    have he := evsOf_good hk1 hs g1
    obtain ⟨ys, f1, f2, f3, f4, f5⟩ := form_good g1 hr
    unfold formS
    rw [he, f3]
    have hrun : runS p (ys.map Ev.tI) = ⟨ys.map Ev.pr, endingS p s', 0, 0, s'⟩ := by unfold runS; rw [follow_good f1 f2]; simp
    rw [hrun]
    refine ⟨g3.symm, g4.symm, g5.symm, hst.symm, by rw [hs]; simpa using f5, ?_, by rw [← g2]; simpa using f5⟩
    rw [evsOf_good (xs := ys) (by have := endingS_range p s'; simp only; omega) rfl f1, f4, f3]
  · exact absurd g3 h2
  · subst g1
    have he := evsOf_bad g5 hs g2 g3
    obtain ⟨vs, f1, f2, f3, f4, f5⟩ := form_bad g2 g3 hr
    unfold formS
    rw [he, f3]
    have hrun : runS p ((vs ++ [z]).map Ev.tI) = ⟨(vs ++ [z]).map Ev.pr, 1, z.tI, z.k, s'⟩ := by unfold runS; rw [follow_bad f1 g3 f2]; simp
    rw [hrun]
    refine ⟨g5.symm, g6.symm, g7.symm, hst.symm, by rw [hs]; simpa using f5, ?_, ?_⟩
    · rw [evsOf_bad (ys := vs) (z := z) rfl rfl f1 g3, f4, f3]
    · rw [← hlen, hs]; simpa using f5

end Go.Proofs.YtklenjmfalljgaaDoor

/- Schedules made shorter, trial by trial (no dump is named here). -/
namespace Go.Proofs.YtklenjmfalljgaaDoor

/-- The same verdict (of a Wrong one the kind). -/
def likeV (a b : Out) : Bool := if a.kind = 2 then b.kind == 2 else (a.kind == b.kind && a.thread == b.thread && a.at_ == b.at_)
/-- One number left out. -/
def leftOut (l : List Int) (i : Nat) : List Int := l.take i ++ l.drop (i + 1)
/-- So many numbers of its schedule a run came to. -/
def cameTo (o : Out) : Nat := if o.kind = 2 then o.steps.length + 1 else o.steps.length

def shr (p : List (List Ins)) (V : Out) : Nat → List Int → Nat → Nat → List Int × Nat
  | 0, l, _, u => (l, u)
  | n + 1, l, i, u => if i < l.length then (if likeV (runS p (leftOut l i)) V = true then shr p V n (leftOut l i) 0 (u + 1) else shr p V n l (i + 1) (u + 1)) else (l, u)

def shortS (p : List (List Ins)) (s : List Int) (fuel : Nat) : List Int × Nat := shr p (runS p s) fuel (s.take (cameTo (runS p s))) 0 0

theorem leftOut_len {l : List Int} {i : Nat} (h : i < l.length) : (leftOut l i).length + 1 = l.length := by
  unfold leftOut; simp; omega

section
variable {p : List (List Ins)} {V : Out}
theorem shr_len : ∀ (n : Nat) (l : List Int) (i u : Nat), (shr p V n l i u).1.length ≤ l.length
  | 0, l, i, u => Nat.le_refl _
  | n + 1, l, i, u => by
    unfold shr
    split
    · rename_i hi
      have := leftOut_len hi
      split
      · have := shr_len n (leftOut l i) 0 (u + 1); omega
      · exact shr_len n l (i + 1) (u + 1)
    · exact Nat.le_refl _
theorem shr_used : ∀ (n : Nat) (l : List Int) (i u : Nat), u ≤ (shr p V n l i u).2 ∧ (shr p V n l i u).2 ≤ u + n
  | 0, l, i, u => ⟨Nat.le_refl _, Nat.le_refl _⟩
  | n + 1, l, i, u => by
    unfold shr
    split
    · split
      · have := shr_used n (leftOut l i) 0 (u + 1); omega
      · have := shr_used n l (i + 1) (u + 1); omega
    · exact ⟨Nat.le_refl _, by omega⟩
theorem shr_more : ∀ (m n : Nat) (l : List Int) (i u : Nat), m ≤ n → (shr p V n l i u).1.length ≤ (shr p V m l i u).1.length ∧ (shr p V m l i u).2 ≤ (shr p V n l i u).2
  | 0, n, l, i, u, _ => ⟨shr_len n l i u, (shr_used n l i u).1⟩
  | m + 1, 0, l, i, u, h => by omega
  | m + 1, n + 1, l, i, u, h => by
    unfold shr
    split
    · split
      · exact shr_more m n _ _ _ (by omega)
      · exact shr_more m n _ _ _ (by omega)
    · exact ⟨Nat.le_refl _, Nat.le_refl _⟩
theorem shr_like : ∀ (n : Nat) (l : List Int) (i u : Nat), likeV (runS p l) V = true → likeV (runS p (shr p V n l i u).1) V = true
  | 0, l, i, u, h => h
  | n + 1, l, i, u, h => by
    unfold shr
    split
    · split
      · exact shr_like n _ _ _ ‹_›
      · exact shr_like n _ _ _ h
    · exact h
/-- With fuel enough nothing can be left out. -/
theorem shr_enough : ∀ (n : Nat) (l : List Int) (i u : Nat), l.length * (l.length + 1) ≤ n + i → i ≤ u → i ≤ l.length → (∀ j, j < i → likeV (runS p (leftOut l j)) V = false) →
    (∀ j, j < (shr p V n l i u).1.length → likeV (runS p (leftOut (shr p V n l i u).1 j)) V = false) ∧ (shr p V n l i u).1.length ≤ (shr p V n l i u).2
  | 0, l, i, u, h, hu, hi, hj => by
    have hl : l.length = 0 ∨ l.length ≤ i := by
      rcases Nat.eq_zero_or_pos l.length with e | e
      · exact Or.inl e
      · right
        have : l.length * 1 ≤ l.length * (l.length + 1) := Nat.mul_le_mul_left _ (by omega)
        omega
    unfold shr
    exact ⟨fun j h1 => hj j (by simp only at h1; omega), by simp only; omega⟩
  | n + 1, l, i, u, h, hu, hi, hj => by
    unfold shr
    split
    · rename_i hlt
      have hlen := leftOut_len hlt
      split
      · refine shr_enough n _ 0 (u + 1) ?_ (by omega) (by omega) (fun j h1 => by omega)
        have e : l.length = (leftOut l i).length + 1 := hlen.symm
        rw [e] at h hlt
        have e2 : ((leftOut l i).length + 1) * ((leftOut l i).length + 1 + 1) = (leftOut l i).length * ((leftOut l i).length + 1) + 2 * ((leftOut l i).length + 1) := by
          generalize (leftOut l i).length = k
          rw [Nat.add_mul, Nat.mul_add k, Nat.mul_add k]; omega
        omega
      · rename_i hn
        refine shr_enough n l (i + 1) (u + 1) (by omega) (by omega) (by omega) (fun j h1 => ?_)
        by_cases e : j = i
        · subst e; simpa using hn
        · exact hj j (by omega)
    · rename_i hlt
      exact ⟨fun j h1 => hj j (by simp only at h1; omega), by simp only; omega⟩
end

/-- What was cut off was nothing to the run. -/
theorem run_cut (p : List (List Ins)) (s : List Int) : runS p (s.take (cameTo (runS p s))) = runS p s ∧ cameTo (runS p s) ≤ s.length := by
  have hc := follow_cases p s 0 St.zero []
  change ∃ xs s', RunE p St.zero xs s' ∧ (runS p s).steps = [] ++ xs.map Ev.pr ∧ (runS p s).st = s' ∧ ((good xs ∧ xs.map Ev.tI = s ∧ (runS p s).kind = endingS p s' ∧ (runS p s).thread = 0 ∧ (runS p s).at_ = 0) ∨ (good xs ∧ (∃ u r, s = xs.map Ev.tI ++ u :: r ∧ okAt p s' u = false) ∧ (runS p s).kind = 2 ∧ (runS p s).thread = 0 ∧ (runS p s).at_ = 0 + xs.length) ∨ (∃ ys z r, xs = ys ++ [z] ∧ good ys ∧ z.bad = true ∧ s = xs.map Ev.tI ++ r ∧ (runS p s).kind = 1 ∧ (runS p s).thread = z.tI ∧ (runS p s).at_ = z.k)) at hc
  obtain ⟨xs, s', hr, hs, hst, hc⟩ := hc
  rw [List.nil_append] at hs
  have hl : (runS p s).steps.length = xs.length := by rw [hs]; simp
  have eq_of : ∀ o : Out, o.steps = (runS p s).steps → o.kind = (runS p s).kind → o.thread = (runS p s).thread → o.at_ = (runS p s).at_ → o.st = (runS p s).st → o = runS p s := by
    intro o h1 h2 h3 h4 h5
    cases o
    generalize runS p s = q at *
    cases q
    simp at *; exact ⟨h1, h2, h3, h4, h5⟩
  rcases hc with ⟨g1, g2, g3, g4, g5⟩ | ⟨g1, ⟨u, r, g2, g2'⟩, g3, g4, g5⟩ | ⟨us, z, r, g1, g2, g3, g4, g5, g6, g7⟩
  · have hk : cameTo (runS p s) = s.length := by
      unfold cameTo
      rw [if_neg (by have := endingS_range p s'; omega), hl, ← g2]; simp
    rw [hk, List.take_length]
    exact ⟨rfl, Nat.le_refl _⟩
  · have hk : cameTo (runS p s) = xs.length + 1 := by unfold cameTo; rw [if_pos g3, hl]
    have ht : s.take (xs.length + 1) = xs.map Ev.tI ++ [u] := by
      rw [g2, List.take_append, List.take_of_length_le (by simp)]; simp
    rw [hk, ht]
    refine ⟨?_, by rw [g2]; simp⟩
    have e1 : runS p (xs.map Ev.tI ++ [u]) = ⟨xs.map Ev.pr, 2, 0, 0 + xs.length, s'⟩ := by
      unfold runS; rw [follow_of_good p xs [u] 0 St.zero s' [] g1 hr, follow_wrong p u [] _ _ _ g2']; simp
    rw [e1]
    exact eq_of _ hs.symm g3.symm g4.symm g5.symm hst.symm
  · have hk : cameTo (runS p s) = xs.length := by unfold cameTo; rw [if_neg (by omega), hl]
    have ht : s.take xs.length = xs.map Ev.tI := by
      rw [g4, List.take_append, List.take_of_length_le (by simp)]; simp
    rw [hk, ht]
    refine ⟨?_, by rw [g4]; simp⟩
    subst g1
    have e1 : runS p ((us ++ [z]).map Ev.tI) = ⟨(us ++ [z]).map Ev.pr, 1, z.tI, z.k, s'⟩ := by
      unfold runS; rw [follow_bad g2 g3 hr]; simp
    rw [e1]
    exact eq_of _ hs.symm g5.symm g6.symm g7.symm hst.symm

theorem likeV_refl (o : Out) : likeV o o = true := by
  unfold likeV; split
  · simpa using ‹_›
  · simp

/-- P7, P8: what Shorten tells. -/
theorem short_all (p : List (List Ins)) (s : List Int) (n m : Nat) (hn : s.length * (s.length + 1) ≤ n) (hm : m ≤ n) :
    (shortS p s n).1.length ≤ (shortS p s m).1.length ∧ (shortS p s m).1.length ≤ s.length ∧ (shortS p s n).1.length ≤ (shortS p s n).2 ∧ (shortS p s m).2 ≤ (shortS p s n).2 ∧ (shortS p s m).2 ≤ m ∧
    likeV (runS p (shortS p s n).1) (runS p s) = true ∧ likeV (runS p (shortS p s m).1) (runS p s) = true ∧ ∀ j, j < (shortS p s n).1.length → likeV (runS p (leftOut (shortS p s n).1 j)) (runS p s) = false := by
  obtain ⟨hc1, hc2⟩ := run_cut p s
  have hlen : (s.take (cameTo (runS p s))).length ≤ s.length := by simp; omega
  have hl0 : likeV (runS p (s.take (cameTo (runS p s)))) (runS p s) = true := by rw [hc1]; exact likeV_refl _
  have hb : (s.take (cameTo (runS p s))).length * ((s.take (cameTo (runS p s))).length + 1) ≤ n := Nat.le_trans (Nat.mul_le_mul hlen (by omega)) hn
  unfold shortS
  have h1 := shr_more (p := p) (V := runS p s) m n (s.take (cameTo (runS p s))) 0 0 hm
  have h2 := shr_len (p := p) (V := runS p s) m (s.take (cameTo (runS p s))) 0 0
  have h3 := shr_enough (p := p) (V := runS p s) n (s.take (cameTo (runS p s))) 0 0 (by omega) (by omega) (by omega) (fun j h => by omega)
  have h4 := shr_used (p := p) (V := runS p s) m (s.take (cameTo (runS p s))) 0 0
  exact ⟨h1.1, by omega, h3.2, h1.2, by omega, shr_like _ _ _ _ hl0, shr_like _ _ _ _ hl0, h3.1⟩

end Go.Proofs.YtklenjmfalljgaaDoor

/- The walk of SameVerdict. -/
namespace Go.Proofs.YtklenjmfalljgaaDoor
open Go.RowKit
attribute [local go_sem] Go.World.cell?_alloc_some

def verdV (o : Out) : Value := .agg #[.int .i64 o.kind, .int .i64 o.thread, .int .i64 o.at_]

set_option maxHeartbeats 1000000 in
set_option maxRecDepth 100000 in
theorem sameVerdict_m (a b : Out) (w : World) : Calls Tryd.prog 69 #[verdV a, verdV b] w fun e w' => e = .returned (.bool (likeV a b)) ∧ w.grownBy w' none := by
  obtain ⟨al, ak, av, aa, ast⟩ := a
  obtain ⟨bs, bk, bt, ba, bst⟩ := b
  unfold verdV
  simp only
  have HG : Hid (∀ x y, w.grownBy ((w.alloc x).alloc y) none) := fun x y => grown_alloc (grown_alloc (grown_refl _ _))
  by_cases h2 : ak = 2
  · by_cases h3 : bk = 2
    · have HE : Hid (likeV ⟨al, ak, av, aa, ast⟩ ⟨bs, bk, bt, ba, bst⟩ = true) := by unfold Hid likeV; simp [h2, h3]
      subst h2 h3
      go_enter Tryd.func69, Tryd.ntmps69
      go_wp2_with fail
      go_ret
      exact ⟨by rw [HE.out]; rfl, HG.out _ _⟩
    · have HE : Hid (likeV ⟨al, ak, av, aa, ast⟩ ⟨bs, bk, bt, ba, bst⟩ = false) := by unfold Hid likeV; simp [h2, h3]
      have hb : (bk == 2) = false := by simpa using h3
      subst h2
      clear h3
      go_enter Tryd.func69, Tryd.ntmps69
      go_wp2_with fail
      go_ret
      exact ⟨by rw [HE.out]; rfl, HG.out _ _⟩
  · have HE : Hid (likeV ⟨al, ak, av, aa, ast⟩ ⟨bs, bk, bt, ba, bst⟩ = (ak == bk && av == bt && aa == ba)) := by unfold Hid likeV; simp [h2]
    have ha : (ak == 2) = false := by simpa using h2
    clear h2
    go_enter Tryd.func69, Tryd.ntmps69
    go_wp2_with fail
    all_goals (go_ret; refine ⟨?_, HG.out _ _⟩; rw [HE.out]; simp [*])

end Go.Proofs.YtklenjmfalljgaaDoor

/- The walk of lengthOf. -/
namespace Go.Proofs.YtklenjmfalljgaaDoor
open Go.RowKit
attribute [local go_sem] Go.World.cell?_alloc_some

theorem rows_one {W : World} {x : Value} {l : List Int} {t : TypeId} {g : Nat} (hg : W.heap.size = g) (h : IntsAt W.heap.size W x l) (hn : nilOk x) : RowsAt (W.alloc (.cells #[x] t)) (.slice (some ⟨g, 0, none⟩) 1 1) [l] := by
  subst hg
  refine ⟨W.heap.size, 0, 1, rfl, by simp, fun k hk => ⟨x, ?_, ?_, hn⟩⟩
  · have hk0 : k = 0 := by simp at hk; omega
    subst hk0
    have h := heap_alloc_new W (.cells #[x] t)
    simp only [World.cell?, h]
    rfl
  · have hk0 : k = 0 := by simp at hk; omega
    subst hk0
    exact (h.pres (pres_grown (grown_alloc (grown_refl _ _)))).mono (by simp)
theorem rows_two {W : World} {x y : Value} {l m : List Int} {t : TypeId} {g : Nat} (hg : W.heap.size = g) (h : IntsAt W.heap.size W x l) (hn : nilOk x) (h' : IntsAt W.heap.size W y m) (hn' : nilOk y) : RowsAt (W.alloc (.cells #[x, y] t)) (.slice (some ⟨g, 0, none⟩) 2 2) [l, m] := by
  subst hg
  have hb := heap_alloc_new W (.cells #[x, y] t)
  have up : ∀ {v : Value} {l : List Int}, IntsAt W.heap.size W v l → IntsAt (W.alloc (.cells #[x, y] t)).heap.size (W.alloc (.cells #[x, y] t)) v l := fun h => (h.pres (pres_grown (grown_alloc (grown_refl _ _)))).mono (by simp)
  refine ⟨W.heap.size, 0, 2, rfl, by simp, fun k hk => ?_⟩
  have hk0 : k = 0 ∨ k = 1 := by simp at hk; omega
  rcases hk0 with rfl | rfl
  · exact ⟨x, by simp only [World.cell?, hb]; rfl, up h, hn⟩
  · exact ⟨y, by simp only [World.cell?, hb]; rfl, up h', hn'⟩

theorem MachAt.mono {B B' : Nat} {w : World} {m : Nat} {p : List (List Ins)} (H : MachAt B w m p) (hb : B ≤ B') : MachAt B' w m p := by
  obtain ⟨g, cap, h1, h2, h3, h4⟩ := H
  refine ⟨g, cap, by omega, by omega, h3, fun t ht => ?_⟩
  obtain ⟨v, k1, k2⟩ := h4 t ht
  exact ⟨v, k1, k2.mono hb⟩

theorem IntsAt.front {B : Nat} {w : World} {ao : Option Addr} {cap n : Nat} {l : List Int} (h : IntsAt B w (.slice ao l.length cap) l) (hn : n ≤ l.length) : IntsAt B w (.slice ao n cap) (l.take n) := by
  obtain ⟨a, c, e, h1, h2⟩ := h
  simp only [Value.slice.injEq, true_and] at e
  obtain ⟨rfl, rfl⟩ := e
  refine ⟨ao, cap, by simp [Nat.min_eq_left hn], by simp; omega, fun k hk => ?_⟩
  have hk' : k < l.length := by simp at hk; omega
  obtain ⟨g, o, e1, e2, e3⟩ := h2 k hk'
  exact ⟨g, o, e1, e2, by rw [List.getElem_take]; exact e3⟩

set_option maxHeartbeats 1000000 in
set_option maxRecDepth 100000 in
theorem lengthOf_m (o : Out) (w : World) (sao gao : Option Addr) (scp gl gc : Nat) (v0 v1 v2 v3 : Int) (hl : o.steps.length ≤ 1000) :
    Calls Tryd.prog 97 #[.agg #[.int .i64 o.kind, .int .i64 o.thread, .int .i64 o.at_, .slice sao o.steps.length scp, .int .i64 v0, .int .i64 v1, .int .i64 v2, .int .i64 v3, .slice gao gl gc]] w fun e w' => e = .returned (.int .i64 (cameTo o)) ∧ w.grownBy w' none := by
  have hl' : (o.steps.length : Int) ≤ 1000 := by omega
  by_cases h2 : o.kind = 2
  · have HE : Hid (((cameTo o : Nat) : Int) = o.steps.length + 1) := by unfold Hid cameTo; rw [if_pos h2]; simp
    rw [h2]
    go_enter Tryd.func97, Tryd.ntmps97
    go_wp2_with fail
    go_ret
    exact ⟨by rw [HE.out]; first | rfl | go_num, grown_alloc (grown_refl _ _)⟩
  · have HE : Hid (((cameTo o : Nat) : Int) = o.steps.length) := by unfold Hid cameTo; rw [if_neg h2]
    have hb : (o.kind == 2) = false := by simpa using h2
    clear h2
    go_enter Tryd.func97, Tryd.ntmps97
    go_wp2_with fail
    go_ret
    exact ⟨by rw [HE.out]; first | rfl | go_num, grown_alloc (grown_refl _ _)⟩

end Go.Proofs.YtklenjmfalljgaaDoor

/- A result's verdict, as a field of the value. -/
namespace Go.Proofs.YtklenjmfalljgaaDoor
open Go.RowKit

theorem run_field_verdict (k t a : Int) (sv gv : Value) (v0 v1 v2 v3 : Value) (w : World) : (Instr.field 37 (.agg #[.int .i64 k, .int .i64 t, .int .i64 a, sv, v0, v1, v2, v3, gv]) 0).run Tryd.prog w = .ok (.agg #[.int .i64 k, .int .i64 t, .int .i64 a]) w := by
  simp [Instr.field, run_underlying Tryd.underlying37, asAgg, part, Tryd.isAgg32, Tryd.sizeOf32]

end Go.Proofs.YtklenjmfalljgaaDoor

/- The walk of shorten.Schedule. -/
namespace Go.Proofs.YtklenjmfalljgaaDoor
open Go.RowKit
attribute [local go_sem] Go.World.cell?_alloc_some run_field_verdict

theorem follow_len (p : List (List Ins)) (l : List Int) : (runS p l).steps.length ≤ l.length := by
  obtain ⟨m, h1, h2, h3, _⟩ := follow_fst p l 0 St.zero []
  unfold runS
  simp at h3
  omega

def resCl (o : Out) (sv gv : Value) : Array Value := #[.int .i64 o.kind, .int .i64 o.thread, .int .i64 o.at_, sv, .int .i64 (o.st.vars 0), .int .i64 (o.st.vars 1), .int .i64 (o.st.vars 2), .int .i64 (o.st.vars 3), gv]

theorem drop_at {B : Nat} {w : World} {g cap i : Nat} {l : List Int} (h : IntsAt B w (.slice (some ⟨g, 0, none⟩) l.length cap) l) (hi : i < l.length) :
    IntsAt B w (.slice (some ⟨g, i + 1, none⟩) (l.length - (i + 1)) (cap - (i + 1))) (l.drop (i + 1)) := by
  obtain ⟨a, c, e, h1, h2⟩ := h
  simp only [Value.slice.injEq, true_and] at e
  obtain ⟨rfl, rfl⟩ := e
  refine ⟨some ⟨g, i + 1, none⟩, cap - (i + 1), by simp, by simp; omega, fun k hk => ?_⟩
  have hk' : i + 1 + k < l.length := by simp at hk; omega
  obtain ⟨g', o', e1, e2, e3⟩ := h2 (i + 1 + k) hk'
  simp only [Option.some.injEq, Addr.mk.injEq, and_true] at e1
  obtain ⟨rfl, rfl⟩ := e1
  refine ⟨g, i + 1, rfl, e2, ?_⟩
  rw [List.getElem_drop]
  simpa using e3
theorem grown_drewAlloc {w : World} {o : Obj} : w.grownBy (w.drew.alloc o) none := ⟨rfl, rfl, rfl, by simp, fun k hk _ => heap_alloc_old w.drew _ hk⟩
theorem grown_undrew {w w' : World} (h : w.drew.grownBy w' none) : w.grownBy w' none := ⟨h.os, h.tape, h.output, h.size, h.block⟩
theorem nil_at {B : Nat} {w : World} {a : Option Addr} {c : Nat} : IntsAt B w (.slice a 0 c) [] := ⟨a, c, rfl, Nat.zero_le _, fun k hk => by simp at hk⟩
theorem nilOk_some {a : Addr} {n c : Nat} : nilOk (.slice (some a) n c) := fun n' c' e => by simp at e

set_option maxHeartbeats 4000000 in
set_option maxRecDepth 100000 in
theorem short_m {m : Nat} {w : World} {p : List (List Ins)} {v : Value} {sch : List Int} {fuel : Int} (hp : vProg p = true) (hM : MachAt w.heap.size w m p) (hv : IntsAt w.heap.size w v sch) (hno : nilOk v) (h500 : sch.length ≤ 500)
    (hf0 : 0 ≤ fuel) (hf1 : fuel ≤ 9223372036854775807) :
    Calls Tryd.prog 65 #[.pointer (some ⟨m, 0, none⟩), v, .int .i64 fuel] w fun e w' => ∃ sv, e = .returned (.tuple #[sv, .int .i64 ((shortS p sch fuel.toNat).2 : Nat)]) ∧ w'.ownsRow w.heap.size 3 1 sv (shortS p sch fuel.toNat).1.length (ints (shortS p sch fuel.toNat).1) ∧ w.grownBy w' none := by
  have HP := hide hp
  have HM := hide hM
  have HV := hide hv
  have HN := hide hno
  obtain ⟨so, sc, rfl⟩ := hv.form
  have hcap : sch.length ≤ sc := by
    obtain ⟨a, c, e, h1, _⟩ := hv
    simp only [Value.slice.injEq] at e
    omega
  clear hp hM hv hno
  have HC := hide (run_cut p sch)
  go_enter Tryd.func65, Tryd.ntmps65
  go_wp2_with fail
  refine (run_m HP.out HM.out (Nat.le_refl _) HV.out h500).mono ?_
  rintro e w1 ⟨rv, rfl, ⟨sv, gv, rfl, ho1, ho2⟩, hg1⟩
  obtain ⟨x1, x2, x3, rfl⟩ := owns_form ho1
  obtain ⟨y1, y2, y3, rfl⟩ := owns_form ho2
  have hx2 := owns_lenq ho1
  subst hx2
  have HG1 := hide hg1
  have hln := follow_len p sch
  have hcl := HC.out.2
  have HSS : Hid (∀ n, shortS p sch n = shr p (runS p sch) n (sch.take (cameTo (runS p sch))) 0 0) := fun n => rfl
  clear ho1 ho2 hg1
  generalize hO : runS p sch = o at *
  clear hO
  have hl1 : o.steps.length ≤ 1000 := by omega
  have ec : ∃ cn : Nat, cn = cameTo o := ⟨_, rfl⟩
  obtain ⟨cn, hcn⟩ := ec
  rw [← hcn] at hcl HSS
  have HCN := hide hcn
  clear hcn
  have c0 : (cn : Int) ≤ sc := by omega
  have c1 : (0 : Int) ≤ (cn : Int) := by omega
  go_wp2_with (go_at_call 97; refine (lengthOf_m o _ _ _ _ _ _ _ _ _ _ hl1).mono ?_; rintro e w2 ⟨rfl, hg2⟩; rw [← HCN.out])
  have HG2 : Hid (w.grownBy w2 none) := grown_trans (grown_trans HG1.out (grown_alloc (grown_refl _ _))) hg2
  have hs1 : w1.heap.size < w2.heap.size := by have := hg2.size; simp at this; omega
  have HB2 : Hid (w2.heap[w1.heap.size]? = some (.cells (resCl o (.slice x1 o.steps.length x3) (.slice y1 y2 y3)) 37 (0, 0))) := by
    unfold Hid; rw [hg2.block _ (by simp) (by simp)]; exact heap_alloc_new w1 _
  have HM2 : Hid (MachAt w.heap.size w2 m p) := HM.out.grown' (Nat.le_refl _) HG2.out
  have HI2 : Hid (IntsAt w2.heap.size w2 (.slice so cn sc) (sch.take cn)) := ((HV.out.pres (pres_grown HG2.out)).mono HG2.out.size).front hcl
  have HN2 : Hid (nilOk (.slice so cn sc)) := fun n c e => by
    simp only [Value.slice.injEq] at e
    have := HN.out sch.length sc (by rw [e.1])
    omega
  clear hg2 HG1
  have hfl : ([sch.take cn] : List (List Int)).flatten = sch.take cn := by simp
  refine (concat_m [sch.take cn] _ _ (rows_one rfl HI2.out HN2.out) (by simp) (by rw [hfl]; simp; omega)).mono ?_
  rintro e w3 ⟨sv3, rfl, hown3, hg3⟩
  rw [hfl] at hown3
  obtain ⟨z1, z2, z3, rfl⟩ := owns_form hown3
  have HO3 : Hid (w3.ownsRow w.heap.size 3 1 (.slice z1 z2 z3) (sch.take cn).length (ints (sch.take cn))) := owns_mono hown3 (by have := HG2.out.size; simp; omega)
  have HG3 : Hid (w2.grownBy w3 none) := grown_trans (grown_alloc (grown_refl _ _)) hg3
  have hl0 : (sch.take cn).length ≤ 500 := by simp; omega
  clear hown3 hg3 HI2 HN2 hfl
  go_wp2_with fail
  go_loopw [9, 10, 11] (fun sv r iv w' => ∃ (l : List Int) (i u : Nat), r = .int .i64 u ∧ iv = .int .i64 i ∧ l.length ≤ 500 ∧ i ≤ l.length ∧ (u : Int) ≤ fuel ∧ Hid (w'.ownsRow w.heap.size 3 1 sv l.length (ints l)) ∧ Hid (w2.grownBy w' none) ∧ Hid (shr p o (fuel.toNat - u) l i u = shr p o fuel.toNat (sch.take cn) 0 0)) (fun _ r _ _ => fuel.toNat - (intOf r).toNat)
  case atStart => exact ⟨sch.take cn, 0, 0, rfl, rfl, hl0, Nat.zero_le _, by omega, HO3, HG3, rfl⟩
  case round =>
    clear HO3 HG3
    obtain ⟨l, i, u, rfl, rfl, hl5, hil, hu, HO, HG, HS⟩ := hrel
    obtain ⟨w5, hw5⟩ : ∃ w5, w5 = wr := ⟨_, rfl⟩
    rw [← hw5] at HO HG ⊢
    clear hw5
    have q0 : (0 : Int) ≤ (i : Int) := by omega
    have q1 : (0 : Int) ≤ (u : Int) := by omega
    have q2 : (l.length : Int) ≤ 500 := by omega
    by_cases hgo : i < l.length ∧ (u : Int) < fuel
    · obtain ⟨hlt, huf⟩ := hgo
      obtain ⟨gg, gc, hvv⟩ : ∃ gg gc, u9 = .slice (some ⟨gg, 0, none⟩) l.length gc := by
        rcases HO.out.2 with ⟨_, e⟩ | ⟨gg, gc, _, e, _⟩
        · omega
        · exact ⟨gg, gc, e⟩
      subst hvv
      have HI5 := hide (owns_ints HO.out)
      have hcp : l.length ≤ gc := by
        obtain ⟨a, c, e, h1, _⟩ := HI5.out
        simp only [Value.slice.injEq] at e
        omega
      have q3 : (i : Int) < l.length := by omega
      have q4 : (i : Int) ≤ gc := by omega
      have q5 : (i : Int) + 1 ≤ l.length := by omega
      have q6 : (l.length : Int) ≤ gc := by omega
      have hnx : fuel.toNat - u = (fuel.toNat - (u + 1)) + 1 := by omega
      have HST : Hid (shr p o fuel.toNat (sch.take cn) 0 0 = if likeV (runS p (leftOut l i)) o = true then shr p o (fuel.toNat - (u + 1)) (leftOut l i) 0 (u + 1) else shr p o (fuel.toNat - (u + 1)) l (i + 1) (u + 1)) := by
        unfold Hid
        rw [← HS.out, hnx, shr, if_pos hlt]
      have hll := leftOut_len hlt
      clear HS hnx
      go_upto_region 7 with fail
      have HA : Hid (IntsAt w5.drew.heap.size w5.drew (.slice (some ⟨gg, 0, none⟩) i gc) (l.take i)) := HI5.out.front (by omega)
      go_cut [12] (fun tv w' => Hid (w'.ownsRow w.heap.size 3 1 tv (leftOut l i).length (ints (leftOut l i)) ∧ w5.grownBy w' none))
      case first =>
        have hwr : IntKind.i64.wrap ((i : Int) + 1) = (i : Int) + 1 := by rw [IntKind.wrap_i64]; omega
        have htn : ((i : Int) + 1).toNat = i + 1 := by omega
        by_cases hsk : gc - (i + 1) = 0
        · have HD : Hid (IntsAt w5.drew.heap.size w5.drew (.slice (some ⟨gg, 0, none⟩) (l.length - (i + 1)) 0) (l.drop (i + 1))) := by
            have e1 : l.drop (i + 1) = [] := List.drop_of_length_le (by omega)
            have e2 : l.length - (i + 1) = 0 := by omega
            unfold Hid; rw [e1, e2]; exact nil_at
          have HGC : Hid (gc = i + 1) := by unfold Hid; omega
          refine wp_region_head (fun _ => True) 9 (by kernel_rfl) (by kernel_rfl) trivial ?_
          intro hHeld
          refine wpHead_take (i := 0) (v := ?vva0) rfl (by kernel_rfl) (fun _ _ _ h => h) (Or.inl ⟨by rfl, ?hya0⟩) hHeld ?resta0
          case hya0 => (intro u hu; go_simp; try with_reducible rfl)
          simp only [Act.put, List.setIfInBounds_toArray]
          refine wpHead_take (i := 1) (v := ?vva1) rfl (by kernel_rfl) (fun _ _ _ h => h) (Or.inl ⟨by rfl, ?hya1⟩) hHeld ?resta1
          case hya1 => (intro u hu; go_simp; try with_reducible rfl)
          simp only [Act.put]
          refine wpHead_take (i := 2) (v := ?vva2) rfl (by kernel_rfl) (fun _ _ _ h => h) (Or.inl ⟨by rfl, ?hya2⟩) hHeld ?resta2
          case hya2 => (intro u hu; go_simp; try with_reducible rfl)
          simp only [Act.put]
          refine wpHead_take (i := 3) (v := ?vva3) rfl (by kernel_rfl) (fun _ _ _ h => h) (Or.inl ⟨by rfl, ?hya3⟩) hHeld ?resta3
          case hya3 => (intro u hu; go_simp; try with_reducible rfl)
          simp only [Act.put]
          refine wpHead_take (i := 4) (v := ?vva4) rfl (by kernel_rfl) (fun _ _ _ h => h) (Or.inl ⟨by rfl, ?hya4⟩) hHeld ?resta4
          case hya4 => (intro u hu; go_simp; try with_reducible rfl)
          simp only [Act.put]
          refine wpHead_take (i := 5) (v := .int .i64 ((i : Int) + 1)) rfl (by kernel_rfl) (fun _ _ _ h => h) (Or.inl ⟨by rfl, ?hya5⟩) hHeld ?resta5
          case hya5 => (intro u hu; go_simp; try rw [hwr])
          simp only [Act.put]
          refine wpHead_take (i := 6) (v := .slice (some ⟨gg, 0, none⟩) (l.length - (i + 1)) 0) rfl (by kernel_rfl) (fun _ _ _ h => h) (Or.inl ⟨by rfl, ?hya6⟩) hHeld ?resta6
          case hya6 => (intro u hu; have hgc := HGC.out; go_simp; first | done | (intro h; exfalso; omega))
          simp only [Act.put]
          refine wpHead_alone (i := 7) rfl (by kernel_rfl) (by kernel_rfl) (by rfl) ?_
          intro K7 hK7
          have HK7 := hide hK7
          clear hK7
          go_simp
          refine HK7.out _ _ trivial ?_
          clear HK7
          try simp only [Act.put, List.setIfInBounds_toArray]
          refine wpHead_alone (i := 8) rfl (by kernel_rfl) (by kernel_rfl) (by rfl) ?_
          intro K8 hK8
          have HK8 := hide hK8
          clear hK8
          go_simp
          refine (concat_m [l.take i, l.drop (i + 1)] _ _ (rows_two (W := w5.drew) rfl HA.out nilOk_some HD.out nilOk_some) (by simp) (by simp; omega)).mono ?_
          rintro e w6 ⟨tv, rfl, hown6, hg6⟩
          have hfl : ([l.take i, l.drop (i + 1)] : List (List Int)).flatten = leftOut l i := by simp [leftOut]
          rw [hfl] at hown6
          refine HK8.out _ _ trivial ?_
          clear HK8
          try simp only [Act.put, List.setIfInBounds_toArray]
          refine wpHead_last rfl (by kernel_rfl) (by kernel_rfl) (by rfl) ?_
          go_simp
          go_wp2
          go_meet
          exact ⟨owns_mono hown6 (by have := HG2.out.size; have := HG.out.size; simp; omega), grown_trans grown_drewAlloc hg6⟩
        · have HD : Hid (IntsAt w5.drew.heap.size w5.drew (.slice (some ⟨gg, i + 1, none⟩) (l.length - (i + 1)) (gc - (i + 1))) (l.drop (i + 1))) := drop_at HI5.out hlt
          have HGC : Hid (¬ gc = i + 1) := by unfold Hid; omega
          refine wp_region_head (fun _ => True) 9 (by kernel_rfl) (by kernel_rfl) trivial ?_
          intro hHeld
          refine wpHead_take (i := 0) (v := ?vvb0) rfl (by kernel_rfl) (fun _ _ _ h => h) (Or.inl ⟨by rfl, ?hyb0⟩) hHeld ?restb0
          case hyb0 => (intro u hu; go_simp; try with_reducible rfl)
          simp only [Act.put, List.setIfInBounds_toArray]
          refine wpHead_take (i := 1) (v := ?vvb1) rfl (by kernel_rfl) (fun _ _ _ h => h) (Or.inl ⟨by rfl, ?hyb1⟩) hHeld ?restb1
          case hyb1 => (intro u hu; go_simp; try with_reducible rfl)
          simp only [Act.put]
          refine wpHead_take (i := 2) (v := ?vvb2) rfl (by kernel_rfl) (fun _ _ _ h => h) (Or.inl ⟨by rfl, ?hyb2⟩) hHeld ?restb2
          case hyb2 => (intro u hu; go_simp; try with_reducible rfl)
          simp only [Act.put]
          refine wpHead_take (i := 3) (v := ?vvb3) rfl (by kernel_rfl) (fun _ _ _ h => h) (Or.inl ⟨by rfl, ?hyb3⟩) hHeld ?restb3
          case hyb3 => (intro u hu; go_simp; try with_reducible rfl)
          simp only [Act.put]
          refine wpHead_take (i := 4) (v := ?vvb4) rfl (by kernel_rfl) (fun _ _ _ h => h) (Or.inl ⟨by rfl, ?hyb4⟩) hHeld ?restb4
          case hyb4 => (intro u hu; go_simp; try with_reducible rfl)
          simp only [Act.put]
          refine wpHead_take (i := 5) (v := .int .i64 ((i : Int) + 1)) rfl (by kernel_rfl) (fun _ _ _ h => h) (Or.inl ⟨by rfl, ?hyb5⟩) hHeld ?restb5
          case hyb5 => (intro u hu; go_simp; try rw [hwr])
          simp only [Act.put]
          refine wpHead_take (i := 6) (v := .slice (some ⟨gg, i + 1, none⟩) (l.length - (i + 1)) (gc - (i + 1))) rfl (by kernel_rfl) (fun _ _ _ h => h) (Or.inl ⟨by rfl, ?hyb6⟩) hHeld ?restb6
          case hyb6 => (intro u hu; have hgc := HGC.out; go_simp; first | done | (intro h; exfalso; omega))
          simp only [Act.put]
          refine wpHead_alone (i := 7) rfl (by kernel_rfl) (by kernel_rfl) (by rfl) ?_
          intro K7 hK7
          have HK7 := hide hK7
          clear hK7
          go_simp
          refine HK7.out _ _ trivial ?_
          clear HK7
          try simp only [Act.put, List.setIfInBounds_toArray]
          refine wpHead_alone (i := 8) rfl (by kernel_rfl) (by kernel_rfl) (by rfl) ?_
          intro K8 hK8
          have HK8 := hide hK8
          clear hK8
          go_simp
          refine (concat_m [l.take i, l.drop (i + 1)] _ _ (rows_two (W := w5.drew) rfl HA.out nilOk_some HD.out nilOk_some) (by simp) (by simp; omega)).mono ?_
          rintro e w6 ⟨tv, rfl, hown6, hg6⟩
          have hfl : ([l.take i, l.drop (i + 1)] : List (List Int)).flatten = leftOut l i := by simp [leftOut]
          rw [hfl] at hown6
          refine HK8.out _ _ trivial ?_
          clear HK8
          try simp only [Act.put, List.setIfInBounds_toArray]
          refine wpHead_last rfl (by kernel_rfl) (by kernel_rfl) (by rfl) ?_
          go_simp
          go_wp2
          go_meet
          exact ⟨owns_mono hown6 (by have := HG2.out.size; have := HG.out.size; simp; omega), grown_trans grown_drewAlloc hg6⟩
      case rest =>
      obtain ⟨hown6, hg6⟩ := hcut
      obtain ⟨w6, hw6⟩ : ∃ w6, w6 = wc := ⟨_, rfl⟩
      rw [← hw6] at hown6 hg6 ⊢
      clear hw6 HA
      obtain ⟨t1, t2, t3, rfl⟩ := owns_form hown6
      have ht2 := owns_lenq hown6
      subst ht2
      have HO6 := hide hown6
      have HG5 := hide hg6
      have HG6 : Hid (w2.grownBy w6 none) := grown_trans HG.out hg6
      have hb6 : w6.heap[w1.heap.size]? = some (.cells (resCl o (.slice x1 o.steps.length x3) (.slice y1 y2 y3)) 37 (0, 0)) := by
        rw [HG6.out.block _ hs1 (by simp)]; exact HB2.out
      have k0 : w6.cell? ⟨w1.heap.size, 0, none⟩ = some (.int .i64 o.kind) := by simp only [World.cell?, hb6]; rfl
      have k1 : w6.cell? ⟨w1.heap.size, 1, none⟩ = some (.int .i64 o.thread) := by simp only [World.cell?, hb6]; rfl
      have k2 : w6.cell? ⟨w1.heap.size, 2, none⟩ = some (.int .i64 o.at_) := by simp only [World.cell?, hb6]; rfl
      have HM6 : Hid (MachAt w6.drew.heap.size w6.drew m p) := (HM2.out.grown' HG2.out.size HG6.out).mono (Nat.le_trans HG2.out.size HG6.out.size)
      have HI6 : Hid (IntsAt w6.drew.heap.size w6.drew (.slice t1 (leftOut l i).length t3) (leftOut l i)) := owns_ints HO6.out
      have h56 : (leftOut l i).length ≤ 500 := by omega
      clear hown6 hg6 hb6
      go_upto_region 8 with fail
      refine wp_region_head (fun u => u.cell? ⟨w1.heap.size, 0, none⟩ = some (.int .i64 o.kind) ∧ u.cell? ⟨w1.heap.size, 1, none⟩ = some (.int .i64 o.thread) ∧ u.cell? ⟨w1.heap.size, 2, none⟩ = some (.int .i64 o.at_)) 6 (by kernel_rfl) (by kernel_rfl) ⟨k0, k1, k2⟩ ?_
      intro hHeld
      refine wpHead_take (i := 0) (v := ?vvc0) rfl (by kernel_rfl) (fun _ _ _ h => h) (Or.inl ⟨by rfl, ?hyc0⟩) hHeld ?restc0
      case hyc0 => (rintro u ⟨hu0, hu1, hu2⟩; go_simp; try with_reducible rfl)
      simp only [Act.put, List.setIfInBounds_toArray]
      refine wpHead_take (i := 1) (v := ?vvc1) rfl (by kernel_rfl) (fun _ _ _ h => h) (Or.inl ⟨by rfl, ?hyc1⟩) hHeld ?restc1
      case hyc1 => (rintro u ⟨hu0, hu1, hu2⟩; go_simp; try with_reducible rfl)
      simp only [Act.put]
      refine wpHead_take (i := 4) (v := ?vvc4) rfl (by kernel_rfl) (fun _ _ _ h => h) (Or.inl ⟨by rfl, ?hyc4⟩) hHeld ?restc4
      case hyc4 => (rintro u ⟨hu0, hu1, hu2⟩; go_simp; try with_reducible rfl)
      simp only [Act.put]
      refine wpHead_take (i := 5) (v := ?vvc5) rfl (by kernel_rfl) (fun _ _ _ h => h) (Or.inl ⟨by rfl, ?hyc5⟩) hHeld ?restc5
      case hyc5 => (rintro u ⟨hu0, hu1, hu2⟩; go_simp; try with_reducible rfl)
      simp only [Act.put]
      refine wpHead_alone (i := 2) rfl (by kernel_rfl) (by kernel_rfl) (by rfl) ?_
      intro K2 hK2
      have HK2 := hide hK2
      clear hK2
      go_simp
      refine (run_m HP.out HM6.out (Nat.le_refl _) HI6.out h56).mono ?_
      rintro e w7 ⟨rv7, rfl, ⟨sv7, gv7, rfl, hs7, hr7⟩, hg7⟩
      obtain ⟨sa7, sb7, sc7, rfl⟩ := owns_form hs7
      obtain ⟨ra7, rb7, rc7, rfl⟩ := owns_form hr7
      clear hs7 hr7
      have HG7 : Hid (w6.grownBy w7 none) := grown_undrew hg7
      have hHeld7 : w7.cell? ⟨w1.heap.size, 0, none⟩ = some (.int .i64 o.kind) ∧ w7.cell? ⟨w1.heap.size, 1, none⟩ = some (.int .i64 o.thread) ∧ w7.cell? ⟨w1.heap.size, 2, none⟩ = some (.int .i64 o.at_) := ⟨pres_grown HG7.out _ _ k0, pres_grown HG7.out _ _ k1, pres_grown HG7.out _ _ k2⟩
      refine HK2.out _ _ hHeld7 ?_
      clear HK2 hg7
      try simp only [Act.put, List.setIfInBounds_toArray]
      refine wpHead_take (i := 3) (v := ?vvd3) rfl (by kernel_rfl) (fun _ _ _ h => h) (Or.inl ⟨by rfl, ?hyd3⟩) hHeld7 ?restd3
      case hyd3 => (rintro u ⟨hu0, hu1, hu2⟩; go_simp; try with_reducible rfl)
      simp only [Act.put, List.setIfInBounds_toArray]
      refine wpHead_last rfl (by kernel_rfl) (by kernel_rfl) (by rfl) ?_
      go_simp
      refine (sameVerdict_m (runS p (leftOut l i)) o w7).mono ?_
      rintro e w8 ⟨rfl, hg8⟩
      have HG8 : Hid (w6.grownBy w8 none) := grown_trans HG7.out hg8
      clear hg8 hHeld hHeld7 HG7 k0 k1 k2
      have q7 : (u : Int) + 1 ≤ 9223372036854775807 := by omega
      cases hlk : likeV (runS p (leftOut l i)) o
      · have HS2 : Hid (shr p o (fuel.toNat - (u + 1)) l (i + 1) (u + 1) = shr p o fuel.toNat (sch.take cn) 0 0) := by
          unfold Hid; rw [HST.out, hlk]; simp
        clear hlk
        go_wp2_with fail
        go_roundw
        case rel => exact ⟨l, i + 1, u + 1, by go_num, by go_num, hl5, by omega, by omega, owns_grown (owns_grown HO.out HG5.out (fun _ e => by cases e)) HG8.out (fun _ e => by cases e), grown_trans HG6.out HG8.out, HS2⟩
        case measure => simp [intOf]; omega
      · have HS2 : Hid (shr p o (fuel.toNat - (u + 1)) (leftOut l i) 0 (u + 1) = shr p o fuel.toNat (sch.take cn) 0 0) := by
          unfold Hid; rw [HST.out, hlk]; simp
        clear hlk
        go_wp2_with fail
        go_roundw
        case rel => exact ⟨leftOut l i, 0, u + 1, by go_num, rfl, h56, by omega, by omega, owns_grown HO6.out HG8.out (fun _ e => by cases e), grown_trans HG6.out HG8.out, HS2⟩
        case measure => simp [intOf]; omega
    · have HE : Hid (shr p o fuel.toNat (sch.take cn) 0 0 = (l, u)) := by
        unfold Hid
        rw [← HS.out]
        cases hn : fuel.toNat - u with
        | zero => rfl
        | succ n => rw [shr, if_neg (fun h => hgo ⟨h, by omega⟩)]
      have HFIN : Hid (shortS p sch fuel.toNat = (l, u)) := by unfold Hid; rw [HSS.out, HE.out]
      obtain ⟨b1, b2, b3, rfl⟩ := owns_form HO.out
      have hb2 := owns_lenq HO.out
      subst hb2
      by_cases hlt : i < l.length
      · have q3 : (i : Int) < l.length := by omega
        have q4 : fuel ≤ (u : Int) := by omega
        go_wp2_with fail
        rw [HFIN.out]
        exact bodyPost_ret (v := .tuple #[.slice b1 l.length b3, .int .i64 u]) (by simp [results, Tryd.results65, go_sem]) rfl ⟨_, rfl, HO.out, grown_trans HG2.out HG.out⟩
      · have q3 : (l.length : Int) ≤ (i : Int) := by omega
        go_wp2_with fail
        rw [HFIN.out]
        exact bodyPost_ret (v := .tuple #[.slice b1 l.length b3, .int .i64 u]) (by simp [results, Tryd.results65, go_sem]) rfl ⟨_, rfl, HO.out, grown_trans HG2.out HG.out⟩

end Go.Proofs.YtklenjmfalljgaaDoor

/- The walk of Shorten. -/
namespace Go.Proofs.YtklenjmfalljgaaDoor
open Go.RowKit
attribute [local go_sem] Go.World.cell?_alloc_some

/-- What Shorten answers. -/
def Shortened (p : List (List Ins)) (s : List Int) (fuel : Int) (w : World) (e : Ending) (w' : World) : Prop :=
  w.grownBy w' none ∧
  ((checkRunN p s = 0 ∧ 0 ≤ fuel ∧ ∃ sv, e = .returned (.tuple #[sv, .int .i64 ((shortS p s fuel.toNat).2 : Nat), .int .i64 0]) ∧ w'.ownsRow w.heap.size 3 1 sv (shortS p s fuel.toNat).1.length (ints (shortS p s fuel.toNat).1)) ∨
   (checkRunN p s = 0 ∧ fuel < 0 ∧ e = .returned (.tuple #[.slice none 0 0, .int .i64 0, .int .i64 2])) ∨
   (checkRunN p s ≠ 0 ∧ e = .returned (.tuple #[.slice none 0 0, .int .i64 0, .int .i64 (checkRunN p s)])))

theorem check_zero {p : List (List Ins)} {s : List Int} (h0 : checkRunN p s = 0) : vProg p = true ∧ s.length ≤ 500 := by
  unfold checkRunN at h0
  by_cases hv : vProg p = true
  · by_cases h5 : s.length ≤ 500
    · exact ⟨hv, h5⟩
    · simp [hv, h5] at h0
  · simp [hv] at h0

set_option maxHeartbeats 4000000 in
set_option maxRecDepth 100000 in
theorem shorten_m (p : List (List Ins)) (s : List Int) (pv sv : Value) (fuel : Int) (w : World) (hS : ShpAt w) (hP : ProgAt w pv p) (hI : IntsAt w.heap.size w sv s) (hno : nilOk sv) (hf1 : fuel ≤ 9223372036854775807) :
    Calls Tryd.prog 28 #[pv, sv, .int .i64 fuel] w (Shortened p s fuel w) := by
  have HSh := hide hS
  have HP := hide hP
  have HI := hide hI
  have HN := hide hno
  obtain ⟨ao, cap, rfl⟩ := hP.form
  obtain ⟨so, sc, rfl⟩ := hI.form
  clear hS hP hI hno
  go_enter Tryd.func28, Tryd.ntmps28
  go_wp2_with fail
  have hg0 : ∀ a b, w.grownBy ((w.alloc a).alloc b) none := fun a b => grown_alloc (grown_alloc (grown_refl _ _))
  refine (checkRun_m p [s] _ _ _ (HSh.out.pres (pres_grown (hg0 _ _))) (HP.out.pres (pres_grown (hg0 _ _))) (lists_one (by simp)) (by simp)).mono ?_
  rw [checkRuns_one]
  rintro e w1 ⟨rfl, hg1⟩
  have HG1 : Hid (w.grownBy w1 none) := grown_trans (hg0 _ _) hg1
  have hb0 : w1.heap[w.heap.size]? = some (.cells #[.slice ao p.length cap] 25 (0, 0)) := by
    rw [hg1.block w.heap.size (by simp; omega) (by simp), Below.heap_alloc _ _ _ (by simp)]; exact heap_alloc_new w _
  have c0 : w1.cell? ⟨w.heap.size, 0, none⟩ = some (.slice ao p.length cap) := by simp [World.cell?, hb0]
  clear hb0 hg1
  by_cases h0 : checkRunN p s = 0
  · have H0 := hide h0
    obtain ⟨hv, h5⟩ := check_zero h0
    have HV := hide hv
    rw [h0]
    clear h0 hv
    by_cases hf : fuel < 0
    · go_wp2_with fail
      exact bodyPost_ret (v := .tuple #[.slice none 0 0, .int .i64 0, .int .i64 2]) (by simp [results, Tryd.results28, go_sem]) rfl ⟨HG1.out, Or.inr (Or.inl ⟨H0.out, hf, rfl⟩)⟩
    · have hf0 : 0 ≤ fuel := by omega
      go_wp2_with fail
      refine (new_m HV.out (HP.out.pres (pres_grown HG1.out))).mono ?_
      rintro e w2 ⟨m, rfl, hM, hg2⟩
      have HM := hide hM
      have HG2 : Hid (w.grownBy w2 none) := grown_trans HG1.out hg2
      clear hM hg2 c0
      go_wp2_with fail
      refine (short_m HV.out HM.out ((HI.out.pres (pres_grown HG2.out)).mono HG2.out.size) HN.out h5 hf0 hf1).mono ?_
      rintro e w3 ⟨rv, rfl, hown3, hg3⟩
      obtain ⟨r1, r2, r3, rfl⟩ := owns_form hown3
      have HO3 := hide hown3
      have HG3 : Hid (w.grownBy w3 none) := grown_trans HG2.out hg3
      clear hown3 hg3
      go_wp2_with fail
      exact bodyPost_ret (v := .tuple #[.slice r1 r2 r3, .int .i64 ((shortS p s fuel.toNat).2 : Nat), .int .i64 0]) (by simp [results, Tryd.results28, go_sem]) rfl ⟨HG3.out, Or.inl ⟨H0.out, hf0, _, rfl, owns_mono HO3.out HG2.out.size⟩⟩
  · have H0 := hide h0
    have hne : (checkRunN p s != 0) = true := by simpa using h0
    clear h0
    generalize hE : checkRunN p s = e at *
    have HE := hide hE
    clear hE
    go_wp2_with fail
    exact bodyPost_ret (v := .tuple #[.slice none 0 0, .int .i64 0, .int .i64 e]) (by simp [results, Tryd.results28, go_sem]) rfl ⟨HG1.out, Or.inr (Or.inr ⟨by rw [HE.out]; exact H0.out, by rw [HE.out]⟩)⟩

end Go.Proofs.YtklenjmfalljgaaDoor

/- The walk of the reference's Shorten. -/
namespace Go.Proofs.YtklenjmfalljgaaDoor
open Go.RowKit
attribute [local go_sem] Go.World.cell?_alloc_some

theorem ints_ofS {B : Nat} {w : World} {ao : Option Addr} {cap n : Nat} {l : List Int} (h : IntsAt B w (.slice ao n cap) l) : ∀ b, ao = some b → ∀ j u, (ints l)[j]? = some u → w.cell? (b.add j) = some u := by
  rintro b rfl j u hj
  obtain ⟨a, c, e, _, h2⟩ := h
  have hl := (List.getElem?_eq_some_iff.1 hj).1
  rw [ints_len] at hl
  obtain ⟨g', o', e1, e2, e3⟩ := h2 j hl
  simp only [Value.slice.injEq] at e
  rw [e1] at e
  simp only [Option.some.injEq] at e
  obtain ⟨rfl, _⟩ := e
  have hadd : (⟨g', o', none⟩ : Addr).add j = ⟨g', o' + j, none⟩ := by unfold Addr.add; split <;> simp_all
  rw [hadd, e3]
  have : (ints l)[j]? = some (.int .i64 l[j]) := by simp [ints, hl]
  rw [this] at hj; exact hj
theorem grown_dnS {w : World} (n : Nat) : w.grownBy (w.drewN n) none := grown_of_like (by have := like_drewN w n; exact this)
theorem like_test (a b : Out) : likeV a b = ((a.kind == b.kind && (a.thread == b.thread && a.at_ == b.at_)) || (a.kind == 2 && b.kind == 2)) := by
  unfold likeV
  by_cases h : a.kind = 2
  · rw [if_pos h, h]
    by_cases h2 : b.kind = 2
    · simp [h2]
    · have h3 : ((2 : Int) == b.kind) = false := by simp; omega
      have h4 : (b.kind == 2) = false := by simpa using h2
      simp [h3, h4]
  · have h4 : (a.kind == 2) = false := by simpa using h
    rw [if_neg h, h4]
    simp [Bool.and_assoc]

set_option maxHeartbeats 4000000 in
set_option maxRecDepth 100000 in
theorem refshorten_m (p : List (List Ins)) (s : List Int) (pv sv : Value) (fuel : Int) (w : World) (hP : ProgAt w pv p) (hI : IntsAt w.heap.size w sv s) (hno : nilOk sv) (hf1 : fuel ≤ 9223372036854775807) (hpl : p.length ≤ 1048576) (hpc : ∀ c ∈ p, c.length ≤ 1048576) :
    Calls Tryd.prog 66 #[pv, sv, .int .i64 fuel] w (Shortened p s fuel w) := by
  obtain ⟨i0, hi0, hz0, hz1, hz2⟩ := info_parts info_int
  have HP := hide hP
  have HI := hide hI
  have HN := hide hno
  have HPC := hide hpc
  obtain ⟨ao, cap, rfl⟩ := hP.form
  obtain ⟨so, sc, rfl⟩ := hI.form
  have hcap : s.length ≤ sc := by
    obtain ⟨a, c, e, h1, _⟩ := hI
    simp only [Value.slice.injEq] at e
    omega
  clear hP hI hno hpc
  go_enter Tryd.func66, Tryd.ntmps66
  go_wp2_with fail
  have hg0 : ∀ a, w.grownBy (w.alloc a) none := fun a => grown_alloc (grown_refl _ _)
  refine (refcheck_m p _ _ (HP.out.pres (pres_grown (hg0 _))) hpl HPC.out).mono ?_
  rintro e w1 ⟨rfl, hg1⟩
  have HG1 : Hid (w.grownBy w1 none) := grown_trans (hg0 _) hg1
  have hb0 : w1.heap[w.heap.size]? = some (.cells #[.slice ao p.length cap] 25 (0, 0)) := by
    rw [hg1.block w.heap.size (by simp) (by simp)]; exact heap_alloc_new w _
  have c0 : w1.cell? ⟨w.heap.size, 0, none⟩ = some (.slice ao p.length cap) := by simp [World.cell?, hb0]
  clear hb0 hg1
  by_cases hv : vProg p = true
  · have e0 : checkN p = 0 := by simp [checkN, hv]
    have HV := hide hv
    rw [e0]
    clear e0 hv
    by_cases h5 : s.length ≤ 500
    · have h5' : (s.length : Int) ≤ 500 := by omega
      have H0 : Hid (checkRunN p s = 0) := by unfold Hid checkRunN; simp [HV.out, h5]
      by_cases hf : fuel < 0
      · go_wp2_with fail
        exact bodyPost_ret (v := .tuple #[.slice none 0 0, .int .i64 0, .int .i64 2]) (by simp [results, Tryd.results66, go_sem]) rfl ⟨HG1.out, Or.inr (Or.inl ⟨H0.out, hf, rfl⟩)⟩
      · have hf0 : 0 ≤ fuel := by omega
        have HPl := hide (play_m w1 ao cap p (.slice so s.length sc) s HV.out (HP.out.pres (pres_grown HG1.out)) ((HI.out.pres (pres_grown HG1.out)).mono HG1.out.size) h5)
        go_wp2_with fail
        refine (unhide HPl).mono ?_
        clear HPl
        rintro e w2 ⟨b, ab, rb, st, rfl, hR⟩
        obtain ⟨x1, x2, x3, rfl⟩ := owns_form hR.row
        have hx2 := owns_lenq hR.row
        subst hx2
        have HG2 : Hid (w.grownBy w2 none) := grown_trans HG1.out hR.frame
        obtain ⟨c10, c11, c12, c13, _, _, _⟩ := hR.vcells
        have HC2 := hide (pres_grown hR.frame _ _ c0)
        have HRC : Hid (∀ u, w2.grownBy u none → u.cell? ⟨b, 11, none⟩ = some (.int .i64 (runS p s).kind) ∧ u.cell? ⟨b, 12, none⟩ = some (.int .i64 (runS p s).thread) ∧ u.cell? ⟨b, 13, none⟩ = some (.int .i64 (runS p s).at_)) := fun u hu => ⟨pres_grown hu _ _ c11, pres_grown hu _ _ c12, pres_grown hu _ _ c13⟩
        have HCT := hide (run_cut p s)
        have hln := follow_len p s
        have HSS : Hid (∀ n, shortS p s n = shr p (runS p s) n (s.take (cameTo (runS p s))) 0 0) := fun n => rfl
        clear hR c0 c12 c13
        have hcl := HCT.out.2
        generalize hO : runS p s = o at *
        clear hO
        obtain ⟨cn, hcn⟩ : ∃ cn : Nat, cn = cameTo o := ⟨_, rfl⟩
        rw [← hcn] at hcl HSS
        have HCN := hide hcn
        clear hcn HCT
        have hl1 : (o.steps.length : Int) ≤ 500 := by omega
        go_upto_if 42 with fail
        go_cut [11] (fun nv w' => nv = .int .i64 (cn : Int) ∧ w' = w2)
        case first =>
          by_cases hk : o.kind = 2
          · have hc : cn = o.steps.length + 1 := by rw [HCN.out]; unfold cameTo; rw [if_pos hk]
            have HC := hide hc
            clear hc
            go_wp2_with fail
            go_meet
            exact ⟨by rw [HC.out]; go_num, rfl⟩
          · have hk2 : (o.kind == 2) = false := by simpa using hk
            have hc : cn = o.steps.length := by rw [HCN.out]; unfold cameTo; rw [if_neg hk]
            have HC := hide hc
            clear hc hk
            go_wp2_with fail
            go_meet
            exact ⟨by rw [HC.out], rfl⟩
        case rest =>
        obtain ⟨rfl, hwc⟩ := hcut
        have hwc2 := hwc.symm
        subst hwc2
        have HI2 : Hid (IntsAt w2.heap.size w2 (.slice so cn sc) (s.take cn)) := ((HI.out.pres (pres_grown HG2.out)).mono HG2.out.size).front hcl
        have HSO : Hid (so = none → cn = 0 ∧ sc = 0) := fun e => by
          have := HN.out s.length sc (by rw [e])
          omega
        have HNW : Hid (∀ ad, so = some ad → ∀ j u, (ints (s.take cn))[j]? = some u → w2.cell? (ad.add j) = some u) := ints_ofS HI2.out
        have hil : (ints (s.take cn)).length = cn * 1 := by rw [ints_len]; simp; omega
        have h63 : 0 + cn ≤ maxLen := by unfold maxLen; omega
        have q0 : (cn : Int) ≤ sc := by omega
        have q1 : (0 : Int) ≤ (cn : Int) := by omega
        have hs2 := HG2.out.size
        clear c10 c11
        go_upto_region 12 with (at_builtin; refine wpList_append_any rfl _ _ _ rfl w.heap.size 3 i0 _ 1 8 Tryd.underlying22 hi0 hz0 hz1 hz2 rfl (by omega) (.slice none 0 0) 0 [] rfl ⟨rfl, Or.inl ⟨rfl, rfl⟩⟩ so cn sc (ints (s.take cn)) rfl hil HSO.out HNW.out (ints_one _) h63 (by omega) hs2 ?_; intro z1 z2 z3 w3 hown3 hg3)
        simp only [Nat.zero_add, List.nil_append] at hown3
        have htk : (s.take cn).length = cn := by simp; omega
        have HO3 : Hid (w3.ownsRow w.heap.size 3 1 (.slice z1 z2 z3) (s.take cn).length (ints (s.take cn))) := by unfold Hid; rw [htk]; exact hown3
        have HG3 : Hid (w2.grownBy w3 none) := hg3
        have hl0 : (s.take cn).length ≤ 500 := by omega
        clear hown3 hg3 hil h63 HSO HNW HI2 htk
        go_wp2_with fail
        go_loopw [12, 13, 14] (fun lv uv kv w' => ∃ (l : List Int) (i u : Nat), uv = .int .i64 u ∧ kv = .int .i64 i ∧ l.length ≤ 500 ∧ i ≤ l.length ∧ (u : Int) ≤ fuel ∧ Hid (w'.ownsRow w.heap.size 3 1 lv l.length (ints l)) ∧ Hid (w2.grownBy w' none) ∧ Hid (shr p o (fuel.toNat - u) l i u = shr p o fuel.toNat (s.take cn) 0 0)) (fun _ uv _ _ => fuel.toNat - (intOf uv).toNat)
        case atStart => exact ⟨s.take cn, 0, 0, rfl, rfl, hl0, Nat.zero_le _, by omega, HO3, HG3, rfl⟩
        case round =>
          clear HO3 HG3
          obtain ⟨l, i, u, rfl, rfl, hl5, hil, hu, HO, HG, HS⟩ := hrel
          obtain ⟨w5, hw5⟩ : ∃ w5, w5 = wr := ⟨_, rfl⟩
          rw [← hw5] at HO HG ⊢
          clear hw5
          have r0 : (0 : Int) ≤ (i : Int) := by omega
          have r1 : (0 : Int) ≤ (u : Int) := by omega
          have r2 : (l.length : Int) ≤ 500 := by omega
          by_cases hgo : i < l.length ∧ (u : Int) < fuel
          · obtain ⟨hlt, huf⟩ := hgo
            obtain ⟨gg, gc, hvv⟩ : ∃ gg gc, u12 = .slice (some ⟨gg, 0, none⟩) l.length gc := by
              rcases HO.out.2 with ⟨_, e⟩ | ⟨gg, gc, _, e, _⟩
              · omega
              · exact ⟨gg, gc, e⟩
            subst hvv
            have HI5 := hide (owns_ints HO.out)
            have hcp : l.length ≤ gc := by
              obtain ⟨a, c, e, h1, _⟩ := HI5.out
              simp only [Value.slice.injEq] at e
              omega
            have r3 : (i : Int) < l.length := by omega
            have r4 : (i : Int) ≤ gc := by omega
            have r5 : (i : Int) + 1 ≤ l.length := by omega
            have r6 : (l.length : Int) ≤ gc := by omega
            have hnx : fuel.toNat - u = (fuel.toNat - (u + 1)) + 1 := by omega
            have HST : Hid (shr p o fuel.toNat (s.take cn) 0 0 = if likeV (runS p (leftOut l i)) o = true then shr p o (fuel.toNat - (u + 1)) (leftOut l i) 0 (u + 1) else shr p o (fuel.toNat - (u + 1)) l (i + 1) (u + 1)) := by
              unfold Hid
              rw [← HS.out, hnx, shr, if_pos hlt]
            have hll := leftOut_len hlt
            have HLL := hide hll
            have hs5 : w.heap.size ≤ w5.heap.size := by have := HG.out.size; omega
            have HNW : Hid (∀ ad, some (⟨gg, 0, none⟩ : Addr) = some ad → ∀ j v, (ints (l.take i))[j]? = some v → w5.cell? (ad.add j) = some v) := ints_ofS (IntsAt.front HI5.out (by omega))
            have hil1 : (ints (l.take i)).length = i * 1 := by rw [ints_len]; simp; omega
            have h63a : 0 + i ≤ maxLen := by unfold maxLen; omega
            clear HS hnx hll
            go_upto_region 17 with (at_builtin; refine wpList_append_any rfl _ _ _ rfl w5.heap.size 3 i0 _ 1 8 Tryd.underlying22 hi0 hz0 hz1 hz2 rfl (by omega) (.slice none 0 0) 0 [] rfl ⟨rfl, Or.inl ⟨rfl, rfl⟩⟩ (some ⟨gg, 0, none⟩) i gc (ints (l.take i)) rfl hil1 (fun e => by cases e) HNW.out (ints_one _) h63a (by omega) (Nat.le_refl _) ?_; intro ta tn tc w6 hown6 hg6)
            simp only [Nat.zero_add, List.nil_append] at hown6
            have HO6 := hide hown6
            have HG56 : Hid (w5.grownBy w6 none) := hg6
            have hs6 : w5.heap.size ≤ w6.heap.size := hg6.size
            have HI6 : Hid (IntsAt w6.heap.size w6 (.slice (some ⟨gg, 0, none⟩) l.length gc) l) := (HI5.out.pres (pres_grown hg6)).mono hg6.size
            have hfl : ints (l.take i) ++ ints (l.drop (i + 1)) = ints (leftOut l i) := by simp [ints, leftOut]
            have hfn : i + (l.length - (i + 1)) = (leftOut l i).length := by have := HLL.out; omega
            have h63b : i + (l.length - (i + 1)) ≤ maxLen := by unfold maxLen; omega
            have hil2 : (ints (l.drop (i + 1))).length = (l.length - (i + 1)) * 1 := by rw [ints_len]; simp
            clear hown6 hg6 hil1 h63a HNW
            go_cut [15] (fun tv w' => Hid (w'.ownsRow w5.heap.size 3 1 tv (leftOut l i).length (ints (leftOut l i)) ∧ w5.grownBy w' none))
            case first =>
              by_cases hsk : gc - (i + 1) = 0
              · have hgc : gc = i + 1 := by omega
                have hdr : l.drop (i + 1) = [] := List.drop_of_length_le (by omega)
                have HE : Hid (ints (leftOut l i) = ints (l.take i) ∧ (leftOut l i).length = i) := ⟨by rw [← hfl, hdr]; simp [ints], by omega⟩
                clear hdr
                subst hgc
                go_wp2_with (at_builtin; refine wpList_append_any rfl _ _ _ rfl w5.heap.size 3 i0 _ 1 8 Tryd.underlying22 hi0 hz0 hz1 hz2 rfl (by omega) (.slice ta tn tc) i (ints (l.take i)) rfl HO6.out (some ⟨gg, 0, none⟩) 0 0 [] rfl rfl (fun e => by cases e) (fun ad e j v hj => by simp at hj) (fun v hv => by cases hv) (by omega) (by omega) hs6 ?_; intro tb tm td w7 hown7 hg7)
                go_meet
                exact ⟨by rw [HE.out.1, HE.out.2]; simpa using hown7, grown_row HG56.out hg7 (fun q e => owns_block HO6.out q e)⟩
              · have HDD : Hid (IntsAt w6.heap.size w6 (.slice (some ⟨gg, i + 1, none⟩) (l.length - (i + 1)) (gc - (i + 1))) (l.drop (i + 1))) := drop_at HI6.out hlt
                have HNW : Hid (∀ ad, some (⟨gg, i + 1, none⟩ : Addr) = some ad → ∀ j v, (ints (l.drop (i + 1)))[j]? = some v → w6.cell? (ad.add j) = some v) := ints_ofS HDD.out
                have hgc : ¬ gc = i + 1 := by omega
                go_wp2_with (at_builtin; refine wpList_append_any rfl _ _ _ rfl w5.heap.size 3 i0 _ 1 8 Tryd.underlying22 hi0 hz0 hz1 hz2 rfl (by omega) (.slice ta tn tc) i (ints (l.take i)) rfl HO6.out (some ⟨gg, i + 1, none⟩) (l.length - (i + 1)) (gc - (i + 1)) (ints (l.drop (i + 1))) rfl hil2 (fun e => by cases e) HNW.out (ints_one _) h63b (by omega) hs6 ?_; intro tb tm td w7 hown7 hg7)
                go_meet
                exact ⟨by rw [← hfl, ← hfn]; exact hown7, grown_row HG56.out hg7 (fun q e => owns_block HO6.out q e)⟩
            case rest =>
            obtain ⟨ho7, hg7⟩ := hcut.out
            clear hcut HO6 HG56 HI6 hfl hfn h63b hil2 hs6
            obtain ⟨w7, hw7⟩ : ∃ w7, w7 = wc := ⟨_, rfl⟩
            rw [← hw7] at ho7 hg7 ⊢
            clear hw7
            obtain ⟨t1, t2, t3, ht⟩ := owns_form ho7
            subst ht
            have HO7 := hide ho7
            have HG57 := hide hg7
            have HG27 : Hid (w2.grownBy w7 none) := grown_trans HG.out hg7
            have HGW7 : Hid (w.grownBy w7 none) := grown_trans HG2.out HG27.out
            have c7 := pres_grown HG27.out _ _ HC2.out
            have HPl := hide (play_m w7 ao cap p (.slice t1 t2 t3) (leftOut l i) HV.out (HP.out.pres (pres_grown HGW7.out)) (owns_ints ho7) (by have := HLL.out; omega))
            clear ho7 hg7
            go_wp2_with fail
            refine (unhide HPl).mono ?_
            clear HPl c7
            rintro e w8 ⟨b8, ab8, rb8, st8, rfl, hR8⟩
            obtain ⟨_, k1, k2, k3, _, _, _⟩ := hR8.vcells
            have HG78 := hide hR8.frame
            have HLT := hide (like_test (runS p (leftOut l i)) o)
            have HLV : Hid (∃ LK, LK = likeV (runS p (leftOut l i)) o) := ⟨_, rfl⟩
            clear hR8
            generalize hq : runS p (leftOut l i) = q at *
            obtain ⟨LK, hLK⟩ := HLV.out
            rw [← hLK] at HST HLT
            clear HLV hLK hq
            go_upto_region 20 with fail
            obtain ⟨w9, hw9⟩ : ∃ w9, w9 = w8.alloc (.cells #[.int .i64 q.kind, .int .i64 q.thread, .int .i64 q.at_] 32) := ⟨_, rfl⟩
            have HG89 : Hid (w8.grownBy w9 none) := by unfold Hid; rw [hw9]; exact grown_alloc (grown_refl _ _)
            have zb : w9.heap[w8.heap.size]? = some (.cells #[.int .i64 q.kind, .int .i64 q.thread, .int .i64 q.at_] 32 (0, 0)) := by rw [hw9]; exact heap_alloc_new w8 _
            rw [← hw9]
            clear hw9 k1 k2 k3
            have HG29 : Hid (w2.grownBy w9 none) := grown_trans HG27.out (grown_trans HG78.out HG89.out)
            obtain ⟨m1, m2, m3⟩ := HRC.out w9 HG29.out
            have n0 : w9.cell? ⟨w8.heap.size, 0, none⟩ = some (.int .i64 q.kind) := by simp [World.cell?, zb]
            have n1 : w9.cell? ⟨w8.heap.size, 1, none⟩ = some (.int .i64 q.thread) := by simp [World.cell?, zb]
            have n2 : w9.cell? ⟨w8.heap.size, 2, none⟩ = some (.int .i64 q.at_) := by simp [World.cell?, zb]
            clear zb
            generalize q.kind = qk at *
            generalize q.thread = qt at *
            generalize q.at_ = qa at *
            generalize o.kind = ok at *
            generalize o.thread = ot at *
            generalize o.at_ = oa at *
            go_cut [96] (fun x w' => x = .bool LK ∧ Hid (w9.grownBy w' none))
            case first =>
              by_cases e1 : qk = ok
              · subst e1
                by_cases e2 : qt = ot
                · subst e2
                  by_cases e3 : qa = oa
                  · subst e3
                    have HL : Hid (LK = true) := by unfold Hid; rw [HLT.out]; simp
                    go_quiet (fail)
                    go_wp2_with fail
                    go_meet
                    exact ⟨by rw [HL.out], grown_dnS _⟩
                  · have e3' : (qa == oa) = false := by simpa using e3
                    by_cases e4 : qk = 2
                    · subst e4
                      have HL : Hid (LK = true) := by unfold Hid; rw [HLT.out]; simp
                      clear e3
                      go_quiet (fail)
                      go_wp2_with fail
                      go_meet
                      exact ⟨by rw [HL.out], grown_dnS _⟩
                    · have e4' : (qk == 2) = false := by simpa using e4
                      have HL : Hid (LK = false) := by unfold Hid; rw [HLT.out]; simp [e3', e4']
                      clear e3 e4
                      go_quiet (fail)
                      go_wp2_with fail
                      go_meet
                      exact ⟨by rw [HL.out], grown_dnS _⟩
                · have e2' : (qt == ot) = false := by simpa using e2
                  by_cases e4 : qk = 2
                  · subst e4
                    have HL : Hid (LK = true) := by unfold Hid; rw [HLT.out]; simp
                    clear e2
                    go_quiet (fail)
                    go_wp2_with fail
                    go_meet
                    exact ⟨by rw [HL.out], grown_dnS _⟩
                  · have e4' : (qk == 2) = false := by simpa using e4
                    have HL : Hid (LK = false) := by unfold Hid; rw [HLT.out]; simp [e2', e4']
                    clear e2 e4
                    go_quiet (fail)
                    go_wp2_with fail
                    go_meet
                    exact ⟨by rw [HL.out], grown_dnS _⟩
              · have e1' : (qk == ok) = false := by simpa using e1
                by_cases e4 : qk = 2
                · subst e4
                  have e5' : (ok == 2) = false := by simpa using fun h : ok = 2 => e1 h.symm
                  have HL : Hid (LK = false) := by unfold Hid; rw [HLT.out]; simp [e1', e5']
                  clear e1
                  go_quiet (fail)
                  go_wp2_with fail
                  go_meet
                  exact ⟨by rw [HL.out], grown_dnS _⟩
                · have e4' : (qk == 2) = false := by simpa using e4
                  have HL : Hid (LK = false) := by unfold Hid; rw [HLT.out]; simp [e1', e4']
                  clear e1 e4
                  go_quiet (fail)
                  go_wp2_with fail
                  go_meet
                  exact ⟨by rw [HL.out], grown_dnS _⟩
            case rest =>
            obtain ⟨rfl, HGc⟩ := hcut
            obtain ⟨w10, hw10⟩ : ∃ w10, w10 = wc := ⟨_, rfl⟩
            rw [← hw10] at HGc ⊢
            clear hw10 m1 m2 m3 n0 n1 n2 HLT
            have HG210 : Hid (w2.grownBy w10 none) := grown_trans HG29.out HGc.out
            have HG710 : Hid (w7.grownBy w10 none) := grown_trans HG78.out (grown_trans HG89.out HGc.out)
            have huf' : (u : Int) + 1 ≤ fuel := by omega
            cases LK with
            | true =>
              have HS1 : Hid (shr p o (fuel.toNat - (u + 1)) (leftOut l i) 0 (u + 1) = shr p o fuel.toNat (s.take cn) 0 0) := by unfold Hid; rw [HST.out]; rfl
              have HON : Hid (w10.ownsRow w.heap.size 3 1 (.slice t1 t2 t3) (leftOut l i).length (ints (leftOut l i))) := owns_mono (owns_grown HO7.out HG710.out (fun _ e => by cases e)) hs5
              clear HST
              go_wp2_with fail
              go_roundw
              case rel => exact ⟨leftOut l i, 0, u + 1, by go_num, rfl, by have := HLL.out; omega, Nat.zero_le _, by omega, HON, HG210, HS1⟩
              case measure => simp [intOf]; omega
            | false =>
              have HS1 : Hid (shr p o (fuel.toNat - (u + 1)) l (i + 1) (u + 1) = shr p o fuel.toNat (s.take cn) 0 0) := by unfold Hid; rw [HST.out]; rfl
              have HON : Hid (w10.ownsRow w.heap.size 3 1 (.slice (some ⟨gg, 0, none⟩) l.length gc) l.length (ints l)) := owns_grown (owns_grown HO.out HG57.out (fun _ e => by cases e)) HG710.out (fun _ e => by cases e)
              clear HST
              go_wp2_with fail
              go_roundw
              case rel => exact ⟨l, i + 1, u + 1, by go_num, by go_num, hl5, by omega, by omega, HON, HG210, HS1⟩
              case measure => simp [intOf]; omega
          · have HE : Hid (shortS p s fuel.toNat = (l, u)) := by
              unfold Hid
              rw [HSS.out, ← HS.out]
              cases hd : fuel.toNat - u with
              | zero => rfl
              | succ d => rw [shr, if_neg (by omega)]
            have HGW : Hid (w.grownBy w5 none) := grown_trans HG2.out HG.out
            obtain ⟨l1, l2, l3, hlv⟩ := owns_form HO.out
            subst hlv
            have hl2 := owns_lenq HO.out
            subst hl2
            by_cases hA : (u : Int) < fuel
            · have r7 : (l.length : Int) ≤ (i : Int) := by omega
              go_wp2_with fail
              exact bodyPost_ret (v := .tuple #[.slice l1 l.length l3, .int .i64 (u : Int), .int .i64 0]) (by simp [results, Tryd.results66, go_sem]) rfl ⟨HGW.out, Or.inl ⟨H0.out, hf0, _, by rw [HE.out], by rw [HE.out]; exact HO.out⟩⟩
            · have r7 : fuel ≤ (u : Int) := by omega
              go_wp2_with fail
              exact bodyPost_ret (v := .tuple #[.slice l1 l.length l3, .int .i64 (u : Int), .int .i64 0]) (by simp [results, Tryd.results66, go_sem]) rfl ⟨HGW.out, Or.inl ⟨H0.out, hf0, _, by rw [HE.out], by rw [HE.out]; exact HO.out⟩⟩
    · have h5' : (500 : Int) < s.length := by omega
      have H0 : Hid (checkRunN p s = 2) := by unfold Hid checkRunN; simp [HV.out, h5]
      go_wp2_with fail
      exact bodyPost_ret (v := .tuple #[.slice none 0 0, .int .i64 0, .int .i64 2]) (by simp [results, Tryd.results66, go_sem]) rfl ⟨HG1.out, Or.inr (Or.inr ⟨by rw [H0.out]; decide, by rw [H0.out]⟩)⟩
  · have e0 : checkN p = 1 := by simp [checkN, hv]
    have H0 : Hid (checkRunN p s = 1) := by unfold Hid checkRunN; simp [hv]
    rw [e0]
    clear e0 hv
    go_wp2_with fail
    exact bodyPost_ret (v := .tuple #[.slice none 0 0, .int .i64 0, .int .i64 1]) (by simp [results, Tryd.results66, go_sem]) rfl ⟨HG1.out, Or.inr (Or.inr ⟨by rw [H0.out]; decide, by rw [H0.out]⟩)⟩

end Go.Proofs.YtklenjmfalljgaaDoor
