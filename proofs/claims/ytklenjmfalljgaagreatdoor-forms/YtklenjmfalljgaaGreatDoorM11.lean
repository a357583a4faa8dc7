/- The texts Frm Frn Fro Frr Fha Fhb Fhc Frs. -/
import Derived.Test.YtklenjmfalljgaaGreatDoorM03
import Derived.RowKit
import Derived.Maps.Own
import Derived.Maps.OwnOps
import Derived.Maps.Views
import Derived.DeepKeys4
import Derived.Deep.DeepCutAuto

/- Rows of things of which some depend on one another: their layers, what may change places, the row by layers (no dump is named here). -/
namespace Go.Proofs.YtklenjmfalljgaaGreatDoor

section
variable {α : Type} (d : α → α → Bool) (th : α → Nat)

/-- The layer of x behind a past of things with their layers. -/
def layIn : List (α × Nat) → α → Nat
  | [], _ => 0
  | y :: r, x => if d y.1 x = true then max (y.2 + 1) (layIn r x) else layIn r x

/-- A row's things with their layers, behind a past. -/
def tl : List (α × Nat) → List α → List (α × Nat)
  | _, [] => []
  | past, x :: r => (x, layIn d past x) :: tl ((x, layIn d past x) :: past) r

theorem layIn_append (a b : List (α × Nat)) (x : α) : layIn d (a ++ b) x = max (layIn d a x) (layIn d b x) := by
  induction a with
  | nil => simp [layIn]
  | cons y r ih =>
    simp only [List.cons_append, layIn, ih]
    split <;> omega
theorem layIn_perm {a b : List (α × Nat)} (h : a.Perm b) (x : α) : layIn d a x = layIn d b x := by
  induction h with
  | nil => rfl
  | cons y _ ih => simp only [layIn, ih]
  | swap y z l =>
    simp only [layIn]
    split <;> split <;> omega
  | trans _ _ ih1 ih2 => rw [ih1, ih2]
theorem tl_perm {a b : List (α × Nat)} (h : a.Perm b) (xs : List α) : tl d a xs = tl d b xs := by
  induction xs generalizing a b with
  | nil => rfl
  | cons x r ih =>
    simp only [tl]
    rw [layIn_perm d h x, ih (h.cons _)]
theorem tl_append (past : List (α × Nat)) (xs ys : List α) : tl d past (xs ++ ys) = tl d past xs ++ tl d (tl d past xs ++ past) ys := by
  induction xs generalizing past with
  | nil => simp [tl]
  | cons x r ih =>
    simp only [List.cons_append, tl]
    rw [ih]
    congr 2
    exact tl_perm d (by simp) ys
theorem tl_fst (past : List (α × Nat)) (xs : List α) : (tl d past xs).map (·.1) = xs := by
  induction xs generalizing past with
  | nil => rfl
  | cons x r ih => simp only [tl, List.map_cons, ih]
theorem tl_length (past : List (α × Nat)) (xs : List α) : (tl d past xs).length = xs.length := by
  have := congrArg List.length (tl_fst d past xs); simpa using this
theorem tl_snoc (xs : List α) (x : α) : tl d [] (xs ++ [x]) = tl d [] xs ++ [(x, layIn d (tl d [] xs) x)] := by
  rw [tl_append]; simp [tl]
theorem layIn_ge {past : List (α × Nat)} {y : α × Nat} {x : α} (h : y ∈ past) (hd : d y.1 x = true) : y.2 + 1 ≤ layIn d past x := by
  induction past with
  | nil => cases h
  | cons z r ih =>
    simp only [layIn]
    rcases List.mem_cons.1 h with h | h
    · subst h; rw [if_pos hd]; omega
    · have := ih h
      split <;> omega
theorem layIn_le {past : List (α × Nat)} {x : α} {n : Nat} (h : ∀ y ∈ past, d y.1 x = true → y.2 + 1 ≤ n) : layIn d past x ≤ n := by
  induction past with
  | nil => simp [layIn]
  | cons z r ih =>
    simp only [layIn]
    have h1 := ih (fun y hy => h y (List.mem_cons_of_mem _ hy))
    split
    · have := h z (List.mem_cons_self ..) ‹_›; omega
    · exact h1

/-- Rows that come of one another by neighbours that change places and do not depend on one another. -/
def Eqv (xs ys : List α) : Prop := ∀ R : List α → List α → Prop, (∀ a, R a a) → (∀ (a : List α) (x y : α) (b : List α), d x y = false → d y x = false → R (a ++ x :: y :: b) (a ++ y :: x :: b)) → (∀ a b c, R a b → R b c → R a c) → R xs ys

variable {d}
theorem Eqv.refl (xs : List α) : Eqv d xs xs := fun _ h _ _ => h xs
theorem Eqv.swap (a : List α) (x y : α) (b : List α) (h1 : d x y = false) (h2 : d y x = false) : Eqv d (a ++ x :: y :: b) (a ++ y :: x :: b) := fun _ _ h _ => h a x y b h1 h2
theorem Eqv.trans {xs ys zs : List α} (h : Eqv d xs ys) (h' : Eqv d ys zs) : Eqv d xs zs := fun R h1 h2 h3 => h3 xs ys zs (h R h1 h2 h3) (h' R h1 h2 h3)
theorem Eqv.snoc {xs ys : List α} (h : Eqv d xs ys) (z : α) : Eqv d (xs ++ [z]) (ys ++ [z]) := by
  refine h (fun xs ys => Eqv d (xs ++ [z]) (ys ++ [z])) (fun _ => Eqv.refl _) (fun a x y b h1 h2 => ?_) (fun _ _ _ i1 i2 => i1.trans i2)
  simpa using Eqv.swap a x y (b ++ [z]) h1 h2

end

/-- Two sorted rows of the same pairs are one. -/
theorem sorted_one : ∀ {a b : List (Nat × Nat)}, a.Perm b → a.Pairwise (fun x y => x.1 < y.1 ∨ (x.1 = y.1 ∧ x.2 ≤ y.2)) → b.Pairwise (fun x y => x.1 < y.1 ∨ (x.1 = y.1 ∧ x.2 ≤ y.2)) → a = b
  | [], b, h, _, _ => (List.nil_perm.1 h).symm
  | x :: a, [], h, _, _ => absurd h.length_eq (by simp)
  | x :: a, y :: b, h, h1, h2 => by
    rw [List.pairwise_cons] at h1 h2
    have e : x = y := by
      have hx : x ∈ y :: b := h.mem_iff.1 (List.mem_cons_self ..)
      have hy : y ∈ x :: a := h.mem_iff.2 (List.mem_cons_self ..)
      rcases List.mem_cons.1 hx with hx | hx
      · exact hx
      · rcases List.mem_cons.1 hy with hy | hy
        · exact hy.symm
        · have k1 := h1.1 y hy
          have k2 := h2.1 x hx
          obtain ⟨x1, x2⟩ := x
          obtain ⟨y1, y2⟩ := y
          simp only at k1 k2
          have e1 : x1 = y1 := by omega
          have e2 : x2 = y2 := by omega
          rw [e1, e2]
    subst e
    rw [sorted_one (List.perm_cons _ |>.1 h) h1.2 h2.2]

end Go.Proofs.YtklenjmfalljgaaGreatDoor

/- Steps that have nothing to do with one another change places: the machine comes to the same (no dump is named here). -/
namespace Go.Proofs.YtklenjmfalljgaaGreatDoor
open Go.RowKit (wrap64)

/-- What an instruction has to do with what threads share: 0 nothing, 1 a lock, 2 reads a variable, 3 writes one; which. -/
def tou (i : Ins) : Nat × Nat := if i.op = 9 ∨ i.op = 10 then (1, i.a.toNat) else if i.op = 2 then (2, i.b.toNat) else if i.op = 3 then (3, i.a.toNat) else (0, 0)
def clash (x y : Nat × Nat) : Bool := x.1 != 0 && y.1 != 0 && x.2 == y.2 && ((x.1 == 1) == (y.1 == 1)) && !(x.1 == 2 && y.1 == 2)

/-- A step that was done, or failed. -/
structure Ev where
  t : Nat
  k : Int
  bad : Bool

def depE (p : List (List Ins)) (x y : Ev) : Bool := x.bad || y.bad || x.t == y.t || clash (tou (insAt p x.t x.k)) (tou (insAt p y.t y.k))
def goes (p : List (List Ins)) (s : St) (x : Ev) : Prop := x.t < p.length ∧ readyB p s x.t = true ∧ s.next x.t = x.k ∧ (stepS p s x.t).1 = !x.bad
def RunE (p : List (List Ins)) : St → List Ev → St → Prop
  | s, [], s' => s' = s
  | s, x :: r, s' => goes p s x ∧ RunE p (stepS p s x.t).2 r s'

theorem RunE.append {p : List (List Ins)} : ∀ {a b : List Ev} {s s' : St}, RunE p s (a ++ b) s' ↔ ∃ s1, RunE p s a s1 ∧ RunE p s1 b s'
  | [], b, s, s' => by simp [RunE]
  | x :: a, b, s, s' => by
    simp only [List.cons_append, RunE, RunE.append (a := a)]
    constructor
    · rintro ⟨h1, s1, h2, h3⟩; exact ⟨s1, ⟨h1, h2⟩, h3⟩
    · rintro ⟨s1, ⟨h1, h2⟩, h3⟩; exact ⟨h1, s1, h2, h3⟩

end Go.Proofs.YtklenjmfalljgaaGreatDoor

/- A run's steps, and the form of a schedule: it runs to the same, and is its own (no dump is named here). -/
namespace Go.Proofs.YtklenjmfalljgaaGreatDoor

def Ev.tI (e : Ev) : Int := (e.t : Int)
def Ev.pr (e : Ev) : Int × Int := ((e.t : Int), e.k)
def evG (x : Int × Int) : Ev := ⟨x.1.toNat, x.2, false⟩
def evB (x : Int × Int) : Ev := ⟨x.1.toNat, x.2, true⟩
def good (xs : List Ev) : Prop := ∀ e ∈ xs, e.bad = false

/-- The steps of a run; the last one failed, if the run did. -/
def evsOf (o : Out) : List Ev := if o.kind = 1 then o.steps.dropLast.map evG ++ (o.steps.getLast?.map evB).toList else o.steps.map evG

theorem evG_pr {e : Ev} (h : e.bad = false) : evG e.pr = e := by cases e; simp [evG, Ev.pr] at *; exact h
theorem evB_pr {e : Ev} (h : e.bad = true) : evB e.pr = e := by cases e; simp [evB, Ev.pr] at *; exact h
theorem evG_all {xs : List Ev} (h : good xs) : (xs.map Ev.pr).map evG = xs := by
  induction xs with
  | nil => rfl
  | cons x r ih =>
    simp only [List.map_cons]
    rw [evG_pr (h x (List.mem_cons_self ..)), ih (fun e he => h e (List.mem_cons_of_mem _ he))]
theorem evsOf_good {o : Out} {xs : List Ev} (hk : o.kind ≠ 1) (hs : o.steps = xs.map Ev.pr) (h : good xs) : evsOf o = xs := by
  unfold evsOf; rw [if_neg hk, hs, evG_all h]
theorem evsOf_bad {o : Out} {ys : List Ev} {z : Ev} (hk : o.kind = 1) (hs : o.steps = (ys ++ [z]).map Ev.pr) (h : good ys) (hz : z.bad = true) : evsOf o = ys ++ [z] := by
  unfold evsOf; rw [if_pos hk, hs]; simp [evG_all h, evB_pr hz]

/-- What a run is, by its steps. -/
theorem follow_cases (p : List (List Ins)) : ∀ (l : List Int) (i : Int) (s : St) (acc : List (Int × Int)), ∃ xs s', RunE p s xs s' ∧ (follow p l i s acc).steps = acc ++ xs.map Ev.pr ∧ (follow p l i s acc).st = s' ∧
    ((good xs ∧ xs.map Ev.tI = l ∧ (follow p l i s acc).kind = endingS p s' ∧ (follow p l i s acc).thread = 0 ∧ (follow p l i s acc).at_ = 0) ∨
     (good xs ∧ (∃ u r, l = xs.map Ev.tI ++ u :: r ∧ okAt p s' u = false) ∧ (follow p l i s acc).kind = 2 ∧ (follow p l i s acc).thread = 0 ∧ (follow p l i s acc).at_ = i + xs.length) ∨
     (∃ ys z r, xs = ys ++ [z] ∧ good ys ∧ z.bad = true ∧ l = xs.map Ev.tI ++ r ∧ (follow p l i s acc).kind = 1 ∧ (follow p l i s acc).thread = z.tI ∧ (follow p l i s acc).at_ = z.k))
  | [], i, s, acc => ⟨[], s, rfl, by simp [follow], rfl, Or.inl ⟨by simp [good], rfl, rfl, rfl, rfl⟩⟩
  | t :: r, i, s, acc => by
    by_cases h1 : okAt p s t = true
    · have hb : 0 ≤ t ∧ t < p.length ∧ readyB p s t.toNat = true := by
        simp [okAt, belowB] at h1; exact ⟨h1.1.1, h1.1.2, h1.2⟩
      obtain ⟨hb1, hb2, hb3⟩ := hb
      have ht : ((t.toNat : Nat) : Int) = t := by omega
      by_cases h2 : (stepS p s t.toNat).1 = true
      · obtain ⟨xs, s', hr, hs, hst, hc⟩ := follow_cases p r (i + 1) (stepS p s t.toNat).2 (acc ++ [(t, s.next t.toNat)])
        rw [follow_go p t r i s acc h1 h2]
        have hg : goes p s ⟨t.toNat, s.next t.toNat, false⟩ := ⟨by simp only; omega, hb3, rfl, by simpa using h2⟩
        refine ⟨⟨t.toNat, s.next t.toNat, false⟩ :: xs, s', ⟨hg, hr⟩, ?_, hst, ?_⟩
        · rw [hs]; simp [Ev.pr, ht]
        · have hgood : ∀ {zs : List Ev}, good zs → good (⟨t.toNat, s.next t.toNat, false⟩ :: zs) := fun h e he => by
            rcases List.mem_cons.1 he with he | he
            · rw [he]
            · exact h e he
          rcases hc with ⟨g1, g2, g3, g4, g5⟩ | ⟨g1, ⟨u, r', g2, g2'⟩, g3, g4, g5⟩ | ⟨ys, z, r', g1, g2, g3, g4, g5, g6, g7⟩
          · exact Or.inl ⟨hgood g1, by simp [Ev.tI, ht]; exact g2, g3, g4, g5⟩
          · exact Or.inr (Or.inl ⟨hgood g1, ⟨u, r', by simp [Ev.tI, ht]; exact g2, g2'⟩, g3, g4, by rw [g5]; simp; omega⟩)
          · exact Or.inr (Or.inr ⟨⟨t.toNat, s.next t.toNat, false⟩ :: ys, z, r', by rw [g1]; rfl, hgood g2, g3, by simp [Ev.tI, ht]; exact g4, g5, g6, g7⟩)
      · have h3 : (stepS p s t.toNat).1 = false := by simpa using h2
        rw [follow_fail p t r i s acc h1 h3]
        refine ⟨[⟨t.toNat, s.next t.toNat, true⟩], _, ⟨⟨by simp only; omega, hb3, rfl, by simpa using h3⟩, rfl⟩, by simp [Ev.pr, ht], rfl, Or.inr (Or.inr ⟨[], _, r, rfl, by simp [good], rfl, by simp [Ev.tI, ht], rfl, by simp [Ev.tI, ht], rfl⟩)⟩
    · have h3 : okAt p s t = false := by simpa using h1
      rw [follow_wrong p t r i s acc h3]
      exact ⟨[], s, rfl, by simp, rfl, Or.inr (Or.inl ⟨by simp [good], ⟨t, r, rfl, h3⟩, rfl, rfl, by simp⟩)⟩

/-- Pairs of a layer and a thread, put in order. -/
def insK (x : Nat × Nat) : List (Nat × Nat) → List (Nat × Nat)
  | [] => [x]
  | y :: r => if x.1 < y.1 ∨ (x.1 = y.1 ∧ x.2 ≤ y.2) then x :: y :: r else y :: insK x r
def sortK : List (Nat × Nat) → List (Nat × Nat)
  | [] => []
  | x :: r => insK x (sortK r)
def leP (x y : Nat × Nat) : Prop := x.1 < y.1 ∨ (x.1 = y.1 ∧ x.2 ≤ y.2)
theorem insK_perm (x : Nat × Nat) : ∀ l, (insK x l).Perm (x :: l)
  | [] => List.Perm.refl _
  | y :: r => by
    unfold insK
    split
    · exact List.Perm.refl _
    · exact ((insK_perm x r).cons y).trans (List.Perm.swap _ _ _)
theorem sortK_perm : ∀ l, (sortK l).Perm l
  | [] => List.Perm.refl _
  | x :: r => (insK_perm x (sortK r)).trans ((sortK_perm r).cons x)
theorem insK_sorted (x : Nat × Nat) : ∀ l, l.Pairwise leP → (insK x l).Pairwise leP
  | [], _ => by simp [insK]
  | y :: r, h => by
    have h0 := h
    rw [List.pairwise_cons] at h
    unfold insK
    split
    · rename_i hxy
      rw [List.pairwise_cons]
      refine ⟨fun z hz => ?_, h0⟩
      rcases List.mem_cons.1 hz with hz | hz
      · subst hz; exact hxy
      · have := h.1 z hz
        unfold leP at *; omega
    · rename_i hxy
      rw [List.pairwise_cons]
      refine ⟨fun z hz => ?_, insK_sorted x r h.2⟩
      have hz' := (insK_perm x r).mem_iff.1 hz
      rcases List.mem_cons.1 hz' with hz' | hz'
      · subst hz'; unfold leP; omega
      · exact h.1 z hz'
theorem sortK_sorted : ∀ l, (sortK l).Pairwise leP
  | [] => List.Pairwise.nil
  | x :: r => insK_sorted x _ (sortK_sorted r)
theorem sortK_one {a b : List (Nat × Nat)} (h : a.Perm b) (hb : b.Pairwise leP) : sortK a = b := sorted_one ((sortK_perm a).trans h) (sortK_sorted a) hb
def keyE (x : Ev × Nat) : Nat × Nat := (x.2, x.1.t)
def keysE (p : List (List Ins)) (xs : List Ev) : List (Nat × Nat) := (tl (depE p) [] xs).map keyE
def formE (p : List (List Ins)) (xs : List Ev) : List Int := (sortK (keysE p xs)).map fun x => (x.2 : Int)
/-- THE FORM of what a run did. -/
def formS (p : List (List Ins)) (o : Out) : List Int := formE p (evsOf o)

theorem formE_length (p : List (List Ins)) (xs : List Ev) : (formE p xs).length = xs.length := by
  unfold formE keysE
  rw [List.length_map, (sortK_perm _).length_eq, List.length_map, tl_length]

end Go.Proofs.YtklenjmfalljgaaGreatDoor

/- Layers told by who used what, and by looking at each two steps; rows by layers told by going through all of them (no dump is named here). -/
namespace Go.Proofs.YtklenjmfalljgaaGreatDoor

/-- What a step uses: the kind (0 its thread, 1 a variable, 2 a lock), which, whether it writes it. -/
def usesI (t : Nat) (i : Ins) : List (Nat × Nat × Bool) := (0, t, true) :: (if i.op = 9 ∨ i.op = 10 then [(2, i.a.toNat, true)] else if i.op = 2 then [(1, i.b.toNat, false)] else if i.op = 3 then [(1, i.a.toNat, true)] else [])
def usesE (p : List (List Ins)) (e : Ev) : List (Nat × Nat × Bool) := usesI e.t (insAt p e.t e.k)

def histOf (p : List (List Ins)) : List (Ev × Nat) → Nat × Nat × Bool → Nat
  | [], _ => 0
  | q :: r, u => if u ∈ usesE p q.1 then max (q.2 + 1) (histOf p r u) else histOf p r u
def aheadS (H : Nat × Nat × Bool → Nat) : List (Nat × Nat × Bool) → Nat → Nat
  | [], n => n
  | u :: r, n => aheadS H r (if u.2.2 = true then max (max n (H (u.1, u.2.1, true))) (H (u.1, u.2.1, false)) else max n (H (u.1, u.2.1, true)))

theorem layIn_iff {α : Type} (d : α → α → Bool) (past : List (α × Nat)) (x : α) (n : Nat) : layIn d past x ≤ n ↔ ∀ q ∈ past, d q.1 x = true → q.2 + 1 ≤ n := by
  constructor
  · intro h q hq hd; exact Nat.le_trans (layIn_ge d hq hd) h
  · exact layIn_le d
theorem histOf_iff (p : List (List Ins)) (u : Nat × Nat × Bool) (n : Nat) : ∀ past, histOf p past u ≤ n ↔ ∀ q ∈ past, u ∈ usesE p q.1 → q.2 + 1 ≤ n
  | [] => by simp [histOf]
  | q :: r => by
    have ih := histOf_iff p u n r
    unfold histOf
    by_cases h : u ∈ usesE p q.1
    · rw [if_pos h, Nat.max_le, ih]; simp [h]
    · rw [if_neg h, ih]; simp [h]
theorem aheadS_iff (H : Nat × Nat × Bool → Nat) (n : Nat) : ∀ (us : List (Nat × Nat × Bool)) (m : Nat), aheadS H us m ≤ n ↔ m ≤ n ∧ ∀ u ∈ us, H (u.1, u.2.1, true) ≤ n ∧ (u.2.2 = true → H (u.1, u.2.1, false) ≤ n)
  | [], m => by simp [aheadS]
  | u :: r, m => by
    unfold aheadS
    rw [aheadS_iff H n r]
    by_cases h : u.2.2 = true
    · rw [if_pos h, Nat.max_le, Nat.max_le]; simp [h, and_assoc]
    · rw [if_neg h, Nat.max_le]; simp [h, and_assoc]

theorem dep_uses (p : List (List Ins)) {x y : Ev} (hx : x.bad = false) (hy : y.bad = false) : depE p y x = true ↔ ∃ u ∈ usesE p x, (u.1, u.2.1, true) ∈ usesE p y ∨ (u.2.2 = true ∧ (u.1, u.2.1, false) ∈ usesE p y) := by
  unfold depE usesE usesI
  generalize insAt p x.t x.k = i
  generalize insAt p y.t y.k = j
  by_cases i9 : i.op = 9 ∨ i.op = 10
  · by_cases j9 : j.op = 9 ∨ j.op = 10
    · simp [clash, tou, hx, hy, i9, j9]; omega
    · by_cases j2 : j.op = 2
      · have : ¬ (j.op = 9 ∨ j.op = 10) := by omega
        simp [clash, tou, hx, hy, i9, j2]; omega
      · by_cases j3 : j.op = 3
        · simp [clash, tou, hx, hy, i9, j3]; omega
        · simp [clash, tou, hx, hy, i9, j9, j2, j3]; omega
  · by_cases i2 : i.op = 2
    · by_cases j9 : j.op = 9 ∨ j.op = 10
      · simp [clash, tou, hx, hy, i2, j9]; omega
      · by_cases j2 : j.op = 2
        · simp [clash, tou, hx, hy, i2, j2]; omega
        · by_cases j3 : j.op = 3
          · simp [clash, tou, hx, hy, i2, j3]; omega
          · simp [clash, tou, hx, hy, i2, j9, j2, j3]; omega
    · by_cases i3 : i.op = 3
      · by_cases j9 : j.op = 9 ∨ j.op = 10
        · simp [clash, tou, hx, hy, i3, j9]; omega
        · by_cases j2 : j.op = 2
          · simp [clash, tou, hx, hy, i3, j2]; omega
          · by_cases j3 : j.op = 3
            · simp [clash, tou, hx, hy, i3, j3]; omega
            · simp [clash, tou, hx, hy, i3, j9, j2, j3]; omega
      · by_cases j9 : j.op = 9 ∨ j.op = 10
        · simp [clash, tou, hx, hy, i9, i2, i3, j9]; omega
        · by_cases j2 : j.op = 2
          · simp [clash, tou, hx, hy, i9, i2, i3, j2]; omega
          · by_cases j3 : j.op = 3
            · simp [clash, tou, hx, hy, i9, i2, i3, j3]; omega
            · simp [clash, tou, hx, hy, i9, i2, i3, j9, j2, j3]; omega

/-- Who used what last tells the layer. -/
theorem ahead_lay (p : List (List Ins)) {past : List (Ev × Nat)} {x : Ev} (hx : x.bad = false) (hp : ∀ q ∈ past, q.1.bad = false) : aheadS (histOf p past) (usesE p x) 0 = layIn (depE p) past x := by
  have key : ∀ n, aheadS (histOf p past) (usesE p x) 0 ≤ n ↔ layIn (depE p) past x ≤ n := by
    intro n
    rw [aheadS_iff, layIn_iff]
    constructor
    · rintro ⟨_, h⟩ q hq hd
      obtain ⟨u, hu, h1⟩ := (dep_uses p hx (hp q hq)).1 hd
      have h2 := h u hu
      rcases h1 with h1 | ⟨h1, h3⟩
      · exact (histOf_iff p _ n past).1 h2.1 q hq h1
      · exact (histOf_iff p _ n past).1 (h2.2 h1) q hq h3
    · intro h
      refine ⟨Nat.zero_le _, fun u hu => ⟨(histOf_iff p _ n past).2 fun q hq h1 => ?_, fun hw => (histOf_iff p _ n past).2 fun q hq h1 => ?_⟩⟩
      · exact h q hq ((dep_uses p hx (hp q hq)).2 ⟨u, hu, Or.inl h1⟩)
      · exact h q hq ((dep_uses p hx (hp q hq)).2 ⟨u, hu, Or.inr ⟨hw, h1⟩⟩)
  have h1 := (key (layIn (depE p) past x)).2 (Nat.le_refl _)
  have h2 := (key (aheadS (histOf p past) (usesE p x) 0)).1 (Nat.le_refl _)
  omega

/-- How high the layers are. -/
def highOf : List (Ev × Nat) → Nat
  | [] => 0
  | q :: r => max (q.2 + 1) (highOf r)
theorem high_bad (p : List (List Ins)) {past : List (Ev × Nat)} {x : Ev} (hx : x.bad = true) : layIn (depE p) past x = highOf past := by
  induction past with
  | nil => rfl
  | cons q r ih =>
    unfold layIn highOf
    rw [if_pos (by simp [depE, hx]), ih]

/-- A layer is no more than the place. -/
theorem lay_lt {α : Type} (d : α → α → Bool) : ∀ (xs : List α) (past : List (α × Nat)) (m : Nat), (∀ q ∈ past, q.2 < m) → ∀ k q, (tl d past xs)[k]? = some q → q.2 ≤ m + k
  | [], past, m, _, k, q, h => by simp [tl] at h
  | x :: r, past, m, hm, k, q, h => by
    have hx : layIn d past x ≤ m := layIn_le d (fun y hy _ => hm y hy)
    cases k with
    | zero => simp [tl] at h; subst h; exact hx
    | succ k =>
      simp only [tl, List.getElem?_cons_succ] at h
      have := lay_lt d r _ (m + 1) (fun y hy => by
        rcases List.mem_cons.1 hy with hy | hy
        · subst hy; simp only; omega
        · have := hm y hy; omega) k q h
      omega

/-- All pairs, layer by layer, thread by thread, place by place. -/
def goThrough (n : Nat) (ks : List (Nat × Nat)) : List (Nat × Nat) := (List.range n).flatMap fun l => (List.range 4).flatMap fun t => ks.filter fun k => k.1 == l && k.2 == t

theorem pairwise_flatMap {β : Type} {R : β → β → Prop} {f : Nat → List β} {n : Nat} (h1 : ∀ l, l < n → (f l).Pairwise R) (h2 : ∀ l l', l < l' → l' < n → ∀ x ∈ f l, ∀ y ∈ f l', R x y) : ((List.range n).flatMap f).Pairwise R := by
  induction n with
  | zero => simp
  | succ n ih =>
    rw [List.range_succ, List.flatMap_append, List.pairwise_append]
    refine ⟨ih (fun l h => h1 l (by omega)) (fun l l' h h' => h2 l l' h (by omega)), by simpa using h1 n (by omega), fun x hx y hy => ?_⟩
    obtain ⟨l, hl, hx⟩ := List.mem_flatMap.1 hx
    simp at hy hl
    exact h2 l n hl (by omega) x hx y hy
theorem count_flat {f : Nat → List (Nat × Nat)} (q : Nat × Nat) (c : Nat) : ∀ {n : Nat} (_ : ∀ l, l < n → (f l).count q = if l = c then (f c).count q else 0), ((List.range n).flatMap f).count q = if c < n then (f c).count q else 0
  | 0, _ => by simp
  | n + 1, h => by
    rw [List.range_succ, List.flatMap_append, List.count_append, count_flat q c (fun l hl => h l (by omega))]
    have := h n (by omega)
    simp only [List.flatMap_cons, List.flatMap_nil, List.append_nil, this]
    by_cases e : n = c
    · subst e; simp
    · rw [if_neg e]
      by_cases e2 : c < n
      · rw [if_pos e2, if_pos (by omega)]; rfl
      · rw [if_neg e2, if_neg (by omega)]

theorem goThrough_perm {n : Nat} {ks : List (Nat × Nat)} (h : ∀ k ∈ ks, k.1 < n ∧ k.2 < 4) : (goThrough n ks).Perm ks := by
  rw [List.perm_iff_count]
  intro q
  have hin : ∀ l t, (ks.filter fun k => k.1 == l && k.2 == t).count q = if l = q.1 ∧ t = q.2 then ks.count q else 0 := by
    intro l t
    by_cases e : l = q.1 ∧ t = q.2
    · rw [if_pos e, List.count_filter (by simp [e.1, e.2])]
    · rw [if_neg e, List.count_eq_zero]
      intro hm
      have := (List.mem_filter.1 hm).2
      simp at this
      exact e ⟨this.1.symm, this.2.symm⟩
  have h2 : ∀ l, ((List.range 4).flatMap fun t => ks.filter fun k => k.1 == l && k.2 == t).count q = if l = q.1 then (if q.2 < 4 then ks.count q else 0) else 0 := by
    intro l
    rw [count_flat q q.2 (fun t _ => by rw [hin, hin]; by_cases e1 : l = q.1 <;> by_cases e2 : t = q.2 <;> simp [e1, e2]), hin]
    by_cases e1 : l = q.1 <;> simp [e1]
  unfold goThrough
  rw [count_flat q q.1 (fun l _ => by rw [h2, h2]; by_cases e1 : l = q.1 <;> simp [e1]), h2]
  simp only [if_true]
  by_cases hm : q ∈ ks
  · have := h q hm
    rw [if_pos this.1, if_pos this.2]
  · have : ks.count q = 0 := List.count_eq_zero.2 hm
    rw [this]; simp
theorem goThrough_sorted (n : Nat) (ks : List (Nat × Nat)) : (goThrough n ks).Pairwise leP := by
  have hm : ∀ l t x, x ∈ (ks.filter fun k => k.1 == l && k.2 == t) → x.1 = l ∧ x.2 = t := fun l t x hx => by
    have := (List.mem_filter.1 hx).2
    simpa using this
  refine pairwise_flatMap (fun l _ => pairwise_flatMap (fun t _ => ?_) (fun t t' h _ x hx y hy => ?_)) (fun l l' h _ x hx y hy => ?_)
  · refine List.Pairwise.imp_of_mem (R := fun _ _ => True) (fun {x y} hx hy _ => ?_) (List.pairwise_of_forall (fun _ _ => trivial))
    have h1 := hm l t x hx
    have h2 := hm l t y hy
    unfold leP; omega
  · have h1 := hm l t x hx
    have h2 := hm l t' y hy
    unfold leP; omega
  · obtain ⟨t, _, hx⟩ := List.mem_flatMap.1 hx
    obtain ⟨t', _, hy⟩ := List.mem_flatMap.1 hy
    have h1 := hm l t x hx
    have h2 := hm l' t' y hy
    unfold leP; omega

/-- The form, as the document's answer tells it. -/
theorem form_through {p : List (List Ins)} {xs : List Ev} (ht : ∀ e ∈ xs, e.t < 4) : formE p xs = (goThrough xs.length (keysE p xs)).map fun x => (x.2 : Int) := by
  unfold formE
  rw [sortK_one (goThrough_perm ?_).symm (goThrough_sorted _ _)]
  intro k hk
  unfold keysE at hk
  obtain ⟨q, hq, rfl⟩ := List.mem_map.1 hk
  obtain ⟨j, hj, rfl⟩ := List.getElem_of_mem hq
  have hj' : j < xs.length := by rwa [tl_length] at hj
  have := lay_lt (depE p) xs [] 0 (by simp) j _ (List.getElem?_eq_getElem hj)
  refine ⟨by simp only [keyE]; omega, ?_⟩
  have hm : ((tl (depE p) [] xs)[j]).1 ∈ xs := by
    have h1 : ((tl (depE p) [] xs)[j]).1 ∈ (tl (depE p) [] xs).map (·.1) := List.mem_map.2 ⟨_, List.getElem_mem hj, rfl⟩
    rwa [tl_fst] at h1
  exact ht _ hm

end Go.Proofs.YtklenjmfalljgaaGreatDoor

/- A history of uses in memory: a map whose keys are structs. -/
namespace Go.Proofs.YtklenjmfalljgaaGreatDoor
open Go.RowKit Go.Maps

abbrev Use := Nat × Nat × Bool
def useV (u : Use) : Value := .agg #[.int .i64 u.1, .int .i64 u.2.1, .bool u.2.2]
def useL (u : Use) : Lit := .string (keyBytes [.int .i64 u.1, .int .i64 u.2.1, .bool u.2.2])
def smallU (u : Use) : Prop := u.1 ≤ 1000 ∧ u.2.1 ≤ 1000

theorem law_use : Keyed Tryz.prog 220 := Keyed.of_law (deep_law_laid (by kernel_rfl) (m := Tryz.prog.types.size + 1) (of_decide_eq_true (by kernel_rfl)) (of_decide_eq_true (by kernel_rfl)) (by kernel_rfl) (by kernel_rfl))
theorem zero_int (w : World) : (zeroValue 3).run Tryz.prog w = .ok (.int .i64 0) w := by kernel_rfl

theorem wf_small {n : Nat} (h : n ≤ 1000000) : (Lit.int .i64 (n : Int)).wf = true := WalkArith.wf_i64 (by omega)

set_option maxRecDepth 100000 in
theorem use_key {u : Use} (h : smallU u) : keyOf Tryz.prog 220 (useV u) = some (useL u) := by
  have k1 : Tryz.prog.keyType 220 = true := by kernel_rfl
  have hw1 := wf_small (n := u.1) (by have := h.1; omega)
  have hw2 := wf_small (n := u.2.1) (by have := h.2; omega)
  obtain ⟨m, hm⟩ : ∃ m, Tryz.prog.types.size + 1 = m + 2 := ⟨Tryz.prog.types.size - 1, by have : 2 ≤ Tryz.prog.types.size := of_decide_eq_true (by kernel_rfl); omega⟩
  have c1 : Tryz.prog.cellsOf 220 = 3 := by kernel_rfl
  have c2 : Tryz.prog.cellsOf 218 = 1 := by kernel_rfl
  have c3 : Tryz.prog.cellsOf 3 = 1 := by kernel_rfl
  have c4 : Tryz.prog.cellsOf 4 = 1 := by kernel_rfl
  have l1 : Tryz.prog.keyLits (m + 1) 218 [.int .i64 (u.1 : Int)] = some [.int .i64 (u.1 : Int)] := by
    unfold Program.keyLits; rw [Tryz.underlying218]; simp only [hw1, and_self, if_true]
  have l2 : Tryz.prog.keyLits (m + 1) 3 [.int .i64 (u.2.1 : Int)] = some [.int .i64 (u.2.1 : Int)] := by
    unfold Program.keyLits; rw [Tryz.underlying3]; simp only [hw2, and_self, if_true]
  have l3 : Tryz.prog.keyLits (m + 1) 4 [.bool u.2.2] = some [.bool u.2.2] := by
    unfold Program.keyLits; rw [Tryz.underlying4]
  have top : Tryz.prog.keyLits (m + 2) 220 [.int .i64 (u.1 : Int), .int .i64 (u.2.1 : Int), .bool u.2.2] = some [.int .i64 (u.1 : Int), .int .i64 (u.2.1 : Int), .bool u.2.2] := by
    unfold Program.keyLits; rw [Tryz.underlying220]
    simp only
    rw [if_pos ⟨by rw [c1]; rfl, by simp⟩]
    simp only [List.mapM_cons, List.mapM_nil, c2, c3, c4, List.drop_zero, List.drop_succ_cons, List.take_succ_cons, List.take_zero, l1, l2, l3]
    rfl
  have hf : (useV u).formed Tryz.prog 220 = true := by
    unfold Value.formed useV
    rw [Tryz.underlying220]
    simp only [c1]
    rfl
  unfold keyOf
  rw [Tryz.underlying220]
  simp only [k1, hf, Bool.and_self, if_true, hm]
  have hc : (useV u).cells.toList = [.int .i64 (u.1 : Int), .int .i64 (u.2.1 : Int), .bool u.2.2] := rfl
  rw [hc, top]
  rfl

theorem useL_inj {u v : Use} (hu : smallU u) (hv : smallU v) (h : useL u = useL v) : u = v := by
  have h1 := use_key hu
  have h2 := use_key hv
  rw [← h] at h2
  have := law_use.inj h1 h2
  unfold useV at this
  simp at this
  obtain ⟨u1, u2, u3⟩ := u
  obtain ⟨v1, v2, v3⟩ := v
  simp at this ⊢
  exact ⟨by omega, by omega, this.2.2⟩

/-- The block b is a map that tells F. -/
def HistAt (w : World) (b n : Nat) (F : Use → Nat) : Prop :=
  ∃ D : DataW Unit, w.ownsMap Tryz.prog 220 (plainElem Tryz.prog 3) b n D ∧ ∀ u, smallU u → D.atKey (useL u) (.lit (.int .i64 0)) = .lit (.int .i64 (F u))

theorem HistAt.made (w : World) : HistAt (w.alloc (.map #[] 0)) w.heap.size 0 (fun _ => 0) := ⟨.map [], World.ownsMap_made _ _ _ _, fun _ _ => rfl⟩
theorem HistAt.kept {w w' : World} {b n : Nat} {F : Use → Nat} (h : HistAt w b n F) (hg : w.grownBy w' none) : HistAt w' b n F := by
  obtain ⟨D, h1, h2⟩ := h
  exact ⟨D, h1.kept hg (by simp), h2⟩
theorem HistAt.lt {w : World} {b n : Nat} {F : Use → Nat} (h : HistAt w b n F) : b < w.heap.size := by
  obtain ⟨D, h1, h2⟩ := h
  exact h1.lt
theorem HistAt.look {w : World} {b n : Nat} {F : Use → Nat} (h : HistAt w b n F) {u : Use} (hu : smallU u) :
    (Instr.lookup 193 (.map (some b)) (useV u) false).run Tryz.prog w = .ok (.int .i64 (F u)) w := by
  obtain ⟨D, h1, h2⟩ := h
  obtain ⟨c, hr, hat, _⟩ := h1.lookup_int law_use Tryz.underlying193 Tryz.underlying3 (zero_int w) (use_key hu)
  rw [h2 u hu] at hat
  simp at hat
  rw [hr, ← hat]
def putF (F : Use → Nat) (u : Use) (x : Nat) : Use → Nat := fun v => if v = u then x else F v
theorem HistAt.put {w : World} {b n : Nat} {F : Use → Nat} (h : HistAt w b n F) {u : Use} (hu : smallU u) {x : Nat} (hx : x ≤ 1000000) (hn : n ≤ 1000000) :
    ∃ w', (Instr.mapUpdate 193 (.map (some b)) (useV u) (.int .i64 (x : Int))).run Tryz.prog w = .ok () w' ∧ HistAt w' b (n + 1) (putF F u x) ∧ w.grownBy w' (some b) := by
  obtain ⟨D, h1, h2⟩ := h
  obtain ⟨w', hr, ho, hg⟩ := h1.update law_use Tryz.underlying193 (by unfold maxLen; omega) (use_key hu) (plainElem_int Tryz.underlying3 (wf_small hx))
  refine ⟨w', hr, ⟨_, ho, fun v hv => ?_⟩, hg⟩
  unfold putF
  by_cases e : v = u
  · subst e
    rw [if_pos rfl]
    refine atKey_put_same ?_ ?_ _ _
    · obtain ⟨es, _, _, _, _, rfl⟩ := h1; exact ⟨_, rfl⟩
    · exact trivial
  · rw [if_neg e, atKey_put_other (fun e2 => e (useL_inj hv hu e2))]
    exact h2 v hv

end Go.Proofs.YtklenjmfalljgaaGreatDoor

/- The walks of usesOf, ahead and enter. -/
namespace Go.Proofs.YtklenjmfalljgaaGreatDoor
open Go.RowKit Go.Maps
attribute [local go_sem] Go.World.cell?_alloc_some

/-- Uses in a row. -/
def UsesAt (w : World) (v : Value) (us : List Use) : Prop :=
  ∃ g cap, v = .slice (some ⟨g, 0, none⟩) us.length cap ∧ g < w.heap.size ∧ ∀ k (hk : k < us.length), w.cell? ⟨g, k * 3, none⟩ = some (.int .i64 (us[k].1 : Int)) ∧ w.cell? ⟨g, k * 3 + 1, none⟩ = some (.int .i64 (us[k].2.1 : Int)) ∧ w.cell? ⟨g, k * 3 + 2, none⟩ = some (.bool us[k].2.2)
theorem UsesAt.grown {w w' : World} {v : Value} {us : List Use} (h : UsesAt w v us) (hg : w.grownBy w' none) : UsesAt w' v us := by
  obtain ⟨g, cap, e, hl, h2⟩ := h
  refine ⟨g, cap, e, Nat.lt_of_lt_of_le hl hg.size, fun k hk => ?_⟩
  obtain ⟨a, b, c⟩ := h2 k hk
  exact ⟨pres_grown hg _ _ a, pres_grown hg _ _ b, pres_grown hg _ _ c⟩
theorem uses_one {W : World} {t : TypeId} {g : Nat} {u : Use} (hg : W.heap.size = g) : UsesAt (W.alloc (.cells #[.int .i64 (u.1 : Int), .int .i64 (u.2.1 : Int), .bool u.2.2] t)) (.slice (some ⟨g, 0, none⟩) 1 1) [u] := by
  subst hg
  have h := heap_alloc_new W (.cells #[.int .i64 (u.1 : Int), .int .i64 (u.2.1 : Int), .bool u.2.2] t)
  refine ⟨W.heap.size, 1, rfl, by simp, fun k hk => ?_⟩
  have hk0 : k = 0 := by simp at hk; omega
  subst hk0
  simp only [World.cell?, h]
  exact ⟨rfl, rfl, rfl⟩
theorem uses_two {W : World} {t : TypeId} {g : Nat} {u v : Use} (hg : W.heap.size = g) : UsesAt (W.alloc (.cells #[.int .i64 (u.1 : Int), .int .i64 (u.2.1 : Int), .bool u.2.2, .int .i64 (v.1 : Int), .int .i64 (v.2.1 : Int), .bool v.2.2] t)) (.slice (some ⟨g, 0, none⟩) 2 2) [u, v] := by
  subst hg
  have h := heap_alloc_new W (.cells #[.int .i64 (u.1 : Int), .int .i64 (u.2.1 : Int), .bool u.2.2, .int .i64 (v.1 : Int), .int .i64 (v.2.1 : Int), .bool v.2.2] t)
  refine ⟨W.heap.size, 2, rfl, by simp, fun k hk => ?_⟩
  have hk0 : k = 0 ∨ k = 1 := by simp at hk; omega
  rcases hk0 with rfl | rfl
  · simp only [World.cell?, h]
    exact ⟨rfl, rfl, rfl⟩
  · simp only [World.cell?, h]
    exact ⟨rfl, rfl, rfl⟩

set_option maxHeartbeats 1000000 in
set_option maxRecDepth 100000 in
theorem usesOf_m (t : Nat) (i : Ins) (w : World) (ha : 0 ≤ i.a) (hb : 0 ≤ i.b) :
    Calls Tryz.prog 107 #[.int .i64 (t : Int), .agg #[.int .i64 i.op, .int .i64 i.a, .int .i64 i.b, .int .i64 i.n]] w fun e w' => ∃ v, e = .returned v ∧ UsesAt w' v (usesI t i) ∧ w.grownBy w' none := by
  obtain ⟨op, a, b, n⟩ := i
  obtain ⟨a, rfl⟩ := Int.eq_ofNat_of_zero_le ha
  obtain ⟨b, rfl⟩ := Int.eq_ofNat_of_zero_le hb
  simp only
  have HG : Hid (∀ x y z, w.grownBy (((w.alloc x).alloc y).alloc z) none) := fun x y z => grown_alloc (grown_alloc (grown_alloc (grown_refl _ _)))
  by_cases h9 : op = 9 ∨ op = 10
  · have HU : Hid (usesI t ⟨op, a, b, n⟩ = [(0, t, true), (2, a, true)]) := by unfold Hid usesI; simp [h9]
    rcases h9 with rfl | rfl
    · go_enter Tryz.func107, Tryz.ntmps107
      go_wp2_with fail
      go_ret
      exact ⟨_, rfl, by rw [HU.out]; exact uses_two (u := (0, t, true)) (v := (2, a, true)) (by simp), HG.out _ _ _⟩
    · go_enter Tryz.func107, Tryz.ntmps107
      go_wp2_with fail
      go_ret
      exact ⟨_, rfl, by rw [HU.out]; exact uses_two (u := (0, t, true)) (v := (2, a, true)) (by simp), HG.out _ _ _⟩
  · by_cases h2 : op = 2
    · have HU : Hid (usesI t ⟨op, a, b, n⟩ = [(0, t, true), (1, b, false)]) := by unfold Hid usesI; simp [h2]
      subst h2
      go_enter Tryz.func107, Tryz.ntmps107
      go_wp2_with fail
      go_ret
      exact ⟨_, rfl, by rw [HU.out]; exact uses_two (u := (0, t, true)) (v := (1, b, false)) (by simp), HG.out _ _ _⟩
    · by_cases h3 : op = 3
      · have HU : Hid (usesI t ⟨op, a, b, n⟩ = [(0, t, true), (1, a, true)]) := by unfold Hid usesI; simp [h3]
        subst h3
        go_enter Tryz.func107, Tryz.ntmps107
        go_wp2_with fail
        go_ret
        exact ⟨_, rfl, by rw [HU.out]; exact uses_two (u := (0, t, true)) (v := (1, a, true)) (by simp), HG.out _ _ _⟩
      · have HU : Hid (usesI t ⟨op, a, b, n⟩ = [(0, t, true)]) := by unfold Hid usesI; simp [h9, h2, h3]
        have e2 : (op == 2) = false := by simpa using h2
        have e3 : (op == 3) = false := by simpa using h3
        have e9 : (op == 9) = false := by simp; omega
        have e10 : (op == 10) = false := by simp; omega
        clear h9 h2 h3
        go_enter Tryz.func107, Tryz.ntmps107
        go_wp2_with fail
        go_ret
        exact ⟨_, rfl, by rw [HU.out]; exact uses_one (u := (0, t, true)) (by simp), HG.out _ _ _⟩

theorem aheadS_small (F : Use → Nat) (hF : ∀ u, F u ≤ 1000) : ∀ (us : List Use) (n : Nat), n ≤ 1000 → aheadS F us n ≤ 1000
  | [], n, h => h
  | u :: r, n, h => by
    unfold aheadS
    have h1 := hF (u.1, u.2.1, true)
    have h2 := hF (u.1, u.2.1, false)
    exact aheadS_small F hF r _ (by split <;> omega)

set_option maxHeartbeats 2000000 in
set_option maxRecDepth 100000 in
theorem ahead_m {w : World} {b n : Nat} {F : Use → Nat} (hH : HistAt w b n F) (hF : ∀ u, F u ≤ 1000) (us : List Use) (hus : ∀ u ∈ us, smallU u) (v : Value) (hU : UsesAt w v us) (hl : us.length ≤ 10) :
    Calls Tryz.prog 108 #[.map (some b), v] w fun e w' => e = .returned (.int .i64 (aheadS F us 0 : Nat)) ∧ w.grownBy w' none := by
  obtain ⟨g, cap, rfl, hg, hc⟩ := hU
  have HH := hide hH
  have HF := hide hF
  have HS := hide hus
  have HC := hide hc
  have hl' : (us.length : Int) ≤ 10 := by omega
  clear hH hF hus hc
  go_enter Tryz.func108, Tryz.ntmps108
  go_wp2_with fail
  go_loopw [5, 10] (fun x i w' => ∃ k m : Nat, k ≤ us.length ∧ i = .int .i64 k ∧ x = .int .i64 m ∧ m ≤ 1000 ∧ Hid (w.grownBy w' none) ∧ Hid (aheadS F us 0 = aheadS F (us.drop k) m)) (fun _ i _ => us.length - (intOf i).toNat)
  case atStart => exact ⟨0, 0, Nat.zero_le _, rfl, rfl, by omega, grown_refl _ _, rfl⟩
  case round =>
    obtain ⟨k, m, hk, rfl, rfl, hm, HG, HA⟩ := hrel
    obtain ⟨w5, hw5⟩ : ∃ w5, w5 = wr := ⟨_, rfl⟩
    rw [← hw5] at HG ⊢
    clear hw5
    by_cases hlt : k < us.length
    · obtain ⟨c0, c1, c2⟩ := HC.out k hlt
      have d0 := pres_grown HG.out _ _ c0
      have d1 := pres_grown HG.out _ _ c1
      have d2 := pres_grown HG.out _ _ c2
      have HST : Hid (aheadS F us 0 = aheadS F (us.drop (k + 1)) (if us[k].2.2 = true then max (max m (F (us[k].1, us[k].2.1, true))) (F (us[k].1, us[k].2.1, false)) else max m (F (us[k].1, us[k].2.1, true)))) := by
        unfold Hid
        rw [HA.out, List.drop_eq_getElem_cons hlt, aheadS]
      have hsm := HS.out _ (List.getElem_mem hlt)
      have HLT : Hid (∀ u, w5.grownBy u none → (Instr.lookup 193 (.map (some b)) (.agg #[.int .i64 (us[k].1 : Int), .int .i64 (us[k].2.1 : Int), .bool true]) false).run Tryz.prog u = .ok (.int .i64 (F (us[k].1, us[k].2.1, true))) u) := fun u hu => ((HH.out.kept HG.out).kept hu).look (u := (us[k].1, us[k].2.1, true)) hsm
      have HLF : Hid (∀ u, w5.grownBy u none → (Instr.lookup 193 (.map (some b)) (.agg #[.int .i64 (us[k].1 : Int), .int .i64 (us[k].2.1 : Int), .bool false]) false).run Tryz.prog u = .ok (.int .i64 (F (us[k].1, us[k].2.1, false))) u) := fun u hu => ((HH.out.kept HG.out).kept hu).look (u := (us[k].1, us[k].2.1, false)) hsm
      have hft := HF.out (us[k].1, us[k].2.1, true)
      have hff := HF.out (us[k].1, us[k].2.1, false)
      clear c0 c1 c2 hsm HA
      generalize us[k] = u at *
      obtain ⟨u1, u2, u3⟩ := u
      simp only at *
      generalize F (u1, u2, true) = ft at *
      generalize F (u1, u2, false) = ff at *
      have k0 : (0 : Int) ≤ (k : Int) := by omega
      have k1 : (k : Int) < us.length := by omega
      have rt := HLT.out (w5.alloc (.cells #[.int .i64 (u1 : Int), .int .i64 (u2 : Int), .bool u3] 220)) (grown_alloc (grown_refl _ _))
      have rf := HLF.out (w5.alloc (.cells #[.int .i64 (u1 : Int), .int .i64 (u2 : Int), .bool u3] 220)) (grown_alloc (grown_refl _ _))
      clear HLT HLF
      cases u3
      · simp only [Bool.false_eq_true, if_false] at HST
        go_wp2_with fail
        go_roundw
        case rel => exact ⟨k + 1, max m ft, by omega, by go_num, by congr 1; (repeat' split) <;> omega, by omega, grown_alloc HG.out, HST⟩
        case measure => simp [intOf]; omega
      · simp only [if_true] at HST
        go_wp2_with fail
        go_roundw
        case rel => exact ⟨k + 1, max (max m ft) ff, by omega, by go_num, by congr 1; (repeat' split) <;> omega, by omega, grown_alloc HG.out, HST⟩
        case measure => simp [intOf]; omega
    · have k1 : (us.length : Int) ≤ (k : Int) := by omega
      have HE : Hid (aheadS F us 0 = m) := by
        unfold Hid; rw [HA.out, List.drop_of_length_le (by omega)]; rfl
      go_wp2_with fail
      go_ret
      exact ⟨by rw [HE.out]; rfl, HG.out⟩

end Go.Proofs.YtklenjmfalljgaaGreatDoor

/- The walk of enter. -/
namespace Go.Proofs.YtklenjmfalljgaaGreatDoor
open Go.RowKit Go.Maps
attribute [local go_sem] Go.World.cell?_alloc_some

theorem HistAt.nocell {w : World} {b n : Nat} {F : Use → Nat} (h : HistAt w b n F) (o : Nat) : w.cell? ⟨b, o, none⟩ = none := by
  obtain ⟨D, ⟨es, cl, hb, _⟩, _⟩ := h
  simp [World.cell?, hb]

def enterF (x : Nat) : List Use → (Use → Nat) → Use → Nat
  | [], F => F
  | u :: r, F => enterF x r (putF F u (max (F u) x))
theorem enterF_eq (x : Nat) : ∀ (us : List Use) (F : Use → Nat) (v : Use), enterF x us F v = if v ∈ us then max (F v) x else F v
  | [], F, v => by simp [enterF]
  | u :: r, F, v => by
    unfold enterF
    rw [enterF_eq x r]
    unfold putF
    by_cases e : v = u
    · subst e
      simp
    · simp [e]
theorem enterF_snoc (x : Nat) (us : List Use) (u : Use) (F : Use → Nat) : enterF x (us ++ [u]) F = putF (enterF x us F) u (max (enterF x us F u) x) := by
  induction us generalizing F with
  | nil => rfl
  | cons a r ih => simp only [List.cons_append, enterF]; exact ih _

set_option maxHeartbeats 2000000 in
set_option maxRecDepth 100000 in
theorem enter_m {w : World} {b n : Nat} {F : Use → Nat} (hH : HistAt w b n F) (hF : ∀ u, F u ≤ 1000) (hn : n ≤ 100000) (us : List Use) (hus : ∀ u ∈ us, smallU u) (v : Value) (hU : UsesAt w v us) (hl : us.length ≤ 10) (layer : Nat) (hla : layer ≤ 900) :
    Calls Tryz.prog 109 #[.map (some b), v, .int .i64 (layer : Int)] w fun e w' => (∃ v, e = .returned v) ∧ HistAt w' b (n + us.length) (enterF (layer + 1) us F) ∧ w.grownBy w' (some b) := by
  obtain ⟨g, cap, rfl, hg, hc⟩ := hU
  have HH := hide hH
  have HF := hide hF
  have HS := hide hus
  have HC := hide hc
  have hl' : (us.length : Int) ≤ 10 := by omega
  have hla' : (layer : Int) ≤ 900 := by omega
  have hla0 : (0 : Int) ≤ (layer : Int) := by omega
  have hbw := hH.lt
  clear hH hF hus hc
  go_enter Tryz.func109, Tryz.ntmps109
  go_wp2_with fail
  go_loopw [10] (fun i w' => ∃ k : Nat, k ≤ us.length ∧ i = .int .i64 k ∧ Hid (HistAt w' b (n + k) (enterF (layer + 1) (us.take k) F)) ∧ Hid (w.grownBy w' (some b))) (fun i _ => us.length - (intOf i).toNat)
  case atStart => exact ⟨0, Nat.zero_le _, rfl, HH, grown_refl _ _⟩
  case round =>
    obtain ⟨k, hk, rfl, HI, HG⟩ := hrel
    obtain ⟨w5, hw5⟩ : ∃ w5, w5 = wr := ⟨_, rfl⟩
    rw [← hw5] at HI HG ⊢
    clear hw5
    by_cases hlt : k < us.length
    · obtain ⟨c0, c1, c2⟩ := HC.out k hlt
      have hgb : g ≠ b := fun e => by
        have := HH.out.nocell (k * 3)
        rw [← e, c0] at this; cases this
      have hblk := HG.out.block g hg (by simpa using hgb)
      have d0 : w5.cell? ⟨g, k * 3, none⟩ = some (.int .i64 (us[k].1 : Int)) := by rw [World.cell?_of_block hblk]; exact c0
      have d1 : w5.cell? ⟨g, k * 3 + 1, none⟩ = some (.int .i64 (us[k].2.1 : Int)) := by rw [World.cell?_of_block hblk]; exact c1
      have d2 : w5.cell? ⟨g, k * 3 + 2, none⟩ = some (.bool us[k].2.2) := by rw [World.cell?_of_block hblk]; exact c2
      have hsm := HS.out _ (List.getElem_mem hlt)
      have HNX : Hid (enterF (layer + 1) (us.take (k + 1)) F = putF (enterF (layer + 1) (us.take k) F) us[k] (max (enterF (layer + 1) (us.take k) F us[k]) (layer + 1))) := by
        unfold Hid; rw [List.take_succ_eq_append_getElem hlt, enterF_snoc]
      have hfx : enterF (layer + 1) (us.take k) F us[k] ≤ 1000 := by
        rw [enterF_eq]
        have := HF.out us[k]
        split <;> omega
      have hbw5 := HI.out.lt
      clear c0 c1 c2 hblk
      generalize us[k] = u at *
      obtain ⟨u1, u2, u3⟩ := u
      simp only at d0 d1 d2
      generalize enterF (layer + 1) (us.take k) F = G at *
      generalize hfv : G (u1, u2, u3) = fv at *
      have HFV := hide hfv
      clear hfv
      have k0 : (0 : Int) ≤ (k : Int) := by omega
      have k1 : (k : Int) < us.length := by omega
      have HI6 : Hid (HistAt (w5.alloc (.cells #[.int .i64 (u1 : Int), .int .i64 (u2 : Int), .bool u3] 220)).drew b (n + k) G) := HI.out.kept (grown_drew (grown_alloc (grown_refl _ _)))
      obtain ⟨w7, hup, hH7, hg7⟩ := HI6.out.put (u := (u1, u2, u3)) hsm (x := max fv (layer + 1)) (by omega) (by omega)
      have HH7 : Hid (HistAt w7 b (n + (k + 1)) (enterF (layer + 1) (us.take (k + 1)) F)) := by
        unfold Hid; rw [HNX.out]; exact hH7
      have HG7 : Hid (w.grownBy w7 (some b)) := grown_trans HG.out (grown_trans (grown_drew (grown_alloc (grown_refl _ _))) hg7)
      have hmx : (if (fv : Int) < (layer : Int) + 1 then ((layer : Int) + 1) else (fv : Int)) = ((max fv (layer + 1) : Nat) : Int) := by split <;> omega
      clear hH7 hg7 HNX
      have hX : (w5.alloc (.cells #[.int .i64 (u1 : Int), .int .i64 (u2 : Int), .bool u3] 220)).drew.heap[w5.heap.size]? = some (.cells #[.int .i64 (u1 : Int), .int .i64 (u2 : Int), .bool u3] 220) := heap_alloc_new w5 _
      go_upto_region 3 with fail
      refine wp_region_head (fun u => (u.cell? ⟨w5.heap.size, 0, none⟩ = some (.int .i64 (u1 : Int)) ∧ u.cell? ⟨w5.heap.size, 1, none⟩ = some (.int .i64 (u2 : Int)) ∧ u.cell? ⟨w5.heap.size, 2, none⟩ = some (.bool u3)) ∧ HistAt u b (n + k) G) 8 (by kernel_rfl) (by kernel_rfl) ⟨⟨by simp only [World.cell?, hX]; rfl, by simp only [World.cell?, hX]; rfl, by simp only [World.cell?, hX]; rfl⟩, HI6.out⟩ ?_
      intro hHeld
      have hwr : IntKind.i64.wrap ((layer : Int) + 1) = (layer : Int) + 1 := by rw [IntKind.wrap_i64]; omega
      refine wpHead_take (i := 0) (v := ?vva0) rfl (by kernel_rfl) (fun _ _ _ h => h) (Or.inl ⟨by rfl, ?hya0⟩) hHeld ?resta0
      case hya0 => (rintro u ⟨⟨hu0, hu1, hu2⟩, hu3⟩; go_simp; try with_reducible rfl)
      simp only [Act.put, List.setIfInBounds_toArray]
      refine wpHead_take (i := 1) (v := ?vva1) rfl (by kernel_rfl) (fun _ _ _ h => h) (Or.inl ⟨by rfl, ?hya1⟩) hHeld ?resta1
      case hya1 => (rintro u ⟨⟨hu0, hu1, hu2⟩, hu3⟩; go_simp; try with_reducible rfl)
      simp only [Act.put]
      refine wpHead_take (i := 2) (v := ?vva2) rfl (by kernel_rfl) (fun _ _ _ h => h) (Or.inl ⟨by rfl, ?hya2⟩) hHeld ?resta2
      case hya2 => (rintro u ⟨⟨hu0, hu1, hu2⟩, hu3⟩; go_simp; try with_reducible rfl)
      simp only [Act.put]
      refine wpHead_take (i := 3) (v := ?vva3) rfl (by kernel_rfl) (fun _ _ _ h => h) (Or.inl ⟨by rfl, ?hya3⟩) hHeld ?resta3
      case hya3 => (rintro u ⟨⟨hu0, hu1, hu2⟩, hu3⟩; go_simp; try with_reducible rfl)
      simp only [Act.put]
      refine wpHead_take (i := 4) (v := .int .i64 (fv : Int)) rfl (by kernel_rfl) (fun _ _ _ h => h) (Or.inl ⟨by rfl, ?hya4⟩) hHeld ?resta4
      case hya4 => (rintro u ⟨⟨hu0, hu1, hu2⟩, hu3⟩; have hr := hu3.look (u := (u1, u2, u3)) hsm; rw [HFV.out] at hr; unfold useV at hr; clear hu3; go_simp)
      simp only [Act.put]
      refine wpHead_take (i := 5) (v := ?vva5) rfl (by kernel_rfl) (fun _ _ _ h => h) (Or.inl ⟨by rfl, ?hya5⟩) hHeld ?resta5
      case hya5 => (rintro u ⟨⟨hu0, hu1, hu2⟩, hu3⟩; go_simp; try with_reducible rfl)
      simp only [Act.put]
      refine wpHead_take (i := 6) (v := .int .i64 ((layer : Int) + 1)) rfl (by kernel_rfl) (fun _ _ _ h => h) (Or.inl ⟨by rfl, ?hya6⟩) hHeld ?resta6
      case hya6 => (rintro u ⟨⟨hu0, hu1, hu2⟩, hu3⟩; go_simp; try rw [hwr])
      simp only [Act.put]
      refine wpHead_take (i := 7) (v := .int .i64 ((max fv (layer + 1) : Nat) : Int)) rfl (by kernel_rfl) (fun _ _ _ h => h) (Or.inl ⟨by rfl, ?hya7⟩) hHeld ?resta7
      case hya7 => (rintro u ⟨⟨hu0, hu1, hu2⟩, hu3⟩; clear hu3; go_simp; try rw [hmx])
      simp only [Act.put]
      refine wpHead_last rfl (by kernel_rfl) (by kernel_rfl) (by rfl) ?_
      unfold useV at hup
      go_simp
      clear hHeld hup HI6 hwr hmx hX
      go_wp2_with fail
      go_roundw
      case rel => exact ⟨k + 1, by omega, by go_num, HH7, HG7⟩
      case measure => simp [intOf]; omega
    · have k1 : (us.length : Int) ≤ (k : Int) := by omega
      have ek : k = us.length := by omega
      have HE : Hid (HistAt w5 b (n + us.length) (enterF (layer + 1) us F)) := by
        have := HI.out
        rwa [List.take_of_length_le (by omega), ek] at this
      go_wp2_with fail
      go_end0
      exact ⟨⟨_, rfl⟩, HE.out, HG.out⟩

end Go.Proofs.YtklenjmfalljgaaGreatDoor

/- Layers, step by step; the steps of a run are steps of the program (no dump is named here). -/
namespace Go.Proofs.YtklenjmfalljgaaGreatDoor

theorem histOf_snoc (p : List (List Ins)) (q : Ev × Nat) (u : Nat × Nat × Bool) : ∀ L, histOf p (L ++ [q]) u = if u ∈ usesE p q.1 then max (histOf p L u) (q.2 + 1) else histOf p L u
  | [] => by simp [histOf]
  | y :: r => by
    simp only [List.cons_append, histOf, histOf_snoc p q u r]
    split <;> split <;> omega
theorem highOf_snoc (q : Ev × Nat) : ∀ L, highOf (L ++ [q]) = max (highOf L) (q.2 + 1)
  | [] => by simp [highOf]
  | y :: r => by
    simp only [List.cons_append, highOf, highOf_snoc q r]
    omega
theorem histOf_le (p : List (List Ins)) (xs : List Ev) (u : Nat × Nat × Bool) : histOf p (tl (depE p) [] xs) u ≤ xs.length := by
  rw [histOf_iff]
  intro q hq _
  obtain ⟨j, hj, rfl⟩ := List.getElem_of_mem hq
  have := lay_lt (depE p) xs [] 0 (by simp) j _ (List.getElem?_eq_getElem hj)
  rw [tl_length] at hj
  omega
theorem highOf_le (p : List (List Ins)) (xs : List Ev) : highOf (tl (depE p) [] xs) ≤ xs.length := by
  have key : ∀ (L : List (Ev × Nat)) (n : Nat), (∀ q ∈ L, q.2 + 1 ≤ n) → highOf L ≤ n := by
    intro L n
    induction L with
    | nil => simp [highOf]
    | cons y r ih =>
      intro h
      unfold highOf
      have h1 := h y (List.mem_cons_self ..)
      have h2 := ih (fun q hq => h q (List.mem_cons_of_mem _ hq))
      omega
  apply key
  intro q hq
  obtain ⟨j, hj, rfl⟩ := List.getElem_of_mem hq
  have := lay_lt (depE p) xs [] 0 (by simp) j _ (List.getElem?_eq_getElem hj)
  rw [tl_length] at hj
  omega
theorem lay_le (p : List (List Ins)) (xs : List Ev) (x : Ev) : layIn (depE p) (tl (depE p) [] xs) x ≤ xs.length := by
  apply layIn_le
  intro q hq _
  obtain ⟨j, hj, rfl⟩ := List.getElem_of_mem hq
  have := lay_lt (depE p) xs [] 0 (by simp) j _ (List.getElem?_eq_getElem hj)
  rw [tl_length] at hj
  omega

/-- The steps of a run, with what can be said of each. -/
structure Stood (p : List (List Ins)) (o : Out) (xs : List Ev) : Prop where
  ev : evsOf o = xs
  st : o.steps = xs.map Ev.pr
  th : ∀ e ∈ xs, e.t < p.length ∧ 0 ≤ e.k ∧ e.k < (codeOf p e.t).length
  gd : ∀ i (hi : i < xs.length), xs[i].bad = (decide (o.kind = 1) && decide (i + 1 = xs.length))

theorem run_places {p : List (List Ins)} (hp : vProg p = true) : ∀ (xs : List Ev) (s s' : St), Inv p s → RunE p s xs s' → ∀ e ∈ xs, e.t < p.length ∧ 0 ≤ e.k ∧ e.k < (codeOf p e.t).length
  | [], _, _, _, _, e, he => by cases he
  | x :: r, s, s', hI, ⟨hx, hr⟩, e, he => by
    obtain ⟨h1, h2, h3, h4⟩ := hx
    have hd : doneB p s x.t = false := by
      cases hd : doneB p s x.t with
      | false => rfl
      | true => simp [readyB, hd] at h2
    rcases List.mem_cons.1 he with he | he
    · subst he
      have hn := hI e.t h1
      have hne : s.next e.t ≠ ((codeOf p e.t).length : Int) := by simpa [doneB] using hd
      rw [h3] at hn hne
      exact ⟨h1, hn.1, by omega⟩
    · exact run_places hp r _ s' (Inv.step hp hI h1 hd) hr e he

theorem stood_of {p : List (List Ins)} (hp : vProg p = true) (s : List Int) : ∃ xs, Stood p (runS p s) xs := by
  have hc := follow_cases p s 0 St.zero []
  change ∃ xs s', RunE p St.zero xs s' ∧ (runS p s).steps = [] ++ xs.map Ev.pr ∧ (runS p s).st = s' ∧ ((good xs ∧ xs.map Ev.tI = s ∧ (runS p s).kind = endingS p s' ∧ (runS p s).thread = 0 ∧ (runS p s).at_ = 0) ∨ (good xs ∧ (∃ u r, s = xs.map Ev.tI ++ u :: r ∧ okAt p s' u = false) ∧ (runS p s).kind = 2 ∧ (runS p s).thread = 0 ∧ (runS p s).at_ = 0 + xs.length) ∨ (∃ ys z r, xs = ys ++ [z] ∧ good ys ∧ z.bad = true ∧ s = xs.map Ev.tI ++ r ∧ (runS p s).kind = 1 ∧ (runS p s).thread = z.tI ∧ (runS p s).at_ = z.k)) at hc
  obtain ⟨xs, s', hr, hs, hst, hc⟩ := hc
  rw [List.nil_append] at hs
  have hth := run_places hp xs St.zero s' (Inv.zero p) hr
  refine ⟨xs, ?_⟩
  have hgood : good xs → (runS p s).kind ≠ 1 → Stood p (runS p s) xs := fun g hk => by
    refine ⟨evsOf_good hk hs g, hs, hth, fun i hi => ?_⟩
    rw [g _ (List.getElem_mem hi)]; simp [hk]
  rcases hc with ⟨g1, _, g3, _⟩ | ⟨g1, _, g3, _⟩ | ⟨us, z, r, g1, g2, g3, _, g5, _⟩
  · exact hgood g1 (by have := endingS_range p s'; omega)
  · exact hgood g1 (by omega)
  · subst g1
    refine ⟨evsOf_bad g5 hs g2 g3, hs, hth, fun i hi => ?_⟩
    by_cases e : i = us.length
    · subst e; simp [g3, g5]
    · have hi' : i < us.length := by simp at hi; omega
      rw [List.getElem_append_left hi', g2 _ (List.getElem_mem hi')]
      simp; intro _; omega

/-- The layer of the next step, as who used what tells it. -/
theorem lay_next {p : List (List Ins)} {o : Out} {xs : List Ev} (h : Stood p o xs) {i : Nat} (hi : i < xs.length) :
    layIn (depE p) (tl (depE p) [] (xs.take i)) xs[i] = if o.kind = 1 ∧ i + 1 = xs.length then highOf (tl (depE p) [] (xs.take i)) else aheadS (histOf p (tl (depE p) [] (xs.take i))) (usesE p xs[i]) 0 := by
  have hg := h.gd i hi
  by_cases e : o.kind = 1 ∧ i + 1 = xs.length
  · rw [if_pos e, high_bad p (by rw [hg]; simp [e])]
  · rw [if_neg e, ahead_lay p (by rw [hg]; simp; omega)]
    intro q hq
    have hm : q.1 ∈ xs.take i := by
      have h1 : q.1 ∈ (tl (depE p) [] (xs.take i)).map (·.1) := List.mem_map.2 ⟨q, hq, rfl⟩
      rwa [tl_fst] at h1
    obtain ⟨j, hj, hj2⟩ := List.getElem_of_mem hm
    have hj' : j < i := by simp at hj; omega
    have hjx : j < xs.length := by omega
    have e1 : q.1 = xs[j] := by rw [← hj2]; simp
    rw [e1, h.gd j hjx]
    simp; intro _; omega
theorem keys_next {p : List (List Ins)} {xs : List Ev} {i : Nat} (hi : i < xs.length) : tl (depE p) [] (xs.take (i + 1)) = tl (depE p) [] (xs.take i) ++ [(xs[i], layIn (depE p) (tl (depE p) [] (xs.take i)) xs[i])] := by
  rw [List.take_succ_eq_append_getElem hi, tl_snoc]

end Go.Proofs.YtklenjmfalljgaaGreatDoor
