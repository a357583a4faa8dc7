/- The texts Pure Reg Clo Clo2 Clo3 Clo4 Mem Act. -/
import Derived.RowKit
import Derived.StillTailTactics
import Derived.OrdersHeld
import Derived.Test.YtklenjmfalljgaaGreatDoorProg
import Derived.WalkKit
import Derived.WalkSpells
import Derived.WalkLawsBesides
import Derived.RegionTactic
import Derived.BigRegion
import Derived.ChangeAlike
import Derived.BigQuiet
import Derived.Deep.QuietTactic
import Derived.Deep.RegionHeld3
import Derived.Laws.Rows

/- What the machine does, as plain functions on lists and numbers (no dump is named here). -/
namespace Go.Proofs.YtklenjmfalljgaaGreatDoor
open Go.RowKit (wrap64)

structure Ins where
  op : Int
  a : Int
  b : Int
  n : Int

structure St where
  vars : Nat → Int
  held : Nat → Bool
  own : Nat → Int
  regs : Nat → Nat → Int
  next : Nat → Int

def St.zero : St := ⟨fun _ => 0, fun _ => false, fun _ => 0, fun _ _ => 0, fun _ => 0⟩
def St.setReg (s : St) (t r : Nat) (v : Int) : St := ⟨s.vars, s.held, s.own, fun t' r' => if t' = t ∧ r' = r then v else s.regs t' r', s.next⟩
def St.setVar (s : St) (x : Nat) (v : Int) : St := ⟨fun x' => if x' = x then v else s.vars x', s.held, s.own, s.regs, s.next⟩
def St.setNext (s : St) (t : Nat) (v : Int) : St := ⟨s.vars, s.held, s.own, s.regs, fun t' => if t' = t then v else s.next t'⟩
def St.setLock (s : St) (l : Nat) (h : Bool) (o : Int) : St := ⟨s.vars, fun l' => if l' = l then h else s.held l', fun l' => if l' = l then o else s.own l', s.regs, s.next⟩

/-- What an instruction of thread t does (its next one is set already). -/
def act (t : Nat) (i : Ins) (s : St) : Bool × St :=
  if i.op = 1 then (true, s.setReg t i.a.toNat i.n)
  else if i.op = 2 then (true, s.setReg t i.a.toNat (s.vars i.b.toNat))
  else if i.op = 3 then (true, s.setVar i.a.toNat (s.regs t i.b.toNat))
  else if i.op = 4 then (true, s.setReg t i.a.toNat (wrap64 (s.regs t i.a.toNat + s.regs t i.b.toNat)))
  else if i.op = 5 then (true, s.setReg t i.a.toNat (wrap64 (s.regs t i.a.toNat - s.regs t i.b.toNat)))
  else if i.op = 6 then (true, s.setReg t i.a.toNat (wrap64 (s.regs t i.a.toNat * s.regs t i.b.toNat)))
  else if i.op = 7 then (if s.regs t i.b.toNat = 0 then (false, s) else (true, s.setReg t i.a.toNat (wrap64 ((s.regs t i.a.toNat).tdiv (s.regs t i.b.toNat)))))
  else if i.op = 8 then (true, if s.regs t i.a.toNat = 0 then s.setNext t i.n else s)
  else if i.op = 9 then (true, s.setLock i.a.toNat true t)
  else if i.op = 10 then (if s.held i.a.toNat = true ∧ s.own i.a.toNat = t then (true, s.setLock i.a.toNat false 0) else (false, s))
  else (s.regs t i.a.toNat != 0, s)

def shp (op j : Nat) : Int :=
  ((([[0, 0, 0], [1, 0, 5], [1, 2, 0], [2, 1, 0], [1, 1, 0], [1, 1, 0], [1, 1, 0], [1, 1, 0], [1, 0, 4], [3, 0, 0], [3, 0, 0], [1, 0, 0]] : List (List Int))[op]?).getD [])[j]?.getD 0

def belowB (x n : Int) : Bool := decide (0 ≤ x) && decide (x < n)

def fitsB (k x len : Int) : Bool :=
  if k = 1 then belowB x 4 else if k = 2 then belowB x 4 else if k = 3 then belowB x 3 else if k = 4 then belowB x (len + 1) else if k = 5 then true else (x == 0)

def vIns (i : Ins) (len : Int) : Bool :=
  decide (1 ≤ i.op) && (decide (i.op ≤ 11) && (fitsB (shp i.op.toNat 0) i.a len && (fitsB (shp i.op.toNat 1) i.b len && fitsB (shp i.op.toNat 2) i.n len)))

def vCode (c : List Ins) : Bool := decide (c.length ≤ 16) && c.all fun i => vIns i c.length
def vProg (p : List (List Ins)) : Bool := decide (1 ≤ p.length) && (decide (p.length ≤ 4) && p.all vCode)

def codeOf (p : List (List Ins)) (t : Nat) : List Ins := (p[t]?).getD []
def insAt (p : List (List Ins)) (t : Nat) (k : Int) : Ins := ((codeOf p t)[k.toNat]?).getD ⟨0, 0, 0, 0⟩
def doneB (p : List (List Ins)) (s : St) (t : Nat) : Bool := s.next t == ((codeOf p t).length : Int)
def readyB (p : List (List Ins)) (s : St) (t : Nat) : Bool := !doneB p s t && (!((insAt p t (s.next t)).op == 9) || !s.held (insAt p t (s.next t)).a.toNat)
def stepS (p : List (List Ins)) (s : St) (t : Nat) : Bool × St := act t (insAt p t (s.next t)) (s.setNext t (s.next t + 1))
def endingS (p : List (List Ins)) (s : St) : Int :=
  if (List.range p.length).any (readyB p s) then 5 else if (List.range p.length).all (doneB p s) then 3 else 4

def okAt (p : List (List Ins)) (s : St) (t : Int) : Bool := belowB t p.length && readyB p s t.toNat

structure Out where
  steps : List (Int × Int)
  kind : Int
  thread : Int
  at_ : Int
  st : St

def follow (p : List (List Ins)) : List Int → Int → St → List (Int × Int) → Out
  | [], _, s, acc => ⟨acc, endingS p s, 0, 0, s⟩
  | t :: r, i, s, acc =>
    if okAt p s t = true then
      (if (stepS p s t.toNat).1 = true then follow p r (i + 1) (stepS p s t.toNat).2 (acc ++ [(t, s.next t.toNat)])
       else ⟨acc ++ [(t, s.next t.toNat)], 1, t, s.next t.toNat, (stepS p s t.toNat).2⟩)
    else ⟨acc, 2, 0, i, s⟩

def runS (p : List (List Ins)) (sch : List Int) : Out := follow p sch 0 St.zero []

/-- Where the threads' next instructions may be. -/
def Inv (p : List (List Ins)) (s : St) : Prop := ∀ t, t < p.length → 0 ≤ s.next t ∧ s.next t ≤ (codeOf p t).length

theorem Inv.zero (p : List (List Ins)) : Inv p St.zero := fun t _ => ⟨by simp [St.zero], by simp [St.zero]⟩

theorem vIns_op {i : Ins} {len : Int} (h : vIns i len = true) : 1 ≤ i.op ∧ i.op ≤ 11 := by
  simp only [vIns, Bool.and_eq_true, decide_eq_true_eq] at h; exact ⟨h.1, h.2.1⟩

theorem vIns_parts {i : Ins} {len : Int} (h : vIns i len = true) : fitsB (shp i.op.toNat 0) i.a len = true ∧ fitsB (shp i.op.toNat 1) i.b len = true ∧ fitsB (shp i.op.toNat 2) i.n len = true := by
  simp only [vIns, Bool.and_eq_true, decide_eq_true_eq] at h; exact h.2.2

/-- What a valid instruction's numbers are, by its Op. -/
theorem vIns_say {i : Ins} {len : Int} (h : vIns i len = true) :
    (i.op = 1 ∧ 0 ≤ i.a ∧ i.a < 4) ∨ (i.op = 2 ∧ 0 ≤ i.a ∧ i.a < 4 ∧ 0 ≤ i.b ∧ i.b < 4) ∨ (i.op = 3 ∧ 0 ≤ i.a ∧ i.a < 4 ∧ 0 ≤ i.b ∧ i.b < 4) ∨
    (i.op = 4 ∧ 0 ≤ i.a ∧ i.a < 4 ∧ 0 ≤ i.b ∧ i.b < 4) ∨ (i.op = 5 ∧ 0 ≤ i.a ∧ i.a < 4 ∧ 0 ≤ i.b ∧ i.b < 4) ∨ (i.op = 6 ∧ 0 ≤ i.a ∧ i.a < 4 ∧ 0 ≤ i.b ∧ i.b < 4) ∨
    (i.op = 7 ∧ 0 ≤ i.a ∧ i.a < 4 ∧ 0 ≤ i.b ∧ i.b < 4) ∨ (i.op = 8 ∧ 0 ≤ i.a ∧ i.a < 4 ∧ 0 ≤ i.n ∧ i.n < len + 1) ∨ (i.op = 9 ∧ 0 ≤ i.a ∧ i.a < 3) ∨ (i.op = 10 ∧ 0 ≤ i.a ∧ i.a < 3) ∨ (i.op = 11 ∧ 0 ≤ i.a ∧ i.a < 4) := by
  obtain ⟨h1, h2⟩ := vIns_op h
  obtain ⟨h3, h4, h5⟩ := vIns_parts h
  have hc : i.op = 1 ∨ i.op = 2 ∨ i.op = 3 ∨ i.op = 4 ∨ i.op = 5 ∨ i.op = 6 ∨ i.op = 7 ∨ i.op = 8 ∨ i.op = 9 ∨ i.op = 10 ∨ i.op = 11 := by omega
  rcases hc with e | e | e | e | e | e | e | e | e | e | e <;> rw [e] at h3 h4 h5 <;> simp [shp, fitsB, belowB] at h3 h4 h5 <;> simp [e] <;> omega

theorem act_next (t : Nat) (i : Ins) (s : St) (t' : Nat) : (act t i s).2.next t' = s.next t' ∨ (t' = t ∧ i.op = 8 ∧ (act t i s).2.next t' = i.n) := by
  by_cases h8 : i.op = 8
  · have e : act t i s = (true, if s.regs t i.a.toNat = 0 then s.setNext t i.n else s) := by simp [act, h8]
    rw [e]
    by_cases h0 : s.regs t i.a.toNat = 0
    · simp only [h0, if_true, St.setNext]
      by_cases ht : t' = t
      · right; simp [ht, h8]
      · left; simp [ht]
    · left; simp [h0]
  · left
    unfold act
    repeat' split
    all_goals first | rfl | (exfalso; exact h8 ‹_›)

theorem codeOf_get {p : List (List Ins)} {t : Nat} (h : t < p.length) : codeOf p t = p[t] := by simp [codeOf, h]

theorem vProg_code {p : List (List Ins)} (h : vProg p = true) {t : Nat} (ht : t < p.length) : vCode (codeOf p t) = true := by
  simp only [vProg, Bool.and_eq_true, List.all_eq_true] at h
  rw [codeOf_get ht]
  exact h.2.2 _ (List.getElem_mem ht)

theorem vProg_len {p : List (List Ins)} (h : vProg p = true) : 1 ≤ p.length ∧ p.length ≤ 4 := by
  simp only [vProg, Bool.and_eq_true, decide_eq_true_eq] at h; exact ⟨h.1, h.2.1⟩

theorem vCode_len {c : List Ins} (h : vCode c = true) : c.length ≤ 16 := by
  simp only [vCode, Bool.and_eq_true, decide_eq_true_eq] at h; exact h.1

theorem vCode_ins {c : List Ins} (h : vCode c = true) {k : Nat} (hk : k < c.length) : vIns c[k] c.length = true := by
  simp only [vCode, Bool.and_eq_true, List.all_eq_true] at h
  exact h.2 _ (List.getElem_mem hk)

theorem insAt_get {p : List (List Ins)} {t : Nat} {k : Int} (h : k.toNat < (codeOf p t).length) : insAt p t k = (codeOf p t)[k.toNat] := by simp [insAt, h]

theorem vProg_ins {p : List (List Ins)} (h : vProg p = true) {t : Nat} (ht : t < p.length) {k : Int} (hk : k.toNat < (codeOf p t).length) : vIns (insAt p t k) (codeOf p t).length = true := by
  rw [insAt_get hk]; exact vCode_ins (vProg_code h ht) hk

/-- A step that a ready thread takes keeps all threads' places. -/
theorem Inv.step {p : List (List Ins)} {s : St} (hp : vProg p = true) (h : Inv p s) {t : Nat} (ht : t < p.length) (hd : doneB p s t = false) : Inv p (stepS p s t).2 := by
  intro t' ht'
  have hn := h t ht
  have hn' := h t' ht'
  have hne : s.next t ≠ ((codeOf p t).length : Int) := by simpa [doneB] using hd
  have hk : (s.next t).toNat < (codeOf p t).length := by omega
  have hv := vProg_ins hp ht hk
  have hlen : ∀ t'', t'' = t → (codeOf p t'').length = (codeOf p t).length := fun t'' e => by rw [e]
  rcases act_next t (insAt p t (s.next t)) (s.setNext t (s.next t + 1)) t' with e | ⟨e1, e2, e3⟩
  · unfold stepS; rw [e]; simp only [St.setNext]
    split
    · rename_i e4; have := hlen t' e4; omega
    · exact hn'
  · unfold stepS; rw [e3]
    have := vIns_say hv
    have hl := hlen t' e1
    rcases this with h1 | h1 | h1 | h1 | h1 | h1 | h1 | h1 | h1 | h1 | h1 <;> omega

theorem follow_nil (p : List (List Ins)) (i : Int) (s : St) (acc : List (Int × Int)) : follow p [] i s acc = ⟨acc, endingS p s, 0, 0, s⟩ := rfl
theorem follow_wrong (p : List (List Ins)) (t : Int) (r : List Int) (i : Int) (s : St) (acc : List (Int × Int)) (h : okAt p s t = false) : follow p (t :: r) i s acc = ⟨acc, 2, 0, i, s⟩ := by simp [follow, h]
theorem follow_fail (p : List (List Ins)) (t : Int) (r : List Int) (i : Int) (s : St) (acc : List (Int × Int)) (h : okAt p s t = true) (h2 : (stepS p s t.toNat).1 = false) :
    follow p (t :: r) i s acc = ⟨acc ++ [(t, s.next t.toNat)], 1, t, s.next t.toNat, (stepS p s t.toNat).2⟩ := by simp [follow, h, h2]
theorem follow_go (p : List (List Ins)) (t : Int) (r : List Int) (i : Int) (s : St) (acc : List (Int × Int)) (h : okAt p s t = true) (h2 : (stepS p s t.toNat).1 = true) :
    follow p (t :: r) i s acc = follow p r (i + 1) (stepS p s t.toNat).2 (acc ++ [(t, s.next t.toNat)]) := by simp [follow, h, h2]

end Go.Proofs.YtklenjmfalljgaaGreatDoor

/- A law of our own on regions that draw their order: all operations but the last (number n) wait ahead of it; what S says of the world is to be kept by those alone. -/
namespace Go.Proofs.YtklenjmfalljgaaGreatDoor
open Go

section
variable {P : Program} {ops : Array Oper} {Q : Exit → Act → World → Prop} {S : World → Prop} {n : Nat}

def lastL (P : Program) (ops : Array Oper) (Q : Exit → Act → World → Prop) (n : Nat) (listed : Array Bool) (a : Act) (w : World) : Prop :=
  Region.ready .any ops listed = [n] ∧ Region.ready .any ops (listed.setIfInBounds n true) = [] ∧ wpOp P ops Q n (fun a' w' => Q .normal a' w') a w

def wpHead (P : Program) (ops : Array Oper) (Q : Exit → Act → World → Prop) (S : World → Prop) (n : Nat) : Nat → Array Bool → Act → World → Prop
  | 0, listed, a, w => lastL P ops Q n listed a w
  | f + 1, listed, a, w => Region.ready .any ops listed ≠ [] ∧ ∀ i ∈ Region.ready .any ops listed, i < n ∧ wpOp P ops Q i (fun a' w' => S w' ∧ wpHead P ops Q S n f (listed.setIfInBounds i true) a' w') a w

theorem wpAny_of_wpHead : ∀ (f : Nat) (listed : Array Bool) (a : Act) (w : World), wpHead P ops Q S n f listed a w → wpAny P .any ops Q (f + 1) listed a w
  | 0, listed, a, w, ⟨h1, h2, h3⟩ => ⟨fun h => (by rw [h1] at h; cases h), fun i hi => by
      rw [h1] at hi
      have : i = n := by simpa using hi
      subst this
      exact wpOp_mono (fun a' w' h => ⟨h2, h⟩) h3⟩
  | f + 1, listed, a, w, ⟨h1, h2⟩ => ⟨fun h => absurd h h1, fun i hi => wpOp_mono (fun a' w' h => wpAny_of_wpHead f _ a' w' h.2) (h2 i hi).2⟩

theorem wpHead_first {i : Nat} {oi : Oper} {v : Value} (hi : ops[i]? = some oi) (hsel : ∀ (j : Nat) (o : Oper) cs b, ops[j]? = some o → o.op ≠ .select cs b)
    (hQ : ∀ c a w, Q (.panic c) (a.put oi.dst v) w → Q (.panic c) a w) (hs : Region.sinkB .any ops n = true) (hc : Region.chainB .any ops n = true) (hn : n < ops.size) (hin : i < n) :
    ∀ (f : Nat) (listed : Array Bool) (a : Act) (w : World),
      (∀ j oj, ops[j]? = some oj → j ≠ i → listed.getD j true = false → (∀ e ∈ oj.after, Region.binds .any e = true → e.on ≠ i) → oi.apart ops oj = true) →
      i ∈ Region.ready .any ops listed → HeadInv .any ops n listed → YieldsIf P ops S oi v a → S w →
      wpHead P ops Q S n f (listed.setIfInBounds i true) (a.put oi.dst v) w → wpHead P ops Q S n (f + 1) listed a w := by
  intro f
  induction f with
  | zero =>
    intro listed a w _ hr inv hy hS H
    refine ⟨fun h => (by rw [h] at hr; cases hr), fun j hj => ?_⟩
    by_cases hji : j = i
    · subst hji
      exact ⟨hin, hy.wpOp hi hS ⟨hS, H⟩⟩
    · have h1 := ready_mono hj hji
      rw [H.1] at h1
      have : j = n := by simpa using h1
      subst this
      exact absurd hj (tail_waits hs hc hn inv _ i rfl hin (mem_ready.1 hr).1 j (Nat.le_refl _))
  | succ f ih =>
    intro listed a w hfree hr inv hy hS H
    refine ⟨fun h => (by rw [h] at hr; cases hr), fun j hj => ?_⟩
    by_cases hji : j = i
    · subst hji
      exact ⟨hin, hy.wpOp hi hS ⟨hS, H⟩⟩
    · have h0 := H.2 j (ready_mono hj hji)
      refine ⟨h0.1, ?_⟩
      obtain ⟨hjun, oj, hoj, hall⟩ := mem_ready.1 hj
      have hnot : ∀ e ∈ oj.after, Region.binds .any e = true → e.on ≠ i := fun e he hb heq => by
        have h1 := hall e he hb
        have h2 := getD_both (mem_ready.1 hr).1
        rw [heq, h2] at h1
        cases h1
      have h2 := wpOp_putIf hoj (hfree j oj hoj hji hjun hnot) (fun cs b => hsel i oi cs b hi) (fun cs b => hsel j oj cs b hoj) hQ hy h0.2
      refine wpOp_mono (fun a' w' h3 => ⟨h3.2.1, ih (listed.setIfInBounds j true) a' w' (fun k ok hk hki hun hno => ?_) (ready_mono hr (Ne.symm hji)) (inv.set hj h0.1) h3.1 h3.2.1 ?_⟩) h2
      · refine hfree k ok hk hki ?_ hno
        by_cases hjk : j = k
        · subst hjk; exact hjun
        · rw [getD_set_ne true hjk] at hun; exact hun
      · rw [Array.setIfInBounds_comm _ _ hji]
        exact h3.2.2

/-- Number i is taken first. -/
theorem wpHead_take {i : Nat} {oi : Oper} {v : Value} {f : Nat} {listed : Array Bool} {a : Act} {w : World} (hi : ops[i]? = some oi)
    (hs : (Region.noSelect ops && (Region.sinkB .any ops n && (Region.chainB .any ops n && (decide (n < ops.size) && (decide (i < n) && (Region.free .any ops listed i && (Region.ready .any ops listed).contains i)))))) = true)
    (hQ : ∀ c a w, Q (.panic c) (a.put oi.dst v) w → Q (.panic c) a w) (hy : YieldsIf P ops S oi v a) (hS : S w)
    (h : HeadInv .any ops n (listed.setIfInBounds i true) → wpHead P ops Q S n f (listed.setIfInBounds i true) (a.put oi.dst v) w) : HeadInv .any ops n listed → wpHead P ops Q S n (f + 1) listed a w := by
  simp only [Bool.and_eq_true, decide_eq_true_eq] at hs
  obtain ⟨h1, h2, h3, h4, h5, h6, h7⟩ := hs
  have h8 : i ∈ Region.ready .any ops listed := by simpa using h7
  exact fun inv => wpHead_first hi (Region.noSelect_spec h1) hQ h2 h3 h4 h5 f listed a w (Region.free_spec hi h6) h8 inv hy hS (h (inv.set h8 h5))

/-- Number i comes up alone. -/
theorem wpHead_alone {i : Nat} {oi : Oper} {f : Nat} {listed : Array Bool} {a : Act} {w : World} (hi : ops[i]? = some oi)
    (hr : Region.ready .any ops listed = [i]) (hin : decide (i < n) = true) (hw : Region.wanted oi (yielded ops a.tmps) = true)
    (h : ∀ K : Act → World → Prop, (∀ a' w', S w' → (HeadInv .any ops n (listed.setIfInBounds i true) → wpHead P ops Q S n f (listed.setIfInBounds i true) a' w') → K a' w') → oi.wp P a w K Q) :
    HeadInv .any ops n listed → wpHead P ops Q S n (f + 1) listed a w := by
  intro inv
  have h5 : i < n := of_decide_eq_true hin
  have h8 : i ∈ Region.ready .any ops listed := by rw [hr]; simp
  refine ⟨fun h => (by rw [hr] at h; cases h), fun j hj => ?_⟩
  rw [hr] at hj
  have : j = i := by simpa using hj
  subst this
  refine ⟨h5, ?_⟩
  unfold wpOp
  simp only [hi, hw, if_true]
  exact Or.inl (h _ (fun a' w' hS hh => ⟨hS, hh (inv.set h8 h5)⟩))

/-- The last one. -/
theorem wpHead_last {on : Oper} {listed : Array Bool} {a : Act} {w : World} (hi : ops[n]? = some on)
    (hr : Region.ready .any ops listed = [n]) (hr2 : Region.ready .any ops (listed.setIfInBounds n true) = []) (hw : Region.wanted on (yielded ops a.tmps) = true)
    (h : on.wp P a w (fun a' w' => Q .normal a' w') Q) : HeadInv .any ops n listed → wpHead P ops Q S n 0 listed a w := by
  intro _
  refine ⟨hr, hr2, ?_⟩
  unfold wpOp
  simp only [hi, hw, if_true]
  exact Or.inl h

/-- The region. -/
theorem wp_region_head {id : Nat} {a : Act} {w : World} (S : World → Prop) (n : Nat) (hm : P.follows .mixedOrders = true) (hn : ops.size = n + 1) (hS : S w.drew)
    (h : S w.drew → HeadInv .any ops n (Array.replicate ops.size false) → wpHead P ops Q S n n (Array.replicate ops.size false) a w.drew) : (Code.region id ops true).wp P Q a w := by
  refine wp_region_any hm ?_
  have inv0 : HeadInv .any ops n (Array.replicate ops.size false) :=
    ⟨by simp, fun j oj _ hl => (by rw [getD_replicate_false] at hl; cases hl), fun t _ ht => getD_in (by simpa using ht) (getD_replicate_false _ _)⟩
  have := wpAny_of_wpHead (P := P) (Q := Q) n _ a _ (h hS inv0)
  rw [hn] at this ⊢
  exact this
end

/-- As w is, but for the count of draws. -/
def Like (w' w : World) : Prop := w'.heap = w.heap ∧ w'.os = w.os ∧ w'.output = w.output ∧ w'.tape = w.tape

end Go.Proofs.YtklenjmfalljgaaGreatDoor

/- Walks of the closures that the machine's instructions are: what each does to the state's block. -/
namespace Go.Proofs.YtklenjmfalljgaaGreatDoor
open Go.RowKit

set_option maxHeartbeats 400000 in
theorem set_clo (t r : Nat) (ht : t < 4) (hr : r < 4) (n : Int) (b bn bt br : Nat) (w : World) (x : Value)
    (hn : w.cell? ⟨bn, 0, none⟩ = some (.int .i64 n)) (htc : w.cell? ⟨bt, 0, none⟩ = some (.int .i64 t)) (hrc : w.cell? ⟨br, 0, none⟩ = some (.int .i64 r))
    (hx : w.cell? ⟨b, 10 + t * 4 + r, none⟩ = some x) (hf : w.frozen? ⟨b, 10 + t * 4 + r, none⟩ = false) :
    Calls Tryz.prog 154 #[.pointer (some ⟨b, 0, none⟩), .pointer (some ⟨bn, 0, none⟩), .pointer (some ⟨bt, 0, none⟩), .pointer (some ⟨br, 0, none⟩)] w
      fun e w' => e = .returned (.bool true) ∧ Like w' (w.setCell ⟨b, 10 + t * 4 + r, none⟩ (.int .i64 n)) := by
  have h1 : (0 : Int) ≤ (t : Int) := by omega
  have h2 : (t : Int) < 4 := by omega
  have h3 : (0 : Int) ≤ (r : Int) := by omega
  have h4 : (r : Int) < 4 := by omega
  go_enter Tryz.func154, Tryz.ntmps154
  go_wp2
  go_region
  all_goals (go_wp2; go_ret; exact ⟨rfl, rfl, rfl, rfl, rfl⟩)

set_option maxHeartbeats 400000 in
theorem load_clo (t r v : Nat) (ht : t < 4) (hr : r < 4) (hv : v < 4) (n : Int) (b bv bt br : Nat) (w : World) (x : Value)
    (hvc : w.cell? ⟨bv, 0, none⟩ = some (.int .i64 v)) (htc : w.cell? ⟨bt, 0, none⟩ = some (.int .i64 t)) (hrc : w.cell? ⟨br, 0, none⟩ = some (.int .i64 r))
    (hn : w.cell? ⟨b, v, none⟩ = some (.int .i64 n))
    (hx : w.cell? ⟨b, 10 + t * 4 + r, none⟩ = some x) (hf : w.frozen? ⟨b, 10 + t * 4 + r, none⟩ = false) :
    Calls Tryz.prog 155 #[.pointer (some ⟨b, 0, none⟩), .pointer (some ⟨bv, 0, none⟩), .pointer (some ⟨bt, 0, none⟩), .pointer (some ⟨br, 0, none⟩)] w
      fun e w' => e = .returned (.bool true) ∧ Like w' (w.setCell ⟨b, 10 + t * 4 + r, none⟩ (.int .i64 n)) := by
  have h1 : (0 : Int) ≤ (t : Int) := by omega
  have h2 : (t : Int) < 4 := by omega
  have h3 : (0 : Int) ≤ (r : Int) := by omega
  have h4 : (r : Int) < 4 := by omega
  have h5 : (0 : Int) ≤ (v : Int) := by omega
  have h6 : (v : Int) < 4 := by omega
  go_enter Tryz.func155, Tryz.ntmps155
  go_wp2
  go_region
  all_goals (go_wp2; go_ret; exact ⟨rfl, rfl, rfl, rfl, rfl⟩)

set_option maxHeartbeats 400000 in
theorem store_clo (t r v : Nat) (ht : t < 4) (hr : r < 4) (hv : v < 4) (n : Int) (b bv bt br : Nat) (w : World) (x : Value)
    (hvc : w.cell? ⟨bv, 0, none⟩ = some (.int .i64 v)) (htc : w.cell? ⟨bt, 0, none⟩ = some (.int .i64 t)) (hrc : w.cell? ⟨br, 0, none⟩ = some (.int .i64 r))
    (hn : w.cell? ⟨b, 10 + t * 4 + r, none⟩ = some (.int .i64 n))
    (hx : w.cell? ⟨b, v, none⟩ = some x) (hf : w.frozen? ⟨b, v, none⟩ = false) :
    Calls Tryz.prog 156 #[.pointer (some ⟨b, 0, none⟩), .pointer (some ⟨bt, 0, none⟩), .pointer (some ⟨br, 0, none⟩), .pointer (some ⟨bv, 0, none⟩)] w
      fun e w' => e = .returned (.bool true) ∧ Like w' (w.setCell ⟨b, v, none⟩ (.int .i64 n)) := by
  have h1 : (0 : Int) ≤ (t : Int) := by omega
  have h2 : (t : Int) < 4 := by omega
  have h3 : (0 : Int) ≤ (r : Int) := by omega
  have h4 : (r : Int) < 4 := by omega
  have h5 : (0 : Int) ≤ (v : Int) := by omega
  have h6 : (v : Int) < 4 := by omega
  go_enter Tryz.func156, Tryz.ntmps156
  go_wp2
  go_region
  all_goals (go_wp2; go_ret; exact ⟨rfl, rfl, rfl, rfl, rfl⟩)

set_option maxHeartbeats 400000 in
theorem jump_clo (t r : Nat) (ht : t < 4) (hr : r < 4) (n y : Int) (b bn bt br : Nat) (w : World) (x : Value)
    (hnc : w.cell? ⟨bn, 0, none⟩ = some (.int .i64 n)) (htc : w.cell? ⟨bt, 0, none⟩ = some (.int .i64 t)) (hrc : w.cell? ⟨br, 0, none⟩ = some (.int .i64 r))
    (hy : w.cell? ⟨b, 10 + t * 4 + r, none⟩ = some (.int .i64 y))
    (hx : w.cell? ⟨b, 26 + t, none⟩ = some x) (hf : w.frozen? ⟨b, 26 + t, none⟩ = false) :
    Calls Tryz.prog 159 #[.pointer (some ⟨b, 0, none⟩), .pointer (some ⟨bt, 0, none⟩), .pointer (some ⟨br, 0, none⟩), .pointer (some ⟨bn, 0, none⟩)] w
      fun e w' => e = .returned (.bool true) ∧ Like w' (if y = 0 then w.setCell ⟨b, 26 + t, none⟩ (.int .i64 n) else w) := by
  have h1 : (0 : Int) ≤ (t : Int) := by omega
  have h2 : (t : Int) < 4 := by omega
  have h3 : (0 : Int) ≤ (r : Int) := by omega
  have h4 : (r : Int) < 4 := by omega
  by_cases hz : (y == 0) = true
  · have hz' : y = 0 := by simpa using hz
    rw [if_pos hz']
    have HZ : Hid (y = 0) := hz'
    clear hz'
    go_enter Tryz.func159, Tryz.ntmps159
    go_wp2
    go_region
    all_goals (go_wp2; go_region)
    all_goals (go_wp2; go_ret; exact ⟨rfl, rfl, rfl, rfl, rfl⟩)
  · have hz2 : (y == 0) = false := by simpa using hz
    rw [if_neg (by simpa using hz)]
    clear hz
    go_enter Tryz.func159, Tryz.ntmps159
    go_wp2
    go_region
    all_goals (go_wp2; go_ret; exact ⟨rfl, rfl, rfl, rfl, rfl⟩)

set_option maxHeartbeats 400000 in
theorem assert_clo (t r : Nat) (ht : t < 4) (hr : r < 4) (y : Int) (b bt br : Nat) (w : World)
    (htc : w.cell? ⟨bt, 0, none⟩ = some (.int .i64 t)) (hrc : w.cell? ⟨br, 0, none⟩ = some (.int .i64 r))
    (hy : w.cell? ⟨b, 10 + t * 4 + r, none⟩ = some (.int .i64 y)) :
    Calls Tryz.prog 162 #[.pointer (some ⟨b, 0, none⟩), .pointer (some ⟨bt, 0, none⟩), .pointer (some ⟨br, 0, none⟩)] w
      fun e w' => e = .returned (.bool (y != 0)) ∧ Like w' w := by
  have h1 : (0 : Int) ≤ (t : Int) := by omega
  have h2 : (t : Int) < 4 := by omega
  have h3 : (0 : Int) ≤ (r : Int) := by omega
  have h4 : (r : Int) < 4 := by omega
  go_enter Tryz.func162, Tryz.ntmps162
  go_wp2
  go_region
  all_goals (go_wp2; go_ret; exact ⟨rfl, rfl, rfl, rfl, rfl⟩)

end Go.Proofs.YtklenjmfalljgaaGreatDoor

/- Walks of the closures that the machine's instructions are: what each does to the state's block. -/
namespace Go.Proofs.YtklenjmfalljgaaGreatDoor
open Go.RowKit

set_option maxHeartbeats 400000 in
theorem take_clo (t l : Nat) (hl : l < 3) (b bt bl : Nat) (w : World) (x y : Value)
    (htc : w.cell? ⟨bt, 0, none⟩ = some (.int .i64 t)) (hlc : w.cell? ⟨bl, 0, none⟩ = some (.int .i64 l))
    (hx : w.cell? ⟨b, 4 + l * 2, none⟩ = some x) (hf : w.frozen? ⟨b, 4 + l * 2, none⟩ = false)
    (hy : w.cell? ⟨b, 4 + l * 2 + 1, none⟩ = some y) (hf2 : w.frozen? ⟨b, 4 + l * 2 + 1, none⟩ = false) :
    Calls Tryz.prog 160 #[.pointer (some ⟨b, 0, none⟩), .pointer (some ⟨bt, 0, none⟩), .pointer (some ⟨bl, 0, none⟩)] w
      fun e w' => e = .returned (.bool true) ∧ Like w' ((w.setCell ⟨b, 4 + l * 2, none⟩ (.bool true)).setCell ⟨b, 4 + l * 2 + 1, none⟩ (.int .i64 t)) := by
  have h3 : (0 : Int) ≤ (l : Int) := by omega
  have h4 : (l : Int) < 3 := by omega
  go_enter Tryz.func160, Tryz.ntmps160
  go_wp2
  go_region
  all_goals (go_wp2; go_ret; exact ⟨rfl, rfl, rfl, rfl, rfl⟩)

set_option maxHeartbeats 400000 in
theorem release_clo_yes (t l : Nat) (hl : l < 3) (b bm bl : Nat) (w : World)
    (hmc : w.cell? ⟨bm, 0, none⟩ = some (.bool true)) (hmc2 : w.cell? ⟨bm, 1, none⟩ = some (.int .i64 t)) (hlc : w.cell? ⟨bl, 0, none⟩ = some (.int .i64 l))
    (hx : w.cell? ⟨b, 4 + l * 2, none⟩ = some (.bool true)) (hf : w.frozen? ⟨b, 4 + l * 2, none⟩ = false)
    (hy : w.cell? ⟨b, 4 + l * 2 + 1, none⟩ = some (.int .i64 t)) (hf2 : w.frozen? ⟨b, 4 + l * 2 + 1, none⟩ = false) :
    Calls Tryz.prog 161 #[.pointer (some ⟨b, 0, none⟩), .pointer (some ⟨bl, 0, none⟩), .pointer (some ⟨bm, 0, none⟩)] w
      fun e w' => e = .returned (.bool true) ∧ Like w' ((w.setCell ⟨b, 4 + l * 2, none⟩ (.bool false)).setCell ⟨b, 4 + l * 2 + 1, none⟩ (.int .i64 0)) := by
  have h3 : (0 : Int) ≤ (l : Int) := by omega
  have h4 : (l : Int) < 3 := by omega
  go_enter Tryz.func161, Tryz.ntmps161
  go_wp2
  go_region
  all_goals (go_wp2; go_region)
  all_goals (go_wp2; go_ret; exact ⟨rfl, rfl, rfl, rfl, rfl⟩)

set_option maxHeartbeats 400000 in
theorem release_clo_free (t l : Nat) (hl : l < 3) (b bm bl : Nat) (w : World) (o : Int)
    (hmc : w.cell? ⟨bm, 0, none⟩ = some (.bool true)) (hmc2 : w.cell? ⟨bm, 1, none⟩ = some (.int .i64 t)) (hlc : w.cell? ⟨bl, 0, none⟩ = some (.int .i64 l))
    (hx : w.cell? ⟨b, 4 + l * 2, none⟩ = some (.bool false))
    (hy : w.cell? ⟨b, 4 + l * 2 + 1, none⟩ = some (.int .i64 o)) :
    Calls Tryz.prog 161 #[.pointer (some ⟨b, 0, none⟩), .pointer (some ⟨bl, 0, none⟩), .pointer (some ⟨bm, 0, none⟩)] w
      fun e w' => e = .returned (.bool false) ∧ Like w' w := by
  have h3 : (0 : Int) ≤ (l : Int) := by omega
  have h4 : (l : Int) < 3 := by omega
  go_enter Tryz.func161, Tryz.ntmps161
  go_wp2
  go_region
  all_goals (go_wp2; go_ret; exact ⟨rfl, rfl, rfl, rfl, rfl⟩)

set_option maxHeartbeats 400000 in
theorem release_clo_no (t l : Nat) (hl : l < 3) (b bm bl : Nat) (w : World) (o : Int) (ho : ¬ o = t)
    (hmc : w.cell? ⟨bm, 0, none⟩ = some (.bool true)) (hmc2 : w.cell? ⟨bm, 1, none⟩ = some (.int .i64 t)) (hlc : w.cell? ⟨bl, 0, none⟩ = some (.int .i64 l))
    (hx : w.cell? ⟨b, 4 + l * 2, none⟩ = some (.bool true))
    (hy : w.cell? ⟨b, 4 + l * 2 + 1, none⟩ = some (.int .i64 o)) :
    Calls Tryz.prog 161 #[.pointer (some ⟨b, 0, none⟩), .pointer (some ⟨bl, 0, none⟩), .pointer (some ⟨bm, 0, none⟩)] w
      fun e w' => e = .returned (.bool false) ∧ Like w' w := by
  have h3 : (0 : Int) ≤ (l : Int) := by omega
  have h4 : (l : Int) < 3 := by omega
  go_enter Tryz.func161, Tryz.ntmps161
  go_wp2
  go_region
  all_goals (go_wp2; go_ret; exact ⟨rfl, rfl, rfl, rfl, rfl⟩)

end Go.Proofs.YtklenjmfalljgaaGreatDoor

/- Walks of the closures that the machine's instructions are: what each does to the state's block. -/
namespace Go.Proofs.YtklenjmfalljgaaGreatDoor
open Go.RowKit

set_option maxHeartbeats 400000 in
set_option maxRecDepth 100000 in
theorem add_fun (x y : Int) (w : World) : Calls Tryz.prog 119 #[.int .i64 x, .int .i64 y] w fun e w' => e = .returned (.int .i64 (wrap64 (x + y))) ∧ w' = w := by
  go_enter Tryz.func119, Tryz.ntmps119
  go_wp2
  go_ret
  exact ⟨rfl, rfl⟩

set_option maxHeartbeats 400000 in
set_option maxRecDepth 100000 in
theorem add_clo (t a c : Nat) (ht : t < 4) (hr : a < 4) (hv : c < 4) (x y : Int) (b bf bt ba bc : Nat) (w : World)
    (hfc : w.cell? ⟨bf, 0, none⟩ = some (.func (.func 119) #[] #[]))
    (htc : w.cell? ⟨bt, 0, none⟩ = some (.int .i64 t)) (hac : w.cell? ⟨ba, 0, none⟩ = some (.int .i64 a)) (hcc : w.cell? ⟨bc, 0, none⟩ = some (.int .i64 c))
    (hx : w.cell? ⟨b, 10 + t * 4 + a, none⟩ = some (.int .i64 x)) (hy : w.cell? ⟨b, 10 + t * 4 + c, none⟩ = some (.int .i64 y)) (hf : w.frozen? ⟨b, 10 + t * 4 + a, none⟩ = false) :
    Calls Tryz.prog 157 #[.pointer (some ⟨b, 0, none⟩), .pointer (some ⟨bf, 0, none⟩), .pointer (some ⟨bt, 0, none⟩), .pointer (some ⟨ba, 0, none⟩), .pointer (some ⟨bc, 0, none⟩)] w
      fun e w' => e = .returned (.bool true) ∧ Like w' (w.setCell ⟨b, 10 + t * 4 + a, none⟩ (.int .i64 (wrap64 (x + y)))) := by
  have h1 : (0 : Int) ≤ (t : Int) := by omega
  have h2 : (t : Int) < 4 := by omega
  have h3 : (0 : Int) ≤ (a : Int) := by omega
  have h4 : (a : Int) < 4 := by omega
  have h5 : (0 : Int) ≤ (c : Int) := by omega
  have h6 : (c : Int) < 4 := by omega
  go_enter Tryz.func157, Tryz.ntmps157
  go_wp2
  refine wp_region_still_tail 25 (by kernel_rfl) (by kernel_rfl) ?_
  simp only [List.take_succ_cons, List.take_zero, List.drop_succ_cons, List.drop_zero]
  iterate 20 still_step
  still_call (add_fun _ _ _)
  iterate 4 still_step
  refine wpStill_nil ?_
  all_goals (go_wp2; go_ret; exact ⟨rfl, rfl, rfl, rfl, rfl⟩)

set_option maxHeartbeats 400000 in
set_option maxRecDepth 100000 in
theorem sub_fun (x y : Int) (w : World) : Calls Tryz.prog 120 #[.int .i64 x, .int .i64 y] w fun e w' => e = .returned (.int .i64 (wrap64 (x - y))) ∧ w' = w := by
  go_enter Tryz.func120, Tryz.ntmps120
  go_wp2
  go_ret
  exact ⟨rfl, rfl⟩

set_option maxHeartbeats 400000 in
set_option maxRecDepth 100000 in
theorem sub_clo (t a c : Nat) (ht : t < 4) (hr : a < 4) (hv : c < 4) (x y : Int) (b bf bt ba bc : Nat) (w : World)
    (hfc : w.cell? ⟨bf, 0, none⟩ = some (.func (.func 120) #[] #[]))
    (htc : w.cell? ⟨bt, 0, none⟩ = some (.int .i64 t)) (hac : w.cell? ⟨ba, 0, none⟩ = some (.int .i64 a)) (hcc : w.cell? ⟨bc, 0, none⟩ = some (.int .i64 c))
    (hx : w.cell? ⟨b, 10 + t * 4 + a, none⟩ = some (.int .i64 x)) (hy : w.cell? ⟨b, 10 + t * 4 + c, none⟩ = some (.int .i64 y)) (hf : w.frozen? ⟨b, 10 + t * 4 + a, none⟩ = false) :
    Calls Tryz.prog 157 #[.pointer (some ⟨b, 0, none⟩), .pointer (some ⟨bf, 0, none⟩), .pointer (some ⟨bt, 0, none⟩), .pointer (some ⟨ba, 0, none⟩), .pointer (some ⟨bc, 0, none⟩)] w
      fun e w' => e = .returned (.bool true) ∧ Like w' (w.setCell ⟨b, 10 + t * 4 + a, none⟩ (.int .i64 (wrap64 (x - y)))) := by
  have h1 : (0 : Int) ≤ (t : Int) := by omega
  have h2 : (t : Int) < 4 := by omega
  have h3 : (0 : Int) ≤ (a : Int) := by omega
  have h4 : (a : Int) < 4 := by omega
  have h5 : (0 : Int) ≤ (c : Int) := by omega
  have h6 : (c : Int) < 4 := by omega
  go_enter Tryz.func157, Tryz.ntmps157
  go_wp2
  refine wp_region_still_tail 25 (by kernel_rfl) (by kernel_rfl) ?_
  simp only [List.take_succ_cons, List.take_zero, List.drop_succ_cons, List.drop_zero]
  iterate 20 still_step
  still_call (sub_fun _ _ _)
  iterate 4 still_step
  refine wpStill_nil ?_
  all_goals (go_wp2; go_ret; exact ⟨rfl, rfl, rfl, rfl, rfl⟩)

set_option maxHeartbeats 400000 in
set_option maxRecDepth 100000 in
theorem mul_fun (x y : Int) (w : World) : Calls Tryz.prog 121 #[.int .i64 x, .int .i64 y] w fun e w' => e = .returned (.int .i64 (wrap64 (x * y))) ∧ w' = w := by
  go_enter Tryz.func121, Tryz.ntmps121
  go_wp2
  go_ret
  exact ⟨rfl, rfl⟩

set_option maxHeartbeats 400000 in
set_option maxRecDepth 100000 in
theorem mul_clo (t a c : Nat) (ht : t < 4) (hr : a < 4) (hv : c < 4) (x y : Int) (b bf bt ba bc : Nat) (w : World)
    (hfc : w.cell? ⟨bf, 0, none⟩ = some (.func (.func 121) #[] #[]))
    (htc : w.cell? ⟨bt, 0, none⟩ = some (.int .i64 t)) (hac : w.cell? ⟨ba, 0, none⟩ = some (.int .i64 a)) (hcc : w.cell? ⟨bc, 0, none⟩ = some (.int .i64 c))
    (hx : w.cell? ⟨b, 10 + t * 4 + a, none⟩ = some (.int .i64 x)) (hy : w.cell? ⟨b, 10 + t * 4 + c, none⟩ = some (.int .i64 y)) (hf : w.frozen? ⟨b, 10 + t * 4 + a, none⟩ = false) :
    Calls Tryz.prog 157 #[.pointer (some ⟨b, 0, none⟩), .pointer (some ⟨bf, 0, none⟩), .pointer (some ⟨bt, 0, none⟩), .pointer (some ⟨ba, 0, none⟩), .pointer (some ⟨bc, 0, none⟩)] w
      fun e w' => e = .returned (.bool true) ∧ Like w' (w.setCell ⟨b, 10 + t * 4 + a, none⟩ (.int .i64 (wrap64 (x * y)))) := by
  have h1 : (0 : Int) ≤ (t : Int) := by omega
  have h2 : (t : Int) < 4 := by omega
  have h3 : (0 : Int) ≤ (a : Int) := by omega
  have h4 : (a : Int) < 4 := by omega
  have h5 : (0 : Int) ≤ (c : Int) := by omega
  have h6 : (c : Int) < 4 := by omega
  go_enter Tryz.func157, Tryz.ntmps157
  go_wp2
  refine wp_region_still_tail 25 (by kernel_rfl) (by kernel_rfl) ?_
  simp only [List.take_succ_cons, List.take_zero, List.drop_succ_cons, List.drop_zero]
  iterate 20 still_step
  still_call (mul_fun _ _ _)
  iterate 4 still_step
  refine wpStill_nil ?_
  all_goals (go_wp2; go_ret; exact ⟨rfl, rfl, rfl, rfl, rfl⟩)

end Go.Proofs.YtklenjmfalljgaaGreatDoor

/- Walks of the closures that the machine's instructions are: what each does to the state's block. -/
namespace Go.Proofs.YtklenjmfalljgaaGreatDoor
open Go.RowKit

set_option maxHeartbeats 400000 in
theorem div_clo_no (t a c : Nat) (ht : t < 4) (hr : a < 4) (hv : c < 4) (b bt ba bc : Nat) (w : World)
    (htc : w.cell? ⟨bt, 0, none⟩ = some (.int .i64 t)) (_hac : w.cell? ⟨ba, 0, none⟩ = some (.int .i64 a)) (hcc : w.cell? ⟨bc, 0, none⟩ = some (.int .i64 c))
    (hy : w.cell? ⟨b, 10 + t * 4 + c, none⟩ = some (.int .i64 0)) :
    Calls Tryz.prog 158 #[.pointer (some ⟨b, 0, none⟩), .pointer (some ⟨bt, 0, none⟩), .pointer (some ⟨bc, 0, none⟩), .pointer (some ⟨ba, 0, none⟩)] w
      fun e w' => e = .returned (.bool false) ∧ Like w' w := by
  have h1 : (0 : Int) ≤ (t : Int) := by omega
  have h2 : (t : Int) < 4 := by omega
  have h3 : (0 : Int) ≤ (a : Int) := by omega
  have h4 : (a : Int) < 4 := by omega
  have h5 : (0 : Int) ≤ (c : Int) := by omega
  have h6 : (c : Int) < 4 := by omega
  go_enter Tryz.func158, Tryz.ntmps158
  go_wp2
  go_region
  all_goals (go_wp2; go_ret; exact ⟨rfl, rfl, rfl, rfl, rfl⟩)

set_option maxHeartbeats 1000000 in
theorem div_clo_yes (t a c : Nat) (ht : t < 4) (hr : a < 4) (hv : c < 4) (x y : Int) (hy0 : (y == 0) = false) (b bt ba bc : Nat) (w : World)
    (htc : w.cell? ⟨bt, 0, none⟩ = some (.int .i64 t)) (hac : w.cell? ⟨ba, 0, none⟩ = some (.int .i64 a)) (hcc : w.cell? ⟨bc, 0, none⟩ = some (.int .i64 c))
    (hx : w.cell? ⟨b, 10 + t * 4 + a, none⟩ = some (.int .i64 x)) (hy : w.cell? ⟨b, 10 + t * 4 + c, none⟩ = some (.int .i64 y)) (hf : w.frozen? ⟨b, 10 + t * 4 + a, none⟩ = false) :
    Calls Tryz.prog 158 #[.pointer (some ⟨b, 0, none⟩), .pointer (some ⟨bt, 0, none⟩), .pointer (some ⟨bc, 0, none⟩), .pointer (some ⟨ba, 0, none⟩)] w
      fun e w' => e = .returned (.bool true) ∧ Like w' (w.setCell ⟨b, 10 + t * 4 + a, none⟩ (.int .i64 (wrap64 (x.tdiv y)))) := by
  have h1 : (0 : Int) ≤ (t : Int) := by omega
  have h2 : (t : Int) < 4 := by omega
  have h3 : (0 : Int) ≤ (a : Int) := by omega
  have h4 : (a : Int) < 4 := by omega
  have h5 : (0 : Int) ≤ (c : Int) := by omega
  have h6 : (c : Int) < 4 := by omega
  have h7 : ¬ y = 0 := by simpa using hy0
  go_enter Tryz.func158, Tryz.ntmps158
  go_wp2
  go_region
  all_goals (go_wp2; go_region)
  all_goals (go_wp2; go_ret; exact ⟨rfl, rfl, rfl, rfl, rfl⟩)

end Go.Proofs.YtklenjmfalljgaaGreatDoor

/- The state's block in memory; what the closures do to it. -/
namespace Go.Proofs.YtklenjmfalljgaaGreatDoor
open Go.RowKit

def St.cells (s : St) : Array Value := #[.int .i64 (s.vars 0), .int .i64 (s.vars 1), .int .i64 (s.vars 2), .int .i64 (s.vars 3),
  .bool (s.held 0), .int .i64 (s.own 0), .bool (s.held 1), .int .i64 (s.own 1), .bool (s.held 2), .int .i64 (s.own 2),
  .int .i64 (s.regs 0 0), .int .i64 (s.regs 0 1), .int .i64 (s.regs 0 2), .int .i64 (s.regs 0 3), .int .i64 (s.regs 1 0), .int .i64 (s.regs 1 1), .int .i64 (s.regs 1 2), .int .i64 (s.regs 1 3),
  .int .i64 (s.regs 2 0), .int .i64 (s.regs 2 1), .int .i64 (s.regs 2 2), .int .i64 (s.regs 2 3), .int .i64 (s.regs 3 0), .int .i64 (s.regs 3 1), .int .i64 (s.regs 3 2), .int .i64 (s.regs 3 3),
  .int .i64 (s.next 0), .int .i64 (s.next 1), .int .i64 (s.next 2), .int .i64 (s.next 3)]

def StAt (w : World) (b : Nat) (s : St) : Prop := w.heap[b]? = some (.cells s.cells 118 (0, 0))

theorem lt4 {t : Nat} (h : t < 4) : t = 0 ∨ t = 1 ∨ t = 2 ∨ t = 3 := by omega
theorem lt3 {t : Nat} (h : t < 3) : t = 0 ∨ t = 1 ∨ t = 2 := by omega

theorem StAt.cell {w : World} {b : Nat} {s : St} (h : StAt w b s) (o : Nat) : w.cell? ⟨b, o, none⟩ = s.cells[o]? := by
  unfold StAt at h; simp [World.cell?, h]
theorem StAt.frozen {w : World} {b : Nat} {s : St} (h : StAt w b s) (o : Nat) : w.frozen? ⟨b, o, none⟩ = false := by
  unfold StAt at h; simp [World.frozen?, h]
theorem StAt.var {w : World} {b : Nat} {s : St} (h : StAt w b s) {v : Nat} (hv : v < 4) : w.cell? ⟨b, v, none⟩ = some (.int .i64 (s.vars v)) := by
  rw [h.cell]; rcases lt4 hv with rfl | rfl | rfl | rfl <;> rfl
theorem StAt.held {w : World} {b : Nat} {s : St} (h : StAt w b s) {l : Nat} (hl : l < 3) : w.cell? ⟨b, 4 + l * 2, none⟩ = some (.bool (s.held l)) := by
  rw [h.cell]; rcases lt3 hl with rfl | rfl | rfl <;> rfl
theorem StAt.own {w : World} {b : Nat} {s : St} (h : StAt w b s) {l : Nat} (hl : l < 3) : w.cell? ⟨b, 4 + l * 2 + 1, none⟩ = some (.int .i64 (s.own l)) := by
  rw [h.cell]; rcases lt3 hl with rfl | rfl | rfl <;> rfl
theorem StAt.reg {w : World} {b : Nat} {s : St} (h : StAt w b s) {t r : Nat} (ht : t < 4) (hr : r < 4) : w.cell? ⟨b, 10 + t * 4 + r, none⟩ = some (.int .i64 (s.regs t r)) := by
  rw [h.cell]; rcases lt4 ht with rfl | rfl | rfl | rfl <;> rcases lt4 hr with rfl | rfl | rfl | rfl <;> rfl
theorem StAt.next {w : World} {b : Nat} {s : St} (h : StAt w b s) {t : Nat} (ht : t < 4) : w.cell? ⟨b, 26 + t, none⟩ = some (.int .i64 (s.next t)) := by
  rw [h.cell]; rcases lt4 ht with rfl | rfl | rfl | rfl <;> rfl

theorem cells_setReg (s : St) {t r : Nat} (ht : t < 4) (hr : r < 4) (v : Int) : s.cells.setIfInBounds (10 + t * 4 + r) (.int .i64 v) = (s.setReg t r v).cells := by
  rcases lt4 ht with rfl | rfl | rfl | rfl <;> rcases lt4 hr with rfl | rfl | rfl | rfl <;> rfl
theorem cells_setVar (s : St) {x : Nat} (hx : x < 4) (v : Int) : s.cells.setIfInBounds x (.int .i64 v) = (s.setVar x v).cells := by
  rcases lt4 hx with rfl | rfl | rfl | rfl <;> rfl
theorem cells_setNext (s : St) {x : Nat} (hx : x < 4) (v : Int) : s.cells.setIfInBounds (26 + x) (.int .i64 v) = (s.setNext x v).cells := by
  rcases lt4 hx with rfl | rfl | rfl | rfl <;> rfl
theorem cells_setLock (s : St) {l : Nat} (hl : l < 3) (h : Bool) (o : Int) : (s.cells.setIfInBounds (4 + l * 2) (.bool h)).setIfInBounds (4 + l * 2 + 1) (.int .i64 o) = (s.setLock l h o).cells := by
  rcases lt3 hl with rfl | rfl | rfl <;> rfl

theorem StAt.setCell {w : World} {b : Nat} {s s' : St} {o : Nat} {v : Value} (h : StAt w b s) (e : s.cells.setIfInBounds o v = s'.cells) : StAt (w.setCell ⟨b, o, none⟩ v) b s' := by
  unfold StAt at *; rw [heap_setCell_same w b o _ _ v h, e]
theorem StAt.setCell2 {w : World} {b : Nat} {s s' : St} {o o' : Nat} {v v' : Value} (h : StAt w b s) (e : (s.cells.setIfInBounds o v).setIfInBounds o' v' = s'.cells) : StAt ((w.setCell ⟨b, o, none⟩ v).setCell ⟨b, o', none⟩ v') b s' := by
  unfold StAt at *
  rw [heap_setCell_same _ b o' _ _ v' (heap_setCell_same w b o _ _ v h), e]

theorem StAt.like {w w' : World} {b : Nat} {s : St} (h : StAt w b s) (hl : Like w' w) : StAt w' b s := by unfold StAt at *; rw [hl.1]; exact h

theorem grown_refl (w : World) (r : Option Nat) : w.grownBy w r := ⟨rfl, rfl, rfl, Nat.le_refl _, fun _ _ _ => rfl⟩
theorem grown_like {w w' w'' : World} {r : Option Nat} (h : w.grownBy w' r) (hl : Like w'' w') : w.grownBy w'' r :=
  ⟨hl.2.1.trans h.os, hl.2.2.2.trans h.tape, hl.2.2.1.trans h.output, by rw [hl.1]; exact h.size, fun k hk hr => by rw [hl.1]; exact h.block k hk hr⟩
theorem grown_trans {w w' w'' : World} {r : Option Nat} (h : w.grownBy w' r) (h' : w'.grownBy w'' r) : w.grownBy w'' r :=
  ⟨h'.os.trans h.os, h'.tape.trans h.tape, h'.output.trans h.output, Nat.le_trans h.size h'.size, fun k hk hr => (h'.block k (Nat.lt_of_lt_of_le hk h.size) hr).trans (h.block k hk hr)⟩
theorem grown_set {w : World} {b o : Nat} {v : Value} : w.grownBy (w.setCell ⟨b, o, none⟩ v) (some b) :=
  ⟨rfl, rfl, rfl, by simp, fun k _ hr => Below.heap_setCell w _ v k (by simpa using hr)⟩
theorem grown_set2 {w : World} {b o o' : Nat} {v v' : Value} : w.grownBy ((w.setCell ⟨b, o, none⟩ v).setCell ⟨b, o', none⟩ v') (some b) := grown_trans grown_set grown_set

/-- The value v, called with the state at block b, answers r and leaves the world so. -/
def Does (w : World) (v : Value) (b : Nat) (R : Bool → World → Prop) : Prop :=
  ∃ k caps, v = .func (.func k) #[] caps ∧ (∀ args w, (callFunc k args).run Tryz.prog w = .ok (.enter k args) w) ∧
    Calls Tryz.prog k (#[.pointer (some ⟨b, 0, none⟩)] ++ caps) w fun e w' => ∃ r, e = .returned (.bool r) ∧ R r w'

def pt (b : Nat) : Value := .pointer (some ⟨b, 0, none⟩)

/-- v is the closure of the instruction i of thread t; what it holds lies in blocks below B. -/
def ActIs (B : Nat) (w : World) (v : Value) (t : Nat) (i : Ins) : Prop :=
  ∃ x y z u : Nat, x < B ∧ y < B ∧ z < B ∧ u < B ∧
  ((i.op = 1 ∧ v = .func (.func 154) #[] #[pt x, pt y, pt z] ∧ w.cell? ⟨x, 0, none⟩ = some (.int .i64 i.n) ∧ w.cell? ⟨y, 0, none⟩ = some (.int .i64 t) ∧ w.cell? ⟨z, 0, none⟩ = some (.int .i64 i.a)) ∨
   (i.op = 2 ∧ v = .func (.func 155) #[] #[pt x, pt y, pt z] ∧ w.cell? ⟨x, 0, none⟩ = some (.int .i64 i.b) ∧ w.cell? ⟨y, 0, none⟩ = some (.int .i64 t) ∧ w.cell? ⟨z, 0, none⟩ = some (.int .i64 i.a)) ∨
   (i.op = 3 ∧ v = .func (.func 156) #[] #[pt x, pt y, pt z] ∧ w.cell? ⟨x, 0, none⟩ = some (.int .i64 t) ∧ w.cell? ⟨y, 0, none⟩ = some (.int .i64 i.b) ∧ w.cell? ⟨z, 0, none⟩ = some (.int .i64 i.a)) ∨
   (∃ f, (i.op = 4 ∧ f = 119 ∨ i.op = 5 ∧ f = 120 ∨ i.op = 6 ∧ f = 121) ∧ v = .func (.func 157) #[] #[pt x, pt y, pt z, pt u] ∧ w.cell? ⟨x, 0, none⟩ = some (.func (.func f) #[] #[]) ∧ w.cell? ⟨y, 0, none⟩ = some (.int .i64 t) ∧ w.cell? ⟨z, 0, none⟩ = some (.int .i64 i.a) ∧ w.cell? ⟨u, 0, none⟩ = some (.int .i64 i.b)) ∨
   (i.op = 7 ∧ v = .func (.func 158) #[] #[pt x, pt y, pt z] ∧ w.cell? ⟨x, 0, none⟩ = some (.int .i64 t) ∧ w.cell? ⟨y, 0, none⟩ = some (.int .i64 i.b) ∧ w.cell? ⟨z, 0, none⟩ = some (.int .i64 i.a)) ∨
   (i.op = 8 ∧ v = .func (.func 159) #[] #[pt x, pt y, pt z] ∧ w.cell? ⟨x, 0, none⟩ = some (.int .i64 t) ∧ w.cell? ⟨y, 0, none⟩ = some (.int .i64 i.a) ∧ w.cell? ⟨z, 0, none⟩ = some (.int .i64 i.n)) ∨
   (i.op = 9 ∧ v = .func (.func 160) #[] #[pt x, pt y] ∧ w.cell? ⟨x, 0, none⟩ = some (.int .i64 t) ∧ w.cell? ⟨y, 0, none⟩ = some (.int .i64 i.a)) ∨
   (i.op = 10 ∧ v = .func (.func 161) #[] #[pt x, pt y] ∧ w.cell? ⟨x, 0, none⟩ = some (.int .i64 i.a) ∧ w.cell? ⟨y, 0, none⟩ = some (.bool true) ∧ w.cell? ⟨y, 1, none⟩ = some (.int .i64 t)) ∨
   (i.op = 11 ∧ v = .func (.func 162) #[] #[pt x, pt y] ∧ w.cell? ⟨x, 0, none⟩ = some (.int .i64 t) ∧ w.cell? ⟨y, 0, none⟩ = some (.int .i64 i.a)))

theorem ActIs.of_block {B : Nat} {w w' : World} {v : Value} {t : Nat} {i : Ins} (h : ActIs B w v t i) (hb : ∀ k, k < B → w'.heap[k]? = w.heap[k]?) : ActIs B w' v t i := by
  obtain ⟨x, y, z, u, hx, hy, hz, hu, h⟩ := h
  have cx : ∀ o, w'.cell? ⟨x, o, none⟩ = w.cell? ⟨x, o, none⟩ := fun o => World.cell?_of_block (hb x hx)
  have cy : ∀ o, w'.cell? ⟨y, o, none⟩ = w.cell? ⟨y, o, none⟩ := fun o => World.cell?_of_block (hb y hy)
  have cz : ∀ o, w'.cell? ⟨z, o, none⟩ = w.cell? ⟨z, o, none⟩ := fun o => World.cell?_of_block (hb z hz)
  have cu : ∀ o, w'.cell? ⟨u, o, none⟩ = w.cell? ⟨u, o, none⟩ := fun o => World.cell?_of_block (hb u hu)
  exact ⟨x, y, z, u, hx, hy, hz, hu, by simpa only [cx, cy, cz, cu] using h⟩
theorem ActIs.mono {B B' : Nat} {w : World} {v : Value} {t : Nat} {i : Ins} (h : ActIs B w v t i) (hb : B ≤ B') : ActIs B' w v t i := by
  obtain ⟨x, y, z, u, hx, hy, hz, hu, h⟩ := h
  exact ⟨x, y, z, u, by omega, by omega, by omega, by omega, h⟩

end Go.Proofs.YtklenjmfalljgaaGreatDoor

/- What a closure does, whichever instruction it is of. -/
namespace Go.Proofs.YtklenjmfalljgaaGreatDoor
open Go.RowKit

/-- The post of an action. -/
def Acted (b : Nat) (w : World) (t : Nat) (i : Ins) (s : St) (r : Bool) (w' : World) : Prop := r = (act t i s).1 ∧ StAt w' b (act t i s).2 ∧ w.grownBy w' (some b)

theorem does_mk {w : World} {b k : Nat} {caps : Array Value} {R : Bool → World → Prop} {r : Bool} {w0 : World} (hk : ∀ args w, (callFunc k args).run Tryz.prog w = .ok (.enter k args) w)
    (hc : Calls Tryz.prog k (#[.pointer (some ⟨b, 0, none⟩)] ++ caps) w fun e w' => e = .returned (.bool r) ∧ Like w' w0) (hR : ∀ w', Like w' w0 → R r w') : Does w (.func (.func k) #[] caps) b R :=
  ⟨k, caps, rfl, hk, hc.mono fun _e w' ⟨he, hl⟩ => ⟨r, he, hR w' hl⟩⟩

theorem Acted.mk {b t : Nat} {w w0 w' : World} {i : Ins} {s s' : St} {r : Bool} (ha : act t i s = (r, s')) (hs : StAt w0 b s') (hg : w.grownBy w0 (some b)) (hl : Like w' w0) : Acted b w t i s r w' :=
  ⟨by rw [ha], by rw [ha]; exact hs.like hl, grown_like hg hl⟩

theorem act_does {B : Nat} {w : World} {v : Value} {t : Nat} {i : Ins} {len : Int} {b : Nat} {s : St} (ht : t < 4) (hi : vIns i len = true) (h : ActIs B w v t i) (hs : StAt w b s) :
    Does w v b (Acted b w t i s) := by
  obtain ⟨x, y, z, u, _, _, _, _, h⟩ := h
  have hsay := vIns_say hi
  rcases h with ⟨e, rfl, h1, h2, h3⟩ | ⟨e, rfl, h1, h2, h3⟩ | ⟨e, rfl, h1, h2, h3⟩ | ⟨f, hf, rfl, h1, h2, h3, h4⟩ | ⟨e, rfl, h1, h2, h3⟩ | ⟨e, rfl, h1, h2, h3⟩ | ⟨e, rfl, h1, h2⟩ | ⟨e, rfl, h1, h2, h3⟩ | ⟨e, rfl, h1, h2⟩
  · have ha : 0 ≤ i.a ∧ i.a < 4 := by omega
    have ea : ((i.a.toNat : Nat) : Int) = i.a := by omega
    rw [← ea] at h3
    have ha4 : i.a.toNat < 4 := by omega
    exact does_mk Tryz.call154 (set_clo t i.a.toNat ht ha4 i.n b x y z w _ h1 h2 h3 (hs.reg ht ha4) (hs.frozen _))
      fun w' hl => Acted.mk (by simp [act, e]) (hs.setCell (cells_setReg s ht ha4 _)) grown_set hl
  · have ha : 0 ≤ i.a ∧ i.a < 4 ∧ 0 ≤ i.b ∧ i.b < 4 := by omega
    have ea : ((i.a.toNat : Nat) : Int) = i.a := by omega
    have eb : ((i.b.toNat : Nat) : Int) = i.b := by omega
    rw [← ea] at h3; rw [← eb] at h1
    have ha4 : i.a.toNat < 4 := by omega
    have hb4 : i.b.toNat < 4 := by omega
    exact does_mk Tryz.call155 (load_clo t i.a.toNat i.b.toNat ht ha4 hb4 _ b x y z w _ h1 h2 h3 (hs.var hb4) (hs.reg ht ha4) (hs.frozen _))
      fun w' hl => Acted.mk (by simp [act, e]) (hs.setCell (cells_setReg s ht ha4 _)) grown_set hl
  · have ha : 0 ≤ i.a ∧ i.a < 4 ∧ 0 ≤ i.b ∧ i.b < 4 := by omega
    have ea : ((i.a.toNat : Nat) : Int) = i.a := by omega
    have eb : ((i.b.toNat : Nat) : Int) = i.b := by omega
    rw [← ea] at h3; rw [← eb] at h2
    have ha4 : i.a.toNat < 4 := by omega
    have hb4 : i.b.toNat < 4 := by omega
    exact does_mk Tryz.call156 (store_clo t i.b.toNat i.a.toNat ht hb4 ha4 _ b z x y w _ h3 h1 h2 (hs.reg ht hb4) (hs.var ha4) (hs.frozen _))
      fun w' hl => Acted.mk (by simp [act, e]) (hs.setCell (cells_setVar s ha4 _)) grown_set hl
  · have hop : i.op = 4 ∨ i.op = 5 ∨ i.op = 6 := by rcases hf with hf | hf | hf <;> simp [hf.1]
    have ha : 0 ≤ i.a ∧ i.a < 4 ∧ 0 ≤ i.b ∧ i.b < 4 := by omega
    have ea : ((i.a.toNat : Nat) : Int) = i.a := by omega
    have eb : ((i.b.toNat : Nat) : Int) = i.b := by omega
    rw [← ea] at h3; rw [← eb] at h4
    have ha4 : i.a.toNat < 4 := by omega
    have hb4 : i.b.toNat < 4 := by omega
    rcases hf with ⟨e, rfl⟩ | ⟨e, rfl⟩ | ⟨e, rfl⟩
    · exact does_mk Tryz.call157 (add_clo t i.a.toNat i.b.toNat ht ha4 hb4 _ _ b x y z u w h1 h2 h3 h4 (hs.reg ht ha4) (hs.reg ht hb4) (hs.frozen _))
        fun w' hl => Acted.mk (by simp [act, e]) (hs.setCell (cells_setReg s ht ha4 _)) grown_set hl
    · exact does_mk Tryz.call157 (sub_clo t i.a.toNat i.b.toNat ht ha4 hb4 _ _ b x y z u w h1 h2 h3 h4 (hs.reg ht ha4) (hs.reg ht hb4) (hs.frozen _))
        fun w' hl => Acted.mk (by simp [act, e]) (hs.setCell (cells_setReg s ht ha4 _)) grown_set hl
    · exact does_mk Tryz.call157 (mul_clo t i.a.toNat i.b.toNat ht ha4 hb4 _ _ b x y z u w h1 h2 h3 h4 (hs.reg ht ha4) (hs.reg ht hb4) (hs.frozen _))
        fun w' hl => Acted.mk (by simp [act, e]) (hs.setCell (cells_setReg s ht ha4 _)) grown_set hl
  · have ha : 0 ≤ i.a ∧ i.a < 4 ∧ 0 ≤ i.b ∧ i.b < 4 := by omega
    have ea : ((i.a.toNat : Nat) : Int) = i.a := by omega
    have eb : ((i.b.toNat : Nat) : Int) = i.b := by omega
    rw [← ea] at h3; rw [← eb] at h2
    have ha4 : i.a.toNat < 4 := by omega
    have hb4 : i.b.toNat < 4 := by omega
    by_cases h0 : s.regs t i.b.toNat = 0
    · have hz := hs.reg ht hb4
      rw [h0] at hz
      exact does_mk Tryz.call158 (div_clo_no t i.a.toNat i.b.toNat ht ha4 hb4 b x z y w h1 h3 h2 hz)
        fun w' hl => Acted.mk (by simp [act, e, h0]) hs (grown_refl _ _) hl
    · exact does_mk Tryz.call158 (div_clo_yes t i.a.toNat i.b.toNat ht ha4 hb4 _ _ (by simpa using h0) b x z y w h1 h3 h2 (hs.reg ht ha4) (hs.reg ht hb4) (hs.frozen _))
        fun w' hl => Acted.mk (by simp [act, e, h0]) (hs.setCell (cells_setReg s ht ha4 _)) grown_set hl
  · have ha : 0 ≤ i.a ∧ i.a < 4 := by omega
    have ea : ((i.a.toNat : Nat) : Int) = i.a := by omega
    rw [← ea] at h2
    have ha4 : i.a.toNat < 4 := by omega
    refine does_mk Tryz.call159 (jump_clo t i.a.toNat ht ha4 i.n _ b z x y w _ h3 h1 h2 (hs.reg ht ha4) (hs.next ht) (hs.frozen _)) fun w' hl => ?_
    by_cases h0 : s.regs t i.a.toNat = 0
    · rw [if_pos h0] at hl
      exact Acted.mk (by simp [act, e, h0]) (hs.setCell (cells_setNext s ht _)) grown_set hl
    · rw [if_neg h0] at hl
      exact Acted.mk (by simp [act, e, h0]) hs (grown_refl _ _) hl
  · have ha : 0 ≤ i.a ∧ i.a < 3 := by omega
    have ea : ((i.a.toNat : Nat) : Int) = i.a := by omega
    rw [← ea] at h2
    have ha3 : i.a.toNat < 3 := by omega
    exact does_mk Tryz.call160 (take_clo t i.a.toNat ha3 b x y w _ _ h1 h2 (hs.held ha3) (hs.frozen _) (hs.own ha3) (hs.frozen _))
      fun w' hl => Acted.mk (by simp [act, e]) (hs.setCell2 (cells_setLock s ha3 _ _)) grown_set2 hl
  · have ha : 0 ≤ i.a ∧ i.a < 3 := by omega
    have ea : ((i.a.toNat : Nat) : Int) = i.a := by omega
    rw [← ea] at h1
    have ha3 : i.a.toNat < 3 := by omega
    by_cases hh : s.held i.a.toNat = true
    · have c1 := hs.held ha3
      rw [hh] at c1
      by_cases ho : s.own i.a.toNat = t
      · have c2 := hs.own ha3
        rw [ho] at c2
        exact does_mk Tryz.call161 (release_clo_yes t i.a.toNat ha3 b y x w h2 h3 h1 c1 (hs.frozen _) c2 (hs.frozen _))
          fun w' hl => Acted.mk (by simp [act, e, hh, ho]) (hs.setCell2 (cells_setLock s ha3 _ _)) grown_set2 hl
      · exact does_mk Tryz.call161 (release_clo_no t i.a.toNat ha3 b y x w _ ho h2 h3 h1 c1 (hs.own ha3))
          fun w' hl => Acted.mk (by simp [act, e, hh, ho]) hs (grown_refl _ _) hl
    · have hf : s.held i.a.toNat = false := by simpa using hh
      have c1 := hs.held ha3
      rw [hf] at c1
      exact does_mk Tryz.call161 (release_clo_free t i.a.toNat ha3 b y x w _ h2 h3 h1 c1 (hs.own ha3))
        fun w' hl => Acted.mk (by simp [act, e, hf]) hs (grown_refl _ _) hl
  · have ha : 0 ≤ i.a ∧ i.a < 4 := by omega
    have ea : ((i.a.toNat : Nat) : Int) = i.a := by omega
    rw [← ea] at h2
    have ha4 : i.a.toNat < 4 := by omega
    exact does_mk Tryz.call162 (assert_clo t i.a.toNat ht ha4 _ b x y w h1 h2 (hs.reg ht ha4))
      fun w' hl => Acted.mk (by simp [act, e]) hs (grown_refl _ _) hl

end Go.Proofs.YtklenjmfalljgaaGreatDoor
