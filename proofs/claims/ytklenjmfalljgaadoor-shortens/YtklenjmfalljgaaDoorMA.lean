/- The texts Pure Reg Clo Clo2 Clo3 Clo4 Mem Act Rdy Stp Mach End Fol Run. -/
import Derived.RowKit
import Derived.StillTailTactics
import Derived.OrdersHeld
import Derived.Test.YtklenjmfalljgaaDoorProg
import Derived.WalkKit
import Derived.WalkSpells
import Derived.WalkLawsBesides
import Derived.RegionTactic
import Derived.BigRegion
import Derived.ChangeAlike
import Derived.BigQuiet
import Derived.Deep.QuietTactic
import Derived.Deep.RegionHeld3
import Derived.Laws.Rows
import Derived.Deep.DeepMust
import Derived.Laws.EntriesVeiled
import Derived.Deep.AppendLies
import Derived.OwnWalk
import Derived.Laws.CopyRow

/- What the machine does, as plain functions on lists and numbers (no dump is named here). -/
namespace Go.Proofs.YtklenjmfalljgaaDoor
open Go.RowKit (wrap64)

structure Ins where
  op : Int
  a : Int
  b : Int
  n : Int

structure St where
  vars : Nat → Int
  held : Nat → Bool
  own : Nat → Int
  regs : Nat → Nat → Int
  next : Nat → Int

def St.zero : St := ⟨fun _ => 0, fun _ => false, fun _ => 0, fun _ _ => 0, fun _ => 0⟩
def St.setReg (s : St) (t r : Nat) (v : Int) : St := ⟨s.vars, s.held, s.own, fun t' r' => if t' = t ∧ r' = r then v else s.regs t' r', s.next⟩
def St.setVar (s : St) (x : Nat) (v : Int) : St := ⟨fun x' => if x' = x then v else s.vars x', s.held, s.own, s.regs, s.next⟩
def St.setNext (s : St) (t : Nat) (v : Int) : St := ⟨s.vars, s.held, s.own, s.regs, fun t' => if t' = t then v else s.next t'⟩
def St.setLock (s : St) (l : Nat) (h : Bool) (o : Int) : St := ⟨s.vars, fun l' => if l' = l then h else s.held l', fun l' => if l' = l then o else s.own l', s.regs, s.next⟩

/-- What an instruction of thread t does (its next one is set already). -/
def act (t : Nat) (i : Ins) (s : St) : Bool × St :=
  if i.op = 1 then (true, s.setReg t i.a.toNat i.n)
  else if i.op = 2 then (true, s.setReg t i.a.toNat (s.vars i.b.toNat))
  else if i.op = 3 then (true, s.setVar i.a.toNat (s.regs t i.b.toNat))
  else if i.op = 4 then (true, s.setReg t i.a.toNat (wrap64 (s.regs t i.a.toNat + s.regs t i.b.toNat)))
  else if i.op = 5 then (true, s.setReg t i.a.toNat (wrap64 (s.regs t i.a.toNat - s.regs t i.b.toNat)))
  else if i.op = 6 then (true, s.setReg t i.a.toNat (wrap64 (s.regs t i.a.toNat * s.regs t i.b.toNat)))
  else if i.op = 7 then (if s.regs t i.b.toNat = 0 then (false, s) else (true, s.setReg t i.a.toNat (wrap64 ((s.regs t i.a.toNat).tdiv (s.regs t i.b.toNat)))))
  else if i.op = 8 then (true, if s.regs t i.a.toNat = 0 then s.setNext t i.n else s)
  else if i.op = 9 then (true, s.setLock i.a.toNat true t)
  else if i.op = 10 then (if s.held i.a.toNat = true ∧ s.own i.a.toNat = t then (true, s.setLock i.a.toNat false 0) else (false, s))
  else (s.regs t i.a.toNat != 0, s)

def shp (op j : Nat) : Int :=
  ((([[0, 0, 0], [1, 0, 5], [1, 2, 0], [2, 1, 0], [1, 1, 0], [1, 1, 0], [1, 1, 0], [1, 1, 0], [1, 0, 4], [3, 0, 0], [3, 0, 0], [1, 0, 0]] : List (List Int))[op]?).getD [])[j]?.getD 0

def belowB (x n : Int) : Bool := decide (0 ≤ x) && decide (x < n)

def fitsB (k x len : Int) : Bool :=
  if k = 1 then belowB x 4 else if k = 2 then belowB x 4 else if k = 3 then belowB x 3 else if k = 4 then belowB x (len + 1) else if k = 5 then true else (x == 0)

def vIns (i : Ins) (len : Int) : Bool :=
  decide (1 ≤ i.op) && (decide (i.op ≤ 11) && (fitsB (shp i.op.toNat 0) i.a len && (fitsB (shp i.op.toNat 1) i.b len && fitsB (shp i.op.toNat 2) i.n len)))

def vCode (c : List Ins) : Bool := decide (c.length ≤ 16) && c.all fun i => vIns i c.length
def vProg (p : List (List Ins)) : Bool := decide (1 ≤ p.length) && (decide (p.length ≤ 4) && p.all vCode)

def codeOf (p : List (List Ins)) (t : Nat) : List Ins := (p[t]?).getD []
def insAt (p : List (List Ins)) (t : Nat) (k : Int) : Ins := ((codeOf p t)[k.toNat]?).getD ⟨0, 0, 0, 0⟩
def doneB (p : List (List Ins)) (s : St) (t : Nat) : Bool := s.next t == ((codeOf p t).length : Int)
def readyB (p : List (List Ins)) (s : St) (t : Nat) : Bool := !doneB p s t && (!((insAt p t (s.next t)).op == 9) || !s.held (insAt p t (s.next t)).a.toNat)
def stepS (p : List (List Ins)) (s : St) (t : Nat) : Bool × St := act t (insAt p t (s.next t)) (s.setNext t (s.next t + 1))
def endingS (p : List (List Ins)) (s : St) : Int :=
  if (List.range p.length).any (readyB p s) then 5 else if (List.range p.length).all (doneB p s) then 3 else 4

def okAt (p : List (List Ins)) (s : St) (t : Int) : Bool := belowB t p.length && readyB p s t.toNat

structure Out where
  steps : List (Int × Int)
  kind : Int
  thread : Int
  at_ : Int
  st : St

def follow (p : List (List Ins)) : List Int → Int → St → List (Int × Int) → Out
  | [], _, s, acc => ⟨acc, endingS p s, 0, 0, s⟩
  | t :: r, i, s, acc =>
    if okAt p s t = true then
      (if (stepS p s t.toNat).1 = true then follow p r (i + 1) (stepS p s t.toNat).2 (acc ++ [(t, s.next t.toNat)])
       else ⟨acc ++ [(t, s.next t.toNat)], 1, t, s.next t.toNat, (stepS p s t.toNat).2⟩)
    else ⟨acc, 2, 0, i, s⟩

def runS (p : List (List Ins)) (sch : List Int) : Out := follow p sch 0 St.zero []

/-- Where the threads' next instructions may be. -/
def Inv (p : List (List Ins)) (s : St) : Prop := ∀ t, t < p.length → 0 ≤ s.next t ∧ s.next t ≤ (codeOf p t).length

theorem Inv.zero (p : List (List Ins)) : Inv p St.zero := fun t _ => ⟨by simp [St.zero], by simp [St.zero]⟩

theorem vIns_op {i : Ins} {len : Int} (h : vIns i len = true) : 1 ≤ i.op ∧ i.op ≤ 11 := by
  simp only [vIns, Bool.and_eq_true, decide_eq_true_eq] at h; exact ⟨h.1, h.2.1⟩

theorem vIns_parts {i : Ins} {len : Int} (h : vIns i len = true) : fitsB (shp i.op.toNat 0) i.a len = true ∧ fitsB (shp i.op.toNat 1) i.b len = true ∧ fitsB (shp i.op.toNat 2) i.n len = true := by
  simp only [vIns, Bool.and_eq_true, decide_eq_true_eq] at h; exact h.2.2

/-- What a valid instruction's numbers are, by its Op. -/
theorem vIns_say {i : Ins} {len : Int} (h : vIns i len = true) :
    (i.op = 1 ∧ 0 ≤ i.a ∧ i.a < 4) ∨ (i.op = 2 ∧ 0 ≤ i.a ∧ i.a < 4 ∧ 0 ≤ i.b ∧ i.b < 4) ∨ (i.op = 3 ∧ 0 ≤ i.a ∧ i.a < 4 ∧ 0 ≤ i.b ∧ i.b < 4) ∨
    (i.op = 4 ∧ 0 ≤ i.a ∧ i.a < 4 ∧ 0 ≤ i.b ∧ i.b < 4) ∨ (i.op = 5 ∧ 0 ≤ i.a ∧ i.a < 4 ∧ 0 ≤ i.b ∧ i.b < 4) ∨ (i.op = 6 ∧ 0 ≤ i.a ∧ i.a < 4 ∧ 0 ≤ i.b ∧ i.b < 4) ∨
    (i.op = 7 ∧ 0 ≤ i.a ∧ i.a < 4 ∧ 0 ≤ i.b ∧ i.b < 4) ∨ (i.op = 8 ∧ 0 ≤ i.a ∧ i.a < 4 ∧ 0 ≤ i.n ∧ i.n < len + 1) ∨ (i.op = 9 ∧ 0 ≤ i.a ∧ i.a < 3) ∨ (i.op = 10 ∧ 0 ≤ i.a ∧ i.a < 3) ∨ (i.op = 11 ∧ 0 ≤ i.a ∧ i.a < 4) := by
  obtain ⟨h1, h2⟩ := vIns_op h
  obtain ⟨h3, h4, h5⟩ := vIns_parts h
  have hc : i.op = 1 ∨ i.op = 2 ∨ i.op = 3 ∨ i.op = 4 ∨ i.op = 5 ∨ i.op = 6 ∨ i.op = 7 ∨ i.op = 8 ∨ i.op = 9 ∨ i.op = 10 ∨ i.op = 11 := by omega
  rcases hc with e | e | e | e | e | e | e | e | e | e | e <;> rw [e] at h3 h4 h5 <;> simp [shp, fitsB, belowB] at h3 h4 h5 <;> simp [e] <;> omega

theorem act_next (t : Nat) (i : Ins) (s : St) (t' : Nat) : (act t i s).2.next t' = s.next t' ∨ (t' = t ∧ i.op = 8 ∧ (act t i s).2.next t' = i.n) := by
  by_cases h8 : i.op = 8
  · have e : act t i s = (true, if s.regs t i.a.toNat = 0 then s.setNext t i.n else s) := by simp [act, h8]
    rw [e]
    by_cases h0 : s.regs t i.a.toNat = 0
    · simp only [h0, if_true, St.setNext]
      by_cases ht : t' = t
      · right; simp [ht, h8]
      · left; simp [ht]
    · left; simp [h0]
  · left
    unfold act
    repeat' split
    all_goals first | rfl | (exfalso; exact h8 ‹_›)

theorem codeOf_get {p : List (List Ins)} {t : Nat} (h : t < p.length) : codeOf p t = p[t] := by simp [codeOf, h]

theorem vProg_code {p : List (List Ins)} (h : vProg p = true) {t : Nat} (ht : t < p.length) : vCode (codeOf p t) = true := by
  simp only [vProg, Bool.and_eq_true, List.all_eq_true] at h
  rw [codeOf_get ht]
  exact h.2.2 _ (List.getElem_mem ht)

theorem vProg_len {p : List (List Ins)} (h : vProg p = true) : 1 ≤ p.length ∧ p.length ≤ 4 := by
  simp only [vProg, Bool.and_eq_true, decide_eq_true_eq] at h; exact ⟨h.1, h.2.1⟩

theorem vCode_len {c : List Ins} (h : vCode c = true) : c.length ≤ 16 := by
  simp only [vCode, Bool.and_eq_true, decide_eq_true_eq] at h; exact h.1

theorem vCode_ins {c : List Ins} (h : vCode c = true) {k : Nat} (hk : k < c.length) : vIns c[k] c.length = true := by
  simp only [vCode, Bool.and_eq_true, List.all_eq_true] at h
  exact h.2 _ (List.getElem_mem hk)

theorem insAt_get {p : List (List Ins)} {t : Nat} {k : Int} (h : k.toNat < (codeOf p t).length) : insAt p t k = (codeOf p t)[k.toNat] := by simp [insAt, h]

theorem vProg_ins {p : List (List Ins)} (h : vProg p = true) {t : Nat} (ht : t < p.length) {k : Int} (hk : k.toNat < (codeOf p t).length) : vIns (insAt p t k) (codeOf p t).length = true := by
  rw [insAt_get hk]; exact vCode_ins (vProg_code h ht) hk

/-- A step that a ready thread takes keeps all threads' places. -/
theorem Inv.step {p : List (List Ins)} {s : St} (hp : vProg p = true) (h : Inv p s) {t : Nat} (ht : t < p.length) (hd : doneB p s t = false) : Inv p (stepS p s t).2 := by
  intro t' ht'
  have hn := h t ht
  have hn' := h t' ht'
  have hne : s.next t ≠ ((codeOf p t).length : Int) := by simpa [doneB] using hd
  have hk : (s.next t).toNat < (codeOf p t).length := by omega
  have hv := vProg_ins hp ht hk
  have hlen : ∀ t'', t'' = t → (codeOf p t'').length = (codeOf p t).length := fun t'' e => by rw [e]
  rcases act_next t (insAt p t (s.next t)) (s.setNext t (s.next t + 1)) t' with e | ⟨e1, e2, e3⟩
  · unfold stepS; rw [e]; simp only [St.setNext]
    split
    · rename_i e4; have := hlen t' e4; omega
    · exact hn'
  · unfold stepS; rw [e3]
    have := vIns_say hv
    have hl := hlen t' e1
    rcases this with h1 | h1 | h1 | h1 | h1 | h1 | h1 | h1 | h1 | h1 | h1 <;> omega

theorem follow_nil (p : List (List Ins)) (i : Int) (s : St) (acc : List (Int × Int)) : follow p [] i s acc = ⟨acc, endingS p s, 0, 0, s⟩ := rfl
theorem follow_wrong (p : List (List Ins)) (t : Int) (r : List Int) (i : Int) (s : St) (acc : List (Int × Int)) (h : okAt p s t = false) : follow p (t :: r) i s acc = ⟨acc, 2, 0, i, s⟩ := by simp [follow, h]
theorem follow_fail (p : List (List Ins)) (t : Int) (r : List Int) (i : Int) (s : St) (acc : List (Int × Int)) (h : okAt p s t = true) (h2 : (stepS p s t.toNat).1 = false) :
    follow p (t :: r) i s acc = ⟨acc ++ [(t, s.next t.toNat)], 1, t, s.next t.toNat, (stepS p s t.toNat).2⟩ := by simp [follow, h, h2]
theorem follow_go (p : List (List Ins)) (t : Int) (r : List Int) (i : Int) (s : St) (acc : List (Int × Int)) (h : okAt p s t = true) (h2 : (stepS p s t.toNat).1 = true) :
    follow p (t :: r) i s acc = follow p r (i + 1) (stepS p s t.toNat).2 (acc ++ [(t, s.next t.toNat)]) := by simp [follow, h, h2]

end Go.Proofs.YtklenjmfalljgaaDoor

/- A law of our own on regions that draw their order: all operations but the last (number n) wait ahead of it; what S says of the world is to be kept by those alone. -/
namespace Go.Proofs.YtklenjmfalljgaaDoor
open Go

section
variable {P : Program} {ops : Array Oper} {Q : Exit → Act → World → Prop} {S : World → Prop} {n : Nat}

def lastL (P : Program) (ops : Array Oper) (Q : Exit → Act → World → Prop) (n : Nat) (listed : Array Bool) (a : Act) (w : World) : Prop :=
  Region.ready .any ops listed = [n] ∧ Region.ready .any ops (listed.setIfInBounds n true) = [] ∧ wpOp P ops Q n (fun a' w' => Q .normal a' w') a w

def wpHead (P : Program) (ops : Array Oper) (Q : Exit → Act → World → Prop) (S : World → Prop) (n : Nat) : Nat → Array Bool → Act → World → Prop
  | 0, listed, a, w => lastL P ops Q n listed a w
  | f + 1, listed, a, w => Region.ready .any ops listed ≠ [] ∧ ∀ i ∈ Region.ready .any ops listed, i < n ∧ wpOp P ops Q i (fun a' w' => S w' ∧ wpHead P ops Q S n f (listed.setIfInBounds i true) a' w') a w

theorem wpAny_of_wpHead : ∀ (f : Nat) (listed : Array Bool) (a : Act) (w : World), wpHead P ops Q S n f listed a w → wpAny P .any ops Q (f + 1) listed a w
  | 0, listed, a, w, ⟨h1, h2, h3⟩ => ⟨fun h => (by rw [h1] at h; cases h), fun i hi => by
      rw [h1] at hi
      have : i = n := by simpa using hi
      subst this
      exact wpOp_mono (fun a' w' h => ⟨h2, h⟩) h3⟩
  | f + 1, listed, a, w, ⟨h1, h2⟩ => ⟨fun h => absurd h h1, fun i hi => wpOp_mono (fun a' w' h => wpAny_of_wpHead f _ a' w' h.2) (h2 i hi).2⟩

theorem wpHead_first {i : Nat} {oi : Oper} {v : Value} (hi : ops[i]? = some oi) (hsel : ∀ (j : Nat) (o : Oper) cs b, ops[j]? = some o → o.op ≠ .select cs b)
    (hQ : ∀ c a w, Q (.panic c) (a.put oi.dst v) w → Q (.panic c) a w) (hs : Region.sinkB .any ops n = true) (hc : Region.chainB .any ops n = true) (hn : n < ops.size) (hin : i < n) :
    ∀ (f : Nat) (listed : Array Bool) (a : Act) (w : World),
      (∀ j oj, ops[j]? = some oj → j ≠ i → listed.getD j true = false → (∀ e ∈ oj.after, Region.binds .any e = true → e.on ≠ i) → oi.apart ops oj = true) →
      i ∈ Region.ready .any ops listed → HeadInv .any ops n listed → YieldsIf P ops S oi v a → S w →
      wpHead P ops Q S n f (listed.setIfInBounds i true) (a.put oi.dst v) w → wpHead P ops Q S n (f + 1) listed a w := by
  intro f
  induction f with
  | zero =>
    intro listed a w _ hr inv hy hS H
    refine ⟨fun h => (by rw [h] at hr; cases hr), fun j hj => ?_⟩
    by_cases hji : j = i
    · subst hji
      exact ⟨hin, hy.wpOp hi hS ⟨hS, H⟩⟩
    · have h1 := ready_mono hj hji
      rw [H.1] at h1
      have : j = n := by simpa using h1
      subst this
      exact absurd hj (tail_waits hs hc hn inv _ i rfl hin (mem_ready.1 hr).1 j (Nat.le_refl _))
  | succ f ih =>
    intro listed a w hfree hr inv hy hS H
    refine ⟨fun h => (by rw [h] at hr; cases hr), fun j hj => ?_⟩
    by_cases hji : j = i
    · subst hji
      exact ⟨hin, hy.wpOp hi hS ⟨hS, H⟩⟩
    · have h0 := H.2 j (ready_mono hj hji)
      refine ⟨h0.1, ?_⟩
      obtain ⟨hjun, oj, hoj, hall⟩ := mem_ready.1 hj
      have hnot : ∀ e ∈ oj.after, Region.binds .any e = true → e.on ≠ i := fun e he hb heq => by
        have h1 := hall e he hb
        have h2 := getD_both (mem_ready.1 hr).1
        rw [heq, h2] at h1
        cases h1
      have h2 := wpOp_putIf hoj (hfree j oj hoj hji hjun hnot) (fun cs b => hsel i oi cs b hi) (fun cs b => hsel j oj cs b hoj) hQ hy h0.2
      refine wpOp_mono (fun a' w' h3 => ⟨h3.2.1, ih (listed.setIfInBounds j true) a' w' (fun k ok hk hki hun hno => ?_) (ready_mono hr (Ne.symm hji)) (inv.set hj h0.1) h3.1 h3.2.1 ?_⟩) h2
      · refine hfree k ok hk hki ?_ hno
        by_cases hjk : j = k
        · subst hjk; exact hjun
        · rw [getD_set_ne true hjk] at hun; exact hun
      · rw [Array.setIfInBounds_comm _ _ hji]
        exact h3.2.2

/-- Number i is taken first. -/
theorem wpHead_take {i : Nat} {oi : Oper} {v : Value} {f : Nat} {listed : Array Bool} {a : Act} {w : World} (hi : ops[i]? = some oi)
    (hs : (Region.noSelect ops && (Region.sinkB .any ops n && (Region.chainB .any ops n && (decide (n < ops.size) && (decide (i < n) && (Region.free .any ops listed i && (Region.ready .any ops listed).contains i)))))) = true)
    (hQ : ∀ c a w, Q (.panic c) (a.put oi.dst v) w → Q (.panic c) a w) (hy : YieldsIf P ops S oi v a) (hS : S w)
    (h : HeadInv .any ops n (listed.setIfInBounds i true) → wpHead P ops Q S n f (listed.setIfInBounds i true) (a.put oi.dst v) w) : HeadInv .any ops n listed → wpHead P ops Q S n (f + 1) listed a w := by
  simp only [Bool.and_eq_true, decide_eq_true_eq] at hs
  obtain ⟨h1, h2, h3, h4, h5, h6, h7⟩ := hs
  have h8 : i ∈ Region.ready .any ops listed := by simpa using h7
  exact fun inv => wpHead_first hi (Region.noSelect_spec h1) hQ h2 h3 h4 h5 f listed a w (Region.free_spec hi h6) h8 inv hy hS (h (inv.set h8 h5))

/-- Number i comes up alone. -/
theorem wpHead_alone {i : Nat} {oi : Oper} {f : Nat} {listed : Array Bool} {a : Act} {w : World} (hi : ops[i]? = some oi)
    (hr : Region.ready .any ops listed = [i]) (hin : decide (i < n) = true) (hw : Region.wanted oi (yielded ops a.tmps) = true)
    (h : ∀ K : Act → World → Prop, (∀ a' w', S w' → (HeadInv .any ops n (listed.setIfInBounds i true) → wpHead P ops Q S n f (listed.setIfInBounds i true) a' w') → K a' w') → oi.wp P a w K Q) :
    HeadInv .any ops n listed → wpHead P ops Q S n (f + 1) listed a w := by
  intro inv
  have h5 : i < n := of_decide_eq_true hin
  have h8 : i ∈ Region.ready .any ops listed := by rw [hr]; simp
  refine ⟨fun h => (by rw [hr] at h; cases h), fun j hj => ?_⟩
  rw [hr] at hj
  have : j = i := by simpa using hj
  subst this
  refine ⟨h5, ?_⟩
  unfold wpOp
  simp only [hi, hw, if_true]
  exact Or.inl (h _ (fun a' w' hS hh => ⟨hS, hh (inv.set h8 h5)⟩))

/-- The last one. -/
theorem wpHead_last {on : Oper} {listed : Array Bool} {a : Act} {w : World} (hi : ops[n]? = some on)
    (hr : Region.ready .any ops listed = [n]) (hr2 : Region.ready .any ops (listed.setIfInBounds n true) = []) (hw : Region.wanted on (yielded ops a.tmps) = true)
    (h : on.wp P a w (fun a' w' => Q .normal a' w') Q) : HeadInv .any ops n listed → wpHead P ops Q S n 0 listed a w := by
  intro _
  refine ⟨hr, hr2, ?_⟩
  unfold wpOp
  simp only [hi, hw, if_true]
  exact Or.inl h

/-- The region. -/
theorem wp_region_head {id : Nat} {a : Act} {w : World} (S : World → Prop) (n : Nat) (hm : P.follows .mixedOrders = true) (hn : ops.size = n + 1) (hS : S w.drew)
    (h : S w.drew → HeadInv .any ops n (Array.replicate ops.size false) → wpHead P ops Q S n n (Array.replicate ops.size false) a w.drew) : (Code.region id ops true).wp P Q a w := by
  refine wp_region_any hm ?_
  have inv0 : HeadInv .any ops n (Array.replicate ops.size false) :=
    ⟨by simp, fun j oj _ hl => (by rw [getD_replicate_false] at hl; cases hl), fun t _ ht => getD_in (by simpa using ht) (getD_replicate_false _ _)⟩
  have := wpAny_of_wpHead (P := P) (Q := Q) n _ a _ (h hS inv0)
  rw [hn] at this ⊢
  exact this
end

/-- As w is, but for the count of draws. -/
def Like (w' w : World) : Prop := w'.heap = w.heap ∧ w'.os = w.os ∧ w'.output = w.output ∧ w'.tape = w.tape

end Go.Proofs.YtklenjmfalljgaaDoor

/- Walks of the closures that the machine's instructions are: what each does to the state's block. -/
namespace Go.Proofs.YtklenjmfalljgaaDoor
open Go.RowKit

set_option maxHeartbeats 400000 in
theorem set_clo (t r : Nat) (ht : t < 4) (hr : r < 4) (n : Int) (b bn bt br : Nat) (w : World) (x : Value)
    (hn : w.cell? ⟨bn, 0, none⟩ = some (.int .i64 n)) (htc : w.cell? ⟨bt, 0, none⟩ = some (.int .i64 t)) (hrc : w.cell? ⟨br, 0, none⟩ = some (.int .i64 r))
    (hx : w.cell? ⟨b, 10 + t * 4 + r, none⟩ = some x) (hf : w.frozen? ⟨b, 10 + t * 4 + r, none⟩ = false) :
    Calls Tryd.prog 183 #[.pointer (some ⟨b, 0, none⟩), .pointer (some ⟨bn, 0, none⟩), .pointer (some ⟨bt, 0, none⟩), .pointer (some ⟨br, 0, none⟩)] w
      fun e w' => e = .returned (.bool true) ∧ Like w' (w.setCell ⟨b, 10 + t * 4 + r, none⟩ (.int .i64 n)) := by
  have h1 : (0 : Int) ≤ (t : Int) := by omega
  have h2 : (t : Int) < 4 := by omega
  have h3 : (0 : Int) ≤ (r : Int) := by omega
  have h4 : (r : Int) < 4 := by omega
  go_enter Tryd.func183, Tryd.ntmps183
  go_wp2
  go_region
  all_goals (go_wp2; go_ret; exact ⟨rfl, rfl, rfl, rfl, rfl⟩)

set_option maxHeartbeats 400000 in
theorem load_clo (t r v : Nat) (ht : t < 4) (hr : r < 4) (hv : v < 4) (n : Int) (b bv bt br : Nat) (w : World) (x : Value)
    (hvc : w.cell? ⟨bv, 0, none⟩ = some (.int .i64 v)) (htc : w.cell? ⟨bt, 0, none⟩ = some (.int .i64 t)) (hrc : w.cell? ⟨br, 0, none⟩ = some (.int .i64 r))
    (hn : w.cell? ⟨b, v, none⟩ = some (.int .i64 n))
    (hx : w.cell? ⟨b, 10 + t * 4 + r, none⟩ = some x) (hf : w.frozen? ⟨b, 10 + t * 4 + r, none⟩ = false) :
    Calls Tryd.prog 184 #[.pointer (some ⟨b, 0, none⟩), .pointer (some ⟨bv, 0, none⟩), .pointer (some ⟨bt, 0, none⟩), .pointer (some ⟨br, 0, none⟩)] w
      fun e w' => e = .returned (.bool true) ∧ Like w' (w.setCell ⟨b, 10 + t * 4 + r, none⟩ (.int .i64 n)) := by
  have h1 : (0 : Int) ≤ (t : Int) := by omega
  have h2 : (t : Int) < 4 := by omega
  have h3 : (0 : Int) ≤ (r : Int) := by omega
  have h4 : (r : Int) < 4 := by omega
  have h5 : (0 : Int) ≤ (v : Int) := by omega
  have h6 : (v : Int) < 4 := by omega
  go_enter Tryd.func184, Tryd.ntmps184
  go_wp2
  go_region
  all_goals (go_wp2; go_ret; exact ⟨rfl, rfl, rfl, rfl, rfl⟩)

set_option maxHeartbeats 400000 in
theorem store_clo (t r v : Nat) (ht : t < 4) (hr : r < 4) (hv : v < 4) (n : Int) (b bv bt br : Nat) (w : World) (x : Value)
    (hvc : w.cell? ⟨bv, 0, none⟩ = some (.int .i64 v)) (htc : w.cell? ⟨bt, 0, none⟩ = some (.int .i64 t)) (hrc : w.cell? ⟨br, 0, none⟩ = some (.int .i64 r))
    (hn : w.cell? ⟨b, 10 + t * 4 + r, none⟩ = some (.int .i64 n))
    (hx : w.cell? ⟨b, v, none⟩ = some x) (hf : w.frozen? ⟨b, v, none⟩ = false) :
    Calls Tryd.prog 185 #[.pointer (some ⟨b, 0, none⟩), .pointer (some ⟨bt, 0, none⟩), .pointer (some ⟨br, 0, none⟩), .pointer (some ⟨bv, 0, none⟩)] w
      fun e w' => e = .returned (.bool true) ∧ Like w' (w.setCell ⟨b, v, none⟩ (.int .i64 n)) := by
  have h1 : (0 : Int) ≤ (t : Int) := by omega
  have h2 : (t : Int) < 4 := by omega
  have h3 : (0 : Int) ≤ (r : Int) := by omega
  have h4 : (r : Int) < 4 := by omega
  have h5 : (0 : Int) ≤ (v : Int) := by omega
  have h6 : (v : Int) < 4 := by omega
  go_enter Tryd.func185, Tryd.ntmps185
  go_wp2
  go_region
  all_goals (go_wp2; go_ret; exact ⟨rfl, rfl, rfl, rfl, rfl⟩)

set_option maxHeartbeats 400000 in
theorem jump_clo (t r : Nat) (ht : t < 4) (hr : r < 4) (n y : Int) (b bn bt br : Nat) (w : World) (x : Value)
    (hnc : w.cell? ⟨bn, 0, none⟩ = some (.int .i64 n)) (htc : w.cell? ⟨bt, 0, none⟩ = some (.int .i64 t)) (hrc : w.cell? ⟨br, 0, none⟩ = some (.int .i64 r))
    (hy : w.cell? ⟨b, 10 + t * 4 + r, none⟩ = some (.int .i64 y))
    (hx : w.cell? ⟨b, 26 + t, none⟩ = some x) (hf : w.frozen? ⟨b, 26 + t, none⟩ = false) :
    Calls Tryd.prog 188 #[.pointer (some ⟨b, 0, none⟩), .pointer (some ⟨bt, 0, none⟩), .pointer (some ⟨br, 0, none⟩), .pointer (some ⟨bn, 0, none⟩)] w
      fun e w' => e = .returned (.bool true) ∧ Like w' (if y = 0 then w.setCell ⟨b, 26 + t, none⟩ (.int .i64 n) else w) := by
  have h1 : (0 : Int) ≤ (t : Int) := by omega
  have h2 : (t : Int) < 4 := by omega
  have h3 : (0 : Int) ≤ (r : Int) := by omega
  have h4 : (r : Int) < 4 := by omega
  by_cases hz : (y == 0) = true
  · have hz' : y = 0 := by simpa using hz
    rw [if_pos hz']
    have HZ : Hid (y = 0) := hz'
    clear hz'
    go_enter Tryd.func188, Tryd.ntmps188
    go_wp2
    go_region
    all_goals (go_wp2; go_region)
    all_goals (go_wp2; go_ret; exact ⟨rfl, rfl, rfl, rfl, rfl⟩)
  · have hz2 : (y == 0) = false := by simpa using hz
    rw [if_neg (by simpa using hz)]
    clear hz
    go_enter Tryd.func188, Tryd.ntmps188
    go_wp2
    go_region
    all_goals (go_wp2; go_ret; exact ⟨rfl, rfl, rfl, rfl, rfl⟩)

set_option maxHeartbeats 400000 in
theorem assert_clo (t r : Nat) (ht : t < 4) (hr : r < 4) (y : Int) (b bt br : Nat) (w : World)
    (htc : w.cell? ⟨bt, 0, none⟩ = some (.int .i64 t)) (hrc : w.cell? ⟨br, 0, none⟩ = some (.int .i64 r))
    (hy : w.cell? ⟨b, 10 + t * 4 + r, none⟩ = some (.int .i64 y)) :
    Calls Tryd.prog 191 #[.pointer (some ⟨b, 0, none⟩), .pointer (some ⟨bt, 0, none⟩), .pointer (some ⟨br, 0, none⟩)] w
      fun e w' => e = .returned (.bool (y != 0)) ∧ Like w' w := by
  have h1 : (0 : Int) ≤ (t : Int) := by omega
  have h2 : (t : Int) < 4 := by omega
  have h3 : (0 : Int) ≤ (r : Int) := by omega
  have h4 : (r : Int) < 4 := by omega
  go_enter Tryd.func191, Tryd.ntmps191
  go_wp2
  go_region
  all_goals (go_wp2; go_ret; exact ⟨rfl, rfl, rfl, rfl, rfl⟩)

end Go.Proofs.YtklenjmfalljgaaDoor

/- Walks of the closures that the machine's instructions are: what each does to the state's block. -/
namespace Go.Proofs.YtklenjmfalljgaaDoor
open Go.RowKit

set_option maxHeartbeats 400000 in
theorem take_clo (t l : Nat) (hl : l < 3) (b bt bl : Nat) (w : World) (x y : Value)
    (htc : w.cell? ⟨bt, 0, none⟩ = some (.int .i64 t)) (hlc : w.cell? ⟨bl, 0, none⟩ = some (.int .i64 l))
    (hx : w.cell? ⟨b, 4 + l * 2, none⟩ = some x) (hf : w.frozen? ⟨b, 4 + l * 2, none⟩ = false)
    (hy : w.cell? ⟨b, 4 + l * 2 + 1, none⟩ = some y) (hf2 : w.frozen? ⟨b, 4 + l * 2 + 1, none⟩ = false) :
    Calls Tryd.prog 189 #[.pointer (some ⟨b, 0, none⟩), .pointer (some ⟨bt, 0, none⟩), .pointer (some ⟨bl, 0, none⟩)] w
      fun e w' => e = .returned (.bool true) ∧ Like w' ((w.setCell ⟨b, 4 + l * 2, none⟩ (.bool true)).setCell ⟨b, 4 + l * 2 + 1, none⟩ (.int .i64 t)) := by
  have h3 : (0 : Int) ≤ (l : Int) := by omega
  have h4 : (l : Int) < 3 := by omega
  go_enter Tryd.func189, Tryd.ntmps189
  go_wp2
  go_region
  all_goals (go_wp2; go_ret; exact ⟨rfl, rfl, rfl, rfl, rfl⟩)

set_option maxHeartbeats 400000 in
theorem release_clo_yes (t l : Nat) (hl : l < 3) (b bm bl : Nat) (w : World)
    (hmc : w.cell? ⟨bm, 0, none⟩ = some (.bool true)) (hmc2 : w.cell? ⟨bm, 1, none⟩ = some (.int .i64 t)) (hlc : w.cell? ⟨bl, 0, none⟩ = some (.int .i64 l))
    (hx : w.cell? ⟨b, 4 + l * 2, none⟩ = some (.bool true)) (hf : w.frozen? ⟨b, 4 + l * 2, none⟩ = false)
    (hy : w.cell? ⟨b, 4 + l * 2 + 1, none⟩ = some (.int .i64 t)) (hf2 : w.frozen? ⟨b, 4 + l * 2 + 1, none⟩ = false) :
    Calls Tryd.prog 190 #[.pointer (some ⟨b, 0, none⟩), .pointer (some ⟨bl, 0, none⟩), .pointer (some ⟨bm, 0, none⟩)] w
      fun e w' => e = .returned (.bool true) ∧ Like w' ((w.setCell ⟨b, 4 + l * 2, none⟩ (.bool false)).setCell ⟨b, 4 + l * 2 + 1, none⟩ (.int .i64 0)) := by
  have h3 : (0 : Int) ≤ (l : Int) := by omega
  have h4 : (l : Int) < 3 := by omega
  go_enter Tryd.func190, Tryd.ntmps190
  go_wp2
  go_region
  all_goals (go_wp2; go_region)
  all_goals (go_wp2; go_ret; exact ⟨rfl, rfl, rfl, rfl, rfl⟩)

set_option maxHeartbeats 400000 in
theorem release_clo_free (t l : Nat) (hl : l < 3) (b bm bl : Nat) (w : World) (o : Int)
    (hmc : w.cell? ⟨bm, 0, none⟩ = some (.bool true)) (hmc2 : w.cell? ⟨bm, 1, none⟩ = some (.int .i64 t)) (hlc : w.cell? ⟨bl, 0, none⟩ = some (.int .i64 l))
    (hx : w.cell? ⟨b, 4 + l * 2, none⟩ = some (.bool false))
    (hy : w.cell? ⟨b, 4 + l * 2 + 1, none⟩ = some (.int .i64 o)) :
    Calls Tryd.prog 190 #[.pointer (some ⟨b, 0, none⟩), .pointer (some ⟨bl, 0, none⟩), .pointer (some ⟨bm, 0, none⟩)] w
      fun e w' => e = .returned (.bool false) ∧ Like w' w := by
  have h3 : (0 : Int) ≤ (l : Int) := by omega
  have h4 : (l : Int) < 3 := by omega
  go_enter Tryd.func190, Tryd.ntmps190
  go_wp2
  go_region
  all_goals (go_wp2; go_ret; exact ⟨rfl, rfl, rfl, rfl, rfl⟩)

set_option maxHeartbeats 400000 in
theorem release_clo_no (t l : Nat) (hl : l < 3) (b bm bl : Nat) (w : World) (o : Int) (ho : ¬ o = t)
    (hmc : w.cell? ⟨bm, 0, none⟩ = some (.bool true)) (hmc2 : w.cell? ⟨bm, 1, none⟩ = some (.int .i64 t)) (hlc : w.cell? ⟨bl, 0, none⟩ = some (.int .i64 l))
    (hx : w.cell? ⟨b, 4 + l * 2, none⟩ = some (.bool true))
    (hy : w.cell? ⟨b, 4 + l * 2 + 1, none⟩ = some (.int .i64 o)) :
    Calls Tryd.prog 190 #[.pointer (some ⟨b, 0, none⟩), .pointer (some ⟨bl, 0, none⟩), .pointer (some ⟨bm, 0, none⟩)] w
      fun e w' => e = .returned (.bool false) ∧ Like w' w := by
  have h3 : (0 : Int) ≤ (l : Int) := by omega
  have h4 : (l : Int) < 3 := by omega
  go_enter Tryd.func190, Tryd.ntmps190
  go_wp2
  go_region
  all_goals (go_wp2; go_ret; exact ⟨rfl, rfl, rfl, rfl, rfl⟩)

end Go.Proofs.YtklenjmfalljgaaDoor

/- Walks of the closures that the machine's instructions are: what each does to the state's block. -/
namespace Go.Proofs.YtklenjmfalljgaaDoor
open Go.RowKit

set_option maxHeartbeats 400000 in
set_option maxRecDepth 100000 in
theorem add_fun (x y : Int) (w : World) : Calls Tryd.prog 148 #[.int .i64 x, .int .i64 y] w fun e w' => e = .returned (.int .i64 (wrap64 (x + y))) ∧ w' = w := by
  go_enter Tryd.func148, Tryd.ntmps148
  go_wp2
  go_ret
  exact ⟨rfl, rfl⟩

set_option maxHeartbeats 400000 in
set_option maxRecDepth 100000 in
theorem add_clo (t a c : Nat) (ht : t < 4) (hr : a < 4) (hv : c < 4) (x y : Int) (b bf bt ba bc : Nat) (w : World)
    (hfc : w.cell? ⟨bf, 0, none⟩ = some (.func (.func 148) #[] #[]))
    (htc : w.cell? ⟨bt, 0, none⟩ = some (.int .i64 t)) (hac : w.cell? ⟨ba, 0, none⟩ = some (.int .i64 a)) (hcc : w.cell? ⟨bc, 0, none⟩ = some (.int .i64 c))
    (hx : w.cell? ⟨b, 10 + t * 4 + a, none⟩ = some (.int .i64 x)) (hy : w.cell? ⟨b, 10 + t * 4 + c, none⟩ = some (.int .i64 y)) (hf : w.frozen? ⟨b, 10 + t * 4 + a, none⟩ = false) :
    Calls Tryd.prog 186 #[.pointer (some ⟨b, 0, none⟩), .pointer (some ⟨bf, 0, none⟩), .pointer (some ⟨bt, 0, none⟩), .pointer (some ⟨ba, 0, none⟩), .pointer (some ⟨bc, 0, none⟩)] w
      fun e w' => e = .returned (.bool true) ∧ Like w' (w.setCell ⟨b, 10 + t * 4 + a, none⟩ (.int .i64 (wrap64 (x + y)))) := by
  have h1 : (0 : Int) ≤ (t : Int) := by omega
  have h2 : (t : Int) < 4 := by omega
  have h3 : (0 : Int) ≤ (a : Int) := by omega
  have h4 : (a : Int) < 4 := by omega
  have h5 : (0 : Int) ≤ (c : Int) := by omega
  have h6 : (c : Int) < 4 := by omega
  go_enter Tryd.func186, Tryd.ntmps186
  go_wp2
  refine wp_region_still_tail 25 (by kernel_rfl) (by kernel_rfl) ?_
  simp only [List.take_succ_cons, List.take_zero, List.drop_succ_cons, List.drop_zero]
  iterate 20 still_step
  still_call (add_fun _ _ _)
  iterate 4 still_step
  refine wpStill_nil ?_
  all_goals (go_wp2; go_ret; exact ⟨rfl, rfl, rfl, rfl, rfl⟩)

set_option maxHeartbeats 400000 in
set_option maxRecDepth 100000 in
theorem sub_fun (x y : Int) (w : World) : Calls Tryd.prog 149 #[.int .i64 x, .int .i64 y] w fun e w' => e = .returned (.int .i64 (wrap64 (x - y))) ∧ w' = w := by
  go_enter Tryd.func149, Tryd.ntmps149
  go_wp2
  go_ret
  exact ⟨rfl, rfl⟩

set_option maxHeartbeats 400000 in
set_option maxRecDepth 100000 in
theorem sub_clo (t a c : Nat) (ht : t < 4) (hr : a < 4) (hv : c < 4) (x y : Int) (b bf bt ba bc : Nat) (w : World)
    (hfc : w.cell? ⟨bf, 0, none⟩ = some (.func (.func 149) #[] #[]))
    (htc : w.cell? ⟨bt, 0, none⟩ = some (.int .i64 t)) (hac : w.cell? ⟨ba, 0, none⟩ = some (.int .i64 a)) (hcc : w.cell? ⟨bc, 0, none⟩ = some (.int .i64 c))
    (hx : w.cell? ⟨b, 10 + t * 4 + a, none⟩ = some (.int .i64 x)) (hy : w.cell? ⟨b, 10 + t * 4 + c, none⟩ = some (.int .i64 y)) (hf : w.frozen? ⟨b, 10 + t * 4 + a, none⟩ = false) :
    Calls Tryd.prog 186 #[.pointer (some ⟨b, 0, none⟩), .pointer (some ⟨bf, 0, none⟩), .pointer (some ⟨bt, 0, none⟩), .pointer (some ⟨ba, 0, none⟩), .pointer (some ⟨bc, 0, none⟩)] w
      fun e w' => e = .returned (.bool true) ∧ Like w' (w.setCell ⟨b, 10 + t * 4 + a, none⟩ (.int .i64 (wrap64 (x - y)))) := by
  have h1 : (0 : Int) ≤ (t : Int) := by omega
  have h2 : (t : Int) < 4 := by omega
  have h3 : (0 : Int) ≤ (a : Int) := by omega
  have h4 : (a : Int) < 4 := by omega
  have h5 : (0 : Int) ≤ (c : Int) := by omega
  have h6 : (c : Int) < 4 := by omega
  go_enter Tryd.func186, Tryd.ntmps186
  go_wp2
  refine wp_region_still_tail 25 (by kernel_rfl) (by kernel_rfl) ?_
  simp only [List.take_succ_cons, List.take_zero, List.drop_succ_cons, List.drop_zero]
  iterate 20 still_step
  still_call (sub_fun _ _ _)
  iterate 4 still_step
  refine wpStill_nil ?_
  all_goals (go_wp2; go_ret; exact ⟨rfl, rfl, rfl, rfl, rfl⟩)

set_option maxHeartbeats 400000 in
set_option maxRecDepth 100000 in
theorem mul_fun (x y : Int) (w : World) : Calls Tryd.prog 150 #[.int .i64 x, .int .i64 y] w fun e w' => e = .returned (.int .i64 (wrap64 (x * y))) ∧ w' = w := by
  go_enter Tryd.func150, Tryd.ntmps150
  go_wp2
  go_ret
  exact ⟨rfl, rfl⟩

set_option maxHeartbeats 400000 in
set_option maxRecDepth 100000 in
theorem mul_clo (t a c : Nat) (ht : t < 4) (hr : a < 4) (hv : c < 4) (x y : Int) (b bf bt ba bc : Nat) (w : World)
    (hfc : w.cell? ⟨bf, 0, none⟩ = some (.func (.func 150) #[] #[]))
    (htc : w.cell? ⟨bt, 0, none⟩ = some (.int .i64 t)) (hac : w.cell? ⟨ba, 0, none⟩ = some (.int .i64 a)) (hcc : w.cell? ⟨bc, 0, none⟩ = some (.int .i64 c))
    (hx : w.cell? ⟨b, 10 + t * 4 + a, none⟩ = some (.int .i64 x)) (hy : w.cell? ⟨b, 10 + t * 4 + c, none⟩ = some (.int .i64 y)) (hf : w.frozen? ⟨b, 10 + t * 4 + a, none⟩ = false) :
    Calls Tryd.prog 186 #[.pointer (some ⟨b, 0, none⟩), .pointer (some ⟨bf, 0, none⟩), .pointer (some ⟨bt, 0, none⟩), .pointer (some ⟨ba, 0, none⟩), .pointer (some ⟨bc, 0, none⟩)] w
      fun e w' => e = .returned (.bool true) ∧ Like w' (w.setCell ⟨b, 10 + t * 4 + a, none⟩ (.int .i64 (wrap64 (x * y)))) := by
  have h1 : (0 : Int) ≤ (t : Int) := by omega
  have h2 : (t : Int) < 4 := by omega
  have h3 : (0 : Int) ≤ (a : Int) := by omega
  have h4 : (a : Int) < 4 := by omega
  have h5 : (0 : Int) ≤ (c : Int) := by omega
  have h6 : (c : Int) < 4 := by omega
  go_enter Tryd.func186, Tryd.ntmps186
  go_wp2
  refine wp_region_still_tail 25 (by kernel_rfl) (by kernel_rfl) ?_
  simp only [List.take_succ_cons, List.take_zero, List.drop_succ_cons, List.drop_zero]
  iterate 20 still_step
  still_call (mul_fun _ _ _)
  iterate 4 still_step
  refine wpStill_nil ?_
  all_goals (go_wp2; go_ret; exact ⟨rfl, rfl, rfl, rfl, rfl⟩)

end Go.Proofs.YtklenjmfalljgaaDoor

/- Walks of the closures that the machine's instructions are: what each does to the state's block. -/
namespace Go.Proofs.YtklenjmfalljgaaDoor
open Go.RowKit

set_option maxHeartbeats 400000 in
theorem div_clo_no (t a c : Nat) (ht : t < 4) (hr : a < 4) (hv : c < 4) (b bt ba bc : Nat) (w : World)
    (htc : w.cell? ⟨bt, 0, none⟩ = some (.int .i64 t)) (_hac : w.cell? ⟨ba, 0, none⟩ = some (.int .i64 a)) (hcc : w.cell? ⟨bc, 0, none⟩ = some (.int .i64 c))
    (hy : w.cell? ⟨b, 10 + t * 4 + c, none⟩ = some (.int .i64 0)) :
    Calls Tryd.prog 187 #[.pointer (some ⟨b, 0, none⟩), .pointer (some ⟨bt, 0, none⟩), .pointer (some ⟨bc, 0, none⟩), .pointer (some ⟨ba, 0, none⟩)] w
      fun e w' => e = .returned (.bool false) ∧ Like w' w := by
  have h1 : (0 : Int) ≤ (t : Int) := by omega
  have h2 : (t : Int) < 4 := by omega
  have h3 : (0 : Int) ≤ (a : Int) := by omega
  have h4 : (a : Int) < 4 := by omega
  have h5 : (0 : Int) ≤ (c : Int) := by omega
  have h6 : (c : Int) < 4 := by omega
  go_enter Tryd.func187, Tryd.ntmps187
  go_wp2
  go_region
  all_goals (go_wp2; go_ret; exact ⟨rfl, rfl, rfl, rfl, rfl⟩)

set_option maxHeartbeats 1000000 in
theorem div_clo_yes (t a c : Nat) (ht : t < 4) (hr : a < 4) (hv : c < 4) (x y : Int) (hy0 : (y == 0) = false) (b bt ba bc : Nat) (w : World)
    (htc : w.cell? ⟨bt, 0, none⟩ = some (.int .i64 t)) (hac : w.cell? ⟨ba, 0, none⟩ = some (.int .i64 a)) (hcc : w.cell? ⟨bc, 0, none⟩ = some (.int .i64 c))
    (hx : w.cell? ⟨b, 10 + t * 4 + a, none⟩ = some (.int .i64 x)) (hy : w.cell? ⟨b, 10 + t * 4 + c, none⟩ = some (.int .i64 y)) (hf : w.frozen? ⟨b, 10 + t * 4 + a, none⟩ = false) :
    Calls Tryd.prog 187 #[.pointer (some ⟨b, 0, none⟩), .pointer (some ⟨bt, 0, none⟩), .pointer (some ⟨bc, 0, none⟩), .pointer (some ⟨ba, 0, none⟩)] w
      fun e w' => e = .returned (.bool true) ∧ Like w' (w.setCell ⟨b, 10 + t * 4 + a, none⟩ (.int .i64 (wrap64 (x.tdiv y)))) := by
  have h1 : (0 : Int) ≤ (t : Int) := by omega
  have h2 : (t : Int) < 4 := by omega
  have h3 : (0 : Int) ≤ (a : Int) := by omega
  have h4 : (a : Int) < 4 := by omega
  have h5 : (0 : Int) ≤ (c : Int) := by omega
  have h6 : (c : Int) < 4 := by omega
  have h7 : ¬ y = 0 := by simpa using hy0
  go_enter Tryd.func187, Tryd.ntmps187
  go_wp2
  go_region
  all_goals (go_wp2; go_region)
  all_goals (go_wp2; go_ret; exact ⟨rfl, rfl, rfl, rfl, rfl⟩)

end Go.Proofs.YtklenjmfalljgaaDoor

/- The state's block in memory; what the closures do to it. -/
namespace Go.Proofs.YtklenjmfalljgaaDoor
open Go.RowKit

def St.cells (s : St) : Array Value := #[.int .i64 (s.vars 0), .int .i64 (s.vars 1), .int .i64 (s.vars 2), .int .i64 (s.vars 3),
  .bool (s.held 0), .int .i64 (s.own 0), .bool (s.held 1), .int .i64 (s.own 1), .bool (s.held 2), .int .i64 (s.own 2),
  .int .i64 (s.regs 0 0), .int .i64 (s.regs 0 1), .int .i64 (s.regs 0 2), .int .i64 (s.regs 0 3), .int .i64 (s.regs 1 0), .int .i64 (s.regs 1 1), .int .i64 (s.regs 1 2), .int .i64 (s.regs 1 3),
  .int .i64 (s.regs 2 0), .int .i64 (s.regs 2 1), .int .i64 (s.regs 2 2), .int .i64 (s.regs 2 3), .int .i64 (s.regs 3 0), .int .i64 (s.regs 3 1), .int .i64 (s.regs 3 2), .int .i64 (s.regs 3 3),
  .int .i64 (s.next 0), .int .i64 (s.next 1), .int .i64 (s.next 2), .int .i64 (s.next 3)]

def StAt (w : World) (b : Nat) (s : St) : Prop := w.heap[b]? = some (.cells s.cells 137 (0, 0))

theorem lt4 {t : Nat} (h : t < 4) : t = 0 ∨ t = 1 ∨ t = 2 ∨ t = 3 := by omega
theorem lt3 {t : Nat} (h : t < 3) : t = 0 ∨ t = 1 ∨ t = 2 := by omega

theorem StAt.cell {w : World} {b : Nat} {s : St} (h : StAt w b s) (o : Nat) : w.cell? ⟨b, o, none⟩ = s.cells[o]? := by
  unfold StAt at h; simp [World.cell?, h]
theorem StAt.frozen {w : World} {b : Nat} {s : St} (h : StAt w b s) (o : Nat) : w.frozen? ⟨b, o, none⟩ = false := by
  unfold StAt at h; simp [World.frozen?, h]
theorem StAt.var {w : World} {b : Nat} {s : St} (h : StAt w b s) {v : Nat} (hv : v < 4) : w.cell? ⟨b, v, none⟩ = some (.int .i64 (s.vars v)) := by
  rw [h.cell]; rcases lt4 hv with rfl | rfl | rfl | rfl <;> rfl
theorem StAt.held {w : World} {b : Nat} {s : St} (h : StAt w b s) {l : Nat} (hl : l < 3) : w.cell? ⟨b, 4 + l * 2, none⟩ = some (.bool (s.held l)) := by
  rw [h.cell]; rcases lt3 hl with rfl | rfl | rfl <;> rfl
theorem StAt.own {w : World} {b : Nat} {s : St} (h : StAt w b s) {l : Nat} (hl : l < 3) : w.cell? ⟨b, 4 + l * 2 + 1, none⟩ = some (.int .i64 (s.own l)) := by
  rw [h.cell]; rcases lt3 hl with rfl | rfl | rfl <;> rfl
theorem StAt.reg {w : World} {b : Nat} {s : St} (h : StAt w b s) {t r : Nat} (ht : t < 4) (hr : r < 4) : w.cell? ⟨b, 10 + t * 4 + r, none⟩ = some (.int .i64 (s.regs t r)) := by
  rw [h.cell]; rcases lt4 ht with rfl | rfl | rfl | rfl <;> rcases lt4 hr with rfl | rfl | rfl | rfl <;> rfl
theorem StAt.next {w : World} {b : Nat} {s : St} (h : StAt w b s) {t : Nat} (ht : t < 4) : w.cell? ⟨b, 26 + t, none⟩ = some (.int .i64 (s.next t)) := by
  rw [h.cell]; rcases lt4 ht with rfl | rfl | rfl | rfl <;> rfl

theorem cells_setReg (s : St) {t r : Nat} (ht : t < 4) (hr : r < 4) (v : Int) : s.cells.setIfInBounds (10 + t * 4 + r) (.int .i64 v) = (s.setReg t r v).cells := by
  rcases lt4 ht with rfl | rfl | rfl | rfl <;> rcases lt4 hr with rfl | rfl | rfl | rfl <;> rfl
theorem cells_setVar (s : St) {x : Nat} (hx : x < 4) (v : Int) : s.cells.setIfInBounds x (.int .i64 v) = (s.setVar x v).cells := by
  rcases lt4 hx with rfl | rfl | rfl | rfl <;> rfl
theorem cells_setNext (s : St) {x : Nat} (hx : x < 4) (v : Int) : s.cells.setIfInBounds (26 + x) (.int .i64 v) = (s.setNext x v).cells := by
  rcases lt4 hx with rfl | rfl | rfl | rfl <;> rfl
theorem cells_setLock (s : St) {l : Nat} (hl : l < 3) (h : Bool) (o : Int) : (s.cells.setIfInBounds (4 + l * 2) (.bool h)).setIfInBounds (4 + l * 2 + 1) (.int .i64 o) = (s.setLock l h o).cells := by
  rcases lt3 hl with rfl | rfl | rfl <;> rfl

theorem StAt.setCell {w : World} {b : Nat} {s s' : St} {o : Nat} {v : Value} (h : StAt w b s) (e : s.cells.setIfInBounds o v = s'.cells) : StAt (w.setCell ⟨b, o, none⟩ v) b s' := by
  unfold StAt at *; rw [heap_setCell_same w b o _ _ v h, e]
theorem StAt.setCell2 {w : World} {b : Nat} {s s' : St} {o o' : Nat} {v v' : Value} (h : StAt w b s) (e : (s.cells.setIfInBounds o v).setIfInBounds o' v' = s'.cells) : StAt ((w.setCell ⟨b, o, none⟩ v).setCell ⟨b, o', none⟩ v') b s' := by
  unfold StAt at *
  rw [heap_setCell_same _ b o' _ _ v' (heap_setCell_same w b o _ _ v h), e]

theorem StAt.like {w w' : World} {b : Nat} {s : St} (h : StAt w b s) (hl : Like w' w) : StAt w' b s := by unfold StAt at *; rw [hl.1]; exact h

theorem grown_refl (w : World) (r : Option Nat) : w.grownBy w r := ⟨rfl, rfl, rfl, Nat.le_refl _, fun _ _ _ => rfl⟩
theorem grown_like {w w' w'' : World} {r : Option Nat} (h : w.grownBy w' r) (hl : Like w'' w') : w.grownBy w'' r :=
  ⟨hl.2.1.trans h.os, hl.2.2.2.trans h.tape, hl.2.2.1.trans h.output, by rw [hl.1]; exact h.size, fun k hk hr => by rw [hl.1]; exact h.block k hk hr⟩
theorem grown_trans {w w' w'' : World} {r : Option Nat} (h : w.grownBy w' r) (h' : w'.grownBy w'' r) : w.grownBy w'' r :=
  ⟨h'.os.trans h.os, h'.tape.trans h.tape, h'.output.trans h.output, Nat.le_trans h.size h'.size, fun k hk hr => (h'.block k (Nat.lt_of_lt_of_le hk h.size) hr).trans (h.block k hk hr)⟩
theorem grown_set {w : World} {b o : Nat} {v : Value} : w.grownBy (w.setCell ⟨b, o, none⟩ v) (some b) :=
  ⟨rfl, rfl, rfl, by simp, fun k _ hr => Below.heap_setCell w _ v k (by simpa using hr)⟩
theorem grown_set2 {w : World} {b o o' : Nat} {v v' : Value} : w.grownBy ((w.setCell ⟨b, o, none⟩ v).setCell ⟨b, o', none⟩ v') (some b) := grown_trans grown_set grown_set

/-- The value v, called with the state at block b, answers r and leaves the world so. -/
def Does (w : World) (v : Value) (b : Nat) (R : Bool → World → Prop) : Prop :=
  ∃ k caps, v = .func (.func k) #[] caps ∧ (∀ args w, (callFunc k args).run Tryd.prog w = .ok (.enter k args) w) ∧
    Calls Tryd.prog k (#[.pointer (some ⟨b, 0, none⟩)] ++ caps) w fun e w' => ∃ r, e = .returned (.bool r) ∧ R r w'

def pt (b : Nat) : Value := .pointer (some ⟨b, 0, none⟩)

/-- v is the closure of the instruction i of thread t; what it holds lies in blocks below B. -/
def ActIs (B : Nat) (w : World) (v : Value) (t : Nat) (i : Ins) : Prop :=
  ∃ x y z u : Nat, x < B ∧ y < B ∧ z < B ∧ u < B ∧
  ((i.op = 1 ∧ v = .func (.func 183) #[] #[pt x, pt y, pt z] ∧ w.cell? ⟨x, 0, none⟩ = some (.int .i64 i.n) ∧ w.cell? ⟨y, 0, none⟩ = some (.int .i64 t) ∧ w.cell? ⟨z, 0, none⟩ = some (.int .i64 i.a)) ∨
   (i.op = 2 ∧ v = .func (.func 184) #[] #[pt x, pt y, pt z] ∧ w.cell? ⟨x, 0, none⟩ = some (.int .i64 i.b) ∧ w.cell? ⟨y, 0, none⟩ = some (.int .i64 t) ∧ w.cell? ⟨z, 0, none⟩ = some (.int .i64 i.a)) ∨
   (i.op = 3 ∧ v = .func (.func 185) #[] #[pt x, pt y, pt z] ∧ w.cell? ⟨x, 0, none⟩ = some (.int .i64 t) ∧ w.cell? ⟨y, 0, none⟩ = some (.int .i64 i.b) ∧ w.cell? ⟨z, 0, none⟩ = some (.int .i64 i.a)) ∨
   (∃ f, (i.op = 4 ∧ f = 148 ∨ i.op = 5 ∧ f = 149 ∨ i.op = 6 ∧ f = 150) ∧ v = .func (.func 186) #[] #[pt x, pt y, pt z, pt u] ∧ w.cell? ⟨x, 0, none⟩ = some (.func (.func f) #[] #[]) ∧ w.cell? ⟨y, 0, none⟩ = some (.int .i64 t) ∧ w.cell? ⟨z, 0, none⟩ = some (.int .i64 i.a) ∧ w.cell? ⟨u, 0, none⟩ = some (.int .i64 i.b)) ∨
   (i.op = 7 ∧ v = .func (.func 187) #[] #[pt x, pt y, pt z] ∧ w.cell? ⟨x, 0, none⟩ = some (.int .i64 t) ∧ w.cell? ⟨y, 0, none⟩ = some (.int .i64 i.b) ∧ w.cell? ⟨z, 0, none⟩ = some (.int .i64 i.a)) ∨
   (i.op = 8 ∧ v = .func (.func 188) #[] #[pt x, pt y, pt z] ∧ w.cell? ⟨x, 0, none⟩ = some (.int .i64 t) ∧ w.cell? ⟨y, 0, none⟩ = some (.int .i64 i.a) ∧ w.cell? ⟨z, 0, none⟩ = some (.int .i64 i.n)) ∨
   (i.op = 9 ∧ v = .func (.func 189) #[] #[pt x, pt y] ∧ w.cell? ⟨x, 0, none⟩ = some (.int .i64 t) ∧ w.cell? ⟨y, 0, none⟩ = some (.int .i64 i.a)) ∨
   (i.op = 10 ∧ v = .func (.func 190) #[] #[pt x, pt y] ∧ w.cell? ⟨x, 0, none⟩ = some (.int .i64 i.a) ∧ w.cell? ⟨y, 0, none⟩ = some (.bool true) ∧ w.cell? ⟨y, 1, none⟩ = some (.int .i64 t)) ∨
   (i.op = 11 ∧ v = .func (.func 191) #[] #[pt x, pt y] ∧ w.cell? ⟨x, 0, none⟩ = some (.int .i64 t) ∧ w.cell? ⟨y, 0, none⟩ = some (.int .i64 i.a)))

theorem ActIs.of_block {B : Nat} {w w' : World} {v : Value} {t : Nat} {i : Ins} (h : ActIs B w v t i) (hb : ∀ k, k < B → w'.heap[k]? = w.heap[k]?) : ActIs B w' v t i := by
  obtain ⟨x, y, z, u, hx, hy, hz, hu, h⟩ := h
  have cx : ∀ o, w'.cell? ⟨x, o, none⟩ = w.cell? ⟨x, o, none⟩ := fun o => World.cell?_of_block (hb x hx)
  have cy : ∀ o, w'.cell? ⟨y, o, none⟩ = w.cell? ⟨y, o, none⟩ := fun o => World.cell?_of_block (hb y hy)
  have cz : ∀ o, w'.cell? ⟨z, o, none⟩ = w.cell? ⟨z, o, none⟩ := fun o => World.cell?_of_block (hb z hz)
  have cu : ∀ o, w'.cell? ⟨u, o, none⟩ = w.cell? ⟨u, o, none⟩ := fun o => World.cell?_of_block (hb u hu)
  exact ⟨x, y, z, u, hx, hy, hz, hu, by simpa only [cx, cy, cz, cu] using h⟩
theorem ActIs.mono {B B' : Nat} {w : World} {v : Value} {t : Nat} {i : Ins} (h : ActIs B w v t i) (hb : B ≤ B') : ActIs B' w v t i := by
  obtain ⟨x, y, z, u, hx, hy, hz, hu, h⟩ := h
  exact ⟨x, y, z, u, by omega, by omega, by omega, by omega, h⟩

end Go.Proofs.YtklenjmfalljgaaDoor

/- What a closure does, whichever instruction it is of. -/
namespace Go.Proofs.YtklenjmfalljgaaDoor
open Go.RowKit

/-- The post of an action. -/
def Acted (b : Nat) (w : World) (t : Nat) (i : Ins) (s : St) (r : Bool) (w' : World) : Prop := r = (act t i s).1 ∧ StAt w' b (act t i s).2 ∧ w.grownBy w' (some b)

theorem does_mk {w : World} {b k : Nat} {caps : Array Value} {R : Bool → World → Prop} {r : Bool} {w0 : World} (hk : ∀ args w, (callFunc k args).run Tryd.prog w = .ok (.enter k args) w)
    (hc : Calls Tryd.prog k (#[.pointer (some ⟨b, 0, none⟩)] ++ caps) w fun e w' => e = .returned (.bool r) ∧ Like w' w0) (hR : ∀ w', Like w' w0 → R r w') : Does w (.func (.func k) #[] caps) b R :=
  ⟨k, caps, rfl, hk, hc.mono fun _e w' ⟨he, hl⟩ => ⟨r, he, hR w' hl⟩⟩

theorem Acted.mk {b t : Nat} {w w0 w' : World} {i : Ins} {s s' : St} {r : Bool} (ha : act t i s = (r, s')) (hs : StAt w0 b s') (hg : w.grownBy w0 (some b)) (hl : Like w' w0) : Acted b w t i s r w' :=
  ⟨by rw [ha], by rw [ha]; exact hs.like hl, grown_like hg hl⟩

theorem act_does {B : Nat} {w : World} {v : Value} {t : Nat} {i : Ins} {len : Int} {b : Nat} {s : St} (ht : t < 4) (hi : vIns i len = true) (h : ActIs B w v t i) (hs : StAt w b s) :
    Does w v b (Acted b w t i s) := by
  obtain ⟨x, y, z, u, _, _, _, _, h⟩ := h
  have hsay := vIns_say hi
  rcases h with ⟨e, rfl, h1, h2, h3⟩ | ⟨e, rfl, h1, h2, h3⟩ | ⟨e, rfl, h1, h2, h3⟩ | ⟨f, hf, rfl, h1, h2, h3, h4⟩ | ⟨e, rfl, h1, h2, h3⟩ | ⟨e, rfl, h1, h2, h3⟩ | ⟨e, rfl, h1, h2⟩ | ⟨e, rfl, h1, h2, h3⟩ | ⟨e, rfl, h1, h2⟩
  · have ha : 0 ≤ i.a ∧ i.a < 4 := by omega
    have ea : ((i.a.toNat : Nat) : Int) = i.a := by omega
    rw [← ea] at h3
    have ha4 : i.a.toNat < 4 := by omega
    exact does_mk Tryd.call183 (set_clo t i.a.toNat ht ha4 i.n b x y z w _ h1 h2 h3 (hs.reg ht ha4) (hs.frozen _))
      fun w' hl => Acted.mk (by simp [act, e]) (hs.setCell (cells_setReg s ht ha4 _)) grown_set hl
  · have ha : 0 ≤ i.a ∧ i.a < 4 ∧ 0 ≤ i.b ∧ i.b < 4 := by omega
    have ea : ((i.a.toNat : Nat) : Int) = i.a := by omega
    have eb : ((i.b.toNat : Nat) : Int) = i.b := by omega
    rw [← ea] at h3; rw [← eb] at h1
    have ha4 : i.a.toNat < 4 := by omega
    have hb4 : i.b.toNat < 4 := by omega
    exact does_mk Tryd.call184 (load_clo t i.a.toNat i.b.toNat ht ha4 hb4 _ b x y z w _ h1 h2 h3 (hs.var hb4) (hs.reg ht ha4) (hs.frozen _))
      fun w' hl => Acted.mk (by simp [act, e]) (hs.setCell (cells_setReg s ht ha4 _)) grown_set hl
  · have ha : 0 ≤ i.a ∧ i.a < 4 ∧ 0 ≤ i.b ∧ i.b < 4 := by omega
    have ea : ((i.a.toNat : Nat) : Int) = i.a := by omega
    have eb : ((i.b.toNat : Nat) : Int) = i.b := by omega
    rw [← ea] at h3; rw [← eb] at h2
    have ha4 : i.a.toNat < 4 := by omega
    have hb4 : i.b.toNat < 4 := by omega
    exact does_mk Tryd.call185 (store_clo t i.b.toNat i.a.toNat ht hb4 ha4 _ b z x y w _ h3 h1 h2 (hs.reg ht hb4) (hs.var ha4) (hs.frozen _))
      fun w' hl => Acted.mk (by simp [act, e]) (hs.setCell (cells_setVar s ha4 _)) grown_set hl
  · have hop : i.op = 4 ∨ i.op = 5 ∨ i.op = 6 := by rcases hf with hf | hf | hf <;> simp [hf.1]
    have ha : 0 ≤ i.a ∧ i.a < 4 ∧ 0 ≤ i.b ∧ i.b < 4 := by omega
    have ea : ((i.a.toNat : Nat) : Int) = i.a := by omega
    have eb : ((i.b.toNat : Nat) : Int) = i.b := by omega
    rw [← ea] at h3; rw [← eb] at h4
    have ha4 : i.a.toNat < 4 := by omega
    have hb4 : i.b.toNat < 4 := by omega
    rcases hf with ⟨e, rfl⟩ | ⟨e, rfl⟩ | ⟨e, rfl⟩
    · exact does_mk Tryd.call186 (add_clo t i.a.toNat i.b.toNat ht ha4 hb4 _ _ b x y z u w h1 h2 h3 h4 (hs.reg ht ha4) (hs.reg ht hb4) (hs.frozen _))
        fun w' hl => Acted.mk (by simp [act, e]) (hs.setCell (cells_setReg s ht ha4 _)) grown_set hl
    · exact does_mk Tryd.call186 (sub_clo t i.a.toNat i.b.toNat ht ha4 hb4 _ _ b x y z u w h1 h2 h3 h4 (hs.reg ht ha4) (hs.reg ht hb4) (hs.frozen _))
        fun w' hl => Acted.mk (by simp [act, e]) (hs.setCell (cells_setReg s ht ha4 _)) grown_set hl
    · exact does_mk Tryd.call186 (mul_clo t i.a.toNat i.b.toNat ht ha4 hb4 _ _ b x y z u w h1 h2 h3 h4 (hs.reg ht ha4) (hs.reg ht hb4) (hs.frozen _))
        fun w' hl => Acted.mk (by simp [act, e]) (hs.setCell (cells_setReg s ht ha4 _)) grown_set hl
  · have ha : 0 ≤ i.a ∧ i.a < 4 ∧ 0 ≤ i.b ∧ i.b < 4 := by omega
    have ea : ((i.a.toNat : Nat) : Int) = i.a := by omega
    have eb : ((i.b.toNat : Nat) : Int) = i.b := by omega
    rw [← ea] at h3; rw [← eb] at h2
    have ha4 : i.a.toNat < 4 := by omega
    have hb4 : i.b.toNat < 4 := by omega
    by_cases h0 : s.regs t i.b.toNat = 0
    · have hz := hs.reg ht hb4
      rw [h0] at hz
      exact does_mk Tryd.call187 (div_clo_no t i.a.toNat i.b.toNat ht ha4 hb4 b x z y w h1 h3 h2 hz)
        fun w' hl => Acted.mk (by simp [act, e, h0]) hs (grown_refl _ _) hl
    · exact does_mk Tryd.call187 (div_clo_yes t i.a.toNat i.b.toNat ht ha4 hb4 _ _ (by simpa using h0) b x z y w h1 h3 h2 (hs.reg ht ha4) (hs.reg ht hb4) (hs.frozen _))
        fun w' hl => Acted.mk (by simp [act, e, h0]) (hs.setCell (cells_setReg s ht ha4 _)) grown_set hl
  · have ha : 0 ≤ i.a ∧ i.a < 4 := by omega
    have ea : ((i.a.toNat : Nat) : Int) = i.a := by omega
    rw [← ea] at h2
    have ha4 : i.a.toNat < 4 := by omega
    refine does_mk Tryd.call188 (jump_clo t i.a.toNat ht ha4 i.n _ b z x y w _ h3 h1 h2 (hs.reg ht ha4) (hs.next ht) (hs.frozen _)) fun w' hl => ?_
    by_cases h0 : s.regs t i.a.toNat = 0
    · rw [if_pos h0] at hl
      exact Acted.mk (by simp [act, e, h0]) (hs.setCell (cells_setNext s ht _)) grown_set hl
    · rw [if_neg h0] at hl
      exact Acted.mk (by simp [act, e, h0]) hs (grown_refl _ _) hl
  · have ha : 0 ≤ i.a ∧ i.a < 3 := by omega
    have ea : ((i.a.toNat : Nat) : Int) = i.a := by omega
    rw [← ea] at h2
    have ha3 : i.a.toNat < 3 := by omega
    exact does_mk Tryd.call189 (take_clo t i.a.toNat ha3 b x y w _ _ h1 h2 (hs.held ha3) (hs.frozen _) (hs.own ha3) (hs.frozen _))
      fun w' hl => Acted.mk (by simp [act, e]) (hs.setCell2 (cells_setLock s ha3 _ _)) grown_set2 hl
  · have ha : 0 ≤ i.a ∧ i.a < 3 := by omega
    have ea : ((i.a.toNat : Nat) : Int) = i.a := by omega
    rw [← ea] at h1
    have ha3 : i.a.toNat < 3 := by omega
    by_cases hh : s.held i.a.toNat = true
    · have c1 := hs.held ha3
      rw [hh] at c1
      by_cases ho : s.own i.a.toNat = t
      · have c2 := hs.own ha3
        rw [ho] at c2
        exact does_mk Tryd.call190 (release_clo_yes t i.a.toNat ha3 b y x w h2 h3 h1 c1 (hs.frozen _) c2 (hs.frozen _))
          fun w' hl => Acted.mk (by simp [act, e, hh, ho]) (hs.setCell2 (cells_setLock s ha3 _ _)) grown_set2 hl
      · exact does_mk Tryd.call190 (release_clo_no t i.a.toNat ha3 b y x w _ ho h2 h3 h1 c1 (hs.own ha3))
          fun w' hl => Acted.mk (by simp [act, e, hh, ho]) hs (grown_refl _ _) hl
    · have hf : s.held i.a.toNat = false := by simpa using hh
      have c1 := hs.held ha3
      rw [hf] at c1
      exact does_mk Tryd.call190 (release_clo_free t i.a.toNat ha3 b y x w _ h2 h3 h1 c1 (hs.own ha3))
        fun w' hl => Acted.mk (by simp [act, e, hf]) hs (grown_refl _ _) hl
  · have ha : 0 ≤ i.a ∧ i.a < 4 := by omega
    have ea : ((i.a.toNat : Nat) : Int) = i.a := by omega
    rw [← ea] at h2
    have ha4 : i.a.toNat < 4 := by omega
    exact does_mk Tryd.call191 (assert_clo t i.a.toNat ht ha4 _ b x y w h1 h2 (hs.reg ht ha4))
      fun w' hl => Acted.mk (by simp [act, e]) hs (grown_refl _ _) hl

end Go.Proofs.YtklenjmfalljgaaDoor

/- Walks of done, ready and step, said of cells. -/
namespace Go.Proofs.YtklenjmfalljgaaDoor
open Go.RowKit
attribute [local go_sem] Go.World.cell?_alloc_some

theorem grown_of_like {w w' : World} {r : Option Nat} (h : w'.heap = w.heap ∧ w'.os = w.os ∧ w'.output = w.output ∧ w'.tape = w.tape) : w.grownBy w' r := grown_like (grown_refl w r) h
theorem grown_alloc {w w' : World} {r : Option Nat} {o : Obj} (h : w.grownBy w' r) : w.grownBy (w'.alloc o) r :=
  grown_trans h ⟨rfl, rfl, rfl, by simp, fun k hk _ => Below.heap_alloc _ _ _ hk⟩
theorem grown_drew {w w' : World} {r : Option Nat} (h : w.grownBy w' r) : w.grownBy w'.drew r := grown_like h ⟨rfl, rfl, rfl, rfl⟩
theorem like_drewN (w : World) : ∀ n, Like (w.drewN n) w
  | 0 => ⟨rfl, rfl, rfl, rfl⟩
  | n + 1 => like_drewN w n
theorem grown_drewN {w w' : World} {r : Option Nat} (n : Nat) (h : w.grownBy w' r) : w.grownBy (w'.drewN n) r := grown_like h (like_drewN w' n)

set_option maxHeartbeats 400000 in
theorem done_raw (m g cap b t n : Nat) (ao : Option Addr) (len c : Nat) (x : Int) (w : World) (ht : t < n) (ht4 : t < 4)
    (hm : w.cell? ⟨m, 0, none⟩ = some (.slice (some ⟨g, 0, none⟩) n cap)) (hr : w.cell? ⟨g, t, none⟩ = some (.slice ao len c)) (hx : w.cell? ⟨b, 26 + t, none⟩ = some (.int .i64 x)) :
    Calls Tryd.prog 156 #[.pointer (some ⟨m, 0, none⟩), .pointer (some ⟨b, 0, none⟩), .int .i64 t] w
      fun e w' => e = .returned (.bool (x == (len : Int))) ∧ Like w' w := by
  have h1 : (0 : Int) ≤ (t : Int) := by omega
  have h2 : (t : Int) < 4 := by omega
  have h3 : (t : Int) < n := by omega
  go_enter Tryd.func156, Tryd.ntmps156
  go_wp2
  go_region
  all_goals (go_wp2; go_ret; exact ⟨rfl, rfl, rfl, rfl, rfl⟩)

set_option maxHeartbeats 400000 in
theorem ready_raw_done (m g cap b t n : Nat) (ao : Option Addr) (len c : Nat) (w : World) (ht : t < n) (ht4 : t < 4)
    (hm : w.cell? ⟨m, 0, none⟩ = some (.slice (some ⟨g, 0, none⟩) n cap)) (hr : w.cell? ⟨g, t, none⟩ = some (.slice ao len c)) (hx : w.cell? ⟨b, 26 + t, none⟩ = some (.int .i64 len)) :
    Calls Tryd.prog 106 #[.pointer (some ⟨m, 0, none⟩), .pointer (some ⟨b, 0, none⟩), .int .i64 t] w
      fun e w' => e = .returned (.bool false) ∧ Like w' w := by
  go_enter Tryd.func106, Tryd.ntmps106
  go_wp2_with fail
  refine (done_raw m g cap b t n ao len c len w ht ht4 hm hr hx).mono ?_
  rintro e w' ⟨rfl, hl⟩
  simp only [beq_self_eq_true]
  go_wp2
  go_ret
  exact ⟨rfl, hl⟩

set_option maxHeartbeats 1000000 in
theorem ready_raw_free (m g cap b t n h k : Nat) (len c : Nat) (kf : Nat) (caps : Array Value) (l : Int) (w : World) (ht : t < n) (ht4 : t < 4) (hk : k < len)
    (hm : w.cell? ⟨m, 0, none⟩ = some (.slice (some ⟨g, 0, none⟩) n cap)) (hr : w.cell? ⟨g, t, none⟩ = some (.slice (some ⟨h, 0, none⟩) len c)) (hx : w.cell? ⟨b, 26 + t, none⟩ = some (.int .i64 k))
    (hc0 : w.cell? ⟨h, k * 3, none⟩ = some (.func (.func kf) #[] caps)) (hc1 : w.cell? ⟨h, k * 3 + 1, none⟩ = some (.bool false)) (hc2 : w.cell? ⟨h, k * 3 + 2, none⟩ = some (.int .i64 l)) :
    Calls Tryd.prog 106 #[.pointer (some ⟨m, 0, none⟩), .pointer (some ⟨b, 0, none⟩), .int .i64 t] w
      fun e w' => e = .returned (.bool true) ∧ w.grownBy w' none := by
  have h1 : (0 : Int) ≤ (t : Int) := by omega
  have h2 : (t : Int) < 4 := by omega
  have h3 : (t : Int) < n := by omega
  have h4 : (0 : Int) ≤ (k : Int) := by omega
  have h5 : (k : Int) < len := by omega
  have hne : ((k : Int) == (len : Int)) = false := by simp; omega
  go_enter Tryd.func106, Tryd.ntmps106
  go_wp2_with fail
  refine (done_raw m g cap b t n _ len c k w ht ht4 hm hr hx).mono ?_
  rintro e w' ⟨rfl, hl⟩
  rw [hne]
  obtain ⟨q1, q2, q3, q4⟩ := hl
  have c1 : ∀ a, w'.cell? a = w.cell? a := fun a => by simp [World.cell?, q1]
  have Q1 : Hid (w'.heap = w.heap ∧ w'.os = w.os ∧ w'.output = w.output ∧ w'.tape = w.tape) := ⟨q1, q2, q3, q4⟩
  have hm' : w'.cell? ⟨m, 0, none⟩ = some (.slice (some ⟨g, 0, none⟩) n cap) := by rw [c1]; exact hm
  have hr' : w'.cell? ⟨g, t, none⟩ = some (.slice (some ⟨h, 0, none⟩) len c) := by rw [c1]; exact hr
  have hx' : w'.cell? ⟨b, 26 + t, none⟩ = some (.int .i64 k) := by rw [c1]; exact hx
  have d0 : w'.cell? ⟨h, k * 3, none⟩ = some (.func (.func kf) #[] caps) := by rw [c1]; exact hc0
  have d1 : w'.cell? ⟨h, k * 3 + 1, none⟩ = some (.bool false) := by rw [c1]; exact hc1
  have d2 : w'.cell? ⟨h, k * 3 + 2, none⟩ = some (.int .i64 l) := by rw [c1]; exact hc2
  clear q1 q2 q3 q4 c1 hm hr hx hc0 hc1 hc2
  have n1 := World.new_ne w' _ hm'
  have n2 := World.new_ne w' _ hr'
  have n3 := World.new_ne w' _ hx'
  have n4 := World.new_ne w' _ d0
  simp only at n1 n2 n3 n4
  have m1 := Ne.symm n1
  have m2 := Ne.symm n2
  have m3 := Ne.symm n3
  have m4 := Ne.symm n4
  go_wp2
  go_region
  go_wp2
  go_quiet (fail)
  go_wp2
  go_ret
  exact ⟨rfl, grown_drewN _ (grown_drew (grown_alloc (grown_of_like Q1.out)))⟩

set_option maxHeartbeats 1000000 in
theorem ready_raw_lock (m g cap b t n h k : Nat) (len c : Nat) (kf : Nat) (caps : Array Value) (l : Nat) (hd : Bool) (hl3 : l < 3) (w : World) (ht : t < n) (ht4 : t < 4) (hk : k < len)
    (hm : w.cell? ⟨m, 0, none⟩ = some (.slice (some ⟨g, 0, none⟩) n cap)) (hr : w.cell? ⟨g, t, none⟩ = some (.slice (some ⟨h, 0, none⟩) len c)) (hx : w.cell? ⟨b, 26 + t, none⟩ = some (.int .i64 k))
    (hc0 : w.cell? ⟨h, k * 3, none⟩ = some (.func (.func kf) #[] caps)) (hc1 : w.cell? ⟨h, k * 3 + 1, none⟩ = some (.bool true)) (hc2 : w.cell? ⟨h, k * 3 + 2, none⟩ = some (.int .i64 l)) (hh : w.cell? ⟨b, 4 + l * 2, none⟩ = some (.bool hd)) :
    Calls Tryd.prog 106 #[.pointer (some ⟨m, 0, none⟩), .pointer (some ⟨b, 0, none⟩), .int .i64 t] w
      fun e w' => e = .returned (.bool (!hd)) ∧ w.grownBy w' none := by
  have h1 : (0 : Int) ≤ (t : Int) := by omega
  have h2 : (t : Int) < 4 := by omega
  have h3 : (t : Int) < n := by omega
  have h4 : (0 : Int) ≤ (k : Int) := by omega
  have h5 : (k : Int) < len := by omega
  have hne : ((k : Int) == (len : Int)) = false := by simp; omega
  go_enter Tryd.func106, Tryd.ntmps106
  go_wp2_with fail
  refine (done_raw m g cap b t n _ len c k w ht ht4 hm hr hx).mono ?_
  rintro e w' ⟨rfl, hl⟩
  rw [hne]
  obtain ⟨q1, q2, q3, q4⟩ := hl
  have c1 : ∀ a, w'.cell? a = w.cell? a := fun a => by simp [World.cell?, q1]
  have Q1 : Hid (w'.heap = w.heap ∧ w'.os = w.os ∧ w'.output = w.output ∧ w'.tape = w.tape) := ⟨q1, q2, q3, q4⟩
  have hm' : w'.cell? ⟨m, 0, none⟩ = some (.slice (some ⟨g, 0, none⟩) n cap) := by rw [c1]; exact hm
  have hr' : w'.cell? ⟨g, t, none⟩ = some (.slice (some ⟨h, 0, none⟩) len c) := by rw [c1]; exact hr
  have hx' : w'.cell? ⟨b, 26 + t, none⟩ = some (.int .i64 k) := by rw [c1]; exact hx
  have d0 : w'.cell? ⟨h, k * 3, none⟩ = some (.func (.func kf) #[] caps) := by rw [c1]; exact hc0
  have d1 : w'.cell? ⟨h, k * 3 + 1, none⟩ = some (.bool true) := by rw [c1]; exact hc1
  have d2 : w'.cell? ⟨h, k * 3 + 2, none⟩ = some (.int .i64 l) := by rw [c1]; exact hc2
  have d3 : w'.cell? ⟨b, 4 + l * 2, none⟩ = some (.bool hd) := by rw [c1]; exact hh
  have h6 : (0 : Int) ≤ (l : Int) := by omega
  have h7 : (l : Int) < 3 := by omega
  clear q1 q2 q3 q4 c1 hm hr hx hc0 hc1 hc2 hh
  have n1 := World.new_ne w' _ hm'
  have n2 := World.new_ne w' _ hr'
  have n3 := World.new_ne w' _ hx'
  have n4 := World.new_ne w' _ d0
  simp only at n1 n2 n3 n4
  have m1 := Ne.symm n1
  have m2 := Ne.symm n2
  have m3 := Ne.symm n3
  have m4 := Ne.symm n4
  go_wp2
  go_region
  go_wp2
  go_quiet (fail)
  go_wp2
  go_ret
  exact ⟨rfl, grown_drewN _ (grown_drew (grown_alloc (grown_of_like Q1.out)))⟩

end Go.Proofs.YtklenjmfalljgaaDoor

/- The walk of step. -/
namespace Go.Proofs.YtklenjmfalljgaaDoor
open Go.RowKit
attribute [local go_sem] Go.World.cell?_alloc_some

set_option maxHeartbeats 400000 in
theorem step_raw (m g cap b t n h k : Nat) (len c : Nat) (kf : Nat) (caps : Array Value) (w : World) (R : Bool → World → Prop) (ht : t < n) (ht4 : t < 4) (hk : k < len) (hk16 : k < 16)
    (hmb : m ≠ b) (hgb : g ≠ b) (hhb : h ≠ b)
    (hm : w.cell? ⟨m, 0, none⟩ = some (.slice (some ⟨g, 0, none⟩) n cap)) (hr : w.cell? ⟨g, t, none⟩ = some (.slice (some ⟨h, 0, none⟩) len c)) (hx : w.cell? ⟨b, 26 + t, none⟩ = some (.int .i64 k)) (hxf : w.frozen? ⟨b, 26 + t, none⟩ = false)
    (hc0 : w.cell? ⟨h, k * 3, none⟩ = some (.func (.func kf) #[] caps))
    (hent : ∀ args w, (callFunc kf args).run Tryd.prog w = .ok (.enter kf args) w)
    (hcall : Calls Tryd.prog kf (#[.pointer (some ⟨b, 0, none⟩)] ++ caps) (w.setCell ⟨b, 26 + t, none⟩ (.int .i64 ((k : Int) + 1))) fun e w' => ∃ r, e = .returned (.bool r) ∧ R r w') :
    Calls Tryd.prog 107 #[.pointer (some ⟨m, 0, none⟩), .pointer (some ⟨b, 0, none⟩), .int .i64 t] w
      fun e w' => ∃ r, e = .returned (.bool r) ∧ R r w' := by
  have h1 : (0 : Int) ≤ (t : Int) := by omega
  have h2 : (t : Int) < 4 := by omega
  have h3 : (t : Int) < n := by omega
  have h4 : (0 : Int) ≤ (k : Int) := by omega
  have h5 : (k : Int) < len := by omega
  have h6 : (k : Int) < 16 := by omega
  have HC : Hid (Calls Tryd.prog kf (#[.pointer (some ⟨b, 0, none⟩)] ++ caps) (w.setCell ⟨b, 26 + t, none⟩ (.int .i64 ((k : Int) + 1))) fun e w' => ∃ r, e = .returned (.bool r) ∧ R r w') := hcall
  clear hcall
  have s1 : (w.setCell ⟨b, 26 + t, none⟩ (.int .i64 ((k : Int) + 1))).cell? ⟨m, 0, none⟩ = some (.slice (some ⟨g, 0, none⟩) n cap) := by rw [World.cell?_setCell_far _ _ _ _ (by simpa using Ne.symm hmb)]; exact hm
  have s2 : (w.setCell ⟨b, 26 + t, none⟩ (.int .i64 ((k : Int) + 1))).cell? ⟨g, t, none⟩ = some (.slice (some ⟨h, 0, none⟩) len c) := by rw [World.cell?_setCell_far _ _ _ _ (by simpa using Ne.symm hgb)]; exact hr
  have s3 : (w.setCell ⟨b, 26 + t, none⟩ (.int .i64 ((k : Int) + 1))).cell? ⟨h, k * 3, none⟩ = some (.func (.func kf) #[] caps) := by rw [World.cell?_setCell_far _ _ _ _ (by simpa using Ne.symm hhb)]; exact hc0
  go_enter Tryd.func107, Tryd.ntmps107
  go_wp2_with fail
  go_show
  refine HC.out.mono ?_
  rintro e w' ⟨r, rfl, hR⟩
  go_wp2
  go_ret
  exact ⟨r, rfl, hR⟩

end Go.Proofs.YtklenjmfalljgaaDoor

/- The machine in memory; done, ready, step, ending by its program. -/
namespace Go.Proofs.YtklenjmfalljgaaDoor
open Go.RowKit

def MoveAt (B : Nat) (w : World) (h k t : Nat) (i : Ins) : Prop :=
  ∃ kf caps, w.cell? ⟨h, k * 3, none⟩ = some (.func (.func kf) #[] caps) ∧ ActIs B w (.func (.func kf) #[] caps) t i ∧
    w.cell? ⟨h, k * 3 + 1, none⟩ = some (.bool (i.op == 9)) ∧ w.cell? ⟨h, k * 3 + 2, none⟩ = some (.int .i64 (if i.op = 9 then i.a else 0))

def RowIs (B : Nat) (w : World) (v : Value) (t : Nat) (c : List Ins) : Prop :=
  (c = [] ∧ v = .slice none 0 0) ∨ ∃ h cap, v = .slice (some ⟨h, 0, none⟩) c.length cap ∧ h < B ∧ ∀ k (hk : k < c.length), MoveAt B w h k t c[k]

def MachAt (B : Nat) (w : World) (m : Nat) (p : List (List Ins)) : Prop :=
  ∃ g cap, m < B ∧ g < B ∧ w.cell? ⟨m, 0, none⟩ = some (.slice (some ⟨g, 0, none⟩) p.length cap) ∧
    ∀ t, t < p.length → ∃ v, w.cell? ⟨g, t, none⟩ = some v ∧ RowIs B w v t (codeOf p t)

theorem MoveAt.of_block {B : Nat} {w w' : World} {h k t : Nat} {i : Ins} (hh : h < B) (H : MoveAt B w h k t i) (hb : ∀ k, k < B → w'.heap[k]? = w.heap[k]?) : MoveAt B w' h k t i := by
  obtain ⟨kf, caps, h0, h1, h2, h3⟩ := H
  have c : ∀ o, w'.cell? ⟨h, o, none⟩ = w.cell? ⟨h, o, none⟩ := fun o => World.cell?_of_block (hb h hh)
  exact ⟨kf, caps, by rw [c]; exact h0, h1.of_block hb, by rw [c]; exact h2, by rw [c]; exact h3⟩
theorem MoveAt.mono {B B' : Nat} {w : World} {h k t : Nat} {i : Ins} (H : MoveAt B w h k t i) (hb : B ≤ B') : MoveAt B' w h k t i := by
  obtain ⟨kf, caps, h0, h1, h2, h3⟩ := H
  exact ⟨kf, caps, h0, h1.mono hb, h2, h3⟩

theorem RowIs.of_block {B : Nat} {w w' : World} {v : Value} {t : Nat} {c : List Ins} (H : RowIs B w v t c) (hb : ∀ k, k < B → w'.heap[k]? = w.heap[k]?) : RowIs B w' v t c := by
  rcases H with H | ⟨h, cap, h1, h2, h3⟩
  · exact Or.inl H
  · exact Or.inr ⟨h, cap, h1, h2, fun k hk => (h3 k hk).of_block h2 hb⟩
theorem RowIs.mono {B B' : Nat} {w : World} {v : Value} {t : Nat} {c : List Ins} (H : RowIs B w v t c) (hb : B ≤ B') : RowIs B' w v t c := by
  rcases H with H | ⟨h, cap, h1, h2, h3⟩
  · exact Or.inl H
  · exact Or.inr ⟨h, cap, h1, by omega, fun k hk => (h3 k hk).mono hb⟩

theorem MachAt.of_block {B : Nat} {w w' : World} {m : Nat} {p : List (List Ins)} (H : MachAt B w m p) (hb : ∀ k, k < B → w'.heap[k]? = w.heap[k]?) : MachAt B w' m p := by
  obtain ⟨g, cap, hm, hg, h1, h2⟩ := H
  refine ⟨g, cap, hm, hg, by rw [World.cell?_of_block (hb m hm)]; exact h1, fun t ht => ?_⟩
  obtain ⟨v, h3, h4⟩ := h2 t ht
  exact ⟨v, by rw [World.cell?_of_block (hb g hg)]; exact h3, h4.of_block hb⟩

theorem StAt.lt {w : World} {b : Nat} {s : St} (h : StAt w b s) : b < w.heap.size := by
  unfold StAt at h
  exact (Array.getElem?_eq_some_iff.1 h).1
theorem StAt.grown {w w' : World} {b : Nat} {s : St} (h : StAt w b s) (hg : w.grownBy w' none) : StAt w' b s := by
  have hl := h.lt
  unfold StAt at *
  rw [hg.block b hl (by simp)]; exact h
theorem MachAt.grown {B b : Nat} {w w' : World} {m : Nat} {p : List (List Ins)} (H : MachAt B w m p) (hB : B ≤ b) (hb : b < w.heap.size) (hg : w.grownBy w' (some b)) : MachAt B w' m p :=
  H.of_block fun k hk => hg.block k (by omega) (by simp; omega)
theorem MachAt.grown' {B : Nat} {w w' : World} {m : Nat} {p : List (List Ins)} (H : MachAt B w m p) (hB : B ≤ w.heap.size) (hg : w.grownBy w' none) : MachAt B w' m p :=
  H.of_block fun k hk => hg.block k (by omega) (by simp)

theorem done_m {B m b t : Nat} {w : World} {p : List (List Ins)} {s : St} (hp : vProg p = true) (hM : MachAt B w m p) (hs : StAt w b s) (ht : t < p.length) :
    Calls Tryd.prog 156 #[.pointer (some ⟨m, 0, none⟩), .pointer (some ⟨b, 0, none⟩), .int .i64 t] w
      fun e w' => e = .returned (.bool (doneB p s t)) ∧ w.grownBy w' none := by
  obtain ⟨g, cap, hm, hg, h1, h2⟩ := hM
  obtain ⟨v, h3, h4⟩ := h2 t ht
  have ht4 : t < 4 := by have := (vProg_len hp).2; omega
  have hv : ∃ ao c, v = .slice ao (codeOf p t).length c := by
    rcases h4 with ⟨e, rfl⟩ | ⟨h, c, rfl, _⟩
    · exact ⟨none, 0, by rw [e]; rfl⟩
    · exact ⟨_, _, rfl⟩
  obtain ⟨ao, c, rfl⟩ := hv
  exact (done_raw m g cap b t _ ao _ c _ w ht ht4 h1 h3 (hs.next ht4)).mono fun e w' ⟨he, hl⟩ => ⟨he, grown_like (grown_refl _ _) hl⟩

theorem row_move {B : Nat} {w : World} {v : Value} {t : Nat} {c : List Ins} (H : RowIs B w v t c) {k : Nat} (hk : k < c.length) :
    ∃ h cap, v = .slice (some ⟨h, 0, none⟩) c.length cap ∧ h < B ∧ MoveAt B w h k t c[k] := by
  rcases H with ⟨e, _⟩ | ⟨h, cap, e, hh, hm⟩
  · subst e; simp at hk
  · exact ⟨h, cap, e, hh, hm k hk⟩

theorem ready_m {B m b t : Nat} {w : World} {p : List (List Ins)} {s : St} (hp : vProg p = true) (hM : MachAt B w m p) (hs : StAt w b s) (hI : Inv p s) (ht : t < p.length) :
    Calls Tryd.prog 106 #[.pointer (some ⟨m, 0, none⟩), .pointer (some ⟨b, 0, none⟩), .int .i64 t] w
      fun e w' => e = .returned (.bool (readyB p s t)) ∧ w.grownBy w' none := by
  obtain ⟨g, cap, hm, hg, h1, h2⟩ := hM
  obtain ⟨v, h3, h4⟩ := h2 t ht
  have ht4 : t < 4 := by have := (vProg_len hp).2; omega
  have hn := hI t ht
  by_cases hd : doneB p s t = true
  · have hv : ∃ ao c, v = .slice ao (codeOf p t).length c := by
      rcases h4 with ⟨e, rfl⟩ | ⟨h, c, rfl, _⟩
      · exact ⟨none, 0, by rw [e]; rfl⟩
      · exact ⟨_, _, rfl⟩
    obtain ⟨ao, c, rfl⟩ := hv
    have hx := hs.next ht4
    have e : s.next t = ((codeOf p t).length : Int) := by simpa [doneB] using hd
    rw [e] at hx
    exact (ready_raw_done m g cap b t _ ao _ c w ht ht4 h1 h3 hx).mono fun e w' ⟨he, hl⟩ => ⟨by rw [he]; simp [readyB, hd], grown_like (grown_refl _ _) hl⟩
  · have hd' : doneB p s t = false := by simpa using hd
    have hne : s.next t ≠ ((codeOf p t).length : Int) := by simpa [doneB] using hd'
    have hk : (s.next t).toNat < (codeOf p t).length := by omega
    have ek : ((s.next t).toNat : Int) = s.next t := by omega
    obtain ⟨h, c, rfl, hh, kf, caps, m0, m1, m2, m3⟩ := row_move h4 hk
    have hx := hs.next ht4
    rw [← ek] at hx
    have hv := vProg_ins hp ht hk
    have hi : insAt p t (s.next t) = (codeOf p t)[(s.next t).toNat] := insAt_get hk
    rw [← hi] at m1 m2 m3
    by_cases h9 : (insAt p t (s.next t)).op = 9
    · have hsay := vIns_say hv
      have ha : 0 ≤ (insAt p t (s.next t)).a ∧ (insAt p t (s.next t)).a < 3 := by omega
      have ea : ((insAt p t (s.next t)).a.toNat : Int) = (insAt p t (s.next t)).a := by omega
      have ha3 : (insAt p t (s.next t)).a.toNat < 3 := by omega
      rw [if_pos h9, ← ea] at m3
      rw [h9] at m2
      exact (ready_raw_lock m g cap b t _ h _ _ c kf caps _ _ ha3 w ht ht4 hk h1 h3 hx m0 m2 m3 (hs.held ha3)).mono fun e w' ⟨he, hl⟩ => ⟨by rw [he]; simp [readyB, hd', h9], hl⟩
    · have e9 : ((insAt p t (s.next t)).op == 9) = false := by simpa using h9
      rw [e9] at m2
      exact (ready_raw_free m g cap b t _ h _ _ c kf caps _ w ht ht4 hk h1 h3 hx m0 m2 m3).mono fun e w' ⟨he, hl⟩ => ⟨by rw [he]; simp [readyB, hd', h9], hl⟩

theorem step_m {B m b t : Nat} {w : World} {p : List (List Ins)} {s : St} (hp : vProg p = true) (hM : MachAt B w m p) (hB : B ≤ b) (hs : StAt w b s) (hI : Inv p s) (ht : t < p.length) (hd : doneB p s t = false) :
    Calls Tryd.prog 107 #[.pointer (some ⟨m, 0, none⟩), .pointer (some ⟨b, 0, none⟩), .int .i64 t] w
      fun e w' => ∃ r, e = .returned (.bool r) ∧ r = (stepS p s t).1 ∧ StAt w' b (stepS p s t).2 ∧ w.grownBy w' (some b) := by
  obtain ⟨g, cap, hm, hg, h1, h2⟩ := hM
  obtain ⟨v, h3, h4⟩ := h2 t ht
  have ht4 : t < 4 := by have := (vProg_len hp).2; omega
  have hn := hI t ht
  have hne : s.next t ≠ ((codeOf p t).length : Int) := by simpa [doneB] using hd
  have hk : (s.next t).toNat < (codeOf p t).length := by omega
  have ek : ((s.next t).toNat : Int) = s.next t := by omega
  have h16 := vCode_len (vProg_code hp ht)
  obtain ⟨h, c, rfl, hh, kf, caps, m0, m1, m2, m3⟩ := row_move h4 hk
  have hx := hs.next ht4
  rw [← ek] at hx
  have hv := vProg_ins hp ht hk
  have hi : insAt p t (s.next t) = (codeOf p t)[(s.next t).toNat] := insAt_get hk
  rw [← hi] at m1
  have hs1 : StAt (w.setCell ⟨b, 26 + t, none⟩ (.int .i64 (s.next t + 1))) b (s.setNext t (s.next t + 1)) := hs.setCell (cells_setNext s ht4 _)
  have hgr : w.grownBy (w.setCell ⟨b, 26 + t, none⟩ (.int .i64 (s.next t + 1))) (some b) := grown_set
  have m1' := m1.of_block (w' := w.setCell ⟨b, 26 + t, none⟩ (.int .i64 (s.next t + 1))) fun k hk => Below.heap_setCell _ _ _ _ (by simp; omega)
  obtain ⟨kf', caps', e1, e2, e3⟩ := act_does ht4 hv m1' hs1
  have e4 : kf' = kf ∧ caps' = caps := by simp at e1; exact ⟨e1.1.symm, e1.2.symm⟩
  obtain ⟨rfl, rfl⟩ := e4
  rw [← ek] at e3
  refine (step_raw m g cap b t _ h _ _ c kf' caps' w (fun r w' => r = (stepS p s t).1 ∧ StAt w' b (stepS p s t).2 ∧ w.grownBy w' (some b)) ht ht4 hk (by omega) (by omega) (by omega) (by omega) h1 h3 hx (hs.frozen _) m0 e2 (e3.mono ?_))
  rintro e w' ⟨r, he, q1, q2, q3⟩
  rw [ek] at q1 q2 q3
  exact ⟨r, he, q1, q2, grown_trans hgr q3⟩

end Go.Proofs.YtklenjmfalljgaaDoor

/- The walk of ending. -/
namespace Go.Proofs.YtklenjmfalljgaaDoor
open Go.RowKit

/-- ending's answer after k threads, none of which was ready. -/
def endTo (p : List (List Ins)) (s : St) (k : Nat) : Int := if (List.range k).all (doneB p s) then 3 else 4

theorem endTo_succ (p : List (List Ins)) (s : St) (k : Nat) : endTo p s (k + 1) = if doneB p s k = true then endTo p s k else 4 := by
  unfold endTo
  rw [List.range_succ, List.all_append]
  by_cases h : doneB p s k = true <;> simp [h]

theorem ending_open {p : List (List Ins)} {s : St} {k : Nat} (hk : k < p.length) (h : readyB p s k = true) : endingS p s = 5 := by
  unfold endingS
  rw [if_pos]
  exact List.any_eq_true.2 ⟨k, List.mem_range.2 hk, h⟩

theorem ending_end {p : List (List Ins)} {s : St} (h : ∀ k, k < p.length → readyB p s k = false) : endingS p s = endTo p s p.length := by
  unfold endingS endTo
  rw [if_neg]
  intro hc
  obtain ⟨k, hk, hr⟩ := List.any_eq_true.1 hc
  rw [h k (List.mem_range.1 hk)] at hr
  cases hr

set_option maxHeartbeats 1000000 in
theorem ending_m {B m b : Nat} {w : World} {p : List (List Ins)} {s : St} (hp : vProg p = true) (hM : MachAt B w m p) (hB : B ≤ b) (hs : StAt w b s) (hI : Inv p s) :
    Calls Tryd.prog 108 #[.pointer (some ⟨m, 0, none⟩), .pointer (some ⟨b, 0, none⟩)] w
      fun e w' => e = .returned (.int .i64 (endingS p s)) ∧ w.grownBy w' none := by
  have hb := hs.lt
  have hlen := vProg_len hp
  have HM : Hid (MachAt B w m p) := hM
  have HS : Hid (StAt w b s) := hs
  have HI : Hid (Inv p s) := hI
  have HP : Hid (vProg p = true) := hp
  obtain ⟨g, cap, hm, hg, h1, h2⟩ := hM
  have h3 : (p.length : Int) ≤ 4 := by omega
  clear h2 hs hI hp hm hg
  go_enter Tryd.func108, Tryd.ntmps108
  go_wp2
  go_loopw [5, 12] (fun e i w' => ∃ k : Nat, k ≤ p.length ∧ i = .int .i64 k ∧ e = .int .i64 (endTo p s k) ∧ Hid (w.grownBy w' none) ∧ Hid (∀ j, j < k → readyB p s j = false)) (fun _ i _ => p.length - (intOf i).toNat)
  case atStart => exact ⟨0, Nat.zero_le _, rfl, rfl, grown_refl _ _, fun j hj => by omega⟩
  case round =>
    obtain ⟨k, hk, rfl, rfl, HG, HR⟩ := hrel
    by_cases hlt : k < p.length
    · go_wp2_with fail
      refine (ready_m HP.out (HM.out.grown' (by omega) HG.out) (HS.out.grown HG.out) HI.out hlt).mono ?_
      rintro e w1 ⟨rfl, hg1⟩
      have HG1 : Hid (w.grownBy w1 none) := grown_trans HG.out hg1
      clear hg1
      cases hr : readyB p s k
      · go_wp2_with fail
        refine (done_m HP.out (HM.out.grown' (by omega) HG1.out) (HS.out.grown HG1.out) hlt).mono ?_
        rintro e w2 ⟨rfl, hg2⟩
        have HG2 : Hid (w.grownBy w2 none) := grown_trans HG1.out hg2
        clear hg2
        have HS1 : Hid (endTo p s (k + 1) = if doneB p s k = true then endTo p s k else 4) := endTo_succ p s k
        have HR1 : Hid (∀ j, j < k + 1 → readyB p s j = false) := fun j hj => by
          by_cases e : j = k
          · rw [e]; exact hr
          · exact HR.out j (by omega)
        clear hr
        cases hd : doneB p s k
        · go_wp2
          go_roundw
          case rel => exact ⟨k + 1, by omega, by go_num, by rw [HS1.out, hd]; rfl, HG2, HR1⟩
          case measure => simp [intOf]; omega
        · go_wp2
          go_roundw
          case rel => exact ⟨k + 1, by omega, by go_num, by rw [HS1.out, hd]; rfl, HG2, HR1⟩
          case measure => simp [intOf]; omega
      · have HE : Hid (endingS p s = 5) := ending_open hlt hr
        clear hr
        go_wp2
        go_ret
        exact ⟨by rw [HE.out]; rfl, HG1⟩
    · have e : k = p.length := by omega
      have HE : Hid (endingS p s = endTo p s k) := by rw [e]; exact ending_end (fun j hj => HR.out j (by omega))
      clear e
      go_wp2
      go_ret
      exact ⟨by rw [HE.out]; rfl, HG⟩

end Go.Proofs.YtklenjmfalljgaaDoor

/- The walk of follow. -/
namespace Go.Proofs.YtklenjmfalljgaaDoor
open Go.RowKit

set_option maxHeartbeats 400000 in
theorem below_m (x n : Int) (w : World) : Calls Tryd.prog 105 #[.int .i64 x, .int .i64 n] w fun e w' => e = .returned (.bool (belowB x n)) ∧ w' = w := by
  by_cases h1 : 0 ≤ x
  · by_cases h2 : x < n
    · have HB : Hid (belowB x n = true) := by unfold Hid; simp [belowB, h1, h2]
      go_enter Tryd.func105, Tryd.ntmps105
      go_wp2
      go_ret
      exact ⟨by rw [HB.out]; rfl, rfl⟩
    · have HB : Hid (belowB x n = false) := by unfold Hid; simp [belowB, h1, h2]
      have h3 : n ≤ x := by omega
      go_enter Tryd.func105, Tryd.ntmps105
      go_wp2
      go_ret
      exact ⟨by rw [HB.out]; rfl, rfl⟩
  · have HB : Hid (belowB x n = false) := by unfold Hid; simp [belowB, h1]
    have h3 : x < 0 := by omega
    go_enter Tryd.func105, Tryd.ntmps105
    go_wp2
    go_ret
    exact ⟨by rw [HB.out]; rfl, rfl⟩

/-- A slice of numbers in memory; its row lies below block B. -/
def IntsAt (B : Nat) (w : World) (v : Value) (l : List Int) : Prop :=
  ∃ ao cap, v = .slice ao l.length cap ∧ l.length ≤ cap ∧ ∀ k (hk : k < l.length), ∃ g o, ao = some ⟨g, o, none⟩ ∧ g < B ∧ w.cell? ⟨g, o + k, none⟩ = some (.int .i64 l[k])

def flatS (acc : List (Int × Int)) : List Value := acc.flatMap fun x => [.int .i64 x.1, .int .i64 x.2]
theorem flatS_snoc (acc : List (Int × Int)) (x : Int × Int) : flatS (acc ++ [x]) = flatS acc ++ [.int .i64 x.1, .int .i64 x.2] := by simp [flatS]

theorem owns_grown {w w' : World} {base : Nat} {e : TypeId} {size : Nat} {v : Value} {n : Nat} {xs : List Value} {r : Option Nat} (h : w.ownsRow base e size v n xs) (hg : w.grownBy w' r) (hr : ∀ k, r = some k → k < base) : w'.ownsRow base e size v n xs := by
  obtain ⟨h1, h2⟩ := h
  refine ⟨h1, ?_⟩
  rcases h2 with h2 | ⟨g, cap, cur, hv, hb, hh, rest⟩
  · exact Or.inl h2
  · have hlt : g < w.heap.size := (Array.getElem?_eq_some_iff.1 hh).1
    refine Or.inr ⟨g, cap, cur, hv, hb, ?_, rest⟩
    rw [hg.block g hlt (fun e => by have := hr g e.symm; omega)]; exact hh

theorem owns_block {w : World} {base : Nat} {e : TypeId} {size : Nat} {v : Value} {n : Nat} {xs : List Value} (h : w.ownsRow base e size v n xs) : ∀ k, v.ownBlock = some k → base ≤ k := by
  rcases h.2 with ⟨e1, _⟩ | ⟨g, cap, cur, hv, hb, _⟩
  · intro k hk; rw [e1] at hk; cases hk
  · intro k hk; rw [hv] at hk; simp [Value.ownBlock] at hk; omega

theorem info_step : ((Tryd.prog.info? 48).map fun i => (i.zero, i.size, i.bytes)) = some (some (.agg #[.int .i64 0, .int .i64 0]), 2, 16) := by kernel_rfl

theorem owns_mono {w : World} {base base' : Nat} {e : TypeId} {size : Nat} {v : Value} {n : Nat} {xs : List Value} (h : w.ownsRow base e size v n xs) (hb : base' ≤ base) : w.ownsRow base' e size v n xs := by
  obtain ⟨h1, h2⟩ := h
  refine ⟨h1, h2.imp id ?_⟩
  rintro ⟨g, cap, cur, hv, hg, rest⟩
  exact ⟨g, cap, cur, hv, by omega, rest⟩
theorem grown_setNew {w w' : World} {r : Option Nat} {g o : Nat} {v : Value} (h : w.grownBy w' r) (hg : w.heap.size ≤ g) : w.grownBy (w'.setCell ⟨g, o, none⟩ v) r :=
  ⟨h.os, h.tape, h.output, by simpa using h.size, fun k hk hr => by rw [Below.heap_setCell _ _ _ _ (by simp; omega)]; exact h.block k hk hr⟩
theorem StAt.setOther {w : World} {b : Nat} {s : St} {g o : Nat} {v : Value} (h : StAt w b s) (hg : b ≠ g) : StAt (w.setCell ⟨g, o, none⟩ v) b s := by
  unfold StAt at *
  rw [Below.heap_setCell _ _ _ _ (by simpa using hg)]; exact h
theorem grown_old {w w' : World} {r : Option Nat} {o : Obj} (h : (w.alloc o).grownBy w' r) : w.grownBy w' r := grown_trans (grown_alloc (grown_refl w r)) h
theorem new_block {w w' : World} {b : Nat} {o : Obj} (h : (w.alloc o).grownBy w' (some b)) (hb : b < w.heap.size) : w'.heap[w.heap.size]? = some o := by
  rw [h.block w.heap.size (by simp) (by simp; omega)]
  show (w.heap.push o)[w.heap.size]? = some o
  simp
theorem grown_none {w w' : World} {r : Option Nat} (h : w.grownBy w' none) : w.grownBy w' r := ⟨h.os, h.tape, h.output, h.size, fun k hk _ => h.block k hk (by simp)⟩
theorem grown_row {w0 w w' : World} {r : Option Nat} {v : Value} (h : w0.grownBy w r) (hg : w.grownBy w' v.ownBlock) (hv : ∀ k, v.ownBlock = some k → w0.heap.size ≤ k) : w0.grownBy w' r :=
  ⟨hg.os.trans h.os, hg.tape.trans h.tape, hg.output.trans h.output, Nat.le_trans h.size hg.size, fun k hk hr => by
    rw [hg.block k (Nat.lt_of_lt_of_le hk h.size) (fun e => by have := hv k e.symm; omega)]; exact h.block k hk hr⟩
theorem StAt.rowGrown {w w' : World} {b : Nat} {s : St} {v : Value} (h : StAt w b s) (hg : w.grownBy w' v.ownBlock) (hv : ∀ k, v.ownBlock = some k → b < k) : StAt w' b s := by
  have hl := h.lt
  unfold StAt at *
  rw [hg.block b hl (fun e => by have := hv b e.symm; omega)]; exact h
theorem owns_alloc {w : World} {base : Nat} {e : TypeId} {size : Nat} {v : Value} {n : Nat} {xs : List Value} {o : Obj} (h : w.ownsRow base e size v n xs) : (w.alloc o).ownsRow base e size v n xs :=
  owns_grown h (grown_alloc (grown_refl w none)) (fun _ e => by cases e)
theorem three_cells {w : World} {g : Nat} {x y z : Value} {t : TypeId} (h : w.heap[g]? = some (.cells #[x, y, z] t (0, 0))) :
    w.cell? ⟨g, 0, none⟩ = some x ∧ w.cell? ⟨g, 1, none⟩ = some y ∧ w.cell? ⟨g, 2, none⟩ = some z ∧ (∀ o, w.frozen? ⟨g, o, none⟩ = false) := by
  simp [World.cell?, World.frozen?, h]

/-- What follow leaves. -/
def Followed (w : World) (b : Nat) (o : Out) (e : Ending) (w' : World) : Prop :=
  ∃ sv, e = .returned (.tuple #[sv, .agg #[.int .i64 o.kind, .int .i64 o.thread, .int .i64 o.at_]]) ∧ w'.ownsRow w.heap.size 48 2 sv o.steps.length (flatS o.steps) ∧
    StAt w' b o.st ∧ w.grownBy w' (some b)

set_option maxHeartbeats 4000000 in
set_option maxRecDepth 100000 in
theorem follow_m {B m b : Nat} {w : World} {p : List (List Ins)} {s0 : St} {v : Value} {sch : List Int} (hp : vProg p = true) (hM : MachAt B w m p) (hB : B ≤ b) (hs : StAt w b s0) (hI : Inv p s0)
    (hv : IntsAt B w v sch) (h500 : sch.length ≤ 500) :
    Calls Tryd.prog 73 #[.pointer (some ⟨m, 0, none⟩), .pointer (some ⟨b, 0, none⟩), v] w (Followed w b (follow p sch 0 s0 [])) := by
  obtain ⟨i0, hi0, hz0, hz1, hz2⟩ := info_parts info_step
  obtain ⟨ao, cap, rfl, hcap, hcell⟩ := hv
  have hb := hs.lt
  have hlen := vProg_len hp
  have HM : Hid (MachAt B w m p) := hM
  have HS : Hid (StAt w b s0) := hs
  have HI : Hid (Inv p s0) := hI
  have HP : Hid (vProg p = true) := hp
  have HC : Hid (∀ k (hk : k < sch.length), ∃ g o, ao = some ⟨g, o, none⟩ ∧ g < B ∧ w.cell? ⟨g, o + k, none⟩ = some (.int .i64 sch[k])) := hcell
  obtain ⟨g, mcap, hm, hg, h1, h2⟩ := hM
  have h3 : (p.length : Int) ≤ 4 := by omega
  have h4 : (sch.length : Int) ≤ 500 := by omega
  clear h2 hs hI hp hcell
  have HI0 : Hid (Tryd.prog.info? 48 = some i0) := hi0
  have HZ0 := hz0
  go_enter Tryd.func73, Tryd.ntmps73
  go_wp2_with (at_make; refine wpList_make_own _ rfl _ _ _ rfl (w.heap.size + 1) 48 i0 _ 2 Tryd.underlying33 hi0 hz0 hz1 .i64 .i64 _ sch.length rfl rfl rfl (by rw [hz2]; omega) (by unfold maxLen; omega) (by simp) ?_; intro w0 hown0 hg0)
  have HO0 : Hid (w0.ownsRow (w.heap.size + 1) 48 2 (.slice (some ⟨w.heap.size + 1, 0, none⟩) 0 sch.length) 0 []) := by unfold Hid; simpa using hown0
  have HG0 : Hid ((w.alloc (.cells #[.int .i64 0, .int .i64 0, .int .i64 0] 32)).grownBy w0 (some b)) := grown_none hg0
  have HW0 := (show Hid _ from hg0)
  clear hown0 hg0
  go_loopw [8, 17] (fun sv i w' => ∃ (k : Nat) (s : St) (acc : List (Int × Int)), k ≤ sch.length ∧ i = .int .i64 k ∧ acc.length = k ∧ Hid (w'.ownsRow (w.heap.size + 1) 48 2 sv k (flatS acc)) ∧
      Hid (StAt w' b s) ∧ Hid (Inv p s) ∧ Hid ((w.alloc (.cells #[.int .i64 0, .int .i64 0, .int .i64 0] 32)).grownBy w' (some b)) ∧
      Hid (follow p sch 0 s0 [] = follow p (sch.drop k) k s acc)) (fun _ i _ => sch.length - (intOf i).toNat)
  case atStart =>
    refine ⟨0, s0, [], Nat.zero_le _, rfl, rfl, HO0, ?_, HI, HG0, rfl⟩
    have hh : w0.heap[b]? = w.heap[b]? := by rw [HW0.out.block b (by simp; omega) (by simp), Below.heap_alloc _ _ _ (by omega)]
    have hst := HS.out
    unfold StAt at *
    unfold Hid
    rw [hh]; exact hst
  case round =>
    clear HO0 HG0 HW0
    obtain ⟨k, s, acc, hk, rfl, hacc, HO, HSt, HIn, HG, HF⟩ := hrel
    have hvb := new_block HG.out hb
    obtain ⟨v0, v1, v2, vf⟩ := three_cells hvb
    have vf0 := vf 0
    have vf1 := vf 1
    have vf2 := vf 2
    have HV : Hid (∀ o, wr.frozen? ⟨w.heap.size, o, none⟩ = false) := vf
    clear vf hvb
    have hsz : w.heap.size + 1 ≤ wr.heap.size := by have := HG.out.size; simpa using this
    have HM' : Hid (MachAt B wr m p) := (HM.out.grown' (by omega) (grown_alloc (grown_refl w none))).grown hB (by simp; omega) HG.out
    by_cases hlt : k < sch.length
    · obtain ⟨gb, go, rfl, hgb, hc⟩ := HC.out k hlt
      have hcr : wr.cell? ⟨gb, go + k, none⟩ = some (.int .i64 sch[k]) := by
        rw [HG.out.cell_far _ (by simp; omega) (by simp; omega), World.cell?_alloc_lt _ _ _ (by simp; omega)]; exact hc
      clear hc
      have HD : Hid (sch.drop k = sch[k] :: sch.drop (k + 1)) := List.drop_eq_getElem_cons hlt
      generalize sch[k] = t at *
      have hmr : wr.cell? ⟨m, 0, none⟩ = some (.slice (some ⟨g, 0, none⟩) p.length mcap) := by
        rw [HG.out.cell_far _ (by simp; omega) (by simp; omega), World.cell?_alloc_lt _ _ _ (by simp; omega)]; exact h1
      have hk0 : (0 : Int) ≤ (k : Int) := by omega
      have hk1 : (k : Int) < sch.length := by omega
      have hk2 : (k : Int) < 500 := by omega
      go_wp2_with fail
      refine (below_m t p.length wr).mono ?_
      rintro e w1 ⟨rfl, rfl⟩
      cases hbl : belowB t p.length
      · have HW : Hid (follow p sch 0 s0 [] = ⟨acc, 2, 0, k, s⟩) := by
          unfold Hid
          rw [HF.out, HD.out]; exact follow_wrong _ _ _ _ _ _ (by simp [okAt, hbl])
        clear hbl
        go_wp2
        rw [HW.out]
        exact bodyPost_ret (v := .tuple #[u8, .agg #[.int .i64 2, .int .i64 0, .int .i64 k]]) (by simp [results, Tryd.results73, go_sem, v0, v1, v2]) rfl
          ⟨u8, rfl, by rw [hacc]; exact owns_mono (ownsRow_setCell_below (ownsRow_setCell_below (ownsRow_setCell_below HO.out (by simp) _) (by simp) _) (by simp) _) (by omega), ((HSt.out.setOther (by omega)).setOther (by omega)).setOther (by omega), grown_setNew (grown_setNew (grown_setNew (grown_old HG.out) (by omega)) (by omega)) (by omega)⟩
      · have ht : 0 ≤ t ∧ t < p.length := by simpa [belowB] using hbl
        obtain ⟨t', rfl⟩ := Int.eq_ofNat_of_zero_le ht.1
        have ht' : t' < p.length := by omega
        have HT : Hid (belowB (t' : Int) p.length = true) := hbl
        clear hbl ht
        go_wp2_with fail
        refine (ready_m HP.out HM'.out HSt.out HIn.out ht').mono ?_
        rintro e w1 ⟨rfl, hg1⟩
        have HG1 : Hid ((w.alloc (.cells #[.int .i64 0, .int .i64 0, .int .i64 0] 32)).grownBy w1 (some b)) := grown_trans HG.out (grown_none hg1)
        have HO1 : Hid (w1.ownsRow (w.heap.size + 1) 48 2 u8 k (flatS acc)) := owns_grown HO.out hg1 (fun _ e => by cases e)
        have HS1 : Hid (StAt w1 b s) := HSt.out.grown hg1
        have HM1 : Hid (MachAt B w1 m p) := HM'.out.grown' (by omega) hg1
        have hsz1 : w.heap.size + 1 ≤ w1.heap.size := by have := HG1.out.size; simpa using this
        clear v0 v1 v2 vf0 vf1 vf2 HV hcr hmr hg1 HM' HSt HO HG hsz
        have hvb := new_block HG1.out hb
        obtain ⟨v0, v1, v2, vf⟩ := three_cells hvb
        have vf0 := vf 0
        have vf1 := vf 1
        have vf2 := vf 2
        clear vf hvb
        cases hrd : readyB p s t'
        · have HW : Hid (follow p sch 0 s0 [] = ⟨acc, 2, 0, k, s⟩) := by
            unfold Hid
            rw [HF.out, HD.out]; exact follow_wrong _ _ _ _ _ _ (by simp [okAt, hrd])
          clear hrd
          go_wp2
          rw [HW.out]
          exact bodyPost_ret (v := .tuple #[u8, .agg #[.int .i64 2, .int .i64 0, .int .i64 k]]) (by simp [results, Tryd.results73, go_sem, v0, v1, v2]) rfl
            ⟨u8, rfl, by rw [hacc]; exact owns_mono (ownsRow_setCell_below (ownsRow_setCell_below (ownsRow_setCell_below HO1.out (by simp) _) (by simp) _) (by simp) _) (by omega), ((HS1.out.setOther (by omega)).setOther (by omega)).setOther (by omega), grown_setNew (grown_setNew (grown_setNew (grown_old HG1.out) (by omega)) (by omega)) (by omega)⟩
        · have HK : Hid (okAt p s t' = true) := by unfold Hid; simp [okAt, hrd, HT.out]
          have HDn : Hid (doneB p s t' = false) := by
            unfold Hid
            cases hd : doneB p s t' with
            | false => rfl
            | true => simp [readyB, hd] at hrd
          clear hrd
          have ht4 : t' < 4 := by omega
          have hnx := HS1.out.next ht4
          have ht0 : (0 : Int) ≤ (t' : Int) := by omega
          have ht1 : (t' : Int) < 4 := by omega
          have h63 : k + 1 ≤ maxLen := by unfold maxLen; omega
          have hby : (k + 1) * 16 ≤ 140737488355328 := by omega
          go_wp2_with (at_builtin; refine wpList_append_lies _ rfl _ _ _ rfl (w.heap.size + 1) 48 i0 _ 2 16 Tryd.underlying33 hi0 hz0 hz1 hz2 rfl (by omega) u8 k (flatS acc) rfl (owns_alloc HO1.out) ⟨w1.heap.size, 0, none⟩ 1 1 [.int .i64 t', .int .i64 (s.next t')] rfl rfl (World.news_of_block (cs := #[.int .i64 t', .int .i64 (s.next t')]) (t := 48) (fr := (0, 0)) (heap_alloc_new w1 _)) (by simp [Value.oneCell']) (by omega) h63 hby (by simp; omega) (w1.heap.size + 1) (by simp) ?_; intro g2 cap2 w2 hown2 hgrow hat hlt2)
          have hob := owns_block HO1.out
          have HG2 : Hid ((w.alloc (.cells #[.int .i64 0, .int .i64 0, .int .i64 0] 32)).grownBy w2 (some b)) := grown_row (grown_alloc HG1.out) hgrow (fun k e => by have := hob k e; simp; omega)
          have HS2 : Hid (StAt w2 b s) := StAt.rowGrown (HS1.out.grown (grown_alloc (grown_refl _ _))) hgrow (fun k e => by have := hob k e; omega)
          have HM2 : Hid (MachAt B w2 m p) := (HM.out.grown' (by omega) (grown_alloc (grown_refl w none))).grown hB (by simp; omega) HG2.out
          have HO2 : Hid (w2.ownsRow (w.heap.size + 1) 48 2 (.slice (some ⟨g2, 0, none⟩) (k + 1) cap2) (k + 1) (flatS (acc ++ [((t' : Int), s.next t')]))) := by
            unfold Hid; rw [flatS_snoc]; exact hown2
          clear v0 v1 v2 vf0 vf1 vf2 hob hgrow hat hown2 HS1 HM1 HO1 HG1 hnx
          refine (step_m HP.out HM2.out hB HS2.out HIn.out ht' HDn.out).mono ?_
          rintro e w3 ⟨r, rfl, hr, hS3, hg3⟩
          have HG3 : Hid ((w.alloc (.cells #[.int .i64 0, .int .i64 0, .int .i64 0] 32)).grownBy w3 (some b)) := grown_trans HG2.out hg3
          have HO3 : Hid (w3.ownsRow (w.heap.size + 1) 48 2 (.slice (some ⟨g2, 0, none⟩) (k + 1) cap2) (k + 1) (flatS (acc ++ [((t' : Int), s.next t')]))) := owns_grown HO2.out hg3 (fun k e => by cases e; omega)
          have HS3 : Hid (StAt w3 b (stepS p s t').2) := hS3
          have HI3 : Hid (Inv p (stepS p s t').2) := Inv.step HP.out HIn.out ht' HDn.out
          have HR : Hid (r = (stepS p s t').1) := hr
          clear hr hS3 hg3 HO2 HM2 HS2 HG2
          have hvb := new_block HG3.out hb
          obtain ⟨v0, v1, v2, vf⟩ := three_cells hvb
          have vf0 := vf 0
          have vf1 := vf 1
          have vf2 := vf 2
          clear vf hvb
          cases r
          · have HW : Hid (follow p sch 0 s0 [] = ⟨acc ++ [((t' : Int), s.next t')], 1, t', s.next t', (stepS p s t').2⟩) := by
              unfold Hid
              rw [HF.out, HD.out, follow_fail p t' _ _ s acc HK.out (by simpa using HR.out.symm)]; rfl
            go_wp2
            rw [HW.out]
            exact bodyPost_ret (v := .tuple #[.slice (some ⟨g2, 0, none⟩) (k + 1) cap2, .agg #[.int .i64 1, .int .i64 t', .int .i64 (s.next t')]]) (by simp [results, Tryd.results73, go_sem, v0, v1, v2]) rfl
              ⟨_, rfl, by
                have e : (acc ++ [((t' : Int), s.next t')]).length = k + 1 := by simp [hacc]
                simp only [e]
                exact owns_mono (ownsRow_setCell_below (ownsRow_setCell_below (ownsRow_setCell_below HO3.out (by simp) _) (by simp) _) (by simp) _) (by omega), ((HS3.out.setOther (by omega)).setOther (by omega)).setOther (by omega), grown_setNew (grown_setNew (grown_setNew (grown_old HG3.out) (by omega)) (by omega)) (by omega)⟩
          · have HW : Hid (follow p sch 0 s0 [] = follow p (sch.drop (k + 1)) ((k + 1 : Nat) : Int) (stepS p s t').2 (acc ++ [((t' : Int), s.next t')])) := by
              unfold Hid
              rw [HF.out, HD.out, follow_go p t' _ _ s acc HK.out (by simpa using HR.out.symm)]; rfl
            clear v0 v1 v2 vf0 vf1 vf2
            go_wp2
            go_roundw
            case rel => exact ⟨k + 1, (stepS p s t').2, acc ++ [((t' : Int), s.next t')], by omega, by go_num, by simp [hacc], HO3, HS3, HI3, HG3, HW⟩
            case measure => simp [intOf]; omega
    · have HW : Hid (follow p sch 0 s0 [] = ⟨acc, endingS p s, 0, 0, s⟩) := by
        unfold Hid
        rw [HF.out, List.drop_of_length_le (by omega)]; rfl
      go_wp2_with fail
      refine (ending_m HP.out HM'.out hB HSt.out HIn.out).mono ?_
      rintro e w1 ⟨rfl, hg1⟩
      have HG1 : Hid ((w.alloc (.cells #[.int .i64 0, .int .i64 0, .int .i64 0] 32)).grownBy w1 (some b)) := grown_trans HG.out (grown_none hg1)
      have HO1 : Hid (w1.ownsRow (w.heap.size + 1) 48 2 u8 k (flatS acc)) := owns_grown HO.out hg1 (fun _ e => by cases e)
      have HS1 : Hid (StAt w1 b s) := HSt.out.grown hg1
      clear v0 v1 v2 vf0 vf1 vf2 HV hg1
      have hvb := new_block HG1.out hb
      obtain ⟨v0, v1, v2, vf⟩ := three_cells hvb
      have vf0 := vf 0
      have vf1 := vf 1
      have vf2 := vf 2
      clear vf hvb
      go_wp2
      rw [HW.out]
      exact bodyPost_ret (v := .tuple #[u8, .agg #[.int .i64 (endingS p s), .int .i64 0, .int .i64 0]]) (by simp [results, Tryd.results73, go_sem, v0, v1, v2]) rfl
        ⟨u8, rfl, by rw [hacc]; exact owns_mono (ownsRow_setCell_below (ownsRow_setCell_below (ownsRow_setCell_below HO1.out (by simp) _) (by simp) _) (by simp) _) (by omega), ((HS1.out.setOther (by omega)).setOther (by omega)).setOther (by omega), grown_setNew (grown_setNew (grown_setNew (grown_old HG1.out) (by omega)) (by omega)) (by omega)⟩

end Go.Proofs.YtklenjmfalljgaaDoor

/- The walk of Run. -/
namespace Go.Proofs.YtklenjmfalljgaaDoor
open Go.RowKit
attribute [local go_sem] Go.World.cell?_alloc_some

theorem hide {p : Prop} (h : p) : Hid p := h
theorem unhide {p : Prop} (h : Hid p) : p := h

section
variable {P : Program}
/-- copy of elements of several cells, over the whole of a row. -/
theorem run_copy_wide (w : World) (dT sT ty elem : TypeId) (g dLen dCap : Nat) (a : Addr) (sLen sCap sz : Nat) (cur : Array Value) (t : TypeId) (cs : List Value)
    (hu : P.underlying dT = some (.slice elem)) (hs : (P.info? elem).map (·.size) = some sz)
    (hg : w.heap[g]? = some (.cells cur t (0, 0))) (hn : cs.length = Nat.min sLen dLen * sz)
    (hsrc : ∀ j v, cs[j]? = some v → w.cell? (a.add j) = some v) (hfit : cs.length = cur.size) (h1 : ∀ v ∈ cs, v.oneCell' = true) :
    (Builtin.copy_ #[dT, sT] ty #[.slice (some ⟨g, 0, none⟩) dLen dCap, .slice (some a) sLen sCap]).run P w =
      .ok (goInt (Nat.min sLen dLen)) (w.setRow g cs.toArray) := by
  have hl := run_loadCells_list (P := P) w a cs hsrc
  have hst := run_storeCells_at P g 0 t cs 0 cur w hg (by omega) h1
  have e : (cur.toList.take (0 + 0) ++ cs ++ cur.toList.drop (0 + 0 + cs.length)) = cs := by
    have : cur.toList.drop (0 + 0 + cs.length) = [] := List.drop_of_length_le (by simp; omega)
    rw [this]; simp
  rw [e] at hst
  cases hq : P.info? elem with
  | none => simp [hq] at hs
  | some i =>
    have hi : i.size = sz := by simpa [hq] using hs
    simp [Builtin.copy_, run_underlying hu, Builtin.lenOf, Builtin.firstCells, sizeOf, typeInfo, hq, hi, ← hn, hl, hst]

end

def regsF (n : Nat) (s : St) : List Value := (List.range n).flatMap fun t => [.int .i64 (s.regs t 0), .int .i64 (s.regs t 1), .int .i64 (s.regs t 2), .int .i64 (s.regs t 3)]

theorem regsF_len (n : Nat) (s : St) : (regsF n s).length = n * 4 := by
  induction n with
  | zero => rfl
  | succ n ih => unfold regsF at *; rw [List.range_succ, List.flatMap_append, List.length_append, ih]; simp; omega

theorem regsF_cells {w : World} {b : Nat} {s : St} (hs : StAt w b s) {n : Nat} (hn : n ≤ 4) : ∀ j v, (regsF n s)[j]? = some v → w.cell? ((⟨b, 10, none⟩ : Addr).add j) = some v := by
  intro j v hj
  have hadd : (⟨b, 10, none⟩ : Addr).add j = ⟨b, 10 + j, none⟩ := by unfold Addr.add; split <;> simp_all
  have hlt : j < n * 4 := by
    have := (List.getElem?_eq_some_iff.1 hj).1
    rw [regsF_len] at this; exact this
  rw [hadd, hs.cell]
  have hc : n = 0 ∨ n = 1 ∨ n = 2 ∨ n = 3 ∨ n = 4 := by omega
  have e : (regsF 4 s)[j]? = some v := by
    have h4 : ∃ l, regsF 4 s = regsF n s ++ l := by
      rcases hc with rfl | rfl | rfl | rfl | rfl
      · exact ⟨_, rfl⟩
      · exact ⟨_, rfl⟩
      · exact ⟨_, rfl⟩
      · exact ⟨_, rfl⟩
      · exact ⟨[], by simp⟩
    obtain ⟨l, e⟩ := h4
    rw [e, List.getElem?_append_left (by rw [regsF_len]; exact hlt)]
    exact hj
  have h16 : j < 16 := by omega
  have hd : s.cells[10 + j]? = (regsF 4 s)[j]? := by
    have : s.cells.toList.drop 10 = regsF 4 s ++ [.int .i64 (s.next 0), .int .i64 (s.next 1), .int .i64 (s.next 2), .int .i64 (s.next 3)] := rfl
    have h2 : (s.cells.toList.drop 10)[j]? = (regsF 4 s)[j]? := by
      rw [this, List.getElem?_append_left (by rw [regsF_len]; omega)]
    rw [← h2, List.getElem?_drop]
    simp
  rw [hd]; exact e

theorem regsF_one (n : Nat) (s : St) : ∀ v ∈ regsF n s, v.oneCell' = true := by
  intro v hv
  unfold regsF at hv
  simp only [List.mem_flatMap, List.mem_cons, List.not_mem_nil, or_false] at hv
  obtain ⟨t, _, h⟩ := hv
  rcases h with rfl | rfl | rfl | rfl <;> rfl

theorem owns_cells {w : World} {base : Nat} {e : TypeId} {size : Nat} {g n cap : Nat} {xs : List Value} (h : w.ownsRow base e size (.slice (some ⟨g, 0, none⟩) n cap) n xs) :
    ∃ cur, w.heap[g]? = some (.cells cur e (0, 0)) ∧ cur.size = cap * size := by
  rcases h.2 with ⟨e1, _⟩ | ⟨g', cap', cur, hv, hb, hh, _, _, hs, _⟩
  · cases e1
  · simp at hv
    obtain ⟨rfl, rfl⟩ := hv
    exact ⟨cur, hh, hs⟩

theorem nine_cells {w : World} {g : Nat} {x0 x1 x2 x3 x4 x5 x6 x7 x8 : Value} {t : TypeId} (h : w.heap[g]? = some (.cells #[x0, x1, x2, x3, x4, x5, x6, x7, x8] t (0, 0))) :
    w.cell? ⟨g, 0, none⟩ = some x0 ∧ w.cell? ⟨g, 1, none⟩ = some x1 ∧ w.cell? ⟨g, 2, none⟩ = some x2 ∧ w.cell? ⟨g, 3, none⟩ = some x3 ∧ w.cell? ⟨g, 4, none⟩ = some x4 ∧ w.cell? ⟨g, 5, none⟩ = some x5 ∧ w.cell? ⟨g, 6, none⟩ = some x6 ∧ w.cell? ⟨g, 7, none⟩ = some x7 ∧ w.cell? ⟨g, 8, none⟩ = some x8 ∧ (∀ o, w.frozen? ⟨g, o, none⟩ = false) := by
  simp [World.cell?, World.frozen?, h]
theorem heap_setRow_other (w : World) (g k : Nat) (cs : Array Value) (h : k ≠ g) : (w.setRow g cs).heap[k]? = w.heap[k]? := by
  simp only [World.setRow, Array.getElem?_modify]
  rw [if_neg (by omega)]

theorem owns_form {w : World} {base : Nat} {e : TypeId} {size : Nat} {v : Value} {n : Nat} {xs : List Value} (h : w.ownsRow base e size v n xs) : ∃ ao n c, v = .slice ao n c := by
  rcases h.2 with ⟨e1, _⟩ | ⟨g', cap', cur, hv, _⟩
  · exact ⟨_, _, _, e1⟩
  · exact ⟨_, _, _, hv⟩

/-- A result in memory. -/
def ResAt (base : Nat) (w : World) (o : Out) (n : Nat) (rv : Value) : Prop :=
  ∃ sv gv, rv = .agg #[.int .i64 o.kind, .int .i64 o.thread, .int .i64 o.at_, sv, .int .i64 (o.st.vars 0), .int .i64 (o.st.vars 1), .int .i64 (o.st.vars 2), .int .i64 (o.st.vars 3), gv] ∧
    w.ownsRow base 48 2 sv o.steps.length (flatS o.steps) ∧ w.ownsRow base 34 4 gv n (regsF n o.st)

theorem info_arr : ((Tryd.prog.info? 34).map fun i => (i.zero, i.size, i.bytes)) = some (some (.agg #[.int .i64 0, .int .i64 0, .int .i64 0, .int .i64 0]), 4, 32) := by kernel_rfl

set_option maxHeartbeats 4000000 in
set_option maxRecDepth 100000 in
theorem run_m {B m : Nat} {w : World} {p : List (List Ins)} {v : Value} {sch : List Int} (hp : vProg p = true) (hM : MachAt B w m p) (hB : B ≤ w.heap.size)
    (hv : IntsAt B w v sch) (h500 : sch.length ≤ 500) :
    Calls Tryd.prog 40 #[.pointer (some ⟨m, 0, none⟩), v] w fun e w' => ∃ rv, e = .returned rv ∧ ResAt w.heap.size w' (runS p sch) p.length rv ∧ w.grownBy w' none := by
  obtain ⟨i0, hi0, hz0, hz1, hz2⟩ := info_parts info_arr
  have hlen := vProg_len hp
  have HM : Hid (MachAt B w m p) := hM
  have HV : Hid (IntsAt B w v sch) := hv
  have HP : Hid (vProg p = true) := hp
  clear hM hv hp
  go_enter Tryd.func40, Tryd.ntmps40
  go_wp2_with fail
  generalize hR9 : Obj.cells #[Value.int IntKind.i64 0, Value.int IntKind.i64 0, Value.int IntKind.i64 0, Value.slice none 0 0, Value.int IntKind.i64 0, Value.int IntKind.i64 0, Value.int IntKind.i64 0, Value.int IntKind.i64 0, Value.slice none 0 0] 37 = R9
  have HR9 := hide hR9
  clear hR9
  have HZ : Hid (StAt ((w.alloc R9).alloc (.cells St.zero.cells 137)) (w.heap.size + 1) St.zero) := by
    unfold Hid StAt
    have := heap_alloc_new (w.alloc R9) (.cells St.zero.cells 137)
    simpa using this
  have HB : Hid (w.grownBy ((w.alloc R9).alloc (.cells St.zero.cells 137)) none) := grown_alloc (grown_alloc (grown_refl _ _))
  have HV' : Hid (IntsAt B ((w.alloc R9).alloc (.cells St.zero.cells 137)) v sch) := by
    obtain ⟨ao, cap, e, h1, h2⟩ := HV.out
    refine ⟨ao, cap, e, h1, fun k hk => ?_⟩
    obtain ⟨g, o, e1, e2, e3⟩ := h2 k hk
    exact ⟨g, o, e1, e2, by rw [HB.out.cell_far _ (by simp; omega) (by simp)]; exact e3⟩
  have HF := hide (follow_m HP.out (HM.out.grown' hB HB.out) (by omega : B ≤ w.heap.size + 1) HZ.out (Inv.zero p) HV'.out h500)
  refine (unhide HF).mono ?_
  rintro e w1 ⟨sv, rfl, ho, hs, hg⟩
  have HO : Hid (w1.ownsRow (w.heap.size + 2) 48 2 sv (runS p sch).steps.length (flatS (runS p sch).steps)) := by
    have e : ((w.alloc R9).alloc (.cells St.zero.cells 137)).heap.size = w.heap.size + 2 := by simp
    rw [e] at ho; exact ho
  have HS : Hid (StAt w1 (w.heap.size + 1) (runS p sch).st) := hs
  have HG : Hid (((w.alloc R9).alloc (.cells St.zero.cells 137)).grownBy w1 (some (w.heap.size + 1))) := hg
  have hsz : w.heap.size + 2 ≤ w1.heap.size := by have := hg.size; simpa using this
  have HG0 : Hid (w.grownBy w1 none) := by
    refine ⟨hg.os, hg.tape, hg.output, by omega, fun k hk _ => ?_⟩
    rw [hg.block k (by simp; omega) (by simp; omega)]
    exact HB.out.block k hk (by simp)
  obtain ⟨sao, sln, scp, rfl⟩ := owns_form ho
  have HMm : Hid (MachAt B w1 m p) := HM.out.grown' hB HG0.out
  clear ho hs hg HF
  generalize hO : runS p sch = o at *
  have hoe : follow p sch 0 St.zero [] = o := hO
  rw [hoe]
  clear hoe
  have HOe := hide hO
  clear hO
  obtain ⟨mg, mcap, hm1, hm2, hm3, hm4⟩ := HMm.out
  clear hm4
  have hn4 : (p.length : Int) ≤ 4 := by omega
  have HSa : Hid (StAt (w1.alloc (.cells #[.int .i64 o.kind, .int .i64 o.thread, .int .i64 o.at_] 32)) (w.heap.size + 1) o.st) := HS.out.grown (grown_alloc (grown_refl _ _))
  go_wp2_with (at_make; refine wpList_make_full _ rfl _ _ _ rfl (w.heap.size + 2) 34 i0 _ 4 Tryd.underlying35 hi0 hz0 hz1 .i64 .i64 _ _ p.length rfl rfl rfl rfl (by rw [hz2]; omega) (by unfold maxLen; omega) (by simp; omega) ?_; intro w2 hown2 hg2; simp only [World.size_alloc] at hown2; obtain ⟨cur, hcur, hcsz⟩ := owns_cells hown2)
  rw [run_copy_wide w2 35 35 3 34 (w1.heap.size + 1) p.length p.length ⟨w.heap.size + 1, 10, none⟩ 4 4 4 cur 34 (regsF p.length o.st) Tryd.underlying35 (by rw [hi0]; simp [hz1]) hcur (by rw [regsF_len]; show p.length * 4 = min 4 p.length * 4; omega) (regsF_cells (HSa.out.grown hg2) (by omega)) (by rw [regsF_len, hcsz]) (regsF_one _ _)]
  have HGc : Hid ((w1.alloc (.cells #[.int .i64 o.kind, .int .i64 o.thread, .int .i64 o.at_] 32)).grownBy w2 none) := hg2
  have HCu : Hid (w2.heap[w1.heap.size + 1]? = some (.cells cur 34 (0, 0))) := hcur
  clear hg2 hown2 hcur
  generalize hw3 : w2.setRow (w1.heap.size + 1) (regsF p.length o.st).toArray = w3
  have HW3 := hide hw3
  clear hw3
  have hb3 : ∀ k, k < w1.heap.size + 1 → w3.heap[k]? = (w1.alloc (.cells #[.int .i64 o.kind, .int .i64 o.thread, .int .i64 o.at_] 32)).heap[k]? := fun k hk => by
    rw [← HW3.out, heap_setRow_other _ _ _ _ (by omega), HGc.out.block k (by simp; omega) (by simp)]
  have HB3 := hide hb3
  have hvb : w3.heap[w1.heap.size]? = some (.cells #[.int .i64 o.kind, .int .i64 o.thread, .int .i64 o.at_] 32 (0, 0)) := by rw [hb3 _ (by omega)]; exact heap_alloc_new w1 _
  have hst : StAt w3 (w.heap.size + 1) o.st := by
    unfold StAt; rw [hb3 _ (by omega)]; exact HSa.out
  have hrb : w3.heap[w.heap.size]? = some R9 := by
    rw [hb3 _ (by omega), Below.heap_alloc _ _ _ (by omega), HG.out.block _ (by simp; omega) (by simp)]
    rw [Below.heap_alloc _ _ _ (by simp)]
    exact heap_alloc_new w R9
  obtain ⟨q0, q1, q2, _⟩ := three_cells hvb
  have s0 := hst.var (v := 0) (by omega)
  have s1 := hst.var (v := 1) (by omega)
  have s2 := hst.var (v := 2) (by omega)
  have s3 := hst.var (v := 3) (by omega)
  have HST := hide hst
  rw [← HR9.out] at hrb
  obtain ⟨r0, r1, r2, r3, r4, r5, r6, r7, r8, rf⟩ := nine_cells hrb
  have f0 := rf 0
  have f1 := rf 1
  have f2 := rf 2
  have f3 := rf 3
  have f4 := rf 4
  have f5 := rf 5
  have f6 := rf 6
  have f7 := rf 7
  have f8 := rf 8
  have HG3 : Hid (w1.grownBy w3 none) := by
    refine ⟨?_, ?_, ?_, ?_, fun k hk _ => by rw [hb3 k (by omega), Below.heap_alloc _ _ _ hk]⟩
    · rw [← HW3.out]; exact HGc.out.os
    · rw [← HW3.out]; exact HGc.out.tape
    · rw [← HW3.out]; exact HGc.out.output
    · rw [← HW3.out]; have := HGc.out.size; simp at this ⊢; omega
  have HO3 : Hid (w3.ownsRow (w.heap.size + 2) 34 4 (.slice (some ⟨w1.heap.size + 1, 0, none⟩) p.length p.length) p.length (regsF p.length o.st)) := by
    refine ⟨regsF_len _ _, Or.inr ⟨w1.heap.size + 1, p.length, (regsF p.length o.st).toArray, rfl, by omega, ?_, Nat.le_refl _, by unfold maxLen; omega, by simp [regsF_len], ?_⟩⟩
    · rw [← HW3.out]; exact setRow_heap _ _ _ _ _ _ HCu.out
    · rw [List.take_of_length_le (by simp [regsF_len])]
  clear rf hrb hvb hst hb3 hm3
  go_wp2
  rw [HOe.out]
  refine bodyPost_ret (v := .agg #[.int .i64 o.kind, .int .i64 o.thread, .int .i64 o.at_, .slice sao sln scp, .int .i64 (o.st.vars 0), .int .i64 (o.st.vars 1), .int .i64 (o.st.vars 2), .int .i64 (o.st.vars 3), .slice (some ⟨w1.heap.size + 1, 0, none⟩) p.length p.length]) ?_ rfl ⟨_, rfl, ⟨_, _, rfl, ?_, ?_⟩, ?_⟩
  · simp [results, Tryd.results40, go_sem, r0, r1, r2, r3, r4, r5, r6, r7, r8]
  · refine owns_mono (base := w.heap.size + 2) ?_ (by omega)
    iterate 9 refine ownsRow_setCell_below ?_ (by simp) _
    exact owns_grown HO.out HG3.out (fun _ e => by cases e)
  · refine owns_mono (base := w.heap.size + 2) ?_ (by omega)
    iterate 9 refine ownsRow_setCell_below ?_ (by simp) _
    exact HO3.out
  · iterate 9 refine grown_setNew ?_ (by omega)
    exact grown_trans HG0.out HG3.out

end Go.Proofs.YtklenjmfalljgaaDoor
