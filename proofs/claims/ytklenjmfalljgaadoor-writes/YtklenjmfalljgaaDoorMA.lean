/- The texts Pure Reg Clo Clo2 Clo3 Clo4 Mem Act Rdy Stp Mach End Fol Run Val Mk Mk2 New New2 Rep Awk PureB Sch Sch2 Bas Hnd Hnd2 Hnd3 Hnd4. -/
import Derived.RowKit
import Derived.StillTailTactics
import Derived.OrdersHeld
import Derived.Test.YtklenjmfalljgaaDoorProg
import Derived.WalkKit
import Derived.WalkSpells
import Derived.WalkLawsBesides
import Derived.RegionTactic
import Derived.BigRegion
import Derived.ChangeAlike
import Derived.BigQuiet
import Derived.Deep.QuietTactic
import Derived.Deep.RegionHeld3
import Derived.Laws.Rows
import Derived.Deep.DeepMust
import Derived.Laws.EntriesVeiled
import Derived.Deep.AppendLies
import Derived.OwnWalk
import Derived.Laws.CopyRow
import Derived.Deep.Light
import Derived.Lib.QuietBelow
import Derived.Laws.CopyOwn

/- What the machine does, as plain functions on lists and numbers (no dump is named here). -/
namespace Go.Proofs.YtklenjmfalljgaaDoor
open Go.RowKit (wrap64)

structure Ins where
  op : Int
  a : Int
  b : Int
  n : Int

structure St where
  vars : Nat → Int
  held : Nat → Bool
  own : Nat → Int
  regs : Nat → Nat → Int
  next : Nat → Int

def St.zero : St := ⟨fun _ => 0, fun _ => false, fun _ => 0, fun _ _ => 0, fun _ => 0⟩
def St.setReg (s : St) (t r : Nat) (v : Int) : St := ⟨s.vars, s.held, s.own, fun t' r' => if t' = t ∧ r' = r then v else s.regs t' r', s.next⟩
def St.setVar (s : St) (x : Nat) (v : Int) : St := ⟨fun x' => if x' = x then v else s.vars x', s.held, s.own, s.regs, s.next⟩
def St.setNext (s : St) (t : Nat) (v : Int) : St := ⟨s.vars, s.held, s.own, s.regs, fun t' => if t' = t then v else s.next t'⟩
def St.setLock (s : St) (l : Nat) (h : Bool) (o : Int) : St := ⟨s.vars, fun l' => if l' = l then h else s.held l', fun l' => if l' = l then o else s.own l', s.regs, s.next⟩

/-- What an instruction of thread t does (its next one is set already). -/
def act (t : Nat) (i : Ins) (s : St) : Bool × St :=
  if i.op = 1 then (true, s.setReg t i.a.toNat i.n)
  else if i.op = 2 then (true, s.setReg t i.a.toNat (s.vars i.b.toNat))
  else if i.op = 3 then (true, s.setVar i.a.toNat (s.regs t i.b.toNat))
  else if i.op = 4 then (true, s.setReg t i.a.toNat (wrap64 (s.regs t i.a.toNat + s.regs t i.b.toNat)))
  else if i.op = 5 then (true, s.setReg t i.a.toNat (wrap64 (s.regs t i.a.toNat - s.regs t i.b.toNat)))
  else if i.op = 6 then (true, s.setReg t i.a.toNat (wrap64 (s.regs t i.a.toNat * s.regs t i.b.toNat)))
  else if i.op = 7 then (if s.regs t i.b.toNat = 0 then (false, s) else (true, s.setReg t i.a.toNat (wrap64 ((s.regs t i.a.toNat).tdiv (s.regs t i.b.toNat)))))
  else if i.op = 8 then (true, if s.regs t i.a.toNat = 0 then s.setNext t i.n else s)
  else if i.op = 9 then (true, s.setLock i.a.toNat true t)
  else if i.op = 10 then (if s.held i.a.toNat = true ∧ s.own i.a.toNat = t then (true, s.setLock i.a.toNat false 0) else (false, s))
  else (s.regs t i.a.toNat != 0, s)

def shp (op j : Nat) : Int :=
  ((([[0, 0, 0], [1, 0, 5], [1, 2, 0], [2, 1, 0], [1, 1, 0], [1, 1, 0], [1, 1, 0], [1, 1, 0], [1, 0, 4], [3, 0, 0], [3, 0, 0], [1, 0, 0]] : List (List Int))[op]?).getD [])[j]?.getD 0

def belowB (x n : Int) : Bool := decide (0 ≤ x) && decide (x < n)

def fitsB (k x len : Int) : Bool :=
  if k = 1 then belowB x 4 else if k = 2 then belowB x 4 else if k = 3 then belowB x 3 else if k = 4 then belowB x (len + 1) else if k = 5 then true else (x == 0)

def vIns (i : Ins) (len : Int) : Bool :=
  decide (1 ≤ i.op) && (decide (i.op ≤ 11) && (fitsB (shp i.op.toNat 0) i.a len && (fitsB (shp i.op.toNat 1) i.b len && fitsB (shp i.op.toNat 2) i.n len)))

def vCode (c : List Ins) : Bool := decide (c.length ≤ 16) && c.all fun i => vIns i c.length
def vProg (p : List (List Ins)) : Bool := decide (1 ≤ p.length) && (decide (p.length ≤ 4) && p.all vCode)

def codeOf (p : List (List Ins)) (t : Nat) : List Ins := (p[t]?).getD []
def insAt (p : List (List Ins)) (t : Nat) (k : Int) : Ins := ((codeOf p t)[k.toNat]?).getD ⟨0, 0, 0, 0⟩
def doneB (p : List (List Ins)) (s : St) (t : Nat) : Bool := s.next t == ((codeOf p t).length : Int)
def readyB (p : List (List Ins)) (s : St) (t : Nat) : Bool := !doneB p s t && (!((insAt p t (s.next t)).op == 9) || !s.held (insAt p t (s.next t)).a.toNat)
def stepS (p : List (List Ins)) (s : St) (t : Nat) : Bool × St := act t (insAt p t (s.next t)) (s.setNext t (s.next t + 1))
def endingS (p : List (List Ins)) (s : St) : Int :=
  if (List.range p.length).any (readyB p s) then 5 else if (List.range p.length).all (doneB p s) then 3 else 4

def okAt (p : List (List Ins)) (s : St) (t : Int) : Bool := belowB t p.length && readyB p s t.toNat

structure Out where
  steps : List (Int × Int)
  kind : Int
  thread : Int
  at_ : Int
  st : St

def follow (p : List (List Ins)) : List Int → Int → St → List (Int × Int) → Out
  | [], _, s, acc => ⟨acc, endingS p s, 0, 0, s⟩
  | t :: r, i, s, acc =>
    if okAt p s t = true then
      (if (stepS p s t.toNat).1 = true then follow p r (i + 1) (stepS p s t.toNat).2 (acc ++ [(t, s.next t.toNat)])
       else ⟨acc ++ [(t, s.next t.toNat)], 1, t, s.next t.toNat, (stepS p s t.toNat).2⟩)
    else ⟨acc, 2, 0, i, s⟩

def runS (p : List (List Ins)) (sch : List Int) : Out := follow p sch 0 St.zero []

/-- Where the threads' next instructions may be. -/
def Inv (p : List (List Ins)) (s : St) : Prop := ∀ t, t < p.length → 0 ≤ s.next t ∧ s.next t ≤ (codeOf p t).length

theorem Inv.zero (p : List (List Ins)) : Inv p St.zero := fun t _ => ⟨by simp [St.zero], by simp [St.zero]⟩

theorem vIns_op {i : Ins} {len : Int} (h : vIns i len = true) : 1 ≤ i.op ∧ i.op ≤ 11 := by
  simp only [vIns, Bool.and_eq_true, decide_eq_true_eq] at h; exact ⟨h.1, h.2.1⟩

theorem vIns_parts {i : Ins} {len : Int} (h : vIns i len = true) : fitsB (shp i.op.toNat 0) i.a len = true ∧ fitsB (shp i.op.toNat 1) i.b len = true ∧ fitsB (shp i.op.toNat 2) i.n len = true := by
  simp only [vIns, Bool.and_eq_true, decide_eq_true_eq] at h; exact h.2.2

/-- What a valid instruction's numbers are, by its Op. -/
theorem vIns_say {i : Ins} {len : Int} (h : vIns i len = true) :
    (i.op = 1 ∧ 0 ≤ i.a ∧ i.a < 4) ∨ (i.op = 2 ∧ 0 ≤ i.a ∧ i.a < 4 ∧ 0 ≤ i.b ∧ i.b < 4) ∨ (i.op = 3 ∧ 0 ≤ i.a ∧ i.a < 4 ∧ 0 ≤ i.b ∧ i.b < 4) ∨
    (i.op = 4 ∧ 0 ≤ i.a ∧ i.a < 4 ∧ 0 ≤ i.b ∧ i.b < 4) ∨ (i.op = 5 ∧ 0 ≤ i.a ∧ i.a < 4 ∧ 0 ≤ i.b ∧ i.b < 4) ∨ (i.op = 6 ∧ 0 ≤ i.a ∧ i.a < 4 ∧ 0 ≤ i.b ∧ i.b < 4) ∨
    (i.op = 7 ∧ 0 ≤ i.a ∧ i.a < 4 ∧ 0 ≤ i.b ∧ i.b < 4) ∨ (i.op = 8 ∧ 0 ≤ i.a ∧ i.a < 4 ∧ 0 ≤ i.n ∧ i.n < len + 1) ∨ (i.op = 9 ∧ 0 ≤ i.a ∧ i.a < 3) ∨ (i.op = 10 ∧ 0 ≤ i.a ∧ i.a < 3) ∨ (i.op = 11 ∧ 0 ≤ i.a ∧ i.a < 4) := by
  obtain ⟨h1, h2⟩ := vIns_op h
  obtain ⟨h3, h4, h5⟩ := vIns_parts h
  have hc : i.op = 1 ∨ i.op = 2 ∨ i.op = 3 ∨ i.op = 4 ∨ i.op = 5 ∨ i.op = 6 ∨ i.op = 7 ∨ i.op = 8 ∨ i.op = 9 ∨ i.op = 10 ∨ i.op = 11 := by omega
  rcases hc with e | e | e | e | e | e | e | e | e | e | e <;> rw [e] at h3 h4 h5 <;> simp [shp, fitsB, belowB] at h3 h4 h5 <;> simp [e] <;> omega

theorem act_next (t : Nat) (i : Ins) (s : St) (t' : Nat) : (act t i s).2.next t' = s.next t' ∨ (t' = t ∧ i.op = 8 ∧ (act t i s).2.next t' = i.n) := by
  by_cases h8 : i.op = 8
  · have e : act t i s = (true, if s.regs t i.a.toNat = 0 then s.setNext t i.n else s) := by simp [act, h8]
    rw [e]
    by_cases h0 : s.regs t i.a.toNat = 0
    · simp only [h0, if_true, St.setNext]
      by_cases ht : t' = t
      · right; simp [ht, h8]
      · left; simp [ht]
    · left; simp [h0]
  · left
    unfold act
    repeat' split
    all_goals first | rfl | (exfalso; exact h8 ‹_›)

theorem codeOf_get {p : List (List Ins)} {t : Nat} (h : t < p.length) : codeOf p t = p[t] := by simp [codeOf, h]

theorem vProg_code {p : List (List Ins)} (h : vProg p = true) {t : Nat} (ht : t < p.length) : vCode (codeOf p t) = true := by
  simp only [vProg, Bool.and_eq_true, List.all_eq_true] at h
  rw [codeOf_get ht]
  exact h.2.2 _ (List.getElem_mem ht)

theorem vProg_len {p : List (List Ins)} (h : vProg p = true) : 1 ≤ p.length ∧ p.length ≤ 4 := by
  simp only [vProg, Bool.and_eq_true, decide_eq_true_eq] at h; exact ⟨h.1, h.2.1⟩

theorem vCode_len {c : List Ins} (h : vCode c = true) : c.length ≤ 16 := by
  simp only [vCode, Bool.and_eq_true, decide_eq_true_eq] at h; exact h.1

theorem vCode_ins {c : List Ins} (h : vCode c = true) {k : Nat} (hk : k < c.length) : vIns c[k] c.length = true := by
  simp only [vCode, Bool.and_eq_true, List.all_eq_true] at h
  exact h.2 _ (List.getElem_mem hk)

theorem insAt_get {p : List (List Ins)} {t : Nat} {k : Int} (h : k.toNat < (codeOf p t).length) : insAt p t k = (codeOf p t)[k.toNat] := by simp [insAt, h]

theorem vProg_ins {p : List (List Ins)} (h : vProg p = true) {t : Nat} (ht : t < p.length) {k : Int} (hk : k.toNat < (codeOf p t).length) : vIns (insAt p t k) (codeOf p t).length = true := by
  rw [insAt_get hk]; exact vCode_ins (vProg_code h ht) hk

/-- A step that a ready thread takes keeps all threads' places. -/
theorem Inv.step {p : List (List Ins)} {s : St} (hp : vProg p = true) (h : Inv p s) {t : Nat} (ht : t < p.length) (hd : doneB p s t = false) : Inv p (stepS p s t).2 := by
  intro t' ht'
  have hn := h t ht
  have hn' := h t' ht'
  have hne : s.next t ≠ ((codeOf p t).length : Int) := by simpa [doneB] using hd
  have hk : (s.next t).toNat < (codeOf p t).length := by omega
  have hv := vProg_ins hp ht hk
  have hlen : ∀ t'', t'' = t → (codeOf p t'').length = (codeOf p t).length := fun t'' e => by rw [e]
  rcases act_next t (insAt p t (s.next t)) (s.setNext t (s.next t + 1)) t' with e | ⟨e1, e2, e3⟩
  · unfold stepS; rw [e]; simp only [St.setNext]
    split
    · rename_i e4; have := hlen t' e4; omega
    · exact hn'
  · unfold stepS; rw [e3]
    have := vIns_say hv
    have hl := hlen t' e1
    rcases this with h1 | h1 | h1 | h1 | h1 | h1 | h1 | h1 | h1 | h1 | h1 <;> omega

end Go.Proofs.YtklenjmfalljgaaDoor

/- A law of our own on regions that draw their order: all operations but the last (number n) wait ahead of it; what S says of the world is to be kept by those alone. -/
namespace Go.Proofs.YtklenjmfalljgaaDoor
open Go

section
variable {P : Program} {ops : Array Oper} {Q : Exit → Act → World → Prop} {S : World → Prop} {n : Nat}

def lastL (P : Program) (ops : Array Oper) (Q : Exit → Act → World → Prop) (n : Nat) (listed : Array Bool) (a : Act) (w : World) : Prop :=
  Region.ready .any ops listed = [n] ∧ Region.ready .any ops (listed.setIfInBounds n true) = [] ∧ wpOp P ops Q n (fun a' w' => Q .normal a' w') a w

def wpHead (P : Program) (ops : Array Oper) (Q : Exit → Act → World → Prop) (S : World → Prop) (n : Nat) : Nat → Array Bool → Act → World → Prop
  | 0, listed, a, w => lastL P ops Q n listed a w
  | f + 1, listed, a, w => Region.ready .any ops listed ≠ [] ∧ ∀ i ∈ Region.ready .any ops listed, i < n ∧ wpOp P ops Q i (fun a' w' => S w' ∧ wpHead P ops Q S n f (listed.setIfInBounds i true) a' w') a w

theorem wpAny_of_wpHead : ∀ (f : Nat) (listed : Array Bool) (a : Act) (w : World), wpHead P ops Q S n f listed a w → wpAny P .any ops Q (f + 1) listed a w
  | 0, listed, a, w, ⟨h1, h2, h3⟩ => ⟨fun h => (by rw [h1] at h; cases h), fun i hi => by
      rw [h1] at hi
      have : i = n := by simpa using hi
      subst this
      exact wpOp_mono (fun a' w' h => ⟨h2, h⟩) h3⟩
  | f + 1, listed, a, w, ⟨h1, h2⟩ => ⟨fun h => absurd h h1, fun i hi => wpOp_mono (fun a' w' h => wpAny_of_wpHead f _ a' w' h.2) (h2 i hi).2⟩

theorem wpHead_first {i : Nat} {oi : Oper} {v : Value} (hi : ops[i]? = some oi) (hsel : ∀ (j : Nat) (o : Oper) cs b, ops[j]? = some o → o.op ≠ .select cs b)
    (hQ : ∀ c a w, Q (.panic c) (a.put oi.dst v) w → Q (.panic c) a w) (hs : Region.sinkB .any ops n = true) (hc : Region.chainB .any ops n = true) (hn : n < ops.size) (hin : i < n) :
    ∀ (f : Nat) (listed : Array Bool) (a : Act) (w : World),
      (∀ j oj, ops[j]? = some oj → j ≠ i → listed.getD j true = false → (∀ e ∈ oj.after, Region.binds .any e = true → e.on ≠ i) → oi.apart ops oj = true) →
      i ∈ Region.ready .any ops listed → HeadInv .any ops n listed → YieldsIf P ops S oi v a → S w →
      wpHead P ops Q S n f (listed.setIfInBounds i true) (a.put oi.dst v) w → wpHead P ops Q S n (f + 1) listed a w := by
  intro f
  induction f with
  | zero =>
    intro listed a w _ hr inv hy hS H
    refine ⟨fun h => (by rw [h] at hr; cases hr), fun j hj => ?_⟩
    by_cases hji : j = i
    · subst hji
      exact ⟨hin, hy.wpOp hi hS ⟨hS, H⟩⟩
    · have h1 := ready_mono hj hji
      rw [H.1] at h1
      have : j = n := by simpa using h1
      subst this
      exact absurd hj (tail_waits hs hc hn inv _ i rfl hin (mem_ready.1 hr).1 j (Nat.le_refl _))
  | succ f ih =>
    intro listed a w hfree hr inv hy hS H
    refine ⟨fun h => (by rw [h] at hr; cases hr), fun j hj => ?_⟩
    by_cases hji : j = i
    · subst hji
      exact ⟨hin, hy.wpOp hi hS ⟨hS, H⟩⟩
    · have h0 := H.2 j (ready_mono hj hji)
      refine ⟨h0.1, ?_⟩
      obtain ⟨hjun, oj, hoj, hall⟩ := mem_ready.1 hj
      have hnot : ∀ e ∈ oj.after, Region.binds .any e = true → e.on ≠ i := fun e he hb heq => by
        have h1 := hall e he hb
        have h2 := getD_both (mem_ready.1 hr).1
        rw [heq, h2] at h1
        cases h1
      have h2 := wpOp_putIf hoj (hfree j oj hoj hji hjun hnot) (fun cs b => hsel i oi cs b hi) (fun cs b => hsel j oj cs b hoj) hQ hy h0.2
      refine wpOp_mono (fun a' w' h3 => ⟨h3.2.1, ih (listed.setIfInBounds j true) a' w' (fun k ok hk hki hun hno => ?_) (ready_mono hr (Ne.symm hji)) (inv.set hj h0.1) h3.1 h3.2.1 ?_⟩) h2
      · refine hfree k ok hk hki ?_ hno
        by_cases hjk : j = k
        · subst hjk; exact hjun
        · rw [getD_set_ne true hjk] at hun; exact hun
      · rw [Array.setIfInBounds_comm _ _ hji]
        exact h3.2.2

/-- Number i is taken first. -/
theorem wpHead_take {i : Nat} {oi : Oper} {v : Value} {f : Nat} {listed : Array Bool} {a : Act} {w : World} (hi : ops[i]? = some oi)
    (hs : (Region.noSelect ops && (Region.sinkB .any ops n && (Region.chainB .any ops n && (decide (n < ops.size) && (decide (i < n) && (Region.free .any ops listed i && (Region.ready .any ops listed).contains i)))))) = true)
    (hQ : ∀ c a w, Q (.panic c) (a.put oi.dst v) w → Q (.panic c) a w) (hy : YieldsIf P ops S oi v a) (hS : S w)
    (h : HeadInv .any ops n (listed.setIfInBounds i true) → wpHead P ops Q S n f (listed.setIfInBounds i true) (a.put oi.dst v) w) : HeadInv .any ops n listed → wpHead P ops Q S n (f + 1) listed a w := by
  simp only [Bool.and_eq_true, decide_eq_true_eq] at hs
  obtain ⟨h1, h2, h3, h4, h5, h6, h7⟩ := hs
  have h8 : i ∈ Region.ready .any ops listed := by simpa using h7
  exact fun inv => wpHead_first hi (Region.noSelect_spec h1) hQ h2 h3 h4 h5 f listed a w (Region.free_spec hi h6) h8 inv hy hS (h (inv.set h8 h5))

/-- Number i comes up alone. -/
theorem wpHead_alone {i : Nat} {oi : Oper} {f : Nat} {listed : Array Bool} {a : Act} {w : World} (hi : ops[i]? = some oi)
    (hr : Region.ready .any ops listed = [i]) (hin : decide (i < n) = true) (hw : Region.wanted oi (yielded ops a.tmps) = true)
    (h : ∀ K : Act → World → Prop, (∀ a' w', S w' → (HeadInv .any ops n (listed.setIfInBounds i true) → wpHead P ops Q S n f (listed.setIfInBounds i true) a' w') → K a' w') → oi.wp P a w K Q) :
    HeadInv .any ops n listed → wpHead P ops Q S n (f + 1) listed a w := by
  intro inv
  have h5 : i < n := of_decide_eq_true hin
  have h8 : i ∈ Region.ready .any ops listed := by rw [hr]; simp
  refine ⟨fun h => (by rw [hr] at h; cases h), fun j hj => ?_⟩
  rw [hr] at hj
  have : j = i := by simpa using hj
  subst this
  refine ⟨h5, ?_⟩
  unfold wpOp
  simp only [hi, hw, if_true]
  exact Or.inl (h _ (fun a' w' hS hh => ⟨hS, hh (inv.set h8 h5)⟩))

/-- The last one. -/
theorem wpHead_last {on : Oper} {listed : Array Bool} {a : Act} {w : World} (hi : ops[n]? = some on)
    (hr : Region.ready .any ops listed = [n]) (hr2 : Region.ready .any ops (listed.setIfInBounds n true) = []) (hw : Region.wanted on (yielded ops a.tmps) = true)
    (h : on.wp P a w (fun a' w' => Q .normal a' w') Q) : HeadInv .any ops n listed → wpHead P ops Q S n 0 listed a w := by
  intro _
  refine ⟨hr, hr2, ?_⟩
  unfold wpOp
  simp only [hi, hw, if_true]
  exact Or.inl h

/-- The region. -/
theorem wp_region_head {id : Nat} {a : Act} {w : World} (S : World → Prop) (n : Nat) (hm : P.follows .mixedOrders = true) (hn : ops.size = n + 1) (hS : S w.drew)
    (h : S w.drew → HeadInv .any ops n (Array.replicate ops.size false) → wpHead P ops Q S n n (Array.replicate ops.size false) a w.drew) : (Code.region id ops true).wp P Q a w := by
  refine wp_region_any hm ?_
  have inv0 : HeadInv .any ops n (Array.replicate ops.size false) :=
    ⟨by simp, fun j oj _ hl => (by rw [getD_replicate_false] at hl; cases hl), fun t _ ht => getD_in (by simpa using ht) (getD_replicate_false _ _)⟩
  have := wpAny_of_wpHead (P := P) (Q := Q) n _ a _ (h hS inv0)
  rw [hn] at this ⊢
  exact this
end

/-- As w is, but for the count of draws. -/
def Like (w' w : World) : Prop := w'.heap = w.heap ∧ w'.os = w.os ∧ w'.output = w.output ∧ w'.tape = w.tape

end Go.Proofs.YtklenjmfalljgaaDoor

/- Walks of the closures that the machine's instructions are: what each does to the state's block. -/
namespace Go.Proofs.YtklenjmfalljgaaDoor
open Go.RowKit

end Go.Proofs.YtklenjmfalljgaaDoor

/- Walks of the closures that the machine's instructions are: what each does to the state's block. -/
namespace Go.Proofs.YtklenjmfalljgaaDoor
open Go.RowKit

end Go.Proofs.YtklenjmfalljgaaDoor

/- Walks of the closures that the machine's instructions are: what each does to the state's block. -/
namespace Go.Proofs.YtklenjmfalljgaaDoor
open Go.RowKit

end Go.Proofs.YtklenjmfalljgaaDoor

/- Walks of the closures that the machine's instructions are: what each does to the state's block. -/
namespace Go.Proofs.YtklenjmfalljgaaDoor
open Go.RowKit

end Go.Proofs.YtklenjmfalljgaaDoor

/- The state's block in memory; what the closures do to it. -/
namespace Go.Proofs.YtklenjmfalljgaaDoor
open Go.RowKit

def St.cells (s : St) : Array Value := #[.int .i64 (s.vars 0), .int .i64 (s.vars 1), .int .i64 (s.vars 2), .int .i64 (s.vars 3),
  .bool (s.held 0), .int .i64 (s.own 0), .bool (s.held 1), .int .i64 (s.own 1), .bool (s.held 2), .int .i64 (s.own 2),
  .int .i64 (s.regs 0 0), .int .i64 (s.regs 0 1), .int .i64 (s.regs 0 2), .int .i64 (s.regs 0 3), .int .i64 (s.regs 1 0), .int .i64 (s.regs 1 1), .int .i64 (s.regs 1 2), .int .i64 (s.regs 1 3),
  .int .i64 (s.regs 2 0), .int .i64 (s.regs 2 1), .int .i64 (s.regs 2 2), .int .i64 (s.regs 2 3), .int .i64 (s.regs 3 0), .int .i64 (s.regs 3 1), .int .i64 (s.regs 3 2), .int .i64 (s.regs 3 3),
  .int .i64 (s.next 0), .int .i64 (s.next 1), .int .i64 (s.next 2), .int .i64 (s.next 3)]

def StAt (w : World) (b : Nat) (s : St) : Prop := w.heap[b]? = some (.cells s.cells 137 (0, 0))

theorem lt4 {t : Nat} (h : t < 4) : t = 0 ∨ t = 1 ∨ t = 2 ∨ t = 3 := by omega
theorem lt3 {t : Nat} (h : t < 3) : t = 0 ∨ t = 1 ∨ t = 2 := by omega

theorem StAt.cell {w : World} {b : Nat} {s : St} (h : StAt w b s) (o : Nat) : w.cell? ⟨b, o, none⟩ = s.cells[o]? := by
  unfold StAt at h; simp [World.cell?, h]
theorem StAt.frozen {w : World} {b : Nat} {s : St} (h : StAt w b s) (o : Nat) : w.frozen? ⟨b, o, none⟩ = false := by
  unfold StAt at h; simp [World.frozen?, h]
theorem StAt.var {w : World} {b : Nat} {s : St} (h : StAt w b s) {v : Nat} (hv : v < 4) : w.cell? ⟨b, v, none⟩ = some (.int .i64 (s.vars v)) := by
  rw [h.cell]; rcases lt4 hv with rfl | rfl | rfl | rfl <;> rfl
theorem StAt.held {w : World} {b : Nat} {s : St} (h : StAt w b s) {l : Nat} (hl : l < 3) : w.cell? ⟨b, 4 + l * 2, none⟩ = some (.bool (s.held l)) := by
  rw [h.cell]; rcases lt3 hl with rfl | rfl | rfl <;> rfl
theorem StAt.own {w : World} {b : Nat} {s : St} (h : StAt w b s) {l : Nat} (hl : l < 3) : w.cell? ⟨b, 4 + l * 2 + 1, none⟩ = some (.int .i64 (s.own l)) := by
  rw [h.cell]; rcases lt3 hl with rfl | rfl | rfl <;> rfl
theorem StAt.next {w : World} {b : Nat} {s : St} (h : StAt w b s) {t : Nat} (ht : t < 4) : w.cell? ⟨b, 26 + t, none⟩ = some (.int .i64 (s.next t)) := by
  rw [h.cell]; rcases lt4 ht with rfl | rfl | rfl | rfl <;> rfl

theorem StAt.setCell {w : World} {b : Nat} {s s' : St} {o : Nat} {v : Value} (h : StAt w b s) (e : s.cells.setIfInBounds o v = s'.cells) : StAt (w.setCell ⟨b, o, none⟩ v) b s' := by
  unfold StAt at *; rw [heap_setCell_same w b o _ _ v h, e]
theorem StAt.like {w w' : World} {b : Nat} {s : St} (h : StAt w b s) (hl : Like w' w) : StAt w' b s := by unfold StAt at *; rw [hl.1]; exact h

theorem grown_refl (w : World) (r : Option Nat) : w.grownBy w r := ⟨rfl, rfl, rfl, Nat.le_refl _, fun _ _ _ => rfl⟩
theorem grown_like {w w' w'' : World} {r : Option Nat} (h : w.grownBy w' r) (hl : Like w'' w') : w.grownBy w'' r :=
  ⟨hl.2.1.trans h.os, hl.2.2.2.trans h.tape, hl.2.2.1.trans h.output, by rw [hl.1]; exact h.size, fun k hk hr => by rw [hl.1]; exact h.block k hk hr⟩
theorem grown_trans {w w' w'' : World} {r : Option Nat} (h : w.grownBy w' r) (h' : w'.grownBy w'' r) : w.grownBy w'' r :=
  ⟨h'.os.trans h.os, h'.tape.trans h.tape, h'.output.trans h.output, Nat.le_trans h.size h'.size, fun k hk hr => (h'.block k (Nat.lt_of_lt_of_le hk h.size) hr).trans (h.block k hk hr)⟩
theorem grown_set {w : World} {b o : Nat} {v : Value} : w.grownBy (w.setCell ⟨b, o, none⟩ v) (some b) :=
  ⟨rfl, rfl, rfl, by simp, fun k _ hr => Below.heap_setCell w _ v k (by simpa using hr)⟩
/-- The value v, called with the state at block b, answers r and leaves the world so. -/
def Does (w : World) (v : Value) (b : Nat) (R : Bool → World → Prop) : Prop :=
  ∃ k caps, v = .func (.func k) #[] caps ∧ (∀ args w, (callFunc k args).run Tryd.prog w = .ok (.enter k args) w) ∧
    Calls Tryd.prog k (#[.pointer (some ⟨b, 0, none⟩)] ++ caps) w fun e w' => ∃ r, e = .returned (.bool r) ∧ R r w'

def pt (b : Nat) : Value := .pointer (some ⟨b, 0, none⟩)

/-- v is the closure of the instruction i of thread t; what it holds lies in blocks below B. -/
def ActIs (B : Nat) (w : World) (v : Value) (t : Nat) (i : Ins) : Prop :=
  ∃ x y z u : Nat, x < B ∧ y < B ∧ z < B ∧ u < B ∧
  ((i.op = 1 ∧ v = .func (.func 183) #[] #[pt x, pt y, pt z] ∧ w.cell? ⟨x, 0, none⟩ = some (.int .i64 i.n) ∧ w.cell? ⟨y, 0, none⟩ = some (.int .i64 t) ∧ w.cell? ⟨z, 0, none⟩ = some (.int .i64 i.a)) ∨
   (i.op = 2 ∧ v = .func (.func 184) #[] #[pt x, pt y, pt z] ∧ w.cell? ⟨x, 0, none⟩ = some (.int .i64 i.b) ∧ w.cell? ⟨y, 0, none⟩ = some (.int .i64 t) ∧ w.cell? ⟨z, 0, none⟩ = some (.int .i64 i.a)) ∨
   (i.op = 3 ∧ v = .func (.func 185) #[] #[pt x, pt y, pt z] ∧ w.cell? ⟨x, 0, none⟩ = some (.int .i64 t) ∧ w.cell? ⟨y, 0, none⟩ = some (.int .i64 i.b) ∧ w.cell? ⟨z, 0, none⟩ = some (.int .i64 i.a)) ∨
   (∃ f, (i.op = 4 ∧ f = 148 ∨ i.op = 5 ∧ f = 149 ∨ i.op = 6 ∧ f = 150) ∧ v = .func (.func 186) #[] #[pt x, pt y, pt z, pt u] ∧ w.cell? ⟨x, 0, none⟩ = some (.func (.func f) #[] #[]) ∧ w.cell? ⟨y, 0, none⟩ = some (.int .i64 t) ∧ w.cell? ⟨z, 0, none⟩ = some (.int .i64 i.a) ∧ w.cell? ⟨u, 0, none⟩ = some (.int .i64 i.b)) ∨
   (i.op = 7 ∧ v = .func (.func 187) #[] #[pt x, pt y, pt z] ∧ w.cell? ⟨x, 0, none⟩ = some (.int .i64 t) ∧ w.cell? ⟨y, 0, none⟩ = some (.int .i64 i.b) ∧ w.cell? ⟨z, 0, none⟩ = some (.int .i64 i.a)) ∨
   (i.op = 8 ∧ v = .func (.func 188) #[] #[pt x, pt y, pt z] ∧ w.cell? ⟨x, 0, none⟩ = some (.int .i64 t) ∧ w.cell? ⟨y, 0, none⟩ = some (.int .i64 i.a) ∧ w.cell? ⟨z, 0, none⟩ = some (.int .i64 i.n)) ∨
   (i.op = 9 ∧ v = .func (.func 189) #[] #[pt x, pt y] ∧ w.cell? ⟨x, 0, none⟩ = some (.int .i64 t) ∧ w.cell? ⟨y, 0, none⟩ = some (.int .i64 i.a)) ∨
   (i.op = 10 ∧ v = .func (.func 190) #[] #[pt x, pt y] ∧ w.cell? ⟨x, 0, none⟩ = some (.int .i64 i.a) ∧ w.cell? ⟨y, 0, none⟩ = some (.bool true) ∧ w.cell? ⟨y, 1, none⟩ = some (.int .i64 t)) ∨
   (i.op = 11 ∧ v = .func (.func 191) #[] #[pt x, pt y] ∧ w.cell? ⟨x, 0, none⟩ = some (.int .i64 t) ∧ w.cell? ⟨y, 0, none⟩ = some (.int .i64 i.a)))

theorem ActIs.of_block {B : Nat} {w w' : World} {v : Value} {t : Nat} {i : Ins} (h : ActIs B w v t i) (hb : ∀ k, k < B → w'.heap[k]? = w.heap[k]?) : ActIs B w' v t i := by
  obtain ⟨x, y, z, u, hx, hy, hz, hu, h⟩ := h
  have cx : ∀ o, w'.cell? ⟨x, o, none⟩ = w.cell? ⟨x, o, none⟩ := fun o => World.cell?_of_block (hb x hx)
  have cy : ∀ o, w'.cell? ⟨y, o, none⟩ = w.cell? ⟨y, o, none⟩ := fun o => World.cell?_of_block (hb y hy)
  have cz : ∀ o, w'.cell? ⟨z, o, none⟩ = w.cell? ⟨z, o, none⟩ := fun o => World.cell?_of_block (hb z hz)
  have cu : ∀ o, w'.cell? ⟨u, o, none⟩ = w.cell? ⟨u, o, none⟩ := fun o => World.cell?_of_block (hb u hu)
  exact ⟨x, y, z, u, hx, hy, hz, hu, by simpa only [cx, cy, cz, cu] using h⟩
theorem ActIs.mono {B B' : Nat} {w : World} {v : Value} {t : Nat} {i : Ins} (h : ActIs B w v t i) (hb : B ≤ B') : ActIs B' w v t i := by
  obtain ⟨x, y, z, u, hx, hy, hz, hu, h⟩ := h
  exact ⟨x, y, z, u, by omega, by omega, by omega, by omega, h⟩

end Go.Proofs.YtklenjmfalljgaaDoor

/- What a closure does, whichever instruction it is of. -/
namespace Go.Proofs.YtklenjmfalljgaaDoor
open Go.RowKit

/-- The post of an action. -/
def Acted (b : Nat) (w : World) (t : Nat) (i : Ins) (s : St) (r : Bool) (w' : World) : Prop := r = (act t i s).1 ∧ StAt w' b (act t i s).2 ∧ w.grownBy w' (some b)

theorem Acted.mk {b t : Nat} {w w0 w' : World} {i : Ins} {s s' : St} {r : Bool} (ha : act t i s = (r, s')) (hs : StAt w0 b s') (hg : w.grownBy w0 (some b)) (hl : Like w' w0) : Acted b w t i s r w' :=
  ⟨by rw [ha], by rw [ha]; exact hs.like hl, grown_like hg hl⟩

end Go.Proofs.YtklenjmfalljgaaDoor

/- Walks of done, ready and step, said of cells. -/
namespace Go.Proofs.YtklenjmfalljgaaDoor
open Go.RowKit
attribute [local go_sem] Go.World.cell?_alloc_some

theorem grown_of_like {w w' : World} {r : Option Nat} (h : w'.heap = w.heap ∧ w'.os = w.os ∧ w'.output = w.output ∧ w'.tape = w.tape) : w.grownBy w' r := grown_like (grown_refl w r) h
theorem grown_alloc {w w' : World} {r : Option Nat} {o : Obj} (h : w.grownBy w' r) : w.grownBy (w'.alloc o) r :=
  grown_trans h ⟨rfl, rfl, rfl, by simp, fun k hk _ => Below.heap_alloc _ _ _ hk⟩
theorem grown_drew {w w' : World} {r : Option Nat} (h : w.grownBy w' r) : w.grownBy w'.drew r := grown_like h ⟨rfl, rfl, rfl, rfl⟩
theorem like_drewN (w : World) : ∀ n, Like (w.drewN n) w
  | 0 => ⟨rfl, rfl, rfl, rfl⟩
  | n + 1 => like_drewN w n
theorem grown_drewN {w w' : World} {r : Option Nat} (n : Nat) (h : w.grownBy w' r) : w.grownBy (w'.drewN n) r := grown_like h (like_drewN w' n)

end Go.Proofs.YtklenjmfalljgaaDoor

/- The walk of step. -/
namespace Go.Proofs.YtklenjmfalljgaaDoor
open Go.RowKit
attribute [local go_sem] Go.World.cell?_alloc_some

end Go.Proofs.YtklenjmfalljgaaDoor

/- The machine in memory; done, ready, step, ending by its program. -/
namespace Go.Proofs.YtklenjmfalljgaaDoor
open Go.RowKit

def MoveAt (B : Nat) (w : World) (h k t : Nat) (i : Ins) : Prop :=
  ∃ kf caps, w.cell? ⟨h, k * 3, none⟩ = some (.func (.func kf) #[] caps) ∧ ActIs B w (.func (.func kf) #[] caps) t i ∧
    w.cell? ⟨h, k * 3 + 1, none⟩ = some (.bool (i.op == 9)) ∧ w.cell? ⟨h, k * 3 + 2, none⟩ = some (.int .i64 (if i.op = 9 then i.a else 0))

def RowIs (B : Nat) (w : World) (v : Value) (t : Nat) (c : List Ins) : Prop :=
  (c = [] ∧ v = .slice none 0 0) ∨ ∃ h cap, v = .slice (some ⟨h, 0, none⟩) c.length cap ∧ h < B ∧ ∀ k (hk : k < c.length), MoveAt B w h k t c[k]

def MachAt (B : Nat) (w : World) (m : Nat) (p : List (List Ins)) : Prop :=
  ∃ g cap, m < B ∧ g < B ∧ w.cell? ⟨m, 0, none⟩ = some (.slice (some ⟨g, 0, none⟩) p.length cap) ∧
    ∀ t, t < p.length → ∃ v, w.cell? ⟨g, t, none⟩ = some v ∧ RowIs B w v t (codeOf p t)

theorem MoveAt.of_block {B : Nat} {w w' : World} {h k t : Nat} {i : Ins} (hh : h < B) (H : MoveAt B w h k t i) (hb : ∀ k, k < B → w'.heap[k]? = w.heap[k]?) : MoveAt B w' h k t i := by
  obtain ⟨kf, caps, h0, h1, h2, h3⟩ := H
  have c : ∀ o, w'.cell? ⟨h, o, none⟩ = w.cell? ⟨h, o, none⟩ := fun o => World.cell?_of_block (hb h hh)
  exact ⟨kf, caps, by rw [c]; exact h0, h1.of_block hb, by rw [c]; exact h2, by rw [c]; exact h3⟩
theorem MoveAt.mono {B B' : Nat} {w : World} {h k t : Nat} {i : Ins} (H : MoveAt B w h k t i) (hb : B ≤ B') : MoveAt B' w h k t i := by
  obtain ⟨kf, caps, h0, h1, h2, h3⟩ := H
  exact ⟨kf, caps, h0, h1.mono hb, h2, h3⟩

theorem RowIs.of_block {B : Nat} {w w' : World} {v : Value} {t : Nat} {c : List Ins} (H : RowIs B w v t c) (hb : ∀ k, k < B → w'.heap[k]? = w.heap[k]?) : RowIs B w' v t c := by
  rcases H with H | ⟨h, cap, h1, h2, h3⟩
  · exact Or.inl H
  · exact Or.inr ⟨h, cap, h1, h2, fun k hk => (h3 k hk).of_block h2 hb⟩
theorem RowIs.mono {B B' : Nat} {w : World} {v : Value} {t : Nat} {c : List Ins} (H : RowIs B w v t c) (hb : B ≤ B') : RowIs B' w v t c := by
  rcases H with H | ⟨h, cap, h1, h2, h3⟩
  · exact Or.inl H
  · exact Or.inr ⟨h, cap, h1, by omega, fun k hk => (h3 k hk).mono hb⟩

theorem MachAt.of_block {B : Nat} {w w' : World} {m : Nat} {p : List (List Ins)} (H : MachAt B w m p) (hb : ∀ k, k < B → w'.heap[k]? = w.heap[k]?) : MachAt B w' m p := by
  obtain ⟨g, cap, hm, hg, h1, h2⟩ := H
  refine ⟨g, cap, hm, hg, by rw [World.cell?_of_block (hb m hm)]; exact h1, fun t ht => ?_⟩
  obtain ⟨v, h3, h4⟩ := h2 t ht
  exact ⟨v, by rw [World.cell?_of_block (hb g hg)]; exact h3, h4.of_block hb⟩

theorem StAt.lt {w : World} {b : Nat} {s : St} (h : StAt w b s) : b < w.heap.size := by
  unfold StAt at h
  exact (Array.getElem?_eq_some_iff.1 h).1
theorem StAt.grown {w w' : World} {b : Nat} {s : St} (h : StAt w b s) (hg : w.grownBy w' none) : StAt w' b s := by
  have hl := h.lt
  unfold StAt at *
  rw [hg.block b hl (by simp)]; exact h
theorem MachAt.grown {B b : Nat} {w w' : World} {m : Nat} {p : List (List Ins)} (H : MachAt B w m p) (hB : B ≤ b) (hb : b < w.heap.size) (hg : w.grownBy w' (some b)) : MachAt B w' m p :=
  H.of_block fun k hk => hg.block k (by omega) (by simp; omega)
end Go.Proofs.YtklenjmfalljgaaDoor

/- The walk of ending. -/
namespace Go.Proofs.YtklenjmfalljgaaDoor
open Go.RowKit

end Go.Proofs.YtklenjmfalljgaaDoor

/- The walk of follow. -/
namespace Go.Proofs.YtklenjmfalljgaaDoor
open Go.RowKit

set_option maxHeartbeats 400000 in
theorem below_m (x n : Int) (w : World) : Calls Tryd.prog 105 #[.int .i64 x, .int .i64 n] w fun e w' => e = .returned (.bool (belowB x n)) ∧ w' = w := by
  by_cases h1 : 0 ≤ x
  · by_cases h2 : x < n
    · have HB : Hid (belowB x n = true) := by unfold Hid; simp [belowB, h1, h2]
      go_enter Tryd.func105, Tryd.ntmps105
      go_wp2
      go_ret
      exact ⟨by rw [HB.out]; rfl, rfl⟩
    · have HB : Hid (belowB x n = false) := by unfold Hid; simp [belowB, h1, h2]
      have h3 : n ≤ x := by omega
      go_enter Tryd.func105, Tryd.ntmps105
      go_wp2
      go_ret
      exact ⟨by rw [HB.out]; rfl, rfl⟩
  · have HB : Hid (belowB x n = false) := by unfold Hid; simp [belowB, h1]
    have h3 : x < 0 := by omega
    go_enter Tryd.func105, Tryd.ntmps105
    go_wp2
    go_ret
    exact ⟨by rw [HB.out]; rfl, rfl⟩

/-- A slice of numbers in memory; its row lies below block B. -/
def IntsAt (B : Nat) (w : World) (v : Value) (l : List Int) : Prop :=
  ∃ ao cap, v = .slice ao l.length cap ∧ l.length ≤ cap ∧ ∀ k (hk : k < l.length), ∃ g o, ao = some ⟨g, o, none⟩ ∧ g < B ∧ w.cell? ⟨g, o + k, none⟩ = some (.int .i64 l[k])

def flatS (acc : List (Int × Int)) : List Value := acc.flatMap fun x => [.int .i64 x.1, .int .i64 x.2]
theorem owns_grown {w w' : World} {base : Nat} {e : TypeId} {size : Nat} {v : Value} {n : Nat} {xs : List Value} {r : Option Nat} (h : w.ownsRow base e size v n xs) (hg : w.grownBy w' r) (hr : ∀ k, r = some k → k < base) : w'.ownsRow base e size v n xs := by
  obtain ⟨h1, h2⟩ := h
  refine ⟨h1, ?_⟩
  rcases h2 with h2 | ⟨g, cap, cur, hv, hb, hh, rest⟩
  · exact Or.inl h2
  · have hlt : g < w.heap.size := (Array.getElem?_eq_some_iff.1 hh).1
    refine Or.inr ⟨g, cap, cur, hv, hb, ?_, rest⟩
    rw [hg.block g hlt (fun e => by have := hr g e.symm; omega)]; exact hh

theorem owns_block {w : World} {base : Nat} {e : TypeId} {size : Nat} {v : Value} {n : Nat} {xs : List Value} (h : w.ownsRow base e size v n xs) : ∀ k, v.ownBlock = some k → base ≤ k := by
  rcases h.2 with ⟨e1, _⟩ | ⟨g, cap, cur, hv, hb, _⟩
  · intro k hk; rw [e1] at hk; cases hk
  · intro k hk; rw [hv] at hk; simp [Value.ownBlock] at hk; omega

theorem owns_mono {w : World} {base base' : Nat} {e : TypeId} {size : Nat} {v : Value} {n : Nat} {xs : List Value} (h : w.ownsRow base e size v n xs) (hb : base' ≤ base) : w.ownsRow base' e size v n xs := by
  obtain ⟨h1, h2⟩ := h
  refine ⟨h1, h2.imp id ?_⟩
  rintro ⟨g, cap, cur, hv, hg, rest⟩
  exact ⟨g, cap, cur, hv, by omega, rest⟩
theorem grown_setNew {w w' : World} {r : Option Nat} {g o : Nat} {v : Value} (h : w.grownBy w' r) (hg : w.heap.size ≤ g) : w.grownBy (w'.setCell ⟨g, o, none⟩ v) r :=
  ⟨h.os, h.tape, h.output, by simpa using h.size, fun k hk hr => by rw [Below.heap_setCell _ _ _ _ (by simp; omega)]; exact h.block k hk hr⟩
theorem StAt.setOther {w : World} {b : Nat} {s : St} {g o : Nat} {v : Value} (h : StAt w b s) (hg : b ≠ g) : StAt (w.setCell ⟨g, o, none⟩ v) b s := by
  unfold StAt at *
  rw [Below.heap_setCell _ _ _ _ (by simpa using hg)]; exact h
theorem grown_none {w w' : World} {r : Option Nat} (h : w.grownBy w' none) : w.grownBy w' r := ⟨h.os, h.tape, h.output, h.size, fun k hk _ => h.block k hk (by simp)⟩
theorem grown_row {w0 w w' : World} {r : Option Nat} {v : Value} (h : w0.grownBy w r) (hg : w.grownBy w' v.ownBlock) (hv : ∀ k, v.ownBlock = some k → w0.heap.size ≤ k) : w0.grownBy w' r :=
  ⟨hg.os.trans h.os, hg.tape.trans h.tape, hg.output.trans h.output, Nat.le_trans h.size hg.size, fun k hk hr => by
    rw [hg.block k (Nat.lt_of_lt_of_le hk h.size) (fun e => by have := hv k e.symm; omega)]; exact h.block k hk hr⟩
theorem owns_alloc {w : World} {base : Nat} {e : TypeId} {size : Nat} {v : Value} {n : Nat} {xs : List Value} {o : Obj} (h : w.ownsRow base e size v n xs) : (w.alloc o).ownsRow base e size v n xs :=
  owns_grown h (grown_alloc (grown_refl w none)) (fun _ e => by cases e)
end Go.Proofs.YtklenjmfalljgaaDoor

/- The walk of Run. -/
namespace Go.Proofs.YtklenjmfalljgaaDoor
open Go.RowKit
attribute [local go_sem] Go.World.cell?_alloc_some

theorem hide {p : Prop} (h : p) : Hid p := h
section
variable {P : Program}
end

def regsF (n : Nat) (s : St) : List Value := (List.range n).flatMap fun t => [.int .i64 (s.regs t 0), .int .i64 (s.regs t 1), .int .i64 (s.regs t 2), .int .i64 (s.regs t 3)]

theorem owns_form {w : World} {base : Nat} {e : TypeId} {size : Nat} {v : Value} {n : Nat} {xs : List Value} (h : w.ownsRow base e size v n xs) : ∃ ao n c, v = .slice ao n c := by
  rcases h.2 with ⟨e1, _⟩ | ⟨g', cap', cur, hv, _⟩
  · exact ⟨_, _, _, e1⟩
  · exact ⟨_, _, _, hv⟩

end Go.Proofs.YtklenjmfalljgaaDoor

/- The walks of fits and validIns. -/
namespace Go.Proofs.YtklenjmfalljgaaDoor
open Go.RowKit
attribute [local go_sem] Go.World.cell?_alloc_some

set_option maxHeartbeats 1000000 in
theorem fits_m (k x len : Int) (h0 : 0 ≤ len) (h16 : len ≤ 16) (w : World) : Calls Tryd.prog 192 #[.int .i64 k, .int .i64 x, .int .i64 len] w fun e w' => e = .returned (.bool (fitsB k x len)) ∧ w' = w := by
  by_cases e1 : k = 1
  · subst e1
    go_enter Tryd.func192, Tryd.ntmps192
    go_wp2_with (go_at_call 105; refine (below_m _ _ _).mono ?_; rintro e w' ⟨rfl, rfl⟩)
    go_ret
    exact ⟨rfl, rfl⟩
  by_cases e2 : k = 2
  · subst e2
    go_enter Tryd.func192, Tryd.ntmps192
    go_wp2_with (go_at_call 105; refine (below_m _ _ _).mono ?_; rintro e w' ⟨rfl, rfl⟩)
    go_ret
    exact ⟨rfl, rfl⟩
  by_cases e3 : k = 3
  · subst e3
    go_enter Tryd.func192, Tryd.ntmps192
    go_wp2_with (go_at_call 105; refine (below_m _ _ _).mono ?_; rintro e w' ⟨rfl, rfl⟩)
    go_ret
    exact ⟨rfl, rfl⟩
  by_cases e4 : k = 4
  · subst e4
    go_enter Tryd.func192, Tryd.ntmps192
    go_wp2_with (go_at_call 105; refine (below_m _ _ _).mono ?_; rintro e w' ⟨rfl, rfl⟩)
    go_ret
    exact ⟨rfl, rfl⟩
  by_cases e5 : k = 5
  · subst e5
    go_enter Tryd.func192, Tryd.ntmps192
    go_wp2_with fail
    go_ret
    exact ⟨rfl, rfl⟩
  have HB : Hid (fitsB k x len = (x == 0)) := by unfold Hid; simp [fitsB, e1, e2, e3, e4, e5]
  have f1 : (k == 1) = false := by simpa using e1
  have f2 : (k == 2) = false := by simpa using e2
  have f3 : (k == 3) = false := by simpa using e3
  have f4 : (k == 4) = false := by simpa using e4
  have f5 : (k == 5) = false := by simpa using e5
  go_enter Tryd.func192, Tryd.ntmps192
  go_wp2_with fail
  go_ret
  exact ⟨by rw [HB.out]; rfl, rfl⟩

/-- The table of shapes, as it lies in memory. -/
def ShpAt (w : World) : Prop := ∀ o j, o < 12 → j < 3 → w.cell? ⟨0, o * 3 + j, none⟩ = some (.int .i64 (shp o j))

set_option maxHeartbeats 1000000 in
set_option maxRecDepth 100000 in
theorem validIns_m (i : Ins) (len : Int) (h0 : 0 ≤ len) (h16 : len ≤ 16) (w : World) (hS : ShpAt w) :
    Calls Tryd.prog 157 #[.agg #[.int .i64 i.op, .int .i64 i.a, .int .i64 i.b, .int .i64 i.n], .int .i64 len] w fun e w' => e = .returned (.bool (vIns i len)) ∧ w.grownBy w' none := by
  have HSh : Hid (ShpAt w) := hS
  clear hS
  by_cases h1 : 1 ≤ i.op
  · by_cases h2 : i.op ≤ 11
    · have eo : ((i.op.toNat : Nat) : Int) = i.op := by omega
      have c0 := HSh.out i.op.toNat 0 (by omega) (by omega)
      have c1 := HSh.out i.op.toNat 1 (by omega) (by omega)
      have c2 := HSh.out i.op.toNat 2 (by omega) (by omega)
      simp only [Nat.add_zero] at c0
      have HV : Hid (vIns i len = (fitsB (shp i.op.toNat 0) i.a len && (fitsB (shp i.op.toNat 1) i.b len && fitsB (shp i.op.toNat 2) i.n len))) := by unfold Hid; simp [vIns, h1, h2]
      generalize shp i.op.toNat 0 = k0 at *
      generalize shp i.op.toNat 1 = k1 at *
      generalize shp i.op.toNat 2 = k2 at *
      go_enter Tryd.func157, Tryd.ntmps157
      go_wp2_with fail
      refine (fits_m _ _ _ h0 h16 _).mono ?_
      rintro e w' ⟨rfl, rfl⟩
      cases hf0 : fitsB k0 i.a len
      · go_wp2_with fail
        go_ret
        exact ⟨by rw [HV.out, hf0]; rfl, grown_alloc (grown_alloc (grown_refl _ _))⟩
      · go_wp2_with fail
        refine (fits_m _ _ _ h0 h16 _).mono ?_
        rintro e w' ⟨rfl, rfl⟩
        cases hf1 : fitsB k1 i.b len
        · go_wp2_with fail
          go_ret
          exact ⟨by rw [HV.out, hf0, hf1]; rfl, grown_alloc (grown_alloc (grown_refl _ _))⟩
        · go_wp2_with fail
          refine (fits_m _ _ _ h0 h16 _).mono ?_
          rintro e w' ⟨rfl, rfl⟩
          go_wp2_with fail
          go_ret
          exact ⟨by rw [HV.out, hf0, hf1]; simp, grown_alloc (grown_alloc (grown_refl _ _))⟩
    · have HV : Hid (vIns i len = false) := by unfold Hid; simp [vIns, h2]
      have h3 : 11 < i.op := by omega
      go_enter Tryd.func157, Tryd.ntmps157
      go_wp2_with fail
      go_ret
      exact ⟨by rw [HV.out]; rfl, grown_alloc (grown_refl _ _)⟩
  · have HV : Hid (vIns i len = false) := by unfold Hid; simp [vIns, h1]
    have h3 : i.op < 1 := by omega
    go_enter Tryd.func157, Tryd.ntmps157
    go_wp2_with fail
    go_ret
    exact ⟨by rw [HV.out]; rfl, grown_alloc (grown_refl _ _)⟩

/-- A thread's code in memory. -/
def CodeAt (w : World) (v : Value) (c : List Ins) : Prop :=
  ∃ ao cap, v = .slice ao c.length cap ∧ ∀ k (hk : k < c.length), ∃ g o, ao = some ⟨g, o, none⟩ ∧ w.cell? ⟨g, o + k * 4, none⟩ = some (.int .i64 c[k].op) ∧
    w.cell? ⟨g, o + k * 4 + 1, none⟩ = some (.int .i64 c[k].a) ∧ w.cell? ⟨g, o + k * 4 + 2, none⟩ = some (.int .i64 c[k].b) ∧ w.cell? ⟨g, o + k * 4 + 3, none⟩ = some (.int .i64 c[k].n)

/-- A program in memory. -/
def ProgAt (w : World) (v : Value) (p : List (List Ins)) : Prop :=
  ∃ ao cap, v = .agg #[.slice ao p.length cap] ∧ ∀ t (ht : t < p.length), ∃ g o, ao = some ⟨g, o, none⟩ ∧ ∃ rv, w.cell? ⟨g, o + t, none⟩ = some rv ∧ CodeAt w rv p[t]

/-- Cells that are there are as they were. -/
def Pres (w w' : World) : Prop := ∀ a v, w.cell? a = some v → w'.cell? a = some v
theorem Pres.refl (w : World) : Pres w w := fun _ _ h => h
theorem Pres.trans {a b c : World} (h : Pres a b) (h' : Pres b c) : Pres a c := fun x v hx => h' x v (h x v hx)
theorem pres_grown {w w' : World} (h : w.grownBy w' none) : Pres w w' := fun a v ha => by
  rw [h.cell_far a (World.block_lt_of_cell? w a ha) (by simp)]; exact ha
theorem CodeAt.pres {w w' : World} {v : Value} {c : List Ins} (h : CodeAt w v c) (hp : Pres w w') : CodeAt w' v c := by
  obtain ⟨ao, cap, e, h⟩ := h
  refine ⟨ao, cap, e, fun k hk => ?_⟩
  obtain ⟨g, o, e1, e2, e3, e4, e5⟩ := h k hk
  exact ⟨g, o, e1, hp _ _ e2, hp _ _ e3, hp _ _ e4, hp _ _ e5⟩
theorem ProgAt.pres {w w' : World} {v : Value} {p : List (List Ins)} (h : ProgAt w v p) (hp : Pres w w') : ProgAt w' v p := by
  obtain ⟨ao, cap, e, h⟩ := h
  refine ⟨ao, cap, e, fun k hk => ?_⟩
  obtain ⟨g, o, e1, rv, e2, e3⟩ := h k hk
  exact ⟨g, o, e1, rv, hp _ _ e2, e3.pres hp⟩
theorem ShpAt.pres {w w' : World} (h : ShpAt w) (hp : Pres w w') : ShpAt w' := fun o j h1 h2 => hp _ _ (h o j h1 h2)

theorem all_take_succ {α : Type} (l : List α) (f : α → Bool) (k : Nat) (h : k < l.length) : (l.take (k + 1)).all f = ((l.take k).all f && f l[k]) := by
  rw [List.take_succ_eq_append_getElem h, List.all_append]; simp

set_option maxHeartbeats 1000000 in
set_option maxRecDepth 100000 in
theorem validThread_m (c : List Ins) (v : Value) (w : World) (hS : ShpAt w) (hc : CodeAt w v c) :
    Calls Tryd.prog 109 #[v] w fun e w' => e = .returned (.bool (vCode c)) ∧ w.grownBy w' none := by
  obtain ⟨ao, cap, rfl, hc⟩ := hc
  have HSh : Hid (ShpAt w) := hS
  have HC := hide hc
  clear hS hc
  by_cases h16 : c.length ≤ 16
  · have h2 : (c.length : Int) ≤ 16 := by omega
    have HV : Hid (vCode c = c.all fun i => vIns i c.length) := by unfold Hid; simp [vCode, h16]
    go_enter Tryd.func109, Tryd.ntmps109
    go_wp2
    go_loopw [10] (fun i w' => ∃ k : Nat, k ≤ c.length ∧ i = .int .i64 k ∧ Hid (w.grownBy w' none) ∧ Hid ((c.take k).all (fun i => vIns i c.length) = true)) (fun i _ => c.length - (intOf i).toNat)
    case atStart => exact ⟨0, Nat.zero_le _, rfl, grown_refl _ _, rfl⟩
    case round =>
      obtain ⟨k, hk, rfl, HG, HA⟩ := hrel
      by_cases hlt : k < c.length
      · obtain ⟨g, o, rfl, c0, c1, c2, c3⟩ := HC.out k hlt
        have hpr := pres_grown HG.out
        have d0 := hpr _ _ c0
        have d1 := hpr _ _ c1
        have d2 := hpr _ _ c2
        have d3 := hpr _ _ c3
        have HAs := hide (all_take_succ c (fun i => vIns i c.length) k hlt)
        clear c0 c1 c2 c3 hpr
        have hk0 : (0 : Int) ≤ (k : Int) := by omega
        have hk1 : (k : Int) < c.length := by omega
        have HSh' : Hid (ShpAt wr) := HSh.out.pres (pres_grown HG.out)
        generalize c[k] = i at *
        go_wp2_with fail
        refine (validIns_m i c.length (by omega) (by omega) _ (HSh'.out.pres (pres_grown (grown_alloc (grown_refl _ _))))).mono ?_
        rintro e w1 ⟨rfl, hg1⟩
        have HG1 : Hid (w.grownBy w1 none) := grown_trans (grown_alloc HG.out) hg1
        clear hg1
        cases hv : vIns i c.length
        · have HE : Hid (vCode c = false) := by
            unfold Hid
            rw [HV.out]
            have : (c.take (k + 1)).all (fun i => vIns i c.length) = false := by rw [HAs.out, hv]; simp
            rw [← List.take_append_drop (k + 1) c, List.all_append, List.take_append_drop, this]; rfl
          go_wp2_with fail
          go_ret
          exact ⟨by rw [HE.out]; rfl, HG1⟩
        · have HA1 : Hid ((c.take (k + 1)).all (fun i => vIns i c.length) = true) := by unfold Hid; rw [HAs.out, hv, HA.out]; rfl
          clear HAs hv
          go_wp2
          go_roundw
          case rel => exact ⟨k + 1, by omega, by go_num, HG1, HA1⟩
          case measure => simp [intOf]; omega
      · have HE : Hid (vCode c = true) := by
          unfold Hid
          rw [HV.out]
          have := HA.out
          rw [List.take_of_length_le (by omega)] at this
          exact this
        go_wp2
        go_ret
        exact ⟨by rw [HE.out]; rfl, HG⟩
  · have HV : Hid (vCode c = false) := by unfold Hid; simp [vCode, h16]
    have h2 : (16 : Int) < c.length := by omega
    go_enter Tryd.func109, Tryd.ntmps109
    go_wp2
    go_ret
    exact ⟨by rw [HV.out]; rfl, grown_refl _ _⟩

end Go.Proofs.YtklenjmfalljgaaDoor

/- The walks of the makers of closures and of makeAction. -/
namespace Go.Proofs.YtklenjmfalljgaaDoor
open Go.RowKit
attribute [local go_sem] Go.World.cell?_alloc_some

/-- A closure was made. -/
def Made (w : World) (t : Nat) (i : Ins) (e : Ending) (w' : World) : Prop := ∃ v, e = .returned v ∧ (∀ w'' : World, (∀ k, w.heap.size ≤ k → k < w'.heap.size → w''.heap[k]? = w'.heap[k]?) → ActIs w'.heap.size w'' v t i) ∧ w.grownBy w' none

end Go.Proofs.YtklenjmfalljgaaDoor

/- The walks of makeAction and makeMove. -/
namespace Go.Proofs.YtklenjmfalljgaaDoor
open Go.RowKit
attribute [local go_sem] Go.World.cell?_alloc_some

theorem Made.grow {w0 w w' : World} {t : Nat} {i : Ins} {e : Ending} (h : Made w t i e w') (hg : w0.grownBy w none) : Made w0 t i e w' := by
  obtain ⟨v, h1, h2, h3⟩ := h
  exact ⟨v, h1, fun w2 hw2 => h2 w2 fun k hk hk2 => hw2 k (Nat.le_trans hg.size hk) hk2, grown_trans hg h3⟩

theorem ActIs.form {B : Nat} {w : World} {v : Value} {t : Nat} {i : Ins} (h : ActIs B w v t i) : ∃ kf caps, v = .func (.func kf) #[] caps := by
  obtain ⟨x, y, z, u, _, _, _, _, h⟩ := h
  rcases h with ⟨_, e, _⟩ | ⟨_, e, _⟩ | ⟨_, e, _⟩ | ⟨_, _, e, _⟩ | ⟨_, e, _⟩ | ⟨_, e, _⟩ | ⟨_, e, _⟩ | ⟨_, e, _⟩ | ⟨_, e, _⟩ <;> exact ⟨_, _, e⟩

end Go.Proofs.YtklenjmfalljgaaDoor

/- The walk of New. -/
namespace Go.Proofs.YtklenjmfalljgaaDoor
open Go.RowKit
attribute [local go_sem] Go.World.cell?_alloc_some

/-- The three cells of a move. -/
def moveV (kf : Nat) (caps : Array Value) (i : Ins) : List Value := [.func (.func kf) #[] caps, .bool (i.op == 9), .int .i64 (if i.op = 9 then i.a else 0)]

/-- The closure's boxes lie in the blocks from a on, below b. -/
def ActSt (a b : Nat) (w : World) (v : Value) (t : Nat) (i : Ins) : Prop := ∀ w' : World, (∀ k, a ≤ k → k < b → w'.heap[k]? = w.heap[k]?) → ActIs b w' v t i

/-- A row of moves, as a list of cells; the boxes lie from L on, below B, and not in the row's own block. -/
def MovesIn (L B : Nat) (w : World) (own : Option Nat) (xs : List Value) (t : Nat) (c : List Ins) : Prop :=
  ∀ k (hk : k < c.length), ∃ kf caps a b, xs[k * 3]? = some (.func (.func kf) #[] caps) ∧ xs[k * 3 + 1]? = some (.bool (c[k].op == 9)) ∧ xs[k * 3 + 2]? = some (.int .i64 (if c[k].op = 9 then c[k].a else 0)) ∧
    L ≤ a ∧ b ≤ B ∧ (∀ h, own = some h → h < a ∨ b ≤ h) ∧ ActSt a b w (.func (.func kf) #[] caps) t c[k]

theorem MovesIn.step {L B : Nat} {w w' : World} {own r : Option Nat} {xs : List Value} {t : Nat} {c : List Ins} (h : MovesIn L B w own xs t c) (hB : B ≤ w.heap.size) (hg : w.grownBy w' r) (hr : ∀ q, r = some q → own = some q ∨ q < L ∨ B ≤ q) : MovesIn L B w' own xs t c := by
  intro k hk
  obtain ⟨kf, caps, a, b, h1, h2, h3, h4, h5, h6, h7⟩ := h k hk
  refine ⟨kf, caps, a, b, h1, h2, h3, h4, h5, h6, fun w2 hw2 => h7 w2 fun q hq hq2 => ?_⟩
  rw [hw2 q hq hq2, hg.block q (by omega) (fun e => by
    rcases hr q e.symm with e2 | e2 | e2
    · rcases h6 q e2 with e3 | e3 <;> omega
    · omega
    · omega)]

theorem MovesIn.mono {L B B' : Nat} {w : World} {own : Option Nat} {xs : List Value} {t : Nat} {c : List Ins} (h : MovesIn L B w own xs t c) (hB : B ≤ B') : MovesIn L B' w own xs t c := by
  intro k hk
  obtain ⟨kf, caps, a, b, h1, h2, h3, h4, h5, h6, h7⟩ := h k hk
  exact ⟨kf, caps, a, b, h1, h2, h3, h4, by omega, h6, h7⟩

theorem MovesIn.snoc {L B : Nat} {w : World} {own : Option Nat} {xs : List Value} {t : Nat} {c : List Ins} {i : Ins} {kf : Nat} {caps : Array Value} {a b : Nat} (h : MovesIn L B w own xs t c) (hl : xs.length = c.length * 3)
    (ha : L ≤ a) (hb : b ≤ B) (ho : ∀ h, own = some h → h < a ∨ b ≤ h) (hA : ActSt a b w (.func (.func kf) #[] caps) t i) :
    MovesIn L B w own (xs ++ moveV kf caps i) t (c ++ [i]) := by
  intro k hk
  by_cases hlt : k < c.length
  · obtain ⟨kf', caps', a', b', h1, h2, h3, h4⟩ := h k hlt
    have e : (c ++ [i])[k] = c[k] := List.getElem_append_left hlt
    refine ⟨kf', caps', a', b', ?_, ?_, ?_, ?_⟩
    · rw [List.getElem?_append_left (by omega)]; exact h1
    · rw [List.getElem?_append_left (by omega), e]; exact h2
    · rw [List.getElem?_append_left (by omega), e]; exact h3
    · rw [e]; exact h4
  · have ek : k = c.length := by simp at hk; omega
    subst ek
    have e : (c ++ [i])[c.length] = i := by simp
    refine ⟨kf, caps, a, b, ?_, ?_, ?_, ha, hb, ho, ?_⟩
    · rw [List.getElem?_append_right (by omega), hl]; simp [moveV]
    · rw [List.getElem?_append_right (by omega), hl, e]
      have : c.length * 3 + 1 - c.length * 3 = 1 := by omega
      rw [this]; rfl
    · rw [List.getElem?_append_right (by omega), hl, e]
      have : c.length * 3 + 2 - c.length * 3 = 2 := by omega
      rw [this]; rfl
    · rw [e]; exact hA

/-- The rows of the threads ahead of t are done; their blocks lie from L on, below B. -/
def Fin (L B : Nat) (w : World) (rows : Array Value) (t : Nat) (p : List (List Ins)) : Prop :=
  ∀ j, j < t → ∃ v xs, rows[j]? = some v ∧ w.ownsRow L 130 3 v (codeOf p j).length xs ∧ (∀ h, v.ownBlock = some h → h < B) ∧ MovesIn L B w v.ownBlock xs j (codeOf p j)

theorem Fin.step {L B : Nat} {w w' : World} {rows : Array Value} {t : Nat} {p : List (List Ins)} {r : Option Nat} (h : Fin L B w rows t p) (hBs : B ≤ w.heap.size) (hg : w.grownBy w' r) (hr : ∀ k, r = some k → k < L ∨ B ≤ k) : Fin L B w' rows t p := by
  intro j hj
  obtain ⟨v, xs, h1, h2, h3, h4⟩ := h j hj
  refine ⟨v, xs, h1, ?_, h3, h4.step hBs hg (fun q e => Or.inr (hr q e))⟩
  obtain ⟨q1, q2⟩ := h2
  refine ⟨q1, ?_⟩
  rcases q2 with q2 | ⟨g, cap, cur, hv, hb, hh, rest⟩
  · exact Or.inl q2
  · have hlt : g < w.heap.size := (Array.getElem?_eq_some_iff.1 hh).1
    have hB := h3 g (by rw [hv]; rfl)
    refine Or.inr ⟨g, cap, cur, hv, hb, ?_, rest⟩
    rw [hg.block g hlt (fun e => by have := hr g e.symm; omega)]; exact hh

theorem Fin.rows {L B : Nat} {w : World} {rows : Array Value} {t u : Nat} {x : Value} {p : List (List Ins)} (h : Fin L B w rows t p) (hu : t ≤ u) : Fin L B w (rows.setIfInBounds u x) t p := by
  intro j hj
  obtain ⟨v, xs, h1, h2, h3, h4⟩ := h j hj
  exact ⟨v, xs, by rw [Array.getElem?_setIfInBounds_ne (by omega)]; exact h1, h2, h3, h4⟩
theorem Fin.mono {L B B' : Nat} {w : World} {rows : Array Value} {t : Nat} {p : List (List Ins)} (h : Fin L B w rows t p) (hb : B ≤ B') : Fin L B' w rows t p := by
  intro j hj
  obtain ⟨v, xs, h1, h2, h3, h4⟩ := h j hj
  exact ⟨v, xs, h1, h2, fun h e => Nat.lt_of_lt_of_le (h3 h e) hb, h4.mono hb⟩
theorem Fin.succ {L B : Nat} {w : World} {rows : Array Value} {t : Nat} {p : List (List Ins)} {v : Value} {xs : List Value} (h : Fin L B w rows t p) (h1 : rows[t]? = some v) (h2 : w.ownsRow L 130 3 v (codeOf p t).length xs)
    (h3 : ∀ h, v.ownBlock = some h → h < B) (h4 : MovesIn L B w v.ownBlock xs t (codeOf p t)) : Fin L B w rows (t + 1) p := by
  intro j hj
  by_cases e : j = t
  · subst e; exact ⟨v, xs, h1, h2, h3, h4⟩
  · exact h j (by omega)

end Go.Proofs.YtklenjmfalljgaaDoor

/- The walk of New. -/
namespace Go.Proofs.YtklenjmfalljgaaDoor
open Go.RowKit
attribute [local go_sem] Go.World.cell?_alloc_some

end Go.Proofs.YtklenjmfalljgaaDoor

/- The walks of Valid, Check, checkRun and Replay. -/
namespace Go.Proofs.YtklenjmfalljgaaDoor
open Go.RowKit
attribute [local go_sem] Go.World.cell?_alloc_some

set_option maxHeartbeats 1000000 in
set_option maxRecDepth 100000 in
theorem valid_m (p : List (List Ins)) (pv : Value) (w : World) (hS : ShpAt w) (hP : ProgAt w pv p) :
    Calls Tryd.prog 74 #[pv] w fun e w' => e = .returned (.bool (vProg p)) ∧ w.grownBy w' none := by
  obtain ⟨ao, cap, rfl, hP⟩ := hP
  have HSh := hide hS
  have HP := hide hP
  clear hS hP
  by_cases h1 : 1 ≤ p.length
  · by_cases h4 : p.length ≤ 4
    · have g1 : (1 : Int) ≤ p.length := by omega
      have g4 : (p.length : Int) ≤ 4 := by omega
      have HV : Hid (vProg p = p.all vCode) := by unfold Hid; simp [vProg, h1, h4]
      go_enter Tryd.func74, Tryd.ntmps74
      go_wp2
      go_loopw [18] (fun i w' => ∃ k : Nat, k ≤ p.length ∧ i = .int .i64 k ∧ Hid (w.grownBy w' none) ∧ Hid ((p.take k).all vCode = true)) (fun i _ => p.length - (intOf i).toNat)
      case atStart => exact ⟨0, Nat.zero_le _, rfl, grown_alloc (grown_refl _ _), rfl⟩
      case round =>
        obtain ⟨k, hk, rfl, HG, HA⟩ := hrel
        by_cases hlt : k < p.length
        · obtain ⟨g, o, rfl, rv, c0, c1⟩ := HP.out k hlt
          have hpr := pres_grown HG.out
          have d0 := hpr _ _ c0
          have D1 := hide (c1.pres hpr)
          have HAs := hide (all_take_succ p vCode k hlt)
          have HSh' : Hid (ShpAt wr) := HSh.out.pres hpr
          clear c0 c1 hpr
          have hk0 : (0 : Int) ≤ (k : Int) := by omega
          have hk1 : (k : Int) < p.length := by omega
          generalize p[k] = c at *
          go_wp2_with fail
          refine (validThread_m c rv _ HSh'.out D1.out).mono ?_
          rintro e w1 ⟨rfl, hg1⟩
          have HG1 : Hid (w.grownBy w1 none) := grown_trans HG.out hg1
          clear hg1
          cases hv : vCode c
          · have HE : Hid (vProg p = false) := by
              unfold Hid
              rw [HV.out]
              have : (p.take (k + 1)).all vCode = false := by rw [HAs.out, hv]; simp
              rw [← List.take_append_drop (k + 1) p, List.all_append, this]; rfl
            go_wp2_with fail
            go_ret
            exact ⟨by rw [HE.out]; rfl, HG1⟩
          · have HA1 : Hid ((p.take (k + 1)).all vCode = true) := by unfold Hid; rw [HAs.out, hv, HA.out]; rfl
            clear HAs hv
            go_wp2
            go_roundw
            case rel => exact ⟨k + 1, by omega, by go_num, HG1, HA1⟩
            case measure => simp [intOf]; omega
        · have HE : Hid (vProg p = true) := by
            unfold Hid
            rw [HV.out]
            have := HA.out
            rw [List.take_of_length_le (by omega)] at this
            exact this
          go_wp2
          go_ret
          exact ⟨by rw [HE.out]; rfl, HG⟩
    · have HV : Hid (vProg p = false) := by unfold Hid; simp [vProg, h4]
      have g4 : (4 : Int) < p.length := by omega
      go_enter Tryd.func74, Tryd.ntmps74
      go_wp2
      go_ret
      exact ⟨by rw [HV.out]; rfl, grown_alloc (grown_refl _ _)⟩
  · have HV : Hid (vProg p = false) := by unfold Hid; simp [vProg, h1]
    have g1 : (p.length : Int) < 1 := by omega
    go_enter Tryd.func74, Tryd.ntmps74
    go_wp2
    go_ret
    exact ⟨by rw [HV.out]; rfl, grown_alloc (grown_refl _ _)⟩

theorem ProgAt.form {w : World} {pv : Value} {p : List (List Ins)} (h : ProgAt w pv p) : ∃ ao cap, pv = .agg #[.slice ao p.length cap] := by
  obtain ⟨ao, cap, e, _⟩ := h; exact ⟨ao, cap, e⟩

def checkN (p : List (List Ins)) : Int := if vProg p = true then 0 else 1
theorem IntsAt.mono {B B' : Nat} {w : World} {v : Value} {l : List Int} (h : IntsAt B w v l) (hb : B ≤ B') : IntsAt B' w v l := by
  obtain ⟨ao, cap, e, h1, h2⟩ := h
  refine ⟨ao, cap, e, h1, fun k hk => ?_⟩
  obtain ⟨g, o, e1, e2, e3⟩ := h2 k hk
  exact ⟨g, o, e1, by omega, e3⟩
theorem IntsAt.pres {B : Nat} {w w' : World} {v : Value} {l : List Int} (h : IntsAt B w v l) (hp : Pres w w') : IntsAt B w' v l := by
  obtain ⟨ao, cap, e, h1, h2⟩ := h
  refine ⟨ao, cap, e, h1, fun k hk => ?_⟩
  obtain ⟨g, o, e1, e2, e3⟩ := h2 k hk
  exact ⟨g, o, e1, e2, hp _ _ e3⟩
theorem IntsAt.form {B : Nat} {w : World} {v : Value} {l : List Int} (h : IntsAt B w v l) : ∃ ao cap, v = .slice ao l.length cap := by
  obtain ⟨ao, cap, e, _⟩ := h; exact ⟨ao, cap, e⟩

end Go.Proofs.YtklenjmfalljgaaDoor

/- The walks of pick and awake. -/
namespace Go.Proofs.YtklenjmfalljgaaDoor
open Go.RowKit
attribute [local go_sem] Go.World.cell?_alloc_some

end Go.Proofs.YtklenjmfalljgaaDoor

/- On runs: a run of a list and one number more; schedules that are made so. -/
namespace Go.Proofs.YtklenjmfalljgaaDoor

/-- A schedule that was made number by number: all its numbers were done; so long as it was open it grew. -/
def Sched (p : List (List Ins)) (a : List Int) : Prop := (runS p a).kind ≠ 2 ∧ (runS p a).steps.length = a.length

end Go.Proofs.YtklenjmfalljgaaDoor

/- The walk of schedule. -/
namespace Go.Proofs.YtklenjmfalljgaaDoor
open Go.RowKit
attribute [local go_sem] Go.World.cell?_alloc_some

def ints (a : List Int) : List Value := a.map fun x => .int .i64 x
theorem ints_len (a : List Int) : (ints a).length = a.length := by simp [ints]
theorem ints_one (a : List Int) : ∀ v ∈ ints a, v.oneCell' = true := by
  intro v hv
  simp only [ints, List.mem_map] at hv
  obtain ⟨x, _, rfl⟩ := hv; rfl
theorem ints_snoc (a : List Int) (x : Int) : ints (a ++ [x]) = ints a ++ [.int .i64 x] := by simp [ints]

theorem owns_ints {w : World} {base : Nat} {v : Value} {a : List Int} (h : w.ownsRow base 3 1 v a.length (ints a)) : IntsAt w.heap.size w v a := by
  rcases h.2 with ⟨e, e0⟩ | ⟨g, cap, cur, hv, hb, hh, hc, _⟩
  · refine ⟨none, 0, by rw [e, e0], by omega, fun k hk => by omega⟩
  · refine ⟨some ⟨g, 0, none⟩, cap, hv, hc, fun k hk => ⟨g, 0, rfl, (Array.getElem?_eq_some_iff.1 hh).1, ?_⟩⟩
    rw [hv] at h
    rw [Nat.zero_add, h.cellAt k (by omega)]
    simp [ints, hk]

def resCells (o : Out) (s1 g1 : Value) : Array Value := #[.int .i64 o.kind, .int .i64 o.thread, .int .i64 o.at_, s1, .int .i64 (o.st.vars 0), .int .i64 (o.st.vars 1), .int .i64 (o.st.vars 2), .int .i64 (o.st.vars 3), g1]
def zeroRes : Array Value := #[.int .i64 0, .int .i64 0, .int .i64 0, .slice none 0 0, .int .i64 0, .int .i64 0, .int .i64 0, .int .i64 0, .slice none 0 0]

/-- In the midst of schedule: s is a, r its run. -/
structure SchAt (w : World) (p : List (List Ins)) (pb : Value) (rb : Nat) (a : List Int) (sv : Value) (w' : World) : Prop where
  grown : w.grownBy w' none
  row : w'.ownsRow w.heap.size 3 1 sv a.length (ints a)
  nil : a = [] → sv = .slice none 0 0
  apart : sv.ownBlock ≠ some rb
  res : ∃ s1 g1, w'.heap[rb]? = some (.cells (resCells (runS p a) s1 g1) 37 (0, 0)) ∧ w'.ownsRow w.heap.size 48 2 s1 (runS p a).steps.length (flatS (runS p a).steps) ∧ w'.ownsRow w.heap.size 34 4 g1 p.length (regsF p.length (runS p a).st) ∧ s1.ownBlock ≠ some rb ∧ g1.ownBlock ≠ some rb
  box : w'.heap[w.heap.size]? = some (.cells #[pb] 25 (0, 0))
  out : w'.heap[w.heap.size + 1]? = some (.cells zeroRes 37 (0, 0))
  lo : w.heap.size + 2 ≤ rb
  hi : rb < w'.heap.size
  good : Sched p a

theorem SchAt.step {w : World} {p : List (List Ins)} {pb : Value} {rb : Nat} {a : List Int} {sv : Value} {w' w'' : World} (h : SchAt w p pb rb a sv w') (hg : w'.grownBy w'' none) : SchAt w p pb rb a sv w'' := by
  obtain ⟨s1, g1, h1, h2, h3, h4, h5⟩ := h.res
  exact ⟨grown_trans h.grown hg, owns_grown h.row hg (fun _ e => by cases e), h.nil, h.apart, ⟨s1, g1, by rw [hg.block _ h.hi (by simp)]; exact h1, owns_grown h2 hg (fun _ e => by cases e), owns_grown h3 hg (fun _ e => by cases e), h4, h5⟩,
    by rw [hg.block _ (by have := h.lo; have := h.hi; omega) (by simp)]; exact h.box, by rw [hg.block _ (by have := h.lo; have := h.hi; omega) (by simp)]; exact h.out, h.lo, Nat.lt_of_lt_of_le h.hi hg.size, h.good⟩

theorem owns_setCell_ne {w : World} {base : Nat} {e : TypeId} {size : Nat} {v : Value} {n : Nat} {xs : List Value} {g o : Nat} {u : Value} (h : w.ownsRow base e size v n xs) (hne : v.ownBlock ≠ some g) : (w.setCell ⟨g, o, none⟩ u).ownsRow base e size v n xs := by
  obtain ⟨h1, h2⟩ := h
  refine ⟨h1, ?_⟩
  rcases h2 with h2 | ⟨b, cap, cur, hv, hb, hh, rest⟩
  · exact Or.inl h2
  · refine Or.inr ⟨b, cap, cur, hv, hb, ?_, rest⟩
    rw [Below.heap_setCell _ _ _ _ (fun e => hne (by rw [hv]; simp [Value.ownBlock, e]))]; exact hh

theorem set9 {w : World} {g : Nat} {x0 x1 x2 x3 x4 x5 x6 x7 x8 y0 y1 y2 y3 y4 y5 y6 y7 y8 : Value} {t : TypeId} (h : w.heap[g]? = some (.cells #[x0, x1, x2, x3, x4, x5, x6, x7, x8] t (0, 0))) :
    (((((((((w.setCell ⟨g, 0, none⟩ y0).setCell ⟨g, 1, none⟩ y1).setCell ⟨g, 2, none⟩ y2).setCell ⟨g, 3, none⟩ y3).setCell ⟨g, 4, none⟩ y4).setCell ⟨g, 5, none⟩ y5).setCell ⟨g, 6, none⟩ y6).setCell ⟨g, 7, none⟩ y7).setCell ⟨g, 8, none⟩ y8).heap[g]? = some (.cells #[y0, y1, y2, y3, y4, y5, y6, y7, y8] t (0, 0)) := by
  have h0 := heap_setCell_same w g 0 _ t y0 h
  have h1 := heap_setCell_same _ g 1 _ t y1 h0
  have h2 := heap_setCell_same _ g 2 _ t y2 h1
  have h3 := heap_setCell_same _ g 3 _ t y3 h2
  have h4 := heap_setCell_same _ g 4 _ t y4 h3
  have h5 := heap_setCell_same _ g 5 _ t y5 h4
  have h6 := heap_setCell_same _ g 6 _ t y6 h5
  have h7 := heap_setCell_same _ g 7 _ t y7 h6
  have h8 := heap_setCell_same _ g 8 _ t y8 h7
  simpa using h8

/-- r = x, s = t. -/
theorem SchAt.set {w : World} {p : List (List Ins)} {pb : Value} {rb : Nat} {a b : List Int} {sv tv : Value} {w' : World} (h : SchAt w p pb rb a sv w') (hb : b ≠ []) (ht : w'.ownsRow w.heap.size 3 1 tv b.length (ints b)) (hta : tv.ownBlock ≠ some rb) {s1 g1 : Value}
    (hs : w'.ownsRow w.heap.size 48 2 s1 (runS p b).steps.length (flatS (runS p b).steps)) (hg : w'.ownsRow w.heap.size 34 4 g1 p.length (regsF p.length (runS p b).st)) (hsa : s1.ownBlock ≠ some rb) (hga : g1.ownBlock ≠ some rb) (hok : Sched p b) :
    SchAt w p pb rb b tv (((((((((w'.setCell ⟨rb, 0, none⟩ (.int .i64 (runS p b).kind)).setCell ⟨rb, 1, none⟩ (.int .i64 (runS p b).thread)).setCell ⟨rb, 2, none⟩ (.int .i64 (runS p b).at_)).setCell ⟨rb, 3, none⟩ s1).setCell ⟨rb, 4, none⟩ (.int .i64 ((runS p b).st.vars 0))).setCell ⟨rb, 5, none⟩ (.int .i64 ((runS p b).st.vars 1))).setCell ⟨rb, 6, none⟩ (.int .i64 ((runS p b).st.vars 2))).setCell ⟨rb, 7, none⟩ (.int .i64 ((runS p b).st.vars 3))).setCell ⟨rb, 8, none⟩ g1) := by
  obtain ⟨s0, g0, h1, _⟩ := h.res
  have hlo := h.lo
  have hhi := h.hi
  have hother : ∀ k, k ≠ rb → (((((((((w'.setCell ⟨rb, 0, none⟩ (.int .i64 (runS p b).kind)).setCell ⟨rb, 1, none⟩ (.int .i64 (runS p b).thread)).setCell ⟨rb, 2, none⟩ (.int .i64 (runS p b).at_)).setCell ⟨rb, 3, none⟩ s1).setCell ⟨rb, 4, none⟩ (.int .i64 ((runS p b).st.vars 0))).setCell ⟨rb, 5, none⟩ (.int .i64 ((runS p b).st.vars 1))).setCell ⟨rb, 6, none⟩ (.int .i64 ((runS p b).st.vars 2))).setCell ⟨rb, 7, none⟩ (.int .i64 ((runS p b).st.vars 3))).setCell ⟨rb, 8, none⟩ g1).heap[k]? = w'.heap[k]? := fun k hk => by
    iterate 9 rw [Below.heap_setCell _ _ _ _ (by simpa using hk)]
  refine ⟨?_, ?_, fun e => absurd e hb, hta, ⟨s1, g1, set9 h1, ?_, ?_, hsa, hga⟩, ?_, ?_, hlo, by simp; omega, hok⟩
  · iterate 9 refine grown_setNew ?_ (by omega)
    exact h.grown
  · iterate 9 refine owns_setCell_ne ?_ hta
    exact ht
  · iterate 9 refine owns_setCell_ne ?_ hsa
    exact hs
  · iterate 9 refine owns_setCell_ne ?_ hga
    exact hg
  · rw [hother _ (by omega)]; exact h.box
  · rw [hother _ (by omega)]; exact h.out


section
variable {P : Program} {w : World} {ops : Array Oper} {rest : List Oper} {o : Oper} {a : Act} {Q : Exit → Act → World → Prop}
end

end Go.Proofs.YtklenjmfalljgaaDoor

/- The walk of schedule. -/
namespace Go.Proofs.YtklenjmfalljgaaDoor
open Go.RowKit
attribute [local go_sem] Go.World.cell?_alloc_some

theorem info_int : ((Tryd.prog.info? 3).map fun i => (i.zero, i.size, i.bytes)) = some (some (.int .i64 0), 1, 8) := by kernel_rfl

theorem owns_lenq {w : World} {base e size : Nat} {ao : Option Addr} {n c m : Nat} {xs : List Value} (h : w.ownsRow base e size (.slice ao n c) m xs) : n = m := by
  rcases h.2 with ⟨e, e0⟩ | ⟨g, cap, cur, hv, _⟩
  · simp at e; omega
  · simp at hv; omega

end Go.Proofs.YtklenjmfalljgaaDoor

/- Small laws on worlds that are alike, and on rows. -/
namespace Go.Proofs.YtklenjmfalljgaaDoor
open Go.RowKit

theorem like_refl (w : World) : Like w w := ⟨rfl, rfl, rfl, rfl⟩
theorem like_dn {w' w : World} (h : Like w' w) (n : Nat) : Like (w'.drewN n) w := by
  have := like_drewN w' n
  exact ⟨this.1.trans h.1, this.2.1.trans h.2.1, this.2.2.1.trans h.2.2.1, this.2.2.2.trans h.2.2.2⟩
theorem owns_setCell {w : World} {base : Nat} {e : TypeId} {size g n cap : Nat} {xs : List Value} (h : w.ownsRow base e size (.slice (some ⟨g, 0, none⟩) n cap) n xs) (j : Nat) (u : Value) :
    (w.setCell ⟨g, j, none⟩ u).ownsRow base e size (.slice (some ⟨g, 0, none⟩) n cap) n (xs.set j u) := by
  obtain ⟨h1, h2⟩ := h
  refine ⟨by simpa using h1, ?_⟩
  rcases h2 with ⟨e1, _⟩ | ⟨g', cap', cur, hv, hb, hh, h3, h4, h5, h6⟩
  · cases e1
  · simp only [Value.slice.injEq, Option.some.injEq, Addr.mk.injEq, true_and, and_true] at hv
    obtain ⟨rfl, rfl⟩ := hv
    exact Or.inr ⟨g, cap, cur.setIfInBounds j u, rfl, hb, heap_setCell_same w g j cur e u hh, h3, h4, by simpa using h5, by rw [← h6, Array.toList_setIfInBounds, List.take_set]⟩
theorem grown_below' {w w' : World} (h : Below w.heap.size w w') : w.grownBy w' none := ⟨h.os, h.tape, h.output, h.size, fun k hk _ => h.block k hk⟩

end Go.Proofs.YtklenjmfalljgaaDoor

/- The walks of the owner's hands: same, mark, schedule. -/
namespace Go.Proofs.YtklenjmfalljgaaDoor
open Go.RowKit
attribute [local go_sem] Go.World.cell?_alloc_some

def hc (iv wv : Value) (n : Int) (ov mv : Value) : Array Value := #[iv, wv, .slice none 0 0, .slice none 0 0, .slice none 0 0, .int .i64 n, ov, mv, .slice none 0 0, .slice none 0 0, .slice none 0 0, .slice none 0 0, .slice none 0 0, .slice none 0 0, .slice none 0 0, .slice none 0 0]

def HAt (w : World) (b : Nat) (iv wv : Value) (n : Int) (ov mv : Value) : Prop := w.heap[b]? = some (.cells (hc iv wv n ov mv) 62 (0, 0))
theorem HAt.cell {w : World} {b : Nat} {iv wv : Value} {n : Int} {ov mv : Value} (h : HAt w b iv wv n ov mv) (o : Nat) : w.cell? ⟨b, o, none⟩ = (hc iv wv n ov mv)[o]? := by
  unfold HAt at h; simp [World.cell?, h]
theorem HAt.frozen {w : World} {b : Nat} {iv wv : Value} {n : Int} {ov mv : Value} (h : HAt w b iv wv n ov mv) (o : Nat) : w.frozen? ⟨b, o, none⟩ = false := by
  unfold HAt at h; simp [World.frozen?, h]
theorem HAt.lt {w : World} {b : Nat} {iv wv : Value} {n : Int} {ov mv : Value} (h : HAt w b iv wv n ov mv) : b < w.heap.size := (Array.getElem?_eq_some_iff.1 h).1
theorem HAt.grown {w w' : World} {b : Nat} {iv wv : Value} {n : Int} {ov mv : Value} {r : Option Nat} (h : HAt w b iv wv n ov mv) (hg : w.grownBy w' r) (hr : r ≠ some b) : HAt w' b iv wv n ov mv := by
  have hl := h.lt
  unfold HAt at *; rw [hg.block b hl (fun e => hr e.symm)]; exact h
theorem HAt.setOther {w : World} {b g o : Nat} {u : Value} {iv wv : Value} {n : Int} {ov mv : Value} (h : HAt w b iv wv n ov mv) (hg : b ≠ g) : HAt (w.setCell ⟨g, o, none⟩ u) b iv wv n ov mv := by
  unfold HAt at *; rw [Below.heap_setCell _ _ _ _ (by simpa using hg)]; exact h
theorem HAt.set6 {w : World} {b : Nat} {iv wv : Value} {n : Int} {ov mv : Value} (h : HAt w b iv wv n ov mv) (u : Value) : HAt (w.setCell ⟨b, 6, none⟩ u) b iv wv n u mv := by
  unfold HAt at *; rw [heap_setCell_same w b 6 _ _ _ h]; rfl
theorem HAt.set7 {w : World} {b : Nat} {iv wv : Value} {n : Int} {ov mv : Value} (h : HAt w b iv wv n ov mv) (u : Value) : HAt (w.setCell ⟨b, 7, none⟩ u) b iv wv n ov u := by
  unfold HAt at *; rw [heap_setCell_same w b 7 _ _ _ h]; rfl

set_option maxRecDepth 100000 in
set_option maxHeartbeats 1000000 in
theorem same_m (l m : List Int) (v u : Value) (w : World) (hI : IntsAt w.heap.size w v l) (hJ : IntsAt w.heap.size w u m) (hln : l.length ≤ 9223372036854775806) :
    Calls Tryd.prog 56 #[v, u] w fun e w' => e = .returned (.bool (l == m)) ∧ Like w' w := by
  obtain ⟨ao, cap, rfl, hcap, hc⟩ := hI
  obtain ⟨bo, dap, rfl, hdap, hd⟩ := hJ
  by_cases hlen : l.length = m.length
  · have HC := hide hc
    have HD := hide hd
    clear hc hd
    have hl2 : (l.length : Int) = m.length := by omega
    have hl3 : ((l.length : Int) != (m.length : Int)) = false := by simp; omega
    have HLN := hide hlen
    go_enter Tryd.func56, Tryd.ntmps56
    clear hlen hl2
    go_wp2_with fail
    go_loopw [5] (fun i w' => ∃ k : Nat, k ≤ l.length ∧ i = .int .i64 k ∧ Hid (Like w' w) ∧ Hid (l.take k = m.take k)) (fun i _ => l.length - (intOf i).toNat)
    case atStart => exact ⟨0, Nat.zero_le _, rfl, hide (like_refl _), by simp [Hid]⟩
    case round =>
      obtain ⟨k, hk, rfl, HK, HA⟩ := hrel
      obtain ⟨w5, hw5⟩ : ∃ w5, w5 = wr := ⟨_, rfl⟩
      subst hw5
      by_cases hlt : k < l.length
      · have hlt2 : k < m.length := by have := HLN.out; omega
        obtain ⟨g, o, rfl, _, c0⟩ := HC.out k hlt
        obtain ⟨g2, o2, rfl, _, c1⟩ := HD.out k hlt2
        have cL : ∀ a, w5.cell? a = w.cell? a := fun a => by simp [World.cell?, HK.out.1]
        have d0 : w5.cell? ⟨g, o + k, none⟩ = some (.int .i64 l[k]) := by rw [cL]; exact c0
        have d1 : w5.cell? ⟨g2, o2 + k, none⟩ = some (.int .i64 m[k]) := by rw [cL]; exact c1
        have hk0 : (0 : Int) ≤ (k : Int) := by omega
        have hk1 : (k : Int) < l.length := by omega
        have hk2 : (k : Int) < m.length := by omega
        have HT1 : Hid (l.take (k + 1) = l.take k ++ [l[k]]) := List.take_succ_eq_append_getElem hlt
        have HT2 : Hid (m.take (k + 1) = m.take k ++ [m[k]]) := List.take_succ_eq_append_getElem hlt2
        clear cL c0 c1
        by_cases heq : l[k] = m[k]
        · have hq : (l[k] != m[k]) = false := by simpa using heq
          have HA1 : Hid (l.take (k + 1) = m.take (k + 1)) := by unfold Hid; rw [HT1.out, HT2.out, HA.out, heq]
          clear heq HT1 HT2
          generalize l[k] = x at *
          generalize m[k] = y at *
          go_wp2_with fail
          go_quiet (fail)
          go_wp2_with fail
          go_roundw
          case rel => exact ⟨k + 1, by omega, by go_num, hide (like_dn HK.out _), HA1⟩
          case measure => simp [intOf]; omega
        · have hq : (l[k] != m[k]) = true := by simpa using heq
          have HE : Hid ((l == m) = false) := by
            unfold Hid
            simp only [beq_eq_false_iff_ne]
            intro e
            apply heq
            simp [e]
          clear heq HT1 HT2
          generalize l[k] = x at *
          generalize m[k] = y at *
          go_wp2_with fail
          go_quiet (fail)
          go_wp2_with fail
          go_ret
          exact ⟨by rw [HE.out]; rfl, like_dn HK.out _⟩
      · have HE : Hid ((l == m) = true) := by
          unfold Hid
          have h1 := HA.out
          rw [List.take_of_length_le (by omega), List.take_of_length_le (by have := HLN.out; omega)] at h1
          simpa using h1
        have q2 : (l.length : Int) ≤ (k : Int) := by omega
        go_wp2_with fail
        go_ret
        exact ⟨by rw [HE.out]; rfl, HK.out⟩
  · have HE : Hid ((l == m) = false) := by
      unfold Hid
      simp only [beq_eq_false_iff_ne]
      intro e; exact hlen (by rw [e])
    have hl3 : ((l.length : Int) != (m.length : Int)) = true := by simp; omega
    clear hc hd
    go_enter Tryd.func56, Tryd.ntmps56
    go_wp2_with fail
    go_ret
    exact ⟨by rw [HE.out]; rfl, like_refl _⟩

end Go.Proofs.YtklenjmfalljgaaDoor

/- The walk of the hands' schedule. -/
namespace Go.Proofs.YtklenjmfalljgaaDoor
open Go.RowKit
attribute [local go_sem] Go.World.cell?_alloc_some

/-- copy of a list of numbers onto a row of one's own. -/
theorem run_copy_ints {P : Program} (w : World) (t ty elem : TypeId) (hu : P.underlying t = some (.slice elem)) (hsz : (P.info? elem).map (·.size) = some 1) (g dLen dCap : Nat) (sv : Value) (B : Nat) (l : List Int) (hI : IntsAt B w sv l) (cur : Array Value) (ct : TypeId) (hg : w.heap[g]? = some (.cells cur ct (0, 0))) (hln : l.length ≤ dLen) (hfit : l.length ≤ cur.size) :
    ∃ w', (Builtin.copy_ #[t, t] ty #[.slice (some ⟨g, 0, none⟩) dLen dCap, sv]).run P w = .ok (goInt l.length) w' ∧ w'.heap[g]? = some (.cells (ints l ++ cur.toList.drop l.length).toArray ct (0, 0)) ∧ w.grownBy w' (some g) := by
  obtain ⟨ao, cap, e, hcap, hc⟩ := hI
  subst e
  by_cases h0 : l.length = 0
  · have hl : l = [] := List.length_eq_zero_iff.1 h0
    subst hl
    refine ⟨w, run_copy_none (P := P) w t t ty elem _ _ dLen dCap _ cap hu hsz (by simp), ?_, grown_refl _ _⟩
    rw [hg]; simp [ints]
  · obtain ⟨g', o', e', _, _⟩ := hc 0 (by omega)
    subst e'
    have hcc : ∀ k (hk : k < l.length), w.cell? ⟨g', o' + k, none⟩ = some (.int .i64 l[k]) := by
      intro k hk
      obtain ⟨g2, o2, e2, _, c⟩ := hc k hk
      simp only [Option.some.injEq, Addr.mk.injEq, and_true] at e2
      obtain ⟨rfl, rfl⟩ := e2
      exact c
    have hmin : Nat.min l.length dLen = l.length := Nat.min_eq_left hln
    have hr := run_copy_row (P := P) w t t ty elem g 0 dLen dCap ⟨g', o', none⟩ l.length cap cur ct (ints l) hu hsz hg (by rw [ints_len, hmin]) (fun j v hj => by
      have hjl : j < l.length := by have := (List.getElem?_eq_some_iff.1 hj).1; rwa [ints_len] at this
      have hadd : (⟨g', o', none⟩ : Addr).add j = ⟨g', o' + j, none⟩ := by unfold Addr.add; split <;> simp_all
      rw [hadd, hcc j hjl, ← hj]
      simp [ints, hjl]) (by rw [ints_len]; omega) (ints_one l)
    rw [ints_len] at hr
    simp only [List.take_zero, List.nil_append, Nat.zero_add] at hr
    exact ⟨_, hr, setRow_heap w g cur _ ct (0, 0) hg, ⟨rfl, rfl, rfl, by simp, fun k hk hr => setRow_other w g k _ (fun e => hr (by rw [e]))⟩⟩

def ink : Value := .int .i64 (-77000000)
def lentRow (l : List Int) : Array Value := (ints l ++ [ink, ink]).toArray

theorem info_ints : ((Tryd.prog.info? 22).map fun i => (i.zero, i.size, i.bytes)) = some (some (.slice none 0 0), 1, 24) := by kernel_rfl

theorem row_ink (l : List Int) (cur : Array Value) (hc : cur.size = l.length + 2) : ((ints l ++ cur.toList.drop l.length).toArray.setIfInBounds l.length ink).setIfInBounds (l.length + 1) ink = lentRow l := by
  obtain ⟨c⟩ := cur
  simp at hc
  obtain ⟨x, y, h1⟩ : ∃ x y, c.drop l.length = [x, y] := ⟨c[l.length]'(by omega), c[l.length + 1]'(by omega), by
    rw [List.drop_eq_getElem_cons (by omega), List.drop_eq_getElem_cons (by omega), List.drop_eq_nil_of_le (by omega)]⟩
  have e1 : ∀ (a : List Value) (x y z : Value) (k : Nat), k = a.length → (a ++ [x, y]).set k z = a ++ [z, y] := by
    intro a x y z k hk; subst hk; rw [List.set_append]; simp
  have e2 : ∀ (a : List Value) (x y z : Value) (k : Nat), k = a.length → (a ++ [x, y]).set (k + 1) z = a ++ [x, z] := by
    intro a x y z k hk; subst hk; rw [List.set_append, if_neg (by omega)]; simp
  have el := (ints_len l).symm
  simp only [h1, List.setIfInBounds_toArray, lentRow]
  rw [e1 _ _ _ _ _ el, e2 _ _ _ _ _ el]

end Go.Proofs.YtklenjmfalljgaaDoor

/- The walk of the hands' back. -/
namespace Go.Proofs.YtklenjmfalljgaaDoor
open Go.RowKit
attribute [local go_sem] Go.World.cell?_alloc_some

theorem lentRow_len (l : List Int) : (lentRow l).size = l.length + 2 := by simp [lentRow, ints_len]
theorem lentRow_at (l : List Int) (k : Nat) (hk : k < l.length) : (lentRow l)[k]? = some (.int .i64 l[k]) := by
  simp [lentRow, ints, List.getElem?_append, hk]
theorem lentRow_ink0 (l : List Int) : (lentRow l)[l.length]? = some ink := by
  simp [lentRow, ints_len]
theorem lentRow_ink1 (l : List Int) : (lentRow l)[l.length + 1]? = some ink := by
  simp [lentRow, ints_len]

theorem lent_ints {w : World} {g : Nat} {l : List Int} (h : w.heap[g]? = some (.cells (lentRow l) 3 (0, 0))) : IntsAt w.heap.size w (.slice (some ⟨g, 0, none⟩) l.length (l.length + 2)) l := by
  refine ⟨some ⟨g, 0, none⟩, l.length + 2, rfl, by omega, fun k hk => ⟨g, 0, rfl, (Array.getElem?_eq_some_iff.1 h).1, ?_⟩⟩
  rw [Nat.zero_add]
  simp only [World.cell?, h]
  exact lentRow_at l k hk

def Turned (w : World) (b g : Nat) (w' : World) : Prop := w'.os = w.os ∧ w'.tape = w.tape ∧ w'.output = w.output ∧ w.heap.size ≤ w'.heap.size ∧ ∀ k, k < w.heap.size → k ≠ b → k ≠ g → w'.heap[k]? = w.heap[k]?
theorem Turned.refl (w : World) (b g : Nat) : Turned w b g w := ⟨rfl, rfl, rfl, Nat.le_refl _, fun _ _ _ _ => rfl⟩
theorem Turned.below {w w1 w2 : World} {b g : Nat} (h : Turned w b g w1) (hb : Below w1.heap.size w1 w2) : Turned w b g w2 :=
  ⟨hb.os.trans h.1, hb.tape.trans h.2.1, hb.output.trans h.2.2.1, Nat.le_trans h.2.2.2.1 hb.size, fun k hk h1 h2 => by rw [hb.block k (Nat.lt_of_lt_of_le hk h.2.2.2.1)]; exact h.2.2.2.2 k hk h1 h2⟩
theorem Turned.set {w w1 : World} {b g c o : Nat} {v : Value} (h : Turned w b g w1) (hc : c = b ∨ c = g) : Turned w b g (w1.setCell ⟨c, o, none⟩ v) :=
  ⟨h.1, h.2.1, h.2.2.1, by simpa using h.2.2.2.1, fun k hk h1 h2 => by rw [Below.heap_setCell _ _ _ _ (by rcases hc with rfl | rfl <;> simpa using by assumption)]; exact h.2.2.2.2 k hk h1 h2⟩
theorem Turned.like {w w1 w2 : World} {b g : Nat} (h : Turned w b g w1) (hl : Like w2 w1) : Turned w b g w2 :=
  ⟨hl.2.1.trans h.1, hl.2.2.2.trans h.2.1, hl.2.2.1.trans h.2.2.1, by rw [hl.1]; exact h.2.2.2.1, fun k hk h1 h2 => by rw [hl.1]; exact h.2.2.2.2 k hk h1 h2⟩

end Go.Proofs.YtklenjmfalljgaaDoor

/- append, and what becomes of the old row; the walk of keepInts. -/
namespace Go.Proofs.YtklenjmfalljgaaDoor
open Go.RowKit
attribute [local go_sem] Go.World.cell?_alloc_some

section
variable {P : Program} {w : World}
/-- append: in its own row, or in a new one, and then all else stands, the old row too. -/
theorem wpList_append_keeps {ops : Array Oper} {rest : List Oper} {o : Oper} {a : Act} {Q : Exit → Act → World → Prop} (hgd : o.guard = none) (s x : Operand) (t : TypeId)
    (ho : o.op = .call { callee := .builtin .append, args := #[s, x], argTypes := #[t, t] })
    (base : Nat) (e : TypeId) (i : TypeInfo) (z : Value) (size bytes : Nat) (ht : P.underlying t = some (.slice e)) (hi : P.info? e = some i) (hz : i.zero = some z)
    (hsize : i.size = size) (hby : i.bytes = bytes) (hzs : z.cells.size = size) (hsz : 0 < size)
    (v : Value) (n : Nat) (xs : List Value) (hs : a.eval s = v) (hown : w.ownsRow base e size v n xs)
    (ad : Addr) (m c : Nat) (news : List Value) (hx : a.eval x = .slice (some ad) m c) (hl : news.length = m * size) (hnews : ∀ j u, news[j]? = some u → w.cell? (ad.add j) = some u) (h1 : ∀ u ∈ news, u.oneCell' = true)
    (hm : 0 < m) (h63 : n + m ≤ maxLen) (hbytes : (n + m) * bytes ≤ 140737488355328) (hbase : base ≤ w.heap.size) (H : Nat) (hH : w.heap.size = H)
    (h : ∀ g cap w', w'.ownsRow base e size (.slice (some ⟨g, 0, none⟩) (n + m) cap) (n + m) (xs ++ news) → ((v.ownBlock = some g ∧ w.grownBy w' (some g)) ∨ (g = H ∧ w.grownBy w' none)) → g < w'.heap.size → wpList P ops Q rest (a.put o.dst (.slice (some ⟨g, 0, none⟩) (n + m) cap)) w') : wpList P ops Q (o :: rest) a w := by
  refine wpList_plain hgd fun K hK => ?_
  obtain ⟨g, cap, w', hr, h2, h3, h4, h5⟩ := run_append_lies (P := P) w t o.type base e i z size bytes ht hi hz hsize hby hzs hsz v n xs hown ad m c news hl hnews h1 hm h63 hbytes hbase H hH
  have key : (v.ownBlock = some g ∧ w.grownBy w' (some g)) ∨ (g = H ∧ w.grownBy w' none) := by
    have hsmall : n + m ≤ 9223372036854775807 := by simp only [maxLen] at h63; omega
    rcases hown.2 with ⟨rfl, rfl⟩ | ⟨g0, cap0, cur, rfl, hbg, hg, hnc, hcm, hcs, htake⟩
    · rcases h4 with h4 | h4
      · cases h4
      · exact Or.inr ⟨h4, h3⟩
    · by_cases hroom : n + m ≤ cap0
      · obtain ⟨w2, hr2, h6, h7⟩ := run_append_fits (P := P) w base t o.type e i size ht hi hsize g0 n cap0 xs hown ad m c news hl hnews h1 hroom
        rw [hr] at hr2
        simp only [Result.ok.injEq, Value.slice.injEq, Option.some.injEq, Addr.mk.injEq, true_and, and_true] at hr2
        obtain ⟨⟨rfl, rfl⟩, rfl⟩ := hr2
        exact Or.inl ⟨rfl, h7⟩
      · subst hsize
        subst hby
        have holds : ∀ j u, xs[j]? = some u → w.cell? ((⟨g0, 0, none⟩ : Addr).add j) = some u := hown.cells (g := g0) rfl
        have hr2 := run_append_grow (P := P) w t o.type e i z ht hi hz ⟨g0, 0, none⟩ n cap0 xs hown.1 holds ad m c news hl hnews (by omega) (by omega) (growslice_fits (by omega) hbytes)
        rw [hr] at hr2
        simp only [Result.ok.injEq, Value.slice.injEq, Option.some.injEq, Addr.mk.injEq, true_and, and_true] at hr2
        obtain ⟨⟨rfl, rfl⟩, rfl⟩ := hr2
        exact Or.inr ⟨hH, ⟨rfl, rfl, rfl, by simp, fun k hk _ => Below.heap_alloc w.drew _ k hk⟩⟩
  unfold Oper.wp execOp
  simp only [ho, resolve, invoke, builtin, Sem.run_bind, Sem.run_pure, Result.andThen_ok, List.map_toArray, List.map_cons, List.map_nil, hs, hx, hr]
  exact hK _ _ (h g cap w' h2 key h5)
end

/-- A list that came out and was written full: it reads so. -/
def Kept (w : World) (x : Value × Int) : Prop := x.1 = .slice none 0 0 ∨ ∃ g len cap, x.1 = .slice (some ⟨g, 0, none⟩) len cap ∧ len ≤ 1000 ∧ ∀ k, k < len → w.cell? ⟨g, k, none⟩ = some (.int .i64 x.2)

structure KeptAll (B : Nat) (w : World) (b : Nat) (ov mv : Value) (K : List (Value × Int)) : Prop where
  orow : w.ownsRow B 22 1 ov K.length (K.map (·.1))
  mrow : w.ownsRow B 3 1 mv K.length (ints (K.map (·.2)))
  ob : ov.ownBlock ≠ some b
  mb : mv.ownBlock ≠ some b
  om : ∀ g, ov.ownBlock = some g → mv.ownBlock ≠ some g
  kept : ∀ x ∈ K, Kept w x ∧ ∀ g, x.1.ownBlock = some g → g ≠ b ∧ ov.ownBlock ≠ some g ∧ mv.ownBlock ≠ some g ∧ g < w.heap.size
  lo : B ≤ b

/-- The hands between two calls. -/
def Hd (B : Nat) (w : World) (b : Nat) (n : Int) (K : List (Value × Int)) : Prop := ∃ ov mv, HAt w b (.slice none 0 0) (.slice none 0 0) n ov mv ∧ KeptAll B w b ov mv K

theorem Kept.grown {w w' : World} {x : Value × Int} {r : Option Nat} (h : Kept w x) (hg : w.grownBy w' r) (hr : ∀ g, x.1.ownBlock = some g → r ≠ some g ∧ g < w.heap.size) : Kept w' x := by
  rcases h with h | ⟨g, len, cap, e, hl, hc⟩
  · exact Or.inl h
  · obtain ⟨h1, h2⟩ := hr g (by rw [e]; rfl)
    refine Or.inr ⟨g, len, cap, e, hl, fun k hk => ?_⟩
    rw [World.cell?_of_block (hg.block g h2 (fun e => h1 e.symm))]; exact hc k hk
theorem owns_ltH {w : World} {base : Nat} {e : TypeId} {size : Nat} {v : Value} {n : Nat} {xs : List Value} (h : w.ownsRow base e size v n xs) : ∀ g, v.ownBlock = some g → g < w.heap.size := by
  intro g hg
  rcases h.2 with ⟨e1, _⟩ | ⟨g', cap, cur, hv, hb, hh, _⟩
  · rw [e1] at hg; cases hg
  · rw [hv] at hg; simp [Value.ownBlock] at hg; rw [← hg]; exact (Array.getElem?_eq_some_iff.1 hh).1
theorem owns_step' {w w' : World} {base : Nat} {e : TypeId} {size : Nat} {v : Value} {n : Nat} {xs : List Value} {r : Option Nat} (h : w.ownsRow base e size v n xs) (hg : w.grownBy w' r) (hr : ∀ g, v.ownBlock = some g → r ≠ some g) : w'.ownsRow base e size v n xs := by
  obtain ⟨h1, h2⟩ := h
  refine ⟨h1, ?_⟩
  rcases h2 with h2 | ⟨g, cap, cur, hv, hb, hh, rest⟩
  · exact Or.inl h2
  · refine Or.inr ⟨g, cap, cur, hv, hb, ?_, rest⟩
    rw [hg.block g (Array.getElem?_eq_some_iff.1 hh).1 (fun e => hr g (by rw [hv]; rfl) e.symm)]; exact hh

/-- What changes blocks that are not the hands' leaves them. -/
theorem KeptAll.grown {B : Nat} {w w' : World} {b : Nat} {ov mv : Value} {K : List (Value × Int)} {r : Option Nat} (h : KeptAll B w b ov mv K) (hg : w.grownBy w' r) (ho : ∀ g, r = some g → ov.ownBlock ≠ some g ∧ mv.ownBlock ≠ some g ∧ ∀ x ∈ K, x.1.ownBlock ≠ some g) : KeptAll B w' b ov mv K := by
  refine ⟨owns_step' h.orow hg (fun g e1 e2 => (ho g e2).1 e1), owns_step' h.mrow hg (fun g e1 e2 => (ho g e2).2.1 e1), h.ob, h.mb, h.om, fun x hx => ?_, h.lo⟩
  obtain ⟨k1, k2⟩ := h.kept x hx
  refine ⟨k1.grown hg (fun g e => ⟨fun e2 => (ho g e2).2.2 x hx e, (k2 g e).2.2.2⟩), fun g e => ?_⟩
  obtain ⟨h1, h2, h3, h4⟩ := k2 g e
  exact ⟨h1, h2, h3, Nat.lt_of_lt_of_le h4 hg.size⟩

theorem Hd.grown {B : Nat} {w w' : World} {b : Nat} {n : Int} {K : List (Value × Int)} (h : Hd B w b n K) (hg : w.grownBy w' none) : Hd B w' b n K := by
  obtain ⟨ov, mv, h1, h2⟩ := h
  exact ⟨ov, mv, h1.grown hg (by simp), h2.grown hg (fun g e => by cases e)⟩

/-- In the midst of keepInts: lists kept, marks kept, the list that is written. -/
structure KS (W : World) (B : Nat) (w : World) (b : Nat) (n m : Int) (ov mv lv : Value) (len : Nat) (K : List (Value × Int)) (M : List Int) : Prop where
  h : HAt w b (.slice none 0 0) (.slice none 0 0) n ov mv
  orow : w.ownsRow B 22 1 ov K.length (K.map (·.1))
  mrow : w.ownsRow B 3 1 mv M.length (ints M)
  lrow : w.ownsRow B 3 1 lv len (List.replicate len (.int .i64 m))
  ob : ov.ownBlock ≠ some b
  mb : mv.ownBlock ≠ some b
  lb : lv.ownBlock ≠ some b
  om : ∀ g, ov.ownBlock = some g → mv.ownBlock ≠ some g
  ol : ∀ g, ov.ownBlock = some g → lv.ownBlock ≠ some g
  ml : ∀ g, mv.ownBlock = some g → lv.ownBlock ≠ some g
  kept : ∀ x ∈ K, Kept w x ∧ ∀ g, x.1.ownBlock = some g → g ≠ b ∧ ov.ownBlock ≠ some g ∧ mv.ownBlock ≠ some g ∧ g < w.heap.size ∧ (lv.ownBlock = some g → x.2 = m ∧ ∃ l c, x.1 = .slice (some ⟨g, 0, none⟩) l c ∧ l ≤ len)
  lo : B ≤ b
  ln : len ≤ 1000
  base : W.grownBy w none
  wb : W.heap.size ≤ B

/-- The frame of an append behind a new block. -/
theorem key_frame {w w6 : World} {o : Obj} {v : Value} {g6 : Nat} (key : (v.ownBlock = some g6 ∧ (w.alloc o).grownBy w6 (some g6)) ∨ (g6 = w.heap.size + 1 ∧ (w.alloc o).grownBy w6 none)) :
    ∃ r, w.grownBy w6 r ∧ (∀ g, r = some g → v.ownBlock = some g) ∧ (∀ g, g < w.heap.size → v.ownBlock ≠ some g → g6 ≠ g) ∧ (∀ g, g < w.heap.size → v.ownBlock ≠ some g → w6.heap[g]? = w.heap[g]?) ∧ w.heap.size ≤ w6.heap.size := by
  rcases key with ⟨e, hg⟩ | ⟨e, hg⟩
  · have hw : w.grownBy w6 (some g6) := grown_trans (grown_alloc (grown_refl _ _)) hg
    exact ⟨some g6, hw, fun g e2 => (by rw [e, e2]), fun g _ h2 e3 => h2 (by rw [e, e3]), fun g h1 h2 => hw.block g h1 (fun e3 => h2 (by rw [e, e3])), hw.size⟩
  · have hw : w.grownBy w6 none := grown_trans (grown_alloc (grown_refl _ _)) hg
    exact ⟨none, hw, fun g e2 => (by cases e2), fun g h1 _ e3 => (by omega), fun g h1 _ => hw.block g h1 (by simp), hw.size⟩

theorem Kept.same {w w' : World} {x : Value × Int} (h : Kept w x) (hb : ∀ g, x.1.ownBlock = some g → w'.heap[g]? = w.heap[g]?) : Kept w' x := by
  rcases h with h | ⟨g, len, cap, e, hl, hc⟩
  · exact Or.inl h
  · refine Or.inr ⟨g, len, cap, e, hl, fun k hk => ?_⟩
    rw [World.cell?_of_block (hb g (by rw [e]; rfl))]; exact hc k hk
theorem owns_same {w w' : World} {base : Nat} {e : TypeId} {size : Nat} {v : Value} {n : Nat} {xs : List Value} (h : w.ownsRow base e size v n xs) (hb : ∀ g, v.ownBlock = some g → w'.heap[g]? = w.heap[g]?) : w'.ownsRow base e size v n xs := by
  obtain ⟨h1, h2⟩ := h
  refine ⟨h1, ?_⟩
  rcases h2 with h2 | ⟨g, cap, cur, hv, hbb, hh, rest⟩
  · exact Or.inl h2
  · exact Or.inr ⟨g, cap, cur, hv, hbb, by rw [hb g (by rw [hv]; rfl)]; exact hh, rest⟩
theorem base_row {W w w6 : World} {r : Option Nat} {v : Value} {B : Nat} (h : W.grownBy w none) (hB : W.heap.size ≤ B) (hg : w.grownBy w6 r) (hr : ∀ g, r = some g → v.ownBlock = some g) (hv : ∀ g, v.ownBlock = some g → B ≤ g) : W.grownBy w6 none :=
  ⟨hg.os.trans h.os, hg.tape.trans h.tape, hg.output.trans h.output, Nat.le_trans h.size hg.size, fun k hk _ => by
    rw [hg.block k (Nat.lt_of_lt_of_le hk h.size) (fun e => by have := hv k (hr k e.symm); omega)]; exact h.block k hk (by simp)⟩

section
variable {W : World} {B : Nat} {w : World} {b : Nat} {n m : Int} {ov mv lv : Value} {len : Nat} {K : List (Value × Int)} {M : List Int}

/-- h.out = append(h.out, l). -/
theorem KS.out (s : KS W B w b n m ov mv lv len K M) {w6 : World} {o : Obj} {g6 c6 : Nat} (hown : w6.ownsRow B 22 1 (.slice (some ⟨g6, 0, none⟩) (K.length + 1) c6) (K.length + 1) (K.map (·.1) ++ [lv]))
    (key : (ov.ownBlock = some g6 ∧ (w.alloc o).grownBy w6 (some g6)) ∨ (g6 = w.heap.size + 1 ∧ (w.alloc o).grownBy w6 none)) :
    KS W B (w6.setCell ⟨b, 6, none⟩ (.slice (some ⟨g6, 0, none⟩) (K.length + 1) c6)) b n m (.slice (some ⟨g6, 0, none⟩) (K.length + 1) c6) mv lv len (K ++ [(lv, m)]) M := by
  obtain ⟨r, hg, hr, hne, hsame, hsz⟩ := key_frame key
  have hb := s.h.lt
  have hg6b : g6 ≠ b := hne b hb s.ob
  have oth : ∀ g, g < w.heap.size → ov.ownBlock ≠ some g → g ≠ b → (w6.setCell ⟨b, 6, none⟩ (.slice (some ⟨g6, 0, none⟩) (K.length + 1) c6)).heap[g]? = w.heap[g]? := fun g h1 h2 h3 => by
    rw [Below.heap_setCell _ _ _ _ (by simpa using h3)]; exact hsame g h1 h2
  have hmL := owns_ltH s.mrow
  have hlL := owns_ltH s.lrow
  refine ⟨?_, ?_, owns_same s.mrow (fun g e => oth g (hmL g e) (fun e2 => s.om g e2 e) (fun e2 => s.mb (by rw [e, e2]))), owns_same s.lrow (fun g e => oth g (hlL g e) (fun e2 => s.ol g e2 e) (fun e2 => s.lb (by rw [e, e2]))),
    by simpa [Value.ownBlock] using hg6b, s.mb, s.lb, ?_, ?_, s.ml, ?_, s.lo, s.ln, ?_, s.wb⟩
  · refine HAt.set6 (ov := ov) ?_ _
    have := s.h
    unfold HAt at *
    rw [hsame b hb s.ob]; exact this
  · refine ownsRow_setCell_other ?_ (by simpa [Value.ownBlock] using hg6b) _
    simpa using hown
  · intro g e e2
    simp only [Value.ownBlock, Option.some.injEq] at e
    exact hne g (hmL g e2) (fun e3 => s.om g e3 e2) e
  · intro g e e2
    simp only [Value.ownBlock, Option.some.injEq] at e
    exact hne g (hlL g e2) (fun e3 => s.ol g e3 e2) e
  · intro x hx
    rcases List.mem_append.1 hx with hx | hx
    · obtain ⟨k1, k2⟩ := s.kept x hx
      refine ⟨k1.same (fun g e => by obtain ⟨h1, h2, h3, h4, _⟩ := k2 g e; exact oth g h4 h2 h1), fun g e => ?_⟩
      obtain ⟨h1, h2, h3, h4, h5⟩ := k2 g e
      exact ⟨h1, by simpa [Value.ownBlock] using hne g h4 h2, h3, by simp; omega, h5⟩
    · simp at hx
      subst hx
      refine ⟨?_, fun g e => ⟨fun e2 => s.lb (by rw [← e2]; exact e), by simpa [Value.ownBlock] using hne g (hlL g e) (fun e3 => s.ol g e3 e), fun e3 => s.ml g e3 e, by have := hlL g e; simp; omega, fun _ => ⟨rfl, ?_⟩⟩⟩
      · rcases s.lrow.2 with ⟨e, _⟩ | ⟨g, cap, cur, hv, hbb, hh, hc1, hc2, hc3, hc4⟩
        · exact Or.inl e
        · refine Or.inr ⟨g, len, cap, hv, s.ln, fun k hk => ?_⟩
          have hlr := s.lrow
          rw [hv] at hlr
          rw [World.cell?_of_block (oth g (Array.getElem?_eq_some_iff.1 hh).1 (fun e3 => s.ol g e3 (by rw [hv]; rfl)) (fun e3 => s.lb (by rw [hv, ← e3]; rfl))), hlr.cellAt k (by omega)]
          simp [hk]
      · rcases s.lrow.2 with ⟨e2, _⟩ | ⟨g', cap, cur, hv, _⟩
        · rw [e2] at e; cases e
        · rw [hv] at e
          simp only [Value.ownBlock, Option.some.injEq] at e
          exact ⟨len, cap, by rw [hv, e], Nat.le_refl _⟩
  · exact grown_setNew (base_row s.base s.wb hg hr (owns_block s.orow)) (by have := s.lo; have := s.wb; omega)

/-- h.marks = append(h.marks, m). -/
theorem KS.mark (s : KS W B w b n m ov mv lv len K M) {w6 : World} {o : Obj} {g6 c6 : Nat} (hown : w6.ownsRow B 3 1 (.slice (some ⟨g6, 0, none⟩) (M.length + 1) c6) (M.length + 1) (ints M ++ [.int .i64 m]))
    (key : (mv.ownBlock = some g6 ∧ (w.alloc o).grownBy w6 (some g6)) ∨ (g6 = w.heap.size + 1 ∧ (w.alloc o).grownBy w6 none)) :
    KS W B (w6.setCell ⟨b, 7, none⟩ (.slice (some ⟨g6, 0, none⟩) (M.length + 1) c6)) b n m ov (.slice (some ⟨g6, 0, none⟩) (M.length + 1) c6) lv len K (M ++ [m]) := by
  obtain ⟨r, hg, hr, hne, hsame, hsz⟩ := key_frame key
  have hb := s.h.lt
  have hg6b : g6 ≠ b := hne b hb s.mb
  have oth : ∀ g, g < w.heap.size → mv.ownBlock ≠ some g → g ≠ b → (w6.setCell ⟨b, 7, none⟩ (.slice (some ⟨g6, 0, none⟩) (M.length + 1) c6)).heap[g]? = w.heap[g]? := fun g h1 h2 h3 => by
    rw [Below.heap_setCell _ _ _ _ (by simpa using h3)]; exact hsame g h1 h2
  have hoL := owns_ltH s.orow
  have hlL := owns_ltH s.lrow
  refine ⟨?_, owns_same s.orow (fun g e => oth g (hoL g e) (fun e2 => s.om g e e2) (fun e2 => s.ob (by rw [e, e2]))), ?_, owns_same s.lrow (fun g e => oth g (hlL g e) (fun e2 => s.ml g e2 e) (fun e2 => s.lb (by rw [e, e2]))),
    s.ob, by simpa [Value.ownBlock] using hg6b, s.lb, ?_, s.ol, ?_, ?_, s.lo, s.ln, ?_, s.wb⟩
  · refine HAt.set7 (mv := mv) ?_ _
    have := s.h
    unfold HAt at *
    rw [hsame b hb s.mb]; exact this
  · refine ownsRow_setCell_other ?_ (by simpa [Value.ownBlock] using hg6b) _
    simpa [ints] using hown
  · intro g e e2
    simp only [Value.ownBlock, Option.some.injEq] at e2
    exact hne g (hoL g e) (fun e3 => s.om g e e3) e2
  · intro g e e2
    simp only [Value.ownBlock, Option.some.injEq] at e
    exact hne g (hlL g e2) (fun e3 => s.ml g e3 e2) e
  · intro x hx
    obtain ⟨k1, k2⟩ := s.kept x hx
    refine ⟨k1.same (fun g e => by obtain ⟨h1, h2, h3, h4, _⟩ := k2 g e; exact oth g h4 h3 h1), fun g e => ?_⟩
    obtain ⟨h1, h2, h3, h4, h5⟩ := k2 g e
    exact ⟨h1, h2, by simpa [Value.ownBlock] using hne g h4 h3, by simp; omega, h5⟩
  · exact grown_setNew (base_row s.base s.wb hg hr (owns_block s.mrow)) (by have := s.lo; have := s.wb; omega)

/-- l = append(l, m). -/
theorem KS.list (s : KS W B w b n m ov mv lv len K M) (hl : len + 1 ≤ 1000) {w6 : World} {o : Obj} {g6 c6 : Nat} (hown : w6.ownsRow B 3 1 (.slice (some ⟨g6, 0, none⟩) (len + 1) c6) (len + 1) (List.replicate len (.int .i64 m) ++ [.int .i64 m]))
    (key : (lv.ownBlock = some g6 ∧ (w.alloc o).grownBy w6 (some g6)) ∨ (g6 = w.heap.size + 1 ∧ (w.alloc o).grownBy w6 none)) :
    KS W B w6 b n m ov mv (.slice (some ⟨g6, 0, none⟩) (len + 1) c6) (len + 1) K M := by
  obtain ⟨r, hg, hr, hne, hsame, hsz⟩ := key_frame key
  have hb := s.h.lt
  have hg6b : g6 ≠ b := hne b hb s.lb
  have hoL := owns_ltH s.orow
  have hmL := owns_ltH s.mrow
  have hrow : w6.ownsRow B 3 1 (.slice (some ⟨g6, 0, none⟩) (len + 1) c6) (len + 1) (List.replicate (len + 1) (.int .i64 m)) := by rw [List.replicate_succ']; exact hown
  refine ⟨?_, owns_same s.orow (fun g e => hsame g (hoL g e) (s.ol g e)), owns_same s.mrow (fun g e => hsame g (hmL g e) (s.ml g e)), hrow, s.ob, s.mb, by simpa [Value.ownBlock] using hg6b, s.om, ?_, ?_, ?_, s.lo, hl, ?_, s.wb⟩
  · have := s.h
    unfold HAt at *
    rw [hsame b hb s.lb]; exact this
  · intro g e e2
    simp only [Value.ownBlock, Option.some.injEq] at e2
    exact hne g (hoL g e) (s.ol g e) e2
  · intro g e e2
    simp only [Value.ownBlock, Option.some.injEq] at e2
    exact hne g (hmL g e) (s.ml g e) e2
  · intro x hx
    obtain ⟨k1, k2⟩ := s.kept x hx
    refine ⟨?_, fun g e => ?_⟩
    · rcases k1 with k1 | ⟨g, l, c, e, hl1, hc⟩
      · exact Or.inl k1
      · obtain ⟨h1, h2, h3, h4, h5⟩ := k2 g (by rw [e]; rfl)
        refine Or.inr ⟨g, l, c, e, hl1, fun k hk => ?_⟩
        by_cases hlg : lv.ownBlock = some g
        · obtain ⟨h6, l', c', e', hl'⟩ := h5 hlg
          rw [e] at e'
          simp only [Value.slice.injEq, true_and] at e'
          rcases key with ⟨e2, _⟩ | ⟨e2, hg2⟩
          · have : g6 = g := by rw [hlg] at e2; exact (Option.some.inj e2).symm
            subst this
            rw [hrow.cellAt k (by omega), h6, List.getElem?_replicate, if_pos (by omega)]
          · have hw : w.grownBy w6 none := grown_trans (grown_alloc (grown_refl _ _)) hg2
            rw [World.cell?_of_block (hw.block g h4 (by simp))]; exact hc k hk
        · rw [World.cell?_of_block (hsame g h4 hlg)]; exact hc k hk
    · obtain ⟨h1, h2, h3, h4, h5⟩ := k2 g e
      refine ⟨h1, h2, h3, by omega, fun e2 => ?_⟩
      simp only [Value.ownBlock, Option.some.injEq] at e2
      by_cases hlg : lv.ownBlock = some g
      · obtain ⟨h6, l', c', e', hl'⟩ := h5 hlg
        exact ⟨h6, l', c', e', by omega⟩
      · exact absurd e2 (hne g h4 hlg)
  · exact base_row s.base s.wb hg hr (owns_block s.lrow)
end

end Go.Proofs.YtklenjmfalljgaaDoor
