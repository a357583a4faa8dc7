/- What the machine does, as plain functions on lists and numbers (no dump is named here). -/
import Derived.RowKit
namespace Go.Proofs.YtklenjmfalljgaaDoor
open Go.RowKit (wrap64)

structure Ins where
  op : Int
  a : Int
  b : Int
  n : Int

structure St where
  vars : Nat → Int
  held : Nat → Bool
  own : Nat → Int
  regs : Nat → Nat → Int
  next : Nat → Int

def St.zero : St := ⟨fun _ => 0, fun _ => false, fun _ => 0, fun _ _ => 0, fun _ => 0⟩
def St.setReg (s : St) (t r : Nat) (v : Int) : St := ⟨s.vars, s.held, s.own, fun t' r' => if t' = t ∧ r' = r then v else s.regs t' r', s.next⟩
def St.setVar (s : St) (x : Nat) (v : Int) : St := ⟨fun x' => if x' = x then v else s.vars x', s.held, s.own, s.regs, s.next⟩
def St.setNext (s : St) (t : Nat) (v : Int) : St := ⟨s.vars, s.held, s.own, s.regs, fun t' => if t' = t then v else s.next t'⟩
def St.setLock (s : St) (l : Nat) (h : Bool) (o : Int) : St := ⟨s.vars, fun l' => if l' = l then h else s.held l', fun l' => if l' = l then o else s.own l', s.regs, s.next⟩

/-- What an instruction of thread t does (its next one is set already). -/
def act (t : Nat) (i : Ins) (s : St) : Bool × St :=
  if i.op = 1 then (true, s.setReg t i.a.toNat i.n)
  else if i.op = 2 then (true, s.setReg t i.a.toNat (s.vars i.b.toNat))
  else if i.op = 3 then (true, s.setVar i.a.toNat (s.regs t i.b.toNat))
  else if i.op = 4 then (true, s.setReg t i.a.toNat (wrap64 (s.regs t i.a.toNat + s.regs t i.b.toNat)))
  else if i.op = 5 then (true, s.setReg t i.a.toNat (wrap64 (s.regs t i.a.toNat - s.regs t i.b.toNat)))
  else if i.op = 6 then (true, s.setReg t i.a.toNat (wrap64 (s.regs t i.a.toNat * s.regs t i.b.toNat)))
  else if i.op = 7 then (if s.regs t i.b.toNat = 0 then (false, s) else (true, s.setReg t i.a.toNat (wrap64 ((s.regs t i.a.toNat).tdiv (s.regs t i.b.toNat)))))
  else if i.op = 8 then (true, if s.regs t i.a.toNat = 0 then s.setNext t i.n else s)
  else if i.op = 9 then (true, s.setLock i.a.toNat true t)
  else if i.op = 10 then (if s.held i.a.toNat = true ∧ s.own i.a.toNat = t then (true, s.setLock i.a.toNat false 0) else (false, s))
  else (s.regs t i.a.toNat != 0, s)

def shp (op j : Nat) : Int :=
  ((([[0, 0, 0], [1, 0, 5], [1, 2, 0], [2, 1, 0], [1, 1, 0], [1, 1, 0], [1, 1, 0], [1, 1, 0], [1, 0, 4], [3, 0, 0], [3, 0, 0], [1, 0, 0]] : List (List Int))[op]?).getD [])[j]?.getD 0

def belowB (x n : Int) : Bool := decide (0 ≤ x) && decide (x < n)

def fitsB (k x len : Int) : Bool :=
  if k = 1 then belowB x 4 else if k = 2 then belowB x 4 else if k = 3 then belowB x 3 else if k = 4 then belowB x (len + 1) else if k = 5 then true else (x == 0)

def vIns (i : Ins) (len : Int) : Bool :=
  decide (1 ≤ i.op) && (decide (i.op ≤ 11) && (fitsB (shp i.op.toNat 0) i.a len && (fitsB (shp i.op.toNat 1) i.b len && fitsB (shp i.op.toNat 2) i.n len)))

def vCode (c : List Ins) : Bool := decide (c.length ≤ 16) && c.all fun i => vIns i c.length
def vProg (p : List (List Ins)) : Bool := decide (1 ≤ p.length) && (decide (p.length ≤ 4) && p.all vCode)

def codeOf (p : List (List Ins)) (t : Nat) : List Ins := (p[t]?).getD []
def insAt (p : List (List Ins)) (t : Nat) (k : Int) : Ins := ((codeOf p t)[k.toNat]?).getD ⟨0, 0, 0, 0⟩
def doneB (p : List (List Ins)) (s : St) (t : Nat) : Bool := s.next t == ((codeOf p t).length : Int)
def readyB (p : List (List Ins)) (s : St) (t : Nat) : Bool := !doneB p s t && (!((insAt p t (s.next t)).op == 9) || !s.held (insAt p t (s.next t)).a.toNat)
def stepS (p : List (List Ins)) (s : St) (t : Nat) : Bool × St := act t (insAt p t (s.next t)) (s.setNext t (s.next t + 1))
def endingS (p : List (List Ins)) (s : St) : Int :=
  if (List.range p.length).any (readyB p s) then 5 else if (List.range p.length).all (doneB p s) then 3 else 4

def okAt (p : List (List Ins)) (s : St) (t : Int) : Bool := belowB t p.length && readyB p s t.toNat

structure Out where
  steps : List (Int × Int)
  kind : Int
  thread : Int
  at_ : Int
  st : St

def follow (p : List (List Ins)) : List Int → Int → St → List (Int × Int) → Out
  | [], _, s, acc => ⟨acc, endingS p s, 0, 0, s⟩
  | t :: r, i, s, acc =>
    if okAt p s t = true then
      (if (stepS p s t.toNat).1 = true then follow p r (i + 1) (stepS p s t.toNat).2 (acc ++ [(t, s.next t.toNat)])
       else ⟨acc ++ [(t, s.next t.toNat)], 1, t, s.next t.toNat, (stepS p s t.toNat).2⟩)
    else ⟨acc, 2, 0, i, s⟩

def runS (p : List (List Ins)) (sch : List Int) : Out := follow p sch 0 St.zero []

/-- Where the threads' next instructions may be. -/
def Inv (p : List (List Ins)) (s : St) : Prop := ∀ t, t < p.length → 0 ≤ s.next t ∧ s.next t ≤ (codeOf p t).length

theorem Inv.zero (p : List (List Ins)) : Inv p St.zero := fun t _ => ⟨by simp [St.zero], by simp [St.zero]⟩

theorem vIns_op {i : Ins} {len : Int} (h : vIns i len = true) : 1 ≤ i.op ∧ i.op ≤ 11 := by
  simp only [vIns, Bool.and_eq_true, decide_eq_true_eq] at h; exact ⟨h.1, h.2.1⟩

theorem vIns_parts {i : Ins} {len : Int} (h : vIns i len = true) : fitsB (shp i.op.toNat 0) i.a len = true ∧ fitsB (shp i.op.toNat 1) i.b len = true ∧ fitsB (shp i.op.toNat 2) i.n len = true := by
  simp only [vIns, Bool.and_eq_true, decide_eq_true_eq] at h; exact h.2.2

/-- What a valid instruction's numbers are, by its Op. -/
theorem vIns_say {i : Ins} {len : Int} (h : vIns i len = true) :
    (i.op = 1 ∧ 0 ≤ i.a ∧ i.a < 4) ∨ (i.op = 2 ∧ 0 ≤ i.a ∧ i.a < 4 ∧ 0 ≤ i.b ∧ i.b < 4) ∨ (i.op = 3 ∧ 0 ≤ i.a ∧ i.a < 4 ∧ 0 ≤ i.b ∧ i.b < 4) ∨
    (i.op = 4 ∧ 0 ≤ i.a ∧ i.a < 4 ∧ 0 ≤ i.b ∧ i.b < 4) ∨ (i.op = 5 ∧ 0 ≤ i.a ∧ i.a < 4 ∧ 0 ≤ i.b ∧ i.b < 4) ∨ (i.op = 6 ∧ 0 ≤ i.a ∧ i.a < 4 ∧ 0 ≤ i.b ∧ i.b < 4) ∨
    (i.op = 7 ∧ 0 ≤ i.a ∧ i.a < 4 ∧ 0 ≤ i.b ∧ i.b < 4) ∨ (i.op = 8 ∧ 0 ≤ i.a ∧ i.a < 4 ∧ 0 ≤ i.n ∧ i.n < len + 1) ∨ (i.op = 9 ∧ 0 ≤ i.a ∧ i.a < 3) ∨ (i.op = 10 ∧ 0 ≤ i.a ∧ i.a < 3) ∨ (i.op = 11 ∧ 0 ≤ i.a ∧ i.a < 4) := by
  obtain ⟨h1, h2⟩ := vIns_op h
  obtain ⟨h3, h4, h5⟩ := vIns_parts h
  have hc : i.op = 1 ∨ i.op = 2 ∨ i.op = 3 ∨ i.op = 4 ∨ i.op = 5 ∨ i.op = 6 ∨ i.op = 7 ∨ i.op = 8 ∨ i.op = 9 ∨ i.op = 10 ∨ i.op = 11 := by omega
  rcases hc with e | e | e | e | e | e | e | e | e | e | e <;> rw [e] at h3 h4 h5 <;> simp [shp, fitsB, belowB] at h3 h4 h5 <;> simp [e] <;> omega

theorem act_next (t : Nat) (i : Ins) (s : St) (t' : Nat) : (act t i s).2.next t' = s.next t' ∨ (t' = t ∧ i.op = 8 ∧ (act t i s).2.next t' = i.n) := by
  by_cases h8 : i.op = 8
  · have e : act t i s = (true, if s.regs t i.a.toNat = 0 then s.setNext t i.n else s) := by simp [act, h8]
    rw [e]
    by_cases h0 : s.regs t i.a.toNat = 0
    · simp only [h0, if_true, St.setNext]
      by_cases ht : t' = t
      · right; simp [ht, h8]
      · left; simp [ht]
    · left; simp [h0]
  · left
    unfold act
    repeat' split
    all_goals first | rfl | (exfalso; exact h8 ‹_›)

theorem codeOf_get {p : List (List Ins)} {t : Nat} (h : t < p.length) : codeOf p t = p[t] := by simp [codeOf, h]

theorem vProg_code {p : List (List Ins)} (h : vProg p = true) {t : Nat} (ht : t < p.length) : vCode (codeOf p t) = true := by
  simp only [vProg, Bool.and_eq_true, List.all_eq_true] at h
  rw [codeOf_get ht]
  exact h.2.2 _ (List.getElem_mem ht)

theorem vProg_len {p : List (List Ins)} (h : vProg p = true) : 1 ≤ p.length ∧ p.length ≤ 4 := by
  simp only [vProg, Bool.and_eq_true, decide_eq_true_eq] at h; exact ⟨h.1, h.2.1⟩

theorem vCode_len {c : List Ins} (h : vCode c = true) : c.length ≤ 16 := by
  simp only [vCode, Bool.and_eq_true, decide_eq_true_eq] at h; exact h.1

theorem vCode_ins {c : List Ins} (h : vCode c = true) {k : Nat} (hk : k < c.length) : vIns c[k] c.length = true := by
  simp only [vCode, Bool.and_eq_true, List.all_eq_true] at h
  exact h.2 _ (List.getElem_mem hk)

theorem insAt_get {p : List (List Ins)} {t : Nat} {k : Int} (h : k.toNat < (codeOf p t).length) : insAt p t k = (codeOf p t)[k.toNat] := by simp [insAt, h]

theorem vProg_ins {p : List (List Ins)} (h : vProg p = true) {t : Nat} (ht : t < p.length) {k : Int} (hk : k.toNat < (codeOf p t).length) : vIns (insAt p t k) (codeOf p t).length = true := by
  rw [insAt_get hk]; exact vCode_ins (vProg_code h ht) hk

/-- A step that a ready thread takes keeps all threads' places. -/
theorem Inv.step {p : List (List Ins)} {s : St} (hp : vProg p = true) (h : Inv p s) {t : Nat} (ht : t < p.length) (hd : doneB p s t = false) : Inv p (stepS p s t).2 := by
  intro t' ht'
  have hn := h t ht
  have hn' := h t' ht'
  have hne : s.next t ≠ ((codeOf p t).length : Int) := by simpa [doneB] using hd
  have hk : (s.next t).toNat < (codeOf p t).length := by omega
  have hv := vProg_ins hp ht hk
  have hlen : ∀ t'', t'' = t → (codeOf p t'').length = (codeOf p t).length := fun t'' e => by rw [e]
  rcases act_next t (insAt p t (s.next t)) (s.setNext t (s.next t + 1)) t' with e | ⟨e1, e2, e3⟩
  · unfold stepS; rw [e]; simp only [St.setNext]
    split
    · rename_i e4; have := hlen t' e4; omega
    · exact hn'
  · unfold stepS; rw [e3]
    have := vIns_say hv
    have hl := hlen t' e1
    rcases this with h1 | h1 | h1 | h1 | h1 | h1 | h1 | h1 | h1 | h1 | h1 <;> omega

theorem follow_nil (p : List (List Ins)) (i : Int) (s : St) (acc : List (Int × Int)) : follow p [] i s acc = ⟨acc, endingS p s, 0, 0, s⟩ := rfl
theorem follow_wrong (p : List (List Ins)) (t : Int) (r : List Int) (i : Int) (s : St) (acc : List (Int × Int)) (h : okAt p s t = false) : follow p (t :: r) i s acc = ⟨acc, 2, 0, i, s⟩ := by simp [follow, h]
theorem follow_fail (p : List (List Ins)) (t : Int) (r : List Int) (i : Int) (s : St) (acc : List (Int × Int)) (h : okAt p s t = true) (h2 : (stepS p s t.toNat).1 = false) :
    follow p (t :: r) i s acc = ⟨acc ++ [(t, s.next t.toNat)], 1, t, s.next t.toNat, (stepS p s t.toNat).2⟩ := by simp [follow, h, h2]
theorem follow_go (p : List (List Ins)) (t : Int) (r : List Int) (i : Int) (s : St) (acc : List (Int × Int)) (h : okAt p s t = true) (h2 : (stepS p s t.toNat).1 = true) :
    follow p (t :: r) i s acc = follow p r (i + 1) (stepS p s t.toNat).2 (acc ++ [(t, s.next t.toNat)]) := by simp [follow, h, h2]

end Go.Proofs.YtklenjmfalljgaaDoor
