/- Threads that add under a lock, and without. -/
import Derived.Test.YtklenjmfalljgaaDoorPureC
namespace Go.Proofs.YtklenjmfalljgaaDoor
open Go.RowKit (wrap64)

def sumN (f : Nat → Int) : Nat → Int
  | 0 => 0
  | n + 1 => sumN f n + f n

theorem sumN_congr {f g : Nat → Int} : ∀ {n : Nat}, (∀ j, j < n → g j = f j) → sumN g n = sumN f n
  | 0, _ => rfl
  | n + 1, h => by
    have h1 := sumN_congr (n := n) (fun j hj => h j (by omega))
    have h2 := h n (by omega)
    simp only [sumN, h1, h2]
theorem sumN_upd {f g : Nat → Int} {t : Nat} : ∀ {n : Nat}, t < n → (∀ j, j < n → j ≠ t → g j = f j) → sumN g n = sumN f n + (g t - f t)
  | 0, h, _ => by omega
  | n + 1, h, hg => by
    simp only [sumN]
    by_cases e : t = n
    · subst e
      have := sumN_congr (f := f) (g := g) (n := t) (fun j hj => hg j (by omega) (by omega))
      omega
    · have h1 := sumN_upd (n := n) (by omega) (fun j hj hne => hg j (by omega) hne)
      have h2 := hg n (by omega) (by omega)
      omega
theorem sumN_le {f : Nat → Int} {b : Int} : ∀ {n : Nat}, (∀ j, j < n → 0 ≤ f j ∧ f j ≤ b) → 0 ≤ sumN f n ∧ sumN f n ≤ n * b
  | 0, _ => by simp [sumN]
  | n + 1, h => by
    have h1 := sumN_le (n := n) (fun j hj => h j (by omega))
    have h2 := h n (by omega)
    have e : ((n + 1 : Nat) : Int) * b = n * b + b := by rw [Int.natCast_add, Int.add_mul]; simp
    simp only [sumN]
    omega
theorem sumN_mono {f g : Nat → Int} : ∀ {n : Nat}, (∀ j, j < n → f j ≤ g j) → sumN f n ≤ sumN g n
  | 0, _ => Int.le_refl _
  | n + 1, h => by
    have h1 := sumN_mono (n := n) (fun j hj => h j (by omega))
    have h2 := h n (by omega)
    simp only [sumN]
    omega

def addC (m : Int) : List Ins := [⟨2, 2, 3, 0⟩, ⟨1, 1, 0, m⟩, ⟨4, 2, 1, 0⟩, ⟨3, 3, 2, 0⟩]
def halfC (k m : Int) : List Ins := [⟨9, k, 0, 0⟩] ++ addC m ++ [⟨10, k, 0, 0⟩]
def lockC (k m : Int) : List Ins := halfC k m ++ halfC k m

def crit (x : Int) : Prop := (1 ≤ x ∧ x ≤ 5) ∨ (7 ≤ x ∧ x ≤ 11)
def cnt (x : Int) : Int := (if 5 ≤ x then 1 else 0) + (if 11 ≤ x then 1 else 0)

/-- What holds all along, with the lock. -/
structure LInv (ms : Nat → Int) (n k : Nat) (s : St) : Prop where
  pc : ∀ t, t < n → 0 ≤ s.next t ∧ s.next t ≤ 12
  free : s.held k = false → ∀ t, t < n → ¬ crit (s.next t)
  hold : s.held k = true → ∃ h, h < n ∧ s.own k = (h : Int) ∧ crit (s.next h) ∧ ∀ t, t < n → t ≠ h → ¬ crit (s.next t)
  var : s.vars 3 = sumN (fun t => ms t * cnt (s.next t)) n
  r2 : ∀ t, t < n → (s.next t = 2 ∨ s.next t = 3 ∨ s.next t = 8 ∨ s.next t = 9) → s.regs t 2 = s.vars 3
  r1 : ∀ t, t < n → (s.next t = 3 ∨ s.next t = 9) → s.regs t 1 = ms t
  r3 : ∀ t, t < n → (s.next t = 4 ∨ s.next t = 10) → s.regs t 2 = s.vars 3 + ms t

theorem LInv.zero (ms : Nat → Int) (n k : Nat) : LInv ms n k St.zero := by
  refine ⟨fun t _ => ⟨Int.le_refl _, by simp [St.zero]⟩, fun _ t _ => by simp [St.zero, crit], fun h => by simp [St.zero] at h, ?_, fun t _ h => by simp [St.zero] at h, fun t _ h => by simp [St.zero] at h, fun t _ h => by simp [St.zero] at h⟩
  have : ∀ n, sumN (fun t => ms t * cnt (St.zero.next t)) n = 0 := fun n => by
    induction n with
    | zero => rfl
    | succ n ih => simp only [sumN, ih]; simp [St.zero, cnt]
  rw [this]; rfl

theorem lock_ins {p : List (List Ins)} {t k : Nat} {m e : Int} (hc : codeOf p t = lockC k m) (he : e = 0 ∨ e = 6) :
    insAt p t e = ⟨9, k, 0, 0⟩ ∧ insAt p t (e + 1) = ⟨2, 2, 3, 0⟩ ∧ insAt p t (e + 2) = ⟨1, 1, 0, m⟩ ∧ insAt p t (e + 3) = ⟨4, 2, 1, 0⟩ ∧ insAt p t (e + 4) = ⟨3, 3, 2, 0⟩ ∧ insAt p t (e + 5) = ⟨10, k, 0, 0⟩ := by
  rcases he with rfl | rfl <;> (unfold insAt; rw [hc]; exact ⟨rfl, rfl, rfl, rfl, rfl, rfl⟩)

theorem wrap64_small {x : Int} (h : -1000000 ≤ x ∧ x ≤ 1000000) : wrap64 x = x := by
  unfold wrap64
  omega

theorem lvar {ms : Nat → Int} {n t : Nat} {x y : Nat → Int} {c dl : Int} (ht : t < n) (hy : ∀ j, y j = if j = t then c else x j) (hc : cnt c = cnt (x t) + dl) :
    sumN (fun j => ms j * cnt (y j)) n = sumN (fun j => ms j * cnt (x j)) n + ms t * dl := by
  rw [sumN_upd (f := fun j => ms j * cnt (x j)) ht (fun j _ hne => by simp only [hy, if_neg hne])]
  simp only [hy, if_true, hc, Int.mul_add]
  omega

theorem lsum_range {ms : Nat → Int} {n k : Nat} {s : St} (hn : n ≤ 4) (hms : ∀ j, j < n → 0 ≤ ms j ∧ ms j ≤ 1000) (L : LInv ms n k s) : 0 ≤ s.vars 3 ∧ s.vars 3 ≤ 8000 := by
  rw [L.var]
  have h := sumN_le (f := fun t => ms t * cnt (s.next t)) (b := 2000) (n := n) (fun j hj => by
    have hm := hms j hj
    have hc : cnt (s.next j) = 0 ∨ cnt (s.next j) = 1 ∨ cnt (s.next j) = 2 := by unfold cnt; split <;> split <;> simp
    rcases hc with e | e | e <;> rw [e] <;> omega)
  omega

section
variable {p : List (List Ins)} {ms : Nat → Int} {n k : Nat} {s : St} {t : Nat}

theorem LInv.alone (L : LInv ms n k s) (ht : t < n) (hc : crit (s.next t)) : s.held k = true ∧ s.own k = (t : Int) ∧ ∀ j, j < n → j ≠ t → ¬ crit (s.next j) := by
  cases hh : s.held k with
  | false => exact absurd hc (L.free hh t ht)
  | true =>
    obtain ⟨h, h1, h2, _, h4⟩ := L.hold hh
    by_cases e : t = h
    · subst e; exact ⟨rfl, h2, h4⟩
    · exact absurd hc (h4 t ht e)

theorem lstep (hn : n ≤ 4) (hms : ∀ j, j < n → 0 ≤ ms j ∧ ms j ≤ 1000) (L : LInv ms n k s) (ht : t < n) (hc : codeOf p t = lockC k (ms t)) (hr : readyB p s t = true) :
    (stepS p s t).1 = true ∧ LInv ms n k (stepS p s t).2 ∧ ∀ j, (stepS p s t).2.next j = if j = t then s.next t + 1 else s.next j := by
  have hb := lsum_range hn hms L
  have hmt := hms t ht
  have hl : (codeOf p t).length = 12 := by rw [hc]; rfl
  have hpc := L.pc t ht
  simp only [readyB, doneB, hl, Bool.and_eq_true, Bool.not_eq_true', beq_eq_false_iff_ne, ne_eq] at hr
  obtain ⟨hd, hlk⟩ := hr
  have hcase : ∃ e, (e = 0 ∨ e = 6) ∧ (s.next t = e ∨ s.next t = e + 1 ∨ s.next t = e + 2 ∨ s.next t = e + 3 ∨ s.next t = e + 4 ∨ s.next t = e + 5) := by
    by_cases h6 : s.next t < 6
    · exact ⟨0, Or.inl rfl, by omega⟩
    · exact ⟨6, Or.inr rfl, by omega⟩
  obtain ⟨e, he, hi⟩ := hcase
  obtain ⟨c0, c1, c2, c3, c4, c5⟩ := lock_ins hc he
  rcases hi with hi | hi | hi | hi | hi | hi
  · -- it takes the lock
    rw [hi, c0] at hlk
    have hf : s.held k = false := by simpa using hlk
    have hs : stepS p s t = (true, (s.setNext t (s.next t + 1)).setLock k true t) := by unfold stepS; rw [hi, c0]; simp [act]
    rw [hs]
    refine ⟨rfl, ⟨fun j hj => ?_, fun h => ?_, fun _ => ⟨t, ht, ?_, ?_, fun j hj hne => ?_⟩, ?_, fun j hj h => ?_, fun j hj h => ?_, fun j hj h => ?_⟩, fun j => rfl⟩
    · have := L.pc j hj; simp only [St.setLock, St.setNext]; split <;> omega
    · simp [St.setLock] at h
    · simp [St.setLock]
    · simp only [St.setLock, St.setNext, if_true, crit]; omega
    · have := L.free hf j hj; simp only [St.setLock, St.setNext, if_neg hne]; exact this
    · have := lvar (ms := ms) (n := n) (x := s.next) (y := ((s.setNext t (s.next t + 1)).setLock k true t).next) (c := s.next t + 1) (dl := 0) ht (fun j => rfl) (by rw [hi]; rcases he with rfl | rfl <;> rfl)
      rw [this]; simp only [St.setLock, St.setNext]; have := L.var; omega
    all_goals
      have g1 := L.r2 j hj; have g2 := L.r1 j hj; have g3 := L.r3 j hj
      simp only [St.setLock, St.setNext] at h ⊢
      split at h <;> omega
  · -- it loads
    obtain ⟨al1, al2, al3⟩ := L.alone ht (by simp only [crit]; omega)
    have hs : stepS p s t = (true, (s.setNext t (s.next t + 1)).setReg t 2 (s.vars 3)) := by unfold stepS; rw [hi, c1]; simp [act, St.setNext]
    rw [hs]
    refine ⟨rfl, ⟨fun j hj => ?_, fun h => ?_, fun _ => ⟨t, ht, al2, ?_, fun j hj hne => ?_⟩, ?_, fun j hj h => ?_, fun j hj h => ?_, fun j hj h => ?_⟩, fun j => rfl⟩
    · have := L.pc j hj; simp only [St.setReg, St.setNext]; split <;> omega
    · simp only [St.setReg, St.setNext] at h; rw [al1] at h; cases h
    · simp only [St.setReg, St.setNext, if_true, crit]; omega
    · have := al3 j hj hne; simp only [St.setReg, St.setNext, if_neg hne]; exact this
    · have := lvar (ms := ms) (n := n) (x := s.next) (y := ((s.setNext t (s.next t + 1)).setReg t 2 (s.vars 3)).next) (c := s.next t + 1) (dl := 0) ht (fun j => rfl) (by rw [hi]; rcases he with rfl | rfl <;> rfl)
      rw [this]; simp only [St.setReg, St.setNext]; have := L.var; omega
    all_goals
      simp only [St.setReg, St.setNext] at h ⊢
      by_cases ej : j = t
      · simp only [ej, if_true] at h ⊢; first | omega | (simp; done) | (simp; omega)
      · have := al3 j hj ej; simp only [crit] at this; simp only [if_neg ej] at h; omega
  · -- it sets
    obtain ⟨al1, al2, al3⟩ := L.alone ht (by simp only [crit]; omega)
    have g1 := L.r2 t ht
    have hs : stepS p s t = (true, (s.setNext t (s.next t + 1)).setReg t 1 (ms t)) := by unfold stepS; rw [hi, c2]; simp [act]
    rw [hs]
    refine ⟨rfl, ⟨fun j hj => ?_, fun h => ?_, fun _ => ⟨t, ht, al2, ?_, fun j hj hne => ?_⟩, ?_, fun j hj h => ?_, fun j hj h => ?_, fun j hj h => ?_⟩, fun j => rfl⟩
    · have := L.pc j hj; simp only [St.setReg, St.setNext]; split <;> omega
    · simp only [St.setReg, St.setNext] at h; rw [al1] at h; cases h
    · simp only [St.setReg, St.setNext, if_true, crit]; omega
    · have := al3 j hj hne; simp only [St.setReg, St.setNext, if_neg hne]; exact this
    · have := lvar (ms := ms) (n := n) (x := s.next) (y := ((s.setNext t (s.next t + 1)).setReg t 1 (ms t)).next) (c := s.next t + 1) (dl := 0) ht (fun j => rfl) (by rw [hi]; rcases he with rfl | rfl <;> rfl)
      rw [this]; simp only [St.setReg, St.setNext]; have := L.var; omega
    all_goals
      simp only [St.setReg, St.setNext] at h ⊢
      by_cases ej : j = t
      · simp only [ej, if_true] at h ⊢; first | omega | (simp; done) | (simp; omega)
      · have := al3 j hj ej; simp only [crit] at this; simp only [if_neg ej] at h; omega
  · -- it adds
    obtain ⟨al1, al2, al3⟩ := L.alone ht (by simp only [crit]; omega)
    have g1 := L.r2 t ht (by omega)
    have g2 := L.r1 t ht (by omega)
    have hw := wrap64_small (x := s.vars 3 + ms t) (by omega)
    have hs : stepS p s t = (true, (s.setNext t (s.next t + 1)).setReg t 2 (s.vars 3 + ms t)) := by unfold stepS; rw [hi, c3]; simp [act, St.setNext, g1, g2, hw]
    rw [hs]
    refine ⟨rfl, ⟨fun j hj => ?_, fun h => ?_, fun _ => ⟨t, ht, al2, ?_, fun j hj hne => ?_⟩, ?_, fun j hj h => ?_, fun j hj h => ?_, fun j hj h => ?_⟩, fun j => rfl⟩
    · have := L.pc j hj; simp only [St.setReg, St.setNext]; split <;> omega
    · simp only [St.setReg, St.setNext] at h; rw [al1] at h; cases h
    · simp only [St.setReg, St.setNext, if_true, crit]; omega
    · have := al3 j hj hne; simp only [St.setReg, St.setNext, if_neg hne]; exact this
    · have := lvar (ms := ms) (n := n) (x := s.next) (y := ((s.setNext t (s.next t + 1)).setReg t 2 (s.vars 3 + ms t)).next) (c := s.next t + 1) (dl := 0) ht (fun j => rfl) (by rw [hi]; rcases he with rfl | rfl <;> rfl)
      rw [this]; simp only [St.setReg, St.setNext]; have := L.var; omega
    all_goals
      simp only [St.setReg, St.setNext] at h ⊢
      by_cases ej : j = t
      · simp only [ej, if_true] at h ⊢; first | omega | (simp; done) | (simp; omega)
      · have := al3 j hj ej; simp only [crit] at this; simp only [if_neg ej] at h; omega
  · -- it stores
    obtain ⟨al1, al2, al3⟩ := L.alone ht (by simp only [crit]; omega)
    have g1 := L.r3 t ht (by omega)
    have hs : stepS p s t = (true, (s.setNext t (s.next t + 1)).setVar 3 (s.vars 3 + ms t)) := by unfold stepS; rw [hi, c4]; simp [act, St.setNext, g1]
    rw [hs]
    refine ⟨rfl, ⟨fun j hj => ?_, fun h => ?_, fun _ => ⟨t, ht, al2, ?_, fun j hj hne => ?_⟩, ?_, fun j hj h => ?_, fun j hj h => ?_, fun j hj h => ?_⟩, fun j => rfl⟩
    · have := L.pc j hj; simp only [St.setVar, St.setNext]; split <;> omega
    · simp only [St.setVar, St.setNext] at h; rw [al1] at h; cases h
    · simp only [St.setVar, St.setNext, if_true, crit]; omega
    · have := al3 j hj hne; simp only [St.setVar, St.setNext, if_neg hne]; exact this
    · have := lvar (ms := ms) (n := n) (x := s.next) (y := ((s.setNext t (s.next t + 1)).setVar 3 (s.vars 3 + ms t)).next) (c := s.next t + 1) (dl := 1) ht (fun j => rfl) (by rw [hi]; rcases he with rfl | rfl <;> rfl)
      rw [this]; simp only [St.setVar, St.setNext, if_true]; have := L.var; omega
    all_goals
      simp only [St.setVar, St.setNext] at h ⊢
      by_cases ej : j = t
      · simp only [ej, if_true] at h; omega
      · have := al3 j hj ej; simp only [crit] at this; simp only [if_neg ej] at h; omega
  · -- it gives the lock back
    obtain ⟨al1, al2, al3⟩ := L.alone ht (by simp only [crit]; omega)
    have hs : stepS p s t = (true, (s.setNext t (s.next t + 1)).setLock k false 0) := by unfold stepS; rw [hi, c5]; simp [act, St.setNext, al1, al2]
    rw [hs]
    refine ⟨rfl, ⟨fun j hj => ?_, fun _ j hj => ?_, fun h => ?_, ?_, fun j hj h => ?_, fun j hj h => ?_, fun j hj h => ?_⟩, fun j => rfl⟩
    · have := L.pc j hj; simp only [St.setLock, St.setNext]; split <;> omega
    · simp only [St.setLock, St.setNext]
      by_cases ej : j = t
      · simp only [ej, if_true, crit]; omega
      · simp only [if_neg ej]; exact al3 j hj ej
    · simp [St.setLock] at h
    · have := lvar (ms := ms) (n := n) (x := s.next) (y := ((s.setNext t (s.next t + 1)).setLock k false 0).next) (c := s.next t + 1) (dl := 0) ht (fun j => rfl) (by rw [hi]; rcases he with rfl | rfl <;> rfl)
      rw [this]; simp only [St.setLock, St.setNext]; have := L.var; omega
    all_goals
      simp only [St.setLock, St.setNext] at h ⊢
      by_cases ej : j = t
      · simp only [ej, if_true] at h; omega
      · have := al3 j hj ej; simp only [crit] at this; simp only [if_neg ej] at h; omega
end

end Go.Proofs.YtklenjmfalljgaaDoor
