/- Texts of schedules, as plain functions on lists of bytes (no dump is named here): the program's way, the reference's way. -/
import Derived.RowKit
namespace Go.Proofs.YthgeiolabecikaaDoor

def isD (b : Nat) : Bool := decide (48 ≤ b) && decide (b ≤ 57)
def nxt (n : Int) (b : Nat) : Int := max n 0 * 10 + ((b : Int) - 48)
def beginsB (m : Int) : Bool := decide (0 < m) && decide (10 * m < 63)
def growsB (n d last : Int) : Bool :=
  !(n == 0) && ((decide (max n 0 * 10 + d ≤ 63) && !(max n 0 * 10 + d == last)) || beginsB (max n 0 * 10 + d))

def thr (last : Int) : Int → List Nat → Int × Nat
  | n, [] => (n, 0)
  | n, b :: r => if (isD b && growsB n ((b : Int) - 48) last) = true then ((thr last (nxt n b) r).1, (thr last (nxt n b) r).2 + 1) else (n, 0)

def cnt : Int → List Nat → Int × Nat
  | n, [] => (n, 0)
  | n, b :: r => if (isD b && !(n == 0 && b == 48)) = true then ((cnt (min (10 * n + ((b : Int) - 48)) 501) r).1, (cnt (min (10 * n + ((b : Int) - 48)) 501) r).2 + 1) else (n, 0)

structure RunP where
  thread : Int
  count : Int
  ok : Bool
  len : Nat

def thrOk (last n : Int) : Bool := !(n == -1) && !(n == last)

def runP (last : Int) (l : List Nat) : RunP :=
  if (thrOk last (thr last (-1) l).1 && (l[(thr last (-1) l).2]? == some 42)) = true then
    ⟨(thr last (-1) l).1, (cnt 0 (l.drop ((thr last (-1) l).2 + 1))).1, decide (1 < (cnt 0 (l.drop ((thr last (-1) l).2 + 1))).1), (thr last (-1) l).2 + 1 + (cnt 0 (l.drop ((thr last (-1) l).2 + 1))).2⟩
  else ⟨(thr last (-1) l).1, 1, thrOk last (thr last (-1) l).1, (thr last (-1) l).2⟩

structure ParP where
  out : List Int
  at_ : Nat
  ok : Bool

def addRun (sch : List Int) (total' count thread : Int) : List Int := if total' < 501 then sch ++ List.replicate count.toNat thread else sch

def loopP : Nat → List Int → Int → Int → Nat → List Nat → ParP
  | 0, _, _, _, _, _ => ⟨[], 0, false⟩
  | f + 1, sch, last, total, at_, l =>
    if (runP last l).ok = true then
      match l.drop (runP last l).len with
      | [] => if min (total + (runP last l).count) 501 = 501 then ⟨[], 0, false⟩ else ⟨addRun sch (min (total + (runP last l).count) 501) (runP last l).count (runP last l).thread, 0, true⟩
      | b :: rest => if b = 32 then loopP f (addRun sch (min (total + (runP last l).count) 501) (runP last l).count (runP last l).thread) (runP last l).thread (min (total + (runP last l).count) 501) (at_ + (runP last l).len + 1) rest
          else ⟨[], at_ + (runP last l).len, false⟩
    else ⟨[], at_ + (runP last l).len, false⟩

def parseP (l : List Nat) : ParP := if l = [] then ⟨[], 0, true⟩ else loopP (l.length + 1) [] (-1) 0 0 l

/- The reference's way. -/
def partsR : List Nat → List (List Nat)
  | [] => [[]]
  | b :: r => if b = 32 then [] :: partsR r else (b :: (partsR r).headD []) :: (partsR r).tail

def halfA (l : List Nat) : List Nat := l.takeWhile (· != 42)
def halfB (l : List Nat) : List Nat := (l.dropWhile (· != 42)).drop 1
def starR (l : List Nat) : Bool := l.any (· == 42)
def plainR (l : List Nat) : Bool := l.all isD && ((l == [48]) || (!(l == []) && !(l.head? == some 48)))
def valueR : Int → List Nat → Int
  | n, [] => min n 1000
  | n, b :: r => if n < 1000 then valueR (10 * n + (((b + 208) % 256 : Nat) : Int)) r else min n 1000

def runR (l : List Nat) (ahead : Int) : Option (Int × Int) :=
  if (!plainR (halfA l) || decide (63 < valueR 0 (halfA l)) || (valueR 0 (halfA l) == ahead)) = true then none
  else if (starR l && (!plainR (halfB l) || decide (valueR 0 (halfB l) < 2))) = true then none
  else if starR l = true then some (valueR 0 (halfA l), valueR 0 (halfB l)) else some (valueR 0 (halfA l), 1)

def beginsR (l : List Nat) (ahead : Int) : Bool :=
  if l = [] then true
  else if (!plainR (halfA l) || decide (63 < valueR 0 (halfA l))) = true then false
  else if starR l = true then !(valueR 0 (halfA l) == ahead) && ((halfB l == []) || (plainR (halfB l) && !(halfB l == [48])))
  else !(valueR 0 (halfA l) == ahead) || (decide (1 ≤ valueR 0 (halfA l)) && decide (valueR 0 (halfA l) ≤ 6))

def fillR (out : List Int) (t n : Int) : List Int := out ++ List.replicate (min n.toNat (501 - out.length)) t

def wholeR : List (List Nat) → Int → List Int → Option (List Int × Int)
  | [], ahead, out => some (out, ahead)
  | q :: qs, ahead, out => match runR q ahead with
    | none => none
    | some (t, n) => wholeR qs t (fillR out t n)

def viable (ahead : Int) (l : List Nat) : Bool :=
  match wholeR (partsR l).dropLast ahead [] with
  | none => false
  | some (_, a) => beginsR ((partsR l).getLastD []) a

def searchR (l : List Nat) : Nat → Nat
  | 0 => 0
  | k + 1 => if viable (-1) (l.take (k + 1)) = true then k + 1 else searchR l k

def parseR (l : List Nat) : ParP :=
  if l = [] then ⟨[], 0, true⟩
  else match wholeR (partsR l) (-1) [] with
    | some (o, _) => if 500 < o.length then ⟨[], 0, false⟩ else ⟨o, 0, true⟩
    | none => ⟨[], searchR l l.length, false⟩

/- Counts. -/
theorem cnt_len (n : Int) (l : List Nat) : (cnt n l).2 ≤ l.length := by
  induction l generalizing n with
  | nil => simp [cnt]
  | cons b r ih => unfold cnt; split
                   · simpa using ih _
                   · simp

theorem cnt_digits (n : Int) (hn : 0 < n) (l : List Nat) (k : Nat) (hk : k ≤ l.length) : (l.take k).all isD = decide (k ≤ (cnt n l).2) := by
  induction l generalizing n k with
  | nil => simp at hk; subst hk; simp [cnt]
  | cons b r ih =>
    cases k with
    | zero => simp
    | succ k =>
      unfold cnt
      cases hd : isD b
      · simp [hd]
      · have h0 : (n == 0) = false := by simp; omega
        simp only [List.take_succ_cons, List.all_cons, hd, Bool.true_and, h0, Bool.false_and, Bool.not_false, if_true]
        have hb : 48 ≤ b ∧ b ≤ 57 := by simpa [isD] using hd
        rw [ih (min (10 * n + ((b : Int) - 48)) 501) (by omega) k (by simpa using hk)]
        simp

theorem cnt_value (n m : Int) (hn : 0 < n) (hm : n = min m 501) (l : List Nat) (h : l.all isD = true) : (cnt n l).1 = min (valueR m l) 501 := by
  induction l generalizing n m with
  | nil => simp [cnt, valueR]; omega
  | cons b r ih =>
    simp only [List.all_cons, Bool.and_eq_true] at h
    have hb : 48 ≤ b ∧ b ≤ 57 := by simpa [isD] using h.1
    unfold cnt valueR
    have h0 : (n == 0) = false := by simp; omega
    simp only [h.1, h0, Bool.true_and, Bool.false_and, Bool.not_false, if_true]
    have e : (((b + 208) % 256 : Nat) : Int) = (b : Int) - 48 := by omega
    rw [e]
    split
    · exact ih _ _ (by omega) (by omega) h.2
    · have : ∀ (x : Int) (l : List Nat), x = 501 → l.all isD = true → (cnt x l).1 = 501 := by
        intro x l hx hl
        induction l generalizing x with
        | nil => simp [cnt, hx]
        | cons c s ih2 =>
          simp only [List.all_cons, Bool.and_eq_true] at hl
          have hc : 48 ≤ c ∧ c ≤ 57 := by simpa [isD] using hl.1
          unfold cnt
          have h0 : (x == 0) = false := by simp; omega
          simp only [hl.1, h0, Bool.true_and, Bool.false_and, Bool.not_false, if_true]
          exact ih2 _ (by omega) hl.2
      rw [this _ r (by omega) h.2]; omega

/-- The digits behind a star: how many are read. -/
theorem cnt_begins (l : List Nat) (k : Nat) (hk : k ≤ l.length) : ((l.take k == []) || (plainR (l.take k) && !(l.take k == [48]))) = decide (k ≤ (cnt 0 l).2) := by
  cases l with
  | nil => simp at hk; subst hk; simp [cnt]
  | cons b r =>
    cases k with
    | zero => simp
    | succ k =>
      unfold cnt plainR
      cases hd : isD b
      · simp [hd]
      · have hb : 48 ≤ b ∧ b ≤ 57 := by simpa [isD] using hd
        by_cases h48 : b = 48
        · subst h48
          simp [hd]
        · have e1 : ((b :: r.take k) == [48]) = false := by
            cases r.take k <;> simp [h48]
          have e2 : (b == 48) = false := by simpa using h48
          simp only [List.take_succ_cons, List.all_cons, hd, Bool.true_and, e1, Bool.false_or, List.head?_cons, e2, Bool.and_false, Bool.not_false, if_true, Bool.and_true]
          rw [cnt_digits (min (10 * 0 + ((b : Int) - 48)) 501) (by omega) r k (by simpa using hk)]
          have e3 : (some b == some 48) = false := by simpa using h48
          simp [h48]

theorem cnt_whole (l : List Nat) (h : (cnt 0 l).2 = l.length) : (cnt 0 l).1 = min (valueR 0 l) 501 := by
  cases l with
  | nil => simp [cnt, valueR]; omega
  | cons b r =>
    unfold cnt at h ⊢
    split at h
    · rename_i hc
      simp only [hc, if_true]
      simp only [Bool.and_eq_true, Bool.not_eq_true'] at hc
      have hb : 48 ≤ b ∧ b ≤ 57 := by simpa [isD] using hc.1
      have h48 : b ≠ 48 := by
        intro e; have := hc.2; simp [e] at this
      unfold valueR
      simp only [show (0 : Int) < 1000 by decide, if_true]
      have e : (((b + 208) % 256 : Nat) : Int) = (b : Int) - 48 := by omega
      rw [e]
      have hlen : (cnt (min (10 * 0 + ((b : Int) - 48)) 501) r).2 = r.length := by simpa using h
      refine cnt_value _ _ (by omega) (by omega) r ?_
      have := cnt_digits (min (10 * 0 + ((b : Int) - 48)) 501) (by omega) r r.length (Nat.le_refl _)
      rw [List.take_length, hlen] at this
      simpa using this
    · simp at h

/- Threads' numbers: two digits at most. -/
theorem thr_closed (last : Int) (l : List Nat) : thr last (-1) l = match l with
    | [] => (-1, 0)
    | b :: r => if isD b = true ∧ (((b : Int) - 48 ≠ last) ∨ (49 ≤ b ∧ b ≤ 54)) then
        (match r with
        | [] => ((b : Int) - 48, 1)
        | c :: _ => if isD c = true ∧ b ≠ 48 ∧ ((b : Int) - 48) * 10 + ((c : Int) - 48) ≤ 63 ∧ ((b : Int) - 48) * 10 + ((c : Int) - 48) ≠ last then (((b : Int) - 48) * 10 + ((c : Int) - 48), 2) else ((b : Int) - 48, 1))
      else (-1, 0) := by
  have stop : ∀ (n : Int) (r : List Nat), 10 ≤ n → thr last n r = (n, 0) := by
    intro n r hn
    cases r with
    | nil => rfl
    | cons c s =>
      unfold thr
      rw [if_neg]
      simp only [isD, growsB, beginsB, Bool.and_eq_true, Bool.or_eq_true, decide_eq_true_eq, Bool.not_eq_true', beq_eq_false_iff_ne]
      omega
  have second : ∀ (b : Nat) (r : List Nat), 48 ≤ b → b ≤ 57 → thr last ((b : Int) - 48) r = match r with
      | [] => ((b : Int) - 48, 0)
      | c :: _ => if isD c = true ∧ b ≠ 48 ∧ ((b : Int) - 48) * 10 + ((c : Int) - 48) ≤ 63 ∧ ((b : Int) - 48) * 10 + ((c : Int) - 48) ≠ last then (((b : Int) - 48) * 10 + ((c : Int) - 48), 1) else ((b : Int) - 48, 0) := by
    intro b r h1 h2
    cases r with
    | nil => rfl
    | cons c s =>
      unfold thr
      simp only
      by_cases hc : isD c = true ∧ b ≠ 48 ∧ ((b : Int) - 48) * 10 + ((c : Int) - 48) ≤ 63 ∧ ((b : Int) - 48) * 10 + ((c : Int) - 48) ≠ last
      · have hd : 48 ≤ c ∧ c ≤ 57 := by simpa [isD] using hc.1
        rw [if_pos hc, if_pos]
        · have e : nxt ((b : Int) - 48) c = ((b : Int) - 48) * 10 + ((c : Int) - 48) := by unfold nxt; rw [Int.max_eq_left (by omega)]
          rw [e, stop _ s (by omega)]
        · simp only [growsB, beginsB, hc.1, Bool.true_and, Bool.and_eq_true, Bool.or_eq_true, decide_eq_true_eq, Bool.not_eq_true', beq_eq_false_iff_ne]
          rw [Int.max_eq_left (by omega)]
          omega
      · rw [if_neg hc, if_neg]
        intro h
        apply hc
        simp only [growsB, beginsB, Bool.and_eq_true, Bool.or_eq_true, decide_eq_true_eq, Bool.not_eq_true', beq_eq_false_iff_ne] at h
        rw [Int.max_eq_left (by omega)] at h
        obtain ⟨ha, hb, hcc⟩ := h
        have hd : 48 ≤ c ∧ c ≤ 57 := by simpa [isD] using ha
        exact ⟨ha, by omega, by omega, by omega⟩
  cases l with
  | nil => rfl
  | cons b r =>
    unfold thr
    simp only
    by_cases hb : isD b = true ∧ (((b : Int) - 48 ≠ last) ∨ (49 ≤ b ∧ b ≤ 54))
    · have hd : 48 ≤ b ∧ b ≤ 57 := by simpa [isD] using hb.1
      rw [if_pos hb, if_pos]
      · have e : nxt (-1) b = (b : Int) - 48 := by unfold nxt; rw [Int.max_eq_right (by omega)]; omega
        rw [e, second b r hd.1 hd.2]
        cases r with
        | nil => rfl
        | cons c s => simp only; split <;> rfl
      · simp only [growsB, beginsB, hb.1, Bool.true_and, Bool.and_eq_true, Bool.or_eq_true, decide_eq_true_eq, Bool.not_eq_true', beq_eq_false_iff_ne]
        rw [Int.max_eq_right (by omega)]
        omega
    · rw [if_neg hb, if_neg]
      intro h
      apply hb
      simp only [growsB, beginsB, Bool.and_eq_true, Bool.or_eq_true, decide_eq_true_eq, Bool.not_eq_true', beq_eq_false_iff_ne] at h
      rw [Int.max_eq_right (by omega)] at h
      obtain ⟨ha, hc, hcc⟩ := h
      exact ⟨ha, by omega⟩

theorem value_d {b : Nat} (h : isD b = true) {n : Int} (hn : n < 1000) (r : List Nat) : valueR n (b :: r) = valueR (10 * n + ((b : Int) - 48)) r := by
  have hb' : 48 ≤ b ∧ b ≤ 57 := by simpa [isD] using h
  have e1 : (((b + 208) % 256 : Nat) : Int) = (b : Int) - 48 := by omega
  rw [valueR, if_pos hn, e1]
theorem value_nil (n : Int) : valueR n [] = min n 1000 := rfl

theorem value_one {b : Nat} (h : isD b = true) : valueR 0 [b] = (b : Int) - 48 := by
  have hb' : 48 ≤ b ∧ b ≤ 57 := by simpa [isD] using h
  rw [value_d h (by omega), value_nil]; omega
theorem value_two {b c : Nat} (h : isD b = true) (h2 : isD c = true) : valueR 0 [b, c] = ((b : Int) - 48) * 10 + ((c : Int) - 48) := by
  have hb' : 48 ≤ b ∧ b ≤ 57 := by simpa [isD] using h
  have hc' : 48 ≤ c ∧ c ≤ 57 := by simpa [isD] using h2
  rw [value_d h (by omega), value_d h2 (by omega), value_nil]; omega

theorem value_big (n : Int) (hn : 64 ≤ n) (l : List Nat) : 63 < valueR n l := by
  induction l generalizing n with
  | nil => unfold valueR; omega
  | cons b r ih =>
    unfold valueR; split
    · exact ih _ (by omega)
    · omega

/-- What stands ahead of a star, if it is a thread's number: one digit or two. -/
theorem ahead_forms (a : List Nat) : (plainR a = true ∧ valueR 0 a ≤ 63) ↔
    (∃ b, a = [b] ∧ isD b = true) ∨ (∃ b c, a = [b, c] ∧ isD b = true ∧ isD c = true ∧ b ≠ 48 ∧ ((b : Int) - 48) * 10 + ((c : Int) - 48) ≤ 63) := by
  constructor
  · rintro ⟨h1, h2⟩
    rcases a with _ | ⟨b, _ | ⟨c, _ | ⟨d, r⟩⟩⟩
    · simp [plainR] at h1
    · left; exact ⟨b, rfl, by simpa [plainR] using h1⟩
    · right
      simp [plainR] at h1
      obtain ⟨⟨hb, hc⟩, h48⟩ := h1
      rw [value_two hb hc] at h2
      exact ⟨b, c, rfl, hb, hc, h48, h2⟩
    · exfalso
      simp [plainR] at h1
      obtain ⟨⟨hb, hc, hd, _⟩, h48⟩ := h1
      have hb' : 48 ≤ b ∧ b ≤ 57 := by simpa [isD] using hb
      have hc' : 48 ≤ c ∧ c ≤ 57 := by simpa [isD] using hc
      have hd' : 48 ≤ d ∧ d ≤ 57 := by simpa [isD] using hd
      rw [value_d hb (by omega), value_d hc (by omega), value_d hd (by omega)] at h2
      have := value_big (10 * (10 * (10 * 0 + ((b : Int) - 48)) + ((c : Int) - 48)) + ((d : Int) - 48)) (by omega) r
      omega
  · rintro (⟨b, rfl, hb⟩ | ⟨b, c, rfl, hb, hc, h48, h63⟩)
    · have hb' : 48 ≤ b ∧ b ≤ 57 := by simpa [isD] using hb
      refine ⟨?_, ?_⟩
      · by_cases h : b = 48
        · subst h; rfl
        · simp [plainR, hb]
      · rw [value_one hb]; omega
    · exact ⟨by simp [plainR, hb, hc, h48], by rw [value_two hb hc]; exact h63⟩

end Go.Proofs.YthgeiolabecikaaDoor
