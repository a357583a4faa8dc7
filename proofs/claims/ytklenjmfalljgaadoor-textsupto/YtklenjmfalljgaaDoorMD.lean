/- The texts TxtP TxtQ TxtR Scn Scn2 Scn3 Par. -/
import Derived.Test.YtklenjmfalljgaaDoorMC
import Derived.RowKit
import Derived.WalkSpells
import Derived.WalkLawsBesides
import Derived.Deep.Light

/- Texts of schedules, as plain functions on lists of bytes (no dump is named here): the program's way, the reference's way. -/
namespace Go.Proofs.YtklenjmfalljgaaDoor

def isD (b : Nat) : Bool := decide (48 ≤ b) && decide (b ≤ 57)
def nxt (n : Int) (b : Nat) : Int := max n 0 * 10 + ((b : Int) - 48)
def beginsB (m : Int) : Bool := decide (0 < m) && decide (10 * m < 63)
def growsB (n d last : Int) : Bool :=
  !(n == 0) && ((decide (max n 0 * 10 + d ≤ 63) && !(max n 0 * 10 + d == last)) || beginsB (max n 0 * 10 + d))

def thr (last : Int) : Int → List Nat → Int × Nat
  | n, [] => (n, 0)
  | n, b :: r => if (isD b && growsB n ((b : Int) - 48) last) = true then ((thr last (nxt n b) r).1, (thr last (nxt n b) r).2 + 1) else (n, 0)

def cnt : Int → List Nat → Int × Nat
  | n, [] => (n, 0)
  | n, b :: r => if (isD b && !(n == 0 && b == 48)) = true then ((cnt (min (10 * n + ((b : Int) - 48)) 501) r).1, (cnt (min (10 * n + ((b : Int) - 48)) 501) r).2 + 1) else (n, 0)

structure RunP where
  thread : Int
  count : Int
  ok : Bool
  len : Nat

def thrOk (last n : Int) : Bool := !(n == -1) && !(n == last)

def runP (last : Int) (l : List Nat) : RunP :=
  if (thrOk last (thr last (-1) l).1 && (l[(thr last (-1) l).2]? == some 42)) = true then
    ⟨(thr last (-1) l).1, (cnt 0 (l.drop ((thr last (-1) l).2 + 1))).1, decide (1 < (cnt 0 (l.drop ((thr last (-1) l).2 + 1))).1), (thr last (-1) l).2 + 1 + (cnt 0 (l.drop ((thr last (-1) l).2 + 1))).2⟩
  else ⟨(thr last (-1) l).1, 1, thrOk last (thr last (-1) l).1, (thr last (-1) l).2⟩

structure ParP where
  out : List Int
  at_ : Nat
  ok : Bool

def addRun (sch : List Int) (total' count thread : Int) : List Int := if total' < 501 then sch ++ List.replicate count.toNat thread else sch

def loopP : Nat → List Int → Int → Int → Nat → List Nat → ParP
  | 0, _, _, _, _, _ => ⟨[], 0, false⟩
  | f + 1, sch, last, total, at_, l =>
    if (runP last l).ok = true then
      match l.drop (runP last l).len with
      | [] => if min (total + (runP last l).count) 501 = 501 then ⟨[], 0, false⟩ else ⟨addRun sch (min (total + (runP last l).count) 501) (runP last l).count (runP last l).thread, 0, true⟩
      | b :: rest => if b = 32 then loopP f (addRun sch (min (total + (runP last l).count) 501) (runP last l).count (runP last l).thread) (runP last l).thread (min (total + (runP last l).count) 501) (at_ + (runP last l).len + 1) rest
          else ⟨[], at_ + (runP last l).len, false⟩
    else ⟨[], at_ + (runP last l).len, false⟩

def parseP (l : List Nat) : ParP := if l = [] then ⟨[], 0, true⟩ else loopP (l.length + 1) [] (-1) 0 0 l

/- The reference's way. -/
def partsR : List Nat → List (List Nat)
  | [] => [[]]
  | b :: r => if b = 32 then [] :: partsR r else (b :: (partsR r).headD []) :: (partsR r).tail

def halfA (l : List Nat) : List Nat := l.takeWhile (· != 42)
def halfB (l : List Nat) : List Nat := (l.dropWhile (· != 42)).drop 1
def starR (l : List Nat) : Bool := l.any (· == 42)
def plainR (l : List Nat) : Bool := l.all isD && ((l == [48]) || (!(l == []) && !(l.head? == some 48)))
def valueR : Int → List Nat → Int
  | n, [] => min n 1000
  | n, b :: r => if n < 1000 then valueR (10 * n + (((b + 208) % 256 : Nat) : Int)) r else min n 1000

def runR (l : List Nat) (ahead : Int) : Option (Int × Int) :=
  if (!plainR (halfA l) || decide (63 < valueR 0 (halfA l)) || (valueR 0 (halfA l) == ahead)) = true then none
  else if (starR l && (!plainR (halfB l) || decide (valueR 0 (halfB l) < 2))) = true then none
  else if starR l = true then some (valueR 0 (halfA l), valueR 0 (halfB l)) else some (valueR 0 (halfA l), 1)

def beginsR (l : List Nat) (ahead : Int) : Bool :=
  if l = [] then true
  else if (!plainR (halfA l) || decide (63 < valueR 0 (halfA l))) = true then false
  else if starR l = true then !(valueR 0 (halfA l) == ahead) && ((halfB l == []) || (plainR (halfB l) && !(halfB l == [48])))
  else !(valueR 0 (halfA l) == ahead) || (decide (1 ≤ valueR 0 (halfA l)) && decide (valueR 0 (halfA l) ≤ 6))

def fillR (out : List Int) (t n : Int) : List Int := out ++ List.replicate (min n.toNat (501 - out.length)) t

def wholeR : List (List Nat) → Int → List Int → Option (List Int × Int)
  | [], ahead, out => some (out, ahead)
  | q :: qs, ahead, out => match runR q ahead with
    | none => none
    | some (t, n) => wholeR qs t (fillR out t n)

def viable (ahead : Int) (l : List Nat) : Bool :=
  match wholeR (partsR l).dropLast ahead [] with
  | none => false
  | some (_, a) => beginsR ((partsR l).getLastD []) a

def searchR (l : List Nat) : Nat → Nat
  | 0 => 0
  | k + 1 => if viable (-1) (l.take (k + 1)) = true then k + 1 else searchR l k

def parseR (l : List Nat) : ParP :=
  if l = [] then ⟨[], 0, true⟩
  else match wholeR (partsR l) (-1) [] with
    | some (o, _) => if 500 < o.length then ⟨[], 0, false⟩ else ⟨o, 0, true⟩
    | none => ⟨[], searchR l l.length, false⟩

/- Counts. -/
theorem cnt_len (n : Int) (l : List Nat) : (cnt n l).2 ≤ l.length := by
  induction l generalizing n with
  | nil => simp [cnt]
  | cons b r ih => unfold cnt; split
                   · simpa using ih _
                   · simp

theorem cnt_digits (n : Int) (hn : 0 < n) (l : List Nat) (k : Nat) (hk : k ≤ l.length) : (l.take k).all isD = decide (k ≤ (cnt n l).2) := by
  induction l generalizing n k with
  | nil => simp at hk; subst hk; simp [cnt]
  | cons b r ih =>
    cases k with
    | zero => simp
    | succ k =>
      unfold cnt
      cases hd : isD b
      · simp [hd]
      · have h0 : (n == 0) = false := by simp; omega
        simp only [List.take_succ_cons, List.all_cons, hd, Bool.true_and, h0, Bool.false_and, Bool.not_false, if_true]
        have hb : 48 ≤ b ∧ b ≤ 57 := by simpa [isD] using hd
        rw [ih (min (10 * n + ((b : Int) - 48)) 501) (by omega) k (by simpa using hk)]
        simp

theorem cnt_value (n m : Int) (hn : 0 < n) (hm : n = min m 501) (l : List Nat) (h : l.all isD = true) : (cnt n l).1 = min (valueR m l) 501 := by
  induction l generalizing n m with
  | nil => simp [cnt, valueR]; omega
  | cons b r ih =>
    simp only [List.all_cons, Bool.and_eq_true] at h
    have hb : 48 ≤ b ∧ b ≤ 57 := by simpa [isD] using h.1
    unfold cnt valueR
    have h0 : (n == 0) = false := by simp; omega
    simp only [h.1, h0, Bool.true_and, Bool.false_and, Bool.not_false, if_true]
    have e : (((b + 208) % 256 : Nat) : Int) = (b : Int) - 48 := by omega
    rw [e]
    split
    · exact ih _ _ (by omega) (by omega) h.2
    · have : ∀ (x : Int) (l : List Nat), x = 501 → l.all isD = true → (cnt x l).1 = 501 := by
        intro x l hx hl
        induction l generalizing x with
        | nil => simp [cnt, hx]
        | cons c s ih2 =>
          simp only [List.all_cons, Bool.and_eq_true] at hl
          have hc : 48 ≤ c ∧ c ≤ 57 := by simpa [isD] using hl.1
          unfold cnt
          have h0 : (x == 0) = false := by simp; omega
          simp only [hl.1, h0, Bool.true_and, Bool.false_and, Bool.not_false, if_true]
          exact ih2 _ (by omega) hl.2
      rw [this _ r (by omega) h.2]; omega

/-- The digits behind a star: how many are read. -/
theorem cnt_begins (l : List Nat) (k : Nat) (hk : k ≤ l.length) : ((l.take k == []) || (plainR (l.take k) && !(l.take k == [48]))) = decide (k ≤ (cnt 0 l).2) := by
  cases l with
  | nil => simp at hk; subst hk; simp [cnt]
  | cons b r =>
    cases k with
    | zero => simp
    | succ k =>
      unfold cnt plainR
      cases hd : isD b
      · simp [hd]
      · have hb : 48 ≤ b ∧ b ≤ 57 := by simpa [isD] using hd
        by_cases h48 : b = 48
        · subst h48
          simp [hd]
        · have e1 : ((b :: r.take k) == [48]) = false := by
            cases r.take k <;> simp [h48]
          have e2 : (b == 48) = false := by simpa using h48
          simp only [List.take_succ_cons, List.all_cons, hd, Bool.true_and, e1, Bool.false_or, List.head?_cons, e2, Bool.and_false, Bool.not_false, if_true, Bool.and_true]
          rw [cnt_digits (min (10 * 0 + ((b : Int) - 48)) 501) (by omega) r k (by simpa using hk)]
          have e3 : (some b == some 48) = false := by simpa using h48
          simp [h48]

theorem cnt_whole (l : List Nat) (h : (cnt 0 l).2 = l.length) : (cnt 0 l).1 = min (valueR 0 l) 501 := by
  cases l with
  | nil => simp [cnt, valueR]; omega
  | cons b r =>
    unfold cnt at h ⊢
    split at h
    · rename_i hc
      simp only [hc, if_true]
      simp only [Bool.and_eq_true, Bool.not_eq_true'] at hc
      have hb : 48 ≤ b ∧ b ≤ 57 := by simpa [isD] using hc.1
      have h48 : b ≠ 48 := by
        intro e; have := hc.2; simp [e] at this
      unfold valueR
      simp only [show (0 : Int) < 1000 by decide, if_true]
      have e : (((b + 208) % 256 : Nat) : Int) = (b : Int) - 48 := by omega
      rw [e]
      have hlen : (cnt (min (10 * 0 + ((b : Int) - 48)) 501) r).2 = r.length := by simpa using h
      refine cnt_value _ _ (by omega) (by omega) r ?_
      have := cnt_digits (min (10 * 0 + ((b : Int) - 48)) 501) (by omega) r r.length (Nat.le_refl _)
      rw [List.take_length, hlen] at this
      simpa using this
    · simp at h

/- Threads' numbers: two digits at most. -/
theorem thr_closed (last : Int) (l : List Nat) : thr last (-1) l = match l with
    | [] => (-1, 0)
    | b :: r => if isD b = true ∧ (((b : Int) - 48 ≠ last) ∨ (49 ≤ b ∧ b ≤ 54)) then
        (match r with
        | [] => ((b : Int) - 48, 1)
        | c :: _ => if isD c = true ∧ b ≠ 48 ∧ ((b : Int) - 48) * 10 + ((c : Int) - 48) ≤ 63 ∧ ((b : Int) - 48) * 10 + ((c : Int) - 48) ≠ last then (((b : Int) - 48) * 10 + ((c : Int) - 48), 2) else ((b : Int) - 48, 1))
      else (-1, 0) := by
  have stop : ∀ (n : Int) (r : List Nat), 10 ≤ n → thr last n r = (n, 0) := by
    intro n r hn
    cases r with
    | nil => rfl
    | cons c s =>
      unfold thr
      rw [if_neg]
      simp only [isD, growsB, beginsB, Bool.and_eq_true, Bool.or_eq_true, decide_eq_true_eq, Bool.not_eq_true', beq_eq_false_iff_ne]
      omega
  have second : ∀ (b : Nat) (r : List Nat), 48 ≤ b → b ≤ 57 → thr last ((b : Int) - 48) r = match r with
      | [] => ((b : Int) - 48, 0)
      | c :: _ => if isD c = true ∧ b ≠ 48 ∧ ((b : Int) - 48) * 10 + ((c : Int) - 48) ≤ 63 ∧ ((b : Int) - 48) * 10 + ((c : Int) - 48) ≠ last then (((b : Int) - 48) * 10 + ((c : Int) - 48), 1) else ((b : Int) - 48, 0) := by
    intro b r h1 h2
    cases r with
    | nil => rfl
    | cons c s =>
      unfold thr
      simp only
      by_cases hc : isD c = true ∧ b ≠ 48 ∧ ((b : Int) - 48) * 10 + ((c : Int) - 48) ≤ 63 ∧ ((b : Int) - 48) * 10 + ((c : Int) - 48) ≠ last
      · have hd : 48 ≤ c ∧ c ≤ 57 := by simpa [isD] using hc.1
        rw [if_pos hc, if_pos]
        · have e : nxt ((b : Int) - 48) c = ((b : Int) - 48) * 10 + ((c : Int) - 48) := by unfold nxt; rw [Int.max_eq_left (by omega)]
          rw [e, stop _ s (by omega)]
        · simp only [growsB, beginsB, hc.1, Bool.true_and, Bool.and_eq_true, Bool.or_eq_true, decide_eq_true_eq, Bool.not_eq_true', beq_eq_false_iff_ne]
          rw [Int.max_eq_left (by omega)]
          omega
      · rw [if_neg hc, if_neg]
        intro h
        apply hc
        simp only [growsB, beginsB, Bool.and_eq_true, Bool.or_eq_true, decide_eq_true_eq, Bool.not_eq_true', beq_eq_false_iff_ne] at h
        rw [Int.max_eq_left (by omega)] at h
        obtain ⟨ha, hb, hcc⟩ := h
        have hd : 48 ≤ c ∧ c ≤ 57 := by simpa [isD] using ha
        exact ⟨ha, by omega, by omega, by omega⟩
  cases l with
  | nil => rfl
  | cons b r =>
    unfold thr
    simp only
    by_cases hb : isD b = true ∧ (((b : Int) - 48 ≠ last) ∨ (49 ≤ b ∧ b ≤ 54))
    · have hd : 48 ≤ b ∧ b ≤ 57 := by simpa [isD] using hb.1
      rw [if_pos hb, if_pos]
      · have e : nxt (-1) b = (b : Int) - 48 := by unfold nxt; rw [Int.max_eq_right (by omega)]; omega
        rw [e, second b r hd.1 hd.2]
        cases r with
        | nil => rfl
        | cons c s => simp only; split <;> rfl
      · simp only [growsB, beginsB, hb.1, Bool.true_and, Bool.and_eq_true, Bool.or_eq_true, decide_eq_true_eq, Bool.not_eq_true', beq_eq_false_iff_ne]
        rw [Int.max_eq_right (by omega)]
        omega
    · rw [if_neg hb, if_neg]
      intro h
      apply hb
      simp only [growsB, beginsB, Bool.and_eq_true, Bool.or_eq_true, decide_eq_true_eq, Bool.not_eq_true', beq_eq_false_iff_ne] at h
      rw [Int.max_eq_right (by omega)] at h
      obtain ⟨ha, hc, hcc⟩ := h
      exact ⟨ha, by omega⟩

theorem value_d {b : Nat} (h : isD b = true) {n : Int} (hn : n < 1000) (r : List Nat) : valueR n (b :: r) = valueR (10 * n + ((b : Int) - 48)) r := by
  have hb' : 48 ≤ b ∧ b ≤ 57 := by simpa [isD] using h
  have e1 : (((b + 208) % 256 : Nat) : Int) = (b : Int) - 48 := by omega
  rw [valueR, if_pos hn, e1]
theorem value_nil (n : Int) : valueR n [] = min n 1000 := rfl

theorem value_one {b : Nat} (h : isD b = true) : valueR 0 [b] = (b : Int) - 48 := by
  have hb' : 48 ≤ b ∧ b ≤ 57 := by simpa [isD] using h
  rw [value_d h (by omega), value_nil]; omega
theorem value_two {b c : Nat} (h : isD b = true) (h2 : isD c = true) : valueR 0 [b, c] = ((b : Int) - 48) * 10 + ((c : Int) - 48) := by
  have hb' : 48 ≤ b ∧ b ≤ 57 := by simpa [isD] using h
  have hc' : 48 ≤ c ∧ c ≤ 57 := by simpa [isD] using h2
  rw [value_d h (by omega), value_d h2 (by omega), value_nil]; omega

theorem value_big (n : Int) (hn : 64 ≤ n) (l : List Nat) : 63 < valueR n l := by
  induction l generalizing n with
  | nil => unfold valueR; omega
  | cons b r ih =>
    unfold valueR; split
    · exact ih _ (by omega)
    · omega

/-- What stands ahead of a star, if it is a thread's number: one digit or two. -/
theorem ahead_forms (a : List Nat) : (plainR a = true ∧ valueR 0 a ≤ 63) ↔
    (∃ b, a = [b] ∧ isD b = true) ∨ (∃ b c, a = [b, c] ∧ isD b = true ∧ isD c = true ∧ b ≠ 48 ∧ ((b : Int) - 48) * 10 + ((c : Int) - 48) ≤ 63) := by
  constructor
  · rintro ⟨h1, h2⟩
    rcases a with _ | ⟨b, _ | ⟨c, _ | ⟨d, r⟩⟩⟩
    · simp [plainR] at h1
    · left; exact ⟨b, rfl, by simpa [plainR] using h1⟩
    · right
      simp [plainR] at h1
      obtain ⟨⟨hb, hc⟩, h48⟩ := h1
      rw [value_two hb hc] at h2
      exact ⟨b, c, rfl, hb, hc, h48, h2⟩
    · exfalso
      simp [plainR] at h1
      obtain ⟨⟨hb, hc, hd, _⟩, h48⟩ := h1
      have hb' : 48 ≤ b ∧ b ≤ 57 := by simpa [isD] using hb
      have hc' : 48 ≤ c ∧ c ≤ 57 := by simpa [isD] using hc
      have hd' : 48 ≤ d ∧ d ≤ 57 := by simpa [isD] using hd
      rw [value_d hb (by omega), value_d hc (by omega), value_d hd (by omega)] at h2
      have := value_big (10 * (10 * (10 * 0 + ((b : Int) - 48)) + ((c : Int) - 48)) + ((d : Int) - 48)) (by omega) r
      omega
  · rintro (⟨b, rfl, hb⟩ | ⟨b, c, rfl, hb, hc, h48, h63⟩)
    · have hb' : 48 ≤ b ∧ b ≤ 57 := by simpa [isD] using hb
      refine ⟨?_, ?_⟩
      · by_cases h : b = 48
        · subst h; rfl
        · simp [plainR, hb]
      · rw [value_one hb]; omega
    · exact ⟨by simp [plainR, hb, hc, h48], by rw [value_two hb hc]; exact h63⟩

end Go.Proofs.YtklenjmfalljgaaDoor

/- One run of a text: what the program reads of it, what the reference says of it. -/
namespace Go.Proofs.YtklenjmfalljgaaDoor

theorem half_star {a bb : List Nat} (ha : ∀ x ∈ a, x ≠ 42) : halfA (a ++ 42 :: bb) = a ∧ halfB (a ++ 42 :: bb) = bb ∧ starR (a ++ 42 :: bb) = true := by
  induction a with
  | nil => simp [halfA, halfB, starR]
  | cons x a ih =>
    have hx : x ≠ 42 := ha x (by simp)
    obtain ⟨h1, h2, h3⟩ := ih (fun y hy => ha y (by simp [hy]))
    refine ⟨?_, ?_, ?_⟩
    · unfold halfA at *; rw [List.cons_append, List.takeWhile_cons, if_pos (by simpa using hx), h1]
    · unfold halfB at *; rw [List.cons_append, List.dropWhile_cons, if_pos (by simpa using hx), h2]
    · simp [starR]
theorem half_none {a : List Nat} (ha : ∀ x ∈ a, x ≠ 42) : halfA a = a ∧ halfB a = [] ∧ starR a = false := by
  induction a with
  | nil => simp [halfA, halfB, starR]
  | cons x a ih =>
    have hx : x ≠ 42 := ha x (by simp)
    obtain ⟨h1, h2, h3⟩ := ih (fun y hy => ha y (by simp [hy]))
    refine ⟨?_, ?_, ?_⟩
    · unfold halfA at *; rw [List.takeWhile_cons, if_pos (by simpa using hx), h1]
    · unfold halfB at *; rw [List.dropWhile_cons, if_pos (by simpa using hx), h2]
    · unfold starR at *; rw [List.any_cons, h3]; simpa using hx

/-- Nothing that opens otherwise than a thread's number begins a run. -/
theorem begins_bad {l : List Nat} (hl : l ≠ []) (last : Int) (h : ¬ (plainR (halfA l) = true ∧ valueR 0 (halfA l) ≤ 63)) : beginsR l last = false ∧ runR l last = none := by
  have h' : (!plainR (halfA l) || decide (63 < valueR 0 (halfA l))) = true := by
    cases hp : plainR (halfA l)
    · rfl
    · simp only [Bool.not_true, Bool.false_or, decide_eq_true_eq]
      by_cases h2 : valueR 0 (halfA l) ≤ 63
      · exact absurd ⟨hp, h2⟩ h
      · omega
  unfold beginsR runR
  rw [if_neg hl, if_pos h', h', Bool.true_or, if_pos rfl]
  exact ⟨rfl, rfl⟩

theorem begins_star {a bb : List Nat} (ha : ∀ x ∈ a, x ≠ 42) (hp : plainR a = true) (hv : valueR 0 a ≤ 63) (last : Int) :
    beginsR (a ++ 42 :: bb) last = (!(valueR 0 a == last) && ((bb == []) || (plainR bb && !(bb == [48])))) := by
  obtain ⟨h1, h2, h3⟩ := half_star (bb := bb) ha
  unfold beginsR
  rw [if_neg (by simp), h1, h2, h3, hp, if_neg (by simp; omega), if_pos rfl]
theorem begins_plain {a : List Nat} (ha : ∀ x ∈ a, x ≠ 42) (h0 : a ≠ []) (hp : plainR a = true) (hv : valueR 0 a ≤ 63) (last : Int) :
    beginsR a last = (!(valueR 0 a == last) || (decide (1 ≤ valueR 0 a) && decide (valueR 0 a ≤ 6))) := by
  obtain ⟨h1, h2, h3⟩ := half_none ha
  unfold beginsR
  rw [if_neg h0, h1, h3, hp, if_neg (by simp; omega), if_neg (by simp)]
theorem run_star {a bb : List Nat} (ha : ∀ x ∈ a, x ≠ 42) (hp : plainR a = true) (hv : valueR 0 a ≤ 63) (last : Int) (hn : valueR 0 a ≠ last) :
    runR (a ++ 42 :: bb) last = if (!plainR bb || decide (valueR 0 bb < 2)) = true then none else some (valueR 0 a, valueR 0 bb) := by
  obtain ⟨h1, h2, h3⟩ := half_star (bb := bb) ha
  unfold runR
  rw [h1, h2, h3, hp, if_neg (by simp; exact ⟨by omega, hn⟩), Bool.true_and, if_pos rfl]
theorem run_same {l : List Nat} {last : Int} (hn : valueR 0 (halfA l) = last) : runR l last = none := by
  unfold runR
  rw [if_pos]; simp [hn]
theorem run_plain {a : List Nat} (ha : ∀ x ∈ a, x ≠ 42) (hp : plainR a = true) (hv : valueR 0 a ≤ 63) (last : Int) (hn : valueR 0 a ≠ last) :
    runR a last = some (valueR 0 a, 1) := by
  obtain ⟨h1, h2, h3⟩ := half_none ha
  unfold runR
  rw [h1, h3, hp, if_neg (by simp; exact ⟨by omega, hn⟩), if_neg (by simp), if_neg (by simp)]

/-- What one run's reading and the reference have to do with one another. -/
structure Auto (last : Int) (q : List Nat) : Prop where
  len : (runP last q).len ≤ q.length
  pre : ∀ k, k ≤ q.length → beginsR (q.take k) last = decide (k ≤ (runP last q).len)
  yes : ∀ t n, runR q last = some (t, n) → (runP last q).ok = true ∧ (runP last q).len = q.length ∧ (runP last q).thread = t ∧ (runP last q).count = min n 501 ∧ 1 ≤ n
  no : runR q last = none → (runP last q).ok = true → (runP last q).len ≠ q.length

theorem begins_nil (last : Int) : beginsR [] last = true := rfl

theorem digit_ne {b : Nat} (h : isD b = true) : b ≠ 42 ∧ b ≠ 32 := by
  have : 48 ≤ b ∧ b ≤ 57 := by simpa [isD] using h
  omega

/-- Behind a thread's number stands a star. -/
theorem auto_star (last : Int) (a bb : List Nat) (ha : ∀ x ∈ a, x ≠ 42) (hp : plainR a = true) (hv : valueR 0 a ≤ 63) (hn : valueR 0 a ≠ last) (hn0 : 0 ≤ valueR 0 a)
    (ht : thr last (-1) (a ++ 42 :: bb) = (valueR 0 a, a.length)) (hpre : ∀ k, k ≤ a.length → beginsR (a.take k) last = true) : Auto last (a ++ 42 :: bb) := by
  have e : runP last (a ++ 42 :: bb) = ⟨valueR 0 a, (cnt 0 bb).1, decide (1 < (cnt 0 bb).1), a.length + 1 + (cnt 0 bb).2⟩ := by
    unfold runP
    rw [ht]
    have e1 : (a ++ 42 :: bb)[a.length]? = some 42 := by simp
    have e2 : (a ++ 42 :: bb).drop (a.length + 1) = bb := by
      rw [List.drop_append]; simp
    have e3 : thrOk last (valueR 0 a) = true := by
      simp only [thrOk, Bool.and_eq_true, Bool.not_eq_true', beq_eq_false_iff_ne]; exact ⟨by omega, hn⟩
    simp only [e1, e2, e3, Bool.true_and, beq_self_eq_true, if_true]
  have hc := cnt_len 0 bb
  have hk : ∀ k, k ≤ bb.length → beginsR (a ++ 42 :: bb.take k) last = decide (k ≤ (cnt 0 bb).2) := by
    intro k hk
    rw [begins_star ha hp hv, cnt_begins bb k hk]
    have : (valueR 0 a == last) = false := by simpa using hn
    rw [this]; simp
  refine ⟨?_, ?_, ?_, ?_⟩
  · rw [e]; simp; omega
  · intro k hkl
    rw [e]
    simp only
    by_cases h : k ≤ a.length
    · rw [List.take_append_of_le_length h, hpre k h]; symm; simp; omega
    · obtain ⟨j, rfl⟩ : ∃ j, k = a.length + 1 + j := ⟨k - (a.length + 1), by omega⟩
      have e4 : (a ++ 42 :: bb).take (a.length + 1 + j) = a ++ 42 :: bb.take j := by
        rw [List.take_append, List.take_of_length_le (by omega)]
        have : a.length + 1 + j - a.length = j + 1 := by omega
        rw [this, List.take_succ_cons]
      have hj : j ≤ bb.length := by simp at hkl; omega
      rw [e4, hk j hj]
      by_cases h5 : j ≤ (cnt 0 bb).2 <;> simp [h5] <;> omega
  · intro t n h
    rw [run_star ha hp hv last hn] at h
    split at h
    · cases h
    · rename_i hb
      simp only [Option.some.injEq, Prod.mk.injEq] at h
      obtain ⟨rfl, rfl⟩ := h
      simp only [Bool.or_eq_true, Bool.not_eq_true', decide_eq_true_eq, not_or, Bool.not_eq_false] at hb
      have hne : bb ≠ [] := by intro h0; rw [h0] at hb; simp [plainR] at hb
      have h48 : bb ≠ [48] := by intro h0; rw [h0] at hb; exact hb.2 (by rw [value_one (by rfl)]; omega)
      have h6 := cnt_begins bb bb.length (Nat.le_refl _)
      rw [List.take_length, hb.1] at h6
      have h7 : (bb == []) = false := by simpa using hne
      have h8 : (bb == [48]) = false := by simpa using h48
      rw [h7, h8] at h6
      have h9 : bb.length ≤ (cnt 0 bb).2 := by simpa using h6.symm
      have h10 := cnt_whole bb (by omega)
      rw [e]
      refine ⟨?_, ?_, rfl, h10, by omega⟩
      · simp only [decide_eq_true_eq]; omega
      · simp; omega
  · intro h hok
    rw [e] at hok ⊢
    simp only [decide_eq_true_eq] at hok
    rw [run_star ha hp hv last hn] at h
    split at h
    · rename_i hb
      simp only [List.length_append, List.length_cons]
      intro hl
      have h10 := cnt_whole bb (by omega)
      have h6 := cnt_begins bb bb.length (Nat.le_refl _)
      rw [List.take_length] at h6
      have h9 : decide (bb.length ≤ (cnt 0 bb).2) = true := by simp; omega
      rw [h9] at h6
      have hne : bb ≠ [] := by intro h0; rw [h0] at hok; simp [cnt] at hok
      have h7 : (bb == []) = false := by simpa using hne
      rw [h7, Bool.false_or] at h6
      simp only [Bool.and_eq_true] at h6
      rw [h6.1] at hb
      simp only [Bool.not_true, Bool.false_or, decide_eq_true_eq] at hb
      omega
    · cases h

/-- A thread's number at which the reading ends. -/
theorem auto_stop (last : Int) (a r : List Nat) (n : Int) (ht : thr last (-1) (a ++ r) = (n, a.length)) (hpre : ∀ k, k ≤ a.length → beginsR (a.take k) last = true)
    (hok : (thrOk last n && (r.head? == some 42)) = false)
    (hpost : ∀ k, 0 < k → k ≤ r.length → beginsR (a ++ r.take k) last = false)
    (hyes : ∀ t m, runR (a ++ r) last = some (t, m) → thrOk last n = true ∧ r = [] ∧ n = t ∧ m = 1)
    (hno : runR (a ++ r) last = none → thrOk last n = true → r ≠ []) : Auto last (a ++ r) := by
  have e : runP last (a ++ r) = ⟨n, 1, thrOk last n, a.length⟩ := by
    unfold runP
    rw [ht]
    have e1 : (a ++ r)[a.length]? = r.head? := by rw [List.getElem?_append_right (Nat.le_refl _)]; simp [List.head?_eq_getElem?]
    simp only [e1, hok]
    simp
  refine ⟨?_, ?_, ?_, ?_⟩
  · rw [e]; simp
  · intro k hk
    rw [e]
    simp only
    by_cases h : k ≤ a.length
    · rw [List.take_append_of_le_length h, hpre k h]; symm; simpa using h
    · have e4 : (a ++ r).take k = a ++ r.take (k - a.length) := by rw [List.take_append, List.take_of_length_le (by omega)]
      rw [e4, hpost _ (by omega) (by simp at hk; omega)]; symm; simpa using h
  · intro t m h
    obtain ⟨h1, rfl, rfl, rfl⟩ := hyes t m h
    rw [e]; simp [h1]; omega
  · intro h h1
    rw [e] at h1 ⊢
    have := hno h h1
    simp
    exact this

theorem auto (last : Int) (q : List Nat) : Auto last q := by
  have T := thr_closed last q
  rcases q with _ | ⟨b, r⟩
  · refine auto_stop last [] [] (-1) T (fun k hk => ?_) rfl (fun k h1 h2 => by simp at h2; omega) ?_ ?_
    · simp [begins_nil]
    · intro t m h; simp [runR, halfA, plainR] at h
    · intro _ h; simp [thrOk] at h
  · simp only at T
    by_cases hb : isD b = true ∧ (((b : Int) - 48 ≠ last) ∨ (49 ≤ b ∧ b ≤ 54))
    · rw [if_pos hb] at T
      obtain ⟨hd, hb2⟩ := hb
      have hb42 := digit_ne hd
      have hbr : 48 ≤ b ∧ b ≤ 57 := by simpa [isD] using hd
      have p1 := (ahead_forms [b]).2 (Or.inl ⟨b, rfl, hd⟩)
      have v1 := value_one hd
      have n1 : ∀ x ∈ [b], x ≠ 42 := by simp; exact hb42.1
      have b1 : beginsR [b] last = true := by
        rw [begins_plain n1 (by simp) p1.1 p1.2, v1]
        simp; omega
      have pre1 : ∀ k, k ≤ [b].length → beginsR ([b].take k) last = true := by
        intro k hk
        have : k = 0 ∨ k = 1 := by simp at hk; omega
        rcases this with rfl | rfl
        · rfl
        · exact b1
      rcases r with _ | ⟨c, r⟩
      · refine auto_stop last [b] [] ((b : Int) - 48) T pre1 (by simp) (fun k h1 h2 => by simp at h2; omega) ?_ ?_
        · intro t m h
          by_cases hv : (b : Int) - 48 = last
          · rw [run_same (by rw [(half_none (by simpa using n1)).1, List.append_nil, v1]; exact hv)] at h; cases h
          · rw [List.append_nil, run_plain n1 p1.1 p1.2 last (by rw [v1]; exact hv), v1] at h
            simp only [Option.some.injEq, Prod.mk.injEq] at h
            exact ⟨by simp [thrOk, hv]; omega, rfl, h.1, h.2.symm⟩
        · intro h h2
          by_cases hv : (b : Int) - 48 = last
          · simp [thrOk, hv] at h2
          · rw [List.append_nil, run_plain n1 p1.1 p1.2 last (by rw [v1]; exact hv)] at h; cases h
      · by_cases hc : isD c = true ∧ b ≠ 48 ∧ ((b : Int) - 48) * 10 + ((c : Int) - 48) ≤ 63 ∧ ((b : Int) - 48) * 10 + ((c : Int) - 48) ≠ last
        · simp only [if_pos hc] at T
          obtain ⟨hdc, h48, h63, hl⟩ := hc
          have hc42 := digit_ne hdc
          have hcr : 48 ≤ c ∧ c ≤ 57 := by simpa [isD] using hdc
          have p2 := (ahead_forms [b, c]).2 (Or.inr ⟨b, c, rfl, hd, hdc, h48, h63⟩)
          have v2 := value_two hd hdc
          have n2 : ∀ x ∈ [b, c], x ≠ 42 := by simp; exact ⟨hb42.1, hc42.1⟩
          have b2 : beginsR [b, c] last = true := by
            rw [begins_plain n2 (by simp) p2.1 p2.2, v2]
            simp; omega
          have pre2 : ∀ k, k ≤ [b, c].length → beginsR ([b, c].take k) last = true := by
            intro k hk
            have : k = 0 ∨ k = 1 ∨ k = 2 := by simp at hk; omega
            rcases this with rfl | rfl | rfl
            · rfl
            · exact b1
            · exact b2
          have ok2 : thrOk last (((b : Int) - 48) * 10 + ((c : Int) - 48)) = true := by
            simp only [thrOk, Bool.and_eq_true, Bool.not_eq_true', beq_eq_false_iff_ne]; exact ⟨by omega, hl⟩
          by_cases hs : r.head? = some 42
          · obtain ⟨bb, rfl⟩ : ∃ bb, r = 42 :: bb := by
              cases r with
              | nil => simp at hs
              | cons x bb => simp at hs; exact ⟨bb, by rw [hs]⟩
            exact auto_star last [b, c] bb n2 p2.1 p2.2 (by rw [v2]; exact hl) (by rw [v2]; omega) (by rw [v2]; exact T) pre2
          · have three : ∀ d s, d ≠ 42 → ¬ (plainR (halfA (b :: c :: d :: s)) = true ∧ valueR 0 (halfA (b :: c :: d :: s)) ≤ 63) := by
              intro d s hd42
              have e : halfA (b :: c :: d :: s) = b :: c :: d :: halfA s := by
                unfold halfA
                rw [List.takeWhile_cons, if_pos (by simpa using hb42.1), List.takeWhile_cons, if_pos (by simpa using hc42.1), List.takeWhile_cons, if_pos (by simpa using hd42)]
              rw [e, ahead_forms]
              simp
            refine auto_stop last [b, c] r _ T pre2 (by rw [ok2]; simpa using hs) ?_ ?_ ?_
            · intro k h1 h2
              rcases r with _ | ⟨d, s⟩
              · simp at h2; omega
              · obtain ⟨j, rfl⟩ : ∃ j, k = j + 1 := ⟨k - 1, by omega⟩
                exact (begins_bad (by simp) last (three d (s.take j) (by simpa using hs))).1
            · intro t m h
              rcases r with _ | ⟨d, s⟩
              · rw [List.append_nil, run_plain n2 p2.1 p2.2 last (by rw [v2]; exact hl), v2] at h
                simp only [Option.some.injEq, Prod.mk.injEq] at h
                exact ⟨ok2, rfl, h.1, h.2.symm⟩
              · rw [show [b, c] ++ d :: s = b :: c :: d :: s from rfl, (begins_bad (by simp) last (three d s (by simpa using hs))).2] at h; cases h
            · intro h _
              rcases r with _ | ⟨d, s⟩
              · rw [List.append_nil, run_plain n2 p2.1 p2.2 last (by rw [v2]; exact hl)] at h; cases h
              · simp
        · simp only [if_neg hc] at T
          by_cases hs : c = 42
          · subst hs
            by_cases hv : (b : Int) - 48 = last
            · have same : ∀ s, halfA (b :: 42 :: s) = [b] := fun s => (half_star (a := [b]) (bb := s) n1).1
              refine auto_stop last [b] (42 :: r) _ T pre1 (by simp [thrOk, hv]) ?_ ?_ ?_
              · intro k h1 h2
                obtain ⟨j, rfl⟩ : ∃ j, k = j + 1 := ⟨k - 1, by omega⟩
                rw [List.take_succ_cons, begins_star n1 p1.1 p1.2, v1]
                simp [hv]
              · intro t m h
                rw [run_same (by rw [show [b] ++ 42 :: r = b :: 42 :: r from rfl, same, v1]; exact hv)] at h; cases h
              · intro _ h; simp [thrOk, hv] at h
            · exact auto_star last [b] r n1 p1.1 p1.2 (by rw [v1]; exact hv) (by rw [v1]; omega) (by rw [v1]; exact T) pre1
          · have two : ∀ s, (plainR (halfA (b :: c :: s)) = true ∧ valueR 0 (halfA (b :: c :: s)) ≤ 63) → halfA (b :: c :: s) = [b, c] ∧ isD c = true ∧ b ≠ 48 ∧ ((b : Int) - 48) * 10 + ((c : Int) - 48) = last := by
              intro s h
              have e : halfA (b :: c :: s) = b :: c :: halfA s := by
                unfold halfA
                rw [List.takeWhile_cons, if_pos (by simpa using hb42.1), List.takeWhile_cons, if_pos (by simpa using hs)]
              rw [e, ahead_forms] at h
              rcases h with ⟨b', h, _⟩ | ⟨b', c', h, h1, h2, h3, h4⟩
              · simp at h
              · simp only [List.cons.injEq] at h
                obtain ⟨rfl, rfl, h5⟩ := h
                refine ⟨by rw [e, h5], h2, h3, ?_⟩
                by_cases h6 : ((b : Int) - 48) * 10 + ((c : Int) - 48) = last
                · exact h6
                · exact absurd ⟨h2, h3, h4, h6⟩ hc
            have no2 : ∀ s, runR (b :: c :: s) last = none := by
              intro s
              by_cases h : plainR (halfA (b :: c :: s)) = true ∧ valueR 0 (halfA (b :: c :: s)) ≤ 63
              · obtain ⟨h1, h2, _, h3⟩ := two s h
                exact run_same (by rw [h1, value_two hd h2]; exact h3)
              · exact (begins_bad (by simp) last h).2
            refine auto_stop last [b] (c :: r) _ T pre1 (by simp [hs]) ?_ ?_ ?_
            · intro k h1 h2
              obtain ⟨j, rfl⟩ : ∃ j, k = j + 1 := ⟨k - 1, by omega⟩
              rw [List.take_succ_cons]
              by_cases h : plainR (halfA (b :: c :: r.take j)) = true ∧ valueR 0 (halfA (b :: c :: r.take j)) ≤ 63
              · obtain ⟨h1, h2, h48, h3⟩ := two _ h
                have hcr : 48 ≤ c ∧ c ≤ 57 := by simpa [isD] using h2
                have hv2 := value_two hd h2
                show beginsR (b :: c :: r.take j) last = false
                unfold beginsR
                rw [if_neg (by simp), h1, hv2, h3, if_neg (by rw [h1] at h; simp [h.1]; rw [hv2] at h; omega)]
                split
                · simp
                · simp; omega
              · exact (begins_bad (by simp) last h).1
            · intro t m h
              rw [show [b] ++ c :: r = b :: c :: r from rfl, no2] at h; cases h
            · intro _ _; simp
    · rw [if_neg hb] at T
      have bad : ∀ s, beginsR (b :: s) last = false ∧ runR (b :: s) last = none := by
        intro s
        by_cases h : plainR (halfA (b :: s)) = true ∧ valueR 0 (halfA (b :: s)) ≤ 63
        · have hf := (ahead_forms _).1 h
          have hh : ∃ s', halfA (b :: s) = b :: s' := by
            unfold halfA
            rw [List.takeWhile_cons]
            split
            · exact ⟨_, rfl⟩
            · rename_i h42
              rw [halfA, List.takeWhile_cons, if_neg h42] at h
              simp [plainR] at h
          obtain ⟨s', hs'⟩ := hh
          rw [hs'] at hf
          rcases hf with ⟨b', h1, h2⟩ | ⟨b', c', h1, h2, h3, h4, h5⟩
          · simp only [List.cons.injEq] at h1
            obtain ⟨rfl, rfl⟩ := h1
            have hv : (b : Int) - 48 = last ∧ ¬ (49 ≤ b ∧ b ≤ 54) := by
              refine ⟨?_, fun h6 => hb ⟨h2, Or.inr h6⟩⟩
              by_cases h6 : (b : Int) - 48 = last
              · exact h6
              · exact absurd ⟨h2, Or.inl h6⟩ hb
            have hbr : 48 ≤ b ∧ b ≤ 57 := by simpa [isD] using h2
            have hv1 := value_one h2
            refine ⟨?_, run_same (by rw [hs', hv1]; exact hv.1)⟩
            unfold beginsR
            rw [if_neg (by simp), hs', hv1, hv.1, if_neg (by rw [hs'] at h; simp [h.1]; rw [hv1] at h; omega)]
            split
            · simp
            · simp; omega
          · simp only [List.cons.injEq] at h1
            obtain ⟨rfl, rfl⟩ := h1
            have hbr : 48 ≤ b ∧ b ≤ 57 := by simpa [isD] using h2
            have hcr : 48 ≤ c' ∧ c' ≤ 57 := by simpa [isD] using h3
            exact absurd ⟨h2, Or.inr (by omega)⟩ hb
        · exact begins_bad (by simp) last h
      refine auto_stop last [] (b :: r) (-1) T (fun k hk => by simp [begins_nil]) (by simp [thrOk]) ?_ ?_ ?_
      · intro k h1 h2
        obtain ⟨j, rfl⟩ : ∃ j, k = j + 1 := ⟨k - 1, by omega⟩
        exact (bad _).1
      · intro t m h; rw [List.nil_append, (bad r).2] at h; cases h
      · intro _ h; simp [thrOk] at h

end Go.Proofs.YtklenjmfalljgaaDoor

/- The program's way through a text and the reference's come to the same. -/
namespace Go.Proofs.YtklenjmfalljgaaDoor

theorem thr_len (last n : Int) (l : List Nat) : (thr last n l).2 ≤ l.length := by
  induction l generalizing n with
  | nil => simp [thr]
  | cons b r ih =>
    unfold thr
    split
    · simpa using ih _
    · simp
theorem thr_blank (last n : Int) (q u : List Nat) : thr last n (q ++ 32 :: u) = thr last n q := by
  induction q generalizing n with
  | nil => simp [thr, isD]
  | cons b r ih => simp only [List.cons_append, thr, ih]
theorem cnt_blank (n : Int) (q u : List Nat) : cnt n (q ++ 32 :: u) = cnt n q := by
  induction q generalizing n with
  | nil => simp [cnt, isD]
  | cons b r ih => simp only [List.cons_append, cnt, ih]

theorem runP_blank (last : Int) (q u : List Nat) : runP last (q ++ 32 :: u) = runP last q := by
  have hl := thr_len last (-1) q
  unfold runP
  rw [thr_blank]
  generalize (thr last (-1) q).2 = j at *
  by_cases h : j < q.length
  · have e1 : (q ++ 32 :: u)[j]? = q[j]? := List.getElem?_append_left h
    have e2 : (q ++ 32 :: u).drop (j + 1) = q.drop (j + 1) ++ 32 :: u := by
      rw [List.drop_append]
      have : j + 1 - q.length = 0 := by omega
      rw [this, List.drop_zero]
    rw [e1, e2, cnt_blank]
  · obtain rfl : j = q.length := by omega
    have e1 : (q ++ 32 :: u)[q.length]? = some 32 := by simp
    have e2 : q[q.length]? = none := by simp
    rw [e1, e2]
    have e3 : ((some 32 : Option Nat) == some 42) = false := by decide
    have e4 : ((none : Option Nat) == some 42) = false := by decide
    rw [e3, e4]
    simp

theorem parts_one (q : List Nat) (h : ∀ x ∈ q, x ≠ 32) : partsR q = [q] := by
  induction q with
  | nil => rfl
  | cons b r ih =>
    have hb : b ≠ 32 := h b (by simp)
    rw [partsR, if_neg hb, ih (fun x hx => h x (by simp [hx]))]; rfl
theorem parts_two (q u : List Nat) (h : ∀ x ∈ q, x ≠ 32) : partsR (q ++ 32 :: u) = q :: partsR u := by
  induction q with
  | nil => simp [partsR]
  | cons b r ih =>
    have hb : b ≠ 32 := h b (by simp)
    rw [List.cons_append, partsR, if_neg hb, ih (fun x hx => h x (by simp [hx]))]; rfl
theorem parts_ne (l : List Nat) : partsR l ≠ [] := by
  cases l with
  | nil => simp [partsR]
  | cons b r => unfold partsR; split <;> simp

theorem split_blank (l : List Nat) : (∀ x ∈ l, x ≠ 32) ∨ ∃ q u, l = q ++ 32 :: u ∧ ∀ x ∈ q, x ≠ 32 := by
  induction l with
  | nil => left; simp
  | cons b r ih =>
    by_cases hb : b = 32
    · right; exact ⟨[], r, by simp [hb], by simp⟩
    · rcases ih with h | ⟨q, u, rfl, h⟩
      · left
        intro x hx
        rcases List.mem_cons.1 hx with rfl | hx
        · exact hb
        · exact h x hx
      · right
        refine ⟨b :: q, u, rfl, ?_⟩
        intro x hx
        rcases List.mem_cons.1 hx with rfl | hx
        · exact hb
        · exact h x hx

/-- Whether runs are runs does not hang on what was there. -/
theorem whole_out (qs : List (List Nat)) (ahead : Int) (o o' : List Int) : (wholeR qs ahead o).map (·.2) = (wholeR qs ahead o').map (·.2) := by
  induction qs generalizing ahead o o' with
  | nil => rfl
  | cons q qs ih =>
    unfold wholeR
    cases runR q ahead with
    | none => rfl
    | some x => exact ih _ _ _

theorem viable_eq (ahead : Int) (l : List Nat) : viable ahead l = match (wholeR (partsR l).dropLast ahead []).map (·.2) with
    | none => false
    | some a => beginsR ((partsR l).getLastD []) a := by
  unfold viable
  cases wholeR (partsR l).dropLast ahead [] <;> rfl

theorem viable_one (ahead : Int) (q : List Nat) (h : ∀ x ∈ q, x ≠ 32) : viable ahead q = beginsR q ahead := by
  unfold viable; rw [parts_one q h]; rfl
theorem viable_two (ahead : Int) (q u : List Nat) (h : ∀ x ∈ q, x ≠ 32) : viable ahead (q ++ 32 :: u) = match runR q ahead with
    | none => false
    | some x => viable x.1 u := by
  rw [viable_eq, parts_two q u h]
  have e1 : (q :: partsR u).dropLast = q :: (partsR u).dropLast := by rw [List.dropLast_cons_of_ne_nil (parts_ne u)]
  have e2 : (q :: partsR u).getLastD [] = (partsR u).getLastD [] := by
    cases hp : partsR u with
    | nil => exact absurd hp (parts_ne u)
    | cons a b => rfl
  rw [e1, e2, wholeR]
  cases runR q ahead with
  | none => rfl
  | some x =>
    simp only
    rw [viable_eq, whole_out _ _ _ []]

/-- m is the length of the longest beginning of l that may begin runs behind one of a thread. -/
structure IsLng (ahead : Int) (l : List Nat) (m : Nat) : Prop where
  le : m ≤ l.length
  yes : viable ahead (l.take m) = true
  no : ∀ k, m < k → k ≤ l.length → viable ahead (l.take k) = false

theorem search_lng {l : List Nat} {m : Nat} (h : IsLng (-1) l m) (n : Nat) (hm : m ≤ n) (hn : n ≤ l.length) : searchR l n = m := by
  induction n with
  | zero => simp [searchR]; omega
  | succ n ih =>
    unfold searchR
    by_cases e : m = n + 1
    · rw [if_pos]
      · exact e.symm
      · rw [← e]; exact h.yes
    · rw [if_neg (by rw [h.no (n + 1) (by omega) hn]; simp)]
      exact ih (by omega) (by omega)

theorem take_blank {q u : List Nat} {k : Nat} (h : k ≤ q.length) : (q ++ 32 :: u).take k = q.take k := List.take_append_of_le_length h
theorem take_mem {q : List Nat} (h : ∀ x ∈ q, x ≠ 32) (k : Nat) : ∀ x ∈ q.take k, x ≠ 32 := fun x hx => h x (List.mem_of_mem_take hx)
theorem take_over (q u : List Nat) (j : Nat) : (q ++ 32 :: u).take (q.length + 1 + j) = q ++ 32 :: u.take j := by
  rw [List.take_append, List.take_of_length_le (by omega)]
  have : q.length + 1 + j - q.length = j + 1 := by omega
  rw [this, List.take_succ_cons]

theorem lng_one {last : Int} {q : List Nat} (h : ∀ x ∈ q, x ≠ 32) : IsLng last q (runP last q).len := by
  have A := auto last q
  refine ⟨A.len, ?_, ?_⟩
  · rw [viable_one _ _ (take_mem h _), A.pre _ A.len]; simp
  · intro k h1 h2
    rw [viable_one _ _ (take_mem h _), A.pre _ h2]; simp; omega
theorem lng_two_bad {last : Int} {q u : List Nat} (h : ∀ x ∈ q, x ≠ 32) (hr : runR q last = none) : IsLng last (q ++ 32 :: u) (runP last q).len := by
  have A := auto last q
  have hl := A.len
  refine ⟨by simp; omega, ?_, ?_⟩
  · rw [take_blank A.len, viable_one _ _ (take_mem h _), A.pre _ A.len]; simp
  · intro k h1 h2
    by_cases h3 : k ≤ q.length
    · rw [take_blank h3, viable_one _ _ (take_mem h _), A.pre _ h3]; simp; omega
    · obtain ⟨j, rfl⟩ : ∃ j, k = q.length + 1 + j := ⟨k - (q.length + 1), by omega⟩
      rw [take_over, viable_two _ _ _ h, hr]
theorem lng_two {last t n : Int} {q u : List Nat} {m : Nat} (h : ∀ x ∈ q, x ≠ 32) (hr : runR q last = some (t, n)) (hm : IsLng t u m) : IsLng last (q ++ 32 :: u) (q.length + 1 + m) := by
  have hl := hm.le
  refine ⟨by simp; omega, ?_, ?_⟩
  · rw [take_over, viable_two _ _ _ h, hr]; exact hm.yes
  · intro k h1 h2
    obtain ⟨j, rfl⟩ : ∃ j, k = q.length + 1 + j := ⟨k - (q.length + 1), by omega⟩
    rw [take_over, viable_two _ _ _ h, hr]
    exact hm.no j (by omega) (by simp at h2; omega)

theorem loop_eq (f : Nat) (sch out : List Int) (last total : Int) (at_ : Nat) (l : List Nat) (hf : l.length < f) (ht : total = out.length) (hs : total < 501 → sch = out) (h501 : total ≤ 501) :
    match wholeR (partsR l) last out with
    | some (o, _) => loopP f sch last total at_ l = if 500 < o.length then ⟨[], 0, false⟩ else ⟨o, 0, true⟩
    | none => ∃ m, IsLng last l m ∧ loopP f sch last total at_ l = ⟨[], at_ + m, false⟩ := by
  induction f generalizing sch out last total at_ l with
  | zero => omega
  | succ f ih =>
    have next : ∀ (q : List Nat) (t n : Int), runR q last = some (t, n) → min (total + (runP last q).count) 501 = ((fillR out t n).length : Int) ∧
        (min (total + (runP last q).count) 501 < 501 → addRun sch (min (total + (runP last q).count) 501) (runP last q).count (runP last q).thread = fillR out t n) := by
      intro q t n h
      obtain ⟨h1, h2, h3, h4, h5⟩ := (auto last q).yes t n h
      have e : ((fillR out t n).length : Int) = min (total + (runP last q).count) 501 := by
        unfold fillR; simp; omega
      refine ⟨e.symm, fun hlt => ?_⟩
      unfold addRun fillR
      rw [if_pos hlt, h3, h4, hs (by omega)]
      have : (min n 501).toNat = min n.toNat (501 - out.length) := by omega
      rw [this]
    rcases split_blank l with hb | ⟨q, u, rfl, hb⟩
    · rw [parts_one l hb]
      simp only [wholeR]
      have A := auto last l
      cases hr : runR l last with
      | none =>
        simp only
        refine ⟨(runP last l).len, lng_one hb, ?_⟩
        unfold loopP
        by_cases hok : (runP last l).ok = true
        · have hne := A.no hr hok
          have hlt : (runP last l).len < l.length := by have := A.len; omega
          rw [if_pos hok, List.drop_eq_getElem_cons hlt]
          simp only
          rw [if_neg (hb _ (List.getElem_mem hlt))]
        · rw [if_neg hok]
      | some x =>
        obtain ⟨t, n⟩ := x
        simp only
        obtain ⟨h1, h2, h3, h4, h5⟩ := A.yes t n hr
        obtain ⟨n1, n2⟩ := next l t n hr
        unfold loopP
        rw [if_pos h1, h2, List.drop_length]
        simp only
        by_cases h6 : min (total + (runP last l).count) 501 = 501
        · rw [if_pos h6, if_pos (by omega)]
        · rw [if_neg h6, if_neg (by omega), n2 (by omega)]
    · rw [parts_two q u hb]
      simp only [wholeR]
      have A := auto last q
      have hP := runP_blank last q u
      cases hr : runR q last with
      | none =>
        simp only
        refine ⟨(runP last q).len, lng_two_bad hb hr, ?_⟩
        unfold loopP
        rw [hP]
        by_cases hok : (runP last q).ok = true
        · have hne := A.no hr hok
          have hlt : (runP last q).len < q.length := by have := A.len; omega
          have hlt2 : (runP last q).len < (q ++ 32 :: u).length := by simp; omega
          rw [if_pos hok, List.drop_eq_getElem_cons hlt2]
          simp only
          rw [if_neg]
          rw [List.getElem_append_left hlt]
          exact hb _ (List.getElem_mem hlt)
        · rw [if_neg hok]
      | some x =>
        obtain ⟨t, n⟩ := x
        simp only
        obtain ⟨h1, h2, h3, h4, h5⟩ := A.yes t n hr
        obtain ⟨n1, n2⟩ := next q t n hr
        have e : loopP (f + 1) sch last total at_ (q ++ 32 :: u) = loopP f (addRun sch (min (total + (runP last q).count) 501) (runP last q).count (runP last q).thread) t (min (total + (runP last q).count) 501) (at_ + q.length + 1) u := by
          conv => lhs; unfold loopP
          rw [hP, if_pos h1, h2]
          have e2 : (q ++ 32 :: u).drop q.length = 32 :: u := by simp
          rw [e2]
          simp only [if_true, h3]
        rw [e]
        have := ih (addRun sch (min (total + (runP last q).count) 501) (runP last q).count (runP last q).thread) (fillR out t n) t (min (total + (runP last q).count) 501) (at_ + q.length + 1) u (by simp at hf; omega) n1 n2 (by omega)
        cases hw : wholeR (partsR u) t (fillR out t n) with
        | none =>
          rw [hw] at this
          simp only at this ⊢
          obtain ⟨m, hm1, hm2⟩ := this
          exact ⟨q.length + 1 + m, lng_two hb hr hm1, by rw [hm2]; congr 1; omega⟩
        | some y =>
          rw [hw] at this
          exact this

theorem parse_eq (l : List Nat) : parseP l = parseR l := by
  unfold parseP parseR
  by_cases h0 : l = []
  · rw [if_pos h0, if_pos h0]
  · rw [if_neg h0, if_neg h0]
    have := loop_eq (l.length + 1) [] [] (-1) 0 0 l (by omega) rfl (fun _ => rfl) (by omega)
    cases hw : wholeR (partsR l) (-1) [] with
    | none =>
      rw [hw] at this
      obtain ⟨m, h1, h2⟩ := this
      simp only
      rw [h2, search_lng h1 l.length h1.le (Nat.le_refl _)]; simp
    | some y => rw [hw] at this; exact this

end Go.Proofs.YtklenjmfalljgaaDoor

/- The walks of the scanner's methods. -/
namespace Go.Proofs.YtklenjmfalljgaaDoor
open Go.RowKit
attribute [local go_sem] Go.World.cell?_alloc_some

def byt (s : ByteArray) : List Nat := s.data.toList.map UInt8.toNat

def ScAt (w : World) (b : Nat) (s : ByteArray) (a : Nat) : Prop := w.heap[b]? = some (.cells #[.string s, .int .i64 a] 165 (0, 0))

set_option maxHeartbeats 400000 in
theorem tbegins_m (m : Int) (w : World) (h0 : -1000 ≤ m) (h1 : m ≤ 1000) : Calls Tryd.prog 198 #[.int .i64 m] w fun e w' => e = .returned (.bool (beginsB m)) ∧ w' = w := by
  by_cases h2 : 0 < m
  · by_cases h3 : 10 * m < 63
    · have HB : Hid (beginsB m = true) := by unfold Hid; simp [beginsB, h2, h3]
      go_enter Tryd.func198, Tryd.ntmps198
      go_wp2
      go_ret
      exact ⟨by rw [HB.out]; rfl, rfl⟩
    · have HB : Hid (beginsB m = false) := by unfold Hid; simp [beginsB, h2, h3]
      go_enter Tryd.func198, Tryd.ntmps198
      go_wp2
      go_ret
      exact ⟨by rw [HB.out]; rfl, rfl⟩
  · have HB : Hid (beginsB m = false) := by unfold Hid; simp [beginsB, h2]
    go_enter Tryd.func198, Tryd.ntmps198
    go_wp2
    go_ret
    exact ⟨by rw [HB.out]; rfl, rfl⟩

set_option maxHeartbeats 1000000 in
theorem grows_m (n d last : Int) (w : World) (h0 : -1 ≤ n) (h1 : n ≤ 63) (h2 : 0 ≤ d) (h3 : d ≤ 9) : Calls Tryd.prog 169 #[.int .i64 n, .int .i64 d, .int .i64 last] w fun e w' => e = .returned (.bool (growsB n d last)) ∧ w' = w := by
  by_cases hn : n < 0
  · have hm : max n 0 = 0 := by omega
    have HG : Hid (growsB n d last = (!(n == 0) && ((decide (d ≤ 63) && !(d == last)) || beginsB d))) := by
      unfold Hid growsB; rw [hm]; simp
    go_enter Tryd.func169, Tryd.ntmps169
    go_wp2_with (go_at_call 198; refine (tbegins_m _ _ (by omega) (by omega)).mono ?_; rintro e w' ⟨rfl, rfl⟩)
    all_goals (go_ret; refine ⟨?_, rfl⟩; rw [HG.out]; simp [*] <;> omega)
  · have hm : max n 0 = n := by omega
    have HG : Hid (growsB n d last = (!(n == 0) && ((decide (n * 10 + d ≤ 63) && !(n * 10 + d == last)) || beginsB (n * 10 + d)))) := by
      unfold Hid growsB; rw [hm]
    go_enter Tryd.func169, Tryd.ntmps169
    go_wp2_with (go_at_call 198; refine (tbegins_m _ _ (by omega) (by omega)).mono ?_; rintro e w' ⟨rfl, rfl⟩)
    all_goals (go_ret; refine ⟨?_, rfl⟩; rw [HG.out]; simp [*] <;> omega)

theorem byt_len (s : ByteArray) : (byt s).length = s.size := by simp [byt]
theorem byt_get (s : ByteArray) (a : Nat) (h : a < s.size) : (byt s)[a]? = some s[a].toNat := by
  have : a < s.data.toList.length := by simpa using h
  rw [byt, List.getElem?_map, List.getElem?_eq_getElem this]; rfl
theorem byt_end (s : ByteArray) (a : Nat) (h : s.size ≤ a) : (byt s)[a]? = none := by
  rw [List.getElem?_eq_none_iff, byt_len]; exact h
theorem byt_lt (s : ByteArray) (c : Nat) (h : c ∈ byt s) : c < 256 := by
  simp only [byt, List.mem_map] at h
  obtain ⟨x, _, rfl⟩ := h
  exact x.toNat_lt

def digV (c : Option Nat) : Value := match c with
  | some c => if isD c = true then .tuple #[.int .i64 ((c : Int) - 48), .bool true] else .tuple #[.int .i64 0, .bool false]
  | none => .tuple #[.int .i64 0, .bool false]

set_option maxHeartbeats 1000000 in
theorem digit_m (s : ByteArray) (b a : Nat) (w : World) (h : ScAt w b s a) (ha : a ≤ s.size) :
    Calls Tryd.prog 168 #[pt b] w fun e w' => Like w' w ∧ e = .returned (digV (byt s)[a]?) := by
  have c0 : w.cell? ⟨b, 0, none⟩ = some (.string s) := by unfold ScAt at h; simp [World.cell?, h]
  have c1 : w.cell? ⟨b, 1, none⟩ = some (.int .i64 a) := by unfold ScAt at h; simp [World.cell?, h]
  clear h
  unfold pt
  by_cases hlt : a < s.size
  · have h1 : (a : Int) < s.size := by omega
    have h2 : ((a : Int) == (s.size : Int)) = false := by simp; omega
    have hb := s[a].toNat_lt
    have HE := hide (byt_get s a hlt)
    by_cases h48 : s[a].toNat < 48
    · have g1 : ((s[a].toNat : Nat) : Int) < 48 := by omega
      have HD : Hid (isD s[a].toNat = false) := by unfold Hid; simp [isD]; omega
      go_enter Tryd.func168, Tryd.ntmps168
      go_wp2
      go_quiet (fail)
      go_wp2
      refine bodyPost_ret (v := .tuple #[.int .i64 0, .bool false]) (by simp [results, Tryd.results168, go_sem]) rfl ?_
      refine ⟨like_dn (like_refl _) _, ?_⟩
      rw [HE.out]; simp [digV, HD.out]
    · have g1 : ¬ ((s[a].toNat : Nat) : Int) < 48 := by omega
      by_cases h57 : s[a].toNat ≤ 57
      · have g2 : ((s[a].toNat : Nat) : Int) ≤ 57 := by omega
        have HD : Hid (isD s[a].toNat = true) := by unfold Hid; simp [isD]; omega
        go_enter Tryd.func168, Tryd.ntmps168
        go_wp2
        go_quiet (fail)
        go_wp2
        go_quiet (fail)
        go_wp2
        refine bodyPost_ret (v := .tuple #[.int .i64 (((s[a].toNat : Nat) : Int) - 48), .bool true]) (by simp [results, Tryd.results168, go_sem]) rfl ?_
        refine ⟨like_dn (like_dn (like_refl _) _) _, ?_⟩
        rw [HE.out]; simp [digV, HD.out]
      · have g2 : 57 < ((s[a].toNat : Nat) : Int) := by omega
        have HD : Hid (isD s[a].toNat = false) := by unfold Hid; simp [isD]; omega
        go_enter Tryd.func168, Tryd.ntmps168
        go_wp2
        go_quiet (fail)
        go_wp2
        refine bodyPost_ret (v := .tuple #[.int .i64 0, .bool false]) (by simp [results, Tryd.results168, go_sem]) rfl ?_
        refine ⟨like_dn (like_refl _) _, ?_⟩
        rw [HE.out]; simp [digV, HD.out]
  · have h2 : ((a : Int) == (s.size : Int)) = true := by simp; omega
    have HE := hide (byt_end s a (by omega))
    go_enter Tryd.func168, Tryd.ntmps168
    go_wp2
    go_quiet (fail)
    go_wp2
    refine bodyPost_ret (v := .tuple #[.int .i64 0, .bool false]) (by simp [results, Tryd.results168, go_sem]) rfl ?_
    refine ⟨like_dn (like_refl _) _, ?_⟩
    rw [HE.out]; simp [digV]

end Go.Proofs.YtklenjmfalljgaaDoor

/- The walks of the scanner's other methods. -/
namespace Go.Proofs.YtklenjmfalljgaaDoor
open Go.RowKit
attribute [local go_sem] Go.World.cell?_alloc_some

theorem ScAt.c0 {w : World} {b : Nat} {s : ByteArray} {a : Nat} (h : ScAt w b s a) : w.cell? ⟨b, 0, none⟩ = some (.string s) := by unfold ScAt at h; simp [World.cell?, h]
theorem ScAt.c1 {w : World} {b : Nat} {s : ByteArray} {a : Nat} (h : ScAt w b s a) : w.cell? ⟨b, 1, none⟩ = some (.int .i64 a) := by unfold ScAt at h; simp [World.cell?, h]
theorem ScAt.f1 {w : World} {b : Nat} {s : ByteArray} {a : Nat} (h : ScAt w b s a) : w.frozen? ⟨b, 1, none⟩ = false := by unfold ScAt at h; simp [World.frozen?, h]
theorem ScAt.set {w : World} {b : Nat} {s : ByteArray} {a : Nat} (h : ScAt w b s a) (x : Nat) : ScAt (w.setCell ⟨b, 1, none⟩ (.int .i64 x)) b s x := by
  unfold ScAt at *; rw [heap_setCell_same w b 1 _ _ _ h]; rfl
theorem ScAt.like {w w' : World} {b : Nat} {s : ByteArray} {a : Nat} (h : ScAt w b s a) (hl : Like w' w) : ScAt w' b s a := by
  unfold ScAt at *; rw [hl.1]; exact h
theorem ScAt.lt {w : World} {b : Nat} {s : ByteArray} {a : Nat} (h : ScAt w b s a) : b < w.heap.size := (Array.getElem?_eq_some_iff.1 h).1

def hitB (s : ByteArray) (a c : Nat) : Bool := (byt s)[a]? == some c
def skAt (s : ByteArray) (a c : Nat) : Nat := if hitB s a c = true then a + 1 else a

set_option maxRecDepth 100000 in
set_option maxHeartbeats 1000000 in
theorem skip_m (s : ByteArray) (b a c : Nat) (w : World) (h : ScAt w b s a) (ha : a ≤ s.size) (hs : s.size ≤ 9223372036854775806) :
    Calls Tryd.prog 90 #[pt b, .int .u8 c] w fun e w' => w.grownBy w' (some b) ∧ e = .returned (.bool (hitB s a c)) ∧ ScAt w' b s (skAt s a c) := by
  have c0 := h.c0
  have c1 := h.c1
  have f1 := h.f1
  have HH := hide h
  clear h
  unfold pt
  by_cases hlt : a < s.size
  · have h1 : (a : Int) < s.size := by omega
    have h2 : ((a : Int) == (s.size : Int)) = false := by simp; omega
    by_cases hc : s[a].toNat = c
    · have HB : Hid (hitB s a c = true) := by unfold Hid hitB; rw [byt_get s a hlt, hc]; simp
      have g1 : ((s[a].toNat : Nat) : Int) = (c : Int) := by omega
      have hsz : (a : Int) + 1 ≤ 9223372036854775807 := by omega
      go_enter Tryd.func90, Tryd.ntmps90
      go_wp2
      go_quiet (fail)
      go_wp2
      go_ret
      refine ⟨?_, by rw [HB.out]; rfl, ?_⟩
      · exact grown_drewN _ grown_set
      · rw [skAt, HB.out, if_pos rfl]
        have := (HH.out.like (like_dn (like_refl _) nq)).set (a + 1)
        simpa using this
    · have HB : Hid (hitB s a c = false) := by unfold Hid hitB; rw [byt_get s a hlt]; simpa using hc
      have g1 : ((s[a].toNat : Nat) : Int) ≠ (c : Int) := by omega
      go_enter Tryd.func90, Tryd.ntmps90
      go_wp2
      go_quiet (fail)
      go_wp2
      go_ret
      refine ⟨grown_drewN _ (grown_refl _ _), by rw [HB.out]; rfl, ?_⟩
      rw [skAt, HB.out, if_neg (by simp)]
      exact HH.out.like (like_dn (like_refl _) _)
  · have h2 : ((a : Int) == (s.size : Int)) = true := by simp; omega
    have HB : Hid (hitB s a c = false) := by unfold Hid hitB; rw [byt_end s a (by omega)]; simp
    go_enter Tryd.func90, Tryd.ntmps90
    go_wp2
    go_quiet (fail)
    go_wp2
    go_ret
    refine ⟨grown_drewN _ (grown_refl _ _), by rw [HB.out]; rfl, ?_⟩
    rw [skAt, HB.out, if_neg (by simp)]
    exact HH.out.like (like_dn (like_refl _) _)

def atOf (w : World) (b : Nat) : Nat := match w.cell? ⟨b, 1, none⟩ with
  | some (.int _ x) => x.toNat
  | _ => 0
theorem atOf_sc {w : World} {b : Nat} {s : ByteArray} {a : Nat} (h : ScAt w b s a) : atOf w b = a := by simp [atOf, h.c1]

theorem drop_get {l : List Nat} {a c : Nat} (h : l[a]? = some c) : l.drop a = c :: l.drop (a + 1) := by
  obtain ⟨hl, rfl⟩ := List.getElem?_eq_some_iff.1 h
  exact List.drop_eq_getElem_cons hl

theorem hi_lt_of_get {l : List Nat} {a c : Nat} (h : l[a]? = some c) : a < l.length := (List.getElem?_eq_some_iff.1 h).1

/-- In the midst of a number: at a', n' so far. -/
structure ThrIn (w : World) (b : Nat) (s : ByteArray) (last : Int) (a : Nat) (n' : Int) (a' : Nat) (w' : World) : Prop where
  grown : w.grownBy w' (some b)
  sc : ScAt w' b s a'
  le : a' ≤ s.size
  lo : -1 ≤ n'
  hi : n' ≤ 63
  num : (thr last n' ((byt s).drop a')).1 = (thr last (-1) ((byt s).drop a)).1
  len : a' + (thr last n' ((byt s).drop a')).2 = a + (thr last (-1) ((byt s).drop a)).2

theorem growsB_hi {n d last : Int} (h : growsB n d last = true) : max n 0 * 10 + d ≤ 63 := by
  simp only [growsB, beginsB, Bool.and_eq_true, Bool.or_eq_true, decide_eq_true_eq] at h
  omega

theorem thr_step {last n : Int} {c : Nat} {l : List Nat} (hd : isD c = true) (hg : growsB n ((c : Int) - 48) last = true) : thr last n (c :: l) = ((thr last (nxt n c) l).1, (thr last (nxt n c) l).2 + 1) := by
  rw [thr, if_pos (by rw [hd, hg]; rfl)]
theorem thr_stop {last n : Int} {c : Nat} {l : List Nat} (h : (isD c && growsB n ((c : Int) - 48) last) = false) : thr last n (c :: l) = (n, 0) := by
  rw [thr, if_neg (by rw [h]; simp)]

set_option maxRecDepth 100000 in
set_option maxHeartbeats 4000000 in
theorem thread_m (s : ByteArray) (b a : Nat) (last : Int) (w : World) (h : ScAt w b s a) (ha : a ≤ s.size) (hs : s.size ≤ 9223372036854775806) :
    Calls Tryd.prog 126 #[pt b, .int .i64 last] w fun e w' => w.grownBy w' (some b) ∧
      e = .returned (.tuple #[.int .i64 (thr last (-1) ((byt s).drop a)).1, .bool (thrOk last (thr last (-1) ((byt s).drop a)).1)]) ∧ ScAt w' b s (a + (thr last (-1) ((byt s).drop a)).2) ∧ -1 ≤ (thr last (-1) ((byt s).drop a)).1 ∧ (thr last (-1) ((byt s).drop a)).1 ≤ 63 := by
  have H0 : Hid (ThrIn w b s last a (-1) a w) := ⟨grown_refl _ _, h, ha, by omega, by omega, rfl, rfl⟩
  clear h
  unfold pt
  go_enter Tryd.func126, Tryd.ntmps126
  go_wp2_with fail
  go_loopw [6] (fun i w' => ∃ (n' : Int) (a' : Nat), i = .int .i64 n' ∧ Hid (ThrIn w b s last a n' a' w')) (fun _ w' => s.size - atOf w' b)
  case atStart => exact ⟨-1, a, rfl, H0.out⟩
  case round =>
    obtain ⟨n', a', rfl, HI⟩ := hrel
    have hlo := HI.out.lo
    have hhi := HI.out.hi
    have HAT : Hid (atOf wr b = a') := atOf_sc HI.out.sc
    go_wp2_with fail
    refine (digit_m s b a' _ HI.out.sc HI.out.le).mono ?_
    rintro e w1 ⟨hl, rfl⟩
    have HI1 : Hid (ThrIn w b s last a n' a' w1) := ⟨grown_like HI.out.grown hl, HI.out.sc.like hl, HI.out.le, hlo, hhi, HI.out.num, HI.out.len⟩
    have fin : ∀ w2, Like w2 w1 → (thr last n' ((byt s).drop a')) = (n', 0) → w.grownBy w2 (some b) ∧ (thr last (-1) ((byt s).drop a)).1 = n' ∧ ScAt w2 b s (a + (thr last (-1) ((byt s).drop a)).2) := by
      intro w2 hl2 he
      have e1 := HI1.out.num
      have e2 := HI1.out.len
      rw [he] at e1 e2
      refine ⟨grown_like HI1.out.grown hl2, e1.symm, ?_⟩
      rw [← e2]; exact HI1.out.sc.like hl2
    have FIN := hide fin
    clear fin hl HI
    cases hc : (byt s)[a']? with
    | none =>
      have HT : Hid (thr last n' ((byt s).drop a') = (n', 0)) := by
        unfold Hid
        rw [List.drop_eq_nil_of_le (List.getElem?_eq_none_iff.1 hc)]; rfl
      simp only [digV]
      go_wp2_with fail
      all_goals
        refine bodyPost_ret (v := .tuple #[.int .i64 n', .bool (n' != -1 && n' != last)]) (by simp [results, Tryd.results126, go_sem, *]) rfl ?_
        obtain ⟨q1, q2, q3⟩ := FIN.out w1 (like_refl _) HT.out
        exact ⟨q1, by rw [q2]; rfl, q3, by rw [q2]; exact hlo, by rw [q2]; exact hhi⟩
    | some c =>
      have hdr := drop_get hc
      cases hd : isD c with
      | false =>
        have HT : Hid (thr last n' ((byt s).drop a') = (n', 0)) := by
          unfold Hid; rw [hdr]; exact thr_stop (by rw [hd]; rfl)
        simp only [digV, hd, Bool.false_eq_true, if_false]
        clear hdr
        go_wp2_with fail
        all_goals
          refine bodyPost_ret (v := .tuple #[.int .i64 n', .bool (n' != -1 && n' != last)]) (by simp [results, Tryd.results126, go_sem, *]) rfl ?_
          obtain ⟨q1, q2, q3⟩ := FIN.out w1 (like_refl _) HT.out
          exact ⟨q1, by rw [q2]; rfl, q3, by rw [q2]; exact hlo, by rw [q2]; exact hhi⟩
      | true =>
        have hcr : 48 ≤ c ∧ c ≤ 57 := by simpa [isD] using hd
        simp only [digV, hd, if_true]
        have alt := hi_lt_of_get hc
        cases hg : growsB n' ((c : Int) - 48) last with
        | false =>
          have HT : Hid (thr last n' ((byt s).drop a') = (n', 0)) := by
            unfold Hid; rw [hdr]; exact thr_stop (by rw [hg]; simp)
          clear hdr
          go_wp2_with (go_at_call 169; refine (grows_m _ _ _ _ hlo hhi (by omega) (by omega)).mono ?_; rintro e w' ⟨rfl, rfl⟩; rw [hg])
          all_goals
            refine bodyPost_ret (v := .tuple #[.int .i64 n', .bool (n' != -1 && n' != last)]) (by simp [results, Tryd.results126, go_sem, *]) rfl ?_
            obtain ⟨q1, q2, q3⟩ := FIN.out _ (like_refl _) HT.out
            exact ⟨q1, by rw [q2]; rfl, q3, by rw [q2]; exact hlo, by rw [q2]; exact hhi⟩
        | true =>
          have hst := thr_step (l := (byt s).drop (a' + 1)) hd hg
          have hgh := growsB_hi hg
          have HN : Hid (ThrIn w b s last a (nxt n' c) (a' + 1) (w1.setCell ⟨b, 1, none⟩ (.int .i64 (a' + 1 : Nat)))) := by
            have e1 := HI1.out.num
            have e2 := HI1.out.len
            rw [hdr, hst] at e1 e2
            exact ⟨grown_trans HI1.out.grown grown_set, HI1.out.sc.set (a' + 1), by rw [byt_len] at alt; omega, by unfold nxt; omega, hgh, e1, by simp only at e2; omega⟩
          have c1 := HI1.out.sc.c1
          have f1 := HI1.out.sc.f1
          rw [byt_len] at alt
          have hsz : (a' : Int) + 1 ≤ 9223372036854775807 := by omega
          have HA : Hid (atOf wr b = a') := HAT.out
          clear hdr hst
          by_cases hneg : n' < 0
          · have hnx : Hid (nxt n' c = (c : Int) - 48) := by unfold Hid nxt; omega
            go_wp2_with (go_at_call 169; refine (grows_m _ _ _ _ hlo hhi (by omega) (by omega)).mono ?_; rintro e w' ⟨rfl, rfl⟩; rw [hg])
            go_roundw
            case rel => exact ⟨nxt n' c, a' + 1, by rw [hnx.out], hide (by simpa using HN.out)⟩
            case measure =>
              have := atOf_sc HN.out.sc
              have h2 := HA.out
              simp only [Int.natCast_add, Int.natCast_one] at this
              omega
          · have hnx : Hid (nxt n' c = n' * 10 + ((c : Int) - 48)) := by unfold Hid nxt; omega
            go_wp2_with (go_at_call 169; refine (grows_m _ _ _ _ hlo hhi (by omega) (by omega)).mono ?_; rintro e w' ⟨rfl, rfl⟩; rw [hg])
            go_roundw
            case rel => exact ⟨nxt n' c, a' + 1, by rw [hnx.out], hide (by simpa using HN.out)⟩
            case measure =>
              have := atOf_sc HN.out.sc
              have h2 := HA.out
              simp only [Int.natCast_add, Int.natCast_one] at this
              omega

structure CntIn (w : World) (b : Nat) (s : ByteArray) (a : Nat) (n' : Int) (a' : Nat) (w' : World) : Prop where
  grown : w.grownBy w' (some b)
  sc : ScAt w' b s a'
  le : a' ≤ s.size
  lo : 0 ≤ n'
  hi : n' ≤ 501
  num : (cnt n' ((byt s).drop a')).1 = (cnt 0 ((byt s).drop a)).1
  len : a' + (cnt n' ((byt s).drop a')).2 = a + (cnt 0 ((byt s).drop a)).2

theorem cnt_step {n : Int} {c : Nat} {l : List Nat} (hd : (isD c && !(n == 0 && c == 48)) = true) : cnt n (c :: l) = ((cnt (min (10 * n + ((c : Int) - 48)) 501) l).1, (cnt (min (10 * n + ((c : Int) - 48)) 501) l).2 + 1) := by
  rw [cnt, if_pos hd]
theorem cnt_stop {n : Int} {c : Nat} {l : List Nat} (h : (isD c && !(n == 0 && c == 48)) = false) : cnt n (c :: l) = (n, 0) := by
  rw [cnt, if_neg (by rw [h]; simp)]

set_option maxRecDepth 100000 in
set_option maxHeartbeats 4000000 in
theorem count_m (s : ByteArray) (b a : Nat) (w : World) (h : ScAt w b s a) (ha : a ≤ s.size) (hs : s.size ≤ 9223372036854775806) :
    Calls Tryd.prog 127 #[pt b] w fun e w' => w.grownBy w' (some b) ∧
      e = .returned (.int .i64 (cnt 0 ((byt s).drop a)).1) ∧ ScAt w' b s (a + (cnt 0 ((byt s).drop a)).2) ∧ 0 ≤ (cnt 0 ((byt s).drop a)).1 ∧ (cnt 0 ((byt s).drop a)).1 ≤ 501 := by
  have H0 : Hid (CntIn w b s a 0 a w) := ⟨grown_refl _ _, h, ha, by omega, by omega, rfl, rfl⟩
  clear h
  unfold pt
  go_enter Tryd.func127, Tryd.ntmps127
  go_wp2_with fail
  go_loopw [3] (fun i w' => ∃ (n' : Int) (a' : Nat), i = .int .i64 n' ∧ Hid (CntIn w b s a n' a' w')) (fun _ w' => s.size - atOf w' b)
  case atStart => exact ⟨0, a, rfl, H0.out⟩
  case round =>
    obtain ⟨n', a', rfl, HI⟩ := hrel
    have hlo := HI.out.lo
    have hhi := HI.out.hi
    have HAT : Hid (atOf wr b = a') := atOf_sc HI.out.sc
    go_wp2_with fail
    refine (digit_m s b a' _ HI.out.sc HI.out.le).mono ?_
    rintro e w1 ⟨hl, rfl⟩
    have HI1 : Hid (CntIn w b s a n' a' w1) := ⟨grown_like HI.out.grown hl, HI.out.sc.like hl, HI.out.le, hlo, hhi, HI.out.num, HI.out.len⟩
    have fin : (cnt n' ((byt s).drop a')) = (n', 0) → w.grownBy w1 (some b) ∧ (cnt 0 ((byt s).drop a)).1 = n' ∧ ScAt w1 b s (a + (cnt 0 ((byt s).drop a)).2) := by
      intro he
      have e1 := HI1.out.num
      have e2 := HI1.out.len
      rw [he] at e1 e2
      refine ⟨HI1.out.grown, e1.symm, ?_⟩
      rw [← e2]; exact HI1.out.sc
    have FIN := hide fin
    clear fin hl HI
    cases hc : (byt s)[a']? with
    | none =>
      have HT : Hid (cnt n' ((byt s).drop a') = (n', 0)) := by
        unfold Hid
        rw [List.drop_eq_nil_of_le (List.getElem?_eq_none_iff.1 hc)]; rfl
      simp only [digV]
      go_wp2_with fail
      go_ret
      obtain ⟨q1, q2, q3⟩ := FIN.out HT.out
      exact ⟨q1, by rw [q2]; rfl, q3, by rw [q2]; exact hlo, by rw [q2]; exact hhi⟩
    | some c =>
      have hdr := drop_get hc
      have alt := hi_lt_of_get hc
      rw [byt_len] at alt
      cases hd : isD c with
      | false =>
        have HT : Hid (cnt n' ((byt s).drop a') = (n', 0)) := by
          unfold Hid; rw [hdr]; exact cnt_stop (by rw [hd]; rfl)
        simp only [digV, hd, Bool.false_eq_true, if_false]
        clear hdr
        go_wp2_with fail
        go_ret
        obtain ⟨q1, q2, q3⟩ := FIN.out HT.out
        exact ⟨q1, by rw [q2]; rfl, q3, by rw [q2]; exact hlo, by rw [q2]; exact hhi⟩
      | true =>
        have hcr : 48 ≤ c ∧ c ≤ 57 := by simpa [isD] using hd
        simp only [digV, hd, if_true]
        by_cases hz : n' = 0 ∧ c = 48
        · obtain ⟨rfl, rfl⟩ := hz
          have HT : Hid (cnt 0 ((byt s).drop a') = (0, 0)) := by
            unfold Hid; rw [hdr]; exact cnt_stop rfl
          clear hdr
          go_wp2_with fail
          go_ret
          obtain ⟨q1, q2, q3⟩ := FIN.out HT.out
          exact ⟨q1, by rw [q2]; rfl, q3, by rw [q2]; exact hlo, by rw [q2]; exact hhi⟩
        · have hst := cnt_step (n := n') (l := (byt s).drop (a' + 1)) (show (isD c && !(n' == 0 && c == 48)) = true by
            rw [hd]; simp; omega)
          have HN : Hid (CntIn w b s a (min (10 * n' + ((c : Int) - 48)) 501) (a' + 1) (w1.setCell ⟨b, 1, none⟩ (.int .i64 (a' + 1 : Nat)))) := by
            have e1 := HI1.out.num
            have e2 := HI1.out.len
            rw [hdr, hst] at e1 e2
            exact ⟨grown_trans HI1.out.grown grown_set, HI1.out.sc.set (a' + 1), by omega, by omega, by omega, e1, by simp only at e2; omega⟩
          have c1 := HI1.out.sc.c1
          have f1 := HI1.out.sc.f1
          have hsz : (a' : Int) + 1 ≤ 9223372036854775807 := by omega
          clear hdr hst
          have hq2 : n' = 0 → ((c : Int) - 48 == 0) = false := fun h => by simp; omega
          clear hz
          cases hq : (n' == 0) with
          | true =>
            have hq3 := hq2 (by simpa using hq)
            clear hq2
            by_cases hm : 501 < 10 * n' + ((c : Int) - 48)
            · have hnx : Hid (min (10 * n' + ((c : Int) - 48)) 501 = 501) := by unfold Hid; omega
              go_wp2_with fail
              all_goals
                go_roundw
                case rel => exact ⟨_, a' + 1, rfl, hide (by rw [hnx.out] at HN; simpa using HN.out)⟩
                case measure =>
                  have := atOf_sc HN.out.sc
                  have h2 := HAT.out
                  simp only [Int.natCast_add, Int.natCast_one] at this
                  omega
            · have hnx : Hid (min (10 * n' + ((c : Int) - 48)) 501 = 10 * n' + ((c : Int) - 48)) := by unfold Hid; omega
              go_wp2_with fail
              all_goals
                go_roundw
                case rel => exact ⟨_, a' + 1, rfl, hide (by rw [hnx.out] at HN; simpa using HN.out)⟩
                case measure =>
                  have := atOf_sc HN.out.sc
                  have h2 := HAT.out
                  simp only [Int.natCast_add, Int.natCast_one] at this
                  omega
          | false =>
            clear hq2
            by_cases hm : 501 < 10 * n' + ((c : Int) - 48)
            · have hnx : Hid (min (10 * n' + ((c : Int) - 48)) 501 = 501) := by unfold Hid; omega
              go_wp2_with fail
              all_goals
                go_roundw
                case rel => exact ⟨_, a' + 1, rfl, hide (by rw [hnx.out] at HN; simpa using HN.out)⟩
                case measure =>
                  have := atOf_sc HN.out.sc
                  have h2 := HAT.out
                  simp only [Int.natCast_add, Int.natCast_one] at this
                  omega
            · have hnx : Hid (min (10 * n' + ((c : Int) - 48)) 501 = 10 * n' + ((c : Int) - 48)) := by unfold Hid; omega
              go_wp2_with fail
              all_goals
                go_roundw
                case rel => exact ⟨_, a' + 1, rfl, hide (by rw [hnx.out] at HN; simpa using HN.out)⟩
                case measure =>
                  have := atOf_sc HN.out.sc
                  have h2 := HAT.out
                  simp only [Int.natCast_add, Int.natCast_one] at this
                  omega

end Go.Proofs.YtklenjmfalljgaaDoor

/- The walk of the scanner's run. -/
namespace Go.Proofs.YtklenjmfalljgaaDoor
open Go.RowKit
attribute [local go_sem] Go.World.cell?_alloc_some

def runT (s : ByteArray) (a : Nat) (last : Int) : RunP := runP last ((byt s).drop a)

theorem runT_no {s : ByteArray} {a : Nat} {last : Int} (h : (thrOk last (thr last (-1) ((byt s).drop a)).1 && hitB s (a + (thr last (-1) ((byt s).drop a)).2) 42) = false) :
    runT s a last = ⟨(thr last (-1) ((byt s).drop a)).1, 1, thrOk last (thr last (-1) ((byt s).drop a)).1, (thr last (-1) ((byt s).drop a)).2⟩ := by
  unfold runT runP
  rw [if_neg]
  unfold hitB at h
  rw [List.getElem?_drop, h]; simp
theorem runT_yes {s : ByteArray} {a : Nat} {last : Int} (h1 : thrOk last (thr last (-1) ((byt s).drop a)).1 = true) (h2 : hitB s (a + (thr last (-1) ((byt s).drop a)).2) 42 = true) :
    runT s a last = ⟨(thr last (-1) ((byt s).drop a)).1, (cnt 0 ((byt s).drop (a + (thr last (-1) ((byt s).drop a)).2 + 1))).1, decide (1 < (cnt 0 ((byt s).drop (a + (thr last (-1) ((byt s).drop a)).2 + 1))).1),
      (thr last (-1) ((byt s).drop a)).2 + 1 + (cnt 0 ((byt s).drop (a + (thr last (-1) ((byt s).drop a)).2 + 1))).2⟩ := by
  unfold runT runP
  unfold hitB at h2
  rw [if_pos (by rw [List.getElem?_drop, h1, h2]; rfl), List.drop_drop]
  simp only [Nat.add_assoc]

def RunAt (s : ByteArray) (b a : Nat) (last : Int) (w : World) (e : Ending) (w' : World) : Prop :=
  w.grownBy w' (some b) ∧ e = .returned (.tuple #[.agg #[.int .i64 (runT s a last).thread, .int .i64 (runT s a last).count], .bool (runT s a last).ok]) ∧ ScAt w' b s (a + (runT s a last).len) ∧
    0 ≤ (runT s a last).count ∧ (runT s a last).count ≤ 501 ∧ -1 ≤ (runT s a last).thread ∧ (runT s a last).thread ≤ 63

theorem ScAt.grown {w w' : World} {b : Nat} {s : ByteArray} {a : Nat} (h : ScAt w b s a) (hg : w.grownBy w' none) : ScAt w' b s a := by
  have hl := h.lt
  unfold ScAt at *; rw [hg.block b hl (by simp)]; exact h
theorem ScAt.setOther {w : World} {b g o : Nat} {v : Value} {s : ByteArray} {a : Nat} (h : ScAt w b s a) (hg : b ≠ g) : ScAt (w.setCell ⟨g, o, none⟩ v) b s a := by
  unfold ScAt at *; rw [Below.heap_setCell _ _ _ _ (by simpa using hg)]; exact h

set_option maxRecDepth 100000 in
set_option maxHeartbeats 4000000 in
theorem run_sc (s : ByteArray) (b a : Nat) (last : Int) (w : World) (h : ScAt w b s a) (ha : a ≤ s.size) (hs : s.size ≤ 9223372036854775806) :
    Calls Tryd.prog 91 #[pt b, .int .i64 last] w (RunAt s b a last w) := by
  have hb := h.lt
  have HH := hide h
  clear h
  have hpt : pt b = .pointer (some ⟨b, 0, none⟩) := rfl
  rw [hpt]
  go_enter Tryd.func91, Tryd.ntmps91
  go_wp2_with fail
  refine (thread_m s b a last _ (HH.out.grown (grown_alloc (grown_refl _ _))) ha hs).mono ?_
  rintro e w1 ⟨hg1, rfl, hs1, hlo, hhi⟩
  have hw1 : w.grownBy w1 (some b) := grown_trans (grown_alloc (grown_refl _ _)) hg1
  have hsz1 : w.heap.size < w1.heap.size := by have := hg1.size; simp at this; omega
  have hr1 : w1.heap[w.heap.size]? = some (.cells #[.int .i64 0, .int .i64 0] 161 (0, 0)) := by
    rw [hg1.block w.heap.size (by simp) (by simp; omega)]; exact heap_alloc_new w _
  have HW1 := hide hw1
  have HS1 := hide hs1
  have HR1 := hide hr1
  have hle1 : a + (thr last (-1) ((byt s).drop a)).2 ≤ s.size := by
    have := thr_len last (-1) ((byt s).drop a)
    rw [List.length_drop, byt_len] at this; omega
  have NO := @runT_no s a last
  have YES := @runT_yes s a last
  clear hg1 hw1 hs1 hr1
  generalize thr last (-1) ((byt s).drop a) = T at *
  obtain ⟨n, k⟩ := T
  simp only at *
  have fin : ∀ (w2 : World) (x y : Int) (z : Bool) (l : Nat), runT s a last = ⟨x, y, z, l⟩ → w.grownBy w2 (some b) → ScAt w2 b s (a + l) → w2.heap[w.heap.size]? = some (.cells #[.int .i64 0, .int .i64 0] 161 (0, 0)) → 0 ≤ y → y ≤ 501 → -1 ≤ x → x ≤ 63 →
      RunAt s b a last w (.returned (.tuple #[.agg #[.int .i64 x, .int .i64 y], .bool z])) ((w2.setCell ⟨w.heap.size, 0, none⟩ (.int .i64 x)).setCell ⟨w.heap.size, 1, none⟩ (.int .i64 y)) ∧
      ((w2.setCell ⟨w.heap.size, 0, none⟩ (.int .i64 x)).setCell ⟨w.heap.size, 1, none⟩ (.int .i64 y)).heap[w.heap.size]? = some (.cells #[.int .i64 x, .int .i64 y] 161 (0, 0)) := by
    intro w2 x y z l hr hg hsc hrb h1 h2 h3 h4
    refine ⟨?_, ?_⟩
    · unfold RunAt
      rw [hr]
      exact ⟨grown_setNew (grown_setNew hg (Nat.le_refl _)) (Nat.le_refl _), rfl, (hsc.setOther (by omega)).setOther (by omega), h1, h2, h3, h4⟩
    · rw [heap_setCell_same _ _ 1 _ _ _ (heap_setCell_same _ _ 0 _ _ _ hrb)]; rfl
  have FIN := hide fin
  have hne : w.heap.size ≠ b := by omega
  have z1 : w1.cell? ⟨w.heap.size, 0, none⟩ = some (.int .i64 0) := by have := HR1.out; simp [World.cell?, this]
  have z2 : w1.cell? ⟨w.heap.size, 1, none⟩ = some (.int .i64 0) := by have := HR1.out; simp [World.cell?, this]
  have z3 : w1.frozen? ⟨w.heap.size, 0, none⟩ = false := by have := HR1.out; simp [World.frozen?, this]
  have z4 : w1.frozen? ⟨w.heap.size, 1, none⟩ = false := by have := HR1.out; simp [World.frozen?, this]
  clear fin
  cases hok : thrOk last n with
  | false =>
    have hR := NO (by rw [hok]; rfl)
    rw [hok] at hR
    go_wp2_with fail
    obtain ⟨f1, f2⟩ := FIN.out w1 n 1 false k hR HW1.out HS1.out HR1.out (by omega) (by omega) hlo hhi
    refine bodyPost_ret (v := .tuple #[.agg #[.int .i64 n, .int .i64 1], .bool false]) ?_ rfl f1
    have y1 := cell_of_row _ _ 0 _ _ _ f2
    have y2 := cell_of_row _ _ 1 _ _ _ f2
    simp at y1 y2
    simp [results, Tryd.results91, go_sem, y1, y2]
  | true =>
    go_wp2_with (go_at_call 90; refine (skip_m s b _ 42 _ HS1.out hle1 hs).mono ?_)
    rintro e w2 ⟨hg2, rfl, hs2⟩
    have HW2 : Hid (w.grownBy w2 (some b)) := grown_trans HW1.out hg2
    have hr2 : w2.heap[w.heap.size]? = some (.cells #[.int .i64 0, .int .i64 0] 161 (0, 0)) := by
      rw [hg2.block w.heap.size hsz1 (by simp; omega)]; exact HR1.out
    have hsz2 : w.heap.size < w2.heap.size := by have := hg2.size; omega
    have y1 : w2.cell? ⟨w.heap.size, 0, none⟩ = some (.int .i64 0) := by simp [World.cell?, hr2]
    have y2 : w2.cell? ⟨w.heap.size, 1, none⟩ = some (.int .i64 0) := by simp [World.cell?, hr2]
    have y3 : w2.frozen? ⟨w.heap.size, 0, none⟩ = false := by simp [World.frozen?, hr2]
    have y4 : w2.frozen? ⟨w.heap.size, 1, none⟩ = false := by simp [World.frozen?, hr2]
    have HR2 := hide hr2
    clear hg2 hr2 z1 z2 z3 z4
    unfold skAt at hs2
    cases hit : hitB s (a + k) 42 with
    | false =>
      have hR := NO (by rw [hit]; simp)
      rw [hok] at hR
      rw [hit, if_neg (by simp)] at hs2
      have HS2 := hide hs2
      clear hs2
      go_wp2_with fail
      obtain ⟨f1, f2⟩ := FIN.out w2 n 1 true k hR HW2.out HS2.out HR2.out (by omega) (by omega) hlo hhi
      refine bodyPost_ret (v := .tuple #[.agg #[.int .i64 n, .int .i64 1], .bool true]) ?_ rfl f1
      have x1 := cell_of_row _ _ 0 _ _ _ f2
      have x2 := cell_of_row _ _ 1 _ _ _ f2
      simp at x1 x2
      simp [results, Tryd.results91, go_sem, x1, x2]
    | true =>
      have hR := YES hok hit
      rw [hit, if_pos rfl] at hs2
      have HS2 := hide hs2
      have hlt : a + k < s.size := by
        unfold hitB at hit
        have : (byt s)[a + k]? = some 42 := by simpa using hit
        have := hi_lt_of_get this
        rwa [byt_len] at this
      clear hs2 NO YES
      have e1 : a + k + 1 = a + (k + 1) := by omega
      have hC := count_m s b (a + k + 1) w2 HS2.out (by omega) hs
      generalize cnt 0 ((byt s).drop (a + k + 1)) = C at *
      obtain ⟨c, l⟩ := C
      simp only at hC hR
      have HC := hide hC
      clear hC
      go_wp2_with (go_at_call 127; refine HC.out.mono ?_)
      rintro e w3 ⟨hg3, rfl, hs3, hc0, hc1⟩
      have HW3 : Hid (w.grownBy w3 (some b)) := grown_trans HW2.out hg3
      have hr3 : w3.heap[w.heap.size]? = some (.cells #[.int .i64 0, .int .i64 0] 161 (0, 0)) := by
        rw [hg3.block w.heap.size hsz2 (by simp; omega)]; exact HR2.out
      have x1 : w3.cell? ⟨w.heap.size, 0, none⟩ = some (.int .i64 0) := by simp [World.cell?, hr3]
      have x2 : w3.cell? ⟨w.heap.size, 1, none⟩ = some (.int .i64 0) := by simp [World.cell?, hr3]
      have x3 : w3.frozen? ⟨w.heap.size, 0, none⟩ = false := by simp [World.frozen?, hr3]
      have x4 : w3.frozen? ⟨w.heap.size, 1, none⟩ = false := by simp [World.frozen?, hr3]
      have HR3 := hide hr3
      have HS3 := hide hs3
      clear hg3 hr3 hs3 y1 y2 y3 y4
      go_wp2_with fail
      all_goals
        obtain ⟨f1, f2⟩ := FIN.out w3 n c (decide (1 < c)) (k + 1 + l) (by rw [hR]) HW3.out (by have := HS3.out; rwa [show a + k + 1 + l = a + (k + 1 + l) by omega] at this) HR3.out hc0 hc1 hlo hhi
        refine bodyPost_ret (v := .tuple #[.agg #[.int .i64 n, .int .i64 c], .bool (decide (1 < c))]) ?_ rfl f1
        have x1 := cell_of_row _ _ 0 _ _ _ f2
        have x2 := cell_of_row _ _ 1 _ _ _ f2
        simp at x1 x2
        simp [results, Tryd.results91, go_sem, x1, x2]

end Go.Proofs.YtklenjmfalljgaaDoor

/- The walks of Append and Parse. -/
namespace Go.Proofs.YtklenjmfalljgaaDoor
open Go.RowKit
attribute [local go_sem] Go.World.cell?_alloc_some

theorem ints_rep (l : List Int) (t : Int) (k : Nat) : ints (l ++ List.replicate (k + 1) t) = ints (l ++ List.replicate k t) ++ [.int .i64 t] := by
  rw [List.replicate_succ', ← List.append_assoc, ints_snoc]

set_option maxRecDepth 100000 in
set_option maxHeartbeats 4000000 in
theorem append_m (W0 w : World) (r : Option Nat) (sv : Value) (l : List Int) (t : Int) (c : Nat) (h : w.ownsRow W0.heap.size 3 1 sv l.length (ints l)) (hW : W0.grownBy w r) (hc : c ≤ 501) (hl : l.length ≤ 501) :
    Calls Tryd.prog 92 #[sv, .agg #[.int .i64 t, .int .i64 c]] w fun e w' => ∃ sv', e = .returned sv' ∧ w'.ownsRow W0.heap.size 3 1 sv' (l ++ List.replicate c t).length (ints (l ++ List.replicate c t)) ∧ W0.grownBy w' r ∧ w.grownBy w' sv.ownBlock ∧ ((∃ x y z, sv' = .slice x y z)) := by
  obtain ⟨i0, hi0, hz0, hz1, hz2⟩ := info_parts info_int
  obtain ⟨sa, sn, sc, rfl⟩ := owns_form h
  have HO := hide h
  have HW := hide hW
  have hW0 := hW.size
  clear h hW
  go_enter Tryd.func92, Tryd.ntmps92
  go_wp2_with fail
  go_loopw [0, 7] (fun lv i w' => ∃ k : Nat, k ≤ c ∧ i = .int .i64 k ∧ Hid (w'.ownsRow W0.heap.size 3 1 lv (l.length + k) (ints (l ++ List.replicate k t)) ∧ W0.grownBy w' r ∧ w'.heap[w.heap.size]? = some (.cells #[.int .i64 t, .int .i64 c] 161 (0, 0)) ∧ lv.ownBlock ≠ some w.heap.size ∧ w.grownBy w' (Value.slice sa sn sc).ownBlock ∧ ∀ k, lv.ownBlock = some k → (Value.slice sa sn sc).ownBlock = some k ∨ w.heap.size ≤ k)) (fun _ i _ => c - (intOf i).toNat)
  case atStart =>
    refine ⟨0, Nat.zero_le _, rfl, ?_, grown_alloc HW.out, heap_alloc_new _ _, ?_, grown_alloc (grown_refl _ _), fun k e => Or.inl e⟩
    · simpa using owns_alloc (o := .cells #[.int .i64 t, .int .i64 c] 161) HO.out
    · intro e
      rcases HO.out.2 with ⟨e1, _⟩ | ⟨g, cap, cur, hv, _, hh, _⟩
      · rw [e1] at e; cases e
      · rw [hv] at e
        simp [Value.ownBlock] at e
        have := (Array.getElem?_eq_some_iff.1 hh).1
        omega
  case round =>
    obtain ⟨k, hk, rfl, HL⟩ := hrel
    obtain ⟨w5, hw5⟩ : ∃ w5, w5 = wr := ⟨_, rfl⟩
    subst hw5
    obtain ⟨l1, l2, l3, l4, l5, l6⟩ := HL.out
    have d0 : w5.cell? ⟨w.heap.size, 0, none⟩ = some (.int .i64 t) := by simp [World.cell?, l3]
    have d1 : w5.cell? ⟨w.heap.size, 1, none⟩ = some (.int .i64 c) := by simp [World.cell?, l3]
    have hlt3 : w.heap.size < w5.heap.size := (Array.getElem?_eq_some_iff.1 l3).1
    by_cases hkl : k < c
    · have q3 : (k : Int) < c := by omega
      have h63 : l.length + k + 1 ≤ maxLen := by unfold maxLen; omega
      have hob := owns_block l1
      have L1 := hide l1
      have L2 := hide l2
      have L3 := hide l3
      have L4 := hide l4
      have L5 := hide l5
      have L6 := hide l6
      have hn : w5.heap.size ≠ w.heap.size := by omega
      clear l1 l2 l3 l4 l5 l6
      go_wp2_with (at_builtin; refine wpList_append_lies _ rfl _ _ _ rfl W0.heap.size 3 i0 _ 1 8 Tryd.underlying22 hi0 hz0 hz1 hz2 rfl (by omega) u0 (l.length + k) (ints (l ++ List.replicate k t)) rfl (owns_alloc L1.out) ⟨w5.heap.size, 0, none⟩ 1 1 [.int .i64 t] rfl rfl (World.news_of_block (cs := #[.int .i64 t]) (t := 3) (fr := (0, 0)) (heap_alloc_new w5 _)) (by simp [Value.oneCell']) (by omega) h63 (by omega) (by simp; have := L2.out.size; omega) (w5.heap.size + 1) (by simp) ?_; intro g6 cap6 w6 hown6 hgrow hat hlt6)
      have HNX : Hid (w6.ownsRow W0.heap.size 3 1 (.slice (some ⟨g6, 0, none⟩) (l.length + k + 1) cap6) (l.length + (k + 1)) (ints (l ++ List.replicate (k + 1) t)) ∧ W0.grownBy w6 r ∧ w6.heap[w.heap.size]? = some (.cells #[.int .i64 t, .int .i64 c] 161 (0, 0)) ∧ (Value.slice (some ⟨g6, 0, none⟩) (l.length + k + 1) cap6).ownBlock ≠ some w.heap.size ∧ w.grownBy w6 (Value.slice sa sn sc).ownBlock ∧ ∀ q, (Value.slice (some ⟨g6, 0, none⟩) (l.length + k + 1) cap6).ownBlock = some q → (Value.slice sa sn sc).ownBlock = some q ∨ w.heap.size ≤ q) := by
        refine ⟨?_, grown_row (grown_alloc L2.out) hgrow (fun q e => hob q e), ?_, ?_, ?_, ?_⟩
        · rw [ints_rep]; exact hown6
        · rw [hgrow.block _ (by simp; omega) (fun e => L4.out e.symm), Below.heap_alloc _ _ _ hlt3]; exact L3.out
        · simp only [Value.ownBlock]
          rcases hat with e | e
          · rw [← e]; exact L4.out
          · rw [e]; simp; omega
        · have hg5 := grown_alloc (o := .cells #[.int .i64 t] 3) L5.out
          refine ⟨hgrow.os.trans hg5.os, hgrow.tape.trans hg5.tape, hgrow.output.trans hg5.output, Nat.le_trans hg5.size hgrow.size, fun q hq hr => ?_⟩
          rw [hgrow.block q (Nat.lt_of_lt_of_le hq hg5.size) (fun e => by
            rcases L6.out q e.symm with e2 | e2
            · exact hr e2.symm
            · omega)]
          exact hg5.block q hq hr
        · intro q e
          rcases hat with e2 | e2
          · exact L6.out q (by rw [e2]; exact e)
          · right
            simp only [Value.ownBlock, Option.some.injEq] at e
            omega
      clear hown6 hgrow hat
      go_wp2
      go_roundw
      case rel => exact ⟨k + 1, by omega, by go_num, HNX⟩
      case measure => simp [intOf]; omega
    · have ek : k = c := by omega
      have q2 : (c : Int) ≤ (k : Int) := by omega
      subst ek
      have L1 := hide l1
      have L2 := hide l2
      obtain ⟨m1, m2, m3, rfl⟩ := owns_form l1
      have L5 := hide l5
      clear l1 l2 l3 l4 l5 l6 HL
      go_wp2
      go_ret
      exact ⟨_, rfl, by simpa using L1.out, L2.out, L5.out, _, _, _, rfl⟩

def endP (s : ByteArray) (sch : List Int) (total : Int) (a : Nat) : ParP := if a < s.size then ⟨[], a, false⟩ else if total = 501 then ⟨[], 0, false⟩ else ⟨sch, 0, true⟩

theorem loop_bad {f : Nat} {sch : List Int} {last total : Int} {a : Nat} {s : ByteArray} (h : (runT s a last).ok = false) : loopP (f + 1) sch last total a ((byt s).drop a) = ⟨[], a + (runT s a last).len, false⟩ := by
  rw [loopP]
  unfold runT at *
  rw [if_neg (by rw [h]; simp)]
theorem loop_more {f : Nat} {sch : List Int} {last total : Int} {a : Nat} {s : ByteArray} (h : (runT s a last).ok = true) (h2 : hitB s (a + (runT s a last).len) 32 = true) :
    loopP (f + 1) sch last total a ((byt s).drop a) = loopP f (addRun sch (min (total + (runT s a last).count) 501) (runT s a last).count (runT s a last).thread) (runT s a last).thread (min (total + (runT s a last).count) 501) (a + (runT s a last).len + 1) ((byt s).drop (a + (runT s a last).len + 1)) := by
  have h3 : (byt s)[a + (runT s a last).len]? = some 32 := by unfold hitB at h2; simpa using h2
  have h4 := drop_get h3
  rw [loopP]
  unfold runT at *
  rw [if_pos h, List.drop_drop, h4]
  simp only [if_true]
theorem loop_end {f : Nat} {sch : List Int} {last total : Int} {a : Nat} {s : ByteArray} (h : (runT s a last).ok = true) (h2 : hitB s (a + (runT s a last).len) 32 = false) :
    loopP (f + 1) sch last total a ((byt s).drop a) = endP s (addRun sch (min (total + (runT s a last).count) 501) (runT s a last).count (runT s a last).thread) (min (total + (runT s a last).count) 501) (a + (runT s a last).len) := by
  unfold hitB at h2
  rw [loopP]
  unfold runT endP at *
  rw [if_pos h, List.drop_drop]
  cases h3 : (byt s)[a + (runP last ((byt s).drop a)).len]? with
  | none =>
    have h5 := List.getElem?_eq_none_iff.1 h3
    rw [List.drop_eq_nil_of_le h5]
    rw [byt_len] at h5
    rw [if_neg (show ¬ a + (runP last ((byt s).drop a)).len < s.size by omega)]
  | some c =>
    have h4 := drop_get h3
    have h5 := hi_lt_of_get h3
    rw [byt_len] at h5
    rw [h4, if_pos h5]
    rw [h3] at h2
    have : c ≠ 32 := by simpa using h2
    simp only [if_neg this]

/-- In the midst of a text. -/
structure ParIn (W0 : World) (b : Nat) (s : ByteArray) (f : Nat) (sch : List Int) (last total : Int) (a : Nat) (w' : World) : Prop where
  grown : W0.grownBy w' (some b)
  sc : ScAt w' b s a
  le : a ≤ s.size
  lo : -1 ≤ last
  hi : last ≤ 63
  t0 : 0 ≤ total
  t1 : total ≤ 501
  sl : (sch.length : Int) ≤ total
  fu : s.size - a < f
  eq : loopP f sch last total a ((byt s).drop a) = parseP (byt s)

/-- Behind the last run. -/
structure ParEnd (W0 : World) (b : Nat) (s : ByteArray) (sch : List Int) (total : Int) (a : Nat) (w' : World) : Prop where
  grown : W0.grownBy w' (some b)
  sc : ScAt w' b s a
  le : a ≤ s.size
  t0 : 0 ≤ total
  t1 : total ≤ 501
  sl : (sch.length : Int) ≤ total
  eq : endP s sch total a = parseP (byt s)

def mPar (m : Value) (w : World) (b n : Nat) : Nat := match m with
  | .bool true => n + 1 - atOf w b
  | _ => 0

def ParsedAt (s : ByteArray) (w : World) (e : Ending) (w' : World) : Prop :=
  ∃ x y z, e = .returned (.tuple #[.slice x y z, .int .i64 (parseP (byt s)).at_, .bool (parseP (byt s)).ok]) ∧ w'.ownsRow (w.heap.size + 1) 3 1 (.slice x y z) (parseP (byt s)).out.length (ints (parseP (byt s)).out) ∧ w.grownBy w' none

theorem runT_len (s : ByteArray) (a : Nat) (last : Int) (ha : a ≤ s.size) : a + (runT s a last).len ≤ s.size := by
  have := (auto last ((byt s).drop a)).len
  rw [List.length_drop, byt_len] at this
  unfold runT
  omega

set_option maxRecDepth 100000 in
set_option maxHeartbeats 400000 in
theorem rparse_m (s : ByteArray) (w : World) (hs : s.size ≤ 9223372036854775806) :
    Calls Tryd.prog 62 #[.string s] w (ParsedAt s w) := by
  obtain ⟨b, hb⟩ : ∃ b, b = w.heap.size := ⟨_, rfl⟩
  obtain ⟨W0, hW0⟩ : ∃ W0, W0 = w.alloc (.cells #[.string s, .int .i64 0] 165) := ⟨_, rfl⟩
  have hsc0 : ScAt W0 b s 0 := by unfold ScAt; rw [hW0, hb]; exact heap_alloc_new w _
  have hW0s : W0.heap.size = b + 1 := by rw [hW0, hb]; simp
  have hwW : w.grownBy W0 none := by rw [hW0]; exact grown_alloc (grown_refl _ _)
  have HFIN : Hid (∀ w', W0.grownBy w' (some b) → w.grownBy w' none) := by
    intro w' h
    refine ⟨h.os.trans hwW.os, h.tape.trans hwW.tape, h.output.trans hwW.output, Nat.le_trans hwW.size h.size, fun k hk _ => ?_⟩
    rw [h.block k (by omega) (by simp; omega)]; exact hwW.block k hk (by simp)
  have HSC0 := hide hsc0
  clear hsc0
  have fin : ∀ w4, W0.grownBy w4 (some b) → ∀ (x : Option Addr) (y z : Nat) (p : ParP), p = parseP (byt s) → w4.ownsRow (b + 1) 3 1 (.slice x y z) p.out.length (ints p.out) → ParsedAt s w (.returned (.tuple #[.slice x y z, .int .i64 p.at_, .bool p.ok])) w4 := by
    intro w4 hg x y z p hp ho
    subst hp
    exact ⟨x, y, z, rfl, by rw [← hb]; exact ho, HFIN.out _ hg⟩
  have FIN := hide fin
  clear fin HFIN
  have hnil : ∀ w4 : World, w4.ownsRow (b + 1) 3 1 (.slice none 0 0) ([] : List Int).length (ints []) := fun w4 => ⟨rfl, Or.inl ⟨rfl, rfl⟩⟩
  have HNIL := hide hnil
  clear hnil
  go_enter Tryd.func62, Tryd.ntmps62
  by_cases hs0 : s.size = 0
  · obtain rfl : s = ⟨#[]⟩ := by
      obtain ⟨d⟩ := s
      simp [ByteArray.size] at hs0
      rw [hs0]
    go_wp2_with fail
    rw [← hW0, ← hb]
    clear hW0 hb hwW
    go_loopw [5, 8, 9] (fun sv t m w' => sv = .slice none 0 0 ∧ t = .int .i64 0 ∧ m = .bool false ∧ w' = W0) (fun _ _ _ _ => 0)
    case atStart => exact ⟨rfl, rfl, rfl, rfl⟩
    case round =>
      obtain ⟨rfl, rfl, rfl, rfl⟩ := hrel
      have c1 : wr.cell? ⟨b, 1, none⟩ = some (.int .i64 0) := HSC0.out.c1
      have hs1 : (⟨#[]⟩ : ByteArray).size = 0 := rfl
      go_wp2_with fail
      refine bodyPost_ret (v := .tuple #[.slice none 0 0, .int .i64 0, .bool true]) (by simp [results, Tryd.results62, go_sem]) rfl ?_
      exact FIN.out _ (grown_refl _ _) none 0 0 ⟨[], 0, true⟩ rfl (HNIL.out _)
  · have hne : s ≠ ⟨#[]⟩ := by intro e; rw [e] at hs0; simp [ByteArray.size] at hs0
    go_wp2_with fail
    rw [← hW0, ← hb]
    have H0 : Hid (ParIn W0 b s (s.size + 1) [] (-1) 0 0 W0) := by
      refine ⟨grown_refl _ _, HSC0.out, by omega, by omega, by omega, by omega, by omega, by simp, by omega, ?_⟩
      unfold parseP
      rw [if_neg (by intro e; have := congrArg List.length e; rw [byt_len] at this; exact hs0 this), byt_len]
      rfl
    have hbW : b < W0.heap.size := by omega
    have hie : s.toList.isEmpty = false := by
      rw [ByteArray.toList_eq]
      cases hd : s.data.toList with
      | nil => exact absurd (by have := congrArg List.length hd; simpa using this) hs0
      | cons a b => rfl
    rw [hie, Bool.not_false]
    clear hne hs0 hW0 hwW hie
    clear hb
    go_loopw [5, 7, 8, 9] (fun sv l t m w' => ∃ (sch : List Int) (f : Nat) (last total : Int) (mb : Bool) (a' : Nat), l = .int .i64 last ∧ t = .int .i64 total ∧ m = .bool mb ∧ Hid ((mb = true ∧ ParIn W0 b s f sch last total a' w') ∨ (mb = false ∧ ParEnd W0 b s sch total a' w')) ∧ Hid (w'.ownsRow (b + 1) 3 1 sv sch.length (ints sch))) (fun _ _ _ m w' => mPar m w' b s.size)
    case atStart => exact ⟨[], s.size + 1, -1, 0, true, 0, rfl, rfl, rfl, hide (Or.inl ⟨rfl, H0.out⟩), hide (HNIL.out _)⟩
    case round =>
      obtain ⟨sch, f, last, total, mb, a', rfl, rfl, rfl, HI, HO⟩ := hrel
      obtain ⟨x1, x2, x3, rfl⟩ := owns_form HO.out
      rcases HI.out with ⟨rfl, hp⟩ | ⟨rfl, hp⟩
      · have HP := hide hp
        have HAT : Hid (atOf wr b = a') := atOf_sc hp.sc
        obtain ⟨f, rfl⟩ : ∃ f', f = f' + 1 := ⟨f - 1, by have := hp.fu; omega⟩
        have hle := hp.le
        have ht0 := hp.t0
        have ht1 := hp.t1
        have hsl := hp.sl
        have hfu := hp.fu
        clear hp HI
        go_wp2_with fail
        refine (run_sc s b a' last _ HP.out.sc hle hs).mono ?_
        rintro e w1 ⟨hg1, rfl, hs1, hc0, hc1, htl, hth⟩
        have hle2 := runT_len s a' last hle
        have HG1 : Hid (W0.grownBy w1 (some b)) := grown_trans HP.out.grown hg1
        have HO1 : Hid (w1.ownsRow (b + 1) 3 1 (.slice x1 x2 x3) sch.length (ints sch)) := owns_grown HO.out hg1 (fun k e => by simp at e; omega)
        have HS1 := hide hs1
        have hsz1 := hs1.lt
        clear hg1 hs1 HO
        cases hok : (runT s a' last).ok with
        | false =>
          have HB : Hid (parseP (byt s) = ⟨[], a' + (runT s a' last).len, false⟩) := by
            unfold Hid; rw [← HP.out.eq]; exact loop_bad hok
          have c1 := HS1.out.c1
          go_wp2_with fail
          go_quiet (fail)
          go_wp2_with fail
          refine bodyPost_ret (v := .tuple #[.slice none 0 0, .int .i64 ((a' + (runT s a' last).len : Nat) : Int), .bool false]) (by simp [results, Tryd.results62, go_sem]) rfl ?_
          exact FIN.out _ (grown_drewN _ (grown_alloc HG1.out)) none 0 0 ⟨[], a' + (runT s a' last).len, false⟩ HB.out.symm (HNIL.out _)
        | true =>
          have HGa : ∀ o, W0.grownBy (w1.alloc o) (some b) := fun o => grown_alloc HG1.out
          have HOa : ∀ o, (w1.alloc o).ownsRow (b + 1) 3 1 (.slice x1 x2 x3) sch.length (ints sch) := fun o => owns_alloc HO1.out
          have HSa : ∀ o, ScAt (w1.alloc o) b s (a' + (runT s a' last).len) := fun o => HS1.out.grown (grown_alloc (grown_refl _ _))
          obtain ⟨w3, hw3⟩ : ∃ w3, w3 = w1.alloc (.cells #[.int .i64 (runT s a' last).thread, .int .i64 (runT s a' last).count] 161) := ⟨_, rfl⟩
          have HO3 : Hid (w3.ownsRow (b + 1) 3 1 (.slice x1 x2 x3) sch.length (ints sch)) := by rw [hw3]; exact HOa _
          have HS3 : Hid (ScAt w3 b s (a' + (runT s a' last).len)) := by rw [hw3]; exact HSa _
          have HG3 : Hid (W0.grownBy w3 (some b)) := by rw [hw3]; exact HGa _
          clear HGa HOa HSa
          have HW3 := hide hw3
          clear hw3
          by_cases hm : 501 < total + (runT s a' last).count
          · have HTC : Hid (min (total + (runT s a' last).count) 501 = 501) := by unfold Hid; omega
            have HSC3 : Hid (addRun sch 501 (runT s a' last).count (runT s a' last).thread = sch) := by
              unfold Hid addRun; rw [if_neg (by omega)]
            have hsl3 : (sch.length : Int) ≤ 501 := by omega
            have hsz3 : b < w3.heap.size := HS3.out.lt
            have hle3 : a' + (runT s a' last).len ≤ s.size := hle2
            go_wp2_with fail
            rw [← HW3.out]
            refine (skip_m s b _ 32 _ HS3.out hle3 hs).mono ?_
            rintro e w4 ⟨hg4, rfl, hs4⟩
            have HO4 : Hid (w4.ownsRow (b + 1) 3 1 (.slice x1 x2 x3) sch.length (ints sch)) := owns_grown HO3.out hg4 (fun k e => by simp at e; omega)
            have HG4 : Hid (W0.grownBy w4 (some b)) := grown_trans HG3.out hg4
            unfold skAt at hs4
            cases hit : hitB s (a' + (runT s a' last).len) 32 with
            | true =>
              rw [hit, if_pos rfl] at hs4
              have HN : Hid (ParIn W0 b s f sch (runT s a' last).thread 501 (a' + (runT s a' last).len + 1) w4) := by
                have hlt : a' + (runT s a' last).len < s.size := by
                  unfold hitB at hit
                  have := hi_lt_of_get (show (byt s)[a' + (runT s a' last).len]? = some 32 by simpa using hit)
                  rwa [byt_len] at this
                exact ⟨HG4.out, hs4, by omega, htl, hth, by omega, by omega, hsl3, by omega, by have e := HP.out.eq; rw [loop_more hok hit, HTC.out, HSC3.out] at e; exact e⟩
              clear hg4 hs4
              go_wp2_with fail
              go_roundw
              case rel => exact ⟨sch, f, (runT s a' last).thread, 501, true, a' + (runT s a' last).len + 1, rfl, rfl, rfl, hide (Or.inl ⟨rfl, HN.out⟩), HO4⟩
              case measure =>
                have e1 := atOf_sc HN.out.sc
                have e2 := HAT.out
                have e3 := HN.out.le
                simp only [mPar, e1, e2]
                omega
            | false =>
              rw [hit, if_neg (by simp)] at hs4
              have HN : Hid (ParEnd W0 b s sch 501 (a' + (runT s a' last).len) w4) :=
                ⟨HG4.out, hs4, by omega, by omega, by omega, hsl3, by have e := HP.out.eq; rw [loop_end hok hit, HTC.out, HSC3.out] at e; exact e⟩
              clear hg4 hs4
              go_wp2_with fail
              go_roundw
              case rel => exact ⟨sch, f, (runT s a' last).thread, 501, false, a' + (runT s a' last).len, rfl, rfl, rfl, hide (Or.inr ⟨rfl, HN.out⟩), HO4⟩
              case measure =>
                have e2 := HAT.out
                simp only [mPar, e2]
                omega
          · have HTC : Hid (min (total + (runT s a' last).count) 501 = (total + (runT s a' last).count)) := by unfold Hid; omega
            by_cases hm2 : total + (runT s a' last).count = 501
            · have HSC3 : Hid (addRun sch (total + (runT s a' last).count) (runT s a' last).count (runT s a' last).thread = sch) := by
                unfold Hid addRun; rw [if_neg (by omega)]
              have hsl3 : (sch.length : Int) ≤ (total + (runT s a' last).count) := by omega
              have hm3 : ¬ (total + (runT s a' last).count < 501) := by omega
              have HM2 := hide hm2
              clear hm2
              have hsz3 : b < w3.heap.size := HS3.out.lt
              have hle3 : a' + (runT s a' last).len ≤ s.size := hle2
              go_wp2_with fail
              rw [← HW3.out]
              refine (skip_m s b _ 32 _ HS3.out hle3 hs).mono ?_
              rintro e w4 ⟨hg4, rfl, hs4⟩
              have HO4 : Hid (w4.ownsRow (b + 1) 3 1 (.slice x1 x2 x3) sch.length (ints sch)) := owns_grown HO3.out hg4 (fun k e => by simp at e; omega)
              have HG4 : Hid (W0.grownBy w4 (some b)) := grown_trans HG3.out hg4
              unfold skAt at hs4
              cases hit : hitB s (a' + (runT s a' last).len) 32 with
              | true =>
                rw [hit, if_pos rfl] at hs4
                have HN : Hid (ParIn W0 b s f sch (runT s a' last).thread (total + (runT s a' last).count) (a' + (runT s a' last).len + 1) w4) := by
                  have hlt : a' + (runT s a' last).len < s.size := by
                    unfold hitB at hit
                    have := hi_lt_of_get (show (byt s)[a' + (runT s a' last).len]? = some 32 by simpa using hit)
                    rwa [byt_len] at this
                  exact ⟨HG4.out, hs4, by omega, htl, hth, by omega, by omega, hsl3, by omega, by have e := HP.out.eq; rw [loop_more hok hit, HTC.out, HSC3.out] at e; exact e⟩
                clear hg4 hs4
                go_wp2_with fail
                go_roundw
                case rel => exact ⟨sch, f, (runT s a' last).thread, (total + (runT s a' last).count), true, a' + (runT s a' last).len + 1, rfl, rfl, rfl, hide (Or.inl ⟨rfl, HN.out⟩), HO4⟩
                case measure =>
                  have e1 := atOf_sc HN.out.sc
                  have e2 := HAT.out
                  have e3 := HN.out.le
                  simp only [mPar, e1, e2]
                  omega
              | false =>
                rw [hit, if_neg (by simp)] at hs4
                have HN : Hid (ParEnd W0 b s sch (total + (runT s a' last).count) (a' + (runT s a' last).len) w4) :=
                  ⟨HG4.out, hs4, by omega, by omega, by omega, hsl3, by have e := HP.out.eq; rw [loop_end hok hit, HTC.out, HSC3.out] at e; exact e⟩
                clear hg4 hs4
                go_wp2_with fail
                go_roundw
                case rel => exact ⟨sch, f, (runT s a' last).thread, (total + (runT s a' last).count), false, a' + (runT s a' last).len, rfl, rfl, rfl, hide (Or.inr ⟨rfl, HN.out⟩), HO4⟩
                case measure =>
                  have e2 := HAT.out
                  simp only [mPar, e2]
                  omega
            · have hm3 : total + (runT s a' last).count < 501 := by omega
              obtain ⟨c, hc⟩ := Int.eq_ofNat_of_zero_le hc0
              obtain ⟨sch3, hs3⟩ : ∃ sch3, sch3 = sch ++ List.replicate c (runT s a' last).thread := ⟨_, rfl⟩
              have HSC3 : Hid (addRun sch (total + (runT s a' last).count) (runT s a' last).count (runT s a' last).thread = sch3) := by
                unfold Hid addRun; rw [if_pos (by omega), hs3, hc]; rfl
              have hsl3 : (sch3.length : Int) ≤ (total + (runT s a' last).count) := by rw [hs3]; simp; omega
              have HAP := append_m W0 w3 (some b) (.slice x1 x2 x3) sch (runT s a' last).thread c (by rw [hW0s]; exact HO3.out) HG3.out (by omega) (by omega)
              rw [hW0s, ← hs3, ← hc] at HAP
              have HAPP := hide HAP
              have HC := hide hc
              have HS3' := hide hs3
              clear HAP hc hs3
              clear hm2
              go_wp2_with fail
              rw [← HW3.out]
              refine HAPP.out.mono ?_
              rintro e w5 ⟨sv5, rfl, ho5, hg5, hk5, y1, y2, y3, rfl⟩
              have HS5 : Hid (ScAt w5 b s (a' + (runT s a' last).len)) := by
                have h3 := HS3.out
                have hl3 := h3.lt
                have hob := owns_block HO3.out
                unfold Hid ScAt at *
                rw [hk5.block b hl3 (fun e => by have := hob b e.symm; omega)]; exact h3
              have HO5 := hide ho5
              have HG5 := hide hg5
              clear ho5 hg5 hk5 HAPP
              have hsz3 : b < w5.heap.size := HS5.out.lt
              have hle3 : a' + (runT s a' last).len ≤ s.size := hle2
              go_wp2_with fail
              refine (skip_m s b _ 32 _ HS5.out hle3 hs).mono ?_
              rintro e w4 ⟨hg4, rfl, hs4⟩
              have HO4 : Hid (w4.ownsRow (b + 1) 3 1 (.slice y1 y2 y3) sch3.length (ints sch3)) := owns_grown HO5.out hg4 (fun k e => by simp at e; omega)
              have HG4 : Hid (W0.grownBy w4 (some b)) := grown_trans HG5.out hg4
              unfold skAt at hs4
              cases hit : hitB s (a' + (runT s a' last).len) 32 with
              | true =>
                rw [hit, if_pos rfl] at hs4
                have HN : Hid (ParIn W0 b s f sch3 (runT s a' last).thread (total + (runT s a' last).count) (a' + (runT s a' last).len + 1) w4) := by
                  have hlt : a' + (runT s a' last).len < s.size := by
                    unfold hitB at hit
                    have := hi_lt_of_get (show (byt s)[a' + (runT s a' last).len]? = some 32 by simpa using hit)
                    rwa [byt_len] at this
                  exact ⟨HG4.out, hs4, by omega, htl, hth, by omega, by omega, hsl3, by omega, by have e := HP.out.eq; rw [loop_more hok hit, HTC.out, HSC3.out] at e; exact e⟩
                clear hg4 hs4
                go_wp2_with fail
                go_roundw
                case rel => exact ⟨sch3, f, (runT s a' last).thread, (total + (runT s a' last).count), true, a' + (runT s a' last).len + 1, rfl, rfl, rfl, hide (Or.inl ⟨rfl, HN.out⟩), HO4⟩
                case measure =>
                  have e1 := atOf_sc HN.out.sc
                  have e2 := HAT.out
                  have e3 := HN.out.le
                  simp only [mPar, e1, e2]
                  omega
              | false =>
                rw [hit, if_neg (by simp)] at hs4
                have HN : Hid (ParEnd W0 b s sch3 (total + (runT s a' last).count) (a' + (runT s a' last).len) w4) :=
                  ⟨HG4.out, hs4, by omega, by omega, by omega, hsl3, by have e := HP.out.eq; rw [loop_end hok hit, HTC.out, HSC3.out] at e; exact e⟩
                clear hg4 hs4
                go_wp2_with fail
                go_roundw
                case rel => exact ⟨sch3, f, (runT s a' last).thread, (total + (runT s a' last).count), false, a' + (runT s a' last).len, rfl, rfl, rfl, hide (Or.inr ⟨rfl, HN.out⟩), HO4⟩
                case measure =>
                  have e2 := HAT.out
                  simp only [mPar, e2]
                  omega
      · have HP := hide hp
        have c1 := hp.sc.c1
        have hle := hp.le
        clear hp HI
        by_cases hlt : a' < s.size
        · have HE : Hid (parseP (byt s) = ⟨[], a', false⟩) := by unfold Hid; rw [← HP.out.eq, endP, if_pos hlt]
          have q1 : (a' : Int) < s.size := by omega
          go_wp2_with fail
          go_quiet (fail)
          go_wp2_with fail
          refine bodyPost_ret (v := .tuple #[.slice none 0 0, .int .i64 (a' : Int), .bool false]) (by simp [results, Tryd.results62, go_sem]) rfl ?_
          exact FIN.out _ (grown_drewN _ HP.out.grown) none 0 0 ⟨[], a', false⟩ HE.out.symm (HNIL.out _)
        · have q1 : (s.size : Int) ≤ a' := by omega
          by_cases h5 : total = 501
          · have HE : Hid (parseP (byt s) = ⟨[], 0, false⟩) := by unfold Hid; rw [← HP.out.eq, endP, if_neg hlt, if_pos h5]
            have h6 : (total == 501) = true := by simpa using h5
            clear h5
            go_wp2_with fail
            refine bodyPost_ret (v := .tuple #[.slice none 0 0, .int .i64 0, .bool false]) (by simp [results, Tryd.results62, go_sem]) rfl ?_
            exact FIN.out _ HP.out.grown none 0 0 ⟨[], 0, false⟩ HE.out.symm (HNIL.out _)
          · have HE : Hid (parseP (byt s) = ⟨sch, 0, true⟩) := by unfold Hid; rw [← HP.out.eq, endP, if_neg hlt, if_neg h5]
            go_wp2_with fail
            refine bodyPost_ret (v := .tuple #[.slice x1 x2 x3, .int .i64 0, .bool true]) (by simp [results, Tryd.results62, go_sem]) rfl ?_
            exact FIN.out _ HP.out.grown x1 x2 x3 ⟨sch, 0, true⟩ HE.out.symm HO.out

end Go.Proofs.YtklenjmfalljgaaDoor
