/- The runs of a schedule and their text, as plain functions (no dump is named here). -/
import Derived.Test.YthgeiolabecikaaDoorTxtR
import Derived.Lib.ItoaNum
import Derived.Lib.Join
namespace Go.Proofs.YthgeiolabecikaaDoor

def validS (l : List Int) : Bool := decide (l.length ≤ 500) && l.all fun t => decide (0 ≤ t) && decide (t ≤ 63)

def grp : List Int → List (Int × Int)
  | [] => []
  | t :: r => match grp r with
    | [] => [(t, 1)]
    | x :: q => if t = x.1 then (t, x.2 + 1) :: q else (t, 1) :: x :: q

def bump : List (Int × Int) → List (Int × Int)
  | [] => []
  | [x] => [(x.1, x.2 + 1)]
  | x :: y :: q => x :: bump (y :: q)

theorem grp_head (t : Int) (r : List Int) : ∃ n q, grp (t :: r) = (t, n) :: q := by
  unfold grp
  cases grp r with
  | nil => exact ⟨_, _, rfl⟩
  | cons x q => simp only; split <;> exact ⟨_, _, rfl⟩
theorem grp_ne {l : List Int} (h : l ≠ []) : grp l ≠ [] := by
  cases l with
  | nil => exact absurd rfl h
  | cons t r => obtain ⟨n, q, e⟩ := grp_head t r; rw [e]; simp

theorem grp_snoc (l : List Int) (t : Int) : grp (l ++ [t]) = if l.getLast? = some t then bump (grp l) else grp l ++ [(t, 1)] := by
  induction l with
  | nil => simp [grp]
  | cons a r ih =>
    cases r with
    | nil =>
      by_cases h : a = t
      · simp [grp, bump, h]
      · simp [grp, h]
    | cons b s =>
      have e1 : (a :: b :: s).getLast? = (b :: s).getLast? := by simp [List.getLast?_cons_cons]
      rw [e1]
      obtain ⟨n, q, e⟩ := grp_head b s
      have e2 : a :: b :: s ++ [t] = a :: (b :: s ++ [t]) := rfl
      have e3 : grp (a :: b :: s) = if a = b then (a, n + 1) :: q else (a, 1) :: (b, n) :: q := by
        conv => lhs; rw [grp, e]
      rw [e2, grp, ih, e3, e]
      by_cases hl : (b :: s).getLast? = some t
      · rw [if_pos hl, if_pos hl]
        by_cases hab : a = b
        · rw [if_pos hab]
          cases q with
          | nil => simp [bump, hab]
          | cons x q => simp [bump, hab]
        · rw [if_neg hab]
          cases q with
          | nil => simp [bump, hab]
          | cons x q => simp [bump, hab]
      · rw [if_neg hl, if_neg hl]
        by_cases hab : a = b
        · rw [if_pos hab]; simp [hab]
        · rw [if_neg hab]; simp [hab]

theorem grp_last (l : List Int) : (grp l).getLast?.map (·.1) = l.getLast? := by
  induction l with
  | nil => rfl
  | cons a r ih =>
    cases r with
    | nil => rfl
    | cons b s =>
      obtain ⟨n, q, e⟩ := grp_head b s
      rw [grp, e]
      rw [e] at ih
      rw [List.getLast?_cons_cons]
      simp only
      split
      · rename_i h
        rw [← ih]
        cases q with
        | nil => simp [h]
        | cons x q => simp [List.getLast?_cons_cons]
      · rw [← ih]; simp [List.getLast?_cons_cons]

theorem grp_len (l : List Int) : (grp l).length ≤ l.length := by
  induction l with
  | nil => simp [grp]
  | cons a r ih =>
    unfold grp
    cases h : grp r with
    | nil => simp
    | cons x q =>
      rw [h] at ih
      simp only
      split
      · simp at ih ⊢; omega
      · simpa using ih

theorem grp_mem (l : List Int) : ∀ x ∈ grp l, x.1 ∈ l ∧ 1 ≤ x.2 ∧ x.2 ≤ l.length := by
  induction l with
  | nil => simp [grp]
  | cons a r ih =>
    unfold grp
    cases h : grp r with
    | nil => simp; omega
    | cons x q =>
      rw [h] at ih
      have hx := ih x (by simp)
      simp only
      split
      · rename_i e
        intro y hy
        rcases List.mem_cons.1 hy with rfl | hy
        · simp; omega
        · have := ih y (by simp [hy]); simp; exact ⟨Or.inr this.1, this.2.1, by omega⟩
      · intro y hy
        rcases List.mem_cons.1 hy with rfl | hy
        · simp; omega
        · have := ih y hy; simp; exact ⟨Or.inr this.1, this.2.1, by omega⟩

def wordS (t n : Int) : List UInt8 := if n = 1 then Lib.itoa t else Lib.itoa t ++ [42] ++ Lib.itoa n
def printS (l : List Int) : List UInt8 := Lib.join ((grp l).map fun x => wordS x.1 x.2) [32]

end Go.Proofs.YthgeiolabecikaaDoor
