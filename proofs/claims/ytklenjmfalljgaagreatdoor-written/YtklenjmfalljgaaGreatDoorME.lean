/- The texts BytQ Wrt Rda Rdb Rdc Rdd Rde Rdf. -/
import Derived.Test.YtklenjmfalljgaaGreatDoorMD
import Derived.Laws.BitsAllLaws
import Derived.Laws.Bits64
import Derived.Laws.BytesArg
import Derived.Defers
import Derived.Recover
import Derived.Deep.DeepMust

/- What was written is read again; what is cut, longer, or other within 32 bits, is not. -/
namespace Go.Proofs.YtklenjmfalljgaaGreatDoor

def Sep : Option Int → List (Int × Int) → Prop
  | _, [] => True
  | p, x :: q => p ≠ some x.1 ∧ Sep (some x.1) q
def expand (q : List (Int × Int)) : List Int := q.flatMap fun x => List.replicate x.2.toNat x.1

theorem grp_sep (s : List Int) : Sep none (grp s) ∧ ∀ x q, grp s = x :: q → Sep (some x.1) q := by
  induction s with
  | nil => exact ⟨trivial, fun x q h => by cases h⟩
  | cons t r ih =>
    unfold grp
    cases h : grp r with
    | nil => exact ⟨⟨by simp, trivial⟩, fun x q e => by simp at e; rw [e.2]; trivial⟩
    | cons x q =>
      have h1 := ih.2 x q h
      simp only
      split
      · rename_i e
        rw [← e] at h1
        exact ⟨⟨by simp, h1⟩, fun y q' e' => by simp only [List.cons.injEq] at e'; rw [← e'.1, ← e'.2]; exact h1⟩
      · rename_i e
        have h2 : Sep (some t) (x :: q) := ⟨fun e' => e (Option.some.inj e'), h1⟩
        exact ⟨⟨by simp, h2⟩, fun y q' e' => by simp only [List.cons.injEq] at e'; rw [← e'.1, ← e'.2]; exact h2⟩
theorem grp_expand (s : List Int) : expand (grp s) = s := by
  induction s with
  | nil => rfl
  | cons t r ih =>
    have hm := grp_mem r
    unfold grp
    cases h : grp r with
    | nil => rw [h] at ih; rw [← ih]; simp [expand]
    | cons x q =>
      rw [h] at ih hm
      have hx := (hm x (by simp)).2.1
      simp only
      split
      · rename_i e
        have e1 : (x.2 + 1).toNat = x.2.toNat + 1 := by omega
        simp only [expand, List.flatMap_cons] at ih ⊢
        rw [e1, List.replicate_succ, List.cons_append, e, ih]
      · simp only [expand, List.flatMap_cons] at ih ⊢
        simp [ih]

theorem getLast_rep (sch : List Int) (t : Int) (c : Nat) (hc : 0 < c) : (sch ++ List.replicate c t).getLast? = some t := by
  obtain ⟨k, rfl⟩ : ∃ k, c = k + 1 := ⟨c - 1, by omega⟩
  rw [List.replicate_succ', ← List.append_assoc]; simp

theorem rdRuns_w (q : List (Int × Int)) (sch : List Int) (r : List Nat) (hs : Sep sch.getLast? q) (hq : ∀ x ∈ q, 0 ≤ x.1 ∧ x.1 ≤ 63 ∧ 1 ≤ x.2 ∧ x.2 ≤ 500) (hl : sch.length + (expand q).length ≤ 500) :
    rdRuns q.length sch (q.flatMap runB ++ r) = some (sch ++ expand q, r) := by
  induction q generalizing sch with
  | nil => simp [rdRuns, expand]
  | cons x q ih =>
    obtain ⟨h1, h2, h3, h4⟩ := hq x (by simp)
    have hexp : (expand (x :: q)).length = x.2.toNat + (expand q).length := by simp [expand]
    rw [hexp] at hl
    rw [List.flatMap_cons, List.length_cons, rdRuns]
    unfold runB
    simp only [List.append_assoc]
    rw [rdWhole_w _ _ h1 (by omega)]
    simp only
    rw [rdMost_w _ _ _ (by omega) (by omega) (by omega)]
    simp only
    rw [if_pos ⟨by omega, hs.1⟩]
    have := ih (sch ++ List.replicate x.2.toNat x.1) (by rw [getLast_rep _ _ _ (by omega)]; exact hs.2) (fun y hy => hq y (by simp [hy])) (by simp; omega)
    unfold runB at this
    rw [this]
    simp [expand]

theorem rdSched_w (s : List Int) (r : List Nat) (h : validS s = true) : rdSched (schB s ++ r) = some (s, r) := by
  have h' := h
  simp only [validS, Bool.and_eq_true, decide_eq_true_eq, List.all_eq_true] at h'
  have hg := grp_len s
  unfold rdSched schB
  rw [List.append_assoc, rdMost_w _ _ _ (by omega) (by omega) (by omega)]
  simp only [Int.toNat_natCast]
  rw [rdRuns_w (grp s) [] r (grp_sep s).1 (fun x hx => by
    have h1 := grp_mem s x hx
    have h2 := h'.2 x.1 h1.1
    exact ⟨h2.1, h2.2, h1.2.1, by omega⟩) (by rw [grp_expand]; simpa using h'.1), grp_expand]
  rfl

/- What follows what is read may be anything. -/
theorem rdWhole_ext {l r m : List Nat} {x : Int} (h : rdWhole l = some (x, r)) : rdWhole (l ++ m) = some (x, r ++ m) := by
  unfold rdWhole at *
  cases h1 : rdN 0 0 l with
  | none => rw [h1] at h; cases h
  | some y =>
    obtain ⟨n, r'⟩ := y
    rw [h1] at h
    rw [rdN_ext l 0 0 n r' m h1]
    simp only at h ⊢
    split at h
    · rename_i h2
      rw [if_pos h2]
      simp only [Option.some.injEq, Prod.mk.injEq] at h ⊢
      exact ⟨h.1, by rw [h.2]⟩
    · cases h
theorem rdSigned_ext {l r m : List Nat} {x : Int} (h : rdSigned l = some (x, r)) : rdSigned (l ++ m) = some (x, r ++ m) := by
  unfold rdSigned at *
  cases h1 : rdN 0 0 l with
  | none => rw [h1] at h; cases h
  | some y =>
    obtain ⟨n, r'⟩ := y
    rw [h1] at h
    rw [rdN_ext l 0 0 n r' m h1]
    simp only [Option.some.injEq, Prod.mk.injEq] at h ⊢
    exact ⟨h.1, by rw [h.2]⟩
theorem rdMost_ext {b : Int} {l r m : List Nat} {x : Int} (h : rdMost b l = some (x, r)) : rdMost b (l ++ m) = some (x, r ++ m) := by
  unfold rdMost at *
  cases h1 : rdWhole l with
  | none => rw [h1] at h; cases h
  | some y =>
    obtain ⟨n, r'⟩ := y
    rw [h1] at h
    rw [rdWhole_ext h1]
    simp only at h ⊢
    split at h
    · rename_i h2
      rw [if_pos h2]
      simp only [Option.some.injEq, Prod.mk.injEq] at h ⊢
      exact ⟨h.1, by rw [h.2]⟩
    · cases h
theorem rdIns_ext {l r m : List Nat} {x : Ins} (h : rdIns l = some (x, r)) : rdIns (l ++ m) = some (x, r ++ m) := by
  unfold rdIns at *
  cases h1 : rdWhole l with
  | none => rw [h1] at h; cases h
  | some y1 =>
    obtain ⟨n1, r1⟩ := y1
    rw [h1] at h
    rw [rdWhole_ext h1]
    simp only at h ⊢
    cases h2 : rdWhole r1 with
    | none => rw [h2] at h; cases h
    | some y2 =>
      obtain ⟨n2, r2⟩ := y2
      rw [h2] at h
      rw [rdWhole_ext h2]
      simp only at h ⊢
      cases h3 : rdWhole r2 with
      | none => rw [h3] at h; cases h
      | some y3 =>
        obtain ⟨n3, r3⟩ := y3
        rw [h3] at h
        rw [rdWhole_ext h3]
        simp only at h ⊢
        cases h4 : rdSigned r3 with
        | none => rw [h4] at h; cases h
        | some y4 =>
          obtain ⟨n4, r4⟩ := y4
          rw [h4] at h
          rw [rdSigned_ext h4]
          simp only [Option.some.injEq, Prod.mk.injEq] at h ⊢
          exact ⟨h.1, by rw [h.2]⟩
theorem rdMany_ext {α : Type} {P : List Nat → Option (α × List Nat)} (hP : ∀ {l r m : List Nat} {x : α}, P l = some (x, r) → P (l ++ m) = some (x, r ++ m)) (k : Nat) :
    ∀ {l r m : List Nat} {x : List α}, rdMany P k l = some (x, r) → rdMany P k (l ++ m) = some (x, r ++ m) := by
  induction k with
  | zero => intro l r m x h; simp only [rdMany, Option.some.injEq, Prod.mk.injEq] at h ⊢; exact ⟨h.1, by rw [h.2]⟩
  | succ k ih =>
    intro l r m x h
    rw [rdMany] at h ⊢
    cases h1 : P l with
    | none => rw [h1] at h; cases h
    | some y =>
      obtain ⟨n, r'⟩ := y
      rw [h1] at h
      rw [hP h1]
      simp only at h ⊢
      cases h2 : rdMany P k r' with
      | none => rw [h2] at h; cases h
      | some z =>
        obtain ⟨q, r2⟩ := z
        rw [h2] at h
        rw [ih h2]
        simp only [Option.some.injEq, Prod.mk.injEq] at h ⊢
        exact ⟨h.1, by rw [h.2]⟩
theorem rdThread_ext {l r m : List Nat} {x : List Ins} (h : rdThread l = some (x, r)) : rdThread (l ++ m) = some (x, r ++ m) := by
  unfold rdThread at *
  cases h1 : rdMost 16 l with
  | none => rw [h1] at h; cases h
  | some y =>
    obtain ⟨n, r'⟩ := y
    rw [h1] at h
    rw [rdMost_ext h1]
    exact rdMany_ext rdIns_ext _ h
theorem rdProg_ext {l r m : List Nat} {x : List (List Ins)} (h : rdProg l = some (x, r)) : rdProg (l ++ m) = some (x, r ++ m) := by
  unfold rdProg at *
  cases h1 : rdMost 4 l with
  | none => rw [h1] at h; cases h
  | some y =>
    obtain ⟨n, r'⟩ := y
    rw [h1] at h
    rw [rdMost_ext h1]
    exact rdMany_ext rdThread_ext _ h
theorem rdRuns_ext (k : Nat) : ∀ {sch : List Int} {l r m : List Nat} {x : List Int}, rdRuns k sch l = some (x, r) → rdRuns k sch (l ++ m) = some (x, r ++ m) := by
  induction k with
  | zero => intro sch l r m x h; simp only [rdRuns, Option.some.injEq, Prod.mk.injEq] at h ⊢; exact ⟨h.1, by rw [h.2]⟩
  | succ k ih =>
    intro sch l r m x h
    rw [rdRuns] at h ⊢
    cases h1 : rdWhole l with
    | none => rw [h1] at h; cases h
    | some y =>
      obtain ⟨t, r1⟩ := y
      rw [h1] at h
      rw [rdWhole_ext h1]
      simp only at h ⊢
      cases h2 : rdMost (500 - sch.length) r1 with
      | none => rw [h2] at h; cases h
      | some z =>
        obtain ⟨c, r2⟩ := z
        rw [h2] at h
        rw [rdMost_ext h2]
        simp only at h ⊢
        split at h
        · rename_i h3
          rw [if_pos h3]
          exact ih h
        · cases h
theorem rdSched_ext {l r m : List Nat} {x : List Int} (h : rdSched l = some (x, r)) : rdSched (l ++ m) = some (x, r ++ m) := by
  unfold rdSched at *
  cases h1 : rdMost 500 l with
  | none => rw [h1] at h; cases h
  | some y =>
    obtain ⟨n, r'⟩ := y
    rw [h1] at h
    rw [rdMost_ext h1]
    exact rdRuns_ext _ h
theorem rdVer_ext {l r m : List Nat} {x : Int × Int × Int} (h : rdVer l = some (x, r)) : rdVer (l ++ m) = some (x, r ++ m) := by
  unfold rdVer at *
  cases h1 : rdWhole l with
  | none => rw [h1] at h; cases h
  | some y1 =>
    obtain ⟨n1, r1⟩ := y1
    rw [h1] at h
    rw [rdWhole_ext h1]
    simp only at h ⊢
    cases h2 : rdWhole r1 with
    | none => rw [h2] at h; cases h
    | some y2 =>
      obtain ⟨n2, r2⟩ := y2
      rw [h2] at h
      rw [rdWhole_ext h2]
      simp only at h ⊢
      cases h3 : rdWhole r2 with
      | none => rw [h3] at h; cases h
      | some y3 =>
        obtain ⟨n3, r3⟩ := y3
        rw [h3] at h
        rw [rdWhole_ext h3]
        simp only [Option.some.injEq, Prod.mk.injEq] at h ⊢
        exact ⟨h.1, by rw [h.2]⟩

theorem rdArt_head {l r : List Nat} {a : Art} (h : rdArt l = some (a, r)) : ∃ r0, l = 82 :: 82 :: 1 :: r0 := by
  unfold rdArt at h
  split at h
  · exact ⟨_, rfl⟩
  · cases h
theorem rdArt_ext {l r m : List Nat} {a : Art} (h : rdArt l = some (a, r)) : rdArt (l ++ m) = some (a, r ++ m) := by
  obtain ⟨r0, rfl⟩ := rdArt_head h
  simp only [List.cons_append, rdArt] at h ⊢
  cases h1 : rdProg r0 with
  | none => rw [h1] at h; cases h
  | some y1 =>
    obtain ⟨n1, r1⟩ := y1
    rw [h1] at h
    rw [rdProg_ext h1]
    simp only at h ⊢
    cases h2 : rdSched r1 with
    | none => rw [h2] at h; cases h
    | some y2 =>
      obtain ⟨n2, r2⟩ := y2
      rw [h2] at h
      rw [rdSched_ext h2]
      simp only at h ⊢
      cases h3 : rdVer r2 with
      | none => rw [h3] at h; cases h
      | some y3 =>
        obtain ⟨n3, r3⟩ := y3
        rw [h3] at h
        rw [rdVer_ext h3]
        simp only [Option.some.injEq, Prod.mk.injEq] at h ⊢
        exact ⟨h.1, by rw [h.2]⟩

theorem dec_parts {l : List Nat} {a : Art} (h : decB l = some a) : ∃ r, rdArt l = some (a, r) ∧ r.length = 4 ∧ r = leB 4 (crcN (l.take (l.length - r.length))) := by
  unfold decB at h
  cases h1 : rdArt l with
  | none => rw [h1] at h; cases h
  | some y =>
    obtain ⟨b, r⟩ := y
    rw [h1] at h
    simp only at h
    split at h
    · rename_i h2
      obtain rfl := Option.some.inj h
      exact ⟨r, rfl, by rw [h2.1, leB_len], h2.1⟩
    · cases h

/-- More behind: refused. -/
theorem dec_more {l m : List Nat} {a : Art} (h : decB l = some a) (hm : m ≠ []) : decB (l ++ m) = none := by
  obtain ⟨r, h1, h2, _⟩ := dec_parts h
  cases h3 : decB (l ++ m) with
  | none => rfl
  | some b =>
    obtain ⟨r', h4, h5, _⟩ := dec_parts h3
    rw [rdArt_ext h1] at h4
    simp only [Option.some.injEq, Prod.mk.injEq] at h4
    have := congrArg List.length h4.2
    have hp := List.length_pos_iff.2 hm
    simp at this
    omega
/-- Cut: refused. -/
theorem dec_cut {l : List Nat} {a : Art} (h : decB l = some a) (j : Nat) (hj : j < l.length) : decB (l.take j) = none := by
  cases h3 : decB (l.take j) with
  | none => rfl
  | some b =>
    have := dec_more h3 (m := l.drop j) (by intro e; have := congrArg List.length e; simp at this; omega)
    rw [List.take_append_drop, h] at this
    cases this

theorem dec_form {l : List Nat} {a : Art} (h : decB l = some a) : ∃ u, l = u ++ leB 4 (crcN u) ∧ 3 ≤ u.length := by
  obtain ⟨r, h1, h2, h3⟩ := dec_parts h
  have hsuf : ∃ u, l = u ++ r ∧ 3 ≤ u.length := by
    have key : ∀ {α : Type} {P : List Nat → Option (α × List Nat)}, (∀ {l r : List Nat} {x : α}, P l = some (x, r) → ∃ u, l = u ++ r) → ∀ (k : Nat) {l r : List Nat} {x : List α}, rdMany P k l = some (x, r) → ∃ u, l = u ++ r := by
      intro α P hP k
      induction k with
      | zero => intro l r x h; simp only [rdMany, Option.some.injEq, Prod.mk.injEq] at h; exact ⟨[], by rw [h.2]; rfl⟩
      | succ k ih =>
        intro l r x h
        rw [rdMany] at h
        cases h1 : P l with
        | none => rw [h1] at h; cases h
        | some y =>
          rw [h1] at h
          simp only at h
          cases h2 : rdMany P k y.2 with
          | none => rw [h2] at h; cases h
          | some z =>
            rw [h2] at h
            simp only [Option.some.injEq, Prod.mk.injEq] at h
            obtain ⟨u, e1⟩ := hP (x := y.1) (r := y.2) h1
            obtain ⟨v, e2⟩ := ih (x := z.1) (r := z.2) h2
            exact ⟨u ++ v, by rw [e1, e2, ← h.2, List.append_assoc]⟩
    have sN : ∀ (l : List Nat) (p n : Nat) {x : Nat} {r : List Nat}, rdN p n l = some (x, r) → ∃ u, l = u ++ r := by
      intro l
      induction l with
      | nil => intro p n x r h; cases h
      | cons b l ih =>
        intro p n x r h
        rw [rdN] at h
        split at h
        · split at h
          · split at h
            · simp only [Option.some.injEq, Prod.mk.injEq] at h
              exact ⟨[b], by rw [h.2]; rfl⟩
            · cases h
          · obtain ⟨u, e⟩ := ih _ _ h
            exact ⟨b :: u, by rw [e]; rfl⟩
        · cases h
    have sW : ∀ {l r : List Nat} {x : Int}, rdWhole l = some (x, r) → ∃ u, l = u ++ r := by
      intro l r x h
      unfold rdWhole at h
      cases h1 : rdN 0 0 l with
      | none => rw [h1] at h; cases h
      | some y =>
        rw [h1] at h
        simp only at h
        split at h
        · simp only [Option.some.injEq, Prod.mk.injEq] at h
          rw [← h.2]; exact sN l 0 0 (x := y.1) (r := y.2) h1
        · cases h
    have sS : ∀ {l r : List Nat} {x : Int}, rdSigned l = some (x, r) → ∃ u, l = u ++ r := by
      intro l r x h
      unfold rdSigned at h
      cases h1 : rdN 0 0 l with
      | none => rw [h1] at h; cases h
      | some y =>
        rw [h1] at h
        simp only [Option.some.injEq, Prod.mk.injEq] at h
        rw [← h.2]; exact sN l 0 0 (x := y.1) (r := y.2) h1
    have sM : ∀ {b : Int} {l r : List Nat} {x : Int}, rdMost b l = some (x, r) → ∃ u, l = u ++ r := by
      intro b l r x h
      unfold rdMost at h
      cases h1 : rdWhole l with
      | none => rw [h1] at h; cases h
      | some y =>
        rw [h1] at h
        simp only at h
        split at h
        · simp only [Option.some.injEq, Prod.mk.injEq] at h
          rw [← h.2]; exact sW (x := y.1) (r := y.2) h1
        · cases h
    have sI : ∀ {l r : List Nat} {x : Ins}, rdIns l = some (x, r) → ∃ u, l = u ++ r := by
      intro l r x h
      unfold rdIns at h
      cases h1 : rdWhole l with
      | none => rw [h1] at h; cases h
      | some y1 =>
        rw [h1] at h; simp only at h
        cases h2 : rdWhole y1.2 with
        | none => rw [h2] at h; cases h
        | some y2 =>
          rw [h2] at h; simp only at h
          cases h3 : rdWhole y2.2 with
          | none => rw [h3] at h; cases h
          | some y3 =>
            rw [h3] at h; simp only at h
            cases h4 : rdSigned y3.2 with
            | none => rw [h4] at h; cases h
            | some y4 =>
              rw [h4] at h
              simp only [Option.some.injEq, Prod.mk.injEq] at h
              obtain ⟨u1, e1⟩ := sW (x := y1.1) (r := y1.2) h1
              obtain ⟨u2, e2⟩ := sW (x := y2.1) (r := y2.2) h2
              obtain ⟨u3, e3⟩ := sW (x := y3.1) (r := y3.2) h3
              obtain ⟨u4, e4⟩ := sS (x := y4.1) (r := y4.2) h4
              exact ⟨u1 ++ (u2 ++ (u3 ++ u4)), by rw [e1, e2, e3, e4, ← h.2]; simp⟩
    have sT : ∀ {l r : List Nat} {x : List Ins}, rdThread l = some (x, r) → ∃ u, l = u ++ r := by
      intro l r x h
      unfold rdThread at h
      cases h1 : rdMost 16 l with
      | none => rw [h1] at h; cases h
      | some y =>
        rw [h1] at h; simp only at h
        obtain ⟨u1, e1⟩ := sM (x := y.1) (r := y.2) h1
        obtain ⟨u2, e2⟩ := key sI _ h
        exact ⟨u1 ++ u2, by rw [e1, e2, List.append_assoc]⟩
    have sP : ∀ {l r : List Nat} {x : List (List Ins)}, rdProg l = some (x, r) → ∃ u, l = u ++ r := by
      intro l r x h
      unfold rdProg at h
      cases h1 : rdMost 4 l with
      | none => rw [h1] at h; cases h
      | some y =>
        rw [h1] at h; simp only at h
        obtain ⟨u1, e1⟩ := sM (x := y.1) (r := y.2) h1
        obtain ⟨u2, e2⟩ := key sT _ h
        exact ⟨u1 ++ u2, by rw [e1, e2, List.append_assoc]⟩
    have sR : ∀ (k : Nat) {sch : List Int} {l r : List Nat} {x : List Int}, rdRuns k sch l = some (x, r) → ∃ u, l = u ++ r := by
      intro k
      induction k with
      | zero => intro sch l r x h; simp only [rdRuns, Option.some.injEq, Prod.mk.injEq] at h; exact ⟨[], by rw [h.2]; rfl⟩
      | succ k ih =>
        intro sch l r x h
        rw [rdRuns] at h
        cases h1 : rdWhole l with
        | none => rw [h1] at h; cases h
        | some y =>
          rw [h1] at h; simp only at h
          cases h2 : rdMost (500 - sch.length) y.2 with
          | none => rw [h2] at h; cases h
          | some z =>
            rw [h2] at h; simp only at h
            split at h
            · obtain ⟨u1, e1⟩ := sW (x := y.1) (r := y.2) h1
              obtain ⟨u2, e2⟩ := sM (x := z.1) (r := z.2) h2
              obtain ⟨u3, e3⟩ := ih h
              exact ⟨u1 ++ (u2 ++ u3), by rw [e1, e2, e3]; simp⟩
            · cases h
    obtain ⟨r0, rfl⟩ := rdArt_head h1
    simp only [rdArt] at h1
    cases g1 : rdProg r0 with
    | none => rw [g1] at h1; cases h1
    | some y1 =>
      rw [g1] at h1; simp only at h1
      cases g2 : rdSched y1.2 with
      | none => rw [g2] at h1; cases h1
      | some y2 =>
        rw [g2] at h1; simp only at h1
        cases g3 : rdVer y2.2 with
        | none => rw [g3] at h1; cases h1
        | some y3 =>
          rw [g3] at h1
          simp only [Option.some.injEq, Prod.mk.injEq] at h1
          obtain ⟨u1, e1⟩ := sP (x := y1.1) (r := y1.2) g1
          have g2' := g2
          unfold rdSched at g2'
          cases g4 : rdMost 500 y1.2 with
          | none => rw [g4] at g2'; cases g2'
          | some y4 =>
            rw [g4] at g2'; simp only at g2'
            obtain ⟨u4, e4⟩ := sM (x := y4.1) (r := y4.2) g4
            obtain ⟨u2, e2⟩ := sR _ (x := y2.1) (r := y2.2) g2'
            have g3' := g3
            unfold rdVer at g3'
            cases g5 : rdWhole y2.2 with
            | none => rw [g5] at g3'; cases g3'
            | some y5 =>
              rw [g5] at g3'; simp only at g3'
              cases g6 : rdWhole y5.2 with
              | none => rw [g6] at g3'; cases g3'
              | some y6 =>
                rw [g6] at g3'; simp only at g3'
                cases g7 : rdWhole y6.2 with
                | none => rw [g7] at g3'; cases g3'
                | some y7 =>
                  rw [g7] at g3'
                  simp only [Option.some.injEq] at g3'
                  obtain ⟨u5, e5⟩ := sW (x := y5.1) (r := y5.2) g5
                  obtain ⟨u6, e6⟩ := sW (x := y6.1) (r := y6.2) g6
                  obtain ⟨u7, e7⟩ := sW (x := y7.1) (r := y7.2) g7
                  have e8 : y3.2 = y7.2 := by rw [← g3']
                  refine ⟨[82, 82, 1] ++ (u1 ++ (u4 ++ (u2 ++ (u5 ++ (u6 ++ u7))))), ?_, by simp⟩
                  rw [e1, e4, e2, e5, e6, e7, ← h1.2, e8]; simp
  obtain ⟨u, e, hu⟩ := hsuf
  refine ⟨u, ?_, hu⟩
  have : l.take (l.length - r.length) = u := by rw [e]; simp
  rw [this] at h3
  rw [← h3]; exact e

/-- Bits that are others within 32 side by side: refused. -/
theorem dec_burst {l m : List Nat} {a b : Art} (hl : decB l = some a) (hm : decB m = some b) (hlb : ∀ x ∈ l, x < 256) (hmb : ∀ x ∈ m, x < 256) (j n k r x : Nat) (hx : x < 4294967296) (hk : k ≤ 8 * n) (hlt : 2 ^ k * x < 256 ^ n)
    (hlen : l.length = j + n + r) (he : m = List.zipWith (· ^^^ ·) l (List.replicate j 0 ++ leB n (2 ^ k * x) ++ List.replicate r 0)) : x = 0 := by
  obtain ⟨u, e1, _⟩ := dec_form hl
  obtain ⟨v, e2, _⟩ := dec_form hm
  refine crc_burst u v (fun y hy => hlb y (by rw [e1]; simp [hy])) (fun y hy => hmb y (by rw [e2]; simp [hy])) j n k r x hx hk hlt (by rw [← e1]; exact hlen) ?_
  rw [← e1, ← e2]; exact he

/-- What was written is read again. -/
theorem dec_enc (a : Art) (h : artE a = 0) (hi : ∀ c ∈ a.prog, ∀ i ∈ c, insInt i) : decB (encB a) = some a := by
  have hv : vProg a.prog = true ∧ validS a.sch = true ∧ verOk a.ver = true := by
    unfold artE at h
    split at h
    · split at h
      · rename_i h1 h2; exact ⟨h1, h2⟩
      · omega
    · omega
  have hl := vProg_len hv.1
  have hp : ∀ c ∈ a.prog, c.length ≤ 16 ∧ ∀ i ∈ c, insInt i := by
    intro c hc
    refine ⟨?_, hi c hc⟩
    have h1 := hv.1
    simp only [vProg, Bool.and_eq_true, List.all_eq_true] at h1
    exact vCode_len (h1.2.2 c hc)
  have hr : rdArt (encB a) = some (a, leB 4 (crcN (bodyB a))) := by
    unfold encB bodyB
    simp only [List.cons_append, List.nil_append, List.append_assoc, rdArt]
    rw [rdProg_w a.prog _ hl.2 hp]
    simp only
    rw [rdSched_w a.sch _ hv.2.1]
    simp only
    rw [rdVer_w a.ver _ hv.2.2]
  unfold decB
  rw [hr]
  simp only
  have : (encB a).take ((encB a).length - (leB 4 (crcN (bodyB a))).length) = bodyB a := by unfold encB; simp
  rw [this, if_pos ⟨rfl, h⟩]

end Go.Proofs.YtklenjmfalljgaaGreatDoor

/- The walks of the writer's numbers and of the check. -/
namespace Go.Proofs.YtklenjmfalljgaaGreatDoor
open Go.RowKit
attribute [local go_sem] Go.World.cell?_alloc_some

def u8s (l : List Nat) : List Value := l.map fun (x : Nat) => .int .u8 (x : Int)
theorem u8s_len (l : List Nat) : (u8s l).length = l.length := by simp [u8s]
theorem u8s_snoc (l : List Nat) (x : Nat) : u8s (l ++ [x]) = u8s l ++ [.int .u8 (x : Int)] := by simp [u8s]
theorem info_u8 : ((Tryz.prog.info? 5).map fun i => (i.zero, i.size, i.bytes)) = some (some (.int .u8 0), 1, 1) := by kernel_rfl

/-- A row of bytes: the call's own, or the head's as it was laid: full, and marked behind its last cell. -/
def RowM (w : World) (base : Nat) (v : Value) (n : Nat) (xs : List Value) : Prop :=
  w.ownsRow base 5 1 v n xs ∨ ∃ g cur, v = .slice (some ⟨g, 0, none⟩) n n ∧ base ≤ g ∧ w.heap[g]? = some (.cells cur 5 (n, n + 1)) ∧ cur.toList = xs ∧ xs.length = n

section
variable {w w' : World} {base n : Nat} {v : Value} {xs : List Value}
theorem RowM.form (h : RowM w base v n xs) : ∃ ao c, v = .slice ao n c := by
  rcases h with h | ⟨g, cur, rfl, _⟩
  · obtain ⟨x1, x2, x3, rfl⟩ := owns_form h
    exact ⟨x1, x3, by rw [owns_lenq h]⟩
  · exact ⟨_, _, rfl⟩
theorem RowM.block (h : RowM w base v n xs) : ∀ k, v.ownBlock = some k → base ≤ k := by
  rcases h with h | ⟨g, cur, rfl, hb, _⟩
  · exact owns_block h
  · intro k hk; simp only [Value.ownBlock, Option.some.injEq] at hk; omega
theorem RowM.lt (h : RowM w base v n xs) : ∀ k, v.ownBlock = some k → k < w.heap.size := by
  rcases h with h | ⟨g, cur, rfl, _, hg, _⟩
  · exact owns_lt h
  · intro k hk; simp only [Value.ownBlock, Option.some.injEq] at hk; subst hk; exact (Array.getElem?_eq_some_iff.1 hg).1
theorem RowM.keep (h : RowM w base v n xs) (hb : ∀ k, v.ownBlock = some k → w'.heap[k]? = w.heap[k]?) : RowM w' base v n xs := by
  rcases h with h | ⟨g, cur, rfl, hbg, hg, h4⟩
  · refine Or.inl ⟨h.1, ?_⟩
    rcases h.2 with e | ⟨g, cap, cur, rfl, hbg, hg, h4⟩
    · exact Or.inl e
    · exact Or.inr ⟨g, cap, cur, rfl, hbg, by rw [hb g rfl]; exact hg, h4⟩
  · exact Or.inr ⟨g, cur, rfl, hbg, by rw [hb g rfl]; exact hg, h4⟩
theorem RowM.alloc {o : Obj} (h : RowM w base v n xs) : RowM (w.alloc o) base v n xs := h.keep fun k hk => Below.heap_alloc _ _ _ (h.lt k hk)
theorem RowM.len (h : RowM w base v n xs) : xs.length = n := by
  rcases h with h | ⟨g, cur, rfl, hbg, hg, _, h4⟩
  · simpa using h.1
  · exact h4
theorem RowM.cells (h : RowM w base v n xs) {g : Nat} (hg : v.ownBlock = some g) : ∀ j u, xs[j]? = some u → w.cell? ⟨g, j, none⟩ = some u := by
  intro j u hu
  rcases h with h | ⟨g', cur, rfl, _, hg', hc, _⟩
  · have := h.cells hg j u hu
    have hadd : (⟨g, 0, none⟩ : Addr).add j = ⟨g, j, none⟩ := by unfold Addr.add; split <;> simp_all
    rwa [hadd] at this
  · simp only [Value.ownBlock, Option.some.injEq] at hg
    subst hg
    subst hc
    simpa [World.cell?, hg'] using hu
end

/-- append(row, y). -/
theorem wp_append_m {o : Oper} {a : Act} {K : Act → World → Prop} {Q : Exit → Act → World → Prop} (w : World) (s x : Operand)
    (ho : o.op = .call { callee := .builtin .append, args := #[s, x], argTypes := #[61, 61] }) (base : Nat) (v : Value) (n : Nat) (xs : List Value) (hs : a.eval s = v) (hown : RowM w base v n xs)
    (g0 : Nat) (y : Value) (hx : a.eval x = .slice (some ⟨g0, 0, none⟩) 1 1) (hblk : w.heap[g0]? = some (.cells #[y] 5 (0, 0))) (h1 : y.oneCell' = true) (hn : n ≤ 2000000) (hbase : base ≤ w.heap.size) (H : Nat) (hH : w.heap.size = H)
    (h : ∀ g cap w', w'.ownsRow base 5 1 (.slice (some ⟨g, 0, none⟩) (n + 1) cap) (n + 1) (xs ++ [y]) → w.grownBy w' v.ownBlock → (v.ownBlock = some g ∨ g = H) → g < w'.heap.size → K (a.put o.dst (.slice (some ⟨g, 0, none⟩) (n + 1) cap)) w') :
    o.wp Tryz.prog a w K Q := by
  obtain ⟨i0, hi0, hz0, hz1, hz2⟩ := info_parts info_u8
  have h63 : n + 1 ≤ maxLen := by unfold maxLen; omega
  have hnews : ∀ j u, [y][j]? = some u → w.cell? ((⟨g0, 0, none⟩ : Addr).add j) = some u := World.news_of_block (cs := #[y]) hblk
  rcases hown with hown | ⟨g, cur, rfl, hb, hg, hcur, hl⟩
  · exact wp_append_lies w s x _ ho base 5 i0 _ 1 1 Tryz.underlying61 hi0 hz0 hz1 hz2 rfl (by omega) v n xs hs hown ⟨g0, 0, none⟩ 1 1 [y] hx rfl hnews (by simpa using h1) (by omega) h63 (by omega) hbase H hH h
  · have holds : ∀ j u, xs[j]? = some u → w.cell? ((⟨g, 0, none⟩ : Addr).add j) = some u := fun j u hu => by
      have hadd : (⟨g, 0, none⟩ : Addr).add j = ⟨g, j, none⟩ := by unfold Addr.add; split <;> simp_all
      rw [hadd]
      exact RowM.cells (v := .slice (some ⟨g, 0, none⟩) n n) (base := base) (n := n) (Or.inr ⟨g, cur, rfl, hb, hg, hcur, hl⟩) rfl j u hu
    have hr := run_append_grow (P := Tryz.prog) w 61 o.type 5 i0 _ Tryz.underlying61 hi0 hz0 ⟨g, 0, none⟩ n n xs (by rw [hz1]; omega) holds ⟨g0, 0, none⟩ 1 1 [y] (by rw [hz1]; rfl) hnews (by omega) (by omega) (growslice_fits (by omega) (by rw [hz2]; omega))
    have hge := grownCap_ge w (n + 1) n 5
    have hcm : grownCap w (n + 1) n 5 ≤ maxLen := grownCap_le_maxLen w (n + 1) n 5 h63
    have hlen : (xs ++ [y]).length = (n + 1) * 1 := by simp [hl]
    unfold Oper.wp execOp
    simp only [ho, resolve, invoke, builtin, Sem.run_bind, Sem.run_pure, Result.andThen_ok, List.map_toArray, List.map_cons, List.map_nil, hs, hx, hr]
    refine h _ _ _ ⟨hlen, .inr ⟨w.heap.size, _, _, rfl, hbase, heap_alloc_new w.drew _, hge, hcm, ?_, ?_⟩⟩ ⟨rfl, rfl, rfl, by simp, fun k hk _ => Below.heap_alloc w.drew _ _ hk⟩ (Or.inr hH) (by simp)
    · have hz1 : (Value.int IntKind.u8 0).cells.size = 1 := rfl
      simp only [Array.size_append, List.size_toArray, size_zeroCells, hz1, hl, List.length_singleton]
      omega
    · simp only [Array.toList_append, List.append_assoc]
      rw [← List.append_assoc, ← hlen]
      exact List.take_left

theorem wpList_append_m {ops : Array Oper} {rest : List Oper} {o : Oper} {a : Act} {Q : Exit → Act → World → Prop} (w : World) (hgd : o.guard = none) (s x : Operand)
    (ho : o.op = .call { callee := .builtin .append, args := #[s, x], argTypes := #[61, 61] }) (base : Nat) (v : Value) (n : Nat) (xs : List Value) (hs : a.eval s = v) (hown : RowM w base v n xs)
    (g0 : Nat) (y : Value) (hx : a.eval x = .slice (some ⟨g0, 0, none⟩) 1 1) (hblk : w.heap[g0]? = some (.cells #[y] 5 (0, 0))) (h1 : y.oneCell' = true) (hn : n ≤ 2000000) (hbase : base ≤ w.heap.size) (H : Nat) (hH : w.heap.size = H)
    (h : ∀ g cap w', w'.ownsRow base 5 1 (.slice (some ⟨g, 0, none⟩) (n + 1) cap) (n + 1) (xs ++ [y]) → w.grownBy w' v.ownBlock → (v.ownBlock = some g ∨ g = H) → g < w'.heap.size → wpList Tryz.prog ops Q rest (a.put o.dst (.slice (some ⟨g, 0, none⟩) (n + 1) cap)) w') :
    wpList Tryz.prog ops Q (o :: rest) a w :=
  wpList_plain hgd fun _ hK => wp_append_m w s x ho base v n xs hs hown g0 y hx hblk h1 hn hbase H hH fun g cap w' h2 h3 h4 h5 => hK _ _ (h g cap w' h2 h3 h4 h5)

/-- The string of some bytes. -/
def bs (l : List Nat) : ByteArray := strOfNums (l.map fun (x : Nat) => (x : Int))
theorem bs_size (l : List Nat) : (bs l).size = l.length := by unfold bs; rw [strOfNums_size]; simp
theorem byt_bs {l : List Nat} (h : ∀ x ∈ l, x < 256) : byt (bs l) = l := by
  unfold byt bs
  rw [strOfNums_data, List.map_map, List.map_map]
  conv => rhs; rw [← List.map_id l]
  refine List.map_congr_left fun x hx => ?_
  have := h x hx
  simp
  omega
/-- string(row). -/
theorem RowM.str {w : World} {base n : Nat} {v : Value} {l : List Nat} (h : RowM w base v n (u8s l)) : (convert 61 9 v).run Tryz.prog w = .ok (.string (bs l)) w := by
  have hl := h.len
  rw [u8s_len] at hl
  subst hl
  have hcell : ∀ g, v.ownBlock = some g → ∀ i, i < l.length → w.cell? ⟨g, 0 + i, none⟩ = some (.int .u8 ((l.map fun (x : Nat) => (x : Int)).getD i 0)) := fun g hg i hi => by
    have := h.cells hg i (.int .u8 (l[i] : Nat)) (by simp [u8s, hi])
    rw [Nat.zero_add, this]
    simp [List.getD, hi]
  rcases h with h | ⟨g, cur, rfl, _⟩
  · rcases h.2 with ⟨rfl, e⟩ | ⟨g, cap, cur, rfl, _⟩
    · have : l = [] := List.eq_nil_of_length_eq_zero e
      subst this
      exact run_convert_bytes_nil w _ _ Tryz.underlying61 Tryz.underlying5 0 0 _ Tryz.underlying9
    · exact run_convert_bytes_arg w _ _ Tryz.underlying61 Tryz.underlying5 g 0 l.length cap _ (by simp) (hcell g rfl) _ Tryz.underlying9
  · exact run_convert_bytes_arg w _ _ Tryz.underlying61 Tryz.underlying5 g 0 l.length _ _ (by simp) (hcell g rfl) _ Tryz.underlying9

/-- The writer lies at b and has written l. -/
structure WrS (W : World) (w : World) (b : Nat) (bv : Value) (l : List Nat) : Prop where
  blk : w.heap[b]? = some (.cells #[bv] 137 (0, 0))
  row : RowM w W.heap.size bv l.length (u8s l)
  ne : bv.ownBlock ≠ some b
  lo : W.heap.size ≤ b
  base : W.grownBy w none

theorem WrS.cell {W w : World} {b : Nat} {bv : Value} {l : List Nat} (h : WrS W w b bv l) : w.cell? ⟨b, 0, none⟩ = some bv := by have := h.blk; simp [World.cell?, this]
theorem WrS.free {W w : World} {b : Nat} {bv : Value} {l : List Nat} (h : WrS W w b bv l) : w.frozen? ⟨b, 0, none⟩ = false := by have := h.blk; simp [World.frozen?, this]
theorem WrS.lt {W w : World} {b : Nat} {bv : Value} {l : List Nat} (h : WrS W w b bv l) : b < w.heap.size := (Array.getElem?_eq_some_iff.1 h.blk).1
theorem WrS.grown {W w w' : World} {b : Nat} {bv : Value} {l : List Nat} (h : WrS W w b bv l) (hg : w.grownBy w' none) : WrS W w' b bv l :=
  ⟨by rw [hg.block b h.lt (by simp)]; exact h.blk, h.row.keep (fun k hk => hg.block k (h.row.lt k hk) (by simp)), h.ne, h.lo, grown_trans h.base hg⟩

/-- From w0 to w nothing was turned but the writer at b and the row that it had. -/
structure WrT (w0 w : World) (b : Nat) (bv0 bv : Value) : Prop where
  keep : ∀ k, k < w0.heap.size → k ≠ b → bv0.ownBlock ≠ some k → w.heap[k]? = w0.heap[k]?
  own : ∀ g, bv.ownBlock = some g → bv0.ownBlock = some g ∨ w0.heap.size ≤ g
  size : w0.heap.size ≤ w.heap.size
theorem WrT.refl (w : World) (b : Nat) (bv : Value) : WrT w w b bv bv := ⟨fun _ _ _ _ => rfl, fun _ h => Or.inl h, Nat.le_refl _⟩
theorem WrT.trans {w0 w1 w2 : World} {b : Nat} {v0 v1 v2 : Value} (h : WrT w0 w1 b v0 v1) (h' : WrT w1 w2 b v1 v2) : WrT w0 w2 b v0 v2 := by
  refine ⟨fun k hk hb ho => ?_, fun g hg => ?_, Nat.le_trans h.size h'.size⟩
  · rw [h'.keep k (Nat.lt_of_lt_of_le hk h.size) hb (fun e => by rcases h.own k e with e2 | e2; exact ho e2; omega)]
    exact h.keep k hk hb ho
  · rcases h'.own g hg with e | e
    · exact h.own g e
    · exact Or.inr (Nat.le_trans h.size e)
theorem WrT.grown {w0 w1 w2 : World} {b : Nat} {v0 v1 : Value} (h : WrT w0 w1 b v0 v1) (hg : w1.grownBy w2 none) : WrT w0 w2 b v0 v1 :=
  ⟨fun k hk hb ho => by rw [hg.block k (Nat.lt_of_lt_of_le hk h.size) (by simp)]; exact h.keep k hk hb ho, h.own, Nat.le_trans h.size hg.size⟩

/-- w.bytes = append(w.bytes, x). -/
theorem WrS.push {W w w6 : World} {b : Nat} {bv : Value} {l : List Nat} {o : Obj} {g6 c6 x : Nat} (h : WrS W w b bv l) (hown : w6.ownsRow W.heap.size 5 1 (.slice (some ⟨g6, 0, none⟩) (l.length + 1) c6) (l.length + 1) (u8s l ++ [.int .u8 x]))
    (hg : (w.alloc o).grownBy w6 bv.ownBlock) (hat : bv.ownBlock = some g6 ∨ g6 = w.heap.size + 1) : WrS W (w6.setCell ⟨b, 0, none⟩ (.slice (some ⟨g6, 0, none⟩) (l.length + 1) c6)) b (.slice (some ⟨g6, 0, none⟩) (l.length + 1) c6) (l ++ [x]) ∧
    w6.cell? ⟨b, 0, none⟩ = some bv ∧ w6.frozen? ⟨b, 0, none⟩ = false ∧ WrT w (w6.setCell ⟨b, 0, none⟩ (.slice (some ⟨g6, 0, none⟩) (l.length + 1) c6)) b bv (.slice (some ⟨g6, 0, none⟩) (l.length + 1) c6) := by
  have hb := h.lt
  have hblk : w6.heap[b]? = some (.cells #[bv] 137 (0, 0)) := by
    rw [hg.block b (by simp; omega) (fun e => h.ne e.symm), Below.heap_alloc _ _ _ hb]; exact h.blk
  have hg6 : g6 ≠ b := by
    rcases hat with e | e
    · intro e2; exact h.ne (by rw [e, e2])
    · omega
  refine ⟨⟨?_, ?_, by simpa [Value.ownBlock] using hg6, h.lo, ?_⟩, by simp [World.cell?, hblk], by simp [World.frozen?, hblk], fun k hk hb' ho => ?_, fun g hg' => ?_, ?_⟩
  · rw [heap_setCell_same _ b 0 _ _ _ hblk]; rfl
  · refine Or.inl (ownsRow_setCell_other ?_ (by simpa [Value.ownBlock] using hg6) _)
    rw [u8s_snoc]
    simpa using hown
  · exact grown_setNew (grown_row (grown_alloc h.base) hg h.row.block) h.lo
  · rw [heap_setCell_other _ _ _ _ hb', hg.block k (by simp; omega) (fun e => ho e.symm), Below.heap_alloc _ _ _ hk]
  · simp only [Value.ownBlock, Option.some.injEq] at hg'
    rcases hat with e | e
    · exact Or.inl (by rw [e, hg'])
    · exact Or.inr (by omega)
  · have := hg.size
    simp at this ⊢
    omega

theorem or128 (x : Nat) (h : x < 256) : x ||| 128 = x % 128 + 128 := by
  have : ∀ x : _root_.Fin 256, x.val ||| 128 = x.val % 128 + 128 := by decide +kernel
  exact this ⟨x, h⟩
theorem numB_len (n : Nat) : ∀ k, n < 128 ^ (k + 1) → (numB n).length ≤ k + 1 := by
  induction n using Nat.strongRecOn with
  | ind n ih =>
    intro k hk
    by_cases h : n < 128
    · rw [numB_small h]; simp
    · rw [numB_big h]
      cases k with
      | zero => simp at hk; omega
      | succ k =>
        have := ih (n / 128) (by omega) k (by rw [Nat.div_lt_iff_lt_mul (by decide)]; rwa [Nat.pow_succ] at hk)
        simp; omega
theorem numB_ten {n : Nat} (h : n < 18446744073709551616) : (numB n).length ≤ 10 := by
  have h1 : (128 : Nat) ^ (9 + 1) = 1180591620717411303424 := by decide
  exact numB_len n 9 (by rw [h1]; omega)
theorem shr7 (n : Nat) : n / 128 ≤ n := Nat.div_le_self _ _

set_option maxRecDepth 100000 in
set_option maxHeartbeats 1000000 in
theorem number_m (W : World) (b : Nat) (n : Nat) (hn : n < 18446744073709551616) : ∀ (w : World) (bv : Value) (l : List Nat), WrS W w b bv l → l.length ≤ 1000000 →
    Calls Tryz.prog 131 #[pt b, .int .u64 n] w fun e w' => (∃ v, e = .returned v) ∧ ∃ bv', WrS W w' b bv' (l ++ numB n) ∧ WrT w w' b bv bv' := by
  intro w bv l h hl
  have HH := hide h
  have hpt : pt b = .pointer (some ⟨b, 0, none⟩) := rfl
  rw [hpt]
  clear h hpt
  go_enter Tryz.func131, Tryz.ntmps131
  go_wp2_with fail
  go_loopw [1] (fun i w' => ∃ (m : Nat) (bv' : Value) (l' : List Nat), i = .int .u64 m ∧ m < 18446744073709551616 ∧ Hid (WrS W w' b bv' l') ∧ Hid (WrT w w' b bv bv') ∧ Hid (l' ++ numB m = l ++ numB n)) (fun i _ => (intOf i).toNat)
  case atStart => exact ⟨n, bv, l, rfl, hn, HH, hide (WrT.refl _ _ _), hide rfl⟩
  case round =>
    obtain ⟨m, bv', l', rfl, hm, HW, HT, HE⟩ := hrel
    obtain ⟨w5, hw5⟩ : ∃ w5, w5 = wr := ⟨_, rfl⟩
    rw [← hw5] at HW HT ⊢
    clear hw5
    obtain ⟨x1, x3, rfl⟩ := HW.out.row.form
    have c0 := HW.out.cell
    have hbs : W.heap.size ≤ w5.heap.size := HW.out.base.size
    have hob := HW.out.row.block
    have hl' : l'.length ≤ 1000100 := by
      have h1 := congrArg List.length HE.out
      have := numB_ten hn
      simp at h1
      omega
    by_cases h128 : 127 < m
    · have q1 : (127 : Int) < (m : Int) := by omega
      have hor : bits .or .u8 ((m : Int) % 256) 128 = ((m % 128 + 128 : Nat) : Int) := by
        have h1 : ((m : Int) % 256) = ((m % 256 : Nat) : Int) := by omega
        have h2 := u8_or_nat (m % 256) 128 (by omega) (by omega)
        rw [h1]
        rw [or128 _ (by omega)] at h2
        have h3 : (((128 : Nat) : Int)) = 128 := rfl
        rw [h3] at h2
        rw [h2]
        congr 1
        omega
      have HNB : Hid ((l' ++ [m % 128 + 128]) ++ numB (m / 128) = l ++ numB n) := by
        have e : numB m = (m % 128 + 128) :: numB (m / 128) := numB_big (by omega)
        unfold Hid; rw [← HE.out, e]; simp
      generalize m % 128 + 128 = x at *
      go_upto_region 2 with (at_builtin; refine wpList_append_m _ rfl _ _ rfl W.heap.size (.slice x1 l'.length x3) l'.length (u8s l') rfl HW.out.row.alloc w5.heap.size (.int .u8 (x : Int)) rfl (heap_alloc_new w5 _) rfl (by omega) (by simp; omega) (w5.heap.size + 1) (by simp) ?_; intro g6 cap6 w6 hown6 hgrow6 hat6 hlt6; obtain ⟨p1, p2, p3, p4⟩ := HW.out.push hown6 hgrow6 hat6; have P1 := hide p1; have P4 := hide (HT.out.trans p4); clear p1 p4 hown6 hgrow6 hat6 hlt6)
      have q3 : m / 128 < m := by omega
      go_wp2_with fail
      go_roundw
      case rel => exact ⟨m / 128, _, l' ++ [x], by first | rfl | (congr 1; omega) | go_num, by omega, P1, P4, HNB⟩
      case measure => simp [intOf]; omega
    · have q1 : ¬ (127 : Int) < (m : Int) := by omega
      have hmod : (m : Int) % 256 = m := by omega
      have HNB : Hid (l' ++ [m] = l ++ numB n) := by unfold Hid; rw [← HE.out, numB_small (by omega)]
      go_wp2_with (at_builtin; refine wpList_append_m _ rfl _ _ rfl W.heap.size (.slice x1 l'.length x3) l'.length (u8s l') rfl HW.out.row.alloc w5.heap.size (.int .u8 (m : Int)) rfl (heap_alloc_new w5 _) rfl (by omega) (by simp; omega) (w5.heap.size + 1) (by simp) ?_; intro g6 cap6 w6 hown6 hgrow6 hat6 hlt6; obtain ⟨p1, p2, p3, p4⟩ := HW.out.push hown6 hgrow6 hat6; have P1 := hide p1; have P4 := hide (HT.out.trans p4); clear p1 p4 hown6 hgrow6 hat6 hlt6)
      go_end0
      exact ⟨⟨_, rfl⟩, _, by rw [← HNB.out]; exact P1.out, P4.out⟩

/-- A writer's method that writes so many more. -/
def Wrote (W w : World) (b : Nat) (bv : Value) (l : List Nat) (e : Ending) (w' : World) : Prop := (∃ v, e = .returned v) ∧ ∃ bv', WrS W w' b bv' l ∧ WrT w w' b bv bv'

set_option maxRecDepth 100000 in
set_option maxHeartbeats 400000 in
theorem whole_w (W : World) (b : Nat) (n : Int) (h0 : 0 ≤ n) (h1 : n ≤ 9223372036854775807) (w : World) (bv : Value) (l : List Nat) (h : WrS W w b bv l) (hl : l.length ≤ 1000000) :
    Calls Tryz.prog 92 #[pt b, .int .i64 n] w (Wrote W w b bv (l ++ wInt n)) := by
  obtain ⟨m, rfl⟩ := Int.eq_ofNat_of_zero_le h0
  have HN := hide (number_m W b m (by omega) w bv l h hl)
  have hpt : pt b = .pointer (some ⟨b, 0, none⟩) := rfl
  rw [hpt] at *
  clear h
  go_enter Tryz.func92, Tryz.ntmps92
  go_wp2_with (go_at_call 131; refine HN.out.mono ?_; rintro e w1 ⟨⟨v, rfl⟩, hw⟩)
  go_end0
  refine ⟨⟨_, rfl⟩, ?_⟩
  unfold wInt
  rw [Int.toNat_natCast]; exact hw

theorem not_bits (n x : Nat) (h : x < 2 ^ n) : (2 ^ n - 1) ^^^ x = 2 ^ n - 1 - x := by
  have e : 2 ^ n - 1 - x = 2 ^ n - (x + 1) := by omega
  apply Nat.eq_of_testBit_eq
  intro i
  rw [Nat.testBit_xor, Nat.testBit_two_pow_sub_one, e, Nat.testBit_two_pow_sub_succ h]
  by_cases hi : i < n
  · simp [hi]
  · have : x.testBit i = false := Nat.testBit_lt_two_pow (Nat.lt_of_lt_of_le h (Nat.pow_le_pow_right (by decide) (by omega)))
    simp [hi, this]
theorem turn64 (n : Int) (h0 : -9223372036854775808 ≤ n) (h1 : n < 0) : bits .xor .u64 IntKind.u64.max (IntKind.u64.wrap (IntKind.u64.wrap n * 2)) = -2 * n - 1 := by
  have e1 : IntKind.u64.wrap n = n + 18446744073709551616 := by
    simp only [IntKind.wrap, IntKind.signed, IntKind.bits]
    simp
    omega
  have e2 : IntKind.u64.wrap ((n + 18446744073709551616) * 2) = 2 * n + 18446744073709551616 := by
    simp only [IntKind.wrap, IntKind.signed, IntKind.bits]
    simp
    omega
  rw [e1, e2]
  obtain ⟨x, hx⟩ := Int.eq_ofNat_of_zero_le (show 0 ≤ 2 * n + 18446744073709551616 by omega)
  have hm : IntKind.u64.max = ((18446744073709551615 : Nat) : Int) := rfl
  rw [hx, hm, bits_xor_u64_nat _ _ (by decide) (by omega)]
  have := not_bits 64 x (by omega)
  have e3 : (2 : Nat) ^ 64 - 1 = 18446744073709551615 := by decide
  rw [e3] at this
  rw [this]
  omega

set_option maxRecDepth 100000 in
set_option maxHeartbeats 400000 in
theorem signed_w (W : World) (b : Nat) (n : Int) (h0 : -9223372036854775808 ≤ n) (h1 : n ≤ 9223372036854775807) (w : World) (bv : Value) (l : List Nat) (h : WrS W w b bv l) (hl : l.length ≤ 1000000) :
    Calls Tryz.prog 93 #[pt b, .int .i64 n] w (Wrote W w b bv (l ++ numB (zig n))) := by
  have hz : zig n < 18446744073709551616 := by unfold zig; split <;> omega
  have HN := hide (number_m W b (zig n) hz w bv l h hl)
  have hpt : pt b = .pointer (some ⟨b, 0, none⟩) := rfl
  rw [hpt] at *
  clear h
  by_cases hneg : n < 0
  · have HZ : Hid (((zig n : Nat) : Int) = -2 * n - 1) := by unfold Hid zig; rw [if_pos hneg]; omega
    go_enter Tryz.func93, Tryz.ntmps93
    go_wp2_with fail
    rw [turn64 n h0 hneg, ← HZ.out]
    refine HN.out.mono ?_
    rintro e w1 ⟨⟨v, rfl⟩, hw⟩
    go_wp2_with fail
    go_end0
    exact ⟨⟨_, rfl⟩, hw⟩
  · have HZ : Hid (((zig n : Nat) : Int) = 2 * n) := by unfold Hid zig; rw [if_neg hneg]; omega
    go_enter Tryz.func93, Tryz.ntmps93
    go_wp2_with fail
    have e2 : n * 2 = ((zig n : Nat) : Int) := by rw [HZ.out]; omega
    rw [e2]
    refine HN.out.mono ?_
    rintro e w1 ⟨⟨v, rfl⟩, hw⟩
    clear e2
    go_wp2_with fail
    go_end0
    exact ⟨⟨_, rfl⟩, hw⟩

theorem byt_cons (s : ByteArray) (k : Nat) (h : k < s.size) : (byt s).drop k = s[k].toNat :: (byt s).drop (k + 1) := by
  have hl : k < (byt s).length := by rw [byt_len]; exact h
  rw [List.drop_eq_getElem_cons hl]
  congr 1
  have := byt_get s k h
  rw [List.getElem?_eq_getElem hl] at this
  exact Option.some.inj this

end Go.Proofs.YtklenjmfalljgaaGreatDoor

/- The walks of the reader: who gives up, and the next byte. -/
namespace Go.Proofs.YtklenjmfalljgaaGreatDoor
open Go.RowKit
attribute [local go_sem] Go.World.cell?_alloc_some

/-- A reader gives up. -/
def Refused (e : Ending) : Prop := e = .panicked [{ v := .iface 140 (.int .i64 3), recovered := false }]

set_option maxRecDepth 100000 in
set_option maxHeartbeats 400000 in
theorem must_ok (w : World) : Calls Tryz.prog 100 #[.bool true] w fun e w' => (∃ v, e = .returned v) ∧ w' = w := by
  go_enter Tryz.func100, Tryz.ntmps100
  go_wp2_with fail
  go_end0
  exact ⟨⟨_, rfl⟩, rfl⟩
set_option maxRecDepth 100000 in
set_option maxHeartbeats 400000 in
theorem must_not (w : World) : Calls Tryz.prog 100 #[.bool false] w fun e w' => Refused e ∧ w' = w := by
  go_enter Tryz.func100, Tryz.ntmps100
  go_wp2_with fail
  exact ⟨rfl, rfl, rfl⟩

/-- The reader lies at b, reads s, and stands at k. -/
structure RdS (W : World) (w : World) (b : Nat) (s : ByteArray) (k : Nat) : Prop where
  blk : w.heap[b]? = some (.cells #[.string s, .int .i64 k] 142 (0, 0))
  base : W.grownBy w (some b)
  le : k ≤ s.size

theorem RdS.c0 {W w : World} {b k : Nat} {s : ByteArray} (h : RdS W w b s k) : w.cell? ⟨b, 0, none⟩ = some (.string s) := by have := h.blk; simp [World.cell?, this]
theorem RdS.c1 {W w : World} {b k : Nat} {s : ByteArray} (h : RdS W w b s k) : w.cell? ⟨b, 1, none⟩ = some (.int .i64 k) := by have := h.blk; simp [World.cell?, this]
theorem RdS.z1 {W w : World} {b k : Nat} {s : ByteArray} (h : RdS W w b s k) : w.frozen? ⟨b, 1, none⟩ = false := by have := h.blk; simp [World.frozen?, this]
theorem RdS.lt {W w : World} {b k : Nat} {s : ByteArray} (h : RdS W w b s k) : b < w.heap.size := (Array.getElem?_eq_some_iff.1 h.blk).1
theorem RdS.grown {W w w' : World} {b k : Nat} {s : ByteArray} (h : RdS W w b s k) (hg : w.grownBy w' none) : RdS W w' b s k :=
  ⟨by rw [hg.block b h.lt (by simp)]; exact h.blk, grown_trans h.base (grown_none hg), h.le⟩
theorem RdS.self {W w : World} {b k : Nat} {s : ByteArray} (h : RdS W w b s k) : RdS w w b s k := ⟨h.blk, grown_refl _ _, h.le⟩
theorem RdS.trans {W w w' : World} {b k k' : Nat} {s : ByteArray} (h : RdS W w b s k) (h' : RdS w w' b s k') : RdS W w' b s k' := ⟨h'.blk, grown_trans h.base h'.base, h'.le⟩
theorem RdS.step {W w : World} {b k : Nat} {s : ByteArray} (h : RdS W w b s k) (hk : k < s.size) : RdS W (w.setCell ⟨b, 1, none⟩ (.int .i64 ((k + 1 : Nat) : Int))) b s (k + 1) :=
  ⟨by rw [heap_setCell_same _ b 1 _ _ _ h.blk]; rfl, grown_trans h.base grown_set, hk⟩

/-- A reader's method's end: what it read and where it stands, or it gave up. -/
def Rd {α : Type} (W : World) (b : Nat) (s : ByteArray) (V : World → α → Value → Prop) (res : Option (α × List Nat)) (e : Ending) (w' : World) : Prop :=
  (res = none ∧ Refused e ∧ W.grownBy w' (some b)) ∨ ∃ x r v k, res = some (x, r) ∧ e = .returned v ∧ V w' x v ∧ RdS W w' b s k ∧ (byt s).drop k = r

def rdNext (l : List Nat) : Option (Nat × List Nat) := match l with
  | [] => none
  | x :: r => some (x, r)

set_option maxRecDepth 100000 in
set_option maxHeartbeats 1000000 in
theorem next_m (W w : World) (b k : Nat) (s : ByteArray) (h : RdS W w b s k) (hs : s.size ≤ 9223372036854775806) :
    Calls Tryz.prog 133 #[pt b] w (Rd W b s (fun _ x v => v = .int .u8 ((x : Nat) : Int)) (rdNext ((byt s).drop k))) := by
  have c0 := h.c0
  have c1 := h.c1
  have z1 := h.z1
  have hle := h.le
  have HH := hide h
  clear h
  unfold pt
  by_cases hk : k < s.size
  · have q1 : (k : Int) < s.size := by omega
    have q2 : wrap64 ((k : Int) + 1) = ((k + 1 : Nat) : Int) := by simp [wrap64]; omega
    go_enter Tryz.func133, Tryz.ntmps133
    go_wp2_with fail
    go_still_tail 10, (by kernel_rfl)
    go_wp2_with (go_at_call 100; refine (must_ok _).mono ?_; rintro e w1 ⟨⟨v, rfl⟩, rfl⟩)
    have S6 := HH.out.step hk
    have e1 : ((k : Int) + 1) = ((k + 1 : Nat) : Int) := by omega
    rw [e1]
    have HS6 := hide S6
    generalize w.setCell ⟨b, 1, none⟩ (.int .i64 ((k + 1 : Nat) : Int)) = w6 at HS6 S6 ⊢
    have d0 := S6.c0
    have d1 := S6.c1
    clear S6 c0 c1 z1 e1 HH
    have HB := hide (byt_cons s k hk)
    go_quiet (fail)
    go_wp2_with fail
    go_ret
    refine Or.inr ⟨s[k].toNat, (byt s).drop (k + 1), _, k + 1, ?_, rfl, ?_, ?_, rfl⟩
    · rw [HB.out]; rfl
    · rfl
    · exact HS6.out.grown (grown_drewN _ (grown_drew (grown_refl _ _)))
  · have q1 : ¬ (k : Int) < s.size := by omega
    go_enter Tryz.func133, Tryz.ntmps133
    go_wp2_with fail
    go_still_tail 10, (by kernel_rfl)
    go_wp2_with (go_at_call 100; refine (must_not _).mono ?_; rintro e w1 ⟨rfl, rfl⟩)
    refine ⟨rfl, Or.inl ⟨?_, rfl, grown_drew HH.out.base⟩⟩
    have e : (byt s).drop k = [] := List.drop_eq_nil_iff.2 (by rw [byt_len]; omega)
    rw [e]; rfl

end Go.Proofs.YtklenjmfalljgaaGreatDoor

/- The walk of the reader's numbers. -/
namespace Go.Proofs.YtklenjmfalljgaaGreatDoor
open Go.RowKit
attribute [local go_sem] Go.World.cell?_alloc_some

theorem drop_inj (s : ByteArray) {i j : Nat} (hi : i ≤ s.size) (hj : j ≤ s.size) (h : (byt s).drop i = (byt s).drop j) : i = j := by
  have := congrArg List.length h
  simp only [List.length_drop, byt_len] at this
  omega

theorem next_ok (W w : World) (b k : Nat) (s : ByteArray) (h : RdS W w b s k) (hs : s.size ≤ 9223372036854775806) (hk : k < s.size) :
    Calls Tryz.prog 133 #[pt b] w fun e w' => e = .returned (.int .u8 ((s[k].toNat : Nat) : Int)) ∧ RdS W w' b s (k + 1) := by
  refine (next_m W w b k s h hs).mono ?_
  rintro e w' (⟨h1, _⟩ | ⟨x, r, v, k', h1, rfl, rfl, h2, h3⟩)
  · rw [byt_cons s k hk] at h1; cases h1
  · rw [byt_cons s k hk] at h1
    simp only [rdNext, Option.some.injEq, Prod.mk.injEq] at h1
    obtain ⟨rfl, rfl⟩ := h1
    have := drop_inj s h2.le (show k + 1 ≤ s.size from hk) h3
    subst this
    exact ⟨rfl, h2⟩
theorem next_no (W w : World) (b k : Nat) (s : ByteArray) (h : RdS W w b s k) (hs : s.size ≤ 9223372036854775806) (hk : ¬ k < s.size) :
    Calls Tryz.prog 133 #[pt b] w fun e w' => Refused e ∧ W.grownBy w' (some b) := by
  have e0 : (byt s).drop k = [] := List.drop_eq_nil_iff.2 (by rw [byt_len]; omega)
  refine (next_m W w b k s h hs).mono ?_
  rintro e w' (⟨_, h2, h3⟩ | ⟨x, r, v, k', h1, rfl, rfl, h2, h3⟩)
  · exact ⟨h2, h3⟩
  · rw [e0] at h1; cases h1

theorem fits_cast (x place : Nat) : ((x : Int) % 128 * 2 ^ place) = ((x % 128 * 2 ^ place : Nat) : Int) := by push_cast; rfl
theorem fits_wrap (m : Nat) : IntKind.u64.wrap (m : Int) = ((m % 18446744073709551616 : Nat) : Int) := by
  simp only [IntKind.wrap, IntKind.signed, IntKind.bits]
  simp
theorem fits_yes (x place : Nat) (h : x % 128 * 2 ^ place < 18446744073709551616) : (IntKind.u64.wrap ((x : Int) % 128 * 2 ^ place) / 2 ^ place == (x : Int) % 128) = true := by
  rw [fits_cast, fits_wrap, Nat.mod_eq_of_lt h]
  have e : ((2 : Int) ^ place) = ((2 ^ place : Nat) : Int) := by push_cast; rfl
  rw [e, ← Int.natCast_ediv, Nat.mul_div_cancel _ (Nat.two_pow_pos place)]
  simp
theorem fits_no (x place : Nat) (h : ¬ x % 128 * 2 ^ place < 18446744073709551616) (_hp : place < 64) : (IntKind.u64.wrap ((x : Int) % 128 * 2 ^ place) / 2 ^ place == (x : Int) % 128) = false := by
  rw [fits_cast, fits_wrap]
  have e : ((2 : Int) ^ place) = ((2 ^ place : Nat) : Int) := by push_cast; rfl
  rw [e, ← Int.natCast_ediv]
  have h1 : x % 128 * 2 ^ place % 18446744073709551616 / 2 ^ place ≠ x % 128 := by
    intro h2
    have h3 : x % 128 * 2 ^ place ≤ x % 128 * 2 ^ place % 18446744073709551616 := by
      have := Nat.div_mul_le_self (x % 128 * 2 ^ place % 18446744073709551616) (2 ^ place)
      rw [h2] at this
      exact this
    have := Nat.mod_lt (x % 128 * 2 ^ place) (show 0 < 18446744073709551616 by decide)
    omega
  rw [beq_eq_false_iff_ne]
  intro h2
  apply h1
  have : ((x : Int) % 128) = ((x % 128 : Nat) : Int) := by push_cast; rfl
  rw [this] at h2
  exact_mod_cast h2
theorem fits_sum (n x place : Nat) (hn : n < 2 ^ place) (h : x % 128 * 2 ^ place < 18446744073709551616) (hp : place < 64) : n + x % 128 * 2 ^ place < 18446744073709551616 ∧ n + x % 128 * 2 ^ place < 2 ^ (place + 7) := by
  constructor
  · have e : 18446744073709551616 = 2 ^ (64 - place) * 2 ^ place := by rw [← Nat.pow_add, show 64 - place + place = 64 by omega]
    rw [e] at h ⊢
    have h1 : x % 128 < 2 ^ (64 - place) := Nat.lt_of_mul_lt_mul_right h
    have h2 : (x % 128 + 1) * 2 ^ place ≤ 2 ^ (64 - place) * 2 ^ place := Nat.mul_le_mul_right _ h1
    rw [Nat.add_mul, Nat.one_mul] at h2
    omega
  · have h1 : 2 ^ (place + 7) = 128 * 2 ^ place := by rw [Nat.pow_add, Nat.mul_comm]
    have h2 : x % 128 * 2 ^ place ≤ 127 * 2 ^ place := Nat.mul_le_mul_right _ (by omega)
    omega
theorem fits_or (n x place : Nat) (hn : n < 2 ^ place) (h : x % 128 * 2 ^ place < 18446744073709551616) (hp : place < 64) : bits .or .u64 (n : Int) (IntKind.u64.wrap ((x : Int) % 128 * 2 ^ place)) = ((n + x % 128 * 2 ^ place : Nat) : Int) := by
  have h64 := (fits_sum n x place hn h hp).1
  rw [fits_cast, fits_wrap, Nat.mod_eq_of_lt h, u64_or_nat _ _ (by omega) h, Nat.or_comm, nat_join place _ _ (Nat.mul_mod_left _ _) hn, Nat.add_comm]

set_option maxRecDepth 100000 in
set_option maxHeartbeats 2000000 in
theorem number_r (W w : World) (b k : Nat) (s : ByteArray) (h : RdS W w b s k) (hs : s.size ≤ 9223372036854775806) :
    Calls Tryz.prog 166 #[pt b] w (Rd W b s (fun _ x v => v = .int .u64 ((x : Nat) : Int)) (rdN 0 0 ((byt s).drop k))) := by
  have HH := hide h
  have hpt : pt b = .pointer (some ⟨b, 0, none⟩) := rfl
  rw [hpt]
  clear h hpt
  go_enter Tryz.func166, Tryz.ntmps166
  go_wp2_with fail
  go_loopw [3, 4] (fun nv pv w' => ∃ (n place k' : Nat), nv = .int .u64 n ∧ pv = .int .i64 place ∧ place ≤ 70 ∧ n < 2 ^ place ∧ Hid (RdS W w' b s k') ∧ Hid (rdN place n ((byt s).drop k') = rdN 0 0 ((byt s).drop k))) (fun _ pv _ => 71 - (intOf pv).toNat)
  case atStart => exact ⟨0, 0, k, rfl, rfl, by omega, by simp, HH, hide rfl⟩
  case round =>
    obtain ⟨n, place, k', rfl, rfl, hpl, hn, HS, HE⟩ := hrel
    obtain ⟨w5, hw5⟩ : ∃ w5, w5 = wr := ⟨_, rfl⟩
    subst hw5
    by_cases hk : k' < s.size
    · have HB := hide (byt_cons s k' hk)
      have hb := s[k'].toNat_lt
      have HNX := hide (next_ok W w5 b k' s HS.out hs hk)
      generalize s[k'].toNat = x at *
      have hand : bits .and .u8 (x : Int) 127 = ((x % 128 : Nat) : Int) := by
        have := u8_and_nat x 127 (by omega) (by decide)
        rw [nat_mask7] at this
        exact this
      have hx8 : x < 256 := by omega
      by_cases h64 : place < 64
      · have q1 : (place : Int) < 64 := by omega
        by_cases hfit : x % 128 * 2 ^ place < 18446744073709551616
        · have hsh := fits_yes x place hfit
          have hor := fits_or n x place hn hfit h64
          have HN2 := hide (fits_sum n x place hn hfit h64)
          by_cases h128 : x < 128
          · have q2 : (x : Int) < 128 := by omega
            have HR : Hid (rdN 0 0 ((byt s).drop k) = if 0 < x ∨ place = 0 then some (n + x % 128 * 2 ^ place, (byt s).drop (k' + 1)) else none) := by
              unfold Hid
              rw [← HE.out, HB.out, rdN, if_pos ⟨h64, hfit⟩, if_pos h128]
            clear HE
            by_cases h0 : 0 < x
            · have q3 : (0 : Int) < (x : Int) := by omega
              go_wp2_with (first | (go_at_call 133; refine HNX.out.mono ?_; rintro e w6 ⟨rfl, hS6⟩; have HS6 := hide hS6; clear hS6) | (go_at_call 100; refine (must_ok _).mono ?_; rintro e w7 ⟨⟨v7, rfl⟩, rfl⟩))
              go_ret
              exact Or.inr ⟨n + x % 128 * 2 ^ place, (byt s).drop (k' + 1), _, k' + 1, by rw [HR.out, if_pos (Or.inl h0)], rfl, rfl, HS6.out, rfl⟩
            · have q3 : ¬ (0 : Int) < (x : Int) := by omega
              by_cases hp : place = 0
              · have q4 : ((place : Int) == 0) = true := by simp; omega
                have HR2 : Hid (rdN 0 0 ((byt s).drop k) = some (n + x % 128 * 2 ^ place, (byt s).drop (k' + 1))) := by
                  unfold Hid; rw [HR.out, if_pos (Or.inr hp)]
                clear hp
                go_wp2_with (first | (go_at_call 133; refine HNX.out.mono ?_; rintro e w6 ⟨rfl, hS6⟩; have HS6 := hide hS6; clear hS6) | (go_at_call 100; first | (refine (must_ok _).mono ?_; rintro e w7 ⟨⟨v7, rfl⟩, rfl⟩) | (refine (must_not _).mono ?_; rintro e w7 ⟨rfl, rfl⟩)))
                go_ret
                exact Or.inr ⟨n + x % 128 * 2 ^ place, (byt s).drop (k' + 1), _, k' + 1, HR2.out, rfl, rfl, HS6.out, rfl⟩
              · have q4 : ((place : Int) == 0) = false := by simp; omega
                go_wp2_with (first | (go_at_call 133; refine HNX.out.mono ?_; rintro e w6 ⟨rfl, hS6⟩; have HS6 := hide hS6; clear hS6) | (go_at_call 100; first | (refine (must_ok _).mono ?_; rintro e w7 ⟨⟨v7, rfl⟩, rfl⟩) | (refine (must_not _).mono ?_; rintro e w7 ⟨rfl, rfl⟩)))
                refine ⟨rfl, Or.inl ⟨?_, rfl, HS6.out.base⟩⟩
                rw [HR.out, if_neg (fun h => h.elim h0 hp)]
          · have q2 : ¬ (x : Int) < 128 := by omega
            have HR : Hid (rdN (place + 7) (n + x % 128 * 2 ^ place) ((byt s).drop (k' + 1)) = rdN 0 0 ((byt s).drop k)) := by
              unfold Hid
              rw [← HE.out, HB.out, rdN, if_pos ⟨h64, hfit⟩, if_neg h128]
            clear HE
            go_wp2_with (first | (go_at_call 133; refine HNX.out.mono ?_; rintro e w6 ⟨rfl, hS6⟩; have HS6 := hide hS6; clear hS6) | (go_at_call 100; refine (must_ok _).mono ?_; rintro e w7 ⟨⟨v7, rfl⟩, rfl⟩))
            go_roundw
            case rel => exact ⟨n + x % 128 * 2 ^ place, place + 7, k' + 1, rfl, by first | rfl | (congr 1), by omega, HN2.out.2, HS6, HR⟩
            case measure => simp [intOf]; omega
        · have hsh := fits_no x place hfit h64
          go_wp2_with (first | (go_at_call 133; refine HNX.out.mono ?_; rintro e w6 ⟨rfl, hS6⟩; have HS6 := hide hS6; clear hS6) | (go_at_call 100; refine (must_not _).mono ?_; rintro e w7 ⟨rfl, rfl⟩))
          refine ⟨rfl, Or.inl ⟨?_, rfl, HS6.out.base⟩⟩
          rw [← HE.out, HB.out, rdN, if_neg (fun h => hfit h.2)]
      · have q1 : ¬ (place : Int) < 64 := by omega
        go_wp2_with (first | (go_at_call 133; refine HNX.out.mono ?_; rintro e w6 ⟨rfl, hS6⟩; have HS6 := hide hS6; clear hS6) | (go_at_call 100; refine (must_not _).mono ?_; rintro e w7 ⟨rfl, rfl⟩))
        refine ⟨rfl, Or.inl ⟨?_, rfl, HS6.out.base⟩⟩
        rw [← HE.out, HB.out, rdN, if_neg (fun h => h64 h.1)]
    · have HNX := hide (next_no W w5 b k' s HS.out hs hk)
      have e0 : Hid ((byt s).drop k' = []) := List.drop_eq_nil_iff.2 (by rw [byt_len]; omega)
      go_wp2_with (go_at_call 133; refine HNX.out.mono ?_; rintro e w6 ⟨rfl, hS6⟩)
      refine ⟨rfl, Or.inl ⟨?_, rfl, hS6⟩⟩
      rw [← HE.out, e0.out, rdN]

end Go.Proofs.YtklenjmfalljgaaGreatDoor

/- The walks of the reader's wholes, signed numbers, bounded numbers, instructions, runs and verdicts. -/
namespace Go.Proofs.YtklenjmfalljgaaGreatDoor
open Go.RowKit
attribute [local go_sem] Go.World.cell?_alloc_some

theorem rdN_lt (l : List Nat) : ∀ (place acc x : Nat) (r : List Nat), acc < 2 ^ place → rdN place acc l = some (x, r) → x < 18446744073709551616 := by
  induction l with
  | nil => intro place acc x r _ h; cases h
  | cons b l ih =>
    intro place acc x r ha h
    rw [rdN] at h
    split at h
    · rename_i h1
      have hf := fits_sum acc b place ha h1.2 h1.1
      split at h
      · split at h
        · simp only [Option.some.injEq, Prod.mk.injEq] at h
          rw [← h.1]; exact hf.1
        · cases h
      · exact ih _ _ _ _ hf.2 h
    · cases h

set_option maxRecDepth 100000 in
set_option maxHeartbeats 1000000 in
theorem whole_r (W w : World) (b k : Nat) (s : ByteArray) (h : RdS W w b s k) (hs : s.size ≤ 9223372036854775806) :
    Calls Tryz.prog 137 #[pt b] w (Rd W b s (fun _ x v => v = .int .i64 x) (rdWhole ((byt s).drop k))) := by
  have HN := hide (number_r W w b k s h hs)
  have hpt : pt b = .pointer (some ⟨b, 0, none⟩) := rfl
  rw [hpt] at *
  clear h
  go_enter Tryz.func137, Tryz.ntmps137
  go_wp2_with fail
  refine HN.out.mono ?_
  rintro e w1 (⟨hr, rfl, hg⟩ | ⟨n, r, v, k1, hr, rfl, rfl, hS, hd⟩)
  · have HR : Hid (rdWhole ((byt s).drop k) = none) := by unfold Hid rdWhole; rw [hr]
    clear hr
    go_wp2_with fail
    exact ⟨rfl, Or.inl ⟨HR.out, rfl, hg⟩⟩
  · have HS := hide hS
    have HD := hide hd
    by_cases hm : n ≤ 9223372036854775807
    · have HR : Hid (rdWhole ((byt s).drop k) = some ((n : Int), r)) := by unfold Hid rdWhole; rw [hr]; simp only; rw [if_pos hm]
      have q1 : (n : Int) ≤ 9223372036854775807 := by omega
      clear hr hS hd
      go_wp2_with (go_at_call 100; refine (must_ok _).mono ?_; rintro e w7 ⟨⟨v7, rfl⟩, rfl⟩)
      go_ret
      exact Or.inr ⟨(n : Int), r, _, k1, HR.out, rfl, rfl, HS.out, HD.out⟩
    · have HR : Hid (rdWhole ((byt s).drop k) = none) := by unfold Hid rdWhole; rw [hr]; simp only; rw [if_neg hm]
      have qd : decide ((n : Int) ≤ 9223372036854775807) = false := by simp; omega
      clear hr hS hd
      go_wp2_with (go_at_call 100; refine (must_not _).mono ?_; rintro e w7 ⟨rfl, rfl⟩)
      exact ⟨rfl, Or.inl ⟨HR.out, rfl, HS.out.base⟩⟩

theorem zag_odd (n : Nat) (hn : n < 18446744073709551616) (h : n % 2 = 1) : wrap64 (bits .xor .u64 IntKind.u64.max ((n : Int) / 2)) = zag n := by
  have hm : IntKind.u64.max = ((18446744073709551615 : Nat) : Int) := rfl
  have e : ((n : Int) / 2) = ((n / 2 : Nat) : Int) := by omega
  rw [e, hm, u64_xor_nat _ _ (by decide) (by omega)]
  have := not_bits 64 (n / 2) (by omega)
  have e3 : (2 : Nat) ^ 64 - 1 = 18446744073709551615 := by decide
  rw [e3] at this
  rw [this]
  unfold zag
  rw [if_pos h]
  simp only [wrap64]
  omega

set_option maxRecDepth 100000 in
set_option maxHeartbeats 1000000 in
theorem signed_r (W w : World) (b k : Nat) (s : ByteArray) (h : RdS W w b s k) (hs : s.size ≤ 9223372036854775806) :
    Calls Tryz.prog 176 #[pt b] w (Rd W b s (fun _ x v => v = .int .i64 x) (rdSigned ((byt s).drop k))) := by
  have HN := hide (number_r W w b k s h hs)
  have hpt : pt b = .pointer (some ⟨b, 0, none⟩) := rfl
  rw [hpt] at *
  clear h
  go_enter Tryz.func176, Tryz.ntmps176
  go_wp2_with fail
  refine HN.out.mono ?_
  rintro e w1 (⟨hr, rfl, hg⟩ | ⟨n, r, v, k1, hr, rfl, rfl, hS, hd⟩)
  · have HR : Hid (rdSigned ((byt s).drop k) = none) := by unfold Hid rdSigned; rw [hr]
    clear hr
    go_wp2_with fail
    exact ⟨rfl, Or.inl ⟨HR.out, rfl, hg⟩⟩
  · have HS := hide hS
    have HD := hide hd
    have hn := rdN_lt _ 0 0 n r (by simp) hr
    have HR : Hid (rdSigned ((byt s).drop k) = some (zag n, r)) := by unfold Hid rdSigned; rw [hr]
    clear hr hS hd
    have hand : bits .and .u64 (n : Int) 1 = ((n % 2 : Nat) : Int) := by
      have := u64_and_nat n 1 hn (by decide)
      rw [nat_mask1] at this
      exact this
    by_cases h2 : n % 2 = 1
    · rw [h2] at hand
      have hz := zag_odd n hn h2
      go_wp2_with fail
      go_ret
      exact Or.inr ⟨zag n, r, _, k1, HR.out, rfl, by first | rfl | (rw [← hz]; rfl), HS.out, HD.out⟩
    · have h0 : n % 2 = 0 := by omega
      rw [h0] at hand
      have HZ : Hid (zag n = ((n / 2 : Nat) : Int)) := by unfold Hid zag; rw [if_neg h2]
      go_wp2_with fail
      go_ret
      exact Or.inr ⟨zag n, r, _, k1, HR.out, rfl, by rw [HZ.out]; rfl, HS.out, HD.out⟩

set_option maxRecDepth 100000 in
set_option maxHeartbeats 1000000 in
theorem most_r (W w : World) (b k : Nat) (s : ByteArray) (h : RdS W w b s k) (hs : s.size ≤ 9223372036854775806) (m : Int) :
    Calls Tryz.prog 134 #[pt b, .int .i64 m] w (Rd W b s (fun _ x v => v = .int .i64 x) (rdMost m ((byt s).drop k))) := by
  have HN := hide (whole_r W w b k s h hs)
  have hpt : pt b = .pointer (some ⟨b, 0, none⟩) := rfl
  rw [hpt] at *
  clear h
  go_enter Tryz.func134, Tryz.ntmps134
  go_wp2_with fail
  refine HN.out.mono ?_
  rintro e w1 (⟨hr, rfl, hg⟩ | ⟨n, r, v, k1, hr, rfl, rfl, hS, hd⟩)
  · have HR : Hid (rdMost m ((byt s).drop k) = none) := by unfold Hid rdMost; rw [hr]
    clear hr
    go_wp2_with fail
    exact ⟨rfl, Or.inl ⟨HR.out, rfl, hg⟩⟩
  · have HS := hide hS
    have HD := hide hd
    by_cases hm : n ≤ m
    · have HR : Hid (rdMost m ((byt s).drop k) = some (n, r)) := by unfold Hid rdMost; rw [hr]; simp only; rw [if_pos hm]
      clear hr hS hd
      go_wp2_with (go_at_call 100; refine (must_ok _).mono ?_; rintro e w7 ⟨⟨v7, rfl⟩, rfl⟩)
      go_ret
      exact Or.inr ⟨n, r, _, k1, HR.out, rfl, rfl, HS.out, HD.out⟩
    · have HR : Hid (rdMost m ((byt s).drop k) = none) := by unfold Hid rdMost; rw [hr]; simp only; rw [if_neg hm]
      have qd : decide (n ≤ m) = false := by simp; omega
      clear hr hS hd
      go_wp2_with (go_at_call 100; refine (must_not _).mono ?_; rintro e w7 ⟨rfl, rfl⟩)
      exact ⟨rfl, Or.inl ⟨HR.out, rfl, HS.out.base⟩⟩

/-- The reader, a variable of the call's own at c, and the call's result at d. -/
structure InS (W w : World) (b : Nat) (s : ByteArray) (k T c d : Nat) (vs us : Array Value) : Prop where
  rd : RdS W w b s k
  var : w.heap[c]? = some (.cells vs T (0, 0))
  res : w.heap[d]? = some (.cells us T (0, 0))
  cb : c ≠ b
  db : d ≠ b
  cd : c ≠ d
  lc : W.heap.size ≤ c
  ld : W.heap.size ≤ d

theorem InS.call {W w w' : World} {b k k' T c d : Nat} {s : ByteArray} {vs us : Array Value} (h : InS W w b s k T c d vs us) (h' : RdS w w' b s k') : InS W w' b s k' T c d vs us :=
  ⟨h.rd.trans h', by rw [h'.base.block c (Array.getElem?_eq_some_iff.1 h.var).1 (by simpa using h.cb)]; exact h.var,
    by rw [h'.base.block d (Array.getElem?_eq_some_iff.1 h.res).1 (by simpa using h.db)]; exact h.res, h.cb, h.db, h.cd, h.lc, h.ld⟩
theorem InS.cell {W w : World} {b k T c d : Nat} {s : ByteArray} {vs us : Array Value} (h : InS W w b s k T c d vs us) (o : Nat) : w.cell? ⟨c, o, none⟩ = vs[o]? := by
  have := h.var
  simp [World.cell?, this]
theorem InS.free {W w : World} {b k T c d : Nat} {s : ByteArray} {vs us : Array Value} (h : InS W w b s k T c d vs us) (o : Nat) : w.frozen? ⟨c, o, none⟩ = false := by
  have := h.var
  simp [World.frozen?, this]
theorem InS.rcell {W w : World} {b k T c d : Nat} {s : ByteArray} {vs us : Array Value} (h : InS W w b s k T c d vs us) (o : Nat) : w.cell? ⟨d, o, none⟩ = us[o]? := by
  have := h.res
  simp [World.cell?, this]
theorem InS.rfree {W w : World} {b k T c d : Nat} {s : ByteArray} {vs us : Array Value} (h : InS W w b s k T c d vs us) (o : Nat) : w.frozen? ⟨d, o, none⟩ = false := by
  have := h.res
  simp [World.frozen?, this]
theorem InS.set {W w : World} {b k T c d : Nat} {s : ByteArray} {vs us : Array Value} (h : InS W w b s k T c d vs us) (o : Nat) (v : Value) : InS W (w.setCell ⟨c, o, none⟩ v) b s k T c d (vs.setIfInBounds o v) us := by
  refine ⟨⟨?_, grown_setNew h.rd.base h.lc, h.rd.le⟩, ?_, ?_, h.cb, h.db, h.cd, h.lc, h.ld⟩
  · rw [heap_setCell_other _ _ _ _ (Ne.symm h.cb)]; exact h.rd.blk
  · rw [heap_setCell_same _ c o _ _ _ h.var]
  · rw [heap_setCell_other _ _ _ _ (Ne.symm h.cd)]; exact h.res

theorem InS.rset {W w : World} {b k T c d : Nat} {s : ByteArray} {vs us : Array Value} (h : InS W w b s k T c d vs us) (o : Nat) (v : Value) : InS W (w.setCell ⟨d, o, none⟩ v) b s k T c d vs (us.setIfInBounds o v) := by
  refine ⟨⟨?_, grown_setNew h.rd.base h.ld, h.rd.le⟩, ?_, ?_, h.cb, h.db, h.cd, h.lc, h.ld⟩
  · rw [heap_setCell_other _ _ _ _ (Ne.symm h.db)]; exact h.rd.blk
  · rw [heap_setCell_other _ _ _ _ h.cd]; exact h.var
  · rw [heap_setCell_same _ d o _ _ _ h.res]
theorem InS.start {W w : World} {b k T : Nat} {s : ByteArray} (h : RdS W w b s k) (us vs : Array Value) : InS W ((w.alloc (.cells us T)).alloc (.cells vs T)) b s k T (w.heap.size + 1) w.heap.size vs us := by
  have hb := h.lt
  have hW := h.base.size
  refine ⟨h.grown (grown_alloc (grown_alloc (grown_refl _ _))), ?_, ?_, by omega, by omega, by omega, by omega, hW⟩
  · have := heap_alloc_new (w.alloc (.cells us T)) (.cells vs T)
    simpa using this
  · rw [Below.heap_alloc _ _ _ (by simp)]
    exact heap_alloc_new _ _

def insA (i : Ins) : Value := .agg #[.int .i64 i.op, .int .i64 i.a, .int .i64 i.b, .int .i64 i.n]

set_option maxRecDepth 100000 in
set_option maxHeartbeats 1000000 in
theorem ins_r (W w : World) (b k : Nat) (s : ByteArray) (h : RdS W w b s k) (hs : s.size ≤ 9223372036854775806) :
    Calls Tryz.prog 165 #[pt b] w (Rd W b s (fun _ x v => v = insA x) (rdIns ((byt s).drop k))) := by
  have HH := hide h
  have hpt : pt b = .pointer (some ⟨b, 0, none⟩) := rfl
  rw [hpt] at *
  clear h
  go_enter Tryz.func165, Tryz.ntmps165
  go_wp2_with fail
  have I0 := InS.start (T := 74) HH.out #[.int .i64 0, .int .i64 0, .int .i64 0, .int .i64 0] #[.int .i64 0, .int .i64 0, .int .i64 0, .int .i64 0]
  generalize (w.alloc (.cells #[.int .i64 0, .int .i64 0, .int .i64 0, .int .i64 0] 74)).alloc (.cells #[.int .i64 0, .int .i64 0, .int .i64 0, .int .i64 0] 74) = w1 at I0 ⊢
  refine (whole_r w1 w1 b k s I0.rd.self hs).mono ?_
  rintro e x1 (⟨hr, rfl, hg⟩ | ⟨o, r1, v, k1, hr, rfl, rfl, hS, rfl⟩)
  · have HR : Hid (rdIns ((byt s).drop k) = none) := by unfold Hid rdIns; rw [hr]
    have HG := hide (grown_trans I0.rd.base hg)
    clear hr hg I0
    go_wp2_with fail
    exact ⟨rfl, Or.inl ⟨HR.out, rfl, HG.out⟩⟩
  have HR1 := hide hr
  have I := I0.call hS
  have HI := hide I
  have c1 : x1.cell? ⟨w.heap.size + 1, 0, none⟩ = some (.int .i64 0) := by simpa using I.cell 0
  have f1 := I.free 0
  clear I0 I hS hr
  go_wp2_with fail
  have I1 := HI.out.set 0 (.int .i64 o)
  generalize x1.setCell ⟨w.heap.size + 1, 0, none⟩ (.int .i64 o) = y1 at I1 ⊢
  clear HI c1 f1
  refine (whole_r y1 y1 b k1 s I1.rd.self hs).mono ?_
  rintro e x2 (⟨hr, rfl, hg⟩ | ⟨a, r1, v, k2, hr, rfl, rfl, hS, rfl⟩)
  · have HR : Hid (rdIns ((byt s).drop k) = none) := by unfold Hid rdIns; rw [HR1.out]; simp only; rw [hr]
    have HG := hide (grown_trans I1.rd.base hg)
    clear hr hg I1
    go_wp2_with fail
    exact ⟨rfl, Or.inl ⟨HR.out, rfl, HG.out⟩⟩
  have HR2 := hide hr
  have I := I1.call hS
  have HI := hide I
  have c1 : x2.cell? ⟨w.heap.size + 1, 1, none⟩ = some (.int .i64 0) := by simpa using I.cell 1
  have f1 := I.free 1
  clear I1 I hS hr
  go_wp2_with fail
  have I2 := HI.out.set 1 (.int .i64 a)
  generalize x2.setCell ⟨w.heap.size + 1, 1, none⟩ (.int .i64 a) = y2 at I2 ⊢
  clear HI c1 f1
  refine (whole_r y2 y2 b k2 s I2.rd.self hs).mono ?_
  rintro e x3 (⟨hr, rfl, hg⟩ | ⟨c, r1, v, k3, hr, rfl, rfl, hS, rfl⟩)
  · have HR : Hid (rdIns ((byt s).drop k) = none) := by unfold Hid rdIns; rw [HR1.out]; simp only; rw [HR2.out]; simp only; rw [hr]
    have HG := hide (grown_trans I2.rd.base hg)
    clear hr hg I2
    go_wp2_with fail
    exact ⟨rfl, Or.inl ⟨HR.out, rfl, HG.out⟩⟩
  have HR3 := hide hr
  have I := I2.call hS
  have HI := hide I
  have c1 : x3.cell? ⟨w.heap.size + 1, 2, none⟩ = some (.int .i64 0) := by simpa using I.cell 2
  have f1 := I.free 2
  clear I2 I hS hr
  go_wp2_with fail
  have I3 := HI.out.set 2 (.int .i64 c)
  generalize x3.setCell ⟨w.heap.size + 1, 2, none⟩ (.int .i64 c) = y3 at I3 ⊢
  clear HI c1 f1
  refine (signed_r y3 y3 b k3 s I3.rd.self hs).mono ?_
  rintro e x4 (⟨hr, rfl, hg⟩ | ⟨n, r1, v, k4, hr, rfl, rfl, hS, rfl⟩)
  · have HR : Hid (rdIns ((byt s).drop k) = none) := by unfold Hid rdIns; rw [HR1.out]; simp only; rw [HR2.out]; simp only; rw [HR3.out]; simp only; rw [hr]
    have HG := hide (grown_trans I3.rd.base hg)
    clear hr hg I3
    go_wp2_with fail
    exact ⟨rfl, Or.inl ⟨HR.out, rfl, HG.out⟩⟩
  have HR4 := hide hr
  have I := I3.call hS
  have HI := hide I
  have c1 : x4.cell? ⟨w.heap.size + 1, 3, none⟩ = some (.int .i64 0) := by simpa using I.cell 3
  have f1 := I.free 3
  clear I3 I hS hr
  have I := HI.out.set 3 (.int .i64 n)
  have d0 : (x4.setCell ⟨w.heap.size + 1, 3, none⟩ (.int .i64 n)).cell? ⟨w.heap.size + 1, 0, none⟩ = some (.int .i64 o) := by simpa using I.cell 0
  have g0 : x4.frozen? ⟨w.heap.size, 0, none⟩ = false := HI.out.rfree 0
  have r0 : (x4.setCell ⟨w.heap.size + 1, 3, none⟩ (.int .i64 n)).cell? ⟨w.heap.size, 0, none⟩ = some (.int .i64 0) := by simpa using I.rcell 0
  have d1 : (x4.setCell ⟨w.heap.size + 1, 3, none⟩ (.int .i64 n)).cell? ⟨w.heap.size + 1, 1, none⟩ = some (.int .i64 a) := by simpa using I.cell 1
  have g1 : x4.frozen? ⟨w.heap.size, 1, none⟩ = false := HI.out.rfree 1
  have r1 : (x4.setCell ⟨w.heap.size + 1, 3, none⟩ (.int .i64 n)).cell? ⟨w.heap.size, 1, none⟩ = some (.int .i64 0) := by simpa using I.rcell 1
  have d2 : (x4.setCell ⟨w.heap.size + 1, 3, none⟩ (.int .i64 n)).cell? ⟨w.heap.size + 1, 2, none⟩ = some (.int .i64 c) := by simpa using I.cell 2
  have g2 : x4.frozen? ⟨w.heap.size, 2, none⟩ = false := HI.out.rfree 2
  have r2 : (x4.setCell ⟨w.heap.size + 1, 3, none⟩ (.int .i64 n)).cell? ⟨w.heap.size, 2, none⟩ = some (.int .i64 0) := by simpa using I.rcell 2
  have d3 : (x4.setCell ⟨w.heap.size + 1, 3, none⟩ (.int .i64 n)).cell? ⟨w.heap.size + 1, 3, none⟩ = some (.int .i64 n) := by simpa using I.cell 3
  have g3 : x4.frozen? ⟨w.heap.size, 3, none⟩ = false := HI.out.rfree 3
  have r3 : (x4.setCell ⟨w.heap.size + 1, 3, none⟩ (.int .i64 n)).cell? ⟨w.heap.size, 3, none⟩ = some (.int .i64 0) := by simpa using I.rcell 3
  have HI2 := hide I
  clear I
  go_wp2_with fail
  have J := ((((HI2.out.rset 0 (.int .i64 o)).rset 1 (.int .i64 a)).rset 2 (.int .i64 c)).rset 3 (.int .i64 n))
  clear c1 f1 HI HI2 d0 g0 r0 d1 g1 r1 d2 g2 r2 d3 g3 r3
  generalize (((((x4.setCell ⟨w.heap.size + 1, 3, none⟩ (.int .i64 n)).setCell ⟨w.heap.size, 0, none⟩ (.int .i64 o)).setCell ⟨w.heap.size, 1, none⟩ (.int .i64 a)).setCell ⟨w.heap.size, 2, none⟩ (.int .i64 c)).setCell ⟨w.heap.size, 3, none⟩ (.int .i64 n)) = wz at J ⊢
  have e0 : wz.cell? ⟨w.heap.size, 0, none⟩ = some (.int .i64 o) := by simpa using J.rcell 0
  have e1 : wz.cell? ⟨w.heap.size, 1, none⟩ = some (.int .i64 a) := by simpa using J.rcell 1
  have e2 : wz.cell? ⟨w.heap.size, 2, none⟩ = some (.int .i64 c) := by simpa using J.rcell 2
  have e3 : wz.cell? ⟨w.heap.size, 3, none⟩ = some (.int .i64 n) := by simpa using J.rcell 3
  refine bodyPost_ret (v := .agg #[.int .i64 o, .int .i64 a, .int .i64 c, .int .i64 n]) ?_ rfl ?_
  · simp [results, Tryz.results165, go_sem, e0, e1, e2, e3]
  · refine Or.inr ⟨⟨o, a, c, n⟩, _, _, k4, ?_, rfl, rfl, J.rd, rfl⟩
    unfold rdIns
    rw [HR1.out]
    simp only
    rw [HR2.out]
    simp only
    rw [HR3.out]
    simp only
    rw [HR4.out]

def verA (v : Int × Int × Int) : Value := .agg #[.int .i64 v.1, .int .i64 v.2.1, .int .i64 v.2.2]

set_option maxRecDepth 100000 in
set_option maxHeartbeats 1000000 in
theorem ver_r (W w : World) (b k : Nat) (s : ByteArray) (h : RdS W w b s k) (hs : s.size ≤ 9223372036854775806) :
    Calls Tryz.prog 98 #[pt b] w (Rd W b s (fun _ x v => v = verA x) (rdVer ((byt s).drop k))) := by
  have HH := hide h
  have hpt : pt b = .pointer (some ⟨b, 0, none⟩) := rfl
  rw [hpt] at *
  clear h
  go_enter Tryz.func98, Tryz.ntmps98
  go_wp2_with fail
  have I0 := InS.start (T := 27) HH.out #[.int .i64 0, .int .i64 0, .int .i64 0] #[.int .i64 0, .int .i64 0, .int .i64 0]
  generalize (w.alloc (.cells #[.int .i64 0, .int .i64 0, .int .i64 0] 27)).alloc (.cells #[.int .i64 0, .int .i64 0, .int .i64 0] 27) = w1 at I0 ⊢
  refine (whole_r w1 w1 b k s I0.rd.self hs).mono ?_
  rintro e x1 (⟨hr, rfl, hg⟩ | ⟨o, r1, v, k1, hr, rfl, rfl, hS, rfl⟩)
  · have HR : Hid (rdVer ((byt s).drop k) = none) := by unfold Hid rdVer; rw [hr]
    have HG := hide (grown_trans I0.rd.base hg)
    clear hr hg I0
    go_wp2_with fail
    exact ⟨rfl, Or.inl ⟨HR.out, rfl, HG.out⟩⟩
  have HR1 := hide hr
  have I := I0.call hS
  have HI := hide I
  have c1 : x1.cell? ⟨w.heap.size + 1, 0, none⟩ = some (.int .i64 0) := by simpa using I.cell 0
  have f1 := I.free 0
  clear I0 I hS hr
  go_wp2_with fail
  have I1 := HI.out.set 0 (.int .i64 o)
  generalize x1.setCell ⟨w.heap.size + 1, 0, none⟩ (.int .i64 o) = y1 at I1 ⊢
  clear HI c1 f1
  refine (whole_r y1 y1 b k1 s I1.rd.self hs).mono ?_
  rintro e x2 (⟨hr, rfl, hg⟩ | ⟨a, r1, v, k2, hr, rfl, rfl, hS, rfl⟩)
  · have HR : Hid (rdVer ((byt s).drop k) = none) := by unfold Hid rdVer; rw [HR1.out]; simp only; rw [hr]
    have HG := hide (grown_trans I1.rd.base hg)
    clear hr hg I1
    go_wp2_with fail
    exact ⟨rfl, Or.inl ⟨HR.out, rfl, HG.out⟩⟩
  have HR2 := hide hr
  have I := I1.call hS
  have HI := hide I
  have c1 : x2.cell? ⟨w.heap.size + 1, 1, none⟩ = some (.int .i64 0) := by simpa using I.cell 1
  have f1 := I.free 1
  clear I1 I hS hr
  go_wp2_with fail
  have I2 := HI.out.set 1 (.int .i64 a)
  generalize x2.setCell ⟨w.heap.size + 1, 1, none⟩ (.int .i64 a) = y2 at I2 ⊢
  clear HI c1 f1
  refine (whole_r y2 y2 b k2 s I2.rd.self hs).mono ?_
  rintro e x3 (⟨hr, rfl, hg⟩ | ⟨c, r1, v, k3, hr, rfl, rfl, hS, rfl⟩)
  · have HR : Hid (rdVer ((byt s).drop k) = none) := by unfold Hid rdVer; rw [HR1.out]; simp only; rw [HR2.out]; simp only; rw [hr]
    have HG := hide (grown_trans I2.rd.base hg)
    clear hr hg I2
    go_wp2_with fail
    exact ⟨rfl, Or.inl ⟨HR.out, rfl, HG.out⟩⟩
  have HR3 := hide hr
  have I := I2.call hS
  have HI := hide I
  have c1 : x3.cell? ⟨w.heap.size + 1, 2, none⟩ = some (.int .i64 0) := by simpa using I.cell 2
  have f1 := I.free 2
  clear I2 I hS hr
  have I := HI.out.set 2 (.int .i64 c)
  have d0 : (x3.setCell ⟨w.heap.size + 1, 2, none⟩ (.int .i64 c)).cell? ⟨w.heap.size + 1, 0, none⟩ = some (.int .i64 o) := by simpa using I.cell 0
  have g0 : x3.frozen? ⟨w.heap.size, 0, none⟩ = false := HI.out.rfree 0
  have r0 : (x3.setCell ⟨w.heap.size + 1, 2, none⟩ (.int .i64 c)).cell? ⟨w.heap.size, 0, none⟩ = some (.int .i64 0) := by simpa using I.rcell 0
  have d1 : (x3.setCell ⟨w.heap.size + 1, 2, none⟩ (.int .i64 c)).cell? ⟨w.heap.size + 1, 1, none⟩ = some (.int .i64 a) := by simpa using I.cell 1
  have g1 : x3.frozen? ⟨w.heap.size, 1, none⟩ = false := HI.out.rfree 1
  have r1 : (x3.setCell ⟨w.heap.size + 1, 2, none⟩ (.int .i64 c)).cell? ⟨w.heap.size, 1, none⟩ = some (.int .i64 0) := by simpa using I.rcell 1
  have d2 : (x3.setCell ⟨w.heap.size + 1, 2, none⟩ (.int .i64 c)).cell? ⟨w.heap.size + 1, 2, none⟩ = some (.int .i64 c) := by simpa using I.cell 2
  have g2 : x3.frozen? ⟨w.heap.size, 2, none⟩ = false := HI.out.rfree 2
  have r2 : (x3.setCell ⟨w.heap.size + 1, 2, none⟩ (.int .i64 c)).cell? ⟨w.heap.size, 2, none⟩ = some (.int .i64 0) := by simpa using I.rcell 2
  have HI2 := hide I
  clear I
  go_wp2_with fail
  have J := (((HI2.out.rset 0 (.int .i64 o)).rset 1 (.int .i64 a)).rset 2 (.int .i64 c))
  clear c1 f1 HI HI2 d0 g0 r0 d1 g1 r1 d2 g2 r2
  generalize ((((x3.setCell ⟨w.heap.size + 1, 2, none⟩ (.int .i64 c)).setCell ⟨w.heap.size, 0, none⟩ (.int .i64 o)).setCell ⟨w.heap.size, 1, none⟩ (.int .i64 a)).setCell ⟨w.heap.size, 2, none⟩ (.int .i64 c)) = wz at J ⊢
  have e0 : wz.cell? ⟨w.heap.size, 0, none⟩ = some (.int .i64 o) := by simpa using J.rcell 0
  have e1 : wz.cell? ⟨w.heap.size, 1, none⟩ = some (.int .i64 a) := by simpa using J.rcell 1
  have e2 : wz.cell? ⟨w.heap.size, 2, none⟩ = some (.int .i64 c) := by simpa using J.rcell 2
  refine bodyPost_ret (v := .agg #[.int .i64 o, .int .i64 a, .int .i64 c]) ?_ rfl ?_
  · simp [results, Tryz.results98, go_sem, e0, e1, e2]
  · refine Or.inr ⟨(o, a, c), _, _, k3, ?_, rfl, rfl, J.rd, rfl⟩
    unfold rdVer
    rw [HR1.out]
    simp only
    rw [HR2.out]
    simp only
    rw [HR3.out]

end Go.Proofs.YtklenjmfalljgaaGreatDoor

/- The walk of a run that is read. -/
namespace Go.Proofs.YtklenjmfalljgaaGreatDoor
open Go.RowKit
attribute [local go_sem] Go.World.cell?_alloc_some

def rdRun (room : Int) (l : List Nat) : Option ((Int × Int) × List Nat) := match rdWhole l with
  | none => none
  | some (t, r) => match rdMost room r with
    | none => none
    | some (c, r') => if 0 < c then some ((t, c), r') else none
def runA (x : Int × Int) : Value := .agg #[.int .i64 x.1, .int .i64 x.2]

set_option maxRecDepth 100000 in
set_option maxHeartbeats 1000000 in
theorem run_r (W w : World) (b k : Nat) (s : ByteArray) (room : Int) (h : RdS W w b s k) (hs : s.size ≤ 9223372036854775806) :
    Calls Tryz.prog 136 #[pt b, .int .i64 room] w (Rd W b s (fun _ x v => v = runA x) (rdRun room ((byt s).drop k))) := by
  have HH := hide h
  have hpt : pt b = .pointer (some ⟨b, 0, none⟩) := rfl
  rw [hpt] at *
  clear h
  go_enter Tryz.func136, Tryz.ntmps136
  go_wp2_with fail
  have I0 := InS.start (T := 148) HH.out #[.int .i64 0, .int .i64 0] #[.int .i64 0, .int .i64 0]
  generalize (w.alloc (.cells #[.int .i64 0, .int .i64 0] 148)).alloc (.cells #[.int .i64 0, .int .i64 0] 148) = w1 at I0 ⊢
  refine (whole_r w1 w1 b k s I0.rd.self hs).mono ?_
  rintro e x1 (⟨hr, rfl, hg⟩ | ⟨t, r1, v, k1, hr, rfl, rfl, hS, rfl⟩)
  · have HR : Hid (rdRun room ((byt s).drop k) = none) := by unfold Hid rdRun; rw [hr]
    have HG := hide (grown_trans I0.rd.base hg)
    clear hr hg I0
    go_wp2_with fail
    exact ⟨rfl, Or.inl ⟨HR.out, rfl, HG.out⟩⟩
  have HR1 := hide hr
  have I := I0.call hS
  have HI := hide I
  have c1 : x1.cell? ⟨w.heap.size + 1, 0, none⟩ = some (.int .i64 0) := by simpa using I.cell 0
  have f1 := I.free 0
  clear I0 I hS hr
  go_wp2_with fail
  have I1 := HI.out.set 0 (.int .i64 t)
  generalize x1.setCell ⟨w.heap.size + 1, 0, none⟩ (.int .i64 t) = y1 at I1 ⊢
  clear HI c1 f1
  refine (most_r y1 y1 b k1 s I1.rd.self hs room).mono ?_
  rintro e x2 (⟨hr, rfl, hg⟩ | ⟨c, r1, v, k2, hr, rfl, rfl, hS, rfl⟩)
  · have HR : Hid (rdRun room ((byt s).drop k) = none) := by unfold Hid rdRun; rw [HR1.out]; simp only; rw [hr]
    have HG := hide (grown_trans I1.rd.base hg)
    clear hr hg I1
    go_wp2_with fail
    exact ⟨rfl, Or.inl ⟨HR.out, rfl, HG.out⟩⟩
  have HR2 := hide hr
  have I := I1.call hS
  have HI := hide I
  have c1 : x2.cell? ⟨w.heap.size + 1, 1, none⟩ = some (.int .i64 0) := by simpa using I.cell 1
  have f1 := I.free 1
  clear I1 I hS hr
  have I := HI.out.set 1 (.int .i64 c)
  have d0 : (x2.setCell ⟨w.heap.size + 1, 1, none⟩ (.int .i64 c)).cell? ⟨w.heap.size + 1, 0, none⟩ = some (.int .i64 t) := by simpa using I.cell 0
  have d1 : (x2.setCell ⟨w.heap.size + 1, 1, none⟩ (.int .i64 c)).cell? ⟨w.heap.size + 1, 1, none⟩ = some (.int .i64 c) := by simpa using I.cell 1
  have g0 : x2.frozen? ⟨w.heap.size, 0, none⟩ = false := HI.out.rfree 0
  have g1 : x2.frozen? ⟨w.heap.size, 1, none⟩ = false := HI.out.rfree 1
  have r0 : (x2.setCell ⟨w.heap.size + 1, 1, none⟩ (.int .i64 c)).cell? ⟨w.heap.size, 0, none⟩ = some (.int .i64 0) := by simpa using I.rcell 0
  have r1 : (x2.setCell ⟨w.heap.size + 1, 1, none⟩ (.int .i64 c)).cell? ⟨w.heap.size, 1, none⟩ = some (.int .i64 0) := by simpa using I.rcell 1
  have HI2 := hide I
  clear I
  by_cases hc : 0 < c
  · go_wp2_with (go_at_call 100; refine (must_ok _).mono ?_; rintro e w7 ⟨⟨v7, rfl⟩, rfl⟩)
    have J := (HI2.out.rset 0 (.int .i64 t)).rset 1 (.int .i64 c)
    clear c1 f1 HI HI2 d0 d1 g0 g1 r0 r1
    generalize (((x2.setCell ⟨w.heap.size + 1, 1, none⟩ (.int .i64 c)).setCell ⟨w.heap.size, 0, none⟩ (.int .i64 t)).setCell ⟨w.heap.size, 1, none⟩ (.int .i64 c)) = wz at J ⊢
    have e0 : wz.cell? ⟨w.heap.size, 0, none⟩ = some (.int .i64 t) := by simpa using J.rcell 0
    have e1 : wz.cell? ⟨w.heap.size, 1, none⟩ = some (.int .i64 c) := by simpa using J.rcell 1
    refine bodyPost_ret (v := .agg #[.int .i64 t, .int .i64 c]) ?_ rfl ?_
    · simp [results, Tryz.results136, go_sem, e0, e1]
    · refine Or.inr ⟨(t, c), _, _, k2, ?_, rfl, rfl, J.rd, rfl⟩
      unfold rdRun
      rw [HR1.out]
      simp only
      rw [HR2.out]
      simp only
      rw [if_pos hc]
  · have qd : decide (0 < c) = false := by simp; omega
    go_wp2_with (go_at_call 100; refine (must_not _).mono ?_; rintro e w7 ⟨rfl, rfl⟩)
    refine ⟨rfl, Or.inl ⟨?_, rfl, HI2.out.rd.base⟩⟩
    unfold rdRun
    rw [HR1.out]
    simp only
    rw [HR2.out]
    simp only
    rw [if_neg (by omega)]

end Go.Proofs.YtklenjmfalljgaaGreatDoor

/- The walks of the reader's threads. -/
namespace Go.Proofs.YtklenjmfalljgaaGreatDoor
open Go.RowKit
attribute [local go_sem] Go.World.cell?_alloc_some

def conts {α : Type} (c : List α) (res : Option (List α × List Nat)) : Option (List α × List Nat) := match res with
  | some (xs, r) => some (c ++ xs, r)
  | none => none
theorem conts_nil {α : Type} (res : Option (List α × List Nat)) : conts [] res = res := by
  unfold conts
  cases res with
  | none => rfl
  | some x => rfl
theorem conts_zero {α : Type} (P : List Nat → Option (α × List Nat)) (c : List α) (l : List Nat) : conts c (rdMany P 0 l) = some (c, l) := by simp [conts, rdMany]
theorem conts_some {α : Type} {P : List Nat → Option (α × List Nat)} {l r : List Nat} {x : α} (h : P l = some (x, r)) (c : List α) (m : Nat) : conts c (rdMany P (m + 1) l) = conts (c ++ [x]) (rdMany P m r) := by
  rw [rdMany, h]
  simp only
  cases rdMany P m r with
  | none => rfl
  | some y => simp [conts]
theorem conts_none {α : Type} {P : List Nat → Option (α × List Nat)} {l : List Nat} (h : P l = none) (c : List α) (m : Nat) : conts c (rdMany P (m + 1) l) = none := by rw [rdMany, h]; rfl

theorem owns_rd {w w' : World} {base : Nat} {e : TypeId} {size : Nat} {v : Value} {n b : Nat} {xs : List Value} (h : w.ownsRow base e size v n xs) (hg : w.grownBy w' (some b)) (hb : b < base) : w'.ownsRow base e size v n xs :=
  owns_grown h hg (fun k e => by simp only [Option.some.injEq] at e; omega)

theorem rdWhole_nonneg {l r : List Nat} {x : Int} (h : rdWhole l = some (x, r)) : 0 ≤ x := by
  unfold rdWhole at h
  split at h
  · split at h
    · simp only [Option.some.injEq, Prod.mk.injEq] at h; omega
    · cases h
  · cases h
theorem rdMost_range {b x : Int} {l r : List Nat} (h : rdMost b l = some (x, r)) : 0 ≤ x ∧ x ≤ b := by
  unfold rdMost at h
  split at h
  · rename_i hw
    split at h
    · simp only [Option.some.injEq, Prod.mk.injEq] at h
      have := rdWhole_nonneg hw
      omega
    · cases h
  · cases h

set_option maxRecDepth 100000 in
set_option maxHeartbeats 2000000 in
theorem thread_r (W w : World) (b k : Nat) (s : ByteArray) (h : RdS W w b s k) (hs : s.size ≤ 9223372036854775806) :
    Calls Tryz.prog 135 #[pt b] w (Rd W b s (fun w' c v => c.length ≤ 16 ∧ CodeRow w.heap.size w'.heap.size w' v c) (rdThread ((byt s).drop k))) := by
  obtain ⟨i0, hi0, hz0, hz1, hz2⟩ := info_parts info_ins
  have HM := hide (most_r w w b k s h.self hs 16)
  have HH := hide h
  have hbw := h.lt
  have hpt : pt b = .pointer (some ⟨b, 0, none⟩) := rfl
  rw [hpt] at *
  clear h
  go_enter Tryz.func135, Tryz.ntmps135
  go_wp2_with fail
  refine HM.out.mono ?_
  rintro e w1 (⟨hr, rfl, hg⟩ | ⟨n, r1, v, k1, hr, rfl, rfl, hS, rfl⟩)
  · have HR : Hid (rdThread ((byt s).drop k) = none) := by unfold Hid rdThread; rw [hr]
    have HG := hide (grown_trans HH.out.base hg)
    clear hr hg
    go_wp2_with fail
    exact ⟨rfl, Or.inl ⟨HR.out, rfl, HG.out⟩⟩
  obtain ⟨h0, h16⟩ := rdMost_range hr
  obtain ⟨m, rfl⟩ := Int.eq_ofNat_of_zero_le h0
  have HR : Hid (rdThread ((byt s).drop k) = rdMany rdIns m ((byt s).drop k1)) := by unfold Hid rdThread; rw [hr]; rfl
  have HS := hide hS
  clear hr hS h0 HM
  go_wp2_with fail
  go_loopw [3, 6] (fun lv i w' => ∃ (j : Nat) (c : List Ins) (k' : Nat), j ≤ m ∧ i = .int .i64 j ∧ Hid (c.length = j) ∧ Hid (RdS w w' b s k') ∧ Hid (w'.ownsRow w.heap.size 74 4 lv c.length (insCells c)) ∧ Hid (conts c (rdMany rdIns (m - j) ((byt s).drop k')) = rdThread ((byt s).drop k))) (fun _ i _ => m - (intOf i).toNat)
  case atStart => exact ⟨0, [], k1, Nat.zero_le _, rfl, hide rfl, HS, hide ⟨rfl, Or.inl ⟨rfl, rfl⟩⟩, hide (by rw [HR.out, conts_nil]; rfl)⟩
  case round =>
    obtain ⟨j, c, k', hj, rfl, HC, HJ, HO, HE⟩ := hrel
    obtain ⟨w5, hw5⟩ : ∃ w5, w5 = wr := ⟨_, rfl⟩
    subst hw5
    have hw5 : w.heap.size ≤ w5.heap.size := HJ.out.base.size
    by_cases hjm : j < m
    · have q1 : (j : Int) < m := by omega
      have HI := hide (ins_r w5 w5 b k' s HJ.out.self hs)
      have em : m - j = (m - (j + 1)) + 1 := by omega
      go_wp2_with fail
      refine HI.out.mono ?_
      rintro e w6 (⟨hr, rfl, hg⟩ | ⟨x, r1, v, k2, hr, rfl, rfl, hS, rfl⟩)
      · have HR2 : Hid (rdThread ((byt s).drop k) = none) := by unfold Hid; rw [← HE.out, em, conts_none hr]
        have HG := hide (grown_trans HH.out.base (grown_trans HJ.out.base hg))
        clear hr hg em
        go_wp2_with fail
        exact ⟨rfl, Or.inl ⟨HR2.out, rfl, HG.out⟩⟩
      have HE2 : Hid (conts (c ++ [x]) (rdMany rdIns (m - (j + 1)) ((byt s).drop k2)) = rdThread ((byt s).drop k)) := by unfold Hid; rw [← HE.out, em, conts_some hr]
      have HS6 := hide hS
      have HO6 := hide (owns_rd HO.out hS.base hbw)
      have hw6 : w.heap.size ≤ w6.heap.size := Nat.le_trans hw5 hS.base.size
      obtain ⟨x1, x2, x3, rfl⟩ := owns_form HO6.out
      have hx2 := owns_lenq HO6.out
      subst hx2
      have hcl : c.length ≤ 16 := by have := HC.out; omega
      have h63 : c.length + 1 ≤ maxLen := by unfold maxLen; omega
      clear hr hS em HI
      unfold insA
      go_wp2_with (at_builtin; go_must (refine wpList_append_lies _ rfl _ _ _ rfl w.heap.size 74 i0 _ 4 32 Tryz.underlying75 hi0 hz0 hz1 hz2 rfl (by omega) (.slice x1 c.length x3) c.length (insCells c) rfl (owns_alloc HO6.out) ⟨w6.heap.size, 0, none⟩ 1 1 (insV x) rfl rfl (World.news_of_block (cs := #[.int .i64 x.op, .int .i64 x.a, .int .i64 x.b, .int .i64 x.n]) (t := 74) (fr := (0, 0)) (heap_alloc_new w6 _)) (insV_one x) (by omega) h63 (by omega) (by simp; omega) (w6.heap.size + 1) (by simp) ?_); intro g6 cap6 w7 hown7 hgrow7 hat7 hlt7)
      have HN : Hid (RdS w w7 b s k2 ∧ w7.ownsRow w.heap.size 74 4 (.slice (some ⟨g6, 0, none⟩) (c.length + 1) cap6) (c ++ [x]).length (insCells (c ++ [x]))) := by
        have hob := owns_block HO6.out
        have hR6 := (HJ.out.trans HS6.out)
        refine ⟨⟨?_, ?_, hR6.le⟩, ?_⟩
        · rw [hgrow7.block b (by simp; omega) (fun e => by have := hob b e.symm; omega), Below.heap_alloc _ _ _ (by omega)]
          exact hR6.blk
        · exact grown_row (grown_alloc hR6.base) hgrow7 (fun q e => hob q e)
        · rw [insCells_snoc]; simpa using hown7
      clear hown7 hgrow7 hat7 hlt7
      go_wp2_with fail
      go_roundw
      case rel => exact ⟨j + 1, c ++ [x], k2, by omega, by first | rfl | go_num, hide (by simpa using HC.out), hide HN.out.1, hide HN.out.2, HE2⟩
      case measure => simp [intOf]; omega
    · have q1 : ¬ (j : Int) < m := by omega
      have ej : m - j = 0 := by omega
      have HR2 : Hid (rdThread ((byt s).drop k) = some (c, (byt s).drop k')) := by unfold Hid; rw [← HE.out, ej, conts_zero]
      have h16' : Hid (c.length ≤ 16) := by unfold Hid; have := HC.out; omega
      clear ej
      go_wp2_with fail
      go_ret
      exact Or.inr ⟨c, _, _, k', HR2.out, rfl, ⟨h16'.out, HO.out, owns_lt HO.out⟩, HH.out.trans HJ.out, rfl⟩

end Go.Proofs.YtklenjmfalljgaaGreatDoor

/- The walk of the reader's program. -/
namespace Go.Proofs.YtklenjmfalljgaaGreatDoor
open Go.RowKit
attribute [local go_sem] Go.World.cell?_alloc_some

set_option maxRecDepth 100000 in
set_option maxHeartbeats 2000000 in
theorem program_r (W w : World) (b k : Nat) (s : ByteArray) (h : RdS W w b s k) (hs : s.size ≤ 9223372036854775806) :
    Calls Tryz.prog 96 #[pt b] w (Rd W b s (fun w' p v => p.length ≤ 4 ∧ ∃ tv, v = .agg #[tv] ∧ ThrAt (w.heap.size + 2) w'.heap.size w' tv p) (rdProg ((byt s).drop k))) := by
  obtain ⟨i1, hi1, hy0, hy1, hy2⟩ := info_parts info_code
  have HH := hide h
  have hbw := h.lt
  have hpt : pt b = .pointer (some ⟨b, 0, none⟩) := rfl
  rw [hpt] at *
  clear h
  go_enter Tryz.func96, Tryz.ntmps96
  go_wp2_with fail
  have I0 := InS.start (T := 24) HH.out.self #[.slice none 0 0] #[.slice none 0 0]
  generalize hw1 : (w.alloc (.cells #[.slice none 0 0] 24)).alloc (.cells #[.slice none 0 0] 24) = w1 at I0 ⊢
  have hz1 : w.heap.size + 2 ≤ w1.heap.size := by rw [← hw1]; simp
  clear hw1
  refine (most_r w1 w1 b k s I0.rd.self hs 4).mono ?_
  rintro e w2 (⟨hr, rfl, hg⟩ | ⟨n, r1, v, k1, hr, rfl, rfl, hS, rfl⟩)
  · have HR : Hid (rdProg ((byt s).drop k) = none) := by unfold Hid rdProg; rw [hr]
    have HG := hide (grown_trans HH.out.base (grown_trans I0.rd.base hg))
    clear hr hg I0
    go_wp2_with fail
    exact ⟨rfl, Or.inl ⟨HR.out, rfl, HG.out⟩⟩
  obtain ⟨h0, h4⟩ := rdMost_range hr
  obtain ⟨m, rfl⟩ := Int.eq_ofNat_of_zero_le h0
  have HR : Hid (rdProg ((byt s).drop k) = rdMany rdThread m ((byt s).drop k1)) := by unfold Hid rdProg; rw [hr]; rfl
  have HI := hide (I0.call hS)
  have hz2 : w.heap.size + 2 ≤ w2.heap.size := Nat.le_trans hz1 hS.base.size
  clear hr hS h0 I0
  go_wp2_with fail
  go_loopw [6] (fun i w' => ∃ (j : Nat) (p : List (List Ins)) (tv : Value) (k' : Nat), j ≤ m ∧ i = .int .i64 j ∧ Hid (p.length = j) ∧ Hid (InS w w' b s k' 24 (w.heap.size + 1) w.heap.size #[tv] #[.slice none 0 0]) ∧ Hid (ThrAt (w.heap.size + 2) w'.heap.size w' tv p) ∧ w.heap.size + 2 ≤ w'.heap.size ∧ Hid (conts p (rdMany rdThread (m - j) ((byt s).drop k')) = rdProg ((byt s).drop k))) (fun i _ => m - (intOf i).toNat)
  case atStart => exact ⟨0, [], .slice none 0 0, k1, Nat.zero_le _, rfl, hide rfl, HI, hide ⟨[], ⟨rfl, Or.inl ⟨rfl, rfl⟩⟩, fun h e => (by cases e), fun j hj => (by simp at hj)⟩, hz2, hide (by rw [HR.out, conts_nil]; rfl)⟩
  case round =>
    obtain ⟨j, p, tv, k', hj, rfl, HC, HJ, HO, hw5, HE⟩ := hrel
    obtain ⟨w5, hw5'⟩ : ∃ w5, w5 = wr := ⟨_, rfl⟩
    rw [← hw5'] at HJ HO hw5 ⊢
    clear hw5'
    by_cases hjm : j < m
    · have q1 : (j : Int) < m := by omega
      have em : m - j = (m - (j + 1)) + 1 := by omega
      have HT := hide (thread_r w5.drew w5.drew b k' s (HJ.out.rd.grown (grown_drew (grown_refl _ _))).self hs)
      have cq : w5.cell? ⟨w.heap.size + 1, 0, none⟩ = some tv := by simpa using HJ.out.cell 0
      go_wp2_with fail
      refine wp_region_head (fun u => u.cell? ⟨w.heap.size + 1, 0, none⟩ = some tv) 7 (by kernel_rfl) (by kernel_rfl) ?_ ?_
      · simp [go_sem, cq]
      intro hHeld
      refine wpHead_take (i := 0) (v := ?vv0) rfl (by kernel_rfl) (fun _ _ _ h => h) (Or.inl ⟨by rfl, ?hy0⟩) (by assumption) ?rest0
      case hy0 => (intro u hu; go_simp; try with_reducible rfl)
      simp only [Act.put, List.setIfInBounds_toArray]
      refine wpHead_take (i := 1) (v := ?vv1) rfl (by kernel_rfl) (fun _ _ _ h => h) (Or.inl ⟨by rfl, ?hy1⟩) (by assumption) ?rest1
      case hy1 => (intro u hu; go_simp; try with_reducible rfl)
      simp only [Act.put]
      refine wpHead_take (i := 2) (v := ?vv2) rfl (by kernel_rfl) (fun _ _ _ h => h) (Or.inl ⟨by rfl, ?hy2⟩) (by assumption) ?rest2
      case hy2 => (intro u hu; go_simp; try with_reducible rfl)
      simp only [Act.put]
      refine wpHead_alone (i := 3) rfl (by kernel_rfl) (by kernel_rfl) (by rfl) ?_
      intro K3 hK3
      have HK3 := hide hK3
      clear hK3
      go_simp
      refine HT.out.mono ?_
      rintro e w6 (⟨hr, rfl, hg⟩ | ⟨x, r1, v, k2, hr, rfl, hv, hS, rfl⟩)
      · have HR2 : Hid (rdProg ((byt s).drop k) = none) := by unfold Hid; rw [← HE.out, em, conts_none hr]
        have HG := hide (grown_trans HH.out.base (grown_trans HJ.out.rd.base (grown_trans (grown_drew (grown_refl _ _)) hg)))
        clear hr hg em
        exact ⟨rfl, Or.inl ⟨HR2.out, rfl, HG.out⟩⟩
      have HE2 : Hid (conts (p ++ [x]) (rdMany rdThread (m - (j + 1)) ((byt s).drop k2)) = rdProg ((byt s).drop k)) := by unfold Hid; rw [← HE.out, em, conts_some hr]
      have hb5 : w.heap.size + 2 ≤ w5.drew.heap.size := hw5
      have hg5 : w5.grownBy w6 (some b) := grown_trans (grown_drew (grown_refl _ _)) hS.base
      have hw6 : w.heap.size + 2 ≤ w6.heap.size := Nat.le_trans hb5 hS.base.size
      have HJ6 := hide (HJ.out.call (RdS.trans (HJ.out.rd.self.grown (grown_drew (grown_refl _ _))) hS))
      have HT6 : Hid (ThrAt (w.heap.size + 2) w6.heap.size w6 tv p) := (HO.out.step hg5 (fun q e => by simp only [Option.some.injEq] at e; omega)).mono hg5.size
      have HC6 : Hid (CodeRow (w.heap.size + 2) w6.heap.size w6 v x) := ⟨owns_mono hv.2.1 hb5, hv.2.2⟩
      obtain ⟨v1, v2, v3, rfl⟩ := owns_form HC6.out.1
      obtain ⟨t1, t2, t3, rfl⟩ := owns_form HT6.out.choose_spec.1
      obtain ⟨rows, HRW⟩ : ∃ rows, Hid (w6.ownsRow (w.heap.size + 2) 75 1 (.slice t1 t2 t3) p.length rows) := ⟨_, HT6.out.choose_spec.1⟩
      have ht2 := owns_lenq HRW.out
      subst ht2
      have hpl : p.length ≤ 4 := by have := HC.out; omega
      have hS6 : w6.cell? ⟨w.heap.size + 1, 0, none⟩ = some (.slice t1 p.length t3) := by simpa using HJ6.out.cell 0
      clear hr hS hg5 em HT hv HO HJ
      refine HK3.out _ _ hS6 ?_
      clear HK3
      try simp only [Act.put, List.setIfInBounds_toArray]
      refine wpHead_alone (i := 4) rfl (by kernel_rfl) (by kernel_rfl) (by rfl) ?_
      intro K4 hK4
      have HK4 := hide hK4
      clear hK4
      go_simp
      have hgA : w6.grownBy (w6.alloc (.cells #[.slice v1 v2 v3] 75)) none := grown_alloc (grown_refl _ _)
      refine HK4.out _ _ (pres_grown hgA _ _ hS6) ?_
      clear HK4
      have h63 : p.length + 1 ≤ maxLen := by unfold maxLen; omega
      have hby : (p.length + 1) * 24 ≤ 140737488355328 := by omega
      refine wpHead_alone (i := 5) rfl (by kernel_rfl) (by kernel_rfl) (by rfl) ?_
      intro K5 hK5
      have HK5 := hide hK5
      clear hK5
      refine wp_append_lies _ (.tmp 9) (.tmp 12) 22 (by rfl) (w.heap.size + 2) 75 i1 _ 1 24 Tryz.underlying22 hi1 hy0 hy1 hy2 rfl (by omega) (.slice t1 p.length t3) p.length rows (by rfl) (owns_alloc HRW.out) ⟨w6.heap.size, 0, none⟩ 1 1 [.slice v1 v2 v3] (by rfl) (by rfl) (World.news_of_block (cs := #[.slice v1 v2 v3]) (t := 75) (fr := (0, 0)) (heap_alloc_new w6 _)) (by simp [Value.oneCell']) (by omega) h63 hby (by simp; omega) (w6.heap.size + 1) (by simp) ?_
      intro g2 cap2 w7 hown7 hgrow hat hlt7
      have hob : ∀ q, (Value.slice t1 p.length t3).ownBlock = some q → w.heap.size + 2 ≤ q := fun q e => owns_block HRW.out q e
      have hb7 : ∀ q, q < w.heap.size + 2 → w7.heap[q]? = w6.heap[q]? := fun q hq => by
        rw [hgrow.block q (by simp; omega) (fun e => by have := hob q e.symm; omega), hgA.block q (by omega) (by simp)]
      have HI7 : Hid (InS w w7 b s k2 24 (w.heap.size + 1) w.heap.size #[.slice t1 p.length t3] #[.slice none 0 0]) := by
        have I := HJ6.out
        exact ⟨⟨by rw [hb7 _ (by omega)]; exact I.rd.blk, grown_row (grown_trans I.rd.base (grown_none hgA)) hgrow (fun q e => by have := hob q e; omega), I.rd.le⟩, by rw [hb7 _ (by omega)]; exact I.var, by rw [hb7 _ (by omega)]; exact I.res, I.cb, I.db, I.cd, I.lc, I.ld⟩
      have hS7 : w7.cell? ⟨w.heap.size + 1, 0, none⟩ = some (.slice t1 p.length t3) := by simpa using HI7.out.cell 0
      have hsz7 : w6.heap.size + 1 ≤ w7.heap.size := by have := hgrow.size; simpa using this
      have HT7 : Hid (ThrAt (w.heap.size + 2) w7.heap.size w7 (.slice (some ⟨g2, 0, none⟩) (p.length + 1) cap2) (p ++ [x])) :=
        ThrAt.snoc HT6.out HRW.out HC6.out hgA hgrow hown7 (by omega) (owns_lt hown7)
      clear hown7 hgrow hat hlt7 hb7 hgA HT6 HRW HC6 HJ6
      refine HK5.out _ _ hS7 ?_
      clear HK5
      try simp only [Act.put, List.setIfInBounds_toArray]
      refine wpHead_take (i := 6) (v := ?vv6) rfl (by kernel_rfl) (fun _ _ _ h => h) (Or.inl ⟨by rfl, ?hy6⟩) (by assumption) ?rest6
      case hy6 => (intro u hu; go_simp; try with_reducible rfl)
      simp only [Act.put]
      refine wpHead_last rfl (by kernel_rfl) (by kernel_rfl) (by rfl) ?_
      have s7f : w7.frozen? ⟨w.heap.size + 1, 0, none⟩ = false := HI7.out.free 0
      have HI8 := hide (HI7.out.set 0 (.slice (some ⟨g2, 0, none⟩) (p.length + 1) cap2))
      have HT8 : Hid (ThrAt (w.heap.size + 2) (w7.setCell ⟨w.heap.size + 1, 0, none⟩ (.slice (some ⟨g2, 0, none⟩) (p.length + 1) cap2)).heap.size (w7.setCell ⟨w.heap.size + 1, 0, none⟩ (.slice (some ⟨g2, 0, none⟩) (p.length + 1) cap2)) (.slice (some ⟨g2, 0, none⟩) (p.length + 1) cap2) (p ++ [x])) := by
        have := HT7.out.step (grown_set (w := w7) (b := w.heap.size + 1) (o := 0) (v := .slice (some ⟨g2, 0, none⟩) (p.length + 1) cap2)) (fun q e => by simp only [Option.some.injEq] at e; omega)
        exact this.mono (by simp)
      have hw8 : w.heap.size + 2 ≤ (w7.setCell ⟨w.heap.size + 1, 0, none⟩ (.slice (some ⟨g2, 0, none⟩) (p.length + 1) cap2)).heap.size := by simp; omega
      clear HI7 HT7
      go_simp
      go_wp2
      go_roundw
      case rel => exact ⟨j + 1, p ++ [x], _, k2, by omega, by first | rfl | go_num, hide (by simpa using HC.out), HI8, HT8, hw8, HE2⟩
      case measure => simp [intOf]; omega
    · have q1 : ¬ (j : Int) < m := by omega
      have ej : m - j = 0 := by omega
      have HR2 : Hid (rdProg ((byt s).drop k) = some (p, (byt s).drop k')) := by unfold Hid; rw [← HE.out, ej, conts_zero]
      have h4' : Hid (p.length ≤ 4) := by unfold Hid; have := HC.out; omega
      obtain ⟨t1, t2, t3, rfl⟩ := owns_form HO.out.choose_spec.1
      have cq : w5.cell? ⟨w.heap.size + 1, 0, none⟩ = some (.slice t1 t2 t3) := by simpa using HJ.out.cell 0
      have cr : w5.cell? ⟨w.heap.size, 0, none⟩ = some (.slice none 0 0) := by simpa using HJ.out.rcell 0
      have fr := HJ.out.rfree 0
      clear ej
      go_wp2_with fail
      have J := HJ.out.rset 0 (.slice t1 t2 t3)
      have HT8 : ThrAt (w.heap.size + 2) (w5.setCell ⟨w.heap.size, 0, none⟩ (.slice t1 t2 t3)).heap.size (w5.setCell ⟨w.heap.size, 0, none⟩ (.slice t1 t2 t3)) (.slice t1 t2 t3) p := by
        have := HO.out.step (grown_set (w := w5) (b := w.heap.size) (o := 0) (v := .slice t1 t2 t3)) (fun q e => by simp only [Option.some.injEq] at e; omega)
        exact this.mono (by simp)
      clear cq cr fr HJ HO
      generalize w5.setCell ⟨w.heap.size, 0, none⟩ (.slice t1 t2 t3) = wz at J HT8 ⊢
      have e0 : wz.cell? ⟨w.heap.size, 0, none⟩ = some (.slice t1 t2 t3) := by simpa using J.rcell 0
      refine bodyPost_ret (v := .agg #[.slice t1 t2 t3]) ?_ rfl ?_
      · simp [results, Tryz.results96, go_sem, e0]
      · exact Or.inr ⟨p, _, _, k', HR2.out, rfl, ⟨h4'.out, _, rfl, HT8⟩, HH.out.trans J.rd, rfl⟩

end Go.Proofs.YtklenjmfalljgaaGreatDoor
