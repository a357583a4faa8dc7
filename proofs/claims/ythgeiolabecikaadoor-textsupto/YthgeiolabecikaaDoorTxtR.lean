/- The program's way through a text and the reference's come to the same. -/
import Derived.Test.YthgeiolabecikaaDoorTxtQ
namespace Go.Proofs.YthgeiolabecikaaDoor

theorem thr_len (last n : Int) (l : List Nat) : (thr last n l).2 ≤ l.length := by
  induction l generalizing n with
  | nil => simp [thr]
  | cons b r ih =>
    unfold thr
    split
    · simpa using ih _
    · simp
theorem thr_blank (last n : Int) (q u : List Nat) : thr last n (q ++ 32 :: u) = thr last n q := by
  induction q generalizing n with
  | nil => simp [thr, isD]
  | cons b r ih => simp only [List.cons_append, thr, ih]
theorem cnt_blank (n : Int) (q u : List Nat) : cnt n (q ++ 32 :: u) = cnt n q := by
  induction q generalizing n with
  | nil => simp [cnt, isD]
  | cons b r ih => simp only [List.cons_append, cnt, ih]

theorem runP_blank (last : Int) (q u : List Nat) : runP last (q ++ 32 :: u) = runP last q := by
  have hl := thr_len last (-1) q
  unfold runP
  rw [thr_blank]
  generalize (thr last (-1) q).2 = j at *
  by_cases h : j < q.length
  · have e1 : (q ++ 32 :: u)[j]? = q[j]? := List.getElem?_append_left h
    have e2 : (q ++ 32 :: u).drop (j + 1) = q.drop (j + 1) ++ 32 :: u := by
      rw [List.drop_append]
      have : j + 1 - q.length = 0 := by omega
      rw [this, List.drop_zero]
    rw [e1, e2, cnt_blank]
  · obtain rfl : j = q.length := by omega
    have e1 : (q ++ 32 :: u)[q.length]? = some 32 := by simp
    have e2 : q[q.length]? = none := by simp
    rw [e1, e2]
    have e3 : ((some 32 : Option Nat) == some 42) = false := by decide
    have e4 : ((none : Option Nat) == some 42) = false := by decide
    rw [e3, e4]
    simp

theorem parts_one (q : List Nat) (h : ∀ x ∈ q, x ≠ 32) : partsR q = [q] := by
  induction q with
  | nil => rfl
  | cons b r ih =>
    have hb : b ≠ 32 := h b (by simp)
    rw [partsR, if_neg hb, ih (fun x hx => h x (by simp [hx]))]; rfl
theorem parts_two (q u : List Nat) (h : ∀ x ∈ q, x ≠ 32) : partsR (q ++ 32 :: u) = q :: partsR u := by
  induction q with
  | nil => simp [partsR]
  | cons b r ih =>
    have hb : b ≠ 32 := h b (by simp)
    rw [List.cons_append, partsR, if_neg hb, ih (fun x hx => h x (by simp [hx]))]; rfl
theorem parts_ne (l : List Nat) : partsR l ≠ [] := by
  cases l with
  | nil => simp [partsR]
  | cons b r => unfold partsR; split <;> simp

theorem split_blank (l : List Nat) : (∀ x ∈ l, x ≠ 32) ∨ ∃ q u, l = q ++ 32 :: u ∧ ∀ x ∈ q, x ≠ 32 := by
  induction l with
  | nil => left; simp
  | cons b r ih =>
    by_cases hb : b = 32
    · right; exact ⟨[], r, by simp [hb], by simp⟩
    · rcases ih with h | ⟨q, u, rfl, h⟩
      · left
        intro x hx
        rcases List.mem_cons.1 hx with rfl | hx
        · exact hb
        · exact h x hx
      · right
        refine ⟨b :: q, u, rfl, ?_⟩
        intro x hx
        rcases List.mem_cons.1 hx with rfl | hx
        · exact hb
        · exact h x hx

/-- Whether runs are runs does not hang on what was there. -/
theorem whole_out (qs : List (List Nat)) (ahead : Int) (o o' : List Int) : (wholeR qs ahead o).map (·.2) = (wholeR qs ahead o').map (·.2) := by
  induction qs generalizing ahead o o' with
  | nil => rfl
  | cons q qs ih =>
    unfold wholeR
    cases runR q ahead with
    | none => rfl
    | some x => exact ih _ _ _

theorem viable_eq (ahead : Int) (l : List Nat) : viable ahead l = match (wholeR (partsR l).dropLast ahead []).map (·.2) with
    | none => false
    | some a => beginsR ((partsR l).getLastD []) a := by
  unfold viable
  cases wholeR (partsR l).dropLast ahead [] <;> rfl

theorem viable_one (ahead : Int) (q : List Nat) (h : ∀ x ∈ q, x ≠ 32) : viable ahead q = beginsR q ahead := by
  unfold viable; rw [parts_one q h]; rfl
theorem viable_two (ahead : Int) (q u : List Nat) (h : ∀ x ∈ q, x ≠ 32) : viable ahead (q ++ 32 :: u) = match runR q ahead with
    | none => false
    | some x => viable x.1 u := by
  rw [viable_eq, parts_two q u h]
  have e1 : (q :: partsR u).dropLast = q :: (partsR u).dropLast := by rw [List.dropLast_cons_of_ne_nil (parts_ne u)]
  have e2 : (q :: partsR u).getLastD [] = (partsR u).getLastD [] := by
    cases hp : partsR u with
    | nil => exact absurd hp (parts_ne u)
    | cons a b => rfl
  rw [e1, e2, wholeR]
  cases runR q ahead with
  | none => rfl
  | some x =>
    simp only
    rw [viable_eq, whole_out _ _ _ []]

/-- m is the length of the longest beginning of l that may begin runs behind one of a thread. -/
structure IsLng (ahead : Int) (l : List Nat) (m : Nat) : Prop where
  le : m ≤ l.length
  yes : viable ahead (l.take m) = true
  no : ∀ k, m < k → k ≤ l.length → viable ahead (l.take k) = false

theorem search_lng {l : List Nat} {m : Nat} (h : IsLng (-1) l m) (n : Nat) (hm : m ≤ n) (hn : n ≤ l.length) : searchR l n = m := by
  induction n with
  | zero => simp [searchR]; omega
  | succ n ih =>
    unfold searchR
    by_cases e : m = n + 1
    · rw [if_pos]
      · exact e.symm
      · rw [← e]; exact h.yes
    · rw [if_neg (by rw [h.no (n + 1) (by omega) hn]; simp)]
      exact ih (by omega) (by omega)

theorem take_blank {q u : List Nat} {k : Nat} (h : k ≤ q.length) : (q ++ 32 :: u).take k = q.take k := List.take_append_of_le_length h
theorem take_mem {q : List Nat} (h : ∀ x ∈ q, x ≠ 32) (k : Nat) : ∀ x ∈ q.take k, x ≠ 32 := fun x hx => h x (List.mem_of_mem_take hx)
theorem take_over (q u : List Nat) (j : Nat) : (q ++ 32 :: u).take (q.length + 1 + j) = q ++ 32 :: u.take j := by
  rw [List.take_append, List.take_of_length_le (by omega)]
  have : q.length + 1 + j - q.length = j + 1 := by omega
  rw [this, List.take_succ_cons]

theorem lng_one {last : Int} {q : List Nat} (h : ∀ x ∈ q, x ≠ 32) : IsLng last q (runP last q).len := by
  have A := auto last q
  refine ⟨A.len, ?_, ?_⟩
  · rw [viable_one _ _ (take_mem h _), A.pre _ A.len]; simp
  · intro k h1 h2
    rw [viable_one _ _ (take_mem h _), A.pre _ h2]; simp; omega
theorem lng_two_bad {last : Int} {q u : List Nat} (h : ∀ x ∈ q, x ≠ 32) (hr : runR q last = none) : IsLng last (q ++ 32 :: u) (runP last q).len := by
  have A := auto last q
  have hl := A.len
  refine ⟨by simp; omega, ?_, ?_⟩
  · rw [take_blank A.len, viable_one _ _ (take_mem h _), A.pre _ A.len]; simp
  · intro k h1 h2
    by_cases h3 : k ≤ q.length
    · rw [take_blank h3, viable_one _ _ (take_mem h _), A.pre _ h3]; simp; omega
    · obtain ⟨j, rfl⟩ : ∃ j, k = q.length + 1 + j := ⟨k - (q.length + 1), by omega⟩
      rw [take_over, viable_two _ _ _ h, hr]
theorem lng_two {last t n : Int} {q u : List Nat} {m : Nat} (h : ∀ x ∈ q, x ≠ 32) (hr : runR q last = some (t, n)) (hm : IsLng t u m) : IsLng last (q ++ 32 :: u) (q.length + 1 + m) := by
  have hl := hm.le
  refine ⟨by simp; omega, ?_, ?_⟩
  · rw [take_over, viable_two _ _ _ h, hr]; exact hm.yes
  · intro k h1 h2
    obtain ⟨j, rfl⟩ : ∃ j, k = q.length + 1 + j := ⟨k - (q.length + 1), by omega⟩
    rw [take_over, viable_two _ _ _ h, hr]
    exact hm.no j (by omega) (by simp at h2; omega)

theorem loop_eq (f : Nat) (sch out : List Int) (last total : Int) (at_ : Nat) (l : List Nat) (hf : l.length < f) (ht : total = out.length) (hs : total < 501 → sch = out) (h501 : total ≤ 501) :
    match wholeR (partsR l) last out with
    | some (o, _) => loopP f sch last total at_ l = if 500 < o.length then ⟨[], 0, false⟩ else ⟨o, 0, true⟩
    | none => ∃ m, IsLng last l m ∧ loopP f sch last total at_ l = ⟨[], at_ + m, false⟩ := by
  induction f generalizing sch out last total at_ l with
  | zero => omega
  | succ f ih =>
    have next : ∀ (q : List Nat) (t n : Int), runR q last = some (t, n) → min (total + (runP last q).count) 501 = ((fillR out t n).length : Int) ∧
        (min (total + (runP last q).count) 501 < 501 → addRun sch (min (total + (runP last q).count) 501) (runP last q).count (runP last q).thread = fillR out t n) := by
      intro q t n h
      obtain ⟨h1, h2, h3, h4, h5⟩ := (auto last q).yes t n h
      have e : ((fillR out t n).length : Int) = min (total + (runP last q).count) 501 := by
        unfold fillR; simp; omega
      refine ⟨e.symm, fun hlt => ?_⟩
      unfold addRun fillR
      rw [if_pos hlt, h3, h4, hs (by omega)]
      have : (min n 501).toNat = min n.toNat (501 - out.length) := by omega
      rw [this]
    rcases split_blank l with hb | ⟨q, u, rfl, hb⟩
    · rw [parts_one l hb]
      simp only [wholeR]
      have A := auto last l
      cases hr : runR l last with
      | none =>
        simp only
        refine ⟨(runP last l).len, lng_one hb, ?_⟩
        unfold loopP
        by_cases hok : (runP last l).ok = true
        · have hne := A.no hr hok
          have hlt : (runP last l).len < l.length := by have := A.len; omega
          rw [if_pos hok, List.drop_eq_getElem_cons hlt]
          simp only
          rw [if_neg (hb _ (List.getElem_mem hlt))]
        · rw [if_neg hok]
      | some x =>
        obtain ⟨t, n⟩ := x
        simp only
        obtain ⟨h1, h2, h3, h4, h5⟩ := A.yes t n hr
        obtain ⟨n1, n2⟩ := next l t n hr
        unfold loopP
        rw [if_pos h1, h2, List.drop_length]
        simp only
        by_cases h6 : min (total + (runP last l).count) 501 = 501
        · rw [if_pos h6, if_pos (by omega)]
        · rw [if_neg h6, if_neg (by omega), n2 (by omega)]
    · rw [parts_two q u hb]
      simp only [wholeR]
      have A := auto last q
      have hP := runP_blank last q u
      cases hr : runR q last with
      | none =>
        simp only
        refine ⟨(runP last q).len, lng_two_bad hb hr, ?_⟩
        unfold loopP
        rw [hP]
        by_cases hok : (runP last q).ok = true
        · have hne := A.no hr hok
          have hlt : (runP last q).len < q.length := by have := A.len; omega
          have hlt2 : (runP last q).len < (q ++ 32 :: u).length := by simp; omega
          rw [if_pos hok, List.drop_eq_getElem_cons hlt2]
          simp only
          rw [if_neg]
          rw [List.getElem_append_left hlt]
          exact hb _ (List.getElem_mem hlt)
        · rw [if_neg hok]
      | some x =>
        obtain ⟨t, n⟩ := x
        simp only
        obtain ⟨h1, h2, h3, h4, h5⟩ := A.yes t n hr
        obtain ⟨n1, n2⟩ := next q t n hr
        have e : loopP (f + 1) sch last total at_ (q ++ 32 :: u) = loopP f (addRun sch (min (total + (runP last q).count) 501) (runP last q).count (runP last q).thread) t (min (total + (runP last q).count) 501) (at_ + q.length + 1) u := by
          conv => lhs; unfold loopP
          rw [hP, if_pos h1, h2]
          have e2 : (q ++ 32 :: u).drop q.length = 32 :: u := by simp
          rw [e2]
          simp only [if_true, h3]
        rw [e]
        have := ih (addRun sch (min (total + (runP last q).count) 501) (runP last q).count (runP last q).thread) (fillR out t n) t (min (total + (runP last q).count) 501) (at_ + q.length + 1) u (by simp at hf; omega) n1 n2 (by omega)
        cases hw : wholeR (partsR u) t (fillR out t n) with
        | none =>
          rw [hw] at this
          simp only at this ⊢
          obtain ⟨m, hm1, hm2⟩ := this
          exact ⟨q.length + 1 + m, lng_two hb hr hm1, by rw [hm2]; congr 1; omega⟩
        | some y =>
          rw [hw] at this
          exact this

theorem parse_eq (l : List Nat) : parseP l = parseR l := by
  unfold parseP parseR
  by_cases h0 : l = []
  · rw [if_pos h0, if_pos h0]
  · rw [if_neg h0, if_neg h0]
    have := loop_eq (l.length + 1) [] [] (-1) 0 0 l (by omega) rfl (fun _ => rfl) (by omega)
    cases hw : wholeR (partsR l) (-1) [] with
    | none =>
      rw [hw] at this
      obtain ⟨m, h1, h2⟩ := this
      simp only
      rw [h2, search_lng h1 l.length h1.le (Nat.le_refl _)]; simp
    | some y => rw [hw] at this; exact this

end Go.Proofs.YthgeiolabecikaaDoor
