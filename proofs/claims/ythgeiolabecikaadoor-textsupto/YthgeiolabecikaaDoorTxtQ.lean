/- One run of a text: what the program reads of it, what the reference says of it. -/
import Derived.Test.YthgeiolabecikaaDoorTxtP
namespace Go.Proofs.YthgeiolabecikaaDoor

theorem half_star {a bb : List Nat} (ha : ∀ x ∈ a, x ≠ 42) : halfA (a ++ 42 :: bb) = a ∧ halfB (a ++ 42 :: bb) = bb ∧ starR (a ++ 42 :: bb) = true := by
  induction a with
  | nil => simp [halfA, halfB, starR]
  | cons x a ih =>
    have hx : x ≠ 42 := ha x (by simp)
    obtain ⟨h1, h2, h3⟩ := ih (fun y hy => ha y (by simp [hy]))
    refine ⟨?_, ?_, ?_⟩
    · unfold halfA at *; rw [List.cons_append, List.takeWhile_cons, if_pos (by simpa using hx), h1]
    · unfold halfB at *; rw [List.cons_append, List.dropWhile_cons, if_pos (by simpa using hx), h2]
    · simp [starR]
theorem half_none {a : List Nat} (ha : ∀ x ∈ a, x ≠ 42) : halfA a = a ∧ halfB a = [] ∧ starR a = false := by
  induction a with
  | nil => simp [halfA, halfB, starR]
  | cons x a ih =>
    have hx : x ≠ 42 := ha x (by simp)
    obtain ⟨h1, h2, h3⟩ := ih (fun y hy => ha y (by simp [hy]))
    refine ⟨?_, ?_, ?_⟩
    · unfold halfA at *; rw [List.takeWhile_cons, if_pos (by simpa using hx), h1]
    · unfold halfB at *; rw [List.dropWhile_cons, if_pos (by simpa using hx), h2]
    · unfold starR at *; rw [List.any_cons, h3]; simpa using hx

/-- Nothing that opens otherwise than a thread's number begins a run. -/
theorem begins_bad {l : List Nat} (hl : l ≠ []) (last : Int) (h : ¬ (plainR (halfA l) = true ∧ valueR 0 (halfA l) ≤ 63)) : beginsR l last = false ∧ runR l last = none := by
  have h' : (!plainR (halfA l) || decide (63 < valueR 0 (halfA l))) = true := by
    cases hp : plainR (halfA l)
    · rfl
    · simp only [Bool.not_true, Bool.false_or, decide_eq_true_eq]
      by_cases h2 : valueR 0 (halfA l) ≤ 63
      · exact absurd ⟨hp, h2⟩ h
      · omega
  unfold beginsR runR
  rw [if_neg hl, if_pos h', h', Bool.true_or, if_pos rfl]
  exact ⟨rfl, rfl⟩

theorem begins_star {a bb : List Nat} (ha : ∀ x ∈ a, x ≠ 42) (hp : plainR a = true) (hv : valueR 0 a ≤ 63) (last : Int) :
    beginsR (a ++ 42 :: bb) last = (!(valueR 0 a == last) && ((bb == []) || (plainR bb && !(bb == [48])))) := by
  obtain ⟨h1, h2, h3⟩ := half_star (bb := bb) ha
  unfold beginsR
  rw [if_neg (by simp), h1, h2, h3, hp, if_neg (by simp; omega), if_pos rfl]
theorem begins_plain {a : List Nat} (ha : ∀ x ∈ a, x ≠ 42) (h0 : a ≠ []) (hp : plainR a = true) (hv : valueR 0 a ≤ 63) (last : Int) :
    beginsR a last = (!(valueR 0 a == last) || (decide (1 ≤ valueR 0 a) && decide (valueR 0 a ≤ 6))) := by
  obtain ⟨h1, h2, h3⟩ := half_none ha
  unfold beginsR
  rw [if_neg h0, h1, h3, hp, if_neg (by simp; omega), if_neg (by simp)]
theorem run_star {a bb : List Nat} (ha : ∀ x ∈ a, x ≠ 42) (hp : plainR a = true) (hv : valueR 0 a ≤ 63) (last : Int) (hn : valueR 0 a ≠ last) :
    runR (a ++ 42 :: bb) last = if (!plainR bb || decide (valueR 0 bb < 2)) = true then none else some (valueR 0 a, valueR 0 bb) := by
  obtain ⟨h1, h2, h3⟩ := half_star (bb := bb) ha
  unfold runR
  rw [h1, h2, h3, hp, if_neg (by simp; exact ⟨by omega, hn⟩), Bool.true_and, if_pos rfl]
theorem run_same {l : List Nat} {last : Int} (hn : valueR 0 (halfA l) = last) : runR l last = none := by
  unfold runR
  rw [if_pos]; simp [hn]
theorem run_plain {a : List Nat} (ha : ∀ x ∈ a, x ≠ 42) (hp : plainR a = true) (hv : valueR 0 a ≤ 63) (last : Int) (hn : valueR 0 a ≠ last) :
    runR a last = some (valueR 0 a, 1) := by
  obtain ⟨h1, h2, h3⟩ := half_none ha
  unfold runR
  rw [h1, h3, hp, if_neg (by simp; exact ⟨by omega, hn⟩), if_neg (by simp), if_neg (by simp)]

/-- What one run's reading and the reference have to do with one another. -/
structure Auto (last : Int) (q : List Nat) : Prop where
  len : (runP last q).len ≤ q.length
  pre : ∀ k, k ≤ q.length → beginsR (q.take k) last = decide (k ≤ (runP last q).len)
  yes : ∀ t n, runR q last = some (t, n) → (runP last q).ok = true ∧ (runP last q).len = q.length ∧ (runP last q).thread = t ∧ (runP last q).count = min n 501 ∧ 1 ≤ n
  no : runR q last = none → (runP last q).ok = true → (runP last q).len ≠ q.length

theorem begins_nil (last : Int) : beginsR [] last = true := rfl

theorem digit_ne {b : Nat} (h : isD b = true) : b ≠ 42 ∧ b ≠ 32 := by
  have : 48 ≤ b ∧ b ≤ 57 := by simpa [isD] using h
  omega

/-- Behind a thread's number stands a star. -/
theorem auto_star (last : Int) (a bb : List Nat) (ha : ∀ x ∈ a, x ≠ 42) (hp : plainR a = true) (hv : valueR 0 a ≤ 63) (hn : valueR 0 a ≠ last) (hn0 : 0 ≤ valueR 0 a)
    (ht : thr last (-1) (a ++ 42 :: bb) = (valueR 0 a, a.length)) (hpre : ∀ k, k ≤ a.length → beginsR (a.take k) last = true) : Auto last (a ++ 42 :: bb) := by
  have e : runP last (a ++ 42 :: bb) = ⟨valueR 0 a, (cnt 0 bb).1, decide (1 < (cnt 0 bb).1), a.length + 1 + (cnt 0 bb).2⟩ := by
    unfold runP
    rw [ht]
    have e1 : (a ++ 42 :: bb)[a.length]? = some 42 := by simp
    have e2 : (a ++ 42 :: bb).drop (a.length + 1) = bb := by
      rw [List.drop_append]; simp
    have e3 : thrOk last (valueR 0 a) = true := by
      simp only [thrOk, Bool.and_eq_true, Bool.not_eq_true', beq_eq_false_iff_ne]; exact ⟨by omega, hn⟩
    simp only [e1, e2, e3, Bool.true_and, beq_self_eq_true, if_true]
  have hc := cnt_len 0 bb
  have hk : ∀ k, k ≤ bb.length → beginsR (a ++ 42 :: bb.take k) last = decide (k ≤ (cnt 0 bb).2) := by
    intro k hk
    rw [begins_star ha hp hv, cnt_begins bb k hk]
    have : (valueR 0 a == last) = false := by simpa using hn
    rw [this]; simp
  refine ⟨?_, ?_, ?_, ?_⟩
  · rw [e]; simp; omega
  · intro k hkl
    rw [e]
    simp only
    by_cases h : k ≤ a.length
    · rw [List.take_append_of_le_length h, hpre k h]; symm; simp; omega
    · obtain ⟨j, rfl⟩ : ∃ j, k = a.length + 1 + j := ⟨k - (a.length + 1), by omega⟩
      have e4 : (a ++ 42 :: bb).take (a.length + 1 + j) = a ++ 42 :: bb.take j := by
        rw [List.take_append, List.take_of_length_le (by omega)]
        have : a.length + 1 + j - a.length = j + 1 := by omega
        rw [this, List.take_succ_cons]
      have hj : j ≤ bb.length := by simp at hkl; omega
      rw [e4, hk j hj]
      by_cases h5 : j ≤ (cnt 0 bb).2 <;> simp [h5] <;> omega
  · intro t n h
    rw [run_star ha hp hv last hn] at h
    split at h
    · cases h
    · rename_i hb
      simp only [Option.some.injEq, Prod.mk.injEq] at h
      obtain ⟨rfl, rfl⟩ := h
      simp only [Bool.or_eq_true, Bool.not_eq_true', decide_eq_true_eq, not_or, Bool.not_eq_false] at hb
      have hne : bb ≠ [] := by intro h0; rw [h0] at hb; simp [plainR] at hb
      have h48 : bb ≠ [48] := by intro h0; rw [h0] at hb; exact hb.2 (by rw [value_one (by rfl)]; omega)
      have h6 := cnt_begins bb bb.length (Nat.le_refl _)
      rw [List.take_length, hb.1] at h6
      have h7 : (bb == []) = false := by simpa using hne
      have h8 : (bb == [48]) = false := by simpa using h48
      rw [h7, h8] at h6
      have h9 : bb.length ≤ (cnt 0 bb).2 := by simpa using h6.symm
      have h10 := cnt_whole bb (by omega)
      rw [e]
      refine ⟨?_, ?_, rfl, h10, by omega⟩
      · simp only [decide_eq_true_eq]; omega
      · simp; omega
  · intro h hok
    rw [e] at hok ⊢
    simp only [decide_eq_true_eq] at hok
    rw [run_star ha hp hv last hn] at h
    split at h
    · rename_i hb
      simp only [List.length_append, List.length_cons]
      intro hl
      have h10 := cnt_whole bb (by omega)
      have h6 := cnt_begins bb bb.length (Nat.le_refl _)
      rw [List.take_length] at h6
      have h9 : decide (bb.length ≤ (cnt 0 bb).2) = true := by simp; omega
      rw [h9] at h6
      have hne : bb ≠ [] := by intro h0; rw [h0] at hok; simp [cnt] at hok
      have h7 : (bb == []) = false := by simpa using hne
      rw [h7, Bool.false_or] at h6
      simp only [Bool.and_eq_true] at h6
      rw [h6.1] at hb
      simp only [Bool.not_true, Bool.false_or, decide_eq_true_eq] at hb
      omega
    · cases h

/-- A thread's number at which the reading ends. -/
theorem auto_stop (last : Int) (a r : List Nat) (n : Int) (ht : thr last (-1) (a ++ r) = (n, a.length)) (hpre : ∀ k, k ≤ a.length → beginsR (a.take k) last = true)
    (hok : (thrOk last n && (r.head? == some 42)) = false)
    (hpost : ∀ k, 0 < k → k ≤ r.length → beginsR (a ++ r.take k) last = false)
    (hyes : ∀ t m, runR (a ++ r) last = some (t, m) → thrOk last n = true ∧ r = [] ∧ n = t ∧ m = 1)
    (hno : runR (a ++ r) last = none → thrOk last n = true → r ≠ []) : Auto last (a ++ r) := by
  have e : runP last (a ++ r) = ⟨n, 1, thrOk last n, a.length⟩ := by
    unfold runP
    rw [ht]
    have e1 : (a ++ r)[a.length]? = r.head? := by rw [List.getElem?_append_right (Nat.le_refl _)]; simp [List.head?_eq_getElem?]
    simp only [e1, hok]
    simp
  refine ⟨?_, ?_, ?_, ?_⟩
  · rw [e]; simp
  · intro k hk
    rw [e]
    simp only
    by_cases h : k ≤ a.length
    · rw [List.take_append_of_le_length h, hpre k h]; symm; simpa using h
    · have e4 : (a ++ r).take k = a ++ r.take (k - a.length) := by rw [List.take_append, List.take_of_length_le (by omega)]
      rw [e4, hpost _ (by omega) (by simp at hk; omega)]; symm; simpa using h
  · intro t m h
    obtain ⟨h1, rfl, rfl, rfl⟩ := hyes t m h
    rw [e]; simp [h1]; omega
  · intro h h1
    rw [e] at h1 ⊢
    have := hno h h1
    simp
    exact this

theorem auto (last : Int) (q : List Nat) : Auto last q := by
  have T := thr_closed last q
  rcases q with _ | ⟨b, r⟩
  · refine auto_stop last [] [] (-1) T (fun k hk => ?_) rfl (fun k h1 h2 => by simp at h2; omega) ?_ ?_
    · simp [begins_nil]
    · intro t m h; simp [runR, halfA, plainR] at h
    · intro _ h; simp [thrOk] at h
  · simp only at T
    by_cases hb : isD b = true ∧ (((b : Int) - 48 ≠ last) ∨ (49 ≤ b ∧ b ≤ 54))
    · rw [if_pos hb] at T
      obtain ⟨hd, hb2⟩ := hb
      have hb42 := digit_ne hd
      have hbr : 48 ≤ b ∧ b ≤ 57 := by simpa [isD] using hd
      have p1 := (ahead_forms [b]).2 (Or.inl ⟨b, rfl, hd⟩)
      have v1 := value_one hd
      have n1 : ∀ x ∈ [b], x ≠ 42 := by simp; exact hb42.1
      have b1 : beginsR [b] last = true := by
        rw [begins_plain n1 (by simp) p1.1 p1.2, v1]
        simp; omega
      have pre1 : ∀ k, k ≤ [b].length → beginsR ([b].take k) last = true := by
        intro k hk
        have : k = 0 ∨ k = 1 := by simp at hk; omega
        rcases this with rfl | rfl
        · rfl
        · exact b1
      rcases r with _ | ⟨c, r⟩
      · refine auto_stop last [b] [] ((b : Int) - 48) T pre1 (by simp) (fun k h1 h2 => by simp at h2; omega) ?_ ?_
        · intro t m h
          by_cases hv : (b : Int) - 48 = last
          · rw [run_same (by rw [(half_none (by simpa using n1)).1, List.append_nil, v1]; exact hv)] at h; cases h
          · rw [List.append_nil, run_plain n1 p1.1 p1.2 last (by rw [v1]; exact hv), v1] at h
            simp only [Option.some.injEq, Prod.mk.injEq] at h
            exact ⟨by simp [thrOk, hv]; omega, rfl, h.1, h.2.symm⟩
        · intro h h2
          by_cases hv : (b : Int) - 48 = last
          · simp [thrOk, hv] at h2
          · rw [List.append_nil, run_plain n1 p1.1 p1.2 last (by rw [v1]; exact hv)] at h; cases h
      · by_cases hc : isD c = true ∧ b ≠ 48 ∧ ((b : Int) - 48) * 10 + ((c : Int) - 48) ≤ 63 ∧ ((b : Int) - 48) * 10 + ((c : Int) - 48) ≠ last
        · simp only [if_pos hc] at T
          obtain ⟨hdc, h48, h63, hl⟩ := hc
          have hc42 := digit_ne hdc
          have hcr : 48 ≤ c ∧ c ≤ 57 := by simpa [isD] using hdc
          have p2 := (ahead_forms [b, c]).2 (Or.inr ⟨b, c, rfl, hd, hdc, h48, h63⟩)
          have v2 := value_two hd hdc
          have n2 : ∀ x ∈ [b, c], x ≠ 42 := by simp; exact ⟨hb42.1, hc42.1⟩
          have b2 : beginsR [b, c] last = true := by
            rw [begins_plain n2 (by simp) p2.1 p2.2, v2]
            simp; omega
          have pre2 : ∀ k, k ≤ [b, c].length → beginsR ([b, c].take k) last = true := by
            intro k hk
            have : k = 0 ∨ k = 1 ∨ k = 2 := by simp at hk; omega
            rcases this with rfl | rfl | rfl
            · rfl
            · exact b1
            · exact b2
          have ok2 : thrOk last (((b : Int) - 48) * 10 + ((c : Int) - 48)) = true := by
            simp only [thrOk, Bool.and_eq_true, Bool.not_eq_true', beq_eq_false_iff_ne]; exact ⟨by omega, hl⟩
          by_cases hs : r.head? = some 42
          · obtain ⟨bb, rfl⟩ : ∃ bb, r = 42 :: bb := by
              cases r with
              | nil => simp at hs
              | cons x bb => simp at hs; exact ⟨bb, by rw [hs]⟩
            exact auto_star last [b, c] bb n2 p2.1 p2.2 (by rw [v2]; exact hl) (by rw [v2]; omega) (by rw [v2]; exact T) pre2
          · have three : ∀ d s, d ≠ 42 → ¬ (plainR (halfA (b :: c :: d :: s)) = true ∧ valueR 0 (halfA (b :: c :: d :: s)) ≤ 63) := by
              intro d s hd42
              have e : halfA (b :: c :: d :: s) = b :: c :: d :: halfA s := by
                unfold halfA
                rw [List.takeWhile_cons, if_pos (by simpa using hb42.1), List.takeWhile_cons, if_pos (by simpa using hc42.1), List.takeWhile_cons, if_pos (by simpa using hd42)]
              rw [e, ahead_forms]
              simp
            refine auto_stop last [b, c] r _ T pre2 (by rw [ok2]; simpa using hs) ?_ ?_ ?_
            · intro k h1 h2
              rcases r with _ | ⟨d, s⟩
              · simp at h2; omega
              · obtain ⟨j, rfl⟩ : ∃ j, k = j + 1 := ⟨k - 1, by omega⟩
                exact (begins_bad (by simp) last (three d (s.take j) (by simpa using hs))).1
            · intro t m h
              rcases r with _ | ⟨d, s⟩
              · rw [List.append_nil, run_plain n2 p2.1 p2.2 last (by rw [v2]; exact hl), v2] at h
                simp only [Option.some.injEq, Prod.mk.injEq] at h
                exact ⟨ok2, rfl, h.1, h.2.symm⟩
              · rw [show [b, c] ++ d :: s = b :: c :: d :: s from rfl, (begins_bad (by simp) last (three d s (by simpa using hs))).2] at h; cases h
            · intro h _
              rcases r with _ | ⟨d, s⟩
              · rw [List.append_nil, run_plain n2 p2.1 p2.2 last (by rw [v2]; exact hl)] at h; cases h
              · simp
        · simp only [if_neg hc] at T
          by_cases hs : c = 42
          · subst hs
            by_cases hv : (b : Int) - 48 = last
            · have same : ∀ s, halfA (b :: 42 :: s) = [b] := fun s => (half_star (a := [b]) (bb := s) n1).1
              refine auto_stop last [b] (42 :: r) _ T pre1 (by simp [thrOk, hv]) ?_ ?_ ?_
              · intro k h1 h2
                obtain ⟨j, rfl⟩ : ∃ j, k = j + 1 := ⟨k - 1, by omega⟩
                rw [List.take_succ_cons, begins_star n1 p1.1 p1.2, v1]
                simp [hv]
              · intro t m h
                rw [run_same (by rw [show [b] ++ 42 :: r = b :: 42 :: r from rfl, same, v1]; exact hv)] at h; cases h
              · intro _ h; simp [thrOk, hv] at h
            · exact auto_star last [b] r n1 p1.1 p1.2 (by rw [v1]; exact hv) (by rw [v1]; omega) (by rw [v1]; exact T) pre1
          · have two : ∀ s, (plainR (halfA (b :: c :: s)) = true ∧ valueR 0 (halfA (b :: c :: s)) ≤ 63) → halfA (b :: c :: s) = [b, c] ∧ isD c = true ∧ b ≠ 48 ∧ ((b : Int) - 48) * 10 + ((c : Int) - 48) = last := by
              intro s h
              have e : halfA (b :: c :: s) = b :: c :: halfA s := by
                unfold halfA
                rw [List.takeWhile_cons, if_pos (by simpa using hb42.1), List.takeWhile_cons, if_pos (by simpa using hs)]
              rw [e, ahead_forms] at h
              rcases h with ⟨b', h, _⟩ | ⟨b', c', h, h1, h2, h3, h4⟩
              · simp at h
              · simp only [List.cons.injEq] at h
                obtain ⟨rfl, rfl, h5⟩ := h
                refine ⟨by rw [e, h5], h2, h3, ?_⟩
                by_cases h6 : ((b : Int) - 48) * 10 + ((c : Int) - 48) = last
                · exact h6
                · exact absurd ⟨h2, h3, h4, h6⟩ hc
            have no2 : ∀ s, runR (b :: c :: s) last = none := by
              intro s
              by_cases h : plainR (halfA (b :: c :: s)) = true ∧ valueR 0 (halfA (b :: c :: s)) ≤ 63
              · obtain ⟨h1, h2, _, h3⟩ := two s h
                exact run_same (by rw [h1, value_two hd h2]; exact h3)
              · exact (begins_bad (by simp) last h).2
            refine auto_stop last [b] (c :: r) _ T pre1 (by simp [hs]) ?_ ?_ ?_
            · intro k h1 h2
              obtain ⟨j, rfl⟩ : ∃ j, k = j + 1 := ⟨k - 1, by omega⟩
              rw [List.take_succ_cons]
              by_cases h : plainR (halfA (b :: c :: r.take j)) = true ∧ valueR 0 (halfA (b :: c :: r.take j)) ≤ 63
              · obtain ⟨h1, h2, h48, h3⟩ := two _ h
                have hcr : 48 ≤ c ∧ c ≤ 57 := by simpa [isD] using h2
                have hv2 := value_two hd h2
                show beginsR (b :: c :: r.take j) last = false
                unfold beginsR
                rw [if_neg (by simp), h1, hv2, h3, if_neg (by rw [h1] at h; simp [h.1]; rw [hv2] at h; omega)]
                split
                · simp
                · simp; omega
              · exact (begins_bad (by simp) last h).1
            · intro t m h
              rw [show [b] ++ c :: r = b :: c :: r from rfl, no2] at h; cases h
            · intro _ _; simp
    · rw [if_neg hb] at T
      have bad : ∀ s, beginsR (b :: s) last = false ∧ runR (b :: s) last = none := by
        intro s
        by_cases h : plainR (halfA (b :: s)) = true ∧ valueR 0 (halfA (b :: s)) ≤ 63
        · have hf := (ahead_forms _).1 h
          have hh : ∃ s', halfA (b :: s) = b :: s' := by
            unfold halfA
            rw [List.takeWhile_cons]
            split
            · exact ⟨_, rfl⟩
            · rename_i h42
              rw [halfA, List.takeWhile_cons, if_neg h42] at h
              simp [plainR] at h
          obtain ⟨s', hs'⟩ := hh
          rw [hs'] at hf
          rcases hf with ⟨b', h1, h2⟩ | ⟨b', c', h1, h2, h3, h4, h5⟩
          · simp only [List.cons.injEq] at h1
            obtain ⟨rfl, rfl⟩ := h1
            have hv : (b : Int) - 48 = last ∧ ¬ (49 ≤ b ∧ b ≤ 54) := by
              refine ⟨?_, fun h6 => hb ⟨h2, Or.inr h6⟩⟩
              by_cases h6 : (b : Int) - 48 = last
              · exact h6
              · exact absurd ⟨h2, Or.inl h6⟩ hb
            have hbr : 48 ≤ b ∧ b ≤ 57 := by simpa [isD] using h2
            have hv1 := value_one h2
            refine ⟨?_, run_same (by rw [hs', hv1]; exact hv.1)⟩
            unfold beginsR
            rw [if_neg (by simp), hs', hv1, hv.1, if_neg (by rw [hs'] at h; simp [h.1]; rw [hv1] at h; omega)]
            split
            · simp
            · simp; omega
          · simp only [List.cons.injEq] at h1
            obtain ⟨rfl, rfl⟩ := h1
            have hbr : 48 ≤ b ∧ b ≤ 57 := by simpa [isD] using h2
            have hcr : 48 ≤ c' ∧ c' ≤ 57 := by simpa [isD] using h3
            exact absurd ⟨h2, Or.inr (by omega)⟩ hb
        · exact begins_bad (by simp) last h
      refine auto_stop last [] (b :: r) (-1) T (fun k hk => by simp [begins_nil]) (by simp [thrOk]) ?_ ?_ ?_
      · intro k h1 h2
        obtain ⟨j, rfl⟩ : ∃ j, k = j + 1 := ⟨k - 1, by omega⟩
        exact (bad _).1
      · intro t m h; rw [List.nil_append, (bad r).2] at h; cases h
      · intro _ h; simp [thrOk] at h

end Go.Proofs.YthgeiolabecikaaDoor
