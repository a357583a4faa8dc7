/- The walk of New. -/
import Derived.Test.YtklenjmfalljgaaDoorMk2
namespace Go.Proofs.YtklenjmfalljgaaDoor
open Go.RowKit
attribute [local go_sem] Go.World.cell?_alloc_some

/-- The three cells of a move. -/
def moveV (kf : Nat) (caps : Array Value) (i : Ins) : List Value := [.func (.func kf) #[] caps, .bool (i.op == 9), .int .i64 (if i.op = 9 then i.a else 0)]

/-- The closure's boxes lie in the blocks from a on, below b. -/
def ActSt (a b : Nat) (w : World) (v : Value) (t : Nat) (i : Ins) : Prop := ∀ w' : World, (∀ k, a ≤ k → k < b → w'.heap[k]? = w.heap[k]?) → ActIs b w' v t i

/-- A row of moves, as a list of cells; the boxes lie from L on, below B, and not in the row's own block. -/
def MovesIn (L B : Nat) (w : World) (own : Option Nat) (xs : List Value) (t : Nat) (c : List Ins) : Prop :=
  ∀ k (hk : k < c.length), ∃ kf caps a b, xs[k * 3]? = some (.func (.func kf) #[] caps) ∧ xs[k * 3 + 1]? = some (.bool (c[k].op == 9)) ∧ xs[k * 3 + 2]? = some (.int .i64 (if c[k].op = 9 then c[k].a else 0)) ∧
    L ≤ a ∧ b ≤ B ∧ (∀ h, own = some h → h < a ∨ b ≤ h) ∧ ActSt a b w (.func (.func kf) #[] caps) t c[k]

theorem MovesIn.step {L B : Nat} {w w' : World} {own r : Option Nat} {xs : List Value} {t : Nat} {c : List Ins} (h : MovesIn L B w own xs t c) (hB : B ≤ w.heap.size) (hg : w.grownBy w' r) (hr : ∀ q, r = some q → own = some q ∨ q < L ∨ B ≤ q) : MovesIn L B w' own xs t c := by
  intro k hk
  obtain ⟨kf, caps, a, b, h1, h2, h3, h4, h5, h6, h7⟩ := h k hk
  refine ⟨kf, caps, a, b, h1, h2, h3, h4, h5, h6, fun w2 hw2 => h7 w2 fun q hq hq2 => ?_⟩
  rw [hw2 q hq hq2, hg.block q (by omega) (fun e => by
    rcases hr q e.symm with e2 | e2 | e2
    · rcases h6 q e2 with e3 | e3 <;> omega
    · omega
    · omega)]

theorem MovesIn.mono {L B B' : Nat} {w : World} {own : Option Nat} {xs : List Value} {t : Nat} {c : List Ins} (h : MovesIn L B w own xs t c) (hB : B ≤ B') : MovesIn L B' w own xs t c := by
  intro k hk
  obtain ⟨kf, caps, a, b, h1, h2, h3, h4, h5, h6, h7⟩ := h k hk
  exact ⟨kf, caps, a, b, h1, h2, h3, h4, by omega, h6, h7⟩

theorem MovesIn.reown {L B g : Nat} {w : World} {own : Option Nat} {xs : List Value} {t : Nat} {c : List Ins} (h : MovesIn L B w own xs t c) (hat : own = some g ∨ B ≤ g) : MovesIn L B w (some g) xs t c := by
  intro k hk
  obtain ⟨kf, caps, a, b, h1, h2, h3, h4, h5, h6, h7⟩ := h k hk
  refine ⟨kf, caps, a, b, h1, h2, h3, h4, h5, fun q e => ?_, h7⟩
  cases e
  rcases hat with e | e
  · exact h6 _ e
  · exact Or.inr (by omega)

theorem MovesIn.snoc {L B : Nat} {w : World} {own : Option Nat} {xs : List Value} {t : Nat} {c : List Ins} {i : Ins} {kf : Nat} {caps : Array Value} {a b : Nat} (h : MovesIn L B w own xs t c) (hl : xs.length = c.length * 3)
    (ha : L ≤ a) (hb : b ≤ B) (ho : ∀ h, own = some h → h < a ∨ b ≤ h) (hA : ActSt a b w (.func (.func kf) #[] caps) t i) :
    MovesIn L B w own (xs ++ moveV kf caps i) t (c ++ [i]) := by
  intro k hk
  by_cases hlt : k < c.length
  · obtain ⟨kf', caps', a', b', h1, h2, h3, h4⟩ := h k hlt
    have e : (c ++ [i])[k] = c[k] := List.getElem_append_left hlt
    refine ⟨kf', caps', a', b', ?_, ?_, ?_, ?_⟩
    · rw [List.getElem?_append_left (by omega)]; exact h1
    · rw [List.getElem?_append_left (by omega), e]; exact h2
    · rw [List.getElem?_append_left (by omega), e]; exact h3
    · rw [e]; exact h4
  · have ek : k = c.length := by simp at hk; omega
    subst ek
    have e : (c ++ [i])[c.length] = i := by simp
    refine ⟨kf, caps, a, b, ?_, ?_, ?_, ha, hb, ho, ?_⟩
    · rw [List.getElem?_append_right (by omega), hl]; simp [moveV]
    · rw [List.getElem?_append_right (by omega), hl, e]
      have : c.length * 3 + 1 - c.length * 3 = 1 := by omega
      rw [this]; rfl
    · rw [List.getElem?_append_right (by omega), hl, e]
      have : c.length * 3 + 2 - c.length * 3 = 2 := by omega
      rw [this]; rfl
    · rw [e]; exact hA

/-- The rows of the threads ahead of t are done; their blocks lie from L on, below B. -/
def Fin (L B : Nat) (w : World) (rows : Array Value) (t : Nat) (p : List (List Ins)) : Prop :=
  ∀ j, j < t → ∃ v xs, rows[j]? = some v ∧ w.ownsRow L 130 3 v (codeOf p j).length xs ∧ (∀ h, v.ownBlock = some h → h < B) ∧ MovesIn L B w v.ownBlock xs j (codeOf p j)

theorem Fin.step {L B : Nat} {w w' : World} {rows : Array Value} {t : Nat} {p : List (List Ins)} {r : Option Nat} (h : Fin L B w rows t p) (hBs : B ≤ w.heap.size) (hg : w.grownBy w' r) (hr : ∀ k, r = some k → k < L ∨ B ≤ k) : Fin L B w' rows t p := by
  intro j hj
  obtain ⟨v, xs, h1, h2, h3, h4⟩ := h j hj
  refine ⟨v, xs, h1, ?_, h3, h4.step hBs hg (fun q e => Or.inr (hr q e))⟩
  obtain ⟨q1, q2⟩ := h2
  refine ⟨q1, ?_⟩
  rcases q2 with q2 | ⟨g, cap, cur, hv, hb, hh, rest⟩
  · exact Or.inl q2
  · have hlt : g < w.heap.size := (Array.getElem?_eq_some_iff.1 hh).1
    have hB := h3 g (by rw [hv]; rfl)
    refine Or.inr ⟨g, cap, cur, hv, hb, ?_, rest⟩
    rw [hg.block g hlt (fun e => by have := hr g e.symm; omega)]; exact hh

theorem Fin.rows {L B : Nat} {w : World} {rows : Array Value} {t u : Nat} {x : Value} {p : List (List Ins)} (h : Fin L B w rows t p) (hu : t ≤ u) : Fin L B w (rows.setIfInBounds u x) t p := by
  intro j hj
  obtain ⟨v, xs, h1, h2, h3, h4⟩ := h j hj
  exact ⟨v, xs, by rw [Array.getElem?_setIfInBounds_ne (by omega)]; exact h1, h2, h3, h4⟩
theorem Fin.mono {L B B' : Nat} {w : World} {rows : Array Value} {t : Nat} {p : List (List Ins)} (h : Fin L B w rows t p) (hb : B ≤ B') : Fin L B' w rows t p := by
  intro j hj
  obtain ⟨v, xs, h1, h2, h3, h4⟩ := h j hj
  exact ⟨v, xs, h1, h2, fun h e => Nat.lt_of_lt_of_le (h3 h e) hb, h4.mono hb⟩
theorem Fin.succ {L B : Nat} {w : World} {rows : Array Value} {t : Nat} {p : List (List Ins)} {v : Value} {xs : List Value} (h : Fin L B w rows t p) (h1 : rows[t]? = some v) (h2 : w.ownsRow L 130 3 v (codeOf p t).length xs)
    (h3 : ∀ h, v.ownBlock = some h → h < B) (h4 : MovesIn L B w v.ownBlock xs t (codeOf p t)) : Fin L B w rows (t + 1) p := by
  intro j hj
  by_cases e : j = t
  · subst e; exact ⟨v, xs, h1, h2, h3, h4⟩
  · exact h j (by omega)

theorem Fin.rowIs {L B : Nat} {w : World} {rows : Array Value} {t : Nat} {p : List (List Ins)} (h : Fin L B w rows t p) {j : Nat} (hj : j < t) : ∃ v, rows[j]? = some v ∧ RowIs B w v j (codeOf p j) := by
  obtain ⟨v, xs, h1, h2, h3, h4⟩ := h j hj
  refine ⟨v, h1, ?_⟩
  rcases h2.2 with ⟨e, e0⟩ | ⟨g, cap, cur, hv, hb, hh, hrest⟩
  · exact Or.inl ⟨List.length_eq_zero_iff.1 e0, e⟩
  · refine Or.inr ⟨g, cap, hv, h3 g (by rw [hv]; rfl), fun k hk => ?_⟩
    obtain ⟨kf, caps, a, b, q1, q2, q3, q4, q5, q6, q7⟩ := h4 k hk
    rw [hv] at h2
    have hc := fun j hj => h2.cellAt j hj
    exact ⟨kf, caps, by rw [hc _ (by omega)]; exact q1, (q7 w fun _ _ _ => rfl).mono q5, by rw [hc _ (by omega)]; exact q2, by rw [hc _ (by omega)]; exact q3⟩

theorem info_move : ((Tryd.prog.info? 130).map fun i => (i.zero, i.size, i.bytes)) = some (some (.agg #[.nilFunc, .bool false, .int .i64 0]), 3, 24) := by kernel_rfl
theorem info_row : ((Tryd.prog.info? 126).map fun i => (i.zero, i.size, i.bytes)) = some (some (.slice none 0 0), 1, 24) := by kernel_rfl

end Go.Proofs.YtklenjmfalljgaaDoor
