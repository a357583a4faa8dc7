/- The walk of schedule. -/
import Derived.Test.YtklenjmfalljgaaDoorAwk
import Derived.Test.YtklenjmfalljgaaDoorPureB
namespace Go.Proofs.YtklenjmfalljgaaDoor
open Go.RowKit
attribute [local go_sem] Go.World.cell?_alloc_some

def ints (a : List Int) : List Value := a.map fun x => .int .i64 x
theorem ints_len (a : List Int) : (ints a).length = a.length := by simp [ints]
theorem ints_one (a : List Int) : ∀ v ∈ ints a, v.oneCell' = true := by
  intro v hv
  simp only [ints, List.mem_map] at hv
  obtain ⟨x, _, rfl⟩ := hv; rfl
theorem ints_snoc (a : List Int) (x : Int) : ints (a ++ [x]) = ints a ++ [.int .i64 x] := by simp [ints]

theorem owns_ints {w : World} {base : Nat} {v : Value} {a : List Int} (h : w.ownsRow base 3 1 v a.length (ints a)) : IntsAt w.heap.size w v a := by
  rcases h.2 with ⟨e, e0⟩ | ⟨g, cap, cur, hv, hb, hh, hc, _⟩
  · refine ⟨none, 0, by rw [e, e0], by omega, fun k hk => by omega⟩
  · refine ⟨some ⟨g, 0, none⟩, cap, hv, hc, fun k hk => ⟨g, 0, rfl, (Array.getElem?_eq_some_iff.1 hh).1, ?_⟩⟩
    rw [hv] at h
    rw [Nat.zero_add, h.cellAt k (by omega)]
    simp [ints, hk]

def resCells (o : Out) (s1 g1 : Value) : Array Value := #[.int .i64 o.kind, .int .i64 o.thread, .int .i64 o.at_, s1, .int .i64 (o.st.vars 0), .int .i64 (o.st.vars 1), .int .i64 (o.st.vars 2), .int .i64 (o.st.vars 3), g1]
def zeroRes : Array Value := #[.int .i64 0, .int .i64 0, .int .i64 0, .slice none 0 0, .int .i64 0, .int .i64 0, .int .i64 0, .int .i64 0, .slice none 0 0]

/-- In the midst of schedule: s is a, r its run. -/
structure SchAt (w : World) (p : List (List Ins)) (pb : Value) (rb : Nat) (a : List Int) (sv : Value) (w' : World) : Prop where
  grown : w.grownBy w' none
  row : w'.ownsRow w.heap.size 3 1 sv a.length (ints a)
  nil : a = [] → sv = .slice none 0 0
  apart : sv.ownBlock ≠ some rb
  res : ∃ s1 g1, w'.heap[rb]? = some (.cells (resCells (runS p a) s1 g1) 37 (0, 0)) ∧ w'.ownsRow w.heap.size 48 2 s1 (runS p a).steps.length (flatS (runS p a).steps) ∧ w'.ownsRow w.heap.size 34 4 g1 p.length (regsF p.length (runS p a).st) ∧ s1.ownBlock ≠ some rb ∧ g1.ownBlock ≠ some rb
  box : w'.heap[w.heap.size]? = some (.cells #[pb] 25 (0, 0))
  out : w'.heap[w.heap.size + 1]? = some (.cells zeroRes 37 (0, 0))
  lo : w.heap.size + 2 ≤ rb
  hi : rb < w'.heap.size
  good : Sched p a

theorem SchAt.step {w : World} {p : List (List Ins)} {pb : Value} {rb : Nat} {a : List Int} {sv : Value} {w' w'' : World} (h : SchAt w p pb rb a sv w') (hg : w'.grownBy w'' none) : SchAt w p pb rb a sv w'' := by
  obtain ⟨s1, g1, h1, h2, h3, h4, h5⟩ := h.res
  exact ⟨grown_trans h.grown hg, owns_grown h.row hg (fun _ e => by cases e), h.nil, h.apart, ⟨s1, g1, by rw [hg.block _ h.hi (by simp)]; exact h1, owns_grown h2 hg (fun _ e => by cases e), owns_grown h3 hg (fun _ e => by cases e), h4, h5⟩,
    by rw [hg.block _ (by have := h.lo; have := h.hi; omega) (by simp)]; exact h.box, by rw [hg.block _ (by have := h.lo; have := h.hi; omega) (by simp)]; exact h.out, h.lo, Nat.lt_of_lt_of_le h.hi hg.size, h.good⟩

theorem owns_setCell_ne {w : World} {base : Nat} {e : TypeId} {size : Nat} {v : Value} {n : Nat} {xs : List Value} {g o : Nat} {u : Value} (h : w.ownsRow base e size v n xs) (hne : v.ownBlock ≠ some g) : (w.setCell ⟨g, o, none⟩ u).ownsRow base e size v n xs := by
  obtain ⟨h1, h2⟩ := h
  refine ⟨h1, ?_⟩
  rcases h2 with h2 | ⟨b, cap, cur, hv, hb, hh, rest⟩
  · exact Or.inl h2
  · refine Or.inr ⟨b, cap, cur, hv, hb, ?_, rest⟩
    rw [Below.heap_setCell _ _ _ _ (fun e => hne (by rw [hv]; simp [Value.ownBlock, e]))]; exact hh

theorem set9 {w : World} {g : Nat} {x0 x1 x2 x3 x4 x5 x6 x7 x8 y0 y1 y2 y3 y4 y5 y6 y7 y8 : Value} {t : TypeId} (h : w.heap[g]? = some (.cells #[x0, x1, x2, x3, x4, x5, x6, x7, x8] t (0, 0))) :
    (((((((((w.setCell ⟨g, 0, none⟩ y0).setCell ⟨g, 1, none⟩ y1).setCell ⟨g, 2, none⟩ y2).setCell ⟨g, 3, none⟩ y3).setCell ⟨g, 4, none⟩ y4).setCell ⟨g, 5, none⟩ y5).setCell ⟨g, 6, none⟩ y6).setCell ⟨g, 7, none⟩ y7).setCell ⟨g, 8, none⟩ y8).heap[g]? = some (.cells #[y0, y1, y2, y3, y4, y5, y6, y7, y8] t (0, 0)) := by
  have h0 := heap_setCell_same w g 0 _ t y0 h
  have h1 := heap_setCell_same _ g 1 _ t y1 h0
  have h2 := heap_setCell_same _ g 2 _ t y2 h1
  have h3 := heap_setCell_same _ g 3 _ t y3 h2
  have h4 := heap_setCell_same _ g 4 _ t y4 h3
  have h5 := heap_setCell_same _ g 5 _ t y5 h4
  have h6 := heap_setCell_same _ g 6 _ t y6 h5
  have h7 := heap_setCell_same _ g 7 _ t y7 h6
  have h8 := heap_setCell_same _ g 8 _ t y8 h7
  simpa using h8

/-- r = x, s = t. -/
theorem SchAt.set {w : World} {p : List (List Ins)} {pb : Value} {rb : Nat} {a b : List Int} {sv tv : Value} {w' : World} (h : SchAt w p pb rb a sv w') (hb : b ≠ []) (ht : w'.ownsRow w.heap.size 3 1 tv b.length (ints b)) (hta : tv.ownBlock ≠ some rb) {s1 g1 : Value}
    (hs : w'.ownsRow w.heap.size 48 2 s1 (runS p b).steps.length (flatS (runS p b).steps)) (hg : w'.ownsRow w.heap.size 34 4 g1 p.length (regsF p.length (runS p b).st)) (hsa : s1.ownBlock ≠ some rb) (hga : g1.ownBlock ≠ some rb) (hok : Sched p b) :
    SchAt w p pb rb b tv (((((((((w'.setCell ⟨rb, 0, none⟩ (.int .i64 (runS p b).kind)).setCell ⟨rb, 1, none⟩ (.int .i64 (runS p b).thread)).setCell ⟨rb, 2, none⟩ (.int .i64 (runS p b).at_)).setCell ⟨rb, 3, none⟩ s1).setCell ⟨rb, 4, none⟩ (.int .i64 ((runS p b).st.vars 0))).setCell ⟨rb, 5, none⟩ (.int .i64 ((runS p b).st.vars 1))).setCell ⟨rb, 6, none⟩ (.int .i64 ((runS p b).st.vars 2))).setCell ⟨rb, 7, none⟩ (.int .i64 ((runS p b).st.vars 3))).setCell ⟨rb, 8, none⟩ g1) := by
  obtain ⟨s0, g0, h1, _⟩ := h.res
  have hlo := h.lo
  have hhi := h.hi
  have hother : ∀ k, k ≠ rb → (((((((((w'.setCell ⟨rb, 0, none⟩ (.int .i64 (runS p b).kind)).setCell ⟨rb, 1, none⟩ (.int .i64 (runS p b).thread)).setCell ⟨rb, 2, none⟩ (.int .i64 (runS p b).at_)).setCell ⟨rb, 3, none⟩ s1).setCell ⟨rb, 4, none⟩ (.int .i64 ((runS p b).st.vars 0))).setCell ⟨rb, 5, none⟩ (.int .i64 ((runS p b).st.vars 1))).setCell ⟨rb, 6, none⟩ (.int .i64 ((runS p b).st.vars 2))).setCell ⟨rb, 7, none⟩ (.int .i64 ((runS p b).st.vars 3))).setCell ⟨rb, 8, none⟩ g1).heap[k]? = w'.heap[k]? := fun k hk => by
    iterate 9 rw [Below.heap_setCell _ _ _ _ (by simpa using hk)]
  refine ⟨?_, ?_, fun e => absurd e hb, hta, ⟨s1, g1, set9 h1, ?_, ?_, hsa, hga⟩, ?_, ?_, hlo, by simp; omega, hok⟩
  · iterate 9 refine grown_setNew ?_ (by omega)
    exact h.grown
  · iterate 9 refine owns_setCell_ne ?_ hta
    exact ht
  · iterate 9 refine owns_setCell_ne ?_ hsa
    exact hs
  · iterate 9 refine owns_setCell_ne ?_ hga
    exact hg
  · rw [hother _ (by omega)]; exact h.box
  · rw [hother _ (by omega)]; exact h.out


section
variable {P : Program} {w : World} {ops : Array Oper} {rest : List Oper} {o : Oper} {a : Act} {Q : Exit → Act → World → Prop}
/-- append of a whole slice of numbers onto nil: a new row. -/
theorem wpList_append_copy (hgd : o.guard = none) (s x : Operand) (t : TypeId) (ho : o.op = .call { callee := .builtin .append, args := #[s, x], argTypes := #[t, t] })
    (e : TypeId) (i : TypeInfo) (z : Value) (bytes : Nat) (ht : P.underlying t = some (.slice e)) (hi : P.info? e = some i) (hz : i.zero = some z) (hsize : i.size = 1) (hby : i.bytes = bytes) (hzs : z.cells.size = 1)
    (hs : a.eval s = .slice none 0 0) (sv : Value) (hx : a.eval x = sv) (b0 n : Nat) (xs : List Value) (hown : w.ownsRow b0 e 1 sv n xs) (hnil : n = 0 → sv = .slice none 0 0) (h1 : ∀ u ∈ xs, u.oneCell' = true) (h63 : n ≤ maxLen) (hbytes : n * bytes ≤ 140737488355328)
    (h : ∀ ta tn tc w', w'.ownsRow w.heap.size e 1 (.slice ta tn tc) n xs → w.grownBy w' none → (n = 0 → Value.slice ta tn tc = .slice none 0 0) → wpList P ops Q rest (a.put o.dst (.slice ta tn tc)) w') : wpList P ops Q (o :: rest) a w := by
  refine wpList_plain hgd fun K hK => ?_
  have hnone : w.ownsRow w.heap.size e 1 (.slice none 0 0) 0 [] := ⟨rfl, Or.inl ⟨rfl, rfl⟩⟩
  by_cases h0 : n = 0
  · have hrun := run_append_owned_none (P := P) w w.heap.size t o.type e i 1 ht hi _ 0 [] hnone
    have hx0 : xs = [] := by
      have := hown.1
      rw [h0] at this
      exact List.length_eq_zero_iff.1 (by omega)
    unfold Oper.wp
    simp [execOp, ho, resolve, invoke, builtin, hs, hx, hnil h0, hrun, Result.andThen]
    exact hK _ _ (h _ _ _ w (by rw [h0, hx0]; exact hnone) (grown_refl _ _) (fun _ => rfl))
  · obtain ⟨g, cap, rfl, _, _⟩ := hown.form (by omega)
    have hnews : ∀ j u, xs[j]? = some u → w.cell? ((⟨g, 0, none⟩ : Addr).add j) = some u := fun j u hj => by
      have hadd : (⟨g, 0, none⟩ : Addr).add j = ⟨g, j, none⟩ := by unfold Addr.add; split <;> simp_all
      have hl := (List.getElem?_eq_some_iff.1 hj).1
      rw [hadd, hown.cellAt j (by rw [← hown.1]; exact hl)]; exact hj
    obtain ⟨v', w', hrun, h2, h3, h4, h5⟩ := run_append_own_at (P := P) w w.heap.size t o.type e i z 1 bytes ht hi hz hsize hby hzs (by omega) _ 0 [] hnone ⟨g, 0, none⟩ n cap xs hown.1 hnews h1 (by omega) (by simpa using hbytes) (Nat.le_refl _)
    simp only [Nat.zero_add, List.nil_append] at h2
    obtain ⟨ta, tn, tc, rfl⟩ := owns_form h2
    unfold Oper.wp
    simp [execOp, ho, resolve, invoke, builtin, hs, hx, hrun, Result.andThen]
    exact hK _ _ (h _ _ _ w' h2 h3 (fun e => absurd e h0))
end

end Go.Proofs.YtklenjmfalljgaaDoor
