/- Locked's two tables. -/
import Derived.Test.YtklenjmfalljgaaDoorPrg2
import Derived.Test.YtklenjmfalljgaaDoorPureF
import Derived.Deep.DeepCutAuto
namespace Go.Proofs.YtklenjmfalljgaaDoor
open Go.RowKit
attribute [local go_sem] Go.World.cell?_alloc_some

/-- Threads' codes in rows of the call's own. -/
def RowsAt (L : Nat) (w : World) (tv : Value) (cs : List (List Ins)) : Prop :=
  ∃ rows, w.ownsRow L 29 1 tv cs.length rows ∧ ∀ j (hj : j < cs.length), ∃ rv, rows[j]? = some rv ∧ w.ownsRow L 28 4 rv cs[j].length (insCells cs[j])

theorem RowsAt.nil (L : Nat) (w : World) : RowsAt L w (.slice none 0 0) [] := ⟨[], ⟨rfl, Or.inl ⟨rfl, rfl⟩⟩, fun j hj => by simp at hj⟩

/-- One block changes that is a row of something else. -/
theorem RowsAt.step {L : Nat} {w w' : World} {tv : Value} {cs : List (List Ins)} {r : Option Nat} (h : RowsAt L w tv cs) (hg : w.grownBy w' r) (h1 : ∀ k, r = some k → tv.ownBlock ≠ some k)
    (h2 : ∀ k, r = some k → ∀ v n xs, w.ownsRow L 28 4 v n xs → v.ownBlock ≠ some k) : RowsAt L w' tv cs := by
  obtain ⟨rows, a1, a2⟩ := h
  refine ⟨rows, owns_step a1 hg h1, fun j hj => ?_⟩
  obtain ⟨rv, b1, b2⟩ := a2 j hj
  exact ⟨rv, b1, owns_step b2 hg (fun k e => h2 k e _ _ _ b2)⟩
theorem RowsAt.stepNone {L : Nat} {w w' : World} {tv : Value} {cs : List (List Ins)} (h : RowsAt L w tv cs) (hg : w.grownBy w' none) : RowsAt L w' tv cs :=
  h.step hg (fun _ e => by cases e) (fun _ e => by cases e)

theorem RowsAt.progAt {L : Nat} {w : World} {tv : Value} {p : List (List Ins)} (h : RowsAt L w tv p) : ProgAt w (.agg #[tv]) p := by
  obtain ⟨rows, h1, h3⟩ := h
  rcases h1.2 with ⟨e, e0⟩ | ⟨g, cap, cur, hv, _⟩
  · refine ⟨none, 0, by rw [e, e0], fun k hk => by omega⟩
  · refine ⟨some ⟨g, 0, none⟩, cap, by rw [hv], fun j hj => ⟨g, 0, rfl, ?_⟩⟩
    obtain ⟨rv, e1, e2⟩ := h3 j hj
    rw [hv] at h1
    exact ⟨rv, by rw [Nat.zero_add, h1.cellAt j (by omega)]; exact e1, CodeRow.codeAt (L := L) (B := w.heap.size) ⟨e2, owns_lt e2⟩⟩

/-- A row more. -/
theorem RowsAt.snoc {L : Nat} {w w2 : World} {tv tv' lv : Value} {p : List (List Ins)} {c : List Ins} {rows : List Value} (h : RowsAt L w tv p) (ho : w.ownsRow L 29 1 tv p.length rows) (hl : w.ownsRow L 28 4 lv c.length (insCells c))
    (hg2 : w.grownBy w2 tv.ownBlock) (ho2 : w2.ownsRow L 29 1 tv' (p.length + 1) (rows ++ [lv])) : RowsAt L w2 tv' (p ++ [c]) := by
  obtain ⟨rows', h1, h3⟩ := h
  have hrows : rows' = rows := by
    rcases h1.2 with ⟨e, e0⟩ | ⟨g, cap, cur, hv, _, hh, _, _, _, ht1⟩
    · have a1 := h1.1; have a2 := ho.1
      rw [e0] at a1 a2
      rw [List.length_eq_zero_iff.1 (by omega : rows'.length = 0), List.length_eq_zero_iff.1 (by omega : rows.length = 0)]
    · rcases ho.2 with ⟨e, e0⟩ | ⟨g', cap', cur', hv', _, hh', _, _, _, ht2⟩
      · rw [e] at hv; cases hv
      · rw [hv] at hv'
        simp at hv'
        obtain ⟨e1, e2⟩ := hv'
        rw [← e1, hh] at hh'
        simp at hh'
        rw [← ht1, ← ht2, hh']
  subst hrows
  have hrl : rows'.length = p.length := by have := h1.1; omega
  refine ⟨rows' ++ [lv], by simpa using ho2, fun j hj => ?_⟩
  by_cases hjl : j < p.length
  · obtain ⟨rv, b1, b2⟩ := h3 j hjl
    refine ⟨rv, by rw [List.getElem?_append_left (by omega)]; exact b1, ?_⟩
    rw [List.getElem_append_left hjl]
    exact owns_step b2 hg2 (fun k e e2 => owns_types h1 b2 (by decide) k e e2)
  · have : j = p.length := by simp at hj; omega
    subst this
    refine ⟨lv, by rw [List.getElem?_append_right (by omega)]; simp [hrl], ?_⟩
    simp
    exact owns_step hl hg2 (fun k e e2 => owns_types h1 hl (by decide) k e e2)

def addN (adds : List Int) (j : Nat) : Int := pickN ((adds[j]?).getD 0) 1000
def lockRows (k : Int) (adds : List Int) (t : Nat) : List (List Ins) := (List.range t).map fun j => lockC k (addN adds j)
def bareRows (adds : List Int) (t : Nat) : List (List Ins) := (List.range t).map fun j => addC (addN adds j)
def repC (k m : Int) : Nat → List Ins
  | 0 => []
  | i + 1 => repC k m i ++ halfC k m
theorem repC_len (k m : Int) : ∀ i, (repC k m i).length = i * 6
  | 0 => rfl
  | i + 1 => by simp only [repC, List.length_append, repC_len k m i]; simp [halfC, addC]; omega

/-- In the midst of the first loop. -/
def LkOut (w : World) (k : Int) (adds : List Int) (t : Nat) (w' : World) : Prop :=
  ∃ tv bv, w'.heap[w.heap.size]? = some (.cells #[tv] 25 (0, 0)) ∧ w'.heap[w.heap.size + 1]? = some (.cells #[bv] 25 (0, 0)) ∧
    RowsAt (w.heap.size + 2) w' tv (lockRows k adds t) ∧ RowsAt (w.heap.size + 2) w' bv (bareRows adds t) ∧ (∀ q, tv.ownBlock = some q → bv.ownBlock ≠ some q) ∧ w.grownBy w' none ∧ w.heap.size + 2 ≤ w'.heap.size

def addCells (m : Int) : Array Value := #[.int .i64 2, .int .i64 2, .int .i64 3, .int .i64 0, .int .i64 1, .int .i64 1, .int .i64 0, .int .i64 m, .int .i64 4, .int .i64 2, .int .i64 1, .int .i64 0, .int .i64 3, .int .i64 3, .int .i64 2, .int .i64 0]

theorem lockRows_succ (k : Int) (adds : List Int) (t : Nat) : lockRows k adds (t + 1) = lockRows k adds t ++ [lockC k (addN adds t)] := by unfold lockRows; rw [List.range_succ, List.map_append]; rfl
theorem bareRows_succ (adds : List Int) (t : Nat) : bareRows adds (t + 1) = bareRows adds t ++ [addC (addN adds t)] := by unfold bareRows; rw [List.range_succ, List.map_append]; rfl
theorem lockRows_len (k : Int) (adds : List Int) (t : Nat) : (lockRows k adds t).length = t := by simp [lockRows]
theorem bareRows_len (adds : List Int) (t : Nat) : (bareRows adds t).length = t := by simp [bareRows]

/-- What a round of the first loop does to the two tables. -/
theorem lk_step {w w5 w7 w11 w13 : World} {k m : Int} {adds : List Int} {t : Nat} {tv bv lv : Value} {o1 o2 : Obj} {rows rows2 : List Value} {g11 c11 g13 c13 : Nat}
    (j1 : w5.heap[w.heap.size]? = some (.cells #[tv] 25 (0, 0))) (j2 : w5.heap[w.heap.size + 1]? = some (.cells #[bv] 25 (0, 0)))
    (j3 : RowsAt (w.heap.size + 2) w5 tv (lockRows k adds t)) (j4 : RowsAt (w.heap.size + 2) w5 bv (bareRows adds t)) (j5 : ∀ q, tv.ownBlock = some q → bv.ownBlock ≠ some q) (j6 : w.grownBy w5 none) (j7 : w.heap.size + 2 ≤ w5.heap.size)
    (p1 : w5.ownsRow (w.heap.size + 2) 29 1 tv t rows) (p2 : w5.ownsRow (w.heap.size + 2) 29 1 bv t rows2)
    (hme : addN adds t = m) (hg57 : w5.grownBy w7 none) (hs7 : w5.heap.size + 1 ≤ w7.heap.size)
    (hl7 : w7.ownsRow (w5.heap.size + 1) 28 4 lv 12 (insCells (lockC k m))) (hab : w7.heap[w5.heap.size]? = some (.cells (addCells m) 28 (0, 0)))
    (hown11 : w11.ownsRow (w.heap.size + 2) 29 1 (.slice (some ⟨g11, 0, none⟩) (t + 1) c11) (t + 1) (rows ++ [lv])) (hgrow11 : (w7.alloc o1).grownBy w11 tv.ownBlock) (hat11 : tv.ownBlock = some g11 ∨ g11 = w7.heap.size + 1)
    (hown13 : w13.ownsRow (w.heap.size + 2) 29 1 (.slice (some ⟨g13, 0, none⟩) (t + 1) c13) (t + 1) (rows2 ++ [.slice (some ⟨w5.heap.size, 0, none⟩) 4 4]))
    (hgrow13 : ((w11.setCell ⟨w.heap.size, 0, none⟩ (.slice (some ⟨g11, 0, none⟩) (t + 1) c11)).alloc o2).grownBy w13 bv.ownBlock) (hat13 : bv.ownBlock = some g13 ∨ g13 = w11.heap.size + 1) :
    LkOut w k adds (t + 1) (w13.setCell ⟨w.heap.size + 1, 0, none⟩ (.slice (some ⟨g13, 0, none⟩) (t + 1) c13)) := by
  have hlt := owns_lt p1
  have hlb := owns_lt p2
  have hbt := owns_block p1
  have hbb := owns_block p2
  have hgA : w5.grownBy (w7.alloc o1) none := grown_alloc hg57
  have hs11 : w7.heap.size + 1 ≤ w11.heap.size := by have := hgrow11.size; simpa using this
  have hs13 : w11.heap.size + 1 ≤ w13.heap.size := by have := hgrow13.size; simpa using this
  have hadd : (w7.alloc o1).ownsRow (w.heap.size + 2) 28 4 (.slice (some ⟨w5.heap.size, 0, none⟩) 4 4) 4 (insCells (addC m)) := by
    refine ⟨rfl, Or.inr ⟨w5.heap.size, 4, addCells m, rfl, by omega, ?_, by omega, ?_, rfl, rfl⟩⟩
    · rw [Below.heap_alloc _ _ _ (by omega)]; exact hab
    · unfold maxLen; omega
  have t1 := j3.stepNone hgA
  have b1 := j4.stepNone hgA
  have pt1 := owns_grown p1 hgA (fun _ e => by cases e)
  have pb1 := owns_grown p2 hgA (fun _ e => by cases e)
  have hlv := owns_mono (owns_alloc (o := o1) hl7) (by omega : w.heap.size + 2 ≤ w5.heap.size + 1)
  -- behind the first append
  have t2 : RowsAt (w.heap.size + 2) w11 (.slice (some ⟨g11, 0, none⟩) (t + 1) c11) (lockRows k adds (t + 1)) := by
    rw [lockRows_succ, hme]
    exact t1.snoc (rows := rows) (by rw [lockRows_len]; exact pt1) hlv hgrow11 (by rw [lockRows_len]; exact hown11)
  have b2 : RowsAt (w.heap.size + 2) w11 bv (bareRows adds t) := b1.step hgrow11 (fun q e => j5 q e) (fun q e v n xs h => owns_types pt1 h (by decide) q e)
  have pb2 := owns_step pb1 hgrow11 (fun q e => j5 q e)
  have hadd2 := owns_step hadd hgrow11 (fun q e => owns_types pt1 hadd (by decide) q e)
  -- behind the store and the new block
  have hgS : w11.grownBy (w11.setCell ⟨w.heap.size, 0, none⟩ (.slice (some ⟨g11, 0, none⟩) (t + 1) c11)) (some w.heap.size) := grown_set
  have far : ∀ {v : Value} {e z n : Nat} {xs : List Value} {u : World}, u.ownsRow (w.heap.size + 2) e z v n xs → ∀ q, some w.heap.size = some q ∨ some (w.heap.size + 1) = some q → v.ownBlock ≠ some q := fun h q hq e => by
    have := owns_block h q e
    rcases hq with hq | hq <;> cases hq <;> omega
  have t3 := (t2.step hgS (fun q e => far hown11 q (Or.inl e)) (fun q e v n xs h => far h q (Or.inl e))).stepNone (grown_alloc (o := o2) (grown_refl _ _))
  have b3 := (b2.step hgS (fun q e => far pb2 q (Or.inl e)) (fun q e v n xs h => far h q (Or.inl e))).stepNone (grown_alloc (o := o2) (grown_refl _ _))
  have pb3 := owns_alloc (o := o2) (owns_step pb2 hgS (fun q e => far pb2 q (Or.inl e)))
  have pt3 := owns_alloc (o := o2) (owns_step hown11 hgS (fun q e => far hown11 q (Or.inl e)))
  have hadd3 := owns_alloc (o := o2) (owns_step hadd2 hgS (fun q e => far hadd2 q (Or.inl e)))
  have hdis : ∀ q, bv.ownBlock = some q → (Value.slice (some ⟨g11, 0, none⟩) (t + 1) c11).ownBlock ≠ some q := fun q e e2 => by
    have e3 : g11 = q := by simpa [Value.ownBlock] using e2
    have := hlb q e
    rcases hat11 with h | h
    · exact j5 q (by rw [h, e3]) e
    · omega
  -- behind the second append
  have b4 : RowsAt (w.heap.size + 2) w13 (.slice (some ⟨g13, 0, none⟩) (t + 1) c13) (bareRows adds (t + 1)) := by
    rw [bareRows_succ, hme]
    exact b3.snoc (rows := rows2) (by rw [bareRows_len]; exact pb3) hadd3 hgrow13 (by rw [bareRows_len]; exact hown13)
  have t4 : RowsAt (w.heap.size + 2) w13 (.slice (some ⟨g11, 0, none⟩) (t + 1) c11) (lockRows k adds (t + 1)) := t3.step hgrow13 hdis (fun q e v n xs h => owns_types pb3 h (by decide) q e)
  have hgS2 : w13.grownBy (w13.setCell ⟨w.heap.size + 1, 0, none⟩ (.slice (some ⟨g13, 0, none⟩) (t + 1) c13)) (some (w.heap.size + 1)) := grown_set
  have pt4 := owns_step pt3 hgrow13 hdis
  -- the two variables' blocks
  have h0 : w11.heap[w.heap.size]? = some (.cells #[tv] 25 (0, 0)) := by
    rw [hgrow11.block _ (by simp; omega) (fun e => by have := hbt _ e.symm; omega), hgA.block _ (by omega) (by simp)]; exact j1
  have h1 : w11.heap[w.heap.size + 1]? = some (.cells #[bv] 25 (0, 0)) := by
    rw [hgrow11.block _ (by simp; omega) (fun e => by have := hbt _ e.symm; omega), hgA.block _ (by omega) (by simp)]; exact j2
  have h0' := heap_setCell_same w11 w.heap.size 0 _ _ (.slice (some ⟨g11, 0, none⟩) (t + 1) c11) h0
  have h13 : w13.heap[w.heap.size]? = some (.cells #[.slice (some ⟨g11, 0, none⟩) (t + 1) c11] 25 (0, 0)) := by
    rw [hgrow13.block _ (by simp; omega) (fun e => by have := hbb _ e.symm; omega), Below.heap_alloc _ _ _ (by simp; omega)]
    simpa using h0'
  have h13' : w13.heap[w.heap.size + 1]? = some (.cells #[bv] 25 (0, 0)) := by
    rw [hgrow13.block _ (by simp; omega) (fun e => by have := hbb _ e.symm; omega), Below.heap_alloc _ _ _ (by simp; omega), Below.heap_setCell _ _ _ _ (by simp)]
    exact h1
  refine ⟨.slice (some ⟨g11, 0, none⟩) (t + 1) c11, .slice (some ⟨g13, 0, none⟩) (t + 1) c13, ?_, ?_, ?_, ?_, ?_, ?_, by simp; omega⟩
  · rw [Below.heap_setCell _ _ _ _ (by simp)]; exact h13
  · have := heap_setCell_same w13 (w.heap.size + 1) 0 _ _ (.slice (some ⟨g13, 0, none⟩) (t + 1) c13) h13'
    simpa using this
  · exact t4.step hgS2 (fun q e => far pt4 q (Or.inr e)) (fun q e v n xs h => far h q (Or.inr e))
  · exact b4.step hgS2 (fun q e => far hown13 q (Or.inr e)) (fun q e v n xs h => far h q (Or.inr e))
  · intro q e e2
    have e3 : g11 = q := by simpa [Value.ownBlock] using e
    have e4 : g13 = q := by simpa [Value.ownBlock] using e2
    rcases hat13 with h | h
    · exact hdis q (by rw [h, e4]) e
    · rcases hat11 with h2 | h2
      · have := hlt g11 h2; omega
      · omega
  · exact grown_setNew (grown_row (grown_alloc (grown_setNew (grown_row (grown_alloc (grown_trans j6 hg57)) hgrow11 (fun q e => by have := hbt q e; omega)) (by omega))) hgrow13 (fun q e => by have := hbb q e; omega)) (by omega)

def allN (ch : List Int) (r : Nat) : List Int := (List.range r).map fun j => (ch[j]?).getD 0
theorem allN_succ (ch : List Int) (r : Nat) : allN ch (r + 1) = allN ch r ++ [(ch[r]?).getD 0] := by unfold allN; rw [List.range_succ, List.map_append]; rfl
theorem allN_len (ch : List Int) (r : Nat) : (allN ch r).length = r := by simp [allN]

theorem allN_range {ch : List Int} (hb : ∀ k (hk : k < ch.length), isInt ch[k]) (r : Nat) : ∀ j (hj : j < (allN ch r).length), -9223372036854775808 ≤ (allN ch r)[j] ∧ (allN ch r)[j] ≤ 9223372036854775807 := by
  intro j hj
  have e : (allN ch r)[j] = (ch[j]?).getD 0 := by simp [allN]
  rw [e]
  by_cases hjc : j < ch.length
  · have h := hb j hjc
    rw [List.getElem?_eq_getElem hjc]
    exact h
  · rw [List.getElem?_eq_none (by omega)]
    simp

theorem lockC_valid {k m : Int} (h : 0 ≤ k ∧ k < 3) : vCode (lockC k m) = true := by
  simp [vCode, lockC, halfC, addC, vIns, shp, fitsB, belowB, h.1, h.2]
theorem addC_valid {m : Int} : vCode (addC m) = true := by
  simp [vCode, addC, vIns, shp, fitsB, belowB]
theorem lockRows_valid {k : Int} (h : 0 ≤ k ∧ k < 3) (adds : List Int) {t : Nat} (h1 : 1 ≤ t) (h4 : t ≤ 4) : vProg (lockRows k adds t) = true := by
  simp only [vProg, Bool.and_eq_true, decide_eq_true_eq, List.all_eq_true, lockRows_len]
  refine ⟨h1, h4, fun c hc => ?_⟩
  simp only [lockRows, List.mem_map] at hc
  obtain ⟨j, _, rfl⟩ := hc
  exact lockC_valid h
theorem bareRows_valid (adds : List Int) {t : Nat} (h1 : 1 ≤ t) (h4 : t ≤ 4) : vProg (bareRows adds t) = true := by
  simp only [vProg, Bool.and_eq_true, decide_eq_true_eq, List.all_eq_true, bareRows_len]
  refine ⟨h1, h4, fun c hc => ?_⟩
  simp only [bareRows, List.mem_map] at hc
  obtain ⟨j, _, rfl⟩ := hc
  exact addC_valid
theorem lockRows_code (k : Int) (adds : List Int) {t j : Nat} (hj : j < t) : codeOf (lockRows k adds t) j = lockC k (addN adds j) := by
  rw [codeOf_get (by rw [lockRows_len]; exact hj)]; simp [lockRows]
theorem bareRows_code (adds : List Int) {t j : Nat} (hj : j < t) : codeOf (bareRows adds t) j = addC (addN adds j) := by
  rw [codeOf_get (by rw [bareRows_len]; exact hj)]; simp [bareRows]

theorem addN_range (adds : List Int) (j : Nat) : 0 ≤ addN adds j ∧ addN adds j ≤ 1000 := by
  have := pickN_range ((adds[j]?).getD 0) 1000 (by omega)
  unfold addN
  omega

end Go.Proofs.YtklenjmfalljgaaDoor
