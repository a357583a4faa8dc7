/- The walk of program. -/
import Derived.Test.YtklenjmfalljgaaDoorIns
namespace Go.Proofs.YtklenjmfalljgaaDoor
open Go.RowKit
attribute [local go_sem] Go.World.cell?_alloc_some

/-- Lists of numbers in memory. -/
def RawAt (w : World) (v : Value) (l : List (List Int)) : Prop :=
  ∃ ao cap, v = .slice ao l.length cap ∧ ∀ t (ht : t < l.length), ∃ g o, ao = some ⟨g, o, none⟩ ∧ ∃ rv, w.cell? ⟨g, o + t, none⟩ = some rv ∧ IntsAt w.heap.size w rv l[t]

def codeN (r : List Int) : List Ins := (r.take 16).map fun c => insN c (min r.length 16 : Nat)
def thrN (raw : List (List Int)) (k : Nat) : List (List Ins) := (raw.take k).map codeN
def progN (raw : List (List Int)) : List (List Ins) := if (thrN raw 4).length = 0 then [[]] else thrN raw 4

theorem codeN_len (r : List Int) : (codeN r).length = min r.length 16 := by simp [codeN, Nat.min_comm]

theorem codeN_valid (r : List Int) : vCode (codeN r) = true := by
  have hl := codeN_len r
  simp only [vCode, Bool.and_eq_true, decide_eq_true_eq, List.all_eq_true]
  refine ⟨by omega, fun i hi => ?_⟩
  simp only [codeN, List.mem_map] at hi
  obtain ⟨c, _, rfl⟩ := hi
  rw [hl]
  exact insM_valid _ _ (pickN_range c 1099511627776 (by omega)).1 (by omega)

theorem progN_valid (raw : List (List Int)) : vProg (progN raw) = true := by
  unfold progN
  by_cases h : (thrN raw 4).length = 0
  · rw [if_pos h]; decide
  · rw [if_neg h]
    simp only [vProg, Bool.and_eq_true, decide_eq_true_eq, List.all_eq_true]
    refine ⟨by omega, by simp [thrN]; omega, fun c hc => ?_⟩
    simp only [thrN, List.mem_map] at hc
    obtain ⟨r, _, rfl⟩ := hc
    exact codeN_valid r

def insV (i : Ins) : List Value := [.int .i64 i.op, .int .i64 i.a, .int .i64 i.b, .int .i64 i.n]
def insCells (c : List Ins) : List Value := c.flatMap insV
theorem insCells_len (c : List Ins) : (insCells c).length = c.length * 4 := by
  induction c with
  | nil => rfl
  | cons i c ih => simp only [insCells, List.flatMap_cons, List.length_append] at *; rw [ih]; simp [insV]; omega
theorem insCells_snoc (c : List Ins) (i : Ins) : insCells (c ++ [i]) = insCells c ++ insV i := by simp [insCells]
theorem insCells_get : ∀ (c : List Ins) (k : Nat) (hk : k < c.length), (insCells c)[k * 4]? = some (.int .i64 c[k].op) ∧ (insCells c)[k * 4 + 1]? = some (.int .i64 c[k].a) ∧ (insCells c)[k * 4 + 2]? = some (.int .i64 c[k].b) ∧ (insCells c)[k * 4 + 3]? = some (.int .i64 c[k].n)
  | [], k, hk => by simp at hk
  | i :: c, 0, hk => by simp [insCells, insV]
  | i :: c, k + 1, hk => by
    have h := insCells_get c k (by simpa using hk)
    have e : insCells (i :: c) = insV i ++ insCells c := by simp [insCells]
    have e4 : ∀ j, (insCells (i :: c))[(k + 1) * 4 + j]? = (insCells c)[k * 4 + j]? := fun j => by
      rw [e, List.getElem?_append_right (by simp [insV]; omega)]
      congr 1
      simp [insV]; omega
    refine ⟨?_, ?_, ?_, ?_⟩
    · have := e4 0; simp only [Nat.add_zero] at this; rw [this]; simpa using h.1
    · rw [e4 1]; simpa using h.2.1
    · rw [e4 2]; simpa using h.2.2.1
    · rw [e4 3]; simpa using h.2.2.2

/-- A thread's code in a row of the call's own. -/
def CodeRow (L B : Nat) (w : World) (v : Value) (c : List Ins) : Prop := w.ownsRow L 28 4 v c.length (insCells c) ∧ ∀ h, v.ownBlock = some h → h < B

theorem CodeRow.codeAt {L B : Nat} {w : World} {v : Value} {c : List Ins} (h : CodeRow L B w v c) : CodeAt w v c := by
  obtain ⟨h1, _⟩ := h
  rcases h1.2 with ⟨e, e0⟩ | ⟨g, cap, cur, hv, _⟩
  · refine ⟨none, 0, by rw [e, e0], fun k hk => by omega⟩
  · refine ⟨some ⟨g, 0, none⟩, cap, hv, fun k hk => ⟨g, 0, rfl, ?_⟩⟩
    rw [hv] at h1
    have q := insCells_get c k hk
    refine ⟨?_, ?_, ?_, ?_⟩
    · rw [Nat.zero_add, h1.cellAt _ (by omega)]; exact q.1
    · rw [Nat.zero_add, h1.cellAt _ (by omega)]; exact q.2.1
    · rw [Nat.zero_add, h1.cellAt _ (by omega)]; exact q.2.2.1
    · rw [Nat.zero_add, h1.cellAt _ (by omega)]; exact q.2.2.2

theorem owns_step {w w' : World} {base : Nat} {e : TypeId} {size : Nat} {v : Value} {n : Nat} {xs : List Value} {r : Option Nat} (h : w.ownsRow base e size v n xs) (hg : w.grownBy w' r) (hr : ∀ k, r = some k → v.ownBlock ≠ some k) : w'.ownsRow base e size v n xs := by
  obtain ⟨h1, h2⟩ := h
  refine ⟨h1, ?_⟩
  rcases h2 with h2 | ⟨g, cap, cur, hv, hb, hh, rest⟩
  · exact Or.inl h2
  · have hlt : g < w.heap.size := (Array.getElem?_eq_some_iff.1 hh).1
    refine Or.inr ⟨g, cap, cur, hv, hb, ?_, rest⟩
    rw [hg.block g hlt (fun e => hr g e.symm (by rw [hv]; rfl))]; exact hh

theorem owns_types {w : World} {b1 b2 e1 e2 z1 z2 : Nat} {v1 v2 : Value} {n1 n2 : Nat} {x1 x2 : List Value} (h1 : w.ownsRow b1 e1 z1 v1 n1 x1) (h2 : w.ownsRow b2 e2 z2 v2 n2 x2) (he : e1 ≠ e2) : ∀ k, v1.ownBlock = some k → v2.ownBlock ≠ some k := by
  intro k hk hk2
  rcases h1.2 with ⟨e, _⟩ | ⟨g, _, c1, hv, _, hh, _⟩
  · rw [e] at hk; cases hk
  · rcases h2.2 with ⟨e, _⟩ | ⟨g', _, c2, hv', _, hh', _⟩
    · rw [e] at hk2; cases hk2
    · rw [hv] at hk
      rw [hv'] at hk2
      have e1 : g = k := by simpa [Value.ownBlock] using hk
      have e2 : g' = k := by simpa [Value.ownBlock] using hk2
      rw [e1] at hh
      rw [e2, hh] at hh'
      simp at hh'
      exact he hh'.2

/-- The threads so far. -/
def ThrAt (L B : Nat) (w : World) (tv : Value) (p : List (List Ins)) : Prop :=
  ∃ rows, w.ownsRow L 29 1 tv p.length rows ∧ (∀ h, tv.ownBlock = some h → h < B) ∧ ∀ j (hj : j < p.length), ∃ rv, rows[j]? = some rv ∧ CodeRow L B w rv p[j]

theorem ThrAt.step {L B : Nat} {w w' : World} {tv : Value} {p : List (List Ins)} {r : Option Nat} (h : ThrAt L B w tv p) (hg : w.grownBy w' r) (hr : ∀ q, r = some q → q < L ∨ B ≤ q) : ThrAt L B w' tv p := by
  obtain ⟨rows, h1, h2, h3⟩ := h
  refine ⟨rows, owns_step h1 hg (fun k e e2 => ?_), h2, fun j hj => ?_⟩
  · have := h2 k e2; have := owns_block h1 k e2; rcases hr k e with q | q <;> omega
  · obtain ⟨rv, e1, e2, e3⟩ := h3 j hj
    refine ⟨rv, e1, owns_step e2 hg (fun k e e4 => ?_), e3⟩
    have := e3 k e4; have := owns_block e2 k e4; rcases hr k e with q | q <;> omega
theorem ThrAt.mono {L B B' : Nat} {w : World} {tv : Value} {p : List (List Ins)} (h : ThrAt L B w tv p) (hb : B ≤ B') : ThrAt L B' w tv p := by
  obtain ⟨rows, h1, h2, h3⟩ := h
  refine ⟨rows, h1, fun q e => Nat.lt_of_lt_of_le (h2 q e) hb, fun j hj => ?_⟩
  obtain ⟨rv, e1, e2, e3⟩ := h3 j hj
  exact ⟨rv, e1, e2, fun q e => Nat.lt_of_lt_of_le (e3 q e) hb⟩

theorem ThrAt.progAt {L B : Nat} {w : World} {tv : Value} {p : List (List Ins)} (h : ThrAt L B w tv p) : ProgAt w (.agg #[tv]) p := by
  obtain ⟨rows, h1, h2, h3⟩ := h
  rcases h1.2 with ⟨e, e0⟩ | ⟨g, cap, cur, hv, _⟩
  · refine ⟨none, 0, by rw [e, e0], fun k hk => by omega⟩
  · refine ⟨some ⟨g, 0, none⟩, cap, by rw [hv], fun j hj => ⟨g, 0, rfl, ?_⟩⟩
    obtain ⟨rv, e1, e2⟩ := h3 j hj
    rw [hv] at h1
    exact ⟨rv, by rw [Nat.zero_add, h1.cellAt j (by omega)]; exact e1, e2.codeAt⟩

/-- p.Threads = append(p.Threads, l): the worlds behind the append. -/
theorem ThrAt.snoc {L B : Nat} {w w1 w2 : World} {tv tv' lv : Value} {p : List (List Ins)} {c : List Ins} {rows : List Value} (h : ThrAt L B w tv p) (ho : w.ownsRow L 29 1 tv p.length rows) (hl : CodeRow L B w lv c) (hg1 : w.grownBy w1 none)
    (hg2 : w1.grownBy w2 tv.ownBlock) (ho2 : w2.ownsRow L 29 1 tv' (p.length + 1) (rows ++ [lv])) (hB : B ≤ w2.heap.size) (ht : ∀ q, tv'.ownBlock = some q → q < w2.heap.size) : ThrAt L w2.heap.size w2 tv' (p ++ [c]) := by
  obtain ⟨rows', h1, h2, h3⟩ := h
  have hrows : rows' = rows := by
    rcases h1.2 with ⟨e, e0⟩ | ⟨g, cap, cur, hv, _, hh, _, _, _, ht1⟩
    · have a1 := h1.1; have a2 := ho.1
      rw [e0] at a1 a2
      rw [List.length_eq_zero_iff.1 (by omega : rows'.length = 0), List.length_eq_zero_iff.1 (by omega : rows.length = 0)]
    · rcases ho.2 with ⟨e, e0⟩ | ⟨g', cap', cur', hv', _, hh', _, _, _, ht2⟩
      · rw [e] at hv; cases hv
      · rw [hv] at hv'
        simp at hv'
        obtain ⟨e1, e2⟩ := hv'
        rw [← e1, hh] at hh'
        simp at hh'
        rw [← ht1, ← ht2, hh']
  subst hrows
  have hrow : ∀ {rv : Value} {c : List Ins}, CodeRow L B w rv c → CodeRow L w2.heap.size w2 rv c := fun {rv c} hc => by
    have a1 := owns_step hc.1 hg1 (fun k e => by cases e)
    have a2 := owns_step h1 hg1 (fun k e => by cases e)
    exact ⟨owns_step a1 hg2 (fun k e => owns_types a2 a1 (by decide) k e), fun q e => Nat.lt_of_lt_of_le (hc.2 q e) hB⟩
  refine ⟨rows' ++ [lv], by simpa using ho2, ht, fun j hj => ?_⟩
  have hlr : rows'.length = p.length := by have := h1.1; omega
  by_cases hlt : j < p.length
  · obtain ⟨rv, e1, e2⟩ := h3 j hlt
    exact ⟨rv, by rw [List.getElem?_append_left (by omega)]; exact e1, by rw [List.getElem_append_left hlt]; exact hrow e2⟩
  · have ej : j = p.length := by simp at hj; omega
    subst ej
    exact ⟨lv, by rw [List.getElem?_append_right (by omega)]; simp [hlr], by simpa using hrow hl⟩

theorem info_ins : ((Tryd.prog.info? 28).map fun i => (i.zero, i.size, i.bytes)) = some (some (.agg #[.int .i64 0, .int .i64 0, .int .i64 0, .int .i64 0]), 4, 32) := by kernel_rfl
theorem info_code : ((Tryd.prog.info? 29).map fun i => (i.zero, i.size, i.bytes)) = some (some (.slice none 0 0), 1, 24) := by kernel_rfl

end Go.Proofs.YtklenjmfalljgaaDoor
