/- The texts Prg Prg2. -/
import Derived.Test.YtklenjmfalljgaaGreatDoorM20

/- The walk of program. -/
namespace Go.Proofs.YtklenjmfalljgaaGreatDoor
open Go.RowKit
attribute [local go_sem] Go.World.cell?_alloc_some

def insV (i : Ins) : List Value := [.int .i64 i.op, .int .i64 i.a, .int .i64 i.b, .int .i64 i.n]
def insCells (c : List Ins) : List Value := c.flatMap insV
/-- A thread's code in a row of the call's own. -/
def CodeRow (L B : Nat) (w : World) (v : Value) (c : List Ins) : Prop := w.ownsRow L 74 4 v c.length (insCells c) ∧ ∀ h, v.ownBlock = some h → h < B

theorem owns_step {w w' : World} {base : Nat} {e : TypeId} {size : Nat} {v : Value} {n : Nat} {xs : List Value} {r : Option Nat} (h : w.ownsRow base e size v n xs) (hg : w.grownBy w' r) (hr : ∀ k, r = some k → v.ownBlock ≠ some k) : w'.ownsRow base e size v n xs := by
  obtain ⟨h1, h2⟩ := h
  refine ⟨h1, ?_⟩
  rcases h2 with h2 | ⟨g, cap, cur, hv, hb, hh, rest⟩
  · exact Or.inl h2
  · have hlt : g < w.heap.size := (Array.getElem?_eq_some_iff.1 hh).1
    refine Or.inr ⟨g, cap, cur, hv, hb, ?_, rest⟩
    rw [hg.block g hlt (fun e => hr g e.symm (by rw [hv]; rfl))]; exact hh

theorem owns_types {w : World} {b1 b2 e1 e2 z1 z2 : Nat} {v1 v2 : Value} {n1 n2 : Nat} {x1 x2 : List Value} (h1 : w.ownsRow b1 e1 z1 v1 n1 x1) (h2 : w.ownsRow b2 e2 z2 v2 n2 x2) (he : e1 ≠ e2) : ∀ k, v1.ownBlock = some k → v2.ownBlock ≠ some k := by
  intro k hk hk2
  rcases h1.2 with ⟨e, _⟩ | ⟨g, _, c1, hv, _, hh, _⟩
  · rw [e] at hk; cases hk
  · rcases h2.2 with ⟨e, _⟩ | ⟨g', _, c2, hv', _, hh', _⟩
    · rw [e] at hk2; cases hk2
    · rw [hv] at hk
      rw [hv'] at hk2
      have e1 : g = k := by simpa [Value.ownBlock] using hk
      have e2 : g' = k := by simpa [Value.ownBlock] using hk2
      rw [e1] at hh
      rw [e2, hh] at hh'
      simp at hh'
      exact he hh'.2

/-- Rows that share no block. -/
def Apt (rows : List Value) : Prop := ∀ (i j : Nat) (ri rj : Value), i < j → rows[i]? = some ri → rows[j]? = some rj → ∀ g, ri.ownBlock = some g → rj.ownBlock ≠ some g
theorem Apt.nil : Apt [] := fun i j ri rj _ h => by simp at h

/-- The threads so far. -/
def ThrAt (L B : Nat) (w : World) (tv : Value) (p : List (List Ins)) : Prop :=
  ∃ rows, w.ownsRow L 75 1 tv p.length rows ∧ (∀ h, tv.ownBlock = some h → h < B) ∧ (∀ j (hj : j < p.length), (∃ rv, rows[j]? = some rv ∧ CodeRow L B w rv p[j])) ∧ Apt rows

theorem ThrAt.step {L B : Nat} {w w' : World} {tv : Value} {p : List (List Ins)} {r : Option Nat} (h : ThrAt L B w tv p) (hg : w.grownBy w' r) (hr : ∀ q, r = some q → q < L ∨ B ≤ q) : ThrAt L B w' tv p := by
  obtain ⟨rows, h1, h2, h3, h4⟩ := h
  refine ⟨rows, owns_step h1 hg (fun k e e2 => ?_), h2, fun j hj => ?_, h4⟩
  · have := h2 k e2; have := owns_block h1 k e2; rcases hr k e with q | q <;> omega
  · obtain ⟨rv, e1, e2, e3⟩ := h3 j hj
    refine ⟨rv, e1, owns_step e2 hg (fun k e e4 => ?_), e3⟩
    have := e3 k e4; have := owns_block e2 k e4; rcases hr k e with q | q <;> omega
theorem ThrAt.mono {L B B' : Nat} {w : World} {tv : Value} {p : List (List Ins)} (h : ThrAt L B w tv p) (hb : B ≤ B') : ThrAt L B' w tv p := by
  obtain ⟨rows, h1, h2, h3, h4⟩ := h
  refine ⟨rows, h1, fun q e => Nat.lt_of_lt_of_le (h2 q e) hb, fun j hj => ?_, h4⟩
  obtain ⟨rv, e1, e2, e3⟩ := h3 j hj
  exact ⟨rv, e1, e2, fun q e => Nat.lt_of_lt_of_le (e3 q e) hb⟩

/-- p.Threads = append(p.Threads, l): the worlds behind the append. -/
theorem ThrAt.snoc {L B0 B : Nat} {w w1 w2 : World} {tv tv' lv : Value} {p : List (List Ins)} {c : List Ins} {rows : List Value} (h : ThrAt L B0 w tv p) (hB0 : B0 ≤ B) (hnw : ∀ q, lv.ownBlock = some q → B0 ≤ q) (ho : w.ownsRow L 75 1 tv p.length rows) (hl : CodeRow L B w lv c) (hg1 : w.grownBy w1 none)
    (hg2 : w1.grownBy w2 tv.ownBlock) (ho2 : w2.ownsRow L 75 1 tv' (p.length + 1) (rows ++ [lv])) (hB : B ≤ w2.heap.size) (ht : ∀ q, tv'.ownBlock = some q → q < w2.heap.size) : ThrAt L w2.heap.size w2 tv' (p ++ [c]) := by
  obtain ⟨rows', h1, h2, h3, h4⟩ := h
  have hrows : rows' = rows := by
    rcases h1.2 with ⟨e, e0⟩ | ⟨g, cap, cur, hv, _, hh, _, _, _, ht1⟩
    · have a1 := h1.1; have a2 := ho.1
      rw [e0] at a1 a2
      rw [List.length_eq_zero_iff.1 (by omega : rows'.length = 0), List.length_eq_zero_iff.1 (by omega : rows.length = 0)]
    · rcases ho.2 with ⟨e, e0⟩ | ⟨g', cap', cur', hv', _, hh', _, _, _, ht2⟩
      · rw [e] at hv; cases hv
      · rw [hv] at hv'
        simp at hv'
        obtain ⟨e1, e2⟩ := hv'
        rw [← e1, hh] at hh'
        simp at hh'
        rw [← ht1, ← ht2, hh']
  subst hrows
  have hrow : ∀ {rv : Value} {c : List Ins}, CodeRow L B w rv c → CodeRow L w2.heap.size w2 rv c := fun {rv c} hc => by
    have a1 := owns_step hc.1 hg1 (fun k e => by cases e)
    have a2 := owns_step h1 hg1 (fun k e => by cases e)
    exact ⟨owns_step a1 hg2 (fun k e => owns_types a2 a1 (by decide) k e), fun q e => Nat.lt_of_lt_of_le (hc.2 q e) hB⟩
  have hlr : rows'.length = p.length := by have := h1.1; omega
  refine ⟨rows' ++ [lv], by simpa using ho2, ht, fun j hj => ?_, fun i j ri rj hij hi hj g e e' => ?_⟩
  · by_cases hlt : j < p.length
    · obtain ⟨rv, e1, e2, e3⟩ := h3 j hlt
      exact ⟨rv, by rw [List.getElem?_append_left (by omega)]; exact e1, by rw [List.getElem_append_left hlt]; exact hrow ⟨e2, fun q e => Nat.lt_of_lt_of_le (e3 q e) hB0⟩⟩
    · have ej : j = p.length := by simp at hj; omega
      subst ej
      exact ⟨lv, by rw [List.getElem?_append_right (by omega)]; simp [hlr], by simpa using hrow hl⟩
  · have hjl := (List.getElem?_eq_some_iff.1 hj).1
    simp only [List.length_append, List.length_singleton] at hjl
    rw [List.getElem?_append_left (by omega)] at hi
    by_cases hlt : j < rows'.length
    · rw [List.getElem?_append_left hlt] at hj
      exact h4 i j ri rj hij hi hj g e e'
    · have ej : j = rows'.length := by omega
      subst ej
      rw [List.getElem?_append_right (Nat.le_refl _)] at hj
      simp at hj
      subst hj
      obtain ⟨rv, e1, _, e3⟩ := h3 i (by omega)
      rw [hi] at e1
      cases e1
      have := e3 g e
      have := hnw g e'
      omega

end Go.Proofs.YtklenjmfalljgaaGreatDoor

/- The walk of program. -/
namespace Go.Proofs.YtklenjmfalljgaaGreatDoor
open Go.RowKit
attribute [local go_sem] Go.World.cell?_alloc_some

def isInt (c : Int) : Prop := -9223372036854775808 ≤ c ∧ c ≤ 9223372036854775807

end Go.Proofs.YtklenjmfalljgaaGreatDoor
