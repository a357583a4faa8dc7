/- A law of our own on regions that draw their order: all operations but the last (number n) wait ahead of it; what S says of the world is to be kept by those alone. -/
import Derived.StillTailTactics
import Derived.OrdersHeld
namespace Go.Proofs.YtklenjmfalljgaaDoor
open Go

section
variable {P : Program} {ops : Array Oper} {Q : Exit → Act → World → Prop} {S : World → Prop} {n : Nat}

def lastL (P : Program) (ops : Array Oper) (Q : Exit → Act → World → Prop) (n : Nat) (listed : Array Bool) (a : Act) (w : World) : Prop :=
  Region.ready .any ops listed = [n] ∧ Region.ready .any ops (listed.setIfInBounds n true) = [] ∧ wpOp P ops Q n (fun a' w' => Q .normal a' w') a w

def wpHead (P : Program) (ops : Array Oper) (Q : Exit → Act → World → Prop) (S : World → Prop) (n : Nat) : Nat → Array Bool → Act → World → Prop
  | 0, listed, a, w => lastL P ops Q n listed a w
  | f + 1, listed, a, w => Region.ready .any ops listed ≠ [] ∧ ∀ i ∈ Region.ready .any ops listed, i < n ∧ wpOp P ops Q i (fun a' w' => S w' ∧ wpHead P ops Q S n f (listed.setIfInBounds i true) a' w') a w

theorem wpAny_of_wpHead : ∀ (f : Nat) (listed : Array Bool) (a : Act) (w : World), wpHead P ops Q S n f listed a w → wpAny P .any ops Q (f + 1) listed a w
  | 0, listed, a, w, ⟨h1, h2, h3⟩ => ⟨fun h => (by rw [h1] at h; cases h), fun i hi => by
      rw [h1] at hi
      have : i = n := by simpa using hi
      subst this
      exact wpOp_mono (fun a' w' h => ⟨h2, h⟩) h3⟩
  | f + 1, listed, a, w, ⟨h1, h2⟩ => ⟨fun h => absurd h h1, fun i hi => wpOp_mono (fun a' w' h => wpAny_of_wpHead f _ a' w' h.2) (h2 i hi).2⟩

theorem wpHead_first {i : Nat} {oi : Oper} {v : Value} (hi : ops[i]? = some oi) (hsel : ∀ (j : Nat) (o : Oper) cs b, ops[j]? = some o → o.op ≠ .select cs b)
    (hQ : ∀ c a w, Q (.panic c) (a.put oi.dst v) w → Q (.panic c) a w) (hs : Region.sinkB .any ops n = true) (hc : Region.chainB .any ops n = true) (hn : n < ops.size) (hin : i < n) :
    ∀ (f : Nat) (listed : Array Bool) (a : Act) (w : World),
      (∀ j oj, ops[j]? = some oj → j ≠ i → listed.getD j true = false → (∀ e ∈ oj.after, Region.binds .any e = true → e.on ≠ i) → oi.apart ops oj = true) →
      i ∈ Region.ready .any ops listed → HeadInv .any ops n listed → YieldsIf P ops S oi v a → S w →
      wpHead P ops Q S n f (listed.setIfInBounds i true) (a.put oi.dst v) w → wpHead P ops Q S n (f + 1) listed a w := by
  intro f
  induction f with
  | zero =>
    intro listed a w _ hr inv hy hS H
    refine ⟨fun h => (by rw [h] at hr; cases hr), fun j hj => ?_⟩
    by_cases hji : j = i
    · subst hji
      exact ⟨hin, hy.wpOp hi hS ⟨hS, H⟩⟩
    · have h1 := ready_mono hj hji
      rw [H.1] at h1
      have : j = n := by simpa using h1
      subst this
      exact absurd hj (tail_waits hs hc hn inv _ i rfl hin (mem_ready.1 hr).1 j (Nat.le_refl _))
  | succ f ih =>
    intro listed a w hfree hr inv hy hS H
    refine ⟨fun h => (by rw [h] at hr; cases hr), fun j hj => ?_⟩
    by_cases hji : j = i
    · subst hji
      exact ⟨hin, hy.wpOp hi hS ⟨hS, H⟩⟩
    · have h0 := H.2 j (ready_mono hj hji)
      refine ⟨h0.1, ?_⟩
      obtain ⟨hjun, oj, hoj, hall⟩ := mem_ready.1 hj
      have hnot : ∀ e ∈ oj.after, Region.binds .any e = true → e.on ≠ i := fun e he hb heq => by
        have h1 := hall e he hb
        have h2 := getD_both (mem_ready.1 hr).1
        rw [heq, h2] at h1
        cases h1
      have h2 := wpOp_putIf hoj (hfree j oj hoj hji hjun hnot) (fun cs b => hsel i oi cs b hi) (fun cs b => hsel j oj cs b hoj) hQ hy h0.2
      refine wpOp_mono (fun a' w' h3 => ⟨h3.2.1, ih (listed.setIfInBounds j true) a' w' (fun k ok hk hki hun hno => ?_) (ready_mono hr (Ne.symm hji)) (inv.set hj h0.1) h3.1 h3.2.1 ?_⟩) h2
      · refine hfree k ok hk hki ?_ hno
        by_cases hjk : j = k
        · subst hjk; exact hjun
        · rw [getD_set_ne true hjk] at hun; exact hun
      · rw [Array.setIfInBounds_comm _ _ hji]
        exact h3.2.2

/-- Number i is taken first. -/
theorem wpHead_take {i : Nat} {oi : Oper} {v : Value} {f : Nat} {listed : Array Bool} {a : Act} {w : World} (hi : ops[i]? = some oi)
    (hs : (Region.noSelect ops && (Region.sinkB .any ops n && (Region.chainB .any ops n && (decide (n < ops.size) && (decide (i < n) && (Region.free .any ops listed i && (Region.ready .any ops listed).contains i)))))) = true)
    (hQ : ∀ c a w, Q (.panic c) (a.put oi.dst v) w → Q (.panic c) a w) (hy : YieldsIf P ops S oi v a) (hS : S w)
    (h : HeadInv .any ops n (listed.setIfInBounds i true) → wpHead P ops Q S n f (listed.setIfInBounds i true) (a.put oi.dst v) w) : HeadInv .any ops n listed → wpHead P ops Q S n (f + 1) listed a w := by
  simp only [Bool.and_eq_true, decide_eq_true_eq] at hs
  obtain ⟨h1, h2, h3, h4, h5, h6, h7⟩ := hs
  have h8 : i ∈ Region.ready .any ops listed := by simpa using h7
  exact fun inv => wpHead_first hi (Region.noSelect_spec h1) hQ h2 h3 h4 h5 f listed a w (Region.free_spec hi h6) h8 inv hy hS (h (inv.set h8 h5))

/-- Number i comes up alone. -/
theorem wpHead_alone {i : Nat} {oi : Oper} {f : Nat} {listed : Array Bool} {a : Act} {w : World} (hi : ops[i]? = some oi)
    (hr : Region.ready .any ops listed = [i]) (hin : decide (i < n) = true) (hw : Region.wanted oi (yielded ops a.tmps) = true)
    (h : ∀ K : Act → World → Prop, (∀ a' w', S w' → (HeadInv .any ops n (listed.setIfInBounds i true) → wpHead P ops Q S n f (listed.setIfInBounds i true) a' w') → K a' w') → oi.wp P a w K Q) :
    HeadInv .any ops n listed → wpHead P ops Q S n (f + 1) listed a w := by
  intro inv
  have h5 : i < n := of_decide_eq_true hin
  have h8 : i ∈ Region.ready .any ops listed := by rw [hr]; simp
  refine ⟨fun h => (by rw [hr] at h; cases h), fun j hj => ?_⟩
  rw [hr] at hj
  have : j = i := by simpa using hj
  subst this
  refine ⟨h5, ?_⟩
  unfold wpOp
  simp only [hi, hw, if_true]
  exact Or.inl (h _ (fun a' w' hS hh => ⟨hS, hh (inv.set h8 h5)⟩))

/-- The last one. -/
theorem wpHead_last {on : Oper} {listed : Array Bool} {a : Act} {w : World} (hi : ops[n]? = some on)
    (hr : Region.ready .any ops listed = [n]) (hr2 : Region.ready .any ops (listed.setIfInBounds n true) = []) (hw : Region.wanted on (yielded ops a.tmps) = true)
    (h : on.wp P a w (fun a' w' => Q .normal a' w') Q) : HeadInv .any ops n listed → wpHead P ops Q S n 0 listed a w := by
  intro _
  refine ⟨hr, hr2, ?_⟩
  unfold wpOp
  simp only [hi, hw, if_true]
  exact Or.inl h

/-- The region. -/
theorem wp_region_head {id : Nat} {a : Act} {w : World} (S : World → Prop) (n : Nat) (hm : P.follows .mixedOrders = true) (hn : ops.size = n + 1) (hS : S w.drew)
    (h : S w.drew → HeadInv .any ops n (Array.replicate ops.size false) → wpHead P ops Q S n n (Array.replicate ops.size false) a w.drew) : (Code.region id ops true).wp P Q a w := by
  refine wp_region_any hm ?_
  have inv0 : HeadInv .any ops n (Array.replicate ops.size false) :=
    ⟨by simp, fun j oj _ hl => (by rw [getD_replicate_false] at hl; cases hl), fun t _ ht => getD_in (by simpa using ht) (getD_replicate_false _ _)⟩
  have := wpAny_of_wpHead (P := P) (Q := Q) n _ a _ (h hS inv0)
  rw [hn] at this ⊢
  exact this
end

/-- As w is, but for the count of draws. -/
def Like (w' w : World) : Prop := w'.heap = w.heap ∧ w'.os = w.os ∧ w'.output = w.output ∧ w'.tape = w.tape

end Go.Proofs.YtklenjmfalljgaaDoor
