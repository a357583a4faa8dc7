/- The texts Hga Hgb Hgc Hge Tla Kqa Hgt Hgx. -/
import Derived.Test.YtklenjmfalljgaaDoorMA
import Derived.Control

/- The owner's hands, whole: what block is whose, what they hold. -/
namespace Go.Proofs.YtklenjmfalljgaaDoor
open Go.RowKit

/-- Whose a block is: another's, the hands' own, a row of lists (of a kind), a row of marks, a list that came out, the one that is written now, a row of what was lent, a list that was lent. -/
structure Role where
  k : Nat
  c : Nat
abbrev Role.other : Role := ⟨0, 0⟩
abbrev Role.hands : Role := ⟨1, 0⟩
abbrev Role.lst (c : Nat) : Role := ⟨2, c⟩
abbrev Role.mrk (c : Nat) : Role := ⟨3, c⟩
abbrev Role.kept : Role := ⟨4, 0⟩
abbrev Role.cur : Role := ⟨5, 0⟩
abbrev Role.lrow (c : Nat) : Role := ⟨6, c⟩
abbrev Role.lent : Role := ⟨7, 0⟩

def Role.lends (r : Role) : Bool := r.k == 6 || r.k == 7

def hcl (f : Nat → Value) : Array Value := #[f 0, f 1, f 2, f 3, f 4, f 5, f 6, f 7, f 8, f 9, f 10, f 11, f 12, f 13, f 14, f 15]
def setF (f : Nat → Value) (o : Nat) (v : Value) : Nat → Value := fun k => if k = o then v else f k
theorem setF_at (f : Nat → Value) (o : Nat) (v : Value) : setF f o v o = v := by simp [setF]
theorem setF_ne (f : Nat → Value) {o k : Nat} (v : Value) (h : k ≠ o) : setF f o v k = f k := by simp [setF, h]
theorem lt16 {o : Nat} (h : o < 16) : o = 0 ∨ o = 1 ∨ o = 2 ∨ o = 3 ∨ o = 4 ∨ o = 5 ∨ o = 6 ∨ o = 7 ∨ o = 8 ∨ o = 9 ∨ o = 10 ∨ o = 11 ∨ o = 12 ∨ o = 13 ∨ o = 14 ∨ o = 15 := by omega
theorem hcl_get (f : Nat → Value) {o : Nat} (h : o < 16) : (hcl f)[o]? = some (f o) := by
  rcases lt16 h with rfl | rfl | rfl | rfl | rfl | rfl | rfl | rfl | rfl | rfl | rfl | rfl | rfl | rfl | rfl | rfl <;> rfl
theorem hcl_set (f : Nat → Value) {o : Nat} (v : Value) (h : o < 16) : (hcl f).setIfInBounds o v = hcl (setF f o v) := by
  rcases lt16 h with rfl | rfl | rfl | rfl | rfl | rfl | rfl | rfl | rfl | rfl | rfl | rfl | rfl | rfl | rfl | rfl <;> rfl

def HB (w : World) (b : Nat) (f : Nat → Value) : Prop := w.heap[b]? = some (.cells (hcl f) 62 (0, 0))
theorem HB.cell {w : World} {b : Nat} {f : Nat → Value} (h : HB w b f) {o : Nat} (ho : o < 16) : w.cell? ⟨b, o, none⟩ = some (f o) := by
  unfold HB at h; simp only [World.cell?, h]; exact hcl_get f ho
theorem HB.frozen {w : World} {b : Nat} {f : Nat → Value} (h : HB w b f) (o : Nat) : w.frozen? ⟨b, o, none⟩ = false := by
  unfold HB at h; simp [World.frozen?, h]
theorem HB.lt {w : World} {b : Nat} {f : Nat → Value} (h : HB w b f) : b < w.heap.size := (Array.getElem?_eq_some_iff.1 h).1
theorem HB.set {w : World} {b : Nat} {f : Nat → Value} (h : HB w b f) {o : Nat} (ho : o < 16) (v : Value) : HB (w.setCell ⟨b, o, none⟩ v) b (setF f o v) := by
  unfold HB at *; rw [heap_setCell_same w b o _ _ v h, hcl_set f v ho]
theorem HB.same {w w' : World} {b : Nat} {f : Nat → Value} (h : HB w b f) (e : w'.heap[b]? = w.heap[b]?) : HB w' b f := by unfold HB at *; rw [e]; exact h

/-- The kinds of lists that came out: numbers, steps, registers, instructions, threads. -/
def tlC : Nat → TypeId
  | 0 => 22
  | 1 => 33
  | 2 => 35
  | 3 => 29
  | _ => 23
def teC : Nat → TypeId
  | 0 => 3
  | 1 => 48
  | 2 => 34
  | 3 => 28
  | _ => 29
def elC (m : Int) : Nat → List Value
  | 0 => [.int .i64 m]
  | 1 => [.int .i64 m, .int .i64 0]
  | 2 => [.int .i64 m, .int .i64 1, .int .i64 2, .int .i64 3]
  | 3 => [.int .i64 m, .int .i64 0, .int .i64 0, .int .i64 0]
  | _ => []

/-- The elements of a list that came out read as their owner wrote them. -/
def KeptIn (w : World) (who : Nat → Role) (g len : Nat) (m : Int) (c : Nat) : Prop :=
  if c = 4 then ∀ k, k < len → ∃ g' cap', w.cell? ⟨g, k, none⟩ = some (.slice (some ⟨g', 0, none⟩) 1 cap') ∧ w.heap[g']? = some (.cells (elC m 3).toArray 28 (0, 0)) ∧ who g' = .kept
  else ∀ k, k < len → ∀ j u, (elC m c)[j]? = some u → w.cell? ⟨g, k * (elC m c).length + j, none⟩ = some u
theorem keptIn_four {w : World} {who : Nat → Role} {g len : Nat} {m : Int} : KeptIn w who g len m 4 ↔ ∀ k, k < len → ∃ g' cap', w.cell? ⟨g, k, none⟩ = some (.slice (some ⟨g', 0, none⟩) 1 cap') ∧ w.heap[g']? = some (.cells (elC m 3).toArray 28 (0, 0)) ∧ who g' = .kept := by
  unfold KeptIn; rw [if_pos rfl]
theorem keptIn_plain {w : World} {who : Nat → Role} {g len : Nat} {m : Int} {c : Nat} (h : c ≠ 4) : KeptIn w who g len m c ↔ ∀ k, k < len → ∀ j u, (elC m c)[j]? = some u → w.cell? ⟨g, k * (elC m c).length + j, none⟩ = some u := by
  unfold KeptIn; rw [if_neg h]
def KeptC (c : Nat) (w : World) (who : Nat → Role) (x : Value × Int) : Prop :=
  x.1 = .slice none 0 0 ∨ ∃ g len cap, x.1 = .slice (some ⟨g, 0, none⟩) len cap ∧ len ≤ 1000 ∧ KeptIn w who g len x.2 c

/-- The hands: at b; n marks; K the lists that came out, each with its mark; M the marks. -/
structure Hs (B : Nat) (w : World) (b : Nat) (who : Nat → Role) (n : Int) (f : Nat → Value) (K : Nat → List (Value × Int)) (M : Nat → List Int) : Prop where
  blk : HB w b f
  cnt : f 5 = .int .i64 n
  lst : ∀ c, c < 5 → w.ownsRow B (tlC c) 1 (f (6 + 2 * c)) (K c).length ((K c).map (·.1))
  mrk : ∀ c, c < 5 → w.ownsRow B 3 1 (f (7 + 2 * c)) (M c).length (ints (M c))
  wl : ∀ c, c < 5 → ∀ g, (f (6 + 2 * c)).ownBlock = some g → who g = .lst c
  wm : ∀ c, c < 5 → ∀ g, (f (7 + 2 * c)).ownBlock = some g → who g = .mrk c
  wb : who b = .hands
  kept : ∀ c, c < 5 → ∀ x ∈ K c, KeptC c w who x ∧ ∀ g, x.1.ownBlock = some g → who g = .kept ∨ who g = .cur
  dom : ∀ g, who g ≠ .other → B ≤ g ∧ g < w.heap.size

theorem keptIn_same {w w' : World} {who : Nat → Role} {g len : Nat} {m : Int} {c : Nat} (h : KeptIn w who g len m c) (hg : w'.heap[g]? = w.heap[g]?) (hk : ∀ g, who g = .kept → w'.heap[g]? = w.heap[g]?) : KeptIn w' who g len m c := by
  by_cases hc : c = 4
  · subst hc
    rw [keptIn_four] at *
    intro k hkl
    obtain ⟨g', cap', h1, h2, h3⟩ := h k hkl
    exact ⟨g', cap', by rw [World.cell?_of_block hg]; exact h1, by rw [hk g' h3]; exact h2, h3⟩
  · rw [keptIn_plain hc] at *
    intro k hkl j u hu
    rw [World.cell?_of_block hg]
    exact h k hkl j u hu
theorem KeptC.same {w w' : World} {who : Nat → Role} {c : Nat} {x : Value × Int} (h : KeptC c w who x) (hx : ∀ g, x.1.ownBlock = some g → who g = .kept ∨ who g = .cur) (hk : ∀ g, who g = .kept ∨ who g = .cur → w'.heap[g]? = w.heap[g]?) : KeptC c w' who x := by
  rcases h with h | ⟨g, len, cap, e, hl, hc⟩
  · exact Or.inl h
  · exact Or.inr ⟨g, len, cap, e, hl, keptIn_same hc (hk g (hx g (by rw [e]; rfl))) (fun g e => hk g (Or.inl e))⟩
theorem keptIn_who {w : World} {who who' : Nat → Role} {g len : Nat} {m : Int} {c : Nat} (h : KeptIn w who g len m c) (hk : ∀ g, who g = .kept → who' g = .kept) : KeptIn w who' g len m c := by
  by_cases hc : c = 4
  · subst hc
    rw [keptIn_four] at *
    intro k hkl
    obtain ⟨g', cap', h1, h2, h3⟩ := h k hkl
    exact ⟨g', cap', h1, h2, hk g' h3⟩
  · rw [keptIn_plain hc] at *
    exact h
theorem KeptC.who {w : World} {who who' : Nat → Role} {c : Nat} {x : Value × Int} (h : KeptC c w who x) (hk : ∀ g, who g = .kept → who' g = .kept) : KeptC c w who' x := by
  rcases h with h | ⟨g, len, cap, e, hl, hc⟩
  · exact Or.inl h
  · exact Or.inr ⟨g, len, cap, e, hl, keptIn_who hc hk⟩

section
variable {B : Nat} {w w' : World} {b : Nat} {who who' : Nat → Role} {n : Int} {f : Nat → Value} {K : Nat → List (Value × Int)} {M : Nat → List Int}

/-- What changes other blocks leaves the hands (and what they lent to themselves). -/
theorem Hs.same (h : Hs B w b who n f K M) (hs : w.heap.size ≤ w'.heap.size) (hb : ∀ g, g < w.heap.size → who g ≠ .other → (who g).lends = false → w'.heap[g]? = w.heap[g]?) : Hs B w' b who n f K M := by
  have hr : ∀ g, who g ≠ .other → (who g).lends = false → w'.heap[g]? = w.heap[g]? := fun g h1 h2 => hb g (h.dom g h1).2 h1 h2
  have hk : ∀ g, who g = .kept ∨ who g = .cur → w'.heap[g]? = w.heap[g]? := fun g e => by
    rcases e with e | e <;> exact hr g (by rw [e]; simp) (by rw [e]; rfl)
  refine ⟨h.blk.same (hr b (by rw [h.wb]; simp) (by rw [h.wb]; rfl)), h.cnt, fun c hc => owns_same (h.lst c hc) (fun g e => ?_), fun c hc => owns_same (h.mrk c hc) (fun g e => ?_), h.wl, h.wm, h.wb, fun c hc x hx => ?_, fun g e => ?_⟩
  · have := h.wl c hc g e; exact hr g (by rw [this]; simp) (by rw [this]; rfl)
  · have := h.wm c hc g e; exact hr g (by rw [this]; simp) (by rw [this]; rfl)
  · obtain ⟨k1, k2⟩ := h.kept c hc x hx
    exact ⟨k1.same k2 hk, k2⟩
  · have := h.dom g e; exact ⟨this.1, by omega⟩
theorem Hs.grown (h : Hs B w b who n f K M) (hg : w.grownBy w' none) : Hs B w' b who n f K M := h.same hg.size (fun g hg1 _ _ => hg.block g hg1 (by simp))
theorem Hs.like (h : Hs B w b who n f K M) (hl : Like w' w) : Hs B w' b who n f K M := h.grown (grown_of_like hl)

/-- One more block is somebody's. -/
theorem Hs.more (h : Hs B w b who n f K M) (hw : ∀ g, who g ≠ .other → who' g = who g) (hd : ∀ g, who' g ≠ .other → B ≤ g ∧ g < w.heap.size) : Hs B w b who' n f K M := by
  have hk : ∀ g, who g = .kept ∨ who g = .cur → who' g = .kept ∨ who' g = .cur := fun g e => by
    have : who' g = who g := hw g (by rcases e with e | e <;> rw [e] <;> simp)
    rw [this]; exact e
  refine ⟨h.blk, h.cnt, h.lst, h.mrk, fun c hc g e => ?_, fun c hc g e => ?_, ?_, fun c hc x hx => ?_, hd⟩
  · have := h.wl c hc g e; rw [hw g (by rw [this]; simp), this]
  · have := h.wm c hc g e; rw [hw g (by rw [this]; simp), this]
  · rw [hw b (by rw [h.wb]; simp), h.wb]
  · obtain ⟨k1, k2⟩ := h.kept c hc x hx
    exact ⟨k1.who (fun g e => by rw [hw g (by rw [e]; simp)]; exact e), fun g e => hk g (k2 g e)⟩

/-- A field of what is lent is set. -/
theorem Hs.setLent (h : Hs B w b who n f K M) {o : Nat} (ho : o < 5) (v : Value) : Hs B (w.setCell ⟨b, o, none⟩ v) b who n (setF f o v) K M := by
  have hr : ∀ g, who g ≠ .hands → (w.setCell ⟨b, o, none⟩ v).heap[g]? = w.heap[g]? := fun g e => Below.heap_setCell _ _ _ _ (by intro e2; simp only at e2; rw [e2] at e; exact e h.wb)
  have hk : ∀ g, who g = .kept ∨ who g = .cur → (w.setCell ⟨b, o, none⟩ v).heap[g]? = w.heap[g]? := fun g e => hr g (by rcases e with e | e <;> rw [e] <;> simp)
  refine ⟨h.blk.set (by omega) v, by rw [setF_ne _ _ (by omega)]; exact h.cnt, fun c hc => ?_, fun c hc => ?_, fun c hc => ?_, fun c hc => ?_, h.wb, fun c hc x hx => ?_, fun g e => ?_⟩
  · rw [setF_ne _ _ (by omega)]; exact owns_same (h.lst c hc) (fun g e => hr g (by rw [h.wl c hc g e]; simp))
  · rw [setF_ne _ _ (by omega)]; exact owns_same (h.mrk c hc) (fun g e => hr g (by rw [h.wm c hc g e]; simp))
  · rw [setF_ne _ _ (by omega)]; exact h.wl c hc
  · rw [setF_ne _ _ (by omega)]; exact h.wm c hc
  · obtain ⟨k1, k2⟩ := h.kept c hc x hx
    exact ⟨k1.same k2 hk, k2⟩
  · have := h.dom g e; exact ⟨this.1, by simpa using this.2⟩

/-- A mark more. -/
theorem Hs.setCnt (h : Hs B w b who n f K M) (m : Int) : Hs B (w.setCell ⟨b, 5, none⟩ (.int .i64 m)) b who m (setF f 5 (.int .i64 m)) K M := by
  have hr : ∀ g, who g ≠ .hands → (w.setCell ⟨b, 5, none⟩ (.int .i64 m)).heap[g]? = w.heap[g]? := fun g e => Below.heap_setCell _ _ _ _ (by intro e2; simp only at e2; rw [e2] at e; exact e h.wb)
  have hk : ∀ g, who g = .kept ∨ who g = .cur → (w.setCell ⟨b, 5, none⟩ (.int .i64 m)).heap[g]? = w.heap[g]? := fun g e => hr g (by rcases e with e | e <;> rw [e] <;> simp)
  refine ⟨h.blk.set (by omega) _, setF_at _ _ _, fun c hc => ?_, fun c hc => ?_, fun c hc => ?_, fun c hc => ?_, h.wb, fun c hc x hx => ?_, fun g e => ?_⟩
  · rw [setF_ne _ _ (by omega)]; exact owns_same (h.lst c hc) (fun g e => hr g (by rw [h.wl c hc g e]; simp))
  · rw [setF_ne _ _ (by omega)]; exact owns_same (h.mrk c hc) (fun g e => hr g (by rw [h.wm c hc g e]; simp))
  · rw [setF_ne _ _ (by omega)]; exact h.wl c hc
  · rw [setF_ne _ _ (by omega)]; exact h.wm c hc
  · obtain ⟨k1, k2⟩ := h.kept c hc x hx
    exact ⟨k1.same k2 hk, k2⟩
  · have := h.dom g e; exact ⟨this.1, by simpa using this.2⟩
end

end Go.Proofs.YtklenjmfalljgaaDoor

/- A list that came out is kept: what each step does to the hands. -/
namespace Go.Proofs.YtklenjmfalljgaaDoor
open Go.RowKit

def setW (who : Nat → Role) (g : Nat) (r : Role) : Nat → Role := fun k => if k = g then r else who k
theorem setW_at (who : Nat → Role) (g : Nat) (r : Role) : setW who g r g = r := by simp [setW]
theorem setW_ne (who : Nat → Role) {g k : Nat} (r : Role) (h : k ≠ g) : setW who g r k = who k := by simp [setW, h]
def setK (K : Nat → List (Value × Int)) (c : Nat) (l : List (Value × Int)) : Nat → List (Value × Int) := fun k => if k = c then l else K k
theorem setK_at (K : Nat → List (Value × Int)) (c : Nat) (l : List (Value × Int)) : setK K c l c = l := by simp [setK]
theorem setK_ne (K : Nat → List (Value × Int)) {c k : Nat} (l : List (Value × Int)) (h : k ≠ c) : setK K c l k = K k := by simp [setK, h]
def setM (M : Nat → List Int) (c : Nat) (l : List Int) : Nat → List Int := fun k => if k = c then l else M k
theorem setM_at (M : Nat → List Int) (c : Nat) (l : List Int) : setM M c l c = l := by simp [setM]
theorem setM_ne (M : Nat → List Int) {c k : Nat} (l : List Int) (h : k ≠ c) : setM M c l k = M k := by simp [setM, h]
def marksOf (K : Nat → List (Value × Int)) : Nat → List Int := fun c => (K c).map (·.2)

/-- What is others' stays so, and as it was, but for what ex says. -/
structure Fr (w w' : World) (who who' : Nat → Role) (ex : Nat → Prop) : Prop where
  os : w'.os = w.os
  tape : w'.tape = w.tape
  output : w'.output = w.output
  size : w.heap.size ≤ w'.heap.size
  oth : ∀ g, g < w.heap.size → who g = .other → ¬ ex g → w'.heap[g]? = w.heap[g]? ∧ who' g = .other
theorem Fr.refl (w : World) (who : Nat → Role) (ex : Nat → Prop) : Fr w w who who ex := ⟨rfl, rfl, rfl, Nat.le_refl _, fun _ _ h _ => ⟨rfl, h⟩⟩
theorem Fr.trans {w w1 w2 : World} {who who1 who2 : Nat → Role} {ex : Nat → Prop} (h : Fr w w1 who who1 ex) (h' : Fr w1 w2 who1 who2 ex) : Fr w w2 who who2 ex :=
  ⟨h'.os.trans h.os, h'.tape.trans h.tape, h'.output.trans h.output, Nat.le_trans h.size h'.size, fun g h1 h2 h3 => by
    obtain ⟨a, b⟩ := h.oth g h1 h2 h3
    obtain ⟨c, d⟩ := h'.oth g (Nat.lt_of_lt_of_le h1 h.size) b h3
    exact ⟨c.trans a, d⟩⟩
theorem Fr.mono {w w' : World} {who who' : Nat → Role} {ex ex' : Nat → Prop} (h : Fr w w' who who' ex) (he : ∀ g, ex g → ex' g) : Fr w w' who who' ex' :=
  ⟨h.os, h.tape, h.output, h.size, fun g h1 h2 h3 => h.oth g h1 h2 (fun e => h3 (he g e))⟩
theorem Fr.grown {w w' : World} {who : Nat → Role} {ex : Nat → Prop} (h : w.grownBy w' none) : Fr w w' who who ex := ⟨h.os, h.tape, h.output, h.size, fun g h1 h2 _ => ⟨h.block g h1 (by simp), h2⟩⟩
theorem Fr.like {w w' : World} {who : Nat → Role} {ex : Nat → Prop} (h : Like w' w) : Fr w w' who who ex := Fr.grown (grown_of_like h)
/-- A cell of a block that is somebody's, or that ex says, is set. -/
theorem Fr.set {w : World} {who : Nat → Role} {ex : Nat → Prop} {g o : Nat} {v : Value} (h : who g ≠ .other ∨ ex g) : Fr w (w.setCell ⟨g, o, none⟩ v) who who ex :=
  ⟨rfl, rfl, rfl, by simp, fun k _ h2 h3 => ⟨Below.heap_setCell _ _ _ _ (fun e => by simp only at e; subst e; rcases h with h | h; exact h h2; exact h3 h), h2⟩⟩
theorem Fr.setW {w w' : World} {who who' : Nat → Role} {ex : Nat → Prop} {g : Nat} {r : Role} (h : Fr w w' who who' ex) (hg : w.heap.size ≤ g ∨ who' g ≠ .other ∨ ex g) : Fr w w' who (setW who' g r) ex :=
  ⟨h.os, h.tape, h.output, h.size, fun k h1 h2 h3 => by
    obtain ⟨a, b⟩ := h.oth k h1 h2 h3
    refine ⟨a, ?_⟩
    rw [setW_ne]
    · exact b
    · intro e; subst e
      rcases hg with hg | hg | hg
      · omega
      · exact hg b
      · exact h3 hg⟩
/-- The frame of an append behind a new block, whose row is somebody's. -/
theorem Fr.key {w w6 : World} {who : Nat → Role} {ex : Nat → Prop} {o : Obj} {v : Value} {g6 : Nat} {r : Role} (hv : ∀ g, v.ownBlock = some g → who g ≠ .other) (key : (v.ownBlock = some g6 ∧ (w.alloc o).grownBy w6 (some g6)) ∨ (g6 = w.heap.size + 1 ∧ (w.alloc o).grownBy w6 none)) :
    Fr w w6 who (Go.Proofs.YtklenjmfalljgaaDoor.setW who g6 r) ex := by
  rcases key with ⟨e, hg⟩ | ⟨e, hg⟩
  · have hw : w.grownBy w6 (some g6) := grown_trans (grown_alloc (grown_refl _ _)) hg
    refine Fr.setW ⟨hw.os, hw.tape, hw.output, hw.size, fun k h1 h2 _ => ⟨hw.block k h1 (fun e2 => ?_), h2⟩⟩ (Or.inr (Or.inl (hv g6 e)))
    simp only [Option.some.injEq] at e2; subst e2; exact hv _ e h2
  · exact Fr.setW (Fr.grown (grown_trans (grown_alloc (grown_refl _ _)) hg)) (Or.inl (by omega))
theorem Fr.base {W w w' : World} {who who' : Nat → Role} {ex : Nat → Prop} {B : Nat} (h : Fr w w' who who' ex) (hW : W.grownBy w none) (hB : W.heap.size ≤ B) (hd : ∀ g, who g ≠ .other → B ≤ g) (he : ∀ g, ex g → W.heap.size ≤ g) : W.grownBy w' none :=
  ⟨h.os.trans hW.os, h.tape.trans hW.tape, h.output.trans hW.output, Nat.le_trans hW.size h.size, fun k hk _ => by
    have ho : who k = .other := by
      by_cases e : who k = .other
      · exact e
      · exact absurd (hd k e) (by omega)
    rw [(h.oth k (Nat.lt_of_lt_of_le hk hW.size) ho (fun e => by have := he k e; omega)).1]
    exact hW.block k hk (by simp)⟩

/-- The list that is written now, of kind c (below 4): all of its elements are the mark's. -/
structure Cur (B : Nat) (w : World) (who : Nat → Role) (m : Int) (c : Nat) (lv : Value) (len : Nat) (K : Nat → List (Value × Int)) : Prop where
  row : w.ownsRow B (teC c) (elC m c).length lv len (List.replicate len (elC m c)).flatten
  wc : ∀ g, lv.ownBlock = some g → who g = .cur
  ent : ∀ x ∈ K c, ∀ g, x.1.ownBlock = some g → who g = .cur → x.2 = m ∧ ∃ l c', x.1 = .slice (some ⟨g, 0, none⟩) l c' ∧ (lv.ownBlock = some g → l ≤ len)
  oth : ∀ c', c' < 5 → c' ≠ c → ∀ x ∈ K c', ∀ g, x.1.ownBlock = some g → who g = .kept
  ln : len ≤ 1000

section
variable {B : Nat} {w w6 : World} {b : Nat} {who : Nat → Role} {n m : Int} {f : Nat → Value} {K : Nat → List (Value × Int)} {M : Nat → List Int} {c : Nat} {lv : Value} {len : Nat}

theorem flat_rep_len (e : List Value) (k : Nat) : ((List.replicate k e).flatten).length = k * e.length := by
  induction k with
  | zero => simp
  | succ k ih => rw [List.replicate_succ, List.flatten_cons, List.length_append, ih, Nat.succ_mul]; omega
theorem flat_rep_get (e : List Value) (n k j : Nat) (u : Value) (hk : k < n) (hj : e[j]? = some u) : ((List.replicate n e).flatten)[k * e.length + j]? = some u := by
  induction n generalizing k with
  | zero => omega
  | succ n ih =>
    have hjl := (List.getElem?_eq_some_iff.1 hj).1
    rw [List.replicate_succ, List.flatten_cons]
    cases k with
    | zero => rw [Nat.zero_mul, Nat.zero_add, List.getElem?_append_left hjl]; exact hj
    | succ k =>
      rw [List.getElem?_append_right (by rw [Nat.succ_mul]; omega), Nat.succ_mul]
      have : k * e.length + e.length + j - e.length = k * e.length + j := by omega
      rw [this]
      exact ih k (by omega)
theorem flat_rep_snoc (e : List Value) (n : Nat) : (List.replicate n e).flatten ++ e = (List.replicate (n + 1) e).flatten := by
  rw [List.replicate_succ', List.flatten_append]; simp

/-- The list so far, as one that came out. -/
theorem Cur.keptNow (cu : Cur B w who m c lv len K) (hc : c < 4) : KeptC c w who (lv, m) := by
  rcases cu.row.2 with ⟨e, _⟩ | ⟨g, cap, cur, hv, hbb, hh, hrest⟩
  · exact Or.inl e
  · refine Or.inr ⟨g, len, cap, hv, cu.ln, ?_⟩
    have hr := cu.row
    rw [hv] at hr
    have hkey : ∀ k, k < len → ∀ j u, (elC m c)[j]? = some u → w.cell? ⟨g, k * (elC m c).length + j, none⟩ = some u := fun k hk j u hu => by
      have hjl := (List.getElem?_eq_some_iff.1 hu).1
      have h2 : (k + 1) * (elC m c).length ≤ len * (elC m c).length := Nat.mul_le_mul_right _ hk
      rw [Nat.succ_mul] at h2
      rw [hr.cellAt _ (by omega)]
      exact flat_rep_get _ _ _ _ _ hk hu
    exact (keptIn_plain (by omega)).2 hkey

/-- An append to a row of the hands' own: what stays. -/
theorem key_stays {v : Value} {o : Obj} {g6 : Nat} (key : (v.ownBlock = some g6 ∧ (w.alloc o).grownBy w6 (some g6)) ∨ (g6 = w.heap.size + 1 ∧ (w.alloc o).grownBy w6 none)) (hd : ∀ g, who g ≠ .other → g < w.heap.size) {r : Role} (hr : r ≠ .other) (hv : ∀ g, v.ownBlock = some g → who g = r) :
    w.heap.size ≤ w6.heap.size ∧ (∀ g, who g ≠ .other → who g ≠ r → w6.heap[g]? = w.heap[g]? ∧ g6 ≠ g) ∧ (∀ g, who g = r → g6 ≠ g → w6.heap[g]? = w.heap[g]?) ∧ (g6 < w.heap.size → who g6 = r) := by
  rcases key with ⟨e, hg⟩ | ⟨e, hg⟩
  · have hw : w.grownBy w6 (some g6) := grown_trans (grown_alloc (grown_refl _ _)) hg
    have h6 := hv g6 e
    refine ⟨hw.size, fun g h1 h2 => ?_, fun g h1 h2 => hw.block g (hd g (by rw [h1]; exact hr)) (by simpa using fun e2 => h2 e2.symm), fun _ => h6⟩
    have hne : g6 ≠ g := fun e2 => h2 (by rw [← e2]; exact h6)
    exact ⟨hw.block g (hd g h1) (by simpa using fun e2 => hne e2.symm), hne⟩
  · have hw : w.grownBy w6 none := grown_trans (grown_alloc (grown_refl _ _)) hg
    refine ⟨hw.size, fun g h1 h2 => ⟨hw.block g (hd g h1) (by simp), by have := hd g h1; omega⟩, fun g h1 h2 => hw.block g (hd g (by rw [h1]; exact hr)) (by simp), fun h => by omega⟩
end

end Go.Proofs.YtklenjmfalljgaaDoor

/- A list that came out is kept: the list is told, the mark is told, the list grows; the beginning and the end. -/
namespace Go.Proofs.YtklenjmfalljgaaDoor
open Go.RowKit

section
variable {B : Nat} {w w6 : World} {b : Nat} {who : Nat → Role} {n m : Int} {f : Nat → Value} {K : Nat → List (Value × Int)} {M : Nat → List Int} {c : Nat} {lv : Value} {len : Nat}

/-- h.lists = append(h.lists, l). -/
theorem Hs.push (h : Hs B w b who n f K M) (cu : Cur B w who m c lv len K) (hc : c < 4) {o : Obj} {g6 c6 : Nat}
    (hown : w6.ownsRow B (tlC c) 1 (.slice (some ⟨g6, 0, none⟩) ((K c).length + 1) c6) ((K c).length + 1) ((K c).map (·.1) ++ [lv]))
    (key : ((f (6 + 2 * c)).ownBlock = some g6 ∧ (w.alloc o).grownBy w6 (some g6)) ∨ (g6 = w.heap.size + 1 ∧ (w.alloc o).grownBy w6 none)) :
    Hs B (w6.setCell ⟨b, 6 + 2 * c, none⟩ (.slice (some ⟨g6, 0, none⟩) ((K c).length + 1) c6)) b (setW who g6 (.lst c)) n (setF f (6 + 2 * c) (.slice (some ⟨g6, 0, none⟩) ((K c).length + 1) c6)) (setK K c (K c ++ [(lv, m)])) M ∧
    Cur B (w6.setCell ⟨b, 6 + 2 * c, none⟩ (.slice (some ⟨g6, 0, none⟩) ((K c).length + 1) c6)) (setW who g6 (.lst c)) m c lv len (setK K c (K c ++ [(lv, m)])) := by
  have hc5 : c < 5 := by omega
  obtain ⟨hsz, hst, hsr, h6r⟩ := key_stays key (fun g e => (h.dom g e).2) (r := .lst c) (by simp) (h.wl c hc5)
  have hb6 : g6 ≠ b := (hst b (by rw [h.wb]; simp) (by rw [h.wb]; simp)).2
  have hblk : HB w6 b f := h.blk.same (hst b (by rw [h.wb]; simp) (by rw [h.wb]; simp)).1
  generalize hV : Value.slice (some ⟨g6, 0, none⟩) ((K c).length + 1) c6 = V at *
  have hVo : V.ownBlock = some g6 := by rw [← hV]; rfl
  have hnew : ∀ g, who g ≠ .other → who g ≠ .lst c → g ≠ b → (w6.setCell ⟨b, 6 + 2 * c, none⟩ V).heap[g]? = w.heap[g]? := fun g h1 h2 h3 => by
    rw [Below.heap_setCell _ _ _ _ (by simpa using h3)]; exact (hst g h1 h2).1
  have hW : ∀ g, who g ≠ .other → who g ≠ .lst c → setW who g6 (.lst c) g = who g := fun g h1 h2 => setW_ne _ _ (fun e => (hst g h1 h2).2 e.symm)
  have hkc : ∀ g, who g = .kept ∨ who g = .cur → (w6.setCell ⟨b, 6 + 2 * c, none⟩ V).heap[g]? = w.heap[g]? := fun g e => hnew g (by rcases e with e | e <;> rw [e] <;> simp) (by rcases e with e | e <;> rw [e] <;> simp) (fun e2 => by subst e2; rw [h.wb] at e; rcases e with e | e <;> cases e)
  have hWk : ∀ g, who g = .kept → setW who g6 (.lst c) g = .kept := fun g e => by rw [hW g (by rw [e]; simp) (by rw [e]; simp)]; exact e
  have hWc : ∀ g, who g = .cur → setW who g6 (.lst c) g = .cur := fun g e => by rw [hW g (by rw [e]; simp) (by rw [e]; simp)]; exact e
  have hWkc : ∀ g, who g = .kept ∨ who g = .cur → setW who g6 (.lst c) g = .kept ∨ setW who g6 (.lst c) g = .cur := fun g e => e.imp (hWk g) (hWc g)
  have hcurback : ∀ g, setW who g6 (.lst c) g = .cur → who g = .cur := fun g e => by
    by_cases e2 : g = g6
    · subst e2; rw [setW_at] at e; cases e
    · rwa [setW_ne _ _ e2] at e
  have hold : ∀ c' x, c' < 5 → x ∈ K c' → KeptC c' (w6.setCell ⟨b, 6 + 2 * c, none⟩ V) (setW who g6 (.lst c)) x ∧ ∀ g, x.1.ownBlock = some g → setW who g6 (.lst c) g = .kept ∨ setW who g6 (.lst c) g = .cur := fun c' x hc' hx => by
    obtain ⟨k1, k2⟩ := h.kept c' hc' x hx
    exact ⟨(k1.same k2 hkc).who hWk, fun g e => hWkc g (k2 g e)⟩
  have hrow : (w6.setCell ⟨b, 6 + 2 * c, none⟩ V).ownsRow B (teC c) (elC m c).length lv len (List.replicate len (elC m c)).flatten := owns_same cu.row (fun g e => hkc g (Or.inr (cu.wc g e)))
  have hcu : Cur B (w6.setCell ⟨b, 6 + 2 * c, none⟩ V) (setW who g6 (.lst c)) m c lv len (setK K c (K c ++ [(lv, m)])) := by
    refine ⟨hrow, fun g e => hWc g (cu.wc g e), fun x hx g e e2 => ?_, fun c' hc' hne x hx g e => ?_, cu.ln⟩
    · rw [setK_at] at hx
      rcases List.mem_append.1 hx with hx | hx
      · exact cu.ent x hx g e (hcurback g e2)
      · simp at hx
        subst hx
        refine ⟨rfl, ?_⟩
        rcases cu.row.2 with ⟨e3, _⟩ | ⟨g', cap, cur, hv, _⟩
        · simp only at e; rw [e3] at e; cases e
        · simp only at e
          rw [hv] at e
          simp only [Value.ownBlock, Option.some.injEq] at e
          exact ⟨len, cap, by rw [hv, e], fun _ => Nat.le_refl _⟩
    · rw [setK_ne _ _ hne] at hx
      exact hWk g (cu.oth c' hc' hne x hx g e)
  refine ⟨⟨hblk.set (by omega) V, by rw [setF_ne _ _ (by omega)]; exact h.cnt, fun c' hc' => ?_, fun c' hc' => ?_, fun c' hc' g e => ?_, fun c' hc' g e => ?_, ?_, fun c' hc' x hx => ?_, fun g e => ?_⟩, hcu⟩
  · by_cases e : c' = c
    · subst e
      rw [setF_at, setK_at]
      have := ownsRow_setCell_other (a := ⟨b, 6 + 2 * c', none⟩) hown (show V.ownBlock ≠ some b by rw [hVo]; simpa using hb6) V
      simpa using this
    · rw [setF_ne _ _ (by omega), setK_ne _ _ e]
      exact owns_same (h.lst c' hc') (fun g e2 => hnew g (by rw [h.wl c' hc' g e2]; simp) (by rw [h.wl c' hc' g e2]; simpa using e) (fun e3 => by subst e3; have := h.wl c' hc' g e2; rw [h.wb] at this; cases this))
  · rw [setF_ne _ _ (by omega)]
    exact owns_same (h.mrk c' hc') (fun g e2 => hnew g (by rw [h.wm c' hc' g e2]; simp) (by rw [h.wm c' hc' g e2]; simp) (fun e3 => by subst e3; have := h.wm c' hc' g e2; rw [h.wb] at this; cases this))
  · by_cases e2 : c' = c
    · subst e2
      rw [setF_at, hVo] at e
      simp only [Option.some.injEq] at e
      subst e
      exact setW_at _ _ _
    · rw [setF_ne _ _ (by omega)] at e
      have := h.wl c' hc' g e
      rw [hW g (by rw [this]; simp) (by rw [this]; simpa using e2), this]
  · rw [setF_ne _ _ (by omega)] at e
    have := h.wm c' hc' g e
    rw [hW g (by rw [this]; simp) (by rw [this]; simp), this]
  · rw [hW b (by rw [h.wb]; simp) (by rw [h.wb]; simp), h.wb]
  · by_cases e2 : c' = c
    · subst e2
      rw [setK_at] at hx
      rcases List.mem_append.1 hx with hx | hx
      · exact hold c' x hc' hx
      · simp at hx
        subst hx
        exact ⟨hcu.keptNow hc, fun g e => Or.inr (hWc g (cu.wc g e))⟩
    · rw [setK_ne _ _ e2] at hx
      exact hold c' x hc' hx
  · by_cases e2 : g = g6
    · subst e2
      have h1 := owns_block hown g hVo
      have h2 := owns_ltH hown g hVo
      exact ⟨h1, by simpa using h2⟩
    · rw [setW_ne _ _ e2] at e
      have := h.dom g e
      exact ⟨this.1, by simp; omega⟩

/-- h.marks = append(h.marks, m). -/
theorem Hs.tell (h : Hs B w b who n f K M) (cu : Cur B w who m c lv len K) (hc : c < 4) {o : Obj} {g6 c6 : Nat}
    (hown : w6.ownsRow B 3 1 (.slice (some ⟨g6, 0, none⟩) ((M c).length + 1) c6) ((M c).length + 1) (ints (M c) ++ [.int .i64 m]))
    (key : ((f (7 + 2 * c)).ownBlock = some g6 ∧ (w.alloc o).grownBy w6 (some g6)) ∨ (g6 = w.heap.size + 1 ∧ (w.alloc o).grownBy w6 none)) :
    Hs B (w6.setCell ⟨b, 7 + 2 * c, none⟩ (.slice (some ⟨g6, 0, none⟩) ((M c).length + 1) c6)) b (setW who g6 (.mrk c)) n (setF f (7 + 2 * c) (.slice (some ⟨g6, 0, none⟩) ((M c).length + 1) c6)) K (setM M c (M c ++ [m])) ∧
    Cur B (w6.setCell ⟨b, 7 + 2 * c, none⟩ (.slice (some ⟨g6, 0, none⟩) ((M c).length + 1) c6)) (setW who g6 (.mrk c)) m c lv len K := by
  have hc5 : c < 5 := by omega
  obtain ⟨hsz, hst, hsr, h6r⟩ := key_stays key (fun g e => (h.dom g e).2) (r := .mrk c) (by simp) (h.wm c hc5)
  have hb6 : g6 ≠ b := (hst b (by rw [h.wb]; simp) (by rw [h.wb]; simp)).2
  have hblk : HB w6 b f := h.blk.same (hst b (by rw [h.wb]; simp) (by rw [h.wb]; simp)).1
  generalize hV : Value.slice (some ⟨g6, 0, none⟩) ((M c).length + 1) c6 = V at *
  have hVo : V.ownBlock = some g6 := by rw [← hV]; rfl
  have hnew : ∀ g, who g ≠ .other → who g ≠ .mrk c → g ≠ b → (w6.setCell ⟨b, 7 + 2 * c, none⟩ V).heap[g]? = w.heap[g]? := fun g h1 h2 h3 => by
    rw [Below.heap_setCell _ _ _ _ (by simpa using h3)]; exact (hst g h1 h2).1
  have hW : ∀ g, who g ≠ .other → who g ≠ .mrk c → setW who g6 (.mrk c) g = who g := fun g h1 h2 => setW_ne _ _ (fun e => (hst g h1 h2).2 e.symm)
  have hkc : ∀ g, who g = .kept ∨ who g = .cur → (w6.setCell ⟨b, 7 + 2 * c, none⟩ V).heap[g]? = w.heap[g]? := fun g e => hnew g (by rcases e with e | e <;> rw [e] <;> simp) (by rcases e with e | e <;> rw [e] <;> simp) (fun e2 => by subst e2; rw [h.wb] at e; rcases e with e | e <;> cases e)
  have hWk : ∀ g, who g = .kept → setW who g6 (.mrk c) g = .kept := fun g e => by rw [hW g (by rw [e]; simp) (by rw [e]; simp)]; exact e
  have hWc : ∀ g, who g = .cur → setW who g6 (.mrk c) g = .cur := fun g e => by rw [hW g (by rw [e]; simp) (by rw [e]; simp)]; exact e
  have hcurback : ∀ g, setW who g6 (.mrk c) g = .cur → who g = .cur := fun g e => by
    by_cases e2 : g = g6
    · subst e2; rw [setW_at] at e; cases e
    · rwa [setW_ne _ _ e2] at e
  refine ⟨⟨hblk.set (by omega) V, by rw [setF_ne _ _ (by omega)]; exact h.cnt, fun c' hc' => ?_, fun c' hc' => ?_, fun c' hc' g e => ?_, fun c' hc' g e => ?_, ?_, fun c' hc' x hx => ?_, fun g e => ?_⟩,
    ⟨owns_same cu.row (fun g e => hkc g (Or.inr (cu.wc g e))), fun g e => hWc g (cu.wc g e), fun x hx g e e2 => cu.ent x hx g e (hcurback g e2), fun c' hc' hne x hx g e => hWk g (cu.oth c' hc' hne x hx g e), cu.ln⟩⟩
  · rw [setF_ne _ _ (by omega)]
    exact owns_same (h.lst c' hc') (fun g e2 => hnew g (by rw [h.wl c' hc' g e2]; simp) (by rw [h.wl c' hc' g e2]; simp) (fun e3 => by subst e3; have := h.wl c' hc' g e2; rw [h.wb] at this; cases this))
  · by_cases e : c' = c
    · subst e
      rw [setF_at, setM_at]
      have := ownsRow_setCell_other (a := ⟨b, 7 + 2 * c', none⟩) hown (show V.ownBlock ≠ some b by rw [hVo]; simpa using hb6) V
      simpa [ints] using this
    · rw [setF_ne _ _ (by omega), setM_ne _ _ e]
      exact owns_same (h.mrk c' hc') (fun g e2 => hnew g (by rw [h.wm c' hc' g e2]; simp) (by rw [h.wm c' hc' g e2]; simpa using e) (fun e3 => by subst e3; have := h.wm c' hc' g e2; rw [h.wb] at this; cases this))
  · rw [setF_ne _ _ (by omega)] at e
    have := h.wl c' hc' g e
    rw [hW g (by rw [this]; simp) (by rw [this]; simp), this]
  · by_cases e2 : c' = c
    · subst e2
      rw [setF_at, hVo] at e
      simp only [Option.some.injEq] at e
      subst e
      exact setW_at _ _ _
    · rw [setF_ne _ _ (by omega)] at e
      have := h.wm c' hc' g e
      rw [hW g (by rw [this]; simp) (by rw [this]; simpa using e2), this]
  · rw [hW b (by rw [h.wb]; simp) (by rw [h.wb]; simp), h.wb]
  · obtain ⟨k1, k2⟩ := h.kept c' hc' x hx
    exact ⟨(k1.same k2 hkc).who hWk, fun g e => (k2 g e).imp (hWk g) (hWc g)⟩
  · by_cases e2 : g = g6
    · subst e2
      have h1 := owns_block hown g hVo
      have h2 := owns_ltH hown g hVo
      exact ⟨h1, by simpa using h2⟩
    · rw [setW_ne _ _ e2] at e
      have := h.dom g e
      exact ⟨this.1, by simp; omega⟩

/-- l = append(l, e). -/
theorem Hs.grow (h : Hs B w b who n f K M) (cu : Cur B w who m c lv len K) (hc : c < 4) (hlen : len + 1 ≤ 1000) {o : Obj} {g6 c6 : Nat}
    (hown : w6.ownsRow B (teC c) (elC m c).length (.slice (some ⟨g6, 0, none⟩) (len + 1) c6) (len + 1) ((List.replicate len (elC m c)).flatten ++ elC m c))
    (key : (lv.ownBlock = some g6 ∧ (w.alloc o).grownBy w6 (some g6)) ∨ (g6 = w.heap.size + 1 ∧ (w.alloc o).grownBy w6 none)) :
    Hs B w6 b (setW who g6 .cur) n f K M ∧ Cur B w6 (setW who g6 .cur) m c (.slice (some ⟨g6, 0, none⟩) (len + 1) c6) (len + 1) K := by
  obtain ⟨hsz, hst, hsr, h6r⟩ := key_stays key (fun g e => (h.dom g e).2) (r := .cur) (by simp) cu.wc
  have hW : ∀ g, who g ≠ .other → setW who g6 .cur g = who g := fun g h1 => by
    by_cases e : g = g6
    · subst e; rw [setW_at]; exact (h6r (h.dom g h1).2).symm
    · exact setW_ne _ _ e
  have hback : ∀ g, setW who g6 .cur g = .cur → g = g6 ∨ who g = .cur := fun g e => by
    by_cases e2 : g = g6
    · exact Or.inl e2
    · rw [setW_ne _ _ e2] at e; exact Or.inr e
  have hnew : ∀ g, who g ≠ .other → who g ≠ .cur → w6.heap[g]? = w.heap[g]? := fun g h1 h2 => (hst g h1 h2).1
  rw [flat_rep_snoc] at hown
  -- what stands in the old row's front stays
  have hfront : ∀ g, lv.ownBlock = some g → ∀ k, k < len * (elC m c).length → w6.cell? ⟨g, k, none⟩ = w.cell? ⟨g, k, none⟩ := fun g e k hk => by
    by_cases e2 : g6 = g
    · subst e2
      rcases cu.row.2 with ⟨e3, _⟩ | ⟨g', cap, cur, hv, _⟩
      · rw [e3] at e; cases e
      · have hr := cu.row
        rw [hv] at e
        simp only [Value.ownBlock, Option.some.injEq] at e
        subst e
        rw [hv] at hr
        have hk2 : k < (len + 1) * (elC m c).length := by rw [Nat.succ_mul]; omega
        rw [hown.cellAt k hk2, hr.cellAt k hk, ← flat_rep_snoc, List.getElem?_append_left (by rw [flat_rep_len]; exact hk)]
    · exact World.cell?_of_block (hsr g (cu.wc g e) e2)
  have hcurB : ∀ g, who g = .cur → lv.ownBlock ≠ some g → w6.heap[g]? = w.heap[g]? := fun g e e2 => by
    by_cases e3 : g6 = g
    · subst e3
      rcases key with ⟨k1, _⟩ | ⟨k1, _⟩
      · exact absurd k1 e2
      · have := (h.dom g6 (by rw [e]; simp)).2; omega
    · exact hsr g e e3
  have hold : ∀ c' x, c' < 5 → x ∈ K c' → KeptC c' w6 (setW who g6 .cur) x ∧ ∀ g, x.1.ownBlock = some g → setW who g6 .cur g = .kept ∨ setW who g6 .cur g = .cur := fun c' x hc' hx => by
    obtain ⟨k1, k2⟩ := h.kept c' hc' x hx
    refine ⟨?_, fun g e => ?_⟩
    · refine KeptC.who (who := who) ?_ (fun g e => by rw [hW g (by rw [e]; simp)]; exact e)
      rcases k1 with k1 | ⟨g, l, cap, e, hl, hin⟩
      · exact Or.inl k1
      · refine Or.inr ⟨g, l, cap, e, hl, ?_⟩
        have hown1 : x.1.ownBlock = some g := by rw [e]; rfl
        have hkk : ∀ g, who g = .kept → w6.heap[g]? = w.heap[g]? := fun g e => hnew g (by rw [e]; simp) (by rw [e]; simp)
        rcases k2 g hown1 with hkp | hcr
        · exact keptIn_same hin (hkk g hkp) hkk
        · by_cases hcc : c' = c
          · subst hcc
            by_cases hlv : lv.ownBlock = some g
            · obtain ⟨hm2, l', cc', e5, hll⟩ := cu.ent x hx g hown1 hcr
              rw [e5] at e
              simp only [Value.slice.injEq, true_and] at e
              have hl4 : l ≤ len := by have := hll hlv; omega
              have hgo : ∀ k, k < l → ∀ j u, (elC x.2 c')[j]? = some u → w.cell? ⟨g, k * (elC x.2 c').length + j, none⟩ = some u → w6.cell? ⟨g, k * (elC x.2 c').length + j, none⟩ = some u := fun k hk j u hu h0 => by
                have hjl := (List.getElem?_eq_some_iff.1 hu).1
                have h2 : (k + 1) * (elC x.2 c').length ≤ len * (elC x.2 c').length := Nat.mul_le_mul_right _ (by omega)
                rw [Nat.succ_mul] at h2
                rw [hfront g hlv _ (by rw [← hm2]; omega)]; exact h0
              rw [keptIn_plain (by omega)] at hin ⊢
              exact fun k hk j u hu => hgo k hk j u hu (hin k hk j u hu)
            · exact keptIn_same hin (hcurB g hcr hlv) hkk
          · have := cu.oth c' hc' hcc x hx g hown1
            rw [hcr] at this; cases this
    · have := k2 g e
      rw [hW g (by rcases this with e | e <;> rw [e] <;> simp)]; exact this
  refine ⟨⟨h.blk.same (hnew b (by rw [h.wb]; simp) (by rw [h.wb]; simp)), h.cnt, fun c' hc' => owns_same (h.lst c' hc') (fun g e => hnew g (by rw [h.wl c' hc' g e]; simp) (by rw [h.wl c' hc' g e]; simp)), fun c' hc' => owns_same (h.mrk c' hc') (fun g e => hnew g (by rw [h.wm c' hc' g e]; simp) (by rw [h.wm c' hc' g e]; simp)),
    fun c' hc' g e => (by rw [hW g (by rw [h.wl c' hc' g e]; simp)]; exact h.wl c' hc' g e), fun c' hc' g e => (by rw [hW g (by rw [h.wm c' hc' g e]; simp)]; exact h.wm c' hc' g e), (by rw [hW b (by rw [h.wb]; simp)]; exact h.wb), fun c' hc' x hx => hold c' x hc' hx, fun g e => ?_⟩,
    ⟨hown, fun g e => (by simp only [Value.ownBlock, Option.some.injEq] at e; subst e; exact setW_at _ _ _), fun x hx g e e2 => ?_, fun c' hc' hne x hx g e => ?_, hlen⟩⟩
  · by_cases e2 : g = g6
    · subst e2
      exact ⟨owns_block hown g rfl, owns_ltH hown g rfl⟩
    · rw [setW_ne _ _ e2] at e
      have := h.dom g e
      exact ⟨this.1, by omega⟩
  · have hwc : who g = .cur := by
      rcases hback g e2 with e3 | e3
      · have hk2 := (h.kept c (by omega) x hx).2 g e
        have hgd := (h.dom g (by rcases hk2 with e | e <;> rw [e] <;> simp)).2
        subst e3
        exact h6r hgd
      · exact e3
    obtain ⟨hm2, l', cc', e5, hll⟩ := cu.ent x hx g e hwc
    refine ⟨hm2, l', cc', e5, fun e6 => ?_⟩
    simp only [Value.ownBlock, Option.some.injEq] at e6
    subst e6
    rcases key with ⟨k1, _⟩ | ⟨k1, _⟩
    · have := hll k1; omega
    · have := (h.dom g6 (by rw [hwc]; simp)).2; omega
  · have := cu.oth c' hc' hne x hx g e
    rw [hW g (by rw [this]; simp)]; exact this

/-- The list's elements are written: it is the one that is written now. -/
theorem Hs.begin (h : Hs B w b who n f K M) (hc : c < 4) (hk : ∀ c', c' < 5 → ∀ x ∈ K c', ∀ g, x.1.ownBlock = some g → who g = .kept) (hrow : w.ownsRow B (teC c) (elC m c).length lv len (List.replicate len (elC m c)).flatten) (hl : len ≤ 1000)
    (ho : ∀ g, lv.ownBlock = some g → who g = .other) : ∃ who', Hs B w b who' n f K M ∧ Cur B w who' m c lv len K ∧ (∀ g, lv.ownBlock ≠ some g → who' g = who g) := by
  rcases hrow.2 with ⟨e, _⟩ | ⟨g0, cap, cur, hv, hbb, hh, hrest⟩
  · refine ⟨who, h, ⟨hrow, fun g e2 => (by rw [e] at e2; cases e2), fun x hx g e2 e3 => ?_, fun c' hc' hne x hx g e2 => hk c' hc' x hx g e2, hl⟩, fun _ _ => rfl⟩
    rw [hk c (by omega) x hx g e2] at e3; cases e3
  · have hlo : lv.ownBlock = some g0 := by rw [hv]; rfl
    have hng : ∀ c', c' < 5 → ∀ x ∈ K c', ∀ g, x.1.ownBlock = some g → g ≠ g0 := fun c' hc' x hx g e e2 => by
      have := hk c' hc' x hx g e
      subst e2
      rw [ho g hlo] at this; cases this
    refine ⟨setW who g0 .cur, h.more (fun g e => setW_ne _ _ (fun e2 => by subst e2; exact e (ho g hlo))) (fun g e => ?_), ⟨hrow, fun g e2 => (by rw [hlo] at e2; simp only [Option.some.injEq] at e2; subst e2; exact setW_at _ _ _), fun x hx g e2 e3 => ?_, fun c' hc' hne x hx g e2 => ?_, hl⟩, fun g e => setW_ne _ _ (fun e2 => e (by rw [e2]; exact hlo))⟩
    · by_cases e2 : g = g0
      · subst e2; exact ⟨hbb, (Array.getElem?_eq_some_iff.1 hh).1⟩
      · rw [setW_ne _ _ e2] at e; exact h.dom g e
    · rw [setW_ne _ _ (hng c (by omega) x hx g e2), hk c (by omega) x hx g e2] at e3; cases e3
    · rw [setW_ne _ _ (hng c' hc' x hx g e2)]; exact hk c' hc' x hx g e2

def settleW (who : Nat → Role) : Nat → Role := fun g => if (who g).k = 5 ∧ (who g).c = 0 then .kept else who g
theorem settle_cur {who : Nat → Role} {g : Nat} (h : who g = .cur) : settleW who g = .kept := by unfold settleW; rw [h]; rfl
theorem settle_ne {who : Nat → Role} {g : Nat} (h : who g ≠ .cur) : settleW who g = who g := by
  unfold settleW
  rw [if_neg]
  rintro ⟨h1, h2⟩
  apply h
  revert h1 h2
  generalize who g = r
  obtain ⟨k, c⟩ := r
  rintro rfl rfl
  rfl
/-- It is kept. -/
theorem Hs.settled (h : Hs B w b who n f K M) : Hs B w b (settleW who) n f K M ∧ ∀ c', c' < 5 → ∀ x ∈ K c', ∀ g, x.1.ownBlock = some g → settleW who g = .kept := by
  have hkk : ∀ g, who g = .kept ∨ who g = .cur → settleW who g = .kept := fun g e => by
    rcases e with e | e
    · rw [settle_ne (by rw [e]; simp)]; exact e
    · exact settle_cur e
  refine ⟨⟨h.blk, h.cnt, h.lst, h.mrk, fun c hc g e => ?_, fun c hc g e => ?_, ?_, fun c hc x hx => ?_, fun g e => ?_⟩, fun c' hc' x hx g e => hkk g ((h.kept c' hc' x hx).2 g e)⟩
  · have := h.wl c hc g e; rw [settle_ne (by rw [this]; simp), this]
  · have := h.wm c hc g e; rw [settle_ne (by rw [this]; simp), this]
  · rw [settle_ne (by rw [h.wb]; simp), h.wb]
  · obtain ⟨k1, k2⟩ := h.kept c hc x hx
    exact ⟨k1.who (fun g e => hkk g (Or.inl e)), fun g e => Or.inl (hkk g (k2 g e))⟩
  · by_cases e2 : who g = .cur
    · exact h.dom g (by rw [e2]; simp)
    · rw [settle_ne e2] at e; exact h.dom g e
theorem Fr.settled {w0 : World} {who0 : Nat → Role} {ex : Nat → Prop} (h : Fr w0 w who0 who ex) : Fr w0 w who0 (settleW who) ex :=
  ⟨h.os, h.tape, h.output, h.size, fun g h1 h2 h3 => by
    obtain ⟨a, b⟩ := h.oth g h1 h2 h3
    exact ⟨a, by rw [settle_ne (by rw [b]; simp)]; exact b⟩⟩
end

end Go.Proofs.YtklenjmfalljgaaDoor

/- Between two calls; in the midst of keeping a list. -/
namespace Go.Proofs.YtklenjmfalljgaaDoor
open Go.RowKit
attribute [local go_sem] Go.World.cell?_alloc_some

/-- The hands between two calls: all that came out is kept, and its marks. -/
def HsK (B : Nat) (w : World) (b : Nat) (who : Nat → Role) (n : Int) (f : Nat → Value) (K : Nat → List (Value × Int)) : Prop :=
  Hs B w b who n f K (marksOf K) ∧ ∀ c', c' < 5 → ∀ x ∈ K c', ∀ g, x.1.ownBlock = some g → who g = .kept

structure After (c : Nat) (w w' : World) (who who' : Nat → Role) (f f' : Nat → Value) (K K' : Nat → List (Value × Int)) (ex : Nat → Prop) : Prop where
  fr : Fr w w' who who' ex
  lent : ∀ o, o < 5 → f' o = f o
  len : (K' c).length = (K c).length + 4
  oth : ∀ c', c' ≠ c → K' c' = K c'

structure WrG (B c : Nat) (w0 w : World) (b : Nat) (who : Nat → Role) (n : Int) (f0 f : Nat → Value) (K : Nat → List (Value × Int)) (lv : Value) (len : Nat) (xs : List Value) (m : Int) (k : Nat) : Prop where
  hs : HsK B w b who n f K
  row : w.ownsRow B (teC c) (elC m c).length lv len ((List.replicate k (elC m c)).flatten ++ xs.drop (k * (elC m c).length))
  fr : Fr w0 w who who (fun g => lv.ownBlock = some g)
  lent : ∀ o, o < 5 → f o = f0 o

structure KpG (B c : Nat) (w0 w : World) (b : Nat) (who0 who : Nat → Role) (n m : Int) (f0 f : Nat → Value) (K0 K : Nat → List (Value × Int)) (lv : Value) (len k : Nat) (ex : Nat → Prop) : Prop where
  hs : Hs B w b who n f K (marksOf K)
  cu : Cur B w who m c lv len K
  fr : Fr w0 w who0 who ex
  lent : ∀ o, o < 5 → f o = f0 o
  len : (K c).length = (K0 c).length + k
  oth : ∀ c', c' ≠ c → K c' = K0 c'

structure KpA (B c : Nat) (w0 w : World) (b : Nat) (who0 who : Nat → Role) (n m : Int) (f0 f : Nat → Value) (K0 K : Nat → List (Value × Int)) (lv : Value) (len k : Nat) (ex : Nat → Prop) : Prop where
  hs : Hs B w b who n f (setK K c (K c ++ [(lv, m)])) (marksOf K)
  cu : Cur B w who m c lv len (setK K c (K c ++ [(lv, m)]))
  fr : Fr w0 w who0 who ex
  lent : ∀ o, o < 5 → f o = f0 o
  len : (K c).length = (K0 c).length + k
  oth : ∀ c', c' ≠ c → K c' = K0 c'

theorem cell_at {w : World} {B : Nat} {e : TypeId} {z g n cap : Nat} {xs : List Value} {i : Nat} (h : w.ownsRow B e z (.slice (some ⟨g, 0, none⟩) n cap) n xs) (hi : i < n * z) : ∃ u, w.cell? ⟨g, i, none⟩ = some u := by
  have h1 := h.1
  exact ⟨xs[i]'(by omega), by rw [h.cellAt i hi, List.getElem?_eq_getElem]⟩
theorem free_at {w : World} {B : Nat} {e : TypeId} {z g n cap : Nat} {xs : List Value} {i : Nat} (h : w.ownsRow B e z (.slice (some ⟨g, 0, none⟩) n cap) n xs) : w.frozen? ⟨g, i, none⟩ = false := by
  rcases h.2 with ⟨e, _⟩ | ⟨g', cap', cur, hv, _, hh, _⟩
  · cases e
  · simp only [Value.slice.injEq, Option.some.injEq, Addr.mk.injEq, true_and, and_true] at hv
    obtain ⟨rfl, rfl⟩ := hv
    simp [World.frozen?, hh]

section
variable {B c : Nat} {w0 w w6 : World} {b : Nat} {who0 who : Nat → Role} {n m : Int} {f0 f : Nat → Value} {K0 K : Nat → List (Value × Int)} {M : Nat → List Int} {lv : Value} {len k : Nat} {ex : Nat → Prop} {xs : List Value}

theorem HsK.setOther (h : HsK B w b who n f K) {g o : Nat} {v : Value} (hg : who g = .other) : HsK B (w.setCell ⟨g, o, none⟩ v) b who n f K :=
  ⟨h.1.same (by simp) (fun g' _ h2 _ => Below.heap_setCell _ _ _ _ (fun e => by simp only at e; subst e; exact h2 hg)), h.2⟩
theorem HsK.grown {w' : World} (h : HsK B w b who n f K) (hg : w.grownBy w' none) : HsK B w' b who n f K := ⟨h.1.grown hg, h.2⟩
theorem HsK.like {w' : World} (h : HsK B w b who n f K) (hl : Like w' w) : HsK B w' b who n f K := ⟨h.1.like hl, h.2⟩

theorem marks_push (K : Nat → List (Value × Int)) (c : Nat) (v : Value) (m : Int) : marksOf (setK K c (K c ++ [(v, m)])) = setM (marksOf K) c (marksOf K c ++ [m]) := by
  funext k
  unfold marksOf setK setM
  by_cases e : k = c
  · subst e; simp
  · simp [e]

theorem WrG.kp (h : WrG B c w0 w b who n f0 f K lv len xs m len) (hc : c < 4) (hx : xs.length = len * (elC m c).length) (hl : len ≤ 1000) (ho : ∀ g, lv.ownBlock = some g → who g = .other) :
    ∃ who1, KpG B c w0 w b who who1 n m f0 f K K lv len 0 (fun g => lv.ownBlock = some g) := by
  have hrow := h.row
  rw [List.drop_eq_nil_of_le (by rw [hx]; exact Nat.le_refl _), List.append_nil] at hrow
  obtain ⟨who', h1, h2, h3⟩ := h.hs.1.begin hc h.hs.2 hrow hl ho
  refine ⟨who', h1, h2, ⟨h.fr.os, h.fr.tape, h.fr.output, h.fr.size, fun g q1 q2 q3 => ?_⟩, h.lent, rfl, fun _ _ => rfl⟩
  obtain ⟨a, b⟩ := h.fr.oth g q1 q2 q3
  exact ⟨a, by rw [h3 g q3]; exact b⟩

theorem KpG.push (h : KpG B c w0 w b who0 who n m f0 f K0 K lv len k ex) (hc : c < 4) {o : Obj} {g6 c6 : Nat}
    (hown : w6.ownsRow B (tlC c) 1 (.slice (some ⟨g6, 0, none⟩) ((K c).length + 1) c6) ((K c).length + 1) ((K c).map (·.1) ++ [lv]))
    (key : ((f (6 + 2 * c)).ownBlock = some g6 ∧ (w.alloc o).grownBy w6 (some g6)) ∨ (g6 = w.heap.size + 1 ∧ (w.alloc o).grownBy w6 none)) :
    HB w6 b f ∧ ∃ who' f', KpA B c w0 (w6.setCell ⟨b, 6 + 2 * c, none⟩ (.slice (some ⟨g6, 0, none⟩) ((K c).length + 1) c6)) b who0 who' n m f0 f' K0 K lv len k ex ∧ f' (7 + 2 * c) = f (7 + 2 * c) := by
  obtain ⟨hsz, hst, hsr, h6r⟩ := key_stays key (fun g e => (h.hs.dom g e).2) (r := .lst c) (by simp) (h.hs.wl c (by omega))
  have hblk : HB w6 b f := h.hs.blk.same (hst b (by rw [h.hs.wb]; simp) (by rw [h.hs.wb]; simp)).1
  obtain ⟨h1, h2⟩ := h.hs.push h.cu hc hown key
  refine ⟨hblk, _, _, ⟨h1, h2, ?_, fun o ho => by rw [setF_ne _ _ (by omega)]; exact h.lent o ho, h.len, h.oth⟩, setF_ne _ _ (by omega)⟩
  refine (h.fr.trans (Fr.key (r := .lst c) (fun g e => by rw [h.hs.wl c (by omega) g e]; simp) key)).trans (Fr.set (Or.inl ?_))
  have := h1.wb
  rw [this]; simp

theorem KpA.tell (h : KpA B c w0 w b who0 who n m f0 f K0 K lv len k ex) (hc : c < 4) {M1 : Option Addr} {N M3 : Nat} (eM : f (7 + 2 * c) = .slice M1 N M3) (hN : (K c).length = N) {o : Obj} {g6 c6 : Nat}
    (hown : w6.ownsRow B 3 1 (.slice (some ⟨g6, 0, none⟩) (N + 1) c6) (N + 1) (ints ((K c).map (·.2)) ++ [.int .i64 m]))
    (key : ((Value.slice M1 N M3).ownBlock = some g6 ∧ (w.alloc o).grownBy w6 (some g6)) ∨ (g6 = w.heap.size + 1 ∧ (w.alloc o).grownBy w6 none)) :
    HB w6 b f ∧ ∃ who' f', KpG B c w0 (w6.setCell ⟨b, 7 + 2 * c, none⟩ (.slice (some ⟨g6, 0, none⟩) (N + 1) c6)) b who0 who' n m f0 f' K0 (setK K c (K c ++ [(lv, m)])) lv len (k + 1) ex := by
  rw [← eM] at key
  obtain ⟨hsz, hst, hsr, h6r⟩ := key_stays key (fun g e => (h.hs.dom g e).2) (r := .mrk c) (by simp) (h.hs.wm c (by omega))
  have hblk : HB w6 b f := h.hs.blk.same (hst b (by rw [h.hs.wb]; simp) (by rw [h.hs.wb]; simp)).1
  have hMl : (marksOf K c).length = N := by simp [marksOf, hN]
  obtain ⟨h1, h2⟩ := h.hs.tell h.cu hc (w6 := w6) (g6 := g6) (c6 := c6) (o := o) (by rw [hMl]; exact hown) key
  rw [hMl] at h1 h2
  refine ⟨hblk, _, _, ⟨by rw [marks_push]; exact h1, h2, ?_, fun o ho => by rw [setF_ne _ _ (by omega)]; exact h.lent o ho, by rw [setK_at, List.length_append, h.len]; simp; omega, fun c' hc' => by rw [setK_ne _ _ hc']; exact h.oth c' hc'⟩⟩
  refine (h.fr.trans (Fr.key (r := .mrk c) (fun g e => by rw [h.hs.wm c (by omega) g e]; simp) key)).trans (Fr.set (Or.inl ?_))
  have := h1.wb
  rw [this]; simp

theorem KpG.grow (h : KpG B c w0 w b who0 who n m f0 f K0 K lv len k ex) (hc : c < 4) (hlen : len + 1 ≤ 1000) {o : Obj} {g6 c6 : Nat}
    (hown : w6.ownsRow B (teC c) (elC m c).length (.slice (some ⟨g6, 0, none⟩) (len + 1) c6) (len + 1) ((List.replicate len (elC m c)).flatten ++ elC m c))
    (key : (lv.ownBlock = some g6 ∧ (w.alloc o).grownBy w6 (some g6)) ∨ (g6 = w.heap.size + 1 ∧ (w.alloc o).grownBy w6 none)) :
    ∃ who', KpG B c w0 w6 b who0 who' n m f0 f K0 K (.slice (some ⟨g6, 0, none⟩) (len + 1) c6) (len + 1) k ex := by
  obtain ⟨h1, h2⟩ := h.hs.grow h.cu hc hlen hown key
  exact ⟨_, h1, h2, h.fr.trans (Fr.key (fun g e => by rw [h.cu.wc g e]; simp) key), h.lent, h.len, h.oth⟩

theorem KpG.done (h : KpG B c w0 w b who0 who n m f0 f K0 K lv len 4 ex) : ∃ who' f' K', HsK B w b who' n f' K' ∧ After c w0 w who0 who' f0 f' K0 K' ex :=
  ⟨settleW who, f, K, ⟨h.hs.settled.1, h.hs.settled.2⟩, ⟨h.fr.settled, h.lent, h.len, h.oth⟩⟩
end

set_option maxRecDepth 100000 in
set_option maxHeartbeats 400000 in
theorem mark_g {B : Nat} {w : World} {b : Nat} {who : Nat → Role} {n : Int} {f : Nat → Value} {K : Nat → List (Value × Int)} {M : Nat → List Int} (h : Hs B w b who n f K M) (h0 : 0 ≤ n) (h1 : n ≤ 10000000000000) :
    Calls Tryd.prog 86 #[pt b] w fun e w' => e = .returned (.int .i64 (-77000000 - (n + 1))) ∧ w' = w.setCell ⟨b, 5, none⟩ (.int .i64 (n + 1)) := by
  have c5 : w.cell? ⟨b, 5, none⟩ = some (.int .i64 n) := by rw [h.blk.cell (by omega), h.cnt]
  have f5 := h.blk.frozen 5
  have c6 : (w.setCell ⟨b, 5, none⟩ (.int .i64 (n + 1))).cell? ⟨b, 5, none⟩ = some (.int .i64 (n + 1)) := by rw [(h.blk.set (by omega) (.int .i64 (n + 1))).cell (by omega), setF_at]
  have hpt : pt b = .pointer (some ⟨b, 0, none⟩) := rfl
  rw [hpt]
  clear h hpt
  go_enter Tryd.func86, Tryd.ntmps86
  go_wp2_with fail
  go_ret
  exact ⟨rfl, rfl⟩

end Go.Proofs.YtklenjmfalljgaaDoor

/- What stands behind a place of a function's text. -/
namespace Go.Proofs.YtklenjmfalljgaaDoor

/-- Does the text begin with region n? -/
def atR (n : Nat) : Code → Bool
  | .region k _ _ => Nat.beq k n
  | .seq a _ => atR n a
  | .block _ c => atR n c
  | .scope c => atR n c
  | .loop c => atR n c
  | _ => false
/-- The statements from region n on, to the end of their row. -/
def tailAt (n : Nat) : Code → Option Code
  | .seq a b => match atR n a with
    | true => some (.seq a b)
    | false => match tailAt n a with
      | some c => some c
      | none => tailAt n b
  | .block _ c => tailAt n c
  | .scope c => tailAt n c
  | .loop c => tailAt n c
  | .cond _ a b => match tailAt n a with
    | some c => some c
    | none => tailAt n b
  | _ => none
/-- The statements of a function from region n on. -/
def tailOf (f : Func) (n : Nat) : Code := match f.body with
  | some c => (tailAt n c).getD .skip
  | none => .skip

end Go.Proofs.YtklenjmfalljgaaDoor

/- A round of keepProgram: a thread's list is kept. -/
namespace Go.Proofs.YtklenjmfalljgaaDoor
open Go.RowKit
attribute [local go_sem] Go.World.cell?_alloc_some

theorem info_el3 : ((Tryd.prog.info? 28).map fun i => (i.zero, i.size, i.bytes)) = some (some (.agg #[.int .i64 0, .int .i64 0, .int .i64 0, .int .i64 0]), 4, 32) := by kernel_rfl
theorem info_ls3 : ((Tryd.prog.info? 29).map fun i => (i.zero, i.size, i.bytes)) = some (some (.slice none 0 0), 1, 24) := by kernel_rfl
theorem set_el3 (m : Int) (xs : List Value) (k len : Nat) (hx : xs.length = len * 4) (hk : k < len) : ((((((List.replicate k (elC m 3)).flatten ++ xs.drop (k * 4)).set (k * 4) (.int .i64 m)).set (k * 4 + 1) (.int .i64 0)).set (k * 4 + 2) (.int .i64 0)).set (k * 4 + 3) (.int .i64 0)) = (List.replicate (k + 1) (elC m 3)).flatten ++ xs.drop ((k + 1) * 4) := by
  obtain ⟨ys, hy⟩ : ∃ ys, ys = (List.replicate k (elC m 3)).flatten := ⟨_, rfl⟩
  have hyl : ys.length = k * 4 := by rw [hy]; exact flat_rep_len _ _
  rw [← flat_rep_snoc, ← hy]
  have h1 : 4 ≤ (xs.drop (k * 4)).length := by rw [List.length_drop]; omega
  have h2 : xs.drop ((k + 1) * 4) = (xs.drop (k * 4)).drop 4 := by rw [List.drop_drop]; congr 1 <;> omega
  rw [h2]
  generalize xs.drop (k * 4) = zs at h1
  obtain ⟨z0, z1, z2, z3, rest, rfl⟩ : ∃ z0 z1 z2 z3 rest, zs = z0 :: z1 :: z2 :: z3 :: rest := by
    match zs, h1 with
    | z0 :: z1 :: z2 :: z3 :: rest, _ => exact ⟨z0, z1, z2, z3, rest, rfl⟩
  rw [← hyl]
  simp [elC]

set_option maxRecDepth 100000 in
set_option maxHeartbeats 4000000 in
theorem kpRound {B : Nat} {w : World} {b n3 t tg tl tc : Nat} (h3 : w.cell? ⟨n3, 0, none⟩ = some (.slice (some ⟨tg, 0, none⟩) tl tc)) (ht : t < tl) (htl : tl ≤ 1000) {who : Nat → Role} {n : Int} {f : Nat → Value} {K : Nat → List (Value × Int)} {x1 : Option Addr} {x3 len : Nat} {xs : List Value} (hct : w.cell? ⟨tg, t, none⟩ = some (.slice x1 len x3)) (hH : HsK B w b who n f K) (hl : w.ownsRow B 28 4 (.slice x1 len x3) len xs) (ho : ∀ g, (Value.slice x1 len x3).ownBlock = some g → who g = .other)
    (hn0 : 0 ≤ n) (hn1 : n ≤ 10000000000000) (hK : (K 3).length ≤ 5000000000000) (ha : len ≤ 900)
    {Q' : Exit → Act → World → Prop} {c1 c2 c5 c6 c7 c8 c9 c10 c11 c12 c13 c14 c15 c16 c17 c18 c19 c20 c21 c22 c23 c24 c25 c26 c27 c28 c29 c30 c31 c32 c33 c34 c35 c36 c37 c38 c39 c40 c41 c42 c43 c44 c45 c46 c47 c48 c49 c50 c51 c52 c53 c54 c55 c56 c57 c58 c59 c60 c61 c62 c63 c64 c65 c66 c67 c68 c69 c70 c71 c72 c73 c74 c75 c76 c77 c78 c79 c80 c81 c82 c83 c84 c85 c86 c87 c88 c89 c90 c91 c92 c93 c94 c95 c96 c97 c98 c99 c100 c101 c102 c103 c104 c105 c106 c107 c108 c109 c110 c111 c112 : Value}
    (HKc : Hid (∀ {z5 z6 z7 z8 z18 z19 z20 z21 z22 z23 z24 z25 z26 z27 z28 z29 z30 z31 z32 z33 z34 z35 z36 z37 z38 z39 z40 z41 z42 z43 z44 z45 z46 z47 z48 z49 z50 z51 z52 z53 z54 z55 z56 z57 z58 z59 z60 z61 z62 z63 z64 z65 z66 : Value} (w' : World), (∃ who' f' K', HsK B w' b who' (n + 1) f' K' ∧ After 3 w w' who who' f f' K K' (fun g => (Value.slice x1 len x3).ownBlock = some g)) → Q' .normal ⟨#[.pointer (some ⟨b, 0, none⟩), c1, c2, .pointer (some ⟨n3, 0, none⟩), .int .i64 ((t : Int) + 1), z5, z6, z7, z8, c9, c10, c11, c12, c13, c14, c15, c16, c17, z18, z19, z20, z21, z22, z23, z24, z25, z26, z27, z28, z29, z30, z31, z32, z33, z34, z35, z36, z37, z38, z39, z40, z41, z42, z43, z44, z45, z46, z47, z48, z49, z50, z51, z52, z53, z54, z55, z56, z57, z58, z59, z60, z61, z62, z63, z64, z65, z66, c67, c68, c69, c70, c71, c72, c73, c74, c75, c76, c77, c78, c79, c80, c81, c82, c83, c84, c85, c86, c87, c88, c89, c90, c91, c92, c93, c94, c95, c96, c97, c98, c99, c100, c101, c102, c103, c104, c105, c106, c107, c108, c109, c110, c111, c112], []⟩ w')) :
    Code.wp Tryd.prog (tailOf Tryd.f57 4) Q' ⟨#[.pointer (some ⟨b, 0, none⟩), c1, c2, .pointer (some ⟨n3, 0, none⟩), .int .i64 (t : Int), c5, c6, c7, c8, c9, c10, c11, c12, c13, c14, c15, c16, c17, c18, c19, c20, c21, c22, c23, c24, c25, c26, c27, c28, c29, c30, c31, c32, c33, c34, c35, c36, c37, c38, c39, c40, c41, c42, c43, c44, c45, c46, c47, c48, c49, c50, c51, c52, c53, c54, c55, c56, c57, c58, c59, c60, c61, c62, c63, c64, c65, c66, c67, c68, c69, c70, c71, c72, c73, c74, c75, c76, c77, c78, c79, c80, c81, c82, c83, c84, c85, c86, c87, c88, c89, c90, c91, c92, c93, c94, c95, c96, c97, c98, c99, c100, c101, c102, c103, c104, c105, c106, c107, c108, c109, c110, c111, c112], []⟩ w := by
  conv => arg 2; whnf
  obtain ⟨i0, hi0, hz0, hz1, hz2⟩ := info_parts info_el3
  obtain ⟨i1, hi1, hy0, hy1, hy2⟩ := info_parts info_ls3
  obtain ⟨i2, hi2, hx0, hx1, hx2⟩ := info_parts info_int
  have hxl := hl.1
  have q3 : (t : Int) < tl := by omega
  have q4 : (0 : Int) ≤ (t : Int) := by omega
  have q5 : (tl : Int) ≤ 1000 := by omega
  go_upto_region 5 with fail
  clear h3 hct q3 q4 q5
  have HM := hide (mark_g hH.1 hn0 (by omega))
  have HO := hide ho
  have H0 : Hid (WrG B 3 w (w.setCell ⟨b, 5, none⟩ (.int .i64 (n + 1))) b who (n + 1) f (setF f 5 (.int .i64 (n + 1))) K (.slice x1 len x3) len xs (-77000000 - (n + 1)) 0) := by
    refine ⟨⟨hH.1.setCnt _, hH.2⟩, ?_, ?_, fun o ho => setF_ne _ _ (by omega)⟩
    · have hbo : (Value.slice x1 len x3).ownBlock ≠ some b := fun e => by have := ho b e; rw [hH.1.wb] at this; cases this
      have h5 := ownsRow_setCell_other (a := ⟨b, 5, none⟩) hl hbo (.int .i64 (n + 1))
      have e5 : (List.replicate 0 (elC (-77000000 - (n + 1)) 3)).flatten ++ xs.drop (0 * (elC (-77000000 - (n + 1)) 3).length) = xs := by simp
      rw [e5]; exact h5
    · exact Fr.set (Or.inl (by rw [hH.1.wb]; simp))
  have hpt : pt b = .pointer (some ⟨b, 0, none⟩) := rfl
  rw [hpt] at *
  clear hH hl ho hpt
  generalize hm : -77000000 - (n + 1) = m at *
  have HMM := hide hm
  clear hm
  go_wp2_with (go_at_call 86; refine HM.out.mono ?_; rintro e w1 ⟨rfl, rfl⟩)
  go_loopw [7] (fun i w' => ∃ k : Nat, k ≤ len ∧ i = .int .i64 k ∧ Hid (WrG B 3 w w' b who (n + 1) f (setF f 5 (.int .i64 (n + 1))) K (.slice x1 len x3) len xs m k)) (fun i _ => len - (intOf i).toNat)
  case atStart => exact ⟨0, Nat.zero_le _, rfl, H0⟩
  case round =>
    clear H0 HM
    obtain ⟨k, hk, rfl, HI⟩ := hrel
    obtain ⟨w5, hw5⟩ : ∃ w5, w5 = wr := ⟨_, rfl⟩
    rw [← hw5] at HI ⊢
    clear hw5
    by_cases hlt : k < len
    · obtain ⟨g, cp, e0, _, _⟩ := HI.out.row.form (by omega)
      have hrow : w5.ownsRow B 28 4 (.slice x1 len x3) len ((List.replicate k (elC m 3)).flatten ++ xs.drop (k * 4)) := HI.out.row
      rw [e0] at hrow
      simp only [Value.slice.injEq, true_and] at e0
      obtain ⟨rfl, rfl⟩ := e0
      have hgo := HO.out g rfl
      obtain ⟨u0, y0⟩ : ∃ u, w5.cell? ⟨g, k * 4, none⟩ = some u := cell_at hrow (by omega)
      have z0 : w5.frozen? ⟨g, k * 4, none⟩ = false := free_at hrow
      obtain ⟨u1, y1⟩ : ∃ u, w5.cell? ⟨g, k * 4 + 1, none⟩ = some u := cell_at hrow (by omega)
      have z1 : w5.frozen? ⟨g, k * 4 + 1, none⟩ = false := free_at hrow
      obtain ⟨u2, y2⟩ : ∃ u, w5.cell? ⟨g, k * 4 + 2, none⟩ = some u := cell_at hrow (by omega)
      have z2 : w5.frozen? ⟨g, k * 4 + 2, none⟩ = false := free_at hrow
      obtain ⟨u3, y3⟩ : ∃ u, w5.cell? ⟨g, k * 4 + 3, none⟩ = some u := cell_at hrow (by omega)
      have z3 : w5.frozen? ⟨g, k * 4 + 3, none⟩ = false := free_at hrow
      have HNX : Hid (WrG B 3 w ((((w5.setCell ⟨g, k * 4, none⟩ (.int .i64 m)).setCell ⟨g, k * 4 + 1, none⟩ (.int .i64 0)).setCell ⟨g, k * 4 + 2, none⟩ (.int .i64 0)).setCell ⟨g, k * 4 + 3, none⟩ (.int .i64 0)) b who (n + 1) f (setF f 5 (.int .i64 (n + 1))) K (.slice (some ⟨g, 0, none⟩) len x3) len xs m (k + 1)) := by
        have hs := HI.out
        refine ⟨((((hs.hs.setOther hgo).setOther hgo).setOther hgo).setOther hgo), ?_, ?_, hs.lent⟩
        · have h9 := (owns_setCell (owns_setCell (owns_setCell (owns_setCell hrow (k * 4) (.int .i64 m)) (k * 4 + 1) (.int .i64 0)) (k * 4 + 2) (.int .i64 0)) (k * 4 + 3) (.int .i64 0))
          have e9 := set_el3 m xs k len hxl hlt
          rw [e9] at h9
          exact h9
        · exact ((((hs.fr).trans (Fr.set (Or.inr rfl))).trans (Fr.set (Or.inr rfl))).trans (Fr.set (Or.inr rfl))).trans (Fr.set (Or.inr rfl))
      have q0 : (0 : Int) ≤ (k : Int) := by omega
      have q1 : (k : Int) < len := by omega
      clear hrow hgo
      go_wp2_with fail
      go_roundw
      case rel => exact ⟨k + 1, by omega, by go_num, HNX⟩
      case measure => simp [intOf]; omega
    · have ek : k = len := by omega
      have q1 : (len : Int) ≤ (k : Int) := by omega
      have HS : Hid (∃ who1, KpG B 3 w w5 b who who1 (n + 1) m f (setF f 5 (.int .i64 (n + 1))) K K (.slice x1 len x3) len 0 (fun g => (Value.slice x1 len x3).ownBlock = some g)) := by
        have hi := HI.out
        rw [ek] at hi
        exact hi.kp (by omega) hxl (by omega) HO.out
      clear HI ek
      go_wp2_with fail
      go_loopw [5, 8] (fun lv' i w' => ∃ (k : Nat) (who' : Nat → Role) (f' : Nat → Value) (K' : Nat → List (Value × Int)), k ≤ 4 ∧ i = .int .i64 k ∧ Hid (KpG B 3 w w' b who who' (n + 1) m f f' K K' lv' (len + k) k (fun g => (Value.slice x1 len x3).ownBlock = some g))) (fun _ i _ => 4 - (intOf i).toNat)
      case atStart =>
        obtain ⟨who1, h1⟩ := HS.out
        exact ⟨0, who1, _, K, by omega, rfl, hide h1⟩
      case round =>
        clear HS
        obtain ⟨j, who', f', K', hj, rfl, HK⟩ := hrel
        obtain ⟨w7, hw7⟩ : ∃ w7, w7 = wr := ⟨_, rfl⟩
        rw [← hw7] at HK ⊢
        clear hw7
        have rO : w7.ownsRow B 29 1 (f' 12) (K' 3).length ((K' 3).map (·.1)) := HK.out.hs.lst 3 (by omega)
        have rM : w7.ownsRow B 3 1 (f' 13) (K' 3).length (ints ((K' 3).map (·.2))) := by have := HK.out.hs.mrk 3 (by omega); simpa [marksOf] using this
        have rL : w7.ownsRow B 28 4 u5 (len + j) (List.replicate (len + j) (elC m 3)).flatten := HK.out.cu.row
        have HLE : Hid ((K' 3).length = (K 3).length + j) := HK.out.len
        have c6 : w7.cell? ⟨b, 12, none⟩ = some (f' 12) := HK.out.hs.blk.cell (by omega)
        have hbase : B ≤ w7.heap.size := by have := HK.out.hs.blk.lt; have := (HK.out.hs.dom b (by rw [HK.out.hs.wb]; simp)).1; omega
        obtain ⟨l1, l2, l3, rfl⟩ := owns_form rL
        have hl2 := owns_lenq rL
        subst hl2
        obtain ⟨o1, o2, o3, eO⟩ := owns_form rO
        rw [eO] at rO c6
        have ho2 := owns_lenq rO
        subst ho2
        have hLL : (K' 3).length ≤ 5000000000003 ∨ ¬ j < 4 := by have := HLE.out; omega
        have HRL := hide rL
        have HRO := hide rO
        have HEO := hide eO
        have HRM := hide rM
        clear rL rO rM eO
        by_cases hj4 : j < 4
        · have hLL : (K' 3).length ≤ 5000000000003 := by omega
          have z2 : (j : Int) < 4 := by omega
          have h63a : (K' 3).length + 1 ≤ maxLen := by unfold maxLen; omega
          have h63c : len + j + 1 ≤ maxLen := by unfold maxLen; omega
          have HPU : Hid (∀ {o : Obj} {g6 c6 : Nat} {w6 : World}, w6.ownsRow B 29 1 (.slice (some ⟨g6, 0, none⟩) ((K' 3).length + 1) c6) ((K' 3).length + 1) ((K' 3).map (·.1) ++ [.slice l1 (len + j) l3]) →
              (((Value.slice o1 (K' 3).length o3).ownBlock = some g6 ∧ (w7.alloc o).grownBy w6 (some g6)) ∨ (g6 = w7.heap.size + 1 ∧ (w7.alloc o).grownBy w6 none)) →
              HB w6 b f' ∧ ∃ who'' f'', KpA B 3 w (w6.setCell ⟨b, 12, none⟩ (.slice (some ⟨g6, 0, none⟩) ((K' 3).length + 1) c6)) b who who'' (n + 1) m f f'' K K' (.slice l1 (len + j) l3) (len + j) j (fun g => (Value.slice x1 len x3).ownBlock = some g) ∧ f'' 13 = f' 13) := by
            intro o g6 c6 w6 hown key
            rw [← HEO.out] at key
            exact HK.out.push (by omega) hown key
          generalize hKl : (K' 3).length = N at *
          generalize hKm : (K' 3).map (·.1) = L1 at *
          have HKl := hide hKl
          clear hKl hKm
          go_upto_region 14 with (at_builtin; go_must (refine wpList_append_keeps rfl _ _ _ rfl B 29 i1 _ 1 24 Tryd.underlying23 hi1 hy0 hy1 hy2 rfl (by omega) (.slice o1 N o3) N L1 rfl (owns_alloc HRO.out) ⟨w7.heap.size, 0, none⟩ 1 1 [.slice l1 (len + j) l3] rfl rfl (World.news_of_block (cs := #[.slice l1 (len + j) l3]) (t := 29) (fr := (0, 0)) (heap_alloc_new w7 _)) (by simp [Value.oneCell']) (by omega) h63a (by omega) (by simp; omega) (w7.heap.size + 1) (by simp) ?_); intro g8 cap8 w8 hown8 key8 hlt8; have hb8 := (HPU.out hown8 key8).1; have p6 : w8.cell? ⟨b, 12, none⟩ = some (.slice o1 N o3) := (by rw [hb8.cell (by omega), HEO.out]); have p7 := hb8.frozen 12)
          obtain ⟨_, who9, f9, hk9, e9⟩ := HPU.out hown8 key8
          generalize w8.setCell ⟨b, 12, none⟩ (.slice (some ⟨g8, 0, none⟩) (N + 1) cap8) = w9 at *
          have HK9 := hide hk9
          have rM9 : w9.ownsRow B 3 1 (f9 13) N (ints ((K' 3).map (·.2))) := by
            have := hk9.hs.mrk 3 (by omega)
            rw [← HKl.out]
            simpa [marksOf] using this
          have c7 : w9.cell? ⟨b, 13, none⟩ = some (f9 13) := hk9.hs.blk.cell (by omega)
          obtain ⟨m1, m2, m3, eM⟩ := owns_form rM9
          rw [eM] at rM9 c7
          have hm2 := (owns_lenq rM9).symm
          subst hm2
          have hbase9 : B ≤ w9.heap.size := by have := hk9.hs.blk.lt; have := (hk9.hs.dom b (by rw [hk9.hs.wb]; simp)).1; omega
          have HRM9 := hide rM9
          have HEM := hide eM
          clear hown8 key8 hb8 p6 p7 hlt8 c6 hk9 e9 HPU rM9 eM HEO HRO HRM
          go_upto_region 15 with (at_builtin; go_must (refine wpList_append_keeps rfl _ _ _ rfl B 3 i2 _ 1 8 Tryd.underlying22 hi2 hx0 hx1 hx2 rfl (by omega) (.slice m1 N m3) N (ints ((K' 3).map (·.2))) rfl (owns_alloc HRM9.out) ⟨w9.heap.size, 0, none⟩ 1 1 [.int .i64 m] rfl rfl (World.news_of_block (cs := #[.int .i64 m]) (t := 3) (fr := (0, 0)) (heap_alloc_new w9 _)) (by simp [Value.oneCell']) (by omega) h63a (by omega) (by simp; omega) (w9.heap.size + 1) (by simp) ?_); intro g10 cap10 w10 hown10 key10 hlt10; have hb10 := (HK9.out.tell (by omega) (M1 := m1) (M3 := m3) HEM.out HKl.out hown10 key10).1; have p6 : w10.cell? ⟨b, 13, none⟩ = some (.slice m1 N m3) := (by rw [hb10.cell (by omega), HEM.out]); have p7 := hb10.frozen 13)
          obtain ⟨_, who11, f11, hk11⟩ := HK9.out.tell (by omega) (M1 := m1) (M3 := m3) HEM.out HKl.out hown10 key10
          generalize w10.setCell ⟨b, 13, none⟩ (.slice (some ⟨g10, 0, none⟩) (N + 1) cap10) = w11 at *
          have HK11 := hide hk11
          have HRL11 : Hid (w11.ownsRow B 28 4 (.slice l1 (len + j) l3) (len + j) (List.replicate (len + j) (elC m 3)).flatten) := hk11.cu.row
          have hbase11 : B ≤ w11.heap.size := by have := hk11.hs.blk.lt; have := (hk11.hs.dom b (by rw [hk11.hs.wb]; simp)).1; omega
          clear hown10 key10 hb10 p6 p7 hlt10 c7 hk11 HK9 HRM9 HEM HRL
          go_wp2_with (at_builtin; go_must (refine wpList_append_keeps rfl _ _ _ rfl B 28 i0 _ 4 32 Tryd.underlying29 hi0 hz0 hz1 hz2 rfl (by omega) (.slice l1 (len + j) l3) (len + j) (List.replicate (len + j) (elC m 3)).flatten rfl (owns_alloc HRL11.out) ⟨w11.heap.size, 0, none⟩ 1 1 [.int .i64 m, .int .i64 0, .int .i64 0, .int .i64 0] rfl rfl (World.news_of_block (cs := #[.int .i64 m, .int .i64 0, .int .i64 0, .int .i64 0]) (t := 28) (fr := (0, 0)) (heap_alloc_new w11 _)) (by simp [Value.oneCell']) (by omega) h63c (by omega) (by simp; omega) (w11.heap.size + 1) (by simp) ?_); intro g12 cap12 w12 hown12 key12 hlt12; have HK13 := hide (HK11.out.grow (by omega) (by omega) hown12 key12); clear hown12 key12 hlt12)
          go_roundw
          case rel =>
            obtain ⟨who13, h13⟩ := HK13.out
            exact ⟨j + 1, who13, _, _, by omega, by go_num, hide h13⟩
          case measure => simp [intOf]; omega
        · have z2 : (4 : Int) ≤ (j : Int) := by omega
          have HE : Hid (∃ who' f' K', HsK B w7 b who' (n + 1) f' K' ∧ After 3 w w7 who who' f f' K K' (fun g => (Value.slice x1 len x3).ownBlock = some g)) := by
            have ej : j = 4 := by omega
            have hk := HK.out
            rw [ej] at hk
            exact hk.done
          go_wp2_with fail
          exact HKc.out w7 HE.out

end Go.Proofs.YtklenjmfalljgaaDoor

/- A program's threads that came out are kept: the row of lists, whose elements are lists. -/
namespace Go.Proofs.YtklenjmfalljgaaDoor
open Go.RowKit

/-- The row of threads that is written now: each element is a list of one, of the mark's. -/
structure Cu4 (B : Nat) (w : World) (who : Nat → Role) (m : Int) (c : Nat) (lv : Value) (len : Nat) (R : List Value) (K : Nat → List (Value × Int)) : Prop where
  row : w.ownsRow B 29 1 lv len R
  el : ∀ k, k < len → ∃ g' cap', R[k]? = some (.slice (some ⟨g', 0, none⟩) 1 cap') ∧ w.heap[g']? = some (.cells (elC m 3).toArray 28 (0, 0)) ∧ who g' = .kept
  wc : ∀ g, lv.ownBlock = some g → who g = .cur
  ent : ∀ x ∈ K c, ∀ g, x.1.ownBlock = some g → who g = .cur → x.2 = m ∧ ∃ l c', x.1 = .slice (some ⟨g, 0, none⟩) l c' ∧ (lv.ownBlock = some g → l ≤ len)
  oth : ∀ c', c' < 5 → c' ≠ c → ∀ x ∈ K c', ∀ g, x.1.ownBlock = some g → who g = .kept
  ln : len ≤ 1000

section
variable {B : Nat} {w w6 : World} {b : Nat} {who : Nat → Role} {n m : Int} {f : Nat → Value} {K : Nat → List (Value × Int)} {M : Nat → List Int} {c : Nat} {lv : Value} {len : Nat} {R : List Value}

theorem Cu4.keptNow4 (cu : Cu4 B w who m c lv len R K) (hc : c = 4) : KeptC c w who (lv, m) := by
  subst hc
  rcases cu.row.2 with ⟨e, _⟩ | ⟨g, cap, cur, hv, hbb, hh, hrest⟩
  · exact Or.inl e
  · refine Or.inr ⟨g, len, cap, hv, cu.ln, ?_⟩
    have hr := cu.row
    rw [hv] at hr
    refine keptIn_four.2 fun k hk => ?_
    obtain ⟨g', cap', q1, q2, q3⟩ := cu.el k hk
    exact ⟨g', cap', by rw [hr.cellAt k (by omega)]; exact q1, q2, q3⟩

/-- h.lists = append(h.lists, l). -/
theorem Hs.push4 (h : Hs B w b who n f K M) (cu : Cu4 B w who m c lv len R K) (hc : c = 4) {o : Obj} {g6 c6 : Nat}
    (hown : w6.ownsRow B (tlC c) 1 (.slice (some ⟨g6, 0, none⟩) ((K c).length + 1) c6) ((K c).length + 1) ((K c).map (·.1) ++ [lv]))
    (key : ((f (6 + 2 * c)).ownBlock = some g6 ∧ (w.alloc o).grownBy w6 (some g6)) ∨ (g6 = w.heap.size + 1 ∧ (w.alloc o).grownBy w6 none)) :
    Hs B (w6.setCell ⟨b, 6 + 2 * c, none⟩ (.slice (some ⟨g6, 0, none⟩) ((K c).length + 1) c6)) b (setW who g6 (.lst c)) n (setF f (6 + 2 * c) (.slice (some ⟨g6, 0, none⟩) ((K c).length + 1) c6)) (setK K c (K c ++ [(lv, m)])) M ∧
    Cu4 B (w6.setCell ⟨b, 6 + 2 * c, none⟩ (.slice (some ⟨g6, 0, none⟩) ((K c).length + 1) c6)) (setW who g6 (.lst c)) m c lv len R (setK K c (K c ++ [(lv, m)])) := by
  have hc5 : c < 5 := by omega
  obtain ⟨hsz, hst, hsr, h6r⟩ := key_stays key (fun g e => (h.dom g e).2) (r := .lst c) (by simp) (h.wl c hc5)
  have hb6 : g6 ≠ b := (hst b (by rw [h.wb]; simp) (by rw [h.wb]; simp)).2
  have hblk : HB w6 b f := h.blk.same (hst b (by rw [h.wb]; simp) (by rw [h.wb]; simp)).1
  generalize hV : Value.slice (some ⟨g6, 0, none⟩) ((K c).length + 1) c6 = V at *
  have hVo : V.ownBlock = some g6 := by rw [← hV]; rfl
  have hnew : ∀ g, who g ≠ .other → who g ≠ .lst c → g ≠ b → (w6.setCell ⟨b, 6 + 2 * c, none⟩ V).heap[g]? = w.heap[g]? := fun g h1 h2 h3 => by
    rw [Below.heap_setCell _ _ _ _ (by simpa using h3)]; exact (hst g h1 h2).1
  have hW : ∀ g, who g ≠ .other → who g ≠ .lst c → setW who g6 (.lst c) g = who g := fun g h1 h2 => setW_ne _ _ (fun e => (hst g h1 h2).2 e.symm)
  have hkc : ∀ g, who g = .kept ∨ who g = .cur → (w6.setCell ⟨b, 6 + 2 * c, none⟩ V).heap[g]? = w.heap[g]? := fun g e => hnew g (by rcases e with e | e <;> rw [e] <;> simp) (by rcases e with e | e <;> rw [e] <;> simp) (fun e2 => by subst e2; rw [h.wb] at e; rcases e with e | e <;> cases e)
  have hWk : ∀ g, who g = .kept → setW who g6 (.lst c) g = .kept := fun g e => by rw [hW g (by rw [e]; simp) (by rw [e]; simp)]; exact e
  have hWc : ∀ g, who g = .cur → setW who g6 (.lst c) g = .cur := fun g e => by rw [hW g (by rw [e]; simp) (by rw [e]; simp)]; exact e
  have hWkc : ∀ g, who g = .kept ∨ who g = .cur → setW who g6 (.lst c) g = .kept ∨ setW who g6 (.lst c) g = .cur := fun g e => e.imp (hWk g) (hWc g)
  have hcurback : ∀ g, setW who g6 (.lst c) g = .cur → who g = .cur := fun g e => by
    by_cases e2 : g = g6
    · subst e2; rw [setW_at] at e; cases e
    · rwa [setW_ne _ _ e2] at e
  have hold : ∀ c' x, c' < 5 → x ∈ K c' → KeptC c' (w6.setCell ⟨b, 6 + 2 * c, none⟩ V) (setW who g6 (.lst c)) x ∧ ∀ g, x.1.ownBlock = some g → setW who g6 (.lst c) g = .kept ∨ setW who g6 (.lst c) g = .cur := fun c' x hc' hx => by
    obtain ⟨k1, k2⟩ := h.kept c' hc' x hx
    exact ⟨(k1.same k2 hkc).who hWk, fun g e => hWkc g (k2 g e)⟩
  have hrow : (w6.setCell ⟨b, 6 + 2 * c, none⟩ V).ownsRow B 29 1 lv len R := owns_same cu.row (fun g e => hkc g (Or.inr (cu.wc g e)))
  have hel : ∀ k, k < len → ∃ g' cap', R[k]? = some (.slice (some ⟨g', 0, none⟩) 1 cap') ∧ (w6.setCell ⟨b, 6 + 2 * c, none⟩ V).heap[g']? = some (.cells (elC m 3).toArray 28 (0, 0)) ∧ setW who g6 (.lst c) g' = .kept := fun k hk => by
    obtain ⟨g', cap', q1, q2, q3⟩ := cu.el k hk
    exact ⟨g', cap', q1, by rw [hkc g' (Or.inl q3)]; exact q2, hWk g' q3⟩
  have hcu : Cu4 B (w6.setCell ⟨b, 6 + 2 * c, none⟩ V) (setW who g6 (.lst c)) m c lv len R (setK K c (K c ++ [(lv, m)])) := by
    refine ⟨hrow, hel, fun g e => hWc g (cu.wc g e), fun x hx g e e2 => ?_, fun c' hc' hne x hx g e => ?_, cu.ln⟩
    · rw [setK_at] at hx
      rcases List.mem_append.1 hx with hx | hx
      · exact cu.ent x hx g e (hcurback g e2)
      · simp at hx
        subst hx
        refine ⟨rfl, ?_⟩
        rcases cu.row.2 with ⟨e3, _⟩ | ⟨g', cap, cur, hv, _⟩
        · simp only at e; rw [e3] at e; cases e
        · simp only at e
          rw [hv] at e
          simp only [Value.ownBlock, Option.some.injEq] at e
          exact ⟨len, cap, by rw [hv, e], fun _ => Nat.le_refl _⟩
    · rw [setK_ne _ _ hne] at hx
      exact hWk g (cu.oth c' hc' hne x hx g e)
  refine ⟨⟨hblk.set (by omega) V, by rw [setF_ne _ _ (by omega)]; exact h.cnt, fun c' hc' => ?_, fun c' hc' => ?_, fun c' hc' g e => ?_, fun c' hc' g e => ?_, ?_, fun c' hc' x hx => ?_, fun g e => ?_⟩, hcu⟩
  · by_cases e : c' = c
    · subst e
      rw [setF_at, setK_at]
      have := ownsRow_setCell_other (a := ⟨b, 6 + 2 * c', none⟩) hown (show V.ownBlock ≠ some b by rw [hVo]; simpa using hb6) V
      simpa using this
    · rw [setF_ne _ _ (by omega), setK_ne _ _ e]
      exact owns_same (h.lst c' hc') (fun g e2 => hnew g (by rw [h.wl c' hc' g e2]; simp) (by rw [h.wl c' hc' g e2]; simpa using e) (fun e3 => by subst e3; have := h.wl c' hc' g e2; rw [h.wb] at this; cases this))
  · rw [setF_ne _ _ (by omega)]
    exact owns_same (h.mrk c' hc') (fun g e2 => hnew g (by rw [h.wm c' hc' g e2]; simp) (by rw [h.wm c' hc' g e2]; simp) (fun e3 => by subst e3; have := h.wm c' hc' g e2; rw [h.wb] at this; cases this))
  · by_cases e2 : c' = c
    · subst e2
      rw [setF_at, hVo] at e
      simp only [Option.some.injEq] at e
      subst e
      exact setW_at _ _ _
    · rw [setF_ne _ _ (by omega)] at e
      have := h.wl c' hc' g e
      rw [hW g (by rw [this]; simp) (by rw [this]; simpa using e2), this]
  · rw [setF_ne _ _ (by omega)] at e
    have := h.wm c' hc' g e
    rw [hW g (by rw [this]; simp) (by rw [this]; simp), this]
  · rw [hW b (by rw [h.wb]; simp) (by rw [h.wb]; simp), h.wb]
  · by_cases e2 : c' = c
    · subst e2
      rw [setK_at] at hx
      rcases List.mem_append.1 hx with hx | hx
      · exact hold c' x hc' hx
      · simp at hx
        subst hx
        exact ⟨hcu.keptNow4 hc, fun g e => Or.inr (hWc g (cu.wc g e))⟩
    · rw [setK_ne _ _ e2] at hx
      exact hold c' x hc' hx
  · by_cases e2 : g = g6
    · subst e2
      have h1 := owns_block hown g hVo
      have h2 := owns_ltH hown g hVo
      exact ⟨h1, by simpa using h2⟩
    · rw [setW_ne _ _ e2] at e
      have := h.dom g e
      exact ⟨this.1, by simp; omega⟩

/-- h.marks = append(h.marks, m). -/
theorem Hs.tell4 (h : Hs B w b who n f K M) (cu : Cu4 B w who m c lv len R K) (hc : c = 4) {o : Obj} {g6 c6 : Nat}
    (hown : w6.ownsRow B 3 1 (.slice (some ⟨g6, 0, none⟩) ((M c).length + 1) c6) ((M c).length + 1) (ints (M c) ++ [.int .i64 m]))
    (key : ((f (7 + 2 * c)).ownBlock = some g6 ∧ (w.alloc o).grownBy w6 (some g6)) ∨ (g6 = w.heap.size + 1 ∧ (w.alloc o).grownBy w6 none)) :
    Hs B (w6.setCell ⟨b, 7 + 2 * c, none⟩ (.slice (some ⟨g6, 0, none⟩) ((M c).length + 1) c6)) b (setW who g6 (.mrk c)) n (setF f (7 + 2 * c) (.slice (some ⟨g6, 0, none⟩) ((M c).length + 1) c6)) K (setM M c (M c ++ [m])) ∧
    Cu4 B (w6.setCell ⟨b, 7 + 2 * c, none⟩ (.slice (some ⟨g6, 0, none⟩) ((M c).length + 1) c6)) (setW who g6 (.mrk c)) m c lv len R K := by
  have hc5 : c < 5 := by omega
  obtain ⟨hsz, hst, hsr, h6r⟩ := key_stays key (fun g e => (h.dom g e).2) (r := .mrk c) (by simp) (h.wm c hc5)
  have hb6 : g6 ≠ b := (hst b (by rw [h.wb]; simp) (by rw [h.wb]; simp)).2
  have hblk : HB w6 b f := h.blk.same (hst b (by rw [h.wb]; simp) (by rw [h.wb]; simp)).1
  generalize hV : Value.slice (some ⟨g6, 0, none⟩) ((M c).length + 1) c6 = V at *
  have hVo : V.ownBlock = some g6 := by rw [← hV]; rfl
  have hnew : ∀ g, who g ≠ .other → who g ≠ .mrk c → g ≠ b → (w6.setCell ⟨b, 7 + 2 * c, none⟩ V).heap[g]? = w.heap[g]? := fun g h1 h2 h3 => by
    rw [Below.heap_setCell _ _ _ _ (by simpa using h3)]; exact (hst g h1 h2).1
  have hW : ∀ g, who g ≠ .other → who g ≠ .mrk c → setW who g6 (.mrk c) g = who g := fun g h1 h2 => setW_ne _ _ (fun e => (hst g h1 h2).2 e.symm)
  have hkc : ∀ g, who g = .kept ∨ who g = .cur → (w6.setCell ⟨b, 7 + 2 * c, none⟩ V).heap[g]? = w.heap[g]? := fun g e => hnew g (by rcases e with e | e <;> rw [e] <;> simp) (by rcases e with e | e <;> rw [e] <;> simp) (fun e2 => by subst e2; rw [h.wb] at e; rcases e with e | e <;> cases e)
  have hWk : ∀ g, who g = .kept → setW who g6 (.mrk c) g = .kept := fun g e => by rw [hW g (by rw [e]; simp) (by rw [e]; simp)]; exact e
  have hWc : ∀ g, who g = .cur → setW who g6 (.mrk c) g = .cur := fun g e => by rw [hW g (by rw [e]; simp) (by rw [e]; simp)]; exact e
  have hcurback : ∀ g, setW who g6 (.mrk c) g = .cur → who g = .cur := fun g e => by
    by_cases e2 : g = g6
    · subst e2; rw [setW_at] at e; cases e
    · rwa [setW_ne _ _ e2] at e
  refine ⟨⟨hblk.set (by omega) V, by rw [setF_ne _ _ (by omega)]; exact h.cnt, fun c' hc' => ?_, fun c' hc' => ?_, fun c' hc' g e => ?_, fun c' hc' g e => ?_, ?_, fun c' hc' x hx => ?_, fun g e => ?_⟩,
    ⟨owns_same cu.row (fun g e => hkc g (Or.inr (cu.wc g e))), fun k hk => (by obtain ⟨g', cap', q1, q2, q3⟩ := cu.el k hk; exact ⟨g', cap', q1, by rw [hkc g' (Or.inl q3)]; exact q2, hWk g' q3⟩), fun g e => hWc g (cu.wc g e), fun x hx g e e2 => cu.ent x hx g e (hcurback g e2), fun c' hc' hne x hx g e => hWk g (cu.oth c' hc' hne x hx g e), cu.ln⟩⟩
  · rw [setF_ne _ _ (by omega)]
    exact owns_same (h.lst c' hc') (fun g e2 => hnew g (by rw [h.wl c' hc' g e2]; simp) (by rw [h.wl c' hc' g e2]; simp) (fun e3 => by subst e3; have := h.wl c' hc' g e2; rw [h.wb] at this; cases this))
  · by_cases e : c' = c
    · subst e
      rw [setF_at, setM_at]
      have := ownsRow_setCell_other (a := ⟨b, 7 + 2 * c', none⟩) hown (show V.ownBlock ≠ some b by rw [hVo]; simpa using hb6) V
      simpa [ints] using this
    · rw [setF_ne _ _ (by omega), setM_ne _ _ e]
      exact owns_same (h.mrk c' hc') (fun g e2 => hnew g (by rw [h.wm c' hc' g e2]; simp) (by rw [h.wm c' hc' g e2]; simpa using e) (fun e3 => by subst e3; have := h.wm c' hc' g e2; rw [h.wb] at this; cases this))
  · rw [setF_ne _ _ (by omega)] at e
    have := h.wl c' hc' g e
    rw [hW g (by rw [this]; simp) (by rw [this]; simp), this]
  · by_cases e2 : c' = c
    · subst e2
      rw [setF_at, hVo] at e
      simp only [Option.some.injEq] at e
      subst e
      exact setW_at _ _ _
    · rw [setF_ne _ _ (by omega)] at e
      have := h.wm c' hc' g e
      rw [hW g (by rw [this]; simp) (by rw [this]; simpa using e2), this]
  · rw [hW b (by rw [h.wb]; simp) (by rw [h.wb]; simp), h.wb]
  · obtain ⟨k1, k2⟩ := h.kept c' hc' x hx
    exact ⟨(k1.same k2 hkc).who hWk, fun g e => (k2 g e).imp (hWk g) (hWc g)⟩
  · by_cases e2 : g = g6
    · subst e2
      have h1 := owns_block hown g hVo
      have h2 := owns_ltH hown g hVo
      exact ⟨h1, by simpa using h2⟩
    · rw [setW_ne _ _ e2] at e
      have := h.dom g e
      exact ⟨this.1, by simp; omega⟩

/-- l = append(l, e). -/
theorem Hs.grow4 (h : Hs B w b who n f K M) (cu : Cu4 B w who m c lv len R K) (hc : c = 4) (hlen : len + 1 ≤ 1000) {o : Obj} {g6 c6 : Nat} {v : Value} (hv4 : ∃ g' cap', v = .slice (some ⟨g', 0, none⟩) 1 cap' ∧ w.heap[g']? = some (.cells (elC m 3).toArray 28 (0, 0)) ∧ who g' = .kept)
    (hown : w6.ownsRow B 29 1 (.slice (some ⟨g6, 0, none⟩) (len + 1) c6) (len + 1) (R ++ [v]))
    (key : (lv.ownBlock = some g6 ∧ (w.alloc o).grownBy w6 (some g6)) ∨ (g6 = w.heap.size + 1 ∧ (w.alloc o).grownBy w6 none)) :
    Hs B w6 b (setW who g6 .cur) n f K M ∧ Cu4 B w6 (setW who g6 .cur) m c (.slice (some ⟨g6, 0, none⟩) (len + 1) c6) (len + 1) (R ++ [v]) K := by
  obtain ⟨hsz, hst, hsr, h6r⟩ := key_stays key (fun g e => (h.dom g e).2) (r := .cur) (by simp) cu.wc
  have hW : ∀ g, who g ≠ .other → setW who g6 .cur g = who g := fun g h1 => by
    by_cases e : g = g6
    · subst e; rw [setW_at]; exact (h6r (h.dom g h1).2).symm
    · exact setW_ne _ _ e
  have hback : ∀ g, setW who g6 .cur g = .cur → g = g6 ∨ who g = .cur := fun g e => by
    by_cases e2 : g = g6
    · exact Or.inl e2
    · rw [setW_ne _ _ e2] at e; exact Or.inr e
  have hnew : ∀ g, who g ≠ .other → who g ≠ .cur → w6.heap[g]? = w.heap[g]? := fun g h1 h2 => (hst g h1 h2).1
  have hRl : R.length = len := by have := cu.row.1; omega
  have hfront : ∀ g, lv.ownBlock = some g → ∀ k, k < len → w6.cell? ⟨g, k, none⟩ = w.cell? ⟨g, k, none⟩ := fun g e k hk => by
    by_cases e2 : g6 = g
    · subst e2
      rcases cu.row.2 with ⟨e3, _⟩ | ⟨g', cap, cur, hv, _⟩
      · rw [e3] at e; cases e
      · have hr := cu.row
        rw [hv] at e
        simp only [Value.ownBlock, Option.some.injEq] at e
        subst e
        rw [hv] at hr
        rw [hown.cellAt k (by omega), hr.cellAt k (by omega), List.getElem?_append_left (by omega)]
    · exact World.cell?_of_block (hsr g (cu.wc g e) e2)
  have hcurB : ∀ g, who g = .cur → lv.ownBlock ≠ some g → w6.heap[g]? = w.heap[g]? := fun g e e2 => by
    by_cases e3 : g6 = g
    · subst e3
      rcases key with ⟨k1, _⟩ | ⟨k1, _⟩
      · exact absurd k1 e2
      · have := (h.dom g6 (by rw [e]; simp)).2; omega
    · exact hsr g e e3
  have hold : ∀ c' x, c' < 5 → x ∈ K c' → KeptC c' w6 (setW who g6 .cur) x ∧ ∀ g, x.1.ownBlock = some g → setW who g6 .cur g = .kept ∨ setW who g6 .cur g = .cur := fun c' x hc' hx => by
    obtain ⟨k1, k2⟩ := h.kept c' hc' x hx
    refine ⟨?_, fun g e => ?_⟩
    · refine KeptC.who (who := who) ?_ (fun g e => by rw [hW g (by rw [e]; simp)]; exact e)
      rcases k1 with k1 | ⟨g, l, cap, e, hl, hin⟩
      · exact Or.inl k1
      · refine Or.inr ⟨g, l, cap, e, hl, ?_⟩
        have hown1 : x.1.ownBlock = some g := by rw [e]; rfl
        have hkk : ∀ g, who g = .kept → w6.heap[g]? = w.heap[g]? := fun g e => hnew g (by rw [e]; simp) (by rw [e]; simp)
        rcases k2 g hown1 with hkp | hcr
        · exact keptIn_same hin (hkk g hkp) hkk
        · by_cases hcc : c' = c
          · subst hcc
            by_cases hlv : lv.ownBlock = some g
            · obtain ⟨hm2, l', cc', e5, hll⟩ := cu.ent x hx g hown1 hcr
              rw [e5] at e
              simp only [Value.slice.injEq, true_and] at e
              have hl4 : l ≤ len := by have := hll hlv; omega
              subst hc
              rw [keptIn_four] at hin ⊢
              intro k hk
              obtain ⟨g', cap', q1, q2, q3⟩ := hin k hk
              exact ⟨g', cap', by rw [hfront g hlv k (by omega)]; exact q1, by rw [hkk g' q3]; exact q2, q3⟩
            · exact keptIn_same hin (hcurB g hcr hlv) hkk
          · have := cu.oth c' hc' hcc x hx g hown1
            rw [hcr] at this; cases this
    · have := k2 g e
      rw [hW g (by rcases this with e | e <;> rw [e] <;> simp)]; exact this
  refine ⟨⟨h.blk.same (hnew b (by rw [h.wb]; simp) (by rw [h.wb]; simp)), h.cnt, fun c' hc' => owns_same (h.lst c' hc') (fun g e => hnew g (by rw [h.wl c' hc' g e]; simp) (by rw [h.wl c' hc' g e]; simp)), fun c' hc' => owns_same (h.mrk c' hc') (fun g e => hnew g (by rw [h.wm c' hc' g e]; simp) (by rw [h.wm c' hc' g e]; simp)),
    fun c' hc' g e => (by rw [hW g (by rw [h.wl c' hc' g e]; simp)]; exact h.wl c' hc' g e), fun c' hc' g e => (by rw [hW g (by rw [h.wm c' hc' g e]; simp)]; exact h.wm c' hc' g e), (by rw [hW b (by rw [h.wb]; simp)]; exact h.wb), fun c' hc' x hx => hold c' x hc' hx, fun g e => ?_⟩,
    ⟨hown, fun k hk => ?_, fun g e => (by simp only [Value.ownBlock, Option.some.injEq] at e; subst e; exact setW_at _ _ _), fun x hx g e e2 => ?_, fun c' hc' hne x hx g e => ?_, hlen⟩⟩
  · by_cases e2 : g = g6
    · subst e2
      exact ⟨owns_block hown g rfl, owns_ltH hown g rfl⟩
    · rw [setW_ne _ _ e2] at e
      have := h.dom g e
      exact ⟨this.1, by omega⟩
  · by_cases e : k < len
    · obtain ⟨g', cap', q1, q2, q3⟩ := cu.el k e
      exact ⟨g', cap', by rw [List.getElem?_append_left (by omega)]; exact q1, by rw [hnew g' (by rw [q3]; simp) (by rw [q3]; simp)]; exact q2, by rw [hW g' (by rw [q3]; simp)]; exact q3⟩
    · obtain ⟨g', cap', q1, q2, q3⟩ := hv4
      have ek : k = R.length := by omega
      exact ⟨g', cap', by rw [ek, List.getElem?_append_right (by omega)]; simp [q1], by rw [hnew g' (by rw [q3]; simp) (by rw [q3]; simp)]; exact q2, by rw [hW g' (by rw [q3]; simp)]; exact q3⟩
  · have hwc : who g = .cur := by
      rcases hback g e2 with e3 | e3
      · have hk2 := (h.kept c (by omega) x hx).2 g e
        have hgd := (h.dom g (by rcases hk2 with e | e <;> rw [e] <;> simp)).2
        subst e3
        exact h6r hgd
      · exact e3
    obtain ⟨hm2, l', cc', e5, hll⟩ := cu.ent x hx g e hwc
    refine ⟨hm2, l', cc', e5, fun e6 => ?_⟩
    simp only [Value.ownBlock, Option.some.injEq] at e6
    subst e6
    rcases key with ⟨k1, _⟩ | ⟨k1, _⟩
    · have := hll k1; omega
    · have := (h.dom g6 (by rw [hwc]; simp)).2; omega
  · have := cu.oth c' hc' hne x hx g e
    rw [hW g (by rw [this]; simp)]; exact this

/-- The list's elements are written: it is the one that is written now. -/
theorem Hs.begin4 (h : Hs B w b who n f K M) (hc : c = 4) (hk : ∀ c', c' < 5 → ∀ x ∈ K c', ∀ g, x.1.ownBlock = some g → who g = .kept) (hrow : w.ownsRow B 29 1 lv len R) (hl : len ≤ 1000)
    (hel : ∀ k, k < len → ∃ g' cap', R[k]? = some (.slice (some ⟨g', 0, none⟩) 1 cap') ∧ w.heap[g']? = some (.cells (elC m 3).toArray 28 (0, 0)) ∧ who g' = .kept)
    (ho : ∀ g, lv.ownBlock = some g → who g = .other) : ∃ who', Hs B w b who' n f K M ∧ Cu4 B w who' m c lv len R K ∧ (∀ g, lv.ownBlock ≠ some g → who' g = who g) := by
  rcases hrow.2 with ⟨e, _⟩ | ⟨g0, cap, cur, hv, hbb, hh, hrest⟩
  · refine ⟨who, h, ⟨hrow, hel, fun g e2 => (by rw [e] at e2; cases e2), fun x hx g e2 e3 => ?_, fun c' hc' hne x hx g e2 => hk c' hc' x hx g e2, hl⟩, fun _ _ => rfl⟩
    rw [hk c (by omega) x hx g e2] at e3; cases e3
  · have hlo : lv.ownBlock = some g0 := by rw [hv]; rfl
    have hng : ∀ c', c' < 5 → ∀ x ∈ K c', ∀ g, x.1.ownBlock = some g → g ≠ g0 := fun c' hc' x hx g e e2 => by
      have := hk c' hc' x hx g e
      subst e2
      rw [ho g hlo] at this; cases this
    refine ⟨setW who g0 .cur, h.more (fun g e => setW_ne _ _ (fun e2 => by subst e2; exact e (ho g hlo))) (fun g e => ?_), ⟨hrow, fun k hk => (by obtain ⟨g', cap', q1, q2, q3⟩ := hel k hk; exact ⟨g', cap', q1, q2, by rw [setW_ne _ _ (fun e2 => by rw [e2, ho g0 hlo] at q3; cases q3)]; exact q3⟩), fun g e2 => (by rw [hlo] at e2; simp only [Option.some.injEq] at e2; subst e2; exact setW_at _ _ _), fun x hx g e2 e3 => ?_, fun c' hc' hne x hx g e2 => ?_, hl⟩, fun g e => setW_ne _ _ (fun e2 => e (by rw [e2]; exact hlo))⟩
    · by_cases e2 : g = g0
      · subst e2; exact ⟨hbb, (Array.getElem?_eq_some_iff.1 hh).1⟩
      · rw [setW_ne _ _ e2] at e; exact h.dom g e
    · rw [setW_ne _ _ (hng c (by omega) x hx g e2), hk c (by omega) x hx g e2] at e3; cases e3
    · rw [setW_ne _ _ (hng c' hc' x hx g e2)]; exact hk c' hc' x hx g e2

end

end Go.Proofs.YtklenjmfalljgaaDoor

/- The threads' row in the midst of keeping it. -/
namespace Go.Proofs.YtklenjmfalljgaaDoor
open Go.RowKit

structure KpH (B : Nat) (w0 w : World) (b : Nat) (who0 who : Nat → Role) (n m : Int) (f0 f : Nat → Value) (K0 K : Nat → List (Value × Int)) (lv : Value) (len : Nat) (R : List Value) (k : Nat) (ex : Nat → Prop) : Prop where
  hs : Hs B w b who n f K (marksOf K)
  cu : Cu4 B w who m 4 lv len R K
  fr : Fr w0 w who0 who ex
  lent : ∀ o, o < 5 → f o = f0 o
  len : (K 4).length = (K0 4).length + k
  oth : ∀ c', c' ≠ 4 → K c' = K0 c'

structure KpB (B : Nat) (w0 w : World) (b : Nat) (who0 who : Nat → Role) (n m : Int) (f0 f : Nat → Value) (K0 K : Nat → List (Value × Int)) (lv : Value) (len : Nat) (R : List Value) (k : Nat) (ex : Nat → Prop) : Prop where
  hs : Hs B w b who n f (setK K 4 (K 4 ++ [(lv, m)])) (marksOf K)
  cu : Cu4 B w who m 4 lv len R (setK K 4 (K 4 ++ [(lv, m)]))
  fr : Fr w0 w who0 who ex
  lent : ∀ o, o < 5 → f o = f0 o
  len : (K 4).length = (K0 4).length + k
  oth : ∀ c', c' ≠ 4 → K c' = K0 c'

section
variable {B : Nat} {w0 w w6 : World} {b : Nat} {who0 who : Nat → Role} {n m : Int} {f0 f : Nat → Value} {K0 K : Nat → List (Value × Int)} {lv : Value} {len k : Nat} {ex : Nat → Prop} {R : List Value}

/-- The row's elements are written, one behind the other: k of them are new lists. -/
structure WrK (B : Nat) (w0 w : World) (b : Nat) (who0 who : Nat → Role) (n : Int) (f0 f : Nat → Value) (K : Nat → List (Value × Int)) (lv : Value) (len : Nat) (R : List Value) (m : Int) (k : Nat) : Prop where
  hs : HsK B w b who n f K
  row : w.ownsRow B 29 1 lv len R
  el : ∀ j, j < k → ∃ g' cap', R[j]? = some (.slice (some ⟨g', 0, none⟩) 1 cap') ∧ w.heap[g']? = some (.cells (elC m 3).toArray 28 (0, 0)) ∧ who g' = .kept
  fr : Fr w0 w who0 who (fun g => lv.ownBlock = some g)
  oth : ∀ g, lv.ownBlock = some g → who g = .other
  lent : ∀ o, o < 5 → f o = f0 o

/-- A new list is made, which is kept at once. -/
theorem Hs.made {M : Nat → List Int} (h : Hs B w b who n f K M) (o : Obj) : Hs B (w.alloc o) b (setW who w.heap.size .kept) n f K M := by
  have hne : ∀ g', who g' ≠ .other → setW who w.heap.size .kept g' = who g' := fun g' e => setW_ne _ _ (fun e2 => by subst e2; have := (h.dom _ e).2; omega)
  refine (h.grown (grown_alloc (grown_refl _ _))).more hne (fun g' e => ?_)
  have hb := h.dom b (by rw [h.wb]; simp)
  by_cases e2 : g' = w.heap.size
  · subst e2; exact ⟨by omega, by simp⟩
  · rw [setW_ne _ _ e2] at e; have := h.dom g' e; exact ⟨this.1, by simp; omega⟩
theorem HsK.made (h : HsK B w b who n f K) (o : Obj) : HsK B (w.alloc o) b (setW who w.heap.size .kept) n f K := by
  refine ⟨h.1.made o, fun c hc x hx g e => ?_⟩
  have := h.2 c hc x hx g e
  rw [setW_ne _ _ (fun e2 => by subst e2; have := (h.1.dom _ (by rw [this]; simp)).2; omega)]; exact this
theorem Fr.made {ex : Nat → Prop} (h : Fr w0 w who0 who ex) (hd : w0.heap.size ≤ w.heap.size) (o : Obj) : Fr w0 (w.alloc o) who0 (Go.Proofs.YtklenjmfalljgaaDoor.setW who w.heap.size .kept) ex :=
  Fr.setW (h.trans (Fr.grown (grown_alloc (grown_refl _ _)))) (Or.inl hd)

theorem WrK.step (h : WrK B w0 w b who0 who n f0 f K lv len R m k) {g cp : Nat} (hv : lv = .slice (some ⟨g, 0, none⟩) len cp) (hk : k < len) :
    WrK B w0 ((w.alloc (.cells #[.int .i64 m, .int .i64 0, .int .i64 0, .int .i64 0] 28)).setCell ⟨g, k, none⟩ (.slice (some ⟨w.heap.size, 0, none⟩) 1 1)) b who0 (setW who w.heap.size .kept) n f0 f K lv len (R.set k (.slice (some ⟨w.heap.size, 0, none⟩) 1 1)) m (k + 1) := by
  have hgo : who g = .other := h.oth g (by rw [hv]; rfl)
  have hgl : g < w.heap.size := owns_ltH h.row g (by rw [hv]; rfl)
  have hgo' : setW who w.heap.size .kept g = .other := by rw [setW_ne _ _ (by omega)]; exact hgo
  have hRl : R.length = len := by have := h.row.1; omega
  refine ⟨(h.hs.made _).setOther hgo', ?_, fun j hj => ?_, (h.fr.made h.fr.size _).trans (Fr.set (Or.inr (by rw [hv]; rfl))), fun g' e => ?_, h.lent⟩
  · have := owns_setCell (owns_alloc (o := .cells #[.int .i64 m, .int .i64 0, .int .i64 0, .int .i64 0] 28) (by have := h.row; rw [hv] at this; exact this)) k (.slice (some ⟨w.heap.size, 0, none⟩) 1 1)
    rw [hv]; exact this
  · by_cases e : j < k
    · obtain ⟨g', cap', q1, q2, q3⟩ := h.el j e
      have hl' := (h.hs.1.dom g' (by rw [q3]; simp)).2
      have hng : g' ≠ g := fun e2 => by rw [e2, hgo] at q3; cases q3
      refine ⟨g', cap', by rw [List.getElem?_set_ne (by omega)]; exact q1, ?_, by rw [setW_ne _ _ (by omega)]; exact q3⟩
      rw [Below.heap_setCell _ _ _ _ (by simpa using hng), Below.heap_alloc _ _ _ hl']; exact q2
    · have ej : j = k := by omega
      subst ej
      refine ⟨w.heap.size, 1, by rw [List.getElem?_set_self (by omega)], ?_, setW_at _ _ _⟩
      rw [Below.heap_setCell _ _ _ _ (by simp only; omega)]
      exact heap_alloc_new w _
  · rw [hv] at e
    simp only [Value.ownBlock, Option.some.injEq] at e
    subst e; exact hgo'

theorem KpH.push (h : KpH B w0 w b who0 who n m f0 f K0 K lv len R k ex) {o : Obj} {g6 c6 : Nat}
    (hown : w6.ownsRow B (tlC 4) 1 (.slice (some ⟨g6, 0, none⟩) ((K 4).length + 1) c6) ((K 4).length + 1) ((K 4).map (·.1) ++ [lv]))
    (key : ((f (6 + 2 * 4)).ownBlock = some g6 ∧ (w.alloc o).grownBy w6 (some g6)) ∨ (g6 = w.heap.size + 1 ∧ (w.alloc o).grownBy w6 none)) :
    HB w6 b f ∧ ∃ who' f', KpB B w0 (w6.setCell ⟨b, 6 + 2 * 4, none⟩ (.slice (some ⟨g6, 0, none⟩) ((K 4).length + 1) c6)) b who0 who' n m f0 f' K0 K lv len R k ex ∧ f' (7 + 2 * 4) = f (7 + 2 * 4) := by
  obtain ⟨hsz, hst, hsr, h6r⟩ := key_stays key (fun g e => (h.hs.dom g e).2) (r := .lst 4) (by simp) (h.hs.wl 4 (by omega))
  have hblk : HB w6 b f := h.hs.blk.same (hst b (by rw [h.hs.wb]; simp) (by rw [h.hs.wb]; simp)).1
  obtain ⟨h1, h2⟩ := h.hs.push4 h.cu rfl hown key
  refine ⟨hblk, _, _, ⟨h1, h2, ?_, fun o ho => by rw [setF_ne _ _ (by omega)]; exact h.lent o ho, h.len, h.oth⟩, setF_ne _ _ (by omega)⟩
  refine (h.fr.trans (Fr.key (r := .lst 4) (fun g e => by rw [h.hs.wl 4 (by omega) g e]; simp) key)).trans (Fr.set (Or.inl ?_))
  have := h1.wb
  rw [this]; simp

theorem KpB.tell (h : KpB B w0 w b who0 who n m f0 f K0 K lv len R k ex) {M1 : Option Addr} {N M3 : Nat} (eM : f (7 + 2 * 4) = .slice M1 N M3) (hN : (K 4).length = N) {o : Obj} {g6 c6 : Nat}
    (hown : w6.ownsRow B 3 1 (.slice (some ⟨g6, 0, none⟩) (N + 1) c6) (N + 1) (ints ((K 4).map (·.2)) ++ [.int .i64 m]))
    (key : ((Value.slice M1 N M3).ownBlock = some g6 ∧ (w.alloc o).grownBy w6 (some g6)) ∨ (g6 = w.heap.size + 1 ∧ (w.alloc o).grownBy w6 none)) :
    HB w6 b f ∧ ∃ who' f', KpH B w0 (w6.setCell ⟨b, 7 + 2 * 4, none⟩ (.slice (some ⟨g6, 0, none⟩) (N + 1) c6)) b who0 who' n m f0 f' K0 (setK K 4 (K 4 ++ [(lv, m)])) lv len R (k + 1) ex := by
  rw [← eM] at key
  obtain ⟨hsz, hst, hsr, h6r⟩ := key_stays key (fun g e => (h.hs.dom g e).2) (r := .mrk 4) (by simp) (h.hs.wm 4 (by omega))
  have hblk : HB w6 b f := h.hs.blk.same (hst b (by rw [h.hs.wb]; simp) (by rw [h.hs.wb]; simp)).1
  have hMl : (marksOf K 4).length = N := by simp [marksOf, hN]
  obtain ⟨h1, h2⟩ := h.hs.tell4 h.cu rfl (w6 := w6) (g6 := g6) (c6 := c6) (o := o) (by rw [hMl]; exact hown) key
  rw [hMl] at h1 h2
  refine ⟨hblk, _, _, ⟨by rw [marks_push]; exact h1, h2, ?_, fun o ho => by rw [setF_ne _ _ (by omega)]; exact h.lent o ho, by rw [setK_at, List.length_append, h.len]; simp; omega, fun c' hc' => by rw [setK_ne _ _ hc']; exact h.oth c' hc'⟩⟩
  refine (h.fr.trans (Fr.key (r := .mrk 4) (fun g e => by rw [h.hs.wm 4 (by omega) g e]; simp) key)).trans (Fr.set (Or.inl ?_))
  have := h1.wb
  rw [this]; simp

theorem KpH.grow (h : KpH B w0 w b who0 who n m f0 f K0 K lv len R k ex) (hlen : len + 1 ≤ 1000) {o : Obj} {g6 c6 : Nat}
    {v : Value} (hv4 : ∃ g' cap', v = .slice (some ⟨g', 0, none⟩) 1 cap' ∧ w.heap[g']? = some (.cells (elC m 3).toArray 28 (0, 0)) ∧ who g' = .kept)
    (hown : w6.ownsRow B 29 1 (.slice (some ⟨g6, 0, none⟩) (len + 1) c6) (len + 1) (R ++ [v]))
    (key : (lv.ownBlock = some g6 ∧ (w.alloc o).grownBy w6 (some g6)) ∨ (g6 = w.heap.size + 1 ∧ (w.alloc o).grownBy w6 none)) :
    ∃ who', KpH B w0 w6 b who0 who' n m f0 f K0 K (.slice (some ⟨g6, 0, none⟩) (len + 1) c6) (len + 1) (R ++ [v]) k ex := by
  obtain ⟨h1, h2⟩ := h.hs.grow4 h.cu rfl hlen hv4 hown key
  exact ⟨_, h1, h2, h.fr.trans (Fr.key (fun g e => by rw [h.cu.wc g e]; simp) key), h.lent, h.len, h.oth⟩

theorem WrK.kp (h : WrK B w0 w b who0 who n f0 f K lv len R m len) (hl : len ≤ 1000) : ∃ who1, KpH B w0 w b who0 who1 n m f0 f K K lv len R 0 (fun g => lv.ownBlock = some g) := by
  obtain ⟨who', h1, h2, h3⟩ := h.hs.1.begin4 (c := 4) rfl h.hs.2 h.row hl h.el h.oth
  refine ⟨who', h1, h2, ⟨h.fr.os, h.fr.tape, h.fr.output, h.fr.size, fun g q1 q2 q3 => ?_⟩, h.lent, rfl, fun _ _ => rfl⟩
  obtain ⟨a, b⟩ := h.fr.oth g q1 q2 q3
  exact ⟨a, by rw [h3 g q3]; exact b⟩
/-- The new list that is to stand behind. -/
theorem KpH.made (h : KpH B w0 w b who0 who n m f0 f K0 K lv len R k ex) (o : Obj) : KpH B w0 (w.alloc o) b who0 (setW who w.heap.size .kept) n m f0 f K0 K lv len R k ex := by
  have hne : ∀ g', who g' ≠ .other → setW who w.heap.size .kept g' = who g' := fun g' e => setW_ne _ _ (fun e2 => by subst e2; have := (h.hs.dom _ e).2; omega)
  refine ⟨h.hs.made o, ⟨owns_alloc h.cu.row, fun j hj => ?_, fun g e => ?_, fun x hx g e e2 => ?_, fun c' hc' hcn x hx g e => ?_, h.cu.ln⟩, h.fr.made h.fr.size o, h.lent, h.len, h.oth⟩
  · obtain ⟨g', cap', q1, q2, q3⟩ := h.cu.el j hj
    exact ⟨g', cap', q1, by rw [Below.heap_alloc _ _ _ (h.hs.dom g' (by rw [q3]; simp)).2]; exact q2, by rw [hne g' (by rw [q3]; simp)]; exact q3⟩
  · have := h.cu.wc g e; rw [hne g (by rw [this]; simp)]; exact this
  · refine h.cu.ent x hx g e ?_
    by_cases e3 : g = w.heap.size
    · subst e3; rw [setW_at] at e2; cases e2
    · rw [setW_ne _ _ e3] at e2; exact e2
  · have := h.cu.oth c' hc' hcn x hx g e; rw [hne g (by rw [this]; simp)]; exact this

theorem KpH.done (h : KpH B w0 w b who0 who n m f0 f K0 K lv len R 4 ex) : ∃ who' f' K', HsK B w b who' n f' K' ∧ After 4 w0 w who0 who' f0 f' K0 K' ex :=
  ⟨settleW who, f, K, ⟨h.hs.settled.1, h.hs.settled.2⟩, ⟨h.fr.settled, h.lent, h.len, h.oth⟩⟩
end

end Go.Proofs.YtklenjmfalljgaaDoor
