/- The state's block in memory; what the closures do to it. -/
import Derived.Test.YtklenjmfalljgaaDoorPure
import Derived.Test.YtklenjmfalljgaaDoorClo
import Derived.Test.YtklenjmfalljgaaDoorClo2
import Derived.Test.YtklenjmfalljgaaDoorClo3
import Derived.Test.YtklenjmfalljgaaDoorClo4
import Derived.Laws.Rows
namespace Go.Proofs.YtklenjmfalljgaaDoor
open Go.RowKit

def St.cells (s : St) : Array Value := #[.int .i64 (s.vars 0), .int .i64 (s.vars 1), .int .i64 (s.vars 2), .int .i64 (s.vars 3),
  .bool (s.held 0), .int .i64 (s.own 0), .bool (s.held 1), .int .i64 (s.own 1), .bool (s.held 2), .int .i64 (s.own 2),
  .int .i64 (s.regs 0 0), .int .i64 (s.regs 0 1), .int .i64 (s.regs 0 2), .int .i64 (s.regs 0 3), .int .i64 (s.regs 1 0), .int .i64 (s.regs 1 1), .int .i64 (s.regs 1 2), .int .i64 (s.regs 1 3),
  .int .i64 (s.regs 2 0), .int .i64 (s.regs 2 1), .int .i64 (s.regs 2 2), .int .i64 (s.regs 2 3), .int .i64 (s.regs 3 0), .int .i64 (s.regs 3 1), .int .i64 (s.regs 3 2), .int .i64 (s.regs 3 3),
  .int .i64 (s.next 0), .int .i64 (s.next 1), .int .i64 (s.next 2), .int .i64 (s.next 3)]

def StAt (w : World) (b : Nat) (s : St) : Prop := w.heap[b]? = some (.cells s.cells 137 (0, 0))

theorem lt4 {t : Nat} (h : t < 4) : t = 0 ∨ t = 1 ∨ t = 2 ∨ t = 3 := by omega
theorem lt3 {t : Nat} (h : t < 3) : t = 0 ∨ t = 1 ∨ t = 2 := by omega

theorem StAt.cell {w : World} {b : Nat} {s : St} (h : StAt w b s) (o : Nat) : w.cell? ⟨b, o, none⟩ = s.cells[o]? := by
  unfold StAt at h; simp [World.cell?, h]
theorem StAt.frozen {w : World} {b : Nat} {s : St} (h : StAt w b s) (o : Nat) : w.frozen? ⟨b, o, none⟩ = false := by
  unfold StAt at h; simp [World.frozen?, h]
theorem StAt.var {w : World} {b : Nat} {s : St} (h : StAt w b s) {v : Nat} (hv : v < 4) : w.cell? ⟨b, v, none⟩ = some (.int .i64 (s.vars v)) := by
  rw [h.cell]; rcases lt4 hv with rfl | rfl | rfl | rfl <;> rfl
theorem StAt.held {w : World} {b : Nat} {s : St} (h : StAt w b s) {l : Nat} (hl : l < 3) : w.cell? ⟨b, 4 + l * 2, none⟩ = some (.bool (s.held l)) := by
  rw [h.cell]; rcases lt3 hl with rfl | rfl | rfl <;> rfl
theorem StAt.own {w : World} {b : Nat} {s : St} (h : StAt w b s) {l : Nat} (hl : l < 3) : w.cell? ⟨b, 4 + l * 2 + 1, none⟩ = some (.int .i64 (s.own l)) := by
  rw [h.cell]; rcases lt3 hl with rfl | rfl | rfl <;> rfl
theorem StAt.reg {w : World} {b : Nat} {s : St} (h : StAt w b s) {t r : Nat} (ht : t < 4) (hr : r < 4) : w.cell? ⟨b, 10 + t * 4 + r, none⟩ = some (.int .i64 (s.regs t r)) := by
  rw [h.cell]; rcases lt4 ht with rfl | rfl | rfl | rfl <;> rcases lt4 hr with rfl | rfl | rfl | rfl <;> rfl
theorem StAt.next {w : World} {b : Nat} {s : St} (h : StAt w b s) {t : Nat} (ht : t < 4) : w.cell? ⟨b, 26 + t, none⟩ = some (.int .i64 (s.next t)) := by
  rw [h.cell]; rcases lt4 ht with rfl | rfl | rfl | rfl <;> rfl

theorem cells_setReg (s : St) {t r : Nat} (ht : t < 4) (hr : r < 4) (v : Int) : s.cells.setIfInBounds (10 + t * 4 + r) (.int .i64 v) = (s.setReg t r v).cells := by
  rcases lt4 ht with rfl | rfl | rfl | rfl <;> rcases lt4 hr with rfl | rfl | rfl | rfl <;> rfl
theorem cells_setVar (s : St) {x : Nat} (hx : x < 4) (v : Int) : s.cells.setIfInBounds x (.int .i64 v) = (s.setVar x v).cells := by
  rcases lt4 hx with rfl | rfl | rfl | rfl <;> rfl
theorem cells_setNext (s : St) {x : Nat} (hx : x < 4) (v : Int) : s.cells.setIfInBounds (26 + x) (.int .i64 v) = (s.setNext x v).cells := by
  rcases lt4 hx with rfl | rfl | rfl | rfl <;> rfl
theorem cells_setLock (s : St) {l : Nat} (hl : l < 3) (h : Bool) (o : Int) : (s.cells.setIfInBounds (4 + l * 2) (.bool h)).setIfInBounds (4 + l * 2 + 1) (.int .i64 o) = (s.setLock l h o).cells := by
  rcases lt3 hl with rfl | rfl | rfl <;> rfl

theorem StAt.setCell {w : World} {b : Nat} {s s' : St} {o : Nat} {v : Value} (h : StAt w b s) (e : s.cells.setIfInBounds o v = s'.cells) : StAt (w.setCell ⟨b, o, none⟩ v) b s' := by
  unfold StAt at *; rw [heap_setCell_same w b o _ _ v h, e]
theorem StAt.setCell2 {w : World} {b : Nat} {s s' : St} {o o' : Nat} {v v' : Value} (h : StAt w b s) (e : (s.cells.setIfInBounds o v).setIfInBounds o' v' = s'.cells) : StAt ((w.setCell ⟨b, o, none⟩ v).setCell ⟨b, o', none⟩ v') b s' := by
  unfold StAt at *
  rw [heap_setCell_same _ b o' _ _ v' (heap_setCell_same w b o _ _ v h), e]

theorem StAt.like {w w' : World} {b : Nat} {s : St} (h : StAt w b s) (hl : Like w' w) : StAt w' b s := by unfold StAt at *; rw [hl.1]; exact h

theorem grown_refl (w : World) (r : Option Nat) : w.grownBy w r := ⟨rfl, rfl, rfl, Nat.le_refl _, fun _ _ _ => rfl⟩
theorem grown_like {w w' w'' : World} {r : Option Nat} (h : w.grownBy w' r) (hl : Like w'' w') : w.grownBy w'' r :=
  ⟨hl.2.1.trans h.os, hl.2.2.2.trans h.tape, hl.2.2.1.trans h.output, by rw [hl.1]; exact h.size, fun k hk hr => by rw [hl.1]; exact h.block k hk hr⟩
theorem grown_trans {w w' w'' : World} {r : Option Nat} (h : w.grownBy w' r) (h' : w'.grownBy w'' r) : w.grownBy w'' r :=
  ⟨h'.os.trans h.os, h'.tape.trans h.tape, h'.output.trans h.output, Nat.le_trans h.size h'.size, fun k hk hr => (h'.block k (Nat.lt_of_lt_of_le hk h.size) hr).trans (h.block k hk hr)⟩
theorem grown_set {w : World} {b o : Nat} {v : Value} : w.grownBy (w.setCell ⟨b, o, none⟩ v) (some b) :=
  ⟨rfl, rfl, rfl, by simp, fun k _ hr => Below.heap_setCell w _ v k (by simpa using hr)⟩
theorem grown_set2 {w : World} {b o o' : Nat} {v v' : Value} : w.grownBy ((w.setCell ⟨b, o, none⟩ v).setCell ⟨b, o', none⟩ v') (some b) := grown_trans grown_set grown_set

/-- The value v, called with the state at block b, answers r and leaves the world so. -/
def Does (w : World) (v : Value) (b : Nat) (R : Bool → World → Prop) : Prop :=
  ∃ k caps, v = .func (.func k) #[] caps ∧ (∀ args w, (callFunc k args).run Tryd.prog w = .ok (.enter k args) w) ∧
    Calls Tryd.prog k (#[.pointer (some ⟨b, 0, none⟩)] ++ caps) w fun e w' => ∃ r, e = .returned (.bool r) ∧ R r w'

def pt (b : Nat) : Value := .pointer (some ⟨b, 0, none⟩)

/-- v is the closure of the instruction i of thread t; what it holds lies in blocks below B. -/
def ActIs (B : Nat) (w : World) (v : Value) (t : Nat) (i : Ins) : Prop :=
  ∃ x y z u : Nat, x < B ∧ y < B ∧ z < B ∧ u < B ∧
  ((i.op = 1 ∧ v = .func (.func 183) #[] #[pt x, pt y, pt z] ∧ w.cell? ⟨x, 0, none⟩ = some (.int .i64 i.n) ∧ w.cell? ⟨y, 0, none⟩ = some (.int .i64 t) ∧ w.cell? ⟨z, 0, none⟩ = some (.int .i64 i.a)) ∨
   (i.op = 2 ∧ v = .func (.func 184) #[] #[pt x, pt y, pt z] ∧ w.cell? ⟨x, 0, none⟩ = some (.int .i64 i.b) ∧ w.cell? ⟨y, 0, none⟩ = some (.int .i64 t) ∧ w.cell? ⟨z, 0, none⟩ = some (.int .i64 i.a)) ∨
   (i.op = 3 ∧ v = .func (.func 185) #[] #[pt x, pt y, pt z] ∧ w.cell? ⟨x, 0, none⟩ = some (.int .i64 t) ∧ w.cell? ⟨y, 0, none⟩ = some (.int .i64 i.b) ∧ w.cell? ⟨z, 0, none⟩ = some (.int .i64 i.a)) ∨
   (∃ f, (i.op = 4 ∧ f = 148 ∨ i.op = 5 ∧ f = 149 ∨ i.op = 6 ∧ f = 150) ∧ v = .func (.func 186) #[] #[pt x, pt y, pt z, pt u] ∧ w.cell? ⟨x, 0, none⟩ = some (.func (.func f) #[] #[]) ∧ w.cell? ⟨y, 0, none⟩ = some (.int .i64 t) ∧ w.cell? ⟨z, 0, none⟩ = some (.int .i64 i.a) ∧ w.cell? ⟨u, 0, none⟩ = some (.int .i64 i.b)) ∨
   (i.op = 7 ∧ v = .func (.func 187) #[] #[pt x, pt y, pt z] ∧ w.cell? ⟨x, 0, none⟩ = some (.int .i64 t) ∧ w.cell? ⟨y, 0, none⟩ = some (.int .i64 i.b) ∧ w.cell? ⟨z, 0, none⟩ = some (.int .i64 i.a)) ∨
   (i.op = 8 ∧ v = .func (.func 188) #[] #[pt x, pt y, pt z] ∧ w.cell? ⟨x, 0, none⟩ = some (.int .i64 t) ∧ w.cell? ⟨y, 0, none⟩ = some (.int .i64 i.a) ∧ w.cell? ⟨z, 0, none⟩ = some (.int .i64 i.n)) ∨
   (i.op = 9 ∧ v = .func (.func 189) #[] #[pt x, pt y] ∧ w.cell? ⟨x, 0, none⟩ = some (.int .i64 t) ∧ w.cell? ⟨y, 0, none⟩ = some (.int .i64 i.a)) ∨
   (i.op = 10 ∧ v = .func (.func 190) #[] #[pt x, pt y] ∧ w.cell? ⟨x, 0, none⟩ = some (.int .i64 i.a) ∧ w.cell? ⟨y, 0, none⟩ = some (.bool true) ∧ w.cell? ⟨y, 1, none⟩ = some (.int .i64 t)) ∨
   (i.op = 11 ∧ v = .func (.func 191) #[] #[pt x, pt y] ∧ w.cell? ⟨x, 0, none⟩ = some (.int .i64 t) ∧ w.cell? ⟨y, 0, none⟩ = some (.int .i64 i.a)))

theorem ActIs.of_block {B : Nat} {w w' : World} {v : Value} {t : Nat} {i : Ins} (h : ActIs B w v t i) (hb : ∀ k, k < B → w'.heap[k]? = w.heap[k]?) : ActIs B w' v t i := by
  obtain ⟨x, y, z, u, hx, hy, hz, hu, h⟩ := h
  have cx : ∀ o, w'.cell? ⟨x, o, none⟩ = w.cell? ⟨x, o, none⟩ := fun o => World.cell?_of_block (hb x hx)
  have cy : ∀ o, w'.cell? ⟨y, o, none⟩ = w.cell? ⟨y, o, none⟩ := fun o => World.cell?_of_block (hb y hy)
  have cz : ∀ o, w'.cell? ⟨z, o, none⟩ = w.cell? ⟨z, o, none⟩ := fun o => World.cell?_of_block (hb z hz)
  have cu : ∀ o, w'.cell? ⟨u, o, none⟩ = w.cell? ⟨u, o, none⟩ := fun o => World.cell?_of_block (hb u hu)
  exact ⟨x, y, z, u, hx, hy, hz, hu, by simpa only [cx, cy, cz, cu] using h⟩
theorem ActIs.mono {B B' : Nat} {w : World} {v : Value} {t : Nat} {i : Ins} (h : ActIs B w v t i) (hb : B ≤ B') : ActIs B' w v t i := by
  obtain ⟨x, y, z, u, hx, hy, hz, hu, h⟩ := h
  exact ⟨x, y, z, u, by omega, by omega, by omega, by omega, h⟩

end Go.Proofs.YtklenjmfalljgaaDoor
