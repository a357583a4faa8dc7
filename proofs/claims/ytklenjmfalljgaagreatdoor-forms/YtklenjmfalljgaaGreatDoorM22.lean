/- The texts Arg Arh Arw. -/
import Derived.Test.YtklenjmfalljgaaGreatDoorM18
import Derived.Test.YtklenjmfalljgaaGreatDoorM21
import Derived.Test.YtklenjmfalljgaaGreatDoorRows
import Derived.Deep.Slices
import Derived.Deep.DeepHandedRow
import Derived.Deep.DeepWitnessRowRef
import Derived.LaidMore
import Derived.Carry
import Derived.ProofKit
import Derived.OpenShut
import Derived.Lib.SmallJoins

/- From the rows' readings to the walks' facts. -/
namespace Go.Proofs.YtklenjmfalljgaaGreatDoor
open Go.ChangeShapes Go.WideShapes Go.ChangeAt Go.RowKit

theorem own : ownKnob Tryz.prog.godebug = none := by kernel_rfl
theorem laidOut : laidOutB Tryz.prog = true := by kernel_rfl
theorem gShp : Tryz.prog.globalNamed "rerun/machine.shapes" = some 0 := by kernel_rfl
theorem tShp : (Tryz.prog.globals[0]?).map (·.type) = some 233 := by kernel_rfl
theorem cInt : Tryz.prog.cellsOf 3 = 1 := by kernel_rfl
theorem cShape : Tryz.prog.cellsOf 232 = 3 := by kernel_rfl
theorem cKind : Tryz.prog.cellsOf 230 = 1 := by kernel_rfl

theorem grown_below {w w' : World} (h : w.grownBy w' none) : Below w.heap.size w w' := ⟨h.os, h.tape, h.output, h.size, fun k hk => h.block k hk (by simp)⟩

theorem lt_cell {w : World} {a : Addr} {v : Value} (h : w.cell? a = some v) : a.block < w.heap.size := by
  unfold World.cell? at h
  split at h
  · rename_i hh; exact (Array.getElem?_eq_some_iff.1 hh).1
  · cases h

theorem addr_form {w : World} {a : Addr} {j : Nat} {v : Value} (h0 : a.spot = none) (h : w.cell? (a.add j) = some v) : w.cell? ⟨a.block, a.off + j, none⟩ = some v := by
  have e : a.add j = ⟨a.block, a.off + j, none⟩ := by
    obtain ⟨b, o, s⟩ := a
    simp only at h0
    subst h0
    unfold Addr.add; split <;> simp_all
  rw [e] at h; exact h

section
variable {H : Type} {enc : TypeId × Value → H} {W : World}

end

theorem shp_tab (o j : Nat) (ho : o < 12) (hj : j < 3) (l : List (DataW Unit)) (h : (DataW.agg l : DataW Unit) = (match (Rows.laid_rerun_machine_shapes : DataW Unit) with | .agg l => l[o]?.getD .nil | _ => .nil)) : l[j]? = some (.lit (.int .i64 (shp o j))) := by
  have ho' : o = 0 ∨ o = 1 ∨ o = 2 ∨ o = 3 ∨ o = 4 ∨ o = 5 ∨ o = 6 ∨ o = 7 ∨ o = 8 ∨ o = 9 ∨ o = 10 ∨ o = 11 := by omega
  have hj' : j = 0 ∨ j = 1 ∨ j = 2 := by omega
  rcases ho' with rfl | rfl | rfl | rfl | rfl | rfl | rfl | rfl | rfl | rfl | rfl | rfl <;> (simp [Rows.laid_rerun_machine_shapes] at h; subst h; rcases hj' with rfl | rfl | rfl <;> rfl)

theorem shp_one {W : World} {g0 : Nat} {t0 : TypeId} {cs0 : Array Value} {f0 : Nat} {p0 : List MemPlace} (hg0 : Tryz.prog.globalNamed "rerun/machine.shapes" = some g0) (ht0 : (Tryz.prog.globals[g0]?).map (·.type) = some t0) (hv0 : W.var? Tryz.prog "rerun/machine.shapes" = some cs0)
    (hd0 : DataW.trod (fun _ => ()) Tryz.prog W 0 (fun _ => true) false f0 t0 cs0.toList = some (Rows.laid_rerun_machine_shapes, p0)) : ShpAt W := by
  obtain rfl := Option.some.inj (gShp.symm.trans hg0)
  obtain rfl := Option.some.inj (tShp.symm.trans ht0)
  obtain ⟨xs, m1, rfl, hx1, hlen, hn12, hel⟩ := DataW.trod_array Tryz.underlying233 hd0
  simp only [Prod.mk.injEq] at hx1
  intro o j ho hj
  have hox : o < xs.length := by omega
  have h1 := hel o ho
  rw [cShape, List.getElem?_eq_getElem hox] at h1
  obtain ⟨ys, m2, rfl, hy1, hylen, hn3, hfe⟩ := DataW.trod_struct Tryz.underlying232 h1
  have hdo : (DataW.agg (ys.map (·.1)) : DataW Unit) = xs[o].1 := by rw [hy1]
  have hxo : (xs.map (·.1))[o]? = some xs[o].1 := by simp [hox]
  have hdat : (DataW.agg (ys.map (·.1)) : DataW Unit) = (match (Rows.laid_rerun_machine_shapes : DataW Unit) with | .agg l => l[o]?.getD .nil | _ => .nil) := by
    rw [hdo, hx1.1]; simp [hox]
  have hyj := shp_tab o j ho hj _ hdat
  have hjl : j < ys.length := by rw [hn3]; simpa using hj
  have hf : DataW.trod (fun _ => ()) Tryz.prog W 0 (fun _ => true) false m2 230 ((((cs0.toList.drop (o * 3)).take 3).drop j).take 1) = some ys[j] := by
    have hj' : j = 0 ∨ j = 1 ∨ j = 2 := by omega
    rcases hj' with rfl | rfl | rfl
    · have := hfe 0 _ rfl; rw [List.getElem?_eq_getElem hjl] at this; simpa [cKind] using this
    · have := hfe 1 _ rfl; rw [List.getElem?_eq_getElem hjl] at this; simpa [cKind] using this
    · have := hfe 2 _ rfl; rw [List.getElem?_eq_getElem hjl] at this; simpa [cKind] using this
  obtain ⟨k, e1, e2, _⟩ := DataW.trod_int Tryz.underlying230 hf
  have hk : k = shp o j := by
    rw [List.getElem?_map, List.getElem?_eq_getElem hjl, e2] at hyj
    simpa using hyj
  have hcell := World.var?_cell hg0 hv0 (o * 3 + j)
  have hc : cs0[o * 3 + j]? = some (.int .i64 k) := by
    have h0 := congrArg (fun l => l[0]?) e1
    simp [hj] at h0
    exact h0
  rw [hk] at hc
  rw [hcell]; exact hc

theorem shp_of_laid {W : World} (h : laidMetH Tryz.prog [("rerun/machine.shapes", Rows.laid_rerun_machine_shapes)] W) : ShpAt W := by
  rw [MakeChecks.laidMetH_plain _ _ _ (by kernel_rfl)] at h
  obtain ⟨ps, ⟨g0, t0, cs0, f0, p0, q0, hg0, ht0, hv0, hd0, _, _⟩, _, _⟩ := h
  exact shp_one hg0 ht0 hv0 hd0

end Go.Proofs.YtklenjmfalljgaaGreatDoor

/- Programs as arguments, and how great they are. -/
namespace Go.Proofs.YtklenjmfalljgaaGreatDoor
open Go.ChangeShapes Go.WideShapes Go.ChangeAt Go.RowKit Go.Joins

theorem bulkOne {H : Type} (d : DataW H) : 1 ≤ Rows.uptoBulk d := by
  cases d with
  | lit l => cases l <;> simp [Rows.uptoBulk]
  | nil => simp [Rows.uptoBulk]
  | ptr d => simp [Rows.uptoBulk]
  | slice elems spare => simp [Rows.uptoBulk]
  | agg parts => simp [Rows.uptoBulk]
  | iface t d => simp [Rows.uptoBulk]
  | map entries => simp [Rows.uptoBulk]
  | held h => simp [Rows.uptoBulk]
theorem bulkLen {H : Type} (l : List (DataW H)) : l.length ≤ Rows.uptoBulkAll l := by
  induction l with
  | nil => simp [Rows.uptoBulkAll]
  | cons x r ih => have := bulkOne x; simp only [Rows.uptoBulkAll, List.length_cons]; omega
theorem bulkIn {H : Type} (l : List (DataW H)) (d : DataW H) (h : d ∈ l) : Rows.uptoBulk d ≤ Rows.uptoBulkAll l := by
  induction l with
  | nil => cases h
  | cons x r ih =>
    simp only [Rows.uptoBulkAll]
    rcases List.mem_cons.1 h with rfl | h
    · omega
    · have := ih h; omega

theorem cIns : Tryz.prog.cellsOf 74 = 4 := by kernel_rfl
theorem cCode : Tryz.prog.cellsOf 75 = 1 := by kernel_rfl
theorem cRows : Tryz.prog.cellsOf 22 = 1 := by kernel_rfl
theorem cProg : Tryz.prog.cellsOf 24 = 1 := by kernel_rfl

section
variable {H : Type} {enc : TypeId × Value → H} {W : World}

set_option maxRecDepth 100000 in
theorem ins_of {fuel : Nat} {cs : List Value} {x : DataW H × List MemPlace} (h : DataW.trod enc Tryz.prog W 0 (fun _ => true) true fuel 74 cs = some x) : ∃ i : Ins, cs = [.int .i64 i.op, .int .i64 i.a, .int .i64 i.b, .int .i64 i.n] ∧ isInt i.n := by
  obtain ⟨y0, y1, y2, y3, n, _, hl, h0, h1, h2, h3⟩ := trod_struct4 Tryz.underlying74 h
  rw [cIns] at hl
  match cs, hl with
  | [v0, v1, v2, v3], _ =>
    simp only [cInt, List.drop_zero, List.drop_succ_cons, List.take_succ_cons, List.take_zero] at h0 h1 h2 h3
    obtain ⟨k0, e0, _⟩ := DataW.trod_int Tryz.underlying3 h0
    obtain ⟨k1, e1, _⟩ := DataW.trod_int Tryz.underlying3 h1
    obtain ⟨k2, e2, _⟩ := DataW.trod_int Tryz.underlying3 h2
    obtain ⟨k3, e3, _, hw3⟩ := DataW.trod_int Tryz.underlying3 h3
    simp only [List.cons.injEq, and_true] at e0 e1 e2 e3
    subst e0 e1 e2 e3
    exact ⟨⟨k0, k1, k2, k3⟩, rfl, by simpa [Lit.wf, IntKind.min, IntKind.max, IntKind.signed, IntKind.bits, isInt] using hw3⟩

set_option maxRecDepth 100000 in
theorem codeAt_of {fuel : Nat} {v : Value} {x : DataW H × List MemPlace} (h : DataW.trod enc Tryz.prog W 0 (fun _ => true) true fuel 75 [v] = some x) : ∃ c, CodeAt W v c ∧ nilA v ∧ c.length ≤ Rows.uptoBulk x.1 ∧ ∀ i ∈ c, isInt i.n := by
  rcases Deep.open_slice Tryz.underlying75 h with ⟨e, _⟩ | ⟨a, len, cap, m, n, D, Pl, e, _, hl, _, hm, hx, hel⟩
  · simp only [List.cons.injEq, and_true] at e
    subst e
    exact ⟨[], ⟨none, 0, rfl, fun k hk => by simp at hk⟩, fun n c e => by simp at e; omega, by simp, fun i hi => by cases hi⟩
  · simp only [List.cons.injEq, and_true] at e
    subst e
    simp only [if_true] at hm
    rw [cIns] at hel
    have hinh : Inhabited Ins := ⟨⟨0, 0, 0, 0⟩⟩
    obtain ⟨f, hf⟩ := Deep.choose_lt (α := Ins) (n := len) (p := fun k i => W.cell? (a.add (k * 4)) = some (.int .i64 i.op) ∧ W.cell? (a.add (k * 4 + 1)) = some (.int .i64 i.a) ∧ W.cell? (a.add (k * 4 + 2)) = some (.int .i64 i.b) ∧ W.cell? (a.add (k * 4 + 3)) = some (.int .i64 i.n) ∧ isInt i.n) (fun k hk => by
      obtain ⟨cs', h1, h2⟩ := hel k (by omega)
      obtain ⟨i, rfl, hin⟩ := ins_of h2
      obtain ⟨_, _, h3⟩ := World.cells?_some h1
      refine ⟨i, ?_, ?_, ?_, ?_, hin⟩
      · have := h3 0 (by omega); rw [Deep.add_add] at this; simpa using this
      · have := h3 1 (by omega); rw [Deep.add_add] at this; simpa using this
      · have := h3 2 (by omega); rw [Deep.add_add] at this; simpa using this
      · have := h3 3 (by omega); rw [Deep.add_add] at this; simpa using this)
    have hlen : ((List.range len).map f).length = len := by simp
    refine ⟨(List.range len).map f, ⟨some a, cap, by rw [hlen], fun k hk => ?_⟩, fun n c e => by simp at e, ?_, fun i hi => ?_⟩
    · have hk' : k < len := by omega
      obtain ⟨h0, h1, h2, h3, _⟩ := hf k hk'
      have hs : a.spot = none := by
        have := (hf 0 (by omega)).1
        exact World.cell?_spot (w := W) (by simpa [Addr.add] using this)
      refine ⟨a.block, a.off, ?_, ?_, ?_, ?_, ?_⟩
      · obtain ⟨b, o, s⟩ := a
        simp only at hs; subst hs; rfl
      · simpa using addr_form hs h0
      · simpa [Nat.add_assoc] using addr_form hs h1
      · simpa [Nat.add_assoc] using addr_form hs h2
      · simpa [Nat.add_assoc] using addr_form hs h3
    · rw [hlen, hx]
      have := bulkLen ((List.range len).map D)
      simp only [Rows.uptoBulk]
      simp at this
      omega
    · obtain ⟨k, hk, rfl⟩ := List.mem_map.1 hi
      exact (hf k (by simpa using hk)).2.2.2.2

set_option maxRecDepth 100000 in
theorem rowsAt_of {fuel : Nat} {v : Value} {x : DataW H × List MemPlace} (h : DataW.trod enc Tryz.prog W 0 (fun _ => true) true fuel 22 [v] = some x) :
    ∃ p, ProgAt W (.agg #[v]) p ∧ ProgNil W (.agg #[v]) ∧ p.length ≤ Rows.uptoBulk x.1 ∧ ∀ c ∈ p, c.length ≤ Rows.uptoBulk x.1 ∧ ∀ i ∈ c, isInt i.n := by
  rcases Deep.open_slice1 Tryz.underlying22 cCode h with ⟨e, _⟩ | ⟨a, len, cap, m, n, V, D, Pl, e, _, hl, _, hm, hx, hel⟩
  · simp only [List.cons.injEq, and_true] at e
    subst e
    exact ⟨[], ⟨none, 0, rfl, fun k hk => by simp at hk⟩, fun g o n cap t rv e => by simp at e, by simp, fun c hc => by cases hc⟩
  · simp only [List.cons.injEq, and_true] at e
    subst e
    simp only [if_true] at hm
    obtain ⟨f, hf⟩ := Deep.choose_lt (α := List Ins) (n := len) (p := fun k c => CodeAt W (V k) c ∧ nilA (V k) ∧ c.length ≤ Rows.uptoBulk (D k) ∧ ∀ i ∈ c, isInt i.n) (fun k hk => codeAt_of (hel k (by omega)).2)
    have hlen : ((List.range len).map f).length = len := by simp
    have hs : 0 < len → a.spot = none := fun h0 => by
      have := (hel 0 (by omega)).1
      exact World.cell?_spot (w := W) (by simpa [Addr.add] using this)
    have hall : len + 0 ≤ Rows.uptoBulkAll ((List.range len).map D) := by
      have := bulkLen ((List.range len).map D)
      simp at this; omega
    refine ⟨(List.range len).map f, ⟨some a, cap, by rw [hlen], fun k hk => ?_⟩, fun g o n cp t rv e ht hc => ?_, ?_, fun c hc => ?_⟩
    · have hk' : k < len := by omega
      have h0 := hs (by omega)
      refine ⟨a.block, a.off, ?_, V k, addr_form h0 (hel k (by omega)).1, ?_⟩
      · obtain ⟨b, o, s⟩ := a
        simp only at h0; subst h0; rfl
      · simpa using (hf k hk').1
    · simp only [Value.agg.injEq, Array.mk.injEq, List.cons.injEq, Value.slice.injEq, Option.some.injEq, and_true] at e
      obtain ⟨rfl, rfl, rfl⟩ := e
      have h1 := addr_form rfl (hel t (by omega)).1
      simp only at h1
      rw [h1] at hc
      simp only [Option.some.injEq] at hc
      rw [← hc]
      exact (hf t ht).2.1
    · rw [hlen, hx]
      simp only [Rows.uptoBulk]
      omega
    · obtain ⟨k, hk, rfl⟩ := List.mem_map.1 hc
      have hk' : k < len := by simpa using hk
      obtain ⟨h1, h3⟩ := (hf k hk').2.2
      have h2 := bulkIn ((List.range len).map D) (D k) (List.mem_map.2 ⟨k, hk, rfl⟩)
      refine ⟨?_, h3⟩
      rw [hx]
      simp only [Rows.uptoBulk]
      omega

set_option maxRecDepth 100000 in
theorem ints_argN {v : Value} {d : DataW H} {ps : List MemPlace} {base : Nat} (hval : Value.okWide Tryz.prog W .any base 25 v) (h : DataW.Trod enc Tryz.prog W 0 (fun _ => true) true 25 v d ps) :
    ∃ l, IntsAt W.heap.size W v l ∧ nilA v ∧ l.length ≤ Rows.uptoBulk d := by
  obtain ⟨a0, len0, cap0, rfl⟩ := okWide_slice Tryz.underlying25 hval
  obtain ⟨fuel, hf⟩ := h
  rcases open_ints Tryz.underlying25 Tryz.underlying3 cInt hf with ⟨e, _⟩ | ⟨a, len, cap, zs, e, _, hl, _, hz, hx, hc, hw⟩
  · simp [Value.cells] at e
    rw [e.1, e.2.1, e.2.2]
    exact ⟨[], ⟨none, 0, rfl, Nat.le_refl _, fun k hk => by simp at hk⟩, fun n c e => by simp at e; omega, by simp⟩
  · simp [Value.cells] at e
    rw [e.1, e.2.1, e.2.2]
    simp only [if_true] at hz
    have hlen : (zs.take len).length = len := by simp; omega
    refine ⟨zs.take len, ⟨some a, cap, by rw [hlen], by omega, fun k hk => ?_⟩, fun n c e => by simp at e, ?_⟩
    · have h0 : a.spot = none := by
        have := hc 0 (by omega)
        exact World.cell?_spot (w := W) (by simpa [Addr.add] using this)
      have hkz : k < zs.length := by omega
      have := hc k hkz
      refine ⟨a.block, a.off, ?_, lt_cell (a := ⟨a.block, a.off + k, none⟩) (addr_form h0 this), ?_⟩
      · obtain ⟨b, o, s⟩ := a
        simp only at h0; subst h0; rfl
      · rw [addr_form h0 this]
        simp [List.getD, hkz]
    · have hd : d = .slice (lits .i64 (zs.take len)) (lits .i64 (zs.drop len)) := congrArg Prod.fst hx
      rw [hd]
      have := bulkLen (lits (H := H) .i64 (zs.take len))
      have hll : (lits (H := H) .i64 (zs.take len)).length = (zs.take len).length := by simp [lits]
      simp only [Rows.uptoBulk]
      omega
end

end Go.Proofs.YtklenjmfalljgaaGreatDoor

/- How long arguments are, by what they may weigh. -/
namespace Go.Proofs.YtklenjmfalljgaaGreatDoor
open Go.ChangeShapes Go.WideShapes Go.ChangeAt Go.RowKit Go.Joins

theorem bIns : Tryz.prog.bytesOf 74 = 32 := by kernel_rfl
theorem bCode : Tryz.prog.bytesOf 75 = 24 := by kernel_rfl
theorem bInt : Tryz.prog.bytesOf 3 = 8 := by kernel_rfl

/-- All that is met weighs no more than a process reaches. -/
def Light {H : Type} (t : TypeId) (d : DataW H) : Prop := ∀ n ∈ DataW.weights Tryz.prog t d, n ≤ 140737488351232

theorem light_all {H : Type} {e : TypeId} {l : List (DataW H)} {d : DataW H} (hd : d ∈ l) : ∀ {n : Nat}, n ∈ DataW.weights Tryz.prog e d → n ∈ DataW.weightsAll Tryz.prog e l := by
  intro n hn
  induction l with
  | nil => cases hd
  | cons x r ih =>
    unfold DataW.weightsAll
    rcases List.mem_cons.1 hd with rfl | hd
    · exact List.mem_append.2 (Or.inl hn)
    · exact List.mem_append.2 (Or.inr (ih hd))

theorem light_slice {H : Type} {t e : TypeId} {l sp : List (DataW H)} (ht : Tryz.prog.underlying t = some (.slice e)) (h : Light t (.slice l sp)) : (l.length + sp.length) * Tryz.prog.bytesOf e ≤ 140737488351232 ∧ ∀ d ∈ l, Light e d := by
  unfold Light at h
  simp only [DataW.weights, ht] at h
  refine ⟨h _ List.mem_cons_self, fun d hd n hn => h n (List.mem_cons_of_mem _ (List.mem_append.2 (Or.inl (light_all hd hn))))⟩

section
variable {H : Type} {enc : TypeId × Value → H} {W : World}

theorem ints_w {fuel : Nat} {a : Option Addr} {len cap : Nat} {x : DataW H × List MemPlace} (h : DataW.trod enc Tryz.prog W 0 (fun _ => true) true fuel 25 [.slice a len cap] = some x) (hw : Light 25 x.1) : len ≤ 17592186043904 := by
  rcases Deep.open_slice Tryz.underlying25 h with ⟨e, _⟩ | ⟨a', len', cap', m, n, D, Pl, e, _, hl, _, hm, hx, hel⟩
  · simp only [List.cons.injEq, Value.slice.injEq, and_true] at e
    omega
  · simp only [List.cons.injEq, Value.slice.injEq, and_true] at e
    rw [hx] at hw
    have := (light_slice Tryz.underlying25 hw).1
    rw [bInt] at this
    simp only [List.length_map, List.length_range] at this
    omega

theorem code_w {fuel : Nat} {a : Option Addr} {len cap : Nat} {x : DataW H × List MemPlace} (h : DataW.trod enc Tryz.prog W 0 (fun _ => true) true fuel 75 [.slice a len cap] = some x) (hw : Light 75 x.1) : len ≤ 4398046510976 := by
  rcases Deep.open_slice Tryz.underlying75 h with ⟨e, _⟩ | ⟨a', len', cap', m, n, D, Pl, e, _, hl, _, hm, hx, hel⟩
  · simp only [List.cons.injEq, Value.slice.injEq, and_true] at e
    omega
  · simp only [List.cons.injEq, Value.slice.injEq, and_true] at e
    rw [hx] at hw
    have := (light_slice Tryz.underlying75 hw).1
    rw [bIns] at this
    simp only [List.length_map, List.length_range] at this
    omega

theorem rows_w {fuel : Nat} {v : Value} {p : List (List Ins)} {x : DataW H × List MemPlace} (h : DataW.trod enc Tryz.prog W 0 (fun _ => true) true fuel 22 [v] = some x) (hp : ProgAt W (.agg #[v]) p) (hw : Light 22 x.1) : p.length ≤ 5864062014634 ∧ ∀ c ∈ p, c.length ≤ 4398046510976 := by
  obtain ⟨ao, cp, e0, hh⟩ := hp
  simp only [Value.agg.injEq, Array.mk.injEq, List.cons.injEq, and_true] at e0
  subst e0
  rcases Deep.open_slice1 Tryz.underlying22 cCode h with ⟨e, _⟩ | ⟨a, len, cap, m, n, V, D, Pl, e, _, hl, _, hm, hx, hel⟩
  · simp only [List.cons.injEq, Value.slice.injEq, and_true] at e
    have : p = [] := List.length_eq_zero_iff.1 e.2.1
    subst this
    exact ⟨by simp, fun c hc => by cases hc⟩
  · simp only [List.cons.injEq, Value.slice.injEq, and_true] at e
    obtain ⟨ea, el, ec⟩ := e
    rw [hx] at hw
    obtain ⟨h1, h2⟩ := light_slice Tryz.underlying22 hw
    rw [bCode] at h1
    simp only [List.length_map, List.length_range] at h1
    simp only [if_true] at hm
    refine ⟨by omega, fun c hc => ?_⟩
    obtain ⟨k, hk, rfl⟩ := List.getElem_of_mem hc
    obtain ⟨g, o, e1, rv, e2, e3⟩ := hh k hk
    obtain ⟨hc1, hc2⟩ := hel k (by omega)
    rw [ea] at e1
    simp only [Option.some.injEq] at e1
    subst e1
    have e4 : V k = rv := by
      have e5 : (Addr.mk g o none).add k = ⟨g, o + k, none⟩ := by simp [Addr.add]
      rw [e5, e2] at hc1
      simpa using hc1.symm
    obtain ⟨ca, cc, e6, _⟩ := e3
    rw [e4, e6] at hc2
    exact code_w hc2 (h2 (D k) (List.mem_map.2 ⟨k, List.mem_range.2 (by omega), rfl⟩))

set_option maxRecDepth 100000 in
theorem prog_argW {v : Value} {d : DataW H} {ps : List MemPlace} {base : Nat} (hval : Value.okWide Tryz.prog W .any base 24 v) (h : DataW.Trod enc Tryz.prog W 0 (fun _ => true) true 24 v d ps) (hw : Light 24 d) :
    ∃ p, ProgAt W v p ∧ ProgNil W v ∧ p.length ≤ 5864062014634 ∧ ∀ c ∈ p, c.length ≤ 4398046510976 := by
  obtain ⟨cs, rfl, hsz⟩ := okWide_struct Tryz.underlying24 hval
  obtain ⟨fuel, hf⟩ := h
  obtain ⟨y0, n, hx, hl, h0⟩ := trod_struct1 Tryz.underlying24 hf
  rw [cProg] at hsz
  obtain ⟨l⟩ := cs
  match l, hsz with
  | [c0], _ =>
    have h0' : DataW.trod enc Tryz.prog W 0 (fun _ => true) true n 22 [c0] = some y0 := by simpa [Value.cells, cRows] using h0
    obtain ⟨p, h1, h2, _, _⟩ := rowsAt_of h0'
    have hd : d = .agg [y0.1] := congrArg Prod.fst hx
    subst hd
    obtain ⟨h3, h4⟩ := rows_w h0' h1 (fun m hm => hw m (by simp [DataW.weights, Tryz.underlying24, DataW.weightsEach, hm]))
    exact ⟨p, h1, h2, h3, h4⟩

set_option maxRecDepth 100000 in
theorem ints_argW {v : Value} {d : DataW H} {ps : List MemPlace} {base : Nat} (hval : Value.okWide Tryz.prog W .any base 25 v) (h : DataW.Trod enc Tryz.prog W 0 (fun _ => true) true 25 v d ps) (hw : Light 25 d) :
    ∃ l, IntsAt W.heap.size W v l ∧ nilA v ∧ l.length ≤ 17592186043904 := by
  obtain ⟨l, h1, h2, _⟩ := ints_argN hval h
  obtain ⟨a, len, cap, rfl⟩ := okWide_slice Tryz.underlying25 hval
  have h1' := h1
  obtain ⟨ao, cp, e, _⟩ := h1
  simp only [Value.slice.injEq] at e
  obtain ⟨fuel, hf⟩ := h
  have := ints_w (by simpa [Value.cells] using hf) hw
  exact ⟨l, h1', h2, by omega⟩
end

end Go.Proofs.YtklenjmfalljgaaGreatDoor
