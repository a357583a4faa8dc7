/- From the rows' readings to the walks' facts. -/
import Derived.Test.YtklenjmfalljgaaDoorRows
import Derived.Test.YtklenjmfalljgaaDoorPrg2
import Derived.Deep.Slices
import Derived.Deep.DeepHandedRow
import Derived.Deep.DeepWitnessRowRef
import Derived.LaidMore
import Derived.Carry
import Derived.ProofKit
import Derived.OpenShut
namespace Go.Proofs.YtklenjmfalljgaaDoor
open Go.ChangeShapes Go.WideShapes Go.ChangeAt Go.RowKit

theorem own : ownKnob Tryd.prog.godebug = none := by kernel_rfl
theorem laidOut : laidOutB Tryd.prog = true := by kernel_rfl
theorem gShp : Tryd.prog.globalNamed "rerun/machine.shapes" = some 0 := by kernel_rfl
theorem tShp : (Tryd.prog.globals[0]?).map (·.type) = some 263 := by kernel_rfl
theorem cInt : Tryd.prog.cellsOf 3 = 1 := by kernel_rfl
theorem cInts : Tryd.prog.cellsOf 22 = 1 := by kernel_rfl
theorem cShape : Tryd.prog.cellsOf 262 = 3 := by kernel_rfl
theorem cKind : Tryd.prog.cellsOf 260 = 1 := by kernel_rfl

theorem grown_below {w w' : World} (h : w.grownBy w' none) : Below w.heap.size w w' := ⟨h.os, h.tape, h.output, h.size, fun k hk => h.block k hk (by simp)⟩

theorem lt_cell {w : World} {a : Addr} {v : Value} (h : w.cell? a = some v) : a.block < w.heap.size := by
  unfold World.cell? at h
  split at h
  · rename_i hh; exact (Array.getElem?_eq_some_iff.1 hh).1
  · cases h

theorem addr_form {w : World} {a : Addr} {j : Nat} {v : Value} (h0 : a.spot = none) (h : w.cell? (a.add j) = some v) : w.cell? ⟨a.block, a.off + j, none⟩ = some v := by
  have e : a.add j = ⟨a.block, a.off + j, none⟩ := by
    obtain ⟨b, o, s⟩ := a
    simp only at h0
    subst h0
    unfold Addr.add; split <;> simp_all
  rw [e] at h; exact h

section
variable {H : Type} {enc : TypeId × Value → H} {W : World}

theorem intsAt_of {fuel : Nat} {cs : List Value} {x : DataW H × List MemPlace} (h : DataW.trod enc Tryd.prog W 0 (fun _ => true) true fuel 22 cs = some x) :
    ∃ v l, cs = [v] ∧ IntsAt W.heap.size W v l ∧ ∀ k (hk : k < l.length), isInt l[k] := by
  rcases open_ints Tryd.underlying22 Tryd.underlying3 cInt h with ⟨rfl, _⟩ | ⟨a, len, cap, zs, rfl, _, hl, _, hz, _, hc, hw⟩
  · exact ⟨_, [], rfl, ⟨none, 0, rfl, Nat.le_refl _, fun k hk => by simp at hk⟩, fun k hk => by simp at hk⟩
  · simp only [if_true] at hz
    have hlen : (zs.take len).length = len := by simp; omega
    refine ⟨_, zs.take len, rfl, ⟨some a, cap, by rw [hlen], by omega, fun k hk => ?_⟩, fun k hk => ?_⟩
    · have h0 : a.spot = none := by
        have := hc 0 (by omega)
        exact World.cell?_spot (w := W) (by simpa [Addr.add] using this)
      have hkz : k < zs.length := by omega
      have := hc k hkz
      refine ⟨a.block, a.off, ?_, lt_cell (a := ⟨a.block, a.off + k, none⟩) (addr_form h0 this), ?_⟩
      · obtain ⟨b, o, s⟩ := a
        simp only at h0; subst h0; rfl
      · rw [addr_form h0 this]
        simp [List.getD, hkz]
    · have hkz : k < zs.length := by omega
      have := hw zs[k] (List.getElem_mem hkz)
      simp only [List.getElem_take]
      simpa [Lit.wf, IntKind.min, IntKind.max, IntKind.signed, IntKind.bits, isInt] using this

theorem rawAt_of {fuel : Nat} {cs : List Value} {x : DataW H × List MemPlace} (h : DataW.trod enc Tryd.prog W 0 (fun _ => true) true fuel 41 cs = some x) :
    ∃ v l, cs = [v] ∧ RawAt W v l ∧ ∀ t (ht : t < l.length) k (hk : k < l[t].length), isInt l[t][k] := by
  rcases Deep.open_slice1 Tryd.underlying41 cInts h with ⟨rfl, _⟩ | ⟨a, len, cap, m, n, V, D, Pl, rfl, _, hl, _, hm, _, hx⟩
  · exact ⟨_, [], rfl, ⟨none, 0, rfl, fun k hk => by simp at hk⟩, fun k hk => by simp at hk⟩
  · simp only [if_true] at hm
    obtain ⟨f, hf⟩ := Deep.choose_lt (α := List Int) (n := len) (p := fun i l => IntsAt W.heap.size W (V i) l ∧ ∀ k (hk : k < l.length), isInt l[k]) (fun i hi => by
      obtain ⟨v, l, e, h1, h2⟩ := intsAt_of (hx i (by omega)).2
      simp only [List.cons.injEq, and_true] at e
      rw [← e] at h1
      exact ⟨l, h1, h2⟩)
    have hlen : ((List.range len).map f).length = len := by simp
    refine ⟨_, (List.range len).map f, rfl, ⟨some a, cap, by rw [hlen], fun t ht => ?_⟩, fun t ht => ?_⟩
    · have ht' : t < len := by omega
      have h0 : a.spot = none := by
        have := (hx 0 (by omega)).1
        exact World.cell?_spot (w := W) (by simpa [Addr.add] using this)
      refine ⟨a.block, a.off, ?_, V t, addr_form h0 (hx t (by omega)).1, ?_⟩
      · obtain ⟨b, o, s⟩ := a
        simp only at h0; subst h0; rfl
      · simpa using (hf t ht').1
    · have ht' : t < len := by omega
      simpa using (hf t ht').2

set_option maxRecDepth 100000 in
theorem ints_arg {v : Value} {d : DataW H} {ps : List MemPlace} {base : Nat} (hval : Value.okWide Tryd.prog W .any base 22 v) (h : DataW.Trod enc Tryd.prog W 0 (fun _ => true) true 22 v d ps) :
    ∃ l, IntsAt W.heap.size W v l ∧ ∀ k (hk : k < l.length), isInt l[k] := by
  obtain ⟨a, len, cap, rfl⟩ := okWide_slice Tryd.underlying22 hval
  obtain ⟨fuel, hf⟩ := h
  obtain ⟨v', l, e, h1, h2⟩ := intsAt_of hf
  simp [Value.cells] at e
  rw [← e] at h1
  exact ⟨l, h1, h2⟩
set_option maxRecDepth 100000 in
theorem raw_arg {v : Value} {d : DataW H} {ps : List MemPlace} {base : Nat} (hval : Value.okWide Tryd.prog W .any base 41 v) (h : DataW.Trod enc Tryd.prog W 0 (fun _ => true) true 41 v d ps) :
    ∃ l, RawAt W v l ∧ ∀ t (ht : t < l.length) k (hk : k < l[t].length), isInt l[t][k] := by
  obtain ⟨a, len, cap, rfl⟩ := okWide_slice Tryd.underlying41 hval
  obtain ⟨fuel, hf⟩ := h
  obtain ⟨v', l, e, h1, h2⟩ := rawAt_of hf
  simp [Value.cells] at e
  rw [← e] at h1
  exact ⟨l, h1, h2⟩
set_option maxRecDepth 100000 in
theorem int_arg {v : Value} {d : DataW H} {ps : List MemPlace} {base : Nat} (hval : Value.okWide Tryd.prog W .any base 3 v) (h : DataW.Trod enc Tryd.prog W 0 (fun _ => true) true 3 v d ps) :
    ∃ n, v = .int .i64 n ∧ isInt n := by
  obtain ⟨n, rfl, _, _, hw⟩ := open_int Tryd.underlying3 hval h
  exact ⟨n, rfl, by simpa [Lit.wf, IntKind.min, IntKind.max, IntKind.signed, IntKind.bits, isInt] using hw⟩
end

theorem shp_tab (o j : Nat) (ho : o < 12) (hj : j < 3) (l : List (DataW Unit)) (h : (DataW.agg l : DataW Unit) = (match (Rows.laid_rerun_machine_shapes : DataW Unit) with | .agg l => l[o]?.getD .nil | _ => .nil)) : l[j]? = some (.lit (.int .i64 (shp o j))) := by
  have ho' : o = 0 ∨ o = 1 ∨ o = 2 ∨ o = 3 ∨ o = 4 ∨ o = 5 ∨ o = 6 ∨ o = 7 ∨ o = 8 ∨ o = 9 ∨ o = 10 ∨ o = 11 := by omega
  have hj' : j = 0 ∨ j = 1 ∨ j = 2 := by omega
  rcases ho' with rfl | rfl | rfl | rfl | rfl | rfl | rfl | rfl | rfl | rfl | rfl | rfl <;> (simp [Rows.laid_rerun_machine_shapes] at h; subst h; rcases hj' with rfl | rfl | rfl <;> rfl)

theorem shp_one {W : World} {g0 : Nat} {t0 : TypeId} {cs0 : Array Value} {f0 : Nat} {p0 : List MemPlace} (hg0 : Tryd.prog.globalNamed "rerun/machine.shapes" = some g0) (ht0 : (Tryd.prog.globals[g0]?).map (·.type) = some t0) (hv0 : W.var? Tryd.prog "rerun/machine.shapes" = some cs0)
    (hd0 : DataW.trod (fun _ => ()) Tryd.prog W 0 (fun _ => true) false f0 t0 cs0.toList = some (Rows.laid_rerun_machine_shapes, p0)) : ShpAt W := by
  obtain rfl := Option.some.inj (gShp.symm.trans hg0)
  obtain rfl := Option.some.inj (tShp.symm.trans ht0)
  obtain ⟨xs, m1, rfl, hx1, hlen, hn12, hel⟩ := DataW.trod_array Tryd.underlying263 hd0
  simp only [Prod.mk.injEq] at hx1
  intro o j ho hj
  have hox : o < xs.length := by omega
  have h1 := hel o ho
  rw [cShape, List.getElem?_eq_getElem hox] at h1
  obtain ⟨ys, m2, rfl, hy1, hylen, hn3, hfe⟩ := DataW.trod_struct Tryd.underlying262 h1
  have hdo : (DataW.agg (ys.map (·.1)) : DataW Unit) = xs[o].1 := by rw [hy1]
  have hxo : (xs.map (·.1))[o]? = some xs[o].1 := by simp [hox]
  have hdat : (DataW.agg (ys.map (·.1)) : DataW Unit) = (match (Rows.laid_rerun_machine_shapes : DataW Unit) with | .agg l => l[o]?.getD .nil | _ => .nil) := by
    rw [hdo, hx1.1]; simp [hox]
  have hyj := shp_tab o j ho hj _ hdat
  have hjl : j < ys.length := by rw [hn3]; simpa using hj
  have hf : DataW.trod (fun _ => ()) Tryd.prog W 0 (fun _ => true) false m2 260 ((((cs0.toList.drop (o * 3)).take 3).drop j).take 1) = some ys[j] := by
    have hj' : j = 0 ∨ j = 1 ∨ j = 2 := by omega
    rcases hj' with rfl | rfl | rfl
    · have := hfe 0 _ rfl; rw [List.getElem?_eq_getElem hjl] at this; simpa [cKind] using this
    · have := hfe 1 _ rfl; rw [List.getElem?_eq_getElem hjl] at this; simpa [cKind] using this
    · have := hfe 2 _ rfl; rw [List.getElem?_eq_getElem hjl] at this; simpa [cKind] using this
  obtain ⟨k, e1, e2, _⟩ := DataW.trod_int Tryd.underlying260 hf
  have hk : k = shp o j := by
    rw [List.getElem?_map, List.getElem?_eq_getElem hjl, e2] at hyj
    simpa using hyj
  have hcell := World.var?_cell hg0 hv0 (o * 3 + j)
  have hc : cs0[o * 3 + j]? = some (.int .i64 k) := by
    have h0 := congrArg (fun l => l[0]?) e1
    simp [hj] at h0
    exact h0
  rw [hk] at hc
  rw [hcell]; exact hc

theorem shp_of_laid {W : World} (h : laidMetH Tryd.prog [("rerun/machine.shapes", Rows.laid_rerun_machine_shapes)] W) : ShpAt W := by
  rw [MakeChecks.laidMetH_plain _ _ _ (by kernel_rfl)] at h
  obtain ⟨ps, ⟨g0, t0, cs0, f0, p0, q0, hg0, ht0, hv0, hd0, _, _⟩, _, _⟩ := h
  exact shp_one hg0 ht0 hv0 hd0

end Go.Proofs.YtklenjmfalljgaaDoor
