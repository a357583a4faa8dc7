/- For every artifact and every string: each Encode and each Decode is as the reference says, whatever the owner does with what came out and with what was lent. The row of Writes, and its card. -/
import Derived.Test.YtklenjmfalljgaaDoorMK
import Derived.Lib.SmallJoins
import Derived.Deep.Strs
import Derived.Test.YtklenjmfalljgaaDoorCards
import Derived.Test.YtklenjmfalljgaaDoorTie
import Derived.ChangeMaps5

/- Programs as arguments, and how great they are. -/
namespace Go.Proofs.YtklenjmfalljgaaDoor
open Go.ChangeShapes Go.WideShapes Go.ChangeAt Go.RowKit Go.Joins

theorem bulkOne {H : Type} (d : DataW H) : 1 ≤ Rows.uptoBulk d := by
  cases d with
  | lit l => cases l <;> simp [Rows.uptoBulk]
  | nil => simp [Rows.uptoBulk]
  | ptr d => simp [Rows.uptoBulk]
  | slice elems spare => simp [Rows.uptoBulk]
  | agg parts => simp [Rows.uptoBulk]
  | iface t d => simp [Rows.uptoBulk]
  | map entries => simp [Rows.uptoBulk]
  | held h => simp [Rows.uptoBulk]
theorem bulkLen {H : Type} (l : List (DataW H)) : l.length ≤ Rows.uptoBulkAll l := by
  induction l with
  | nil => simp [Rows.uptoBulkAll]
  | cons x r ih => have := bulkOne x; simp only [Rows.uptoBulkAll, List.length_cons]; omega
theorem bulkIn {H : Type} (l : List (DataW H)) (d : DataW H) (h : d ∈ l) : Rows.uptoBulk d ≤ Rows.uptoBulkAll l := by
  induction l with
  | nil => cases h
  | cons x r ih =>
    simp only [Rows.uptoBulkAll]
    rcases List.mem_cons.1 h with rfl | h
    · omega
    · have := ih h; omega

theorem cIns : Tryd.prog.cellsOf 28 = 4 := by kernel_rfl
theorem cCode : Tryd.prog.cellsOf 29 = 1 := by kernel_rfl
theorem cRows : Tryd.prog.cellsOf 23 = 1 := by kernel_rfl
theorem cProg : Tryd.prog.cellsOf 25 = 1 := by kernel_rfl

section
variable {H : Type} {enc : TypeId × Value → H} {W : World}

set_option maxRecDepth 100000 in
theorem ins_of {fuel : Nat} {cs : List Value} {x : DataW H × List MemPlace} (h : DataW.trod enc Tryd.prog W 0 (fun _ => true) true fuel 28 cs = some x) : ∃ i : Ins, cs = [.int .i64 i.op, .int .i64 i.a, .int .i64 i.b, .int .i64 i.n] ∧ isInt i.n := by
  obtain ⟨y0, y1, y2, y3, n, _, hl, h0, h1, h2, h3⟩ := trod_struct4 Tryd.underlying28 h
  rw [cIns] at hl
  match cs, hl with
  | [v0, v1, v2, v3], _ =>
    simp only [cInt, List.drop_zero, List.drop_succ_cons, List.take_succ_cons, List.take_zero] at h0 h1 h2 h3
    obtain ⟨k0, e0, _⟩ := DataW.trod_int Tryd.underlying3 h0
    obtain ⟨k1, e1, _⟩ := DataW.trod_int Tryd.underlying3 h1
    obtain ⟨k2, e2, _⟩ := DataW.trod_int Tryd.underlying3 h2
    obtain ⟨k3, e3, _, hw3⟩ := DataW.trod_int Tryd.underlying3 h3
    simp only [List.cons.injEq, and_true] at e0 e1 e2 e3
    subst e0 e1 e2 e3
    exact ⟨⟨k0, k1, k2, k3⟩, rfl, by simpa [Lit.wf, IntKind.min, IntKind.max, IntKind.signed, IntKind.bits, isInt] using hw3⟩

set_option maxRecDepth 100000 in
theorem codeAt_of {fuel : Nat} {v : Value} {x : DataW H × List MemPlace} (h : DataW.trod enc Tryd.prog W 0 (fun _ => true) true fuel 29 [v] = some x) : ∃ c, CodeAt W v c ∧ nilA v ∧ c.length ≤ Rows.uptoBulk x.1 ∧ ∀ i ∈ c, isInt i.n := by
  rcases Deep.open_slice Tryd.underlying29 h with ⟨e, _⟩ | ⟨a, len, cap, m, n, D, Pl, e, _, hl, _, hm, hx, hel⟩
  · simp only [List.cons.injEq, and_true] at e
    subst e
    exact ⟨[], ⟨none, 0, rfl, fun k hk => by simp at hk⟩, fun n c e => by simp at e; omega, by simp, fun i hi => by cases hi⟩
  · simp only [List.cons.injEq, and_true] at e
    subst e
    simp only [if_true] at hm
    rw [cIns] at hel
    have hinh : Inhabited Ins := ⟨⟨0, 0, 0, 0⟩⟩
    obtain ⟨f, hf⟩ := Deep.choose_lt (α := Ins) (n := len) (p := fun k i => W.cell? (a.add (k * 4)) = some (.int .i64 i.op) ∧ W.cell? (a.add (k * 4 + 1)) = some (.int .i64 i.a) ∧ W.cell? (a.add (k * 4 + 2)) = some (.int .i64 i.b) ∧ W.cell? (a.add (k * 4 + 3)) = some (.int .i64 i.n) ∧ isInt i.n) (fun k hk => by
      obtain ⟨cs', h1, h2⟩ := hel k (by omega)
      obtain ⟨i, rfl, hin⟩ := ins_of h2
      obtain ⟨_, _, h3⟩ := World.cells?_some h1
      refine ⟨i, ?_, ?_, ?_, ?_, hin⟩
      · have := h3 0 (by omega); rw [Deep.add_add] at this; simpa using this
      · have := h3 1 (by omega); rw [Deep.add_add] at this; simpa using this
      · have := h3 2 (by omega); rw [Deep.add_add] at this; simpa using this
      · have := h3 3 (by omega); rw [Deep.add_add] at this; simpa using this)
    have hlen : ((List.range len).map f).length = len := by simp
    refine ⟨(List.range len).map f, ⟨some a, cap, by rw [hlen], fun k hk => ?_⟩, fun n c e => by simp at e, ?_, fun i hi => ?_⟩
    · have hk' : k < len := by omega
      obtain ⟨h0, h1, h2, h3, _⟩ := hf k hk'
      have hs : a.spot = none := by
        have := (hf 0 (by omega)).1
        exact World.cell?_spot (w := W) (by simpa [Addr.add] using this)
      refine ⟨a.block, a.off, ?_, ?_, ?_, ?_, ?_⟩
      · obtain ⟨b, o, s⟩ := a
        simp only at hs; subst hs; rfl
      · simpa using addr_form hs h0
      · simpa [Nat.add_assoc] using addr_form hs h1
      · simpa [Nat.add_assoc] using addr_form hs h2
      · simpa [Nat.add_assoc] using addr_form hs h3
    · rw [hlen, hx]
      have := bulkLen ((List.range len).map D)
      simp only [Rows.uptoBulk]
      simp at this
      omega
    · obtain ⟨k, hk, rfl⟩ := List.mem_map.1 hi
      exact (hf k (by simpa using hk)).2.2.2.2

set_option maxRecDepth 100000 in
theorem rowsAt_of {fuel : Nat} {v : Value} {x : DataW H × List MemPlace} (h : DataW.trod enc Tryd.prog W 0 (fun _ => true) true fuel 23 [v] = some x) :
    ∃ p, ProgAt W (.agg #[v]) p ∧ ProgNil W (.agg #[v]) ∧ p.length ≤ Rows.uptoBulk x.1 ∧ ∀ c ∈ p, c.length ≤ Rows.uptoBulk x.1 ∧ ∀ i ∈ c, isInt i.n := by
  rcases Deep.open_slice1 Tryd.underlying23 cCode h with ⟨e, _⟩ | ⟨a, len, cap, m, n, V, D, Pl, e, _, hl, _, hm, hx, hel⟩
  · simp only [List.cons.injEq, and_true] at e
    subst e
    exact ⟨[], ⟨none, 0, rfl, fun k hk => by simp at hk⟩, fun g o n cap t rv e => by simp at e, by simp, fun c hc => by cases hc⟩
  · simp only [List.cons.injEq, and_true] at e
    subst e
    simp only [if_true] at hm
    obtain ⟨f, hf⟩ := Deep.choose_lt (α := List Ins) (n := len) (p := fun k c => CodeAt W (V k) c ∧ nilA (V k) ∧ c.length ≤ Rows.uptoBulk (D k) ∧ ∀ i ∈ c, isInt i.n) (fun k hk => codeAt_of (hel k (by omega)).2)
    have hlen : ((List.range len).map f).length = len := by simp
    have hs : 0 < len → a.spot = none := fun h0 => by
      have := (hel 0 (by omega)).1
      exact World.cell?_spot (w := W) (by simpa [Addr.add] using this)
    have hall : len + 0 ≤ Rows.uptoBulkAll ((List.range len).map D) := by
      have := bulkLen ((List.range len).map D)
      simp at this; omega
    refine ⟨(List.range len).map f, ⟨some a, cap, by rw [hlen], fun k hk => ?_⟩, fun g o n cp t rv e ht hc => ?_, ?_, fun c hc => ?_⟩
    · have hk' : k < len := by omega
      have h0 := hs (by omega)
      refine ⟨a.block, a.off, ?_, V k, addr_form h0 (hel k (by omega)).1, ?_⟩
      · obtain ⟨b, o, s⟩ := a
        simp only at h0; subst h0; rfl
      · simpa using (hf k hk').1
    · simp only [Value.agg.injEq, Array.mk.injEq, List.cons.injEq, Value.slice.injEq, Option.some.injEq, and_true] at e
      obtain ⟨rfl, rfl, rfl⟩ := e
      have h1 := addr_form rfl (hel t (by omega)).1
      simp only at h1
      rw [h1] at hc
      simp only [Option.some.injEq] at hc
      rw [← hc]
      exact (hf t ht).2.1
    · rw [hlen, hx]
      simp only [Rows.uptoBulk]
      omega
    · obtain ⟨k, hk, rfl⟩ := List.mem_map.1 hc
      have hk' : k < len := by simpa using hk
      obtain ⟨h1, h3⟩ := (hf k hk').2.2
      have h2 := bulkIn ((List.range len).map D) (D k) (List.mem_map.2 ⟨k, hk, rfl⟩)
      refine ⟨?_, h3⟩
      rw [hx]
      simp only [Rows.uptoBulk]
      omega

end

end Go.Proofs.YtklenjmfalljgaaDoor

/- Artifacts as arguments, and how great they are. -/
namespace Go.Proofs.YtklenjmfalljgaaDoor
open Go.ChangeShapes Go.WideShapes Go.ChangeAt Go.RowKit Go.Joins

theorem cVer : Tryd.prog.cellsOf 32 = 3 := by kernel_rfl
theorem cArt : Tryd.prog.cellsOf 51 = 5 := by kernel_rfl

section
variable {H : Type} {enc : TypeId × Value → H} {W : World}

set_option maxRecDepth 100000 in
theorem ints_ofN {fuel : Nat} {v : Value} {x : DataW H × List MemPlace} (h : DataW.trod enc Tryd.prog W 0 (fun _ => true) true fuel 22 [v] = some x) : ∃ l, IntsAt W.heap.size W v l ∧ nilA v ∧ l.length ≤ Rows.uptoBulk x.1 := by
  rcases open_ints Tryd.underlying22 Tryd.underlying3 cInt h with ⟨e, _⟩ | ⟨a, len, cap, zs, e, _, hl, _, hz, hx, hc, hw⟩
  · simp only [List.cons.injEq, and_true] at e
    subst e
    exact ⟨[], ⟨none, 0, rfl, Nat.le_refl _, fun k hk => by simp at hk⟩, fun n c e => by simp at e; omega, by simp⟩
  · simp only [List.cons.injEq, and_true] at e
    subst e
    simp only [if_true] at hz
    have hlen : (zs.take len).length = len := by simp; omega
    refine ⟨zs.take len, ⟨some a, cap, by rw [hlen], by omega, fun k hk => ?_⟩, fun n c e => by simp at e, ?_⟩
    · have h0 : a.spot = none := by
        have := hc 0 (by omega)
        exact World.cell?_spot (w := W) (by simpa [Addr.add] using this)
      have hkz : k < zs.length := by omega
      have := hc k hkz
      refine ⟨a.block, a.off, ?_, lt_cell (a := ⟨a.block, a.off + k, none⟩) (addr_form h0 this), ?_⟩
      · obtain ⟨b, o, s⟩ := a
        simp only at h0; subst h0; rfl
      · rw [addr_form h0 this]
        simp [List.getD, hkz]
    · rw [hx]
      have := bulkLen (lits (H := H) .i64 (zs.take len))
      have hll : (lits (H := H) .i64 (zs.take len)).length = (zs.take len).length := by simp [lits]
      simp only [Rows.uptoBulk]
      omega

end

end Go.Proofs.YtklenjmfalljgaaDoor

/- How long arguments are, by what they may weigh. -/
namespace Go.Proofs.YtklenjmfalljgaaDoor
open Go.ChangeShapes Go.WideShapes Go.ChangeAt Go.RowKit Go.Joins

theorem bIns : Tryd.prog.bytesOf 28 = 32 := by kernel_rfl
theorem bCode : Tryd.prog.bytesOf 29 = 24 := by kernel_rfl
theorem bInt : Tryd.prog.bytesOf 3 = 8 := by kernel_rfl

/-- All that is met weighs no more than a process reaches. -/
def Light {H : Type} (t : TypeId) (d : DataW H) : Prop := ∀ n ∈ DataW.weights Tryd.prog t d, n ≤ 140737488351232

theorem light_all {H : Type} {e : TypeId} {l : List (DataW H)} {d : DataW H} (hd : d ∈ l) : ∀ {n : Nat}, n ∈ DataW.weights Tryd.prog e d → n ∈ DataW.weightsAll Tryd.prog e l := by
  intro n hn
  induction l with
  | nil => cases hd
  | cons x r ih =>
    unfold DataW.weightsAll
    rcases List.mem_cons.1 hd with rfl | hd
    · exact List.mem_append.2 (Or.inl hn)
    · exact List.mem_append.2 (Or.inr (ih hd))

theorem light_slice {H : Type} {t e : TypeId} {l sp : List (DataW H)} (ht : Tryd.prog.underlying t = some (.slice e)) (h : Light t (.slice l sp)) : (l.length + sp.length) * Tryd.prog.bytesOf e ≤ 140737488351232 ∧ ∀ d ∈ l, Light e d := by
  unfold Light at h
  simp only [DataW.weights, ht] at h
  refine ⟨h _ List.mem_cons_self, fun d hd n hn => h n (List.mem_cons_of_mem _ (List.mem_append.2 (Or.inl (light_all hd hn))))⟩

section
variable {H : Type} {enc : TypeId × Value → H} {W : World}

theorem ints_w {fuel : Nat} {a : Option Addr} {len cap : Nat} {x : DataW H × List MemPlace} (h : DataW.trod enc Tryd.prog W 0 (fun _ => true) true fuel 22 [.slice a len cap] = some x) (hw : Light 22 x.1) : len ≤ 17592186043904 := by
  rcases Deep.open_slice Tryd.underlying22 h with ⟨e, _⟩ | ⟨a', len', cap', m, n, D, Pl, e, _, hl, _, hm, hx, hel⟩
  · simp only [List.cons.injEq, Value.slice.injEq, and_true] at e
    omega
  · simp only [List.cons.injEq, Value.slice.injEq, and_true] at e
    rw [hx] at hw
    have := (light_slice Tryd.underlying22 hw).1
    rw [bInt] at this
    simp only [List.length_map, List.length_range] at this
    omega

theorem code_w {fuel : Nat} {a : Option Addr} {len cap : Nat} {x : DataW H × List MemPlace} (h : DataW.trod enc Tryd.prog W 0 (fun _ => true) true fuel 29 [.slice a len cap] = some x) (hw : Light 29 x.1) : len ≤ 4398046510976 := by
  rcases Deep.open_slice Tryd.underlying29 h with ⟨e, _⟩ | ⟨a', len', cap', m, n, D, Pl, e, _, hl, _, hm, hx, hel⟩
  · simp only [List.cons.injEq, Value.slice.injEq, and_true] at e
    omega
  · simp only [List.cons.injEq, Value.slice.injEq, and_true] at e
    rw [hx] at hw
    have := (light_slice Tryd.underlying29 hw).1
    rw [bIns] at this
    simp only [List.length_map, List.length_range] at this
    omega

theorem rows_w {fuel : Nat} {v : Value} {p : List (List Ins)} {x : DataW H × List MemPlace} (h : DataW.trod enc Tryd.prog W 0 (fun _ => true) true fuel 23 [v] = some x) (hp : ProgAt W (.agg #[v]) p) (hw : Light 23 x.1) : p.length ≤ 5864062014634 ∧ ∀ c ∈ p, c.length ≤ 4398046510976 := by
  obtain ⟨ao, cp, e0, hh⟩ := hp
  simp only [Value.agg.injEq, Array.mk.injEq, List.cons.injEq, and_true] at e0
  subst e0
  rcases Deep.open_slice1 Tryd.underlying23 cCode h with ⟨e, _⟩ | ⟨a, len, cap, m, n, V, D, Pl, e, _, hl, _, hm, hx, hel⟩
  · simp only [List.cons.injEq, Value.slice.injEq, and_true] at e
    have : p = [] := List.length_eq_zero_iff.1 e.2.1
    subst this
    exact ⟨by simp, fun c hc => by cases hc⟩
  · simp only [List.cons.injEq, Value.slice.injEq, and_true] at e
    obtain ⟨ea, el, ec⟩ := e
    rw [hx] at hw
    obtain ⟨h1, h2⟩ := light_slice Tryd.underlying23 hw
    rw [bCode] at h1
    simp only [List.length_map, List.length_range] at h1
    simp only [if_true] at hm
    refine ⟨by omega, fun c hc => ?_⟩
    obtain ⟨k, hk, rfl⟩ := List.getElem_of_mem hc
    obtain ⟨g, o, e1, rv, e2, e3⟩ := hh k hk
    obtain ⟨hc1, hc2⟩ := hel k (by omega)
    rw [ea] at e1
    simp only [Option.some.injEq] at e1
    subst e1
    have e4 : V k = rv := by
      have e5 : (Addr.mk g o none).add k = ⟨g, o + k, none⟩ := by simp [Addr.add]
      rw [e5, e2] at hc1
      simpa using hc1.symm
    obtain ⟨ca, cc, e6, _⟩ := e3
    rw [e4, e6] at hc2
    exact code_w hc2 (h2 (D k) (List.mem_map.2 ⟨k, List.mem_range.2 (by omega), rfl⟩))

end

end Go.Proofs.YtklenjmfalljgaaDoor

/- For every artifact and every string: each Encode and each Decode is as the reference says, whatever the owner does with what came out and with what was lent. The row of Writes, and its card. -/
namespace Go.Proofs.YtklenjmfalljgaaDoor
open Go.ChangeShapes Go.WideShapes Go.ChangeAt Go.RowKit Go.Joins

section
variable {H : Type} {enc : TypeId × Value → H} {W : World}
set_option maxRecDepth 100000 in
theorem art_argW {v : Value} {d : DataW H} {ps : List MemPlace} {base : Nat} (hval : Value.okWide Tryd.prog W .any base 51 v) (h : DataW.Trod enc Tryd.prog W 0 (fun _ => true) true 51 v d ps) (hw : Light 51 d) :
    ∃ tv sv k0 k1 k2 p s, v = .agg #[tv, sv, .int .i64 k0, .int .i64 k1, .int .i64 k2] ∧ ProgAt W (.agg #[tv]) p ∧ IntsAt W.heap.size W sv s ∧ p.length ≤ 5864062014634 ∧ (∀ c ∈ p, c.length ≤ 4398046510976 ∧ ∀ i ∈ c, isInt i.n) ∧ s.length ≤ 17592186043904 := by
  obtain ⟨cs, rfl, hsz⟩ := okWide_struct Tryd.underlying51 hval
  obtain ⟨fuel, hf⟩ := h
  obtain ⟨y0, y1, y2, n, hx, hl, h0, h1, h2⟩ := Deep.trod_struct3 Tryd.underlying51 hf
  rw [cArt] at hsz
  obtain ⟨l⟩ := cs
  match l, hsz with
  | [c0, c1, c2, c3, c4], _ =>
    have h0' : DataW.trod enc Tryd.prog W 0 (fun _ => true) true n 25 [c0] = some y0 := by simpa [Value.cells, cProg] using h0
    have h1' : DataW.trod enc Tryd.prog W 0 (fun _ => true) true n 22 [c1] = some y1 := by simpa [Value.cells, cInts] using h1
    have h2' : DataW.trod enc Tryd.prog W 0 (fun _ => true) true n 32 [c2, c3, c4] = some y2 := by simpa [Value.cells, cVer] using h2
    obtain ⟨z0, m, hz, _, hr⟩ := trod_struct1 Tryd.underlying25 h0'
    have hr' : DataW.trod enc Tryd.prog W 0 (fun _ => true) true m 23 [c0] = some z0 := by simpa [cRows] using hr
    obtain ⟨p, a1, _, _, a4⟩ := rowsAt_of hr'
    obtain ⟨s, b1, _, _⟩ := ints_ofN h1'
    obtain ⟨v0, v1, v2, n2, _, _, g0, g1, g2⟩ := Deep.trod_struct3 Tryd.underlying32 h2'
    have g0' : DataW.trod enc Tryd.prog W 0 (fun _ => true) true n2 3 [c2] = some v0 := by simpa [cInt] using g0
    have g1' : DataW.trod enc Tryd.prog W 0 (fun _ => true) true n2 3 [c3] = some v1 := by simpa [cInt] using g1
    have g2' : DataW.trod enc Tryd.prog W 0 (fun _ => true) true n2 3 [c4] = some v2 := by simpa [cInt] using g2
    obtain ⟨k0, e0, _⟩ := DataW.trod_int Tryd.underlying3 g0'
    obtain ⟨k1, e1, _⟩ := DataW.trod_int Tryd.underlying3 g1'
    obtain ⟨k2, e2, _⟩ := DataW.trod_int Tryd.underlying3 g2'
    simp only [List.cons.injEq, and_true] at e0 e1 e2
    subst e0 e1 e2
    have hd : d = .agg [y0.1, y1.1, y2.1] := congrArg Prod.fst hx
    have hy : y0.1 = .agg [z0.1] := congrArg Prod.fst hz
    subst hd
    have w0 : Light 23 z0.1 := fun q hq => hw q (by simp [DataW.weights, Tryd.underlying51, Tryd.underlying25, DataW.weightsEach, hy, hq])
    have w1 : Light 22 y1.1 := fun q hq => hw q (by simp [DataW.weights, Tryd.underlying51, DataW.weightsEach, hq])
    obtain ⟨r1, r2⟩ := rows_w hr' a1 w0
    obtain ⟨ia, ic, ie⟩ := b1.form
    subst ie
    exact ⟨c0, _, k0, k1, k2, p, s, rfl, a1, b1, r1, fun c hc => ⟨r2 c hc, (a4 c hc).2⟩, ints_w h1' w1⟩
end

set_option maxRecDepth 100000 in
/-- What the walk gives, for every argument and every world that holds the table. -/
theorem writes_contract (H : Type) (enc : TypeId × Value → H) (W : World) (base : Nat) (args : Array Value) (ds gs : List (DataW H)) (before : List MemPlace)
    (hval : ∀ (j : Nat) t v, Tryd.f6.params[j]? = some t → args[j]? = some v → Value.okWide Tryd.prog W .any base t v)
    (hW : DataW.Whole enc Tryd.prog Tryd.f6.params.toList Rows.writesSpec.vars false W args.toList ds gs before)
    (hwt : (DataW.weightsEach Tryd.prog (Tryd.f6.params.toList ++ (OpenSpec.ofChange Rows.writesSpec).bare.plain.varTypes Tryd.prog) (ds ++ gs)).all (· ≤ reachBytes) = true) (hL : laidMetH Tryd.prog Rows.writesRow.laid W) :
    Calls Tryd.prog 6 args W fun e W' => ∃ v, e = .returned v ∧ Rows.writesSpec.post enc Tryd.prog Tryd.f6 false true false false W args v W' := by
  have hW' := hW
  obtain ⟨p, q, hA0, hV, rfl, hfz, hnd⟩ := hW
  have hA : DataW.TrodAll enc Tryd.prog W 0 (fun _ => true) true Tryd.f6.params.toList args.toList ds p := hA0
  rw [Tryd.params6] at hA hval hwt
  obtain ⟨v0, v1, d0, d1, p0, p1, rfl, rfl, rfl, h0, h1⟩ := trodAll_two hA
  obtain ⟨rfl, rfl⟩ := trodVars_none hV
  clear hA0
  rw [List.all_eq_true] at hwt
  have hre : reachBytes = 140737488351232 := by decide
  have hl0 : Light 51 d0 := fun n hn => by
    have := of_decide_eq_true (hwt n (by simp [DataW.weightsEach, hn]))
    omega
  obtain ⟨tv, sv, k0, k1, k2, p, s, rfl, a1, a2, a3, a4, a5⟩ := art_argW (hval 0 51 v0 rfl rfl) h0 hl0
  obtain ⟨x, rfl, hd1, _, _⟩ := Go.ChangeMaps.open_string Tryd.underlying9 (hval 1 9 v1 rfl rfl) h1
  have hsz : x.size ≤ 9223372036854775000 := by
    subst hd1
    have h8 : x.data.toList.length ≤ reachBytes := of_decide_eq_true (hwt x.data.toList.length (by simp [DataW.weightsEach, DataW.weights]))
    have e : x.data.toList.length = x.size := by simp
    omega
  refine (writes_m W tv sv p s k0 k1 k2 x (shp_of_laid hL) a1 a2 a3 (fun c hc => (a4 c hc).1) a5 (fun c hc i hi => (a4 c hc).2 i hi) hsz).mono fun e W' ⟨he, hg⟩ => ?_
  subst he
  have hb := grown_below hg
  have hlt : ∀ x ∈ p0 ++ p1, x.block < W.heap.size := fun x hx => by simpa using hW'.lt x (by simpa using hx)
  refine ⟨_, rfl, _, _, _, [] ++ [], p0 ++ p1, [], hW', trodAll_cons_mk (shut_bool Tryd.underlying4 _) trodAll_mk0, ?_, rfl, hb.frame _, fun h => by cases h⟩
  rw [Tryd.params6]
  exact trodAll_mk2 (p := p0) (p' := p1) (Below.trod laidOut (by kernel_rfl) (of_decide_eq_true (by kernel_rfl)) h0 hb (fun x hx => hlt x (by simp [hx]))) (Below.trod laidOut (by kernel_rfl) (of_decide_eq_true (by kernel_rfl)) h1 hb (fun x hx => hlt x (by simp [hx])))

theorem writes_laid (os : Os) : laidMetH Tryd.prog Rows.writesRow.laid ((World.doorLaid Tryd.prog 400 os).forCall (fun _ _ => 0) ⟨#[], #[.agg #[.slice none 0 0, .slice none 0 0, .int .i64 0, .int .i64 0, .int .i64 0], .string ⟨#[]⟩], []⟩).memory :=
  laidMetH_of_parts3 (fuel := 8) (laidMet_of_run' 8 (by kernel_rfl) (by kernel_rfl)) (by kernel_rfl) (by kernel_rfl)
theorem writes_reads (os : Os) {H : Type} (enc : TypeId × Value → H) : ∃ places, DataW.whole enc Tryd.prog ((World.doorLaid Tryd.prog 400 os).forCall (fun _ _ => 0) ⟨#[], #[.agg #[.slice none 0 0, .slice none 0 0, .int .i64 0, .int .i64 0, .int .i64 0], .string ⟨#[]⟩], []⟩).memory Tryd.f6.params.toList Rows.writesSpec.vars false #[Value.agg #[.slice none 0 0, .slice none 0 0, .int .i64 0, .int .i64 0, .int .i64 0], .string ⟨#[]⟩].toList 8 = some ([.agg [.agg [.nil], .nil, .agg [.lit (.int .i64 0), .lit (.int .i64 0), .lit (.int .i64 0)]], .lit (.string [])], [], places) :=
  ⟨[], by kernel_rfl⟩

set_option maxRecDepth 100000 in
theorem writes_lifted (os : Os) (started : os.Started) (H : Type) (enc : TypeId × Value → H) (F : Stop.Interp) :
    ReturnsInHanded {} Tryd.checked os 6 .any ((OpenSpec.ofChange Rows.writesSpec).preRow enc Tryd.prog Tryd.f6 Rows.writesRow.domain false Rows.writesRow.laid) (((OpenSpec.ofChange Rows.writesSpec).at F).post enc Tryd.prog Tryd.f6 false true false false) := by
  obtain ⟨places, hx⟩ := writes_reads os enc
  refine returnsInHanded_of_row (C := Tryd.checked) (s := OpenSpec.ofChange Rows.writesSpec) own started (by kernel_rfl) Tryd.func6
    (witness_row_atRef (enc := enc) (C := Tryd.checked) false (World.doorLaid Tryd.prog 400 os) #[.agg #[.slice none 0 0, .slice none 0 0, .int .i64 0, .int .i64 0, .int .i64 0], .string ⟨#[]⟩] rfl (by kernel_rfl) (by kernel_rfl) (by kernel_rfl)
      (OpenSpec.preRow_of_cond 8 hx (by kernel_rfl) (fun k hk => by cases hk) (by kernel_rfl) (writes_laid os))) ?_
  intro W base args ds gs before hval hW _ _ hwt hL _ _
  exact writes_contract H enc W base args ds gs before hval hW hwt hL

theorem writes_said : Rows.WritesSaid :=
  OpenClaim.holds_of_cond 6 Tryd.f6 rfl rfl rfl rfl rfl rfl rfl ⟨rfl, rfl, rfl, rfl, rfl⟩ rfl rfl rfl rfl rfl (by kernel_rfl) Tryd.func6 (by kernel_rfl)
    (of_decide_eq_true (by kernel_rfl)) (by unfold Func.isWrapper; first | (rw [if_pos (by decide +kernel)]; kernel_rfl) | (rw [if_neg (by decide +kernel)]; exact ⟨rfl, rfl⟩))
    (fun os started H enc _ F => by rw [OpenClaim.pre_eq_preRow]; exact writes_lifted os started H enc F)

theorem writes_plain (f : FuncId) (fn : Func) (hf : Tryd.pinned.checked.prog.funcNamed "rerun/rerunlaw.Writes" = some f) (hfn : Tryd.pinned.checked.prog.funcs[f]? = some fn) :
    Rows.writesCard.stood.looks = Tryd.pinned.checked.prog.looks [] ∧ ∀ (j : Nat) t, fn.params[j]? = some t → Tryd.pinned.checked.prog.wantsStandIn t = false := by
  obtain rfl : f = 6 := Option.some.inj ((show Tryd.prog.funcNamed "rerun/rerunlaw.Writes" = some 6 by kernel_rfl).symm.trans hf) |>.symm
  obtain rfl : fn = Tryd.f6 := (Option.some.inj (Tryd.func6.symm.trans hfn)).symm
  refine ⟨by kernel_rfl, fun j t ht => ?_⟩
  rw [Tryd.params6] at ht
  have hm : t ∈ [51, 9] := by simpa using Array.mem_of_getElem? ht
  have hall : ([51, 9].all fun u => !Tryd.prog.wantsStandIn u) = true := by kernel_rfl
  exact (show Tryd.prog.wantsStandIn t = false by simpa using List.all_eq_true.1 hall t hm)

theorem writes_card : Rows.WritesCardSaid :=
  Claim7.holds_tied_plain_at .later [] _ _ _ _ writes_said (fun _ h => by cases h) (by kernel_rfl) (fun _ h => by cases h) writes_row_tie rfl ⟨rfl, rfl⟩ (by kernel_rfl) rfl writes_plain (by kernel_rfl)
#print axioms writes_card

end Go.Proofs.YtklenjmfalljgaaDoor
