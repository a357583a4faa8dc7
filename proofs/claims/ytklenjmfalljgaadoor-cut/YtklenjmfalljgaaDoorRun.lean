/- The walk of Run. -/
import Derived.Test.YtklenjmfalljgaaDoorFol
import Derived.Laws.CopyRow
import Derived.OwnWalk
namespace Go.Proofs.YtklenjmfalljgaaDoor
open Go.RowKit
attribute [local go_sem] Go.World.cell?_alloc_some

theorem hide {p : Prop} (h : p) : Hid p := h
theorem unhide {p : Prop} (h : Hid p) : p := h

section
variable {P : Program}
/-- copy of elements of several cells, over the whole of a row. -/
theorem run_copy_wide (w : World) (dT sT ty elem : TypeId) (g dLen dCap : Nat) (a : Addr) (sLen sCap sz : Nat) (cur : Array Value) (t : TypeId) (cs : List Value)
    (hu : P.underlying dT = some (.slice elem)) (hs : (P.info? elem).map (·.size) = some sz)
    (hg : w.heap[g]? = some (.cells cur t (0, 0))) (hn : cs.length = Nat.min sLen dLen * sz)
    (hsrc : ∀ j v, cs[j]? = some v → w.cell? (a.add j) = some v) (hfit : cs.length = cur.size) (h1 : ∀ v ∈ cs, v.oneCell' = true) :
    (Builtin.copy_ #[dT, sT] ty #[.slice (some ⟨g, 0, none⟩) dLen dCap, .slice (some a) sLen sCap]).run P w =
      .ok (goInt (Nat.min sLen dLen)) (w.setRow g cs.toArray) := by
  have hl := run_loadCells_list (P := P) w a cs hsrc
  have hst := run_storeCells_at P g 0 t cs 0 cur w hg (by omega) h1
  have e : (cur.toList.take (0 + 0) ++ cs ++ cur.toList.drop (0 + 0 + cs.length)) = cs := by
    have : cur.toList.drop (0 + 0 + cs.length) = [] := List.drop_of_length_le (by simp; omega)
    rw [this]; simp
  rw [e] at hst
  cases hq : P.info? elem with
  | none => simp [hq] at hs
  | some i =>
    have hi : i.size = sz := by simpa [hq] using hs
    simp [Builtin.copy_, run_underlying hu, Builtin.lenOf, Builtin.firstCells, sizeOf, typeInfo, hq, hi, ← hn, hl, hst]

theorem wpList_copy_wide {w : World} {ops : Array Oper} {rest : List Oper} {o : Oper} {a : Act} {Q : Exit → Act → World → Prop} (hgd : o.guard = none) (d s : Operand) (dT sT : TypeId)
    (ho : o.op = .call { callee := .builtin .copy, args := #[d, s], argTypes := #[dT, sT] }) (elem : TypeId) (hu : P.underlying dT = some (.slice elem)) (sz : Nat) (hsz : (P.info? elem).map (·.size) = some sz)
    (g dLen dCap : Nat) (ad : Addr) (sLen sCap : Nat) (hd : a.eval d = .slice (some ⟨g, 0, none⟩) dLen dCap) (hs : a.eval s = .slice (some ad) sLen sCap)
    (cur : Array Value) (t : TypeId) (hg : w.heap[g]? = some (.cells cur t (0, 0))) (cs : List Value) (hn : cs.length = Nat.min sLen dLen * sz)
    (hsrc : ∀ j v, cs[j]? = some v → w.cell? (ad.add j) = some v) (hfit : cs.length = cur.size) (h1 : ∀ v ∈ cs, v.oneCell' = true)
    (h : ∀ w', w' = w.setRow g cs.toArray → wpList P ops Q rest (a.put o.dst (goInt (Nat.min sLen dLen))) w') : wpList P ops Q (o :: rest) a w := by
  refine wpList_plain hgd fun K hK => ?_
  have hrun := run_copy_wide (P := P) w dT sT o.type elem g dLen dCap ad sLen sCap sz cur t cs hu hsz hg hn hsrc hfit h1
  unfold Oper.wp
  simp [execOp, ho, resolve, invoke, builtin, hd, hs, hrun, Result.andThen]
  exact hK _ _ (h _ rfl)
end

def regsF (n : Nat) (s : St) : List Value := (List.range n).flatMap fun t => [.int .i64 (s.regs t 0), .int .i64 (s.regs t 1), .int .i64 (s.regs t 2), .int .i64 (s.regs t 3)]

theorem regsF_len (n : Nat) (s : St) : (regsF n s).length = n * 4 := by
  induction n with
  | zero => rfl
  | succ n ih => unfold regsF at *; rw [List.range_succ, List.flatMap_append, List.length_append, ih]; simp; omega

theorem regsF_cells {w : World} {b : Nat} {s : St} (hs : StAt w b s) {n : Nat} (hn : n ≤ 4) : ∀ j v, (regsF n s)[j]? = some v → w.cell? ((⟨b, 10, none⟩ : Addr).add j) = some v := by
  intro j v hj
  have hadd : (⟨b, 10, none⟩ : Addr).add j = ⟨b, 10 + j, none⟩ := by unfold Addr.add; split <;> simp_all
  have hlt : j < n * 4 := by
    have := (List.getElem?_eq_some_iff.1 hj).1
    rw [regsF_len] at this; exact this
  rw [hadd, hs.cell]
  have hc : n = 0 ∨ n = 1 ∨ n = 2 ∨ n = 3 ∨ n = 4 := by omega
  have e : (regsF 4 s)[j]? = some v := by
    have h4 : ∃ l, regsF 4 s = regsF n s ++ l := by
      rcases hc with rfl | rfl | rfl | rfl | rfl
      · exact ⟨_, rfl⟩
      · exact ⟨_, rfl⟩
      · exact ⟨_, rfl⟩
      · exact ⟨_, rfl⟩
      · exact ⟨[], by simp⟩
    obtain ⟨l, e⟩ := h4
    rw [e, List.getElem?_append_left (by rw [regsF_len]; exact hlt)]
    exact hj
  have h16 : j < 16 := by omega
  have hd : s.cells[10 + j]? = (regsF 4 s)[j]? := by
    have : s.cells.toList.drop 10 = regsF 4 s ++ [.int .i64 (s.next 0), .int .i64 (s.next 1), .int .i64 (s.next 2), .int .i64 (s.next 3)] := rfl
    have h2 : (s.cells.toList.drop 10)[j]? = (regsF 4 s)[j]? := by
      rw [this, List.getElem?_append_left (by rw [regsF_len]; omega)]
    rw [← h2, List.getElem?_drop]
    simp
  rw [hd]; exact e

theorem regsF_one (n : Nat) (s : St) : ∀ v ∈ regsF n s, v.oneCell' = true := by
  intro v hv
  unfold regsF at hv
  simp only [List.mem_flatMap, List.mem_cons, List.not_mem_nil, or_false] at hv
  obtain ⟨t, _, h⟩ := hv
  rcases h with rfl | rfl | rfl | rfl <;> rfl

theorem owns_cells {w : World} {base : Nat} {e : TypeId} {size : Nat} {g n cap : Nat} {xs : List Value} (h : w.ownsRow base e size (.slice (some ⟨g, 0, none⟩) n cap) n xs) :
    ∃ cur, w.heap[g]? = some (.cells cur e (0, 0)) ∧ cur.size = cap * size := by
  rcases h.2 with ⟨e1, _⟩ | ⟨g', cap', cur, hv, hb, hh, _, _, hs, _⟩
  · cases e1
  · simp at hv
    obtain ⟨rfl, rfl⟩ := hv
    exact ⟨cur, hh, hs⟩

theorem nine_cells {w : World} {g : Nat} {x0 x1 x2 x3 x4 x5 x6 x7 x8 : Value} {t : TypeId} (h : w.heap[g]? = some (.cells #[x0, x1, x2, x3, x4, x5, x6, x7, x8] t (0, 0))) :
    w.cell? ⟨g, 0, none⟩ = some x0 ∧ w.cell? ⟨g, 1, none⟩ = some x1 ∧ w.cell? ⟨g, 2, none⟩ = some x2 ∧ w.cell? ⟨g, 3, none⟩ = some x3 ∧ w.cell? ⟨g, 4, none⟩ = some x4 ∧ w.cell? ⟨g, 5, none⟩ = some x5 ∧ w.cell? ⟨g, 6, none⟩ = some x6 ∧ w.cell? ⟨g, 7, none⟩ = some x7 ∧ w.cell? ⟨g, 8, none⟩ = some x8 ∧ (∀ o, w.frozen? ⟨g, o, none⟩ = false) := by
  simp [World.cell?, World.frozen?, h]
theorem heap_setRow_other (w : World) (g k : Nat) (cs : Array Value) (h : k ≠ g) : (w.setRow g cs).heap[k]? = w.heap[k]? := by
  simp only [World.setRow, Array.getElem?_modify]
  rw [if_neg (by omega)]

theorem owns_form {w : World} {base : Nat} {e : TypeId} {size : Nat} {v : Value} {n : Nat} {xs : List Value} (h : w.ownsRow base e size v n xs) : ∃ ao n c, v = .slice ao n c := by
  rcases h.2 with ⟨e1, _⟩ | ⟨g', cap', cur, hv, _⟩
  · exact ⟨_, _, _, e1⟩
  · exact ⟨_, _, _, hv⟩

/-- A result in memory. -/
def ResAt (base : Nat) (w : World) (o : Out) (n : Nat) (rv : Value) : Prop :=
  ∃ sv gv, rv = .agg #[.int .i64 o.kind, .int .i64 o.thread, .int .i64 o.at_, sv, .int .i64 (o.st.vars 0), .int .i64 (o.st.vars 1), .int .i64 (o.st.vars 2), .int .i64 (o.st.vars 3), gv] ∧
    w.ownsRow base 48 2 sv o.steps.length (flatS o.steps) ∧ w.ownsRow base 34 4 gv n (regsF n o.st)

theorem info_arr : ((Tryd.prog.info? 34).map fun i => (i.zero, i.size, i.bytes)) = some (some (.agg #[.int .i64 0, .int .i64 0, .int .i64 0, .int .i64 0]), 4, 32) := by kernel_rfl

set_option maxHeartbeats 4000000 in
set_option maxRecDepth 100000 in
theorem run_m {B m : Nat} {w : World} {p : List (List Ins)} {v : Value} {sch : List Int} (hp : vProg p = true) (hM : MachAt B w m p) (hB : B ≤ w.heap.size)
    (hv : IntsAt B w v sch) (h500 : sch.length ≤ 500) :
    Calls Tryd.prog 40 #[.pointer (some ⟨m, 0, none⟩), v] w fun e w' => ∃ rv, e = .returned rv ∧ ResAt w.heap.size w' (runS p sch) p.length rv ∧ w.grownBy w' none := by
  obtain ⟨i0, hi0, hz0, hz1, hz2⟩ := info_parts info_arr
  have hlen := vProg_len hp
  have HM : Hid (MachAt B w m p) := hM
  have HV : Hid (IntsAt B w v sch) := hv
  have HP : Hid (vProg p = true) := hp
  clear hM hv hp
  go_enter Tryd.func40, Tryd.ntmps40
  go_wp2_with fail
  generalize hR9 : Obj.cells #[Value.int IntKind.i64 0, Value.int IntKind.i64 0, Value.int IntKind.i64 0, Value.slice none 0 0, Value.int IntKind.i64 0, Value.int IntKind.i64 0, Value.int IntKind.i64 0, Value.int IntKind.i64 0, Value.slice none 0 0] 37 = R9
  have HR9 := hide hR9
  clear hR9
  have HZ : Hid (StAt ((w.alloc R9).alloc (.cells St.zero.cells 137)) (w.heap.size + 1) St.zero) := by
    unfold Hid StAt
    have := heap_alloc_new (w.alloc R9) (.cells St.zero.cells 137)
    simpa using this
  have HB : Hid (w.grownBy ((w.alloc R9).alloc (.cells St.zero.cells 137)) none) := grown_alloc (grown_alloc (grown_refl _ _))
  have HV' : Hid (IntsAt B ((w.alloc R9).alloc (.cells St.zero.cells 137)) v sch) := by
    obtain ⟨ao, cap, e, h1, h2⟩ := HV.out
    refine ⟨ao, cap, e, h1, fun k hk => ?_⟩
    obtain ⟨g, o, e1, e2, e3⟩ := h2 k hk
    exact ⟨g, o, e1, e2, by rw [HB.out.cell_far _ (by simp; omega) (by simp)]; exact e3⟩
  have HF := hide (follow_m HP.out (HM.out.grown' hB HB.out) (by omega : B ≤ w.heap.size + 1) HZ.out (Inv.zero p) HV'.out h500)
  refine (unhide HF).mono ?_
  rintro e w1 ⟨sv, rfl, ho, hs, hg⟩
  have HO : Hid (w1.ownsRow (w.heap.size + 2) 48 2 sv (runS p sch).steps.length (flatS (runS p sch).steps)) := by
    have e : ((w.alloc R9).alloc (.cells St.zero.cells 137)).heap.size = w.heap.size + 2 := by simp
    rw [e] at ho; exact ho
  have HS : Hid (StAt w1 (w.heap.size + 1) (runS p sch).st) := hs
  have HG : Hid (((w.alloc R9).alloc (.cells St.zero.cells 137)).grownBy w1 (some (w.heap.size + 1))) := hg
  have hsz : w.heap.size + 2 ≤ w1.heap.size := by have := hg.size; simpa using this
  have HG0 : Hid (w.grownBy w1 none) := by
    refine ⟨hg.os, hg.tape, hg.output, by omega, fun k hk _ => ?_⟩
    rw [hg.block k (by simp; omega) (by simp; omega)]
    exact HB.out.block k hk (by simp)
  obtain ⟨sao, sln, scp, rfl⟩ := owns_form ho
  have HMm : Hid (MachAt B w1 m p) := HM.out.grown' hB HG0.out
  clear ho hs hg HF
  generalize hO : runS p sch = o at *
  have hoe : follow p sch 0 St.zero [] = o := hO
  rw [hoe]
  clear hoe
  have HOe := hide hO
  clear hO
  obtain ⟨mg, mcap, hm1, hm2, hm3, hm4⟩ := HMm.out
  clear hm4
  have hn4 : (p.length : Int) ≤ 4 := by omega
  have HSa : Hid (StAt (w1.alloc (.cells #[.int .i64 o.kind, .int .i64 o.thread, .int .i64 o.at_] 32)) (w.heap.size + 1) o.st) := HS.out.grown (grown_alloc (grown_refl _ _))
  go_wp2_with (at_make; refine wpList_make_full _ rfl _ _ _ rfl (w.heap.size + 2) 34 i0 _ 4 Tryd.underlying35 hi0 hz0 hz1 .i64 .i64 _ _ p.length rfl rfl rfl rfl (by rw [hz2]; omega) (by unfold maxLen; omega) (by simp; omega) ?_; intro w2 hown2 hg2; simp only [World.size_alloc] at hown2; obtain ⟨cur, hcur, hcsz⟩ := owns_cells hown2)
  rw [run_copy_wide w2 35 35 3 34 (w1.heap.size + 1) p.length p.length ⟨w.heap.size + 1, 10, none⟩ 4 4 4 cur 34 (regsF p.length o.st) Tryd.underlying35 (by rw [hi0]; simp [hz1]) hcur (by rw [regsF_len]; show p.length * 4 = min 4 p.length * 4; omega) (regsF_cells (HSa.out.grown hg2) (by omega)) (by rw [regsF_len, hcsz]) (regsF_one _ _)]
  have HGc : Hid ((w1.alloc (.cells #[.int .i64 o.kind, .int .i64 o.thread, .int .i64 o.at_] 32)).grownBy w2 none) := hg2
  have HCu : Hid (w2.heap[w1.heap.size + 1]? = some (.cells cur 34 (0, 0))) := hcur
  clear hg2 hown2 hcur
  generalize hw3 : w2.setRow (w1.heap.size + 1) (regsF p.length o.st).toArray = w3
  have HW3 := hide hw3
  clear hw3
  have hb3 : ∀ k, k < w1.heap.size + 1 → w3.heap[k]? = (w1.alloc (.cells #[.int .i64 o.kind, .int .i64 o.thread, .int .i64 o.at_] 32)).heap[k]? := fun k hk => by
    rw [← HW3.out, heap_setRow_other _ _ _ _ (by omega), HGc.out.block k (by simp; omega) (by simp)]
  have HB3 := hide hb3
  have hvb : w3.heap[w1.heap.size]? = some (.cells #[.int .i64 o.kind, .int .i64 o.thread, .int .i64 o.at_] 32 (0, 0)) := by rw [hb3 _ (by omega)]; exact heap_alloc_new w1 _
  have hst : StAt w3 (w.heap.size + 1) o.st := by
    unfold StAt; rw [hb3 _ (by omega)]; exact HSa.out
  have hrb : w3.heap[w.heap.size]? = some R9 := by
    rw [hb3 _ (by omega), Below.heap_alloc _ _ _ (by omega), HG.out.block _ (by simp; omega) (by simp)]
    rw [Below.heap_alloc _ _ _ (by simp)]
    exact heap_alloc_new w R9
  obtain ⟨q0, q1, q2, _⟩ := three_cells hvb
  have s0 := hst.var (v := 0) (by omega)
  have s1 := hst.var (v := 1) (by omega)
  have s2 := hst.var (v := 2) (by omega)
  have s3 := hst.var (v := 3) (by omega)
  have HST := hide hst
  rw [← HR9.out] at hrb
  obtain ⟨r0, r1, r2, r3, r4, r5, r6, r7, r8, rf⟩ := nine_cells hrb
  have f0 := rf 0
  have f1 := rf 1
  have f2 := rf 2
  have f3 := rf 3
  have f4 := rf 4
  have f5 := rf 5
  have f6 := rf 6
  have f7 := rf 7
  have f8 := rf 8
  have HG3 : Hid (w1.grownBy w3 none) := by
    refine ⟨?_, ?_, ?_, ?_, fun k hk _ => by rw [hb3 k (by omega), Below.heap_alloc _ _ _ hk]⟩
    · rw [← HW3.out]; exact HGc.out.os
    · rw [← HW3.out]; exact HGc.out.tape
    · rw [← HW3.out]; exact HGc.out.output
    · rw [← HW3.out]; have := HGc.out.size; simp at this ⊢; omega
  have HO3 : Hid (w3.ownsRow (w.heap.size + 2) 34 4 (.slice (some ⟨w1.heap.size + 1, 0, none⟩) p.length p.length) p.length (regsF p.length o.st)) := by
    refine ⟨regsF_len _ _, Or.inr ⟨w1.heap.size + 1, p.length, (regsF p.length o.st).toArray, rfl, by omega, ?_, Nat.le_refl _, by unfold maxLen; omega, by simp [regsF_len], ?_⟩⟩
    · rw [← HW3.out]; exact setRow_heap _ _ _ _ _ _ HCu.out
    · rw [List.take_of_length_le (by simp [regsF_len])]
  clear rf hrb hvb hst hb3 hm3
  go_wp2
  rw [HOe.out]
  refine bodyPost_ret (v := .agg #[.int .i64 o.kind, .int .i64 o.thread, .int .i64 o.at_, .slice sao sln scp, .int .i64 (o.st.vars 0), .int .i64 (o.st.vars 1), .int .i64 (o.st.vars 2), .int .i64 (o.st.vars 3), .slice (some ⟨w1.heap.size + 1, 0, none⟩) p.length p.length]) ?_ rfl ⟨_, rfl, ⟨_, _, rfl, ?_, ?_⟩, ?_⟩
  · simp [results, Tryd.results40, go_sem, r0, r1, r2, r3, r4, r5, r6, r7, r8]
  · refine owns_mono (base := w.heap.size + 2) ?_ (by omega)
    iterate 9 refine ownsRow_setCell_below ?_ (by simp) _
    exact owns_grown HO.out HG3.out (fun _ e => by cases e)
  · refine owns_mono (base := w.heap.size + 2) ?_ (by omega)
    iterate 9 refine ownsRow_setCell_below ?_ (by simp) _
    exact HO3.out
  · iterate 9 refine grown_setNew ?_ (by omega)
    exact grown_trans HG0.out HG3.out

end Go.Proofs.YtklenjmfalljgaaDoor
