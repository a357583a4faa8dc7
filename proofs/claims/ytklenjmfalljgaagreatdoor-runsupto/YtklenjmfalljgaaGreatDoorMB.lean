/- The texts Run Val Mk Mk2 New New2 Rep Rfa. -/
import Derived.Test.YtklenjmfalljgaaGreatDoorMA
import Derived.Laws.CopyRow
import Derived.OwnWalk

/- The walk of Run. -/
namespace Go.Proofs.YtklenjmfalljgaaGreatDoor
open Go.RowKit
attribute [local go_sem] Go.World.cell?_alloc_some

theorem hide {p : Prop} (h : p) : Hid p := h
theorem unhide {p : Prop} (h : Hid p) : p := h

section
variable {P : Program}
/-- copy of elements of several cells, over the whole of a row. -/
theorem run_copy_wide (w : World) (dT sT ty elem : TypeId) (g dLen dCap : Nat) (a : Addr) (sLen sCap sz : Nat) (cur : Array Value) (t : TypeId) (cs : List Value)
    (hu : P.underlying dT = some (.slice elem)) (hs : (P.info? elem).map (·.size) = some sz)
    (hg : w.heap[g]? = some (.cells cur t (0, 0))) (hn : cs.length = Nat.min sLen dLen * sz)
    (hsrc : ∀ j v, cs[j]? = some v → w.cell? (a.add j) = some v) (hfit : cs.length = cur.size) (h1 : ∀ v ∈ cs, v.oneCell' = true) :
    (Builtin.copy_ #[dT, sT] ty #[.slice (some ⟨g, 0, none⟩) dLen dCap, .slice (some a) sLen sCap]).run P w =
      .ok (goInt (Nat.min sLen dLen)) (w.setRow g cs.toArray) := by
  have hl := run_loadCells_list (P := P) w a cs hsrc
  have hst := run_storeCells_at P g 0 t cs 0 cur w hg (by omega) h1
  have e : (cur.toList.take (0 + 0) ++ cs ++ cur.toList.drop (0 + 0 + cs.length)) = cs := by
    have : cur.toList.drop (0 + 0 + cs.length) = [] := List.drop_of_length_le (by simp; omega)
    rw [this]; simp
  rw [e] at hst
  cases hq : P.info? elem with
  | none => simp [hq] at hs
  | some i =>
    have hi : i.size = sz := by simpa [hq] using hs
    simp [Builtin.copy_, run_underlying hu, Builtin.lenOf, Builtin.firstCells, sizeOf, typeInfo, hq, hi, ← hn, hl, hst]

theorem wpList_copy_wide {w : World} {ops : Array Oper} {rest : List Oper} {o : Oper} {a : Act} {Q : Exit → Act → World → Prop} (hgd : o.guard = none) (d s : Operand) (dT sT : TypeId)
    (ho : o.op = .call { callee := .builtin .copy, args := #[d, s], argTypes := #[dT, sT] }) (elem : TypeId) (hu : P.underlying dT = some (.slice elem)) (sz : Nat) (hsz : (P.info? elem).map (·.size) = some sz)
    (g dLen dCap : Nat) (ad : Addr) (sLen sCap : Nat) (hd : a.eval d = .slice (some ⟨g, 0, none⟩) dLen dCap) (hs : a.eval s = .slice (some ad) sLen sCap)
    (cur : Array Value) (t : TypeId) (hg : w.heap[g]? = some (.cells cur t (0, 0))) (cs : List Value) (hn : cs.length = Nat.min sLen dLen * sz)
    (hsrc : ∀ j v, cs[j]? = some v → w.cell? (ad.add j) = some v) (hfit : cs.length = cur.size) (h1 : ∀ v ∈ cs, v.oneCell' = true)
    (h : ∀ w', w' = w.setRow g cs.toArray → wpList P ops Q rest (a.put o.dst (goInt (Nat.min sLen dLen))) w') : wpList P ops Q (o :: rest) a w := by
  refine wpList_plain hgd fun K hK => ?_
  have hrun := run_copy_wide (P := P) w dT sT o.type elem g dLen dCap ad sLen sCap sz cur t cs hu hsz hg hn hsrc hfit h1
  unfold Oper.wp
  simp [execOp, ho, resolve, invoke, builtin, hd, hs, hrun, Result.andThen]
  exact hK _ _ (h _ rfl)
end

def regsF (n : Nat) (s : St) : List Value := (List.range n).flatMap fun t => [.int .i64 (s.regs t 0), .int .i64 (s.regs t 1), .int .i64 (s.regs t 2), .int .i64 (s.regs t 3)]

theorem regsF_len (n : Nat) (s : St) : (regsF n s).length = n * 4 := by
  induction n with
  | zero => rfl
  | succ n ih => unfold regsF at *; rw [List.range_succ, List.flatMap_append, List.length_append, ih]; simp; omega

theorem regsF_cells {w : World} {b : Nat} {s : St} (hs : StAt w b s) {n : Nat} (hn : n ≤ 4) : ∀ j v, (regsF n s)[j]? = some v → w.cell? ((⟨b, 10, none⟩ : Addr).add j) = some v := by
  intro j v hj
  have hadd : (⟨b, 10, none⟩ : Addr).add j = ⟨b, 10 + j, none⟩ := by unfold Addr.add; split <;> simp_all
  have hlt : j < n * 4 := by
    have := (List.getElem?_eq_some_iff.1 hj).1
    rw [regsF_len] at this; exact this
  rw [hadd, hs.cell]
  have hc : n = 0 ∨ n = 1 ∨ n = 2 ∨ n = 3 ∨ n = 4 := by omega
  have e : (regsF 4 s)[j]? = some v := by
    have h4 : ∃ l, regsF 4 s = regsF n s ++ l := by
      rcases hc with rfl | rfl | rfl | rfl | rfl
      · exact ⟨_, rfl⟩
      · exact ⟨_, rfl⟩
      · exact ⟨_, rfl⟩
      · exact ⟨_, rfl⟩
      · exact ⟨[], by simp⟩
    obtain ⟨l, e⟩ := h4
    rw [e, List.getElem?_append_left (by rw [regsF_len]; exact hlt)]
    exact hj
  have h16 : j < 16 := by omega
  have hd : s.cells[10 + j]? = (regsF 4 s)[j]? := by
    have : s.cells.toList.drop 10 = regsF 4 s ++ [.int .i64 (s.next 0), .int .i64 (s.next 1), .int .i64 (s.next 2), .int .i64 (s.next 3)] := rfl
    have h2 : (s.cells.toList.drop 10)[j]? = (regsF 4 s)[j]? := by
      rw [this, List.getElem?_append_left (by rw [regsF_len]; omega)]
    rw [← h2, List.getElem?_drop]
    simp
  rw [hd]; exact e

theorem regsF_one (n : Nat) (s : St) : ∀ v ∈ regsF n s, v.oneCell' = true := by
  intro v hv
  unfold regsF at hv
  simp only [List.mem_flatMap, List.mem_cons, List.not_mem_nil, or_false] at hv
  obtain ⟨t, _, h⟩ := hv
  rcases h with rfl | rfl | rfl | rfl <;> rfl

theorem owns_cells {w : World} {base : Nat} {e : TypeId} {size : Nat} {g n cap : Nat} {xs : List Value} (h : w.ownsRow base e size (.slice (some ⟨g, 0, none⟩) n cap) n xs) :
    ∃ cur, w.heap[g]? = some (.cells cur e (0, 0)) ∧ cur.size = cap * size := by
  rcases h.2 with ⟨e1, _⟩ | ⟨g', cap', cur, hv, hb, hh, _, _, hs, _⟩
  · cases e1
  · simp at hv
    obtain ⟨rfl, rfl⟩ := hv
    exact ⟨cur, hh, hs⟩

theorem nine_cells {w : World} {g : Nat} {x0 x1 x2 x3 x4 x5 x6 x7 x8 : Value} {t : TypeId} (h : w.heap[g]? = some (.cells #[x0, x1, x2, x3, x4, x5, x6, x7, x8] t (0, 0))) :
    w.cell? ⟨g, 0, none⟩ = some x0 ∧ w.cell? ⟨g, 1, none⟩ = some x1 ∧ w.cell? ⟨g, 2, none⟩ = some x2 ∧ w.cell? ⟨g, 3, none⟩ = some x3 ∧ w.cell? ⟨g, 4, none⟩ = some x4 ∧ w.cell? ⟨g, 5, none⟩ = some x5 ∧ w.cell? ⟨g, 6, none⟩ = some x6 ∧ w.cell? ⟨g, 7, none⟩ = some x7 ∧ w.cell? ⟨g, 8, none⟩ = some x8 ∧ (∀ o, w.frozen? ⟨g, o, none⟩ = false) := by
  simp [World.cell?, World.frozen?, h]
theorem heap_setRow_other (w : World) (g k : Nat) (cs : Array Value) (h : k ≠ g) : (w.setRow g cs).heap[k]? = w.heap[k]? := by
  simp only [World.setRow, Array.getElem?_modify]
  rw [if_neg (by omega)]

theorem owns_form {w : World} {base : Nat} {e : TypeId} {size : Nat} {v : Value} {n : Nat} {xs : List Value} (h : w.ownsRow base e size v n xs) : ∃ ao n c, v = .slice ao n c := by
  rcases h.2 with ⟨e1, _⟩ | ⟨g', cap', cur, hv, _⟩
  · exact ⟨_, _, _, e1⟩
  · exact ⟨_, _, _, hv⟩

/-- A result in memory. -/
def ResAt (base : Nat) (w : World) (o : Out) (n : Nat) (rv : Value) : Prop :=
  ∃ sv gv, rv = .agg #[.int .i64 o.kind, .int .i64 o.thread, .int .i64 o.at_, sv, .int .i64 (o.st.vars 0), .int .i64 (o.st.vars 1), .int .i64 (o.st.vars 2), .int .i64 (o.st.vars 3), gv] ∧
    w.ownsRow base 84 2 sv o.steps.length (flatS o.steps) ∧ w.ownsRow base 29 4 gv n (regsF n o.st)

theorem info_arr : ((Tryz.prog.info? 29).map fun i => (i.zero, i.size, i.bytes)) = some (some (.agg #[.int .i64 0, .int .i64 0, .int .i64 0, .int .i64 0]), 4, 32) := by kernel_rfl

set_option maxHeartbeats 4000000 in
set_option maxRecDepth 100000 in
theorem run_m {B m : Nat} {w : World} {p : List (List Ins)} {v : Value} {sch : List Int} (hp : vProg p = true) (hM : MachAt B w m p) (hB : B ≤ w.heap.size)
    (hv : IntsAt B w v sch) (h500 : sch.length ≤ 500) :
    Calls Tryz.prog 25 #[.pointer (some ⟨m, 0, none⟩), v] w fun e w' => ∃ rv, e = .returned rv ∧ ResAt w.heap.size w' (runS p sch) p.length rv ∧ w.grownBy w' none := by
  obtain ⟨i0, hi0, hz0, hz1, hz2⟩ := info_parts info_arr
  have hlen := vProg_len hp
  have HM : Hid (MachAt B w m p) := hM
  have HV : Hid (IntsAt B w v sch) := hv
  have HP : Hid (vProg p = true) := hp
  clear hM hv hp
  go_enter Tryz.func25, Tryz.ntmps25
  go_wp2_with fail
  generalize hR9 : Obj.cells #[Value.int IntKind.i64 0, Value.int IntKind.i64 0, Value.int IntKind.i64 0, Value.slice none 0 0, Value.int IntKind.i64 0, Value.int IntKind.i64 0, Value.int IntKind.i64 0, Value.int IntKind.i64 0, Value.slice none 0 0] 32 = R9
  have HR9 := hide hR9
  clear hR9
  have HZ : Hid (StAt ((w.alloc R9).alloc (.cells St.zero.cells 118)) (w.heap.size + 1) St.zero) := by
    unfold Hid StAt
    have := heap_alloc_new (w.alloc R9) (.cells St.zero.cells 118)
    simpa using this
  have HB : Hid (w.grownBy ((w.alloc R9).alloc (.cells St.zero.cells 118)) none) := grown_alloc (grown_alloc (grown_refl _ _))
  have HV' : Hid (IntsAt B ((w.alloc R9).alloc (.cells St.zero.cells 118)) v sch) := by
    obtain ⟨ao, cap, e, h1, h2⟩ := HV.out
    refine ⟨ao, cap, e, h1, fun k hk => ?_⟩
    obtain ⟨g, o, e1, e2, e3⟩ := h2 k hk
    exact ⟨g, o, e1, e2, by rw [HB.out.cell_far _ (by simp; omega) (by simp)]; exact e3⟩
  have HF := hide (follow_m HP.out (HM.out.grown' hB HB.out) (by omega : B ≤ w.heap.size + 1) HZ.out (Inv.zero p) HV'.out h500)
  refine (unhide HF).mono ?_
  rintro e w1 ⟨sv, rfl, ho, hs, hg⟩
  have HO : Hid (w1.ownsRow (w.heap.size + 2) 84 2 sv (runS p sch).steps.length (flatS (runS p sch).steps)) := by
    have e : ((w.alloc R9).alloc (.cells St.zero.cells 118)).heap.size = w.heap.size + 2 := by simp
    rw [e] at ho; exact ho
  have HS : Hid (StAt w1 (w.heap.size + 1) (runS p sch).st) := hs
  have HG : Hid (((w.alloc R9).alloc (.cells St.zero.cells 118)).grownBy w1 (some (w.heap.size + 1))) := hg
  have hsz : w.heap.size + 2 ≤ w1.heap.size := by have := hg.size; simpa using this
  have HG0 : Hid (w.grownBy w1 none) := by
    refine ⟨hg.os, hg.tape, hg.output, by omega, fun k hk _ => ?_⟩
    rw [hg.block k (by simp; omega) (by simp; omega)]
    exact HB.out.block k hk (by simp)
  obtain ⟨sao, sln, scp, rfl⟩ := owns_form ho
  have HMm : Hid (MachAt B w1 m p) := HM.out.grown' hB HG0.out
  clear ho hs hg HF
  generalize hO : runS p sch = o at *
  have hoe : follow p sch 0 St.zero [] = o := hO
  rw [hoe]
  clear hoe
  have HOe := hide hO
  clear hO
  obtain ⟨mg, mcap, hm1, hm2, hm3, hm4⟩ := HMm.out
  clear hm4
  have hn4 : (p.length : Int) ≤ 4 := by omega
  have HSa : Hid (StAt (w1.alloc (.cells #[.int .i64 o.kind, .int .i64 o.thread, .int .i64 o.at_] 27)) (w.heap.size + 1) o.st) := HS.out.grown (grown_alloc (grown_refl _ _))
  go_wp2_with (at_make; refine wpList_make_full _ rfl _ _ _ rfl (w.heap.size + 2) 29 i0 _ 4 Tryz.underlying30 hi0 hz0 hz1 .i64 .i64 _ _ p.length rfl rfl rfl rfl (by rw [hz2]; omega) (by unfold maxLen; omega) (by simp; omega) ?_; intro w2 hown2 hg2; simp only [World.size_alloc] at hown2; obtain ⟨cur, hcur, hcsz⟩ := owns_cells hown2)
  rw [run_copy_wide w2 30 30 3 29 (w1.heap.size + 1) p.length p.length ⟨w.heap.size + 1, 10, none⟩ 4 4 4 cur 29 (regsF p.length o.st) Tryz.underlying30 (by rw [hi0]; simp [hz1]) hcur (by rw [regsF_len]; show p.length * 4 = min 4 p.length * 4; omega) (regsF_cells (HSa.out.grown hg2) (by omega)) (by rw [regsF_len, hcsz]) (regsF_one _ _)]
  have HGc : Hid ((w1.alloc (.cells #[.int .i64 o.kind, .int .i64 o.thread, .int .i64 o.at_] 27)).grownBy w2 none) := hg2
  have HCu : Hid (w2.heap[w1.heap.size + 1]? = some (.cells cur 29 (0, 0))) := hcur
  clear hg2 hown2 hcur
  generalize hw3 : w2.setRow (w1.heap.size + 1) (regsF p.length o.st).toArray = w3
  have HW3 := hide hw3
  clear hw3
  have hb3 : ∀ k, k < w1.heap.size + 1 → w3.heap[k]? = (w1.alloc (.cells #[.int .i64 o.kind, .int .i64 o.thread, .int .i64 o.at_] 27)).heap[k]? := fun k hk => by
    rw [← HW3.out, heap_setRow_other _ _ _ _ (by omega), HGc.out.block k (by simp; omega) (by simp)]
  have HB3 := hide hb3
  have hvb : w3.heap[w1.heap.size]? = some (.cells #[.int .i64 o.kind, .int .i64 o.thread, .int .i64 o.at_] 27 (0, 0)) := by rw [hb3 _ (by omega)]; exact heap_alloc_new w1 _
  have hst : StAt w3 (w.heap.size + 1) o.st := by
    unfold StAt; rw [hb3 _ (by omega)]; exact HSa.out
  have hrb : w3.heap[w.heap.size]? = some R9 := by
    rw [hb3 _ (by omega), Below.heap_alloc _ _ _ (by omega), HG.out.block _ (by simp; omega) (by simp)]
    rw [Below.heap_alloc _ _ _ (by simp)]
    exact heap_alloc_new w R9
  obtain ⟨q0, q1, q2, _⟩ := three_cells hvb
  have s0 := hst.var (v := 0) (by omega)
  have s1 := hst.var (v := 1) (by omega)
  have s2 := hst.var (v := 2) (by omega)
  have s3 := hst.var (v := 3) (by omega)
  have HST := hide hst
  rw [← HR9.out] at hrb
  obtain ⟨r0, r1, r2, r3, r4, r5, r6, r7, r8, rf⟩ := nine_cells hrb
  have f0 := rf 0
  have f1 := rf 1
  have f2 := rf 2
  have f3 := rf 3
  have f4 := rf 4
  have f5 := rf 5
  have f6 := rf 6
  have f7 := rf 7
  have f8 := rf 8
  have HG3 : Hid (w1.grownBy w3 none) := by
    refine ⟨?_, ?_, ?_, ?_, fun k hk _ => by rw [hb3 k (by omega), Below.heap_alloc _ _ _ hk]⟩
    · rw [← HW3.out]; exact HGc.out.os
    · rw [← HW3.out]; exact HGc.out.tape
    · rw [← HW3.out]; exact HGc.out.output
    · rw [← HW3.out]; have := HGc.out.size; simp at this ⊢; omega
  have HO3 : Hid (w3.ownsRow (w.heap.size + 2) 29 4 (.slice (some ⟨w1.heap.size + 1, 0, none⟩) p.length p.length) p.length (regsF p.length o.st)) := by
    refine ⟨regsF_len _ _, Or.inr ⟨w1.heap.size + 1, p.length, (regsF p.length o.st).toArray, rfl, by omega, ?_, Nat.le_refl _, by unfold maxLen; omega, by simp [regsF_len], ?_⟩⟩
    · rw [← HW3.out]; exact setRow_heap _ _ _ _ _ _ HCu.out
    · rw [List.take_of_length_le (by simp [regsF_len])]
  clear rf hrb hvb hst hb3 hm3
  go_wp2
  rw [HOe.out]
  refine bodyPost_ret (v := .agg #[.int .i64 o.kind, .int .i64 o.thread, .int .i64 o.at_, .slice sao sln scp, .int .i64 (o.st.vars 0), .int .i64 (o.st.vars 1), .int .i64 (o.st.vars 2), .int .i64 (o.st.vars 3), .slice (some ⟨w1.heap.size + 1, 0, none⟩) p.length p.length]) ?_ rfl ⟨_, rfl, ⟨_, _, rfl, ?_, ?_⟩, ?_⟩
  · simp [results, Tryz.results25, go_sem, r0, r1, r2, r3, r4, r5, r6, r7, r8]
  · refine owns_mono (base := w.heap.size + 2) ?_ (by omega)
    iterate 9 refine ownsRow_setCell_below ?_ (by simp) _
    exact owns_grown HO.out HG3.out (fun _ e => by cases e)
  · refine owns_mono (base := w.heap.size + 2) ?_ (by omega)
    iterate 9 refine ownsRow_setCell_below ?_ (by simp) _
    exact HO3.out
  · iterate 9 refine grown_setNew ?_ (by omega)
    exact grown_trans HG0.out HG3.out

end Go.Proofs.YtklenjmfalljgaaGreatDoor

/- The walks of fits and validIns. -/
namespace Go.Proofs.YtklenjmfalljgaaGreatDoor
open Go.RowKit
attribute [local go_sem] Go.World.cell?_alloc_some

set_option maxHeartbeats 1000000 in
theorem fits_m (k x len : Int) (h0 : 0 ≤ len) (h16 : len ≤ 16) (w : World) : Calls Tryz.prog 163 #[.int .i64 k, .int .i64 x, .int .i64 len] w fun e w' => e = .returned (.bool (fitsB k x len)) ∧ w' = w := by
  by_cases e1 : k = 1
  · subst e1
    go_enter Tryz.func163, Tryz.ntmps163
    go_wp2_with (go_at_call 85; refine (below_m _ _ _).mono ?_; rintro e w' ⟨rfl, rfl⟩)
    go_ret
    exact ⟨rfl, rfl⟩
  by_cases e2 : k = 2
  · subst e2
    go_enter Tryz.func163, Tryz.ntmps163
    go_wp2_with (go_at_call 85; refine (below_m _ _ _).mono ?_; rintro e w' ⟨rfl, rfl⟩)
    go_ret
    exact ⟨rfl, rfl⟩
  by_cases e3 : k = 3
  · subst e3
    go_enter Tryz.func163, Tryz.ntmps163
    go_wp2_with (go_at_call 85; refine (below_m _ _ _).mono ?_; rintro e w' ⟨rfl, rfl⟩)
    go_ret
    exact ⟨rfl, rfl⟩
  by_cases e4 : k = 4
  · subst e4
    go_enter Tryz.func163, Tryz.ntmps163
    go_wp2_with (go_at_call 85; refine (below_m _ _ _).mono ?_; rintro e w' ⟨rfl, rfl⟩)
    go_ret
    exact ⟨rfl, rfl⟩
  by_cases e5 : k = 5
  · subst e5
    go_enter Tryz.func163, Tryz.ntmps163
    go_wp2_with fail
    go_ret
    exact ⟨rfl, rfl⟩
  have HB : Hid (fitsB k x len = (x == 0)) := by unfold Hid; simp [fitsB, e1, e2, e3, e4, e5]
  have f1 : (k == 1) = false := by simpa using e1
  have f2 : (k == 2) = false := by simpa using e2
  have f3 : (k == 3) = false := by simpa using e3
  have f4 : (k == 4) = false := by simpa using e4
  have f5 : (k == 5) = false := by simpa using e5
  go_enter Tryz.func163, Tryz.ntmps163
  go_wp2_with fail
  go_ret
  exact ⟨by rw [HB.out]; rfl, rfl⟩

/-- The table of shapes, as it lies in memory. -/
def ShpAt (w : World) : Prop := ∀ o j, o < 12 → j < 3 → w.cell? ⟨0, o * 3 + j, none⟩ = some (.int .i64 (shp o j))

set_option maxHeartbeats 1000000 in
set_option maxRecDepth 100000 in
theorem validIns_m (i : Ins) (len : Int) (h0 : 0 ≤ len) (h16 : len ≤ 16) (w : World) (hS : ShpAt w) :
    Calls Tryz.prog 128 #[.agg #[.int .i64 i.op, .int .i64 i.a, .int .i64 i.b, .int .i64 i.n], .int .i64 len] w fun e w' => e = .returned (.bool (vIns i len)) ∧ w.grownBy w' none := by
  have HSh : Hid (ShpAt w) := hS
  clear hS
  by_cases h1 : 1 ≤ i.op
  · by_cases h2 : i.op ≤ 11
    · have eo : ((i.op.toNat : Nat) : Int) = i.op := by omega
      have c0 := HSh.out i.op.toNat 0 (by omega) (by omega)
      have c1 := HSh.out i.op.toNat 1 (by omega) (by omega)
      have c2 := HSh.out i.op.toNat 2 (by omega) (by omega)
      simp only [Nat.add_zero] at c0
      have HV : Hid (vIns i len = (fitsB (shp i.op.toNat 0) i.a len && (fitsB (shp i.op.toNat 1) i.b len && fitsB (shp i.op.toNat 2) i.n len))) := by unfold Hid; simp [vIns, h1, h2]
      generalize shp i.op.toNat 0 = k0 at *
      generalize shp i.op.toNat 1 = k1 at *
      generalize shp i.op.toNat 2 = k2 at *
      go_enter Tryz.func128, Tryz.ntmps128
      go_wp2_with fail
      refine (fits_m _ _ _ h0 h16 _).mono ?_
      rintro e w' ⟨rfl, rfl⟩
      cases hf0 : fitsB k0 i.a len
      · go_wp2_with fail
        go_ret
        exact ⟨by rw [HV.out, hf0]; rfl, grown_alloc (grown_alloc (grown_refl _ _))⟩
      · go_wp2_with fail
        refine (fits_m _ _ _ h0 h16 _).mono ?_
        rintro e w' ⟨rfl, rfl⟩
        cases hf1 : fitsB k1 i.b len
        · go_wp2_with fail
          go_ret
          exact ⟨by rw [HV.out, hf0, hf1]; rfl, grown_alloc (grown_alloc (grown_refl _ _))⟩
        · go_wp2_with fail
          refine (fits_m _ _ _ h0 h16 _).mono ?_
          rintro e w' ⟨rfl, rfl⟩
          go_wp2_with fail
          go_ret
          exact ⟨by rw [HV.out, hf0, hf1]; simp, grown_alloc (grown_alloc (grown_refl _ _))⟩
    · have HV : Hid (vIns i len = false) := by unfold Hid; simp [vIns, h2]
      have h3 : 11 < i.op := by omega
      go_enter Tryz.func128, Tryz.ntmps128
      go_wp2_with fail
      go_ret
      exact ⟨by rw [HV.out]; rfl, grown_alloc (grown_refl _ _)⟩
  · have HV : Hid (vIns i len = false) := by unfold Hid; simp [vIns, h1]
    have h3 : i.op < 1 := by omega
    go_enter Tryz.func128, Tryz.ntmps128
    go_wp2_with fail
    go_ret
    exact ⟨by rw [HV.out]; rfl, grown_alloc (grown_refl _ _)⟩

/-- A thread's code in memory. -/
def CodeAt (w : World) (v : Value) (c : List Ins) : Prop :=
  ∃ ao cap, v = .slice ao c.length cap ∧ ∀ k (hk : k < c.length), ∃ g o, ao = some ⟨g, o, none⟩ ∧ w.cell? ⟨g, o + k * 4, none⟩ = some (.int .i64 c[k].op) ∧
    w.cell? ⟨g, o + k * 4 + 1, none⟩ = some (.int .i64 c[k].a) ∧ w.cell? ⟨g, o + k * 4 + 2, none⟩ = some (.int .i64 c[k].b) ∧ w.cell? ⟨g, o + k * 4 + 3, none⟩ = some (.int .i64 c[k].n)

/-- A program in memory. -/
def ProgAt (w : World) (v : Value) (p : List (List Ins)) : Prop :=
  ∃ ao cap, v = .agg #[.slice ao p.length cap] ∧ ∀ t (ht : t < p.length), ∃ g o, ao = some ⟨g, o, none⟩ ∧ ∃ rv, w.cell? ⟨g, o + t, none⟩ = some rv ∧ CodeAt w rv p[t]

/-- Cells that are there are as they were. -/
def Pres (w w' : World) : Prop := ∀ a v, w.cell? a = some v → w'.cell? a = some v
theorem Pres.refl (w : World) : Pres w w := fun _ _ h => h
theorem Pres.trans {a b c : World} (h : Pres a b) (h' : Pres b c) : Pres a c := fun x v hx => h' x v (h x v hx)
theorem pres_grown {w w' : World} (h : w.grownBy w' none) : Pres w w' := fun a v ha => by
  rw [h.cell_far a (World.block_lt_of_cell? w a ha) (by simp)]; exact ha
theorem CodeAt.pres {w w' : World} {v : Value} {c : List Ins} (h : CodeAt w v c) (hp : Pres w w') : CodeAt w' v c := by
  obtain ⟨ao, cap, e, h⟩ := h
  refine ⟨ao, cap, e, fun k hk => ?_⟩
  obtain ⟨g, o, e1, e2, e3, e4, e5⟩ := h k hk
  exact ⟨g, o, e1, hp _ _ e2, hp _ _ e3, hp _ _ e4, hp _ _ e5⟩
theorem ProgAt.pres {w w' : World} {v : Value} {p : List (List Ins)} (h : ProgAt w v p) (hp : Pres w w') : ProgAt w' v p := by
  obtain ⟨ao, cap, e, h⟩ := h
  refine ⟨ao, cap, e, fun k hk => ?_⟩
  obtain ⟨g, o, e1, rv, e2, e3⟩ := h k hk
  exact ⟨g, o, e1, rv, hp _ _ e2, e3.pres hp⟩
theorem ShpAt.pres {w w' : World} (h : ShpAt w) (hp : Pres w w') : ShpAt w' := fun o j h1 h2 => hp _ _ (h o j h1 h2)

theorem all_take_succ {α : Type} (l : List α) (f : α → Bool) (k : Nat) (h : k < l.length) : (l.take (k + 1)).all f = ((l.take k).all f && f l[k]) := by
  rw [List.take_succ_eq_append_getElem h, List.all_append]; simp

set_option maxHeartbeats 1000000 in
set_option maxRecDepth 100000 in
theorem validThread_m (c : List Ins) (v : Value) (w : World) (hS : ShpAt w) (hc : CodeAt w v c) :
    Calls Tryz.prog 89 #[v] w fun e w' => e = .returned (.bool (vCode c)) ∧ w.grownBy w' none := by
  obtain ⟨ao, cap, rfl, hc⟩ := hc
  have HSh : Hid (ShpAt w) := hS
  have HC := hide hc
  clear hS hc
  by_cases h16 : c.length ≤ 16
  · have h2 : (c.length : Int) ≤ 16 := by omega
    have HV : Hid (vCode c = c.all fun i => vIns i c.length) := by unfold Hid; simp [vCode, h16]
    go_enter Tryz.func89, Tryz.ntmps89
    go_wp2
    go_loopw [10] (fun i w' => ∃ k : Nat, k ≤ c.length ∧ i = .int .i64 k ∧ Hid (w.grownBy w' none) ∧ Hid ((c.take k).all (fun i => vIns i c.length) = true)) (fun i _ => c.length - (intOf i).toNat)
    case atStart => exact ⟨0, Nat.zero_le _, rfl, grown_refl _ _, rfl⟩
    case round =>
      obtain ⟨k, hk, rfl, HG, HA⟩ := hrel
      by_cases hlt : k < c.length
      · obtain ⟨g, o, rfl, c0, c1, c2, c3⟩ := HC.out k hlt
        have hpr := pres_grown HG.out
        have d0 := hpr _ _ c0
        have d1 := hpr _ _ c1
        have d2 := hpr _ _ c2
        have d3 := hpr _ _ c3
        have HAs := hide (all_take_succ c (fun i => vIns i c.length) k hlt)
        clear c0 c1 c2 c3 hpr
        have hk0 : (0 : Int) ≤ (k : Int) := by omega
        have hk1 : (k : Int) < c.length := by omega
        have HSh' : Hid (ShpAt wr) := HSh.out.pres (pres_grown HG.out)
        generalize c[k] = i at *
        go_wp2_with fail
        refine (validIns_m i c.length (by omega) (by omega) _ (HSh'.out.pres (pres_grown (grown_alloc (grown_refl _ _))))).mono ?_
        rintro e w1 ⟨rfl, hg1⟩
        have HG1 : Hid (w.grownBy w1 none) := grown_trans (grown_alloc HG.out) hg1
        clear hg1
        cases hv : vIns i c.length
        · have HE : Hid (vCode c = false) := by
            unfold Hid
            rw [HV.out]
            have : (c.take (k + 1)).all (fun i => vIns i c.length) = false := by rw [HAs.out, hv]; simp
            rw [← List.take_append_drop (k + 1) c, List.all_append, List.take_append_drop, this]; rfl
          go_wp2_with fail
          go_ret
          exact ⟨by rw [HE.out]; rfl, HG1⟩
        · have HA1 : Hid ((c.take (k + 1)).all (fun i => vIns i c.length) = true) := by unfold Hid; rw [HAs.out, hv, HA.out]; rfl
          clear HAs hv
          go_wp2
          go_roundw
          case rel => exact ⟨k + 1, by omega, by go_num, HG1, HA1⟩
          case measure => simp [intOf]; omega
      · have HE : Hid (vCode c = true) := by
          unfold Hid
          rw [HV.out]
          have := HA.out
          rw [List.take_of_length_le (by omega)] at this
          exact this
        go_wp2
        go_ret
        exact ⟨by rw [HE.out]; rfl, HG⟩
  · have HV : Hid (vCode c = false) := by unfold Hid; simp [vCode, h16]
    have h2 : (16 : Int) < c.length := by omega
    go_enter Tryz.func89, Tryz.ntmps89
    go_wp2
    go_ret
    exact ⟨by rw [HV.out]; rfl, grown_refl _ _⟩

end Go.Proofs.YtklenjmfalljgaaGreatDoor

/- The walks of the makers of closures and of makeAction. -/
namespace Go.Proofs.YtklenjmfalljgaaGreatDoor
open Go.RowKit
attribute [local go_sem] Go.World.cell?_alloc_some

/-- A closure was made. -/
def Made (w : World) (t : Nat) (i : Ins) (e : Ending) (w' : World) : Prop := ∃ v, e = .returned v ∧ (∀ w'' : World, (∀ k, w.heap.size ≤ k → k < w'.heap.size → w''.heap[k]? = w'.heap[k]?) → ActIs w'.heap.size w'' v t i) ∧ w.grownBy w' none

theorem cell_a1 (w : World) (x : Value) (t : TypeId) : (w.alloc (.cells #[x] t)).cell? ⟨w.heap.size, 0, none⟩ = some x := by simp
theorem cell_a2 (w : World) (o : Obj) (a : Addr) (x : Value) (h : w.cell? a = some x) : (w.alloc o).cell? a = some x := by
  rw [World.cell?_alloc_lt _ _ _ (World.block_lt_of_cell? w a h)]; exact h

set_option maxHeartbeats 400000 in
theorem set_mk (t : Nat) (i : Ins) (h : i.op = 1) (w : World) : Calls Tryz.prog 115 #[.int .i64 t, .int .i64 i.a, .int .i64 i.n] w (Made w t i) := by
  have hmf : ∀ (fn : Fn) (first cap : Array Value) (w : World), (Instr.makeFunc fn first cap).run Tryz.prog w = .ok (.func fn first cap) w := fun _ _ _ _ => rfl
  have H : Hid (i.op = 1) := h
  clear h
  go_enter Tryz.func115, Tryz.ntmps115
  go_wp2
  go_ret
  have h := H.out
  refine ⟨_, rfl, fun w2 hw2 => ⟨w.heap.size + 2, w.heap.size, w.heap.size + 1, 0, by (simp <;> omega), by (simp <;> omega), by (simp <;> omega), by simp, Or.inl ⟨h, rfl, ?_, ?_, ?_⟩⟩, grown_alloc (grown_alloc (grown_alloc (grown_refl _ _)))⟩
  all_goals (rw [World.cell?_of_block (hw2 _ (by (simp <;> omega)) (by (simp <;> omega)))]; simp [go_sem])

set_option maxHeartbeats 400000 in
theorem load_mk (t : Nat) (i : Ins) (h : i.op = 2) (w : World) : Calls Tryz.prog 116 #[.int .i64 t, .int .i64 i.a, .int .i64 i.b] w (Made w t i) := by
  have hmf : ∀ (fn : Fn) (first cap : Array Value) (w : World), (Instr.makeFunc fn first cap).run Tryz.prog w = .ok (.func fn first cap) w := fun _ _ _ _ => rfl
  have H : Hid (i.op = 2) := h
  clear h
  go_enter Tryz.func116, Tryz.ntmps116
  go_wp2
  go_ret
  have h := H.out
  refine ⟨_, rfl, fun w2 hw2 => ⟨w.heap.size + 2, w.heap.size, w.heap.size + 1, 0, by (simp <;> omega), by (simp <;> omega), by (simp <;> omega), by simp, Or.inr (Or.inl ⟨h, rfl, ?_, ?_, ?_⟩)⟩, grown_alloc (grown_alloc (grown_alloc (grown_refl _ _)))⟩
  all_goals (rw [World.cell?_of_block (hw2 _ (by (simp <;> omega)) (by (simp <;> omega)))]; simp [go_sem])

set_option maxHeartbeats 400000 in
theorem store_mk (t : Nat) (i : Ins) (h : i.op = 3) (w : World) : Calls Tryz.prog 117 #[.int .i64 t, .int .i64 i.a, .int .i64 i.b] w (Made w t i) := by
  have hmf : ∀ (fn : Fn) (first cap : Array Value) (w : World), (Instr.makeFunc fn first cap).run Tryz.prog w = .ok (.func fn first cap) w := fun _ _ _ _ => rfl
  have H : Hid (i.op = 3) := h
  clear h
  go_enter Tryz.func117, Tryz.ntmps117
  go_wp2
  go_ret
  have h := H.out
  refine ⟨_, rfl, fun w2 hw2 => ⟨w.heap.size, w.heap.size + 2, w.heap.size + 1, 0, by (simp <;> omega), by (simp <;> omega), by (simp <;> omega), by simp, Or.inr (Or.inr (Or.inl ⟨h, rfl, ?_, ?_, ?_⟩))⟩, grown_alloc (grown_alloc (grown_alloc (grown_refl _ _)))⟩
  all_goals (rw [World.cell?_of_block (hw2 _ (by (simp <;> omega)) (by (simp <;> omega)))]; simp [go_sem])

set_option maxHeartbeats 400000 in
theorem divide_mk (t : Nat) (i : Ins) (h : i.op = 7) (w : World) : Calls Tryz.prog 122 #[.int .i64 t, .int .i64 i.a, .int .i64 i.b] w (Made w t i) := by
  have hmf : ∀ (fn : Fn) (first cap : Array Value) (w : World), (Instr.makeFunc fn first cap).run Tryz.prog w = .ok (.func fn first cap) w := fun _ _ _ _ => rfl
  have H : Hid (i.op = 7) := h
  clear h
  go_enter Tryz.func122, Tryz.ntmps122
  go_wp2
  go_ret
  have h := H.out
  refine ⟨_, rfl, fun w2 hw2 => ⟨w.heap.size, w.heap.size + 2, w.heap.size + 1, 0, by (simp <;> omega), by (simp <;> omega), by (simp <;> omega), by simp, Or.inr (Or.inr (Or.inr (Or.inr (Or.inl ⟨h, rfl, ?_, ?_, ?_⟩))))⟩, grown_alloc (grown_alloc (grown_alloc (grown_refl _ _)))⟩
  all_goals (rw [World.cell?_of_block (hw2 _ (by (simp <;> omega)) (by (simp <;> omega)))]; simp [go_sem])

set_option maxHeartbeats 400000 in
theorem jump_mk (t : Nat) (i : Ins) (h : i.op = 8) (w : World) : Calls Tryz.prog 123 #[.int .i64 t, .int .i64 i.a, .int .i64 i.n] w (Made w t i) := by
  have hmf : ∀ (fn : Fn) (first cap : Array Value) (w : World), (Instr.makeFunc fn first cap).run Tryz.prog w = .ok (.func fn first cap) w := fun _ _ _ _ => rfl
  have H : Hid (i.op = 8) := h
  clear h
  go_enter Tryz.func123, Tryz.ntmps123
  go_wp2
  go_ret
  have h := H.out
  refine ⟨_, rfl, fun w2 hw2 => ⟨w.heap.size, w.heap.size + 1, w.heap.size + 2, 0, by (simp <;> omega), by (simp <;> omega), by (simp <;> omega), by simp, Or.inr (Or.inr (Or.inr (Or.inr (Or.inr (Or.inl ⟨h, rfl, ?_, ?_, ?_⟩)))))⟩, grown_alloc (grown_alloc (grown_alloc (grown_refl _ _)))⟩
  all_goals (rw [World.cell?_of_block (hw2 _ (by (simp <;> omega)) (by (simp <;> omega)))]; simp [go_sem])

set_option maxHeartbeats 400000 in
theorem take_mk (t : Nat) (i : Ins) (h : i.op = 9) (w : World) : Calls Tryz.prog 124 #[.int .i64 t, .int .i64 i.a] w (Made w t i) := by
  have hmf : ∀ (fn : Fn) (first cap : Array Value) (w : World), (Instr.makeFunc fn first cap).run Tryz.prog w = .ok (.func fn first cap) w := fun _ _ _ _ => rfl
  have H : Hid (i.op = 9) := h
  clear h
  go_enter Tryz.func124, Tryz.ntmps124
  go_wp2
  go_ret
  have h := H.out
  refine ⟨_, rfl, fun w2 hw2 => ⟨w.heap.size, w.heap.size + 1, 0, 0, by (simp <;> omega), by simp, by simp, by simp, Or.inr (Or.inr (Or.inr (Or.inr (Or.inr (Or.inr (Or.inl ⟨h, rfl, ?_, ?_⟩))))))⟩, grown_alloc (grown_alloc (grown_refl _ _))⟩
  all_goals (rw [World.cell?_of_block (hw2 _ (by (simp <;> omega)) (by (simp <;> omega)))]; simp [go_sem])

set_option maxHeartbeats 400000 in
theorem assert_mk (t : Nat) (i : Ins) (h : i.op = 11) (w : World) : Calls Tryz.prog 126 #[.int .i64 t, .int .i64 i.a] w (Made w t i) := by
  have hmf : ∀ (fn : Fn) (first cap : Array Value) (w : World), (Instr.makeFunc fn first cap).run Tryz.prog w = .ok (.func fn first cap) w := fun _ _ _ _ => rfl
  have H : Hid (i.op = 11) := h
  clear h
  go_enter Tryz.func126, Tryz.ntmps126
  go_wp2
  go_ret
  have h := H.out
  refine ⟨_, rfl, fun w2 hw2 => ⟨w.heap.size, w.heap.size + 1, 0, 0, by (simp <;> omega), by simp, by simp, by simp, Or.inr (Or.inr (Or.inr (Or.inr (Or.inr (Or.inr (Or.inr (Or.inr (⟨h, rfl, ?_, ?_⟩))))))))⟩, grown_alloc (grown_alloc (grown_refl _ _))⟩
  all_goals (rw [World.cell?_of_block (hw2 _ (by (simp <;> omega)) (by (simp <;> omega)))]; simp [go_sem])

set_option maxHeartbeats 400000 in
theorem release_mk (t : Nat) (i : Ins) (h : i.op = 10) (w : World) : Calls Tryz.prog 125 #[.int .i64 t, .int .i64 i.a] w (Made w t i) := by
  have hmf : ∀ (fn : Fn) (first cap : Array Value) (w : World), (Instr.makeFunc fn first cap).run Tryz.prog w = .ok (.func fn first cap) w := fun _ _ _ _ => rfl
  have H : Hid (i.op = 10) := h
  clear h
  go_enter Tryz.func125, Tryz.ntmps125
  go_wp2
  go_ret
  have h := H.out
  refine ⟨_, rfl, fun w2 hw2 => ⟨w.heap.size, w.heap.size + 1, 0, 0, by (simp <;> omega), by simp, by simp, by simp, Or.inr (Or.inr (Or.inr (Or.inr (Or.inr (Or.inr (Or.inr (Or.inl ⟨h, rfl, ?_, ?_, ?_⟩)))))))⟩, grown_alloc (grown_alloc (grown_refl _ _))⟩
  all_goals (rw [World.cell?_of_block (hw2 _ (by (simp <;> omega)) (by (simp <;> omega)))]; simp [go_sem])

set_option maxHeartbeats 400000 in
theorem add_mk (t : Nat) (i : Ins) (h : i.op = 4) (w : World) : Calls Tryz.prog 118 #[.int .i64 t, .int .i64 i.a, .int .i64 i.b, .func (.func 119) #[] #[]] w (Made w t i) := by
  have hmf : ∀ (fn : Fn) (first cap : Array Value) (w : World), (Instr.makeFunc fn first cap).run Tryz.prog w = .ok (.func fn first cap) w := fun _ _ _ _ => rfl
  have H : Hid (i.op = 4) := h
  clear h
  go_enter Tryz.func118, Tryz.ntmps118
  go_wp2
  go_ret
  have h := H.out
  refine ⟨_, rfl, fun w2 hw2 => ⟨w.heap.size + 3, w.heap.size, w.heap.size + 1, w.heap.size + 2, by (simp <;> omega), by (simp <;> omega), by (simp <;> omega), by (simp <;> omega), Or.inr (Or.inr (Or.inr (Or.inl ⟨_, Or.inl ⟨h, rfl⟩, rfl, ?_, ?_, ?_, ?_⟩)))⟩, grown_alloc (grown_alloc (grown_alloc (grown_alloc (grown_refl _ _))))⟩
  all_goals (rw [World.cell?_of_block (hw2 _ (by (simp <;> omega)) (by (simp <;> omega)))]; simp [go_sem])

set_option maxHeartbeats 400000 in
theorem sub_mk (t : Nat) (i : Ins) (h : i.op = 5) (w : World) : Calls Tryz.prog 118 #[.int .i64 t, .int .i64 i.a, .int .i64 i.b, .func (.func 120) #[] #[]] w (Made w t i) := by
  have hmf : ∀ (fn : Fn) (first cap : Array Value) (w : World), (Instr.makeFunc fn first cap).run Tryz.prog w = .ok (.func fn first cap) w := fun _ _ _ _ => rfl
  have H : Hid (i.op = 5) := h
  clear h
  go_enter Tryz.func118, Tryz.ntmps118
  go_wp2
  go_ret
  have h := H.out
  refine ⟨_, rfl, fun w2 hw2 => ⟨w.heap.size + 3, w.heap.size, w.heap.size + 1, w.heap.size + 2, by (simp <;> omega), by (simp <;> omega), by (simp <;> omega), by (simp <;> omega), Or.inr (Or.inr (Or.inr (Or.inl ⟨_, Or.inr (Or.inl ⟨h, rfl⟩), rfl, ?_, ?_, ?_, ?_⟩)))⟩, grown_alloc (grown_alloc (grown_alloc (grown_alloc (grown_refl _ _))))⟩
  all_goals (rw [World.cell?_of_block (hw2 _ (by (simp <;> omega)) (by (simp <;> omega)))]; simp [go_sem])

set_option maxHeartbeats 400000 in
theorem mul_mk (t : Nat) (i : Ins) (h : i.op = 6) (w : World) : Calls Tryz.prog 118 #[.int .i64 t, .int .i64 i.a, .int .i64 i.b, .func (.func 121) #[] #[]] w (Made w t i) := by
  have hmf : ∀ (fn : Fn) (first cap : Array Value) (w : World), (Instr.makeFunc fn first cap).run Tryz.prog w = .ok (.func fn first cap) w := fun _ _ _ _ => rfl
  have H : Hid (i.op = 6) := h
  clear h
  go_enter Tryz.func118, Tryz.ntmps118
  go_wp2
  go_ret
  have h := H.out
  refine ⟨_, rfl, fun w2 hw2 => ⟨w.heap.size + 3, w.heap.size, w.heap.size + 1, w.heap.size + 2, by (simp <;> omega), by (simp <;> omega), by (simp <;> omega), by (simp <;> omega), Or.inr (Or.inr (Or.inr (Or.inl ⟨_, Or.inr (Or.inr ⟨h, rfl⟩), rfl, ?_, ?_, ?_, ?_⟩)))⟩, grown_alloc (grown_alloc (grown_alloc (grown_alloc (grown_refl _ _))))⟩
  all_goals (rw [World.cell?_of_block (hw2 _ (by (simp <;> omega)) (by (simp <;> omega)))]; simp [go_sem])

end Go.Proofs.YtklenjmfalljgaaGreatDoor

/- The walks of makeAction and makeMove. -/
namespace Go.Proofs.YtklenjmfalljgaaGreatDoor
open Go.RowKit
attribute [local go_sem] Go.World.cell?_alloc_some

theorem Made.grow {w0 w w' : World} {t : Nat} {i : Ins} {e : Ending} (h : Made w t i e w') (hg : w0.grownBy w none) : Made w0 t i e w' := by
  obtain ⟨v, h1, h2, h3⟩ := h
  exact ⟨v, h1, fun w2 hw2 => h2 w2 fun k hk hk2 => hw2 k (Nat.le_trans hg.size hk) hk2, grown_trans hg h3⟩

set_option maxHeartbeats 1000000 in
set_option maxRecDepth 100000 in
theorem makeAction_1 (t : Nat) (i : Ins) (h : i.op = 1) (w : World) : Calls Tryz.prog 84 #[.int .i64 t, .agg #[.int .i64 1, .int .i64 i.a, .int .i64 i.b, .int .i64 i.n]] w (Made w t i) := by
  have H : Hid (i.op = 1) := h
  clear h
  go_enter Tryz.func84, Tryz.ntmps84
  go_wp2_with fail
  go_quiet (fail)
  go_wp2_with fail
  refine (set_mk t i H.out _).mono ?_
  rintro e w1 ⟨v, rfl, ha, hg⟩
  have HA := hide ha
  have HG := hide hg
  clear ha hg
  go_wp2_with fail
  go_ret
  exact Made.grow (w := _) ⟨v, rfl, HA.out, HG.out⟩ (grown_drewN _ (grown_alloc (grown_refl _ _)))

set_option maxHeartbeats 1000000 in
set_option maxRecDepth 100000 in
theorem makeAction_2 (t : Nat) (i : Ins) (h : i.op = 2) (w : World) : Calls Tryz.prog 84 #[.int .i64 t, .agg #[.int .i64 2, .int .i64 i.a, .int .i64 i.b, .int .i64 i.n]] w (Made w t i) := by
  have H : Hid (i.op = 2) := h
  clear h
  go_enter Tryz.func84, Tryz.ntmps84
  go_wp2_with fail
  go_quiet (fail)
  go_wp2_with fail
  refine (load_mk t i H.out _).mono ?_
  rintro e w1 ⟨v, rfl, ha, hg⟩
  have HA := hide ha
  have HG := hide hg
  clear ha hg
  go_wp2_with fail
  go_ret
  exact Made.grow (w := _) ⟨v, rfl, HA.out, HG.out⟩ (grown_drewN _ (grown_alloc (grown_refl _ _)))

set_option maxHeartbeats 1000000 in
set_option maxRecDepth 100000 in
theorem makeAction_3 (t : Nat) (i : Ins) (h : i.op = 3) (w : World) : Calls Tryz.prog 84 #[.int .i64 t, .agg #[.int .i64 3, .int .i64 i.a, .int .i64 i.b, .int .i64 i.n]] w (Made w t i) := by
  have H : Hid (i.op = 3) := h
  clear h
  go_enter Tryz.func84, Tryz.ntmps84
  go_wp2_with fail
  go_quiet (fail)
  go_wp2_with fail
  refine (store_mk t i H.out _).mono ?_
  rintro e w1 ⟨v, rfl, ha, hg⟩
  have HA := hide ha
  have HG := hide hg
  clear ha hg
  go_wp2_with fail
  go_ret
  exact Made.grow (w := _) ⟨v, rfl, HA.out, HG.out⟩ (grown_drewN _ (grown_alloc (grown_refl _ _)))

set_option maxHeartbeats 1000000 in
set_option maxRecDepth 100000 in
theorem makeAction_4 (t : Nat) (i : Ins) (h : i.op = 4) (w : World) : Calls Tryz.prog 84 #[.int .i64 t, .agg #[.int .i64 4, .int .i64 i.a, .int .i64 i.b, .int .i64 i.n]] w (Made w t i) := by
  have H : Hid (i.op = 4) := h
  clear h
  go_enter Tryz.func84, Tryz.ntmps84
  go_wp2_with fail
  go_quiet (fail)
  go_wp2_with fail
  refine (add_mk t i H.out _).mono ?_
  rintro e w1 ⟨v, rfl, ha, hg⟩
  have HA := hide ha
  have HG := hide hg
  clear ha hg
  go_wp2_with fail
  go_ret
  exact Made.grow (w := _) ⟨v, rfl, HA.out, HG.out⟩ (grown_drewN _ (grown_alloc (grown_refl _ _)))

set_option maxHeartbeats 1000000 in
set_option maxRecDepth 100000 in
theorem makeAction_5 (t : Nat) (i : Ins) (h : i.op = 5) (w : World) : Calls Tryz.prog 84 #[.int .i64 t, .agg #[.int .i64 5, .int .i64 i.a, .int .i64 i.b, .int .i64 i.n]] w (Made w t i) := by
  have H : Hid (i.op = 5) := h
  clear h
  go_enter Tryz.func84, Tryz.ntmps84
  go_wp2_with fail
  go_quiet (fail)
  go_wp2_with fail
  refine (sub_mk t i H.out _).mono ?_
  rintro e w1 ⟨v, rfl, ha, hg⟩
  have HA := hide ha
  have HG := hide hg
  clear ha hg
  go_wp2_with fail
  go_ret
  exact Made.grow (w := _) ⟨v, rfl, HA.out, HG.out⟩ (grown_drewN _ (grown_alloc (grown_refl _ _)))

set_option maxHeartbeats 1000000 in
set_option maxRecDepth 100000 in
theorem makeAction_6 (t : Nat) (i : Ins) (h : i.op = 6) (w : World) : Calls Tryz.prog 84 #[.int .i64 t, .agg #[.int .i64 6, .int .i64 i.a, .int .i64 i.b, .int .i64 i.n]] w (Made w t i) := by
  have H : Hid (i.op = 6) := h
  clear h
  go_enter Tryz.func84, Tryz.ntmps84
  go_wp2_with fail
  go_quiet (fail)
  go_wp2_with fail
  refine (mul_mk t i H.out _).mono ?_
  rintro e w1 ⟨v, rfl, ha, hg⟩
  have HA := hide ha
  have HG := hide hg
  clear ha hg
  go_wp2_with fail
  go_ret
  exact Made.grow (w := _) ⟨v, rfl, HA.out, HG.out⟩ (grown_drewN _ (grown_alloc (grown_refl _ _)))

set_option maxHeartbeats 1000000 in
set_option maxRecDepth 100000 in
theorem makeAction_7 (t : Nat) (i : Ins) (h : i.op = 7) (w : World) : Calls Tryz.prog 84 #[.int .i64 t, .agg #[.int .i64 7, .int .i64 i.a, .int .i64 i.b, .int .i64 i.n]] w (Made w t i) := by
  have H : Hid (i.op = 7) := h
  clear h
  go_enter Tryz.func84, Tryz.ntmps84
  go_wp2_with fail
  go_quiet (fail)
  go_wp2_with fail
  refine (divide_mk t i H.out _).mono ?_
  rintro e w1 ⟨v, rfl, ha, hg⟩
  have HA := hide ha
  have HG := hide hg
  clear ha hg
  go_wp2_with fail
  go_ret
  exact Made.grow (w := _) ⟨v, rfl, HA.out, HG.out⟩ (grown_drewN _ (grown_alloc (grown_refl _ _)))

set_option maxHeartbeats 1000000 in
set_option maxRecDepth 100000 in
theorem makeAction_8 (t : Nat) (i : Ins) (h : i.op = 8) (w : World) : Calls Tryz.prog 84 #[.int .i64 t, .agg #[.int .i64 8, .int .i64 i.a, .int .i64 i.b, .int .i64 i.n]] w (Made w t i) := by
  have H : Hid (i.op = 8) := h
  clear h
  go_enter Tryz.func84, Tryz.ntmps84
  go_wp2_with fail
  go_quiet (fail)
  go_wp2_with fail
  refine (jump_mk t i H.out _).mono ?_
  rintro e w1 ⟨v, rfl, ha, hg⟩
  have HA := hide ha
  have HG := hide hg
  clear ha hg
  go_wp2_with fail
  go_ret
  exact Made.grow (w := _) ⟨v, rfl, HA.out, HG.out⟩ (grown_drewN _ (grown_alloc (grown_refl _ _)))

set_option maxHeartbeats 1000000 in
set_option maxRecDepth 100000 in
theorem makeAction_9 (t : Nat) (i : Ins) (h : i.op = 9) (w : World) : Calls Tryz.prog 84 #[.int .i64 t, .agg #[.int .i64 9, .int .i64 i.a, .int .i64 i.b, .int .i64 i.n]] w (Made w t i) := by
  have H : Hid (i.op = 9) := h
  clear h
  go_enter Tryz.func84, Tryz.ntmps84
  go_wp2_with fail
  go_quiet (fail)
  go_wp2_with fail
  refine (take_mk t i H.out _).mono ?_
  rintro e w1 ⟨v, rfl, ha, hg⟩
  have HA := hide ha
  have HG := hide hg
  clear ha hg
  go_wp2_with fail
  go_ret
  exact Made.grow (w := _) ⟨v, rfl, HA.out, HG.out⟩ (grown_drewN _ (grown_alloc (grown_refl _ _)))

set_option maxHeartbeats 1000000 in
set_option maxRecDepth 100000 in
theorem makeAction_10 (t : Nat) (i : Ins) (h : i.op = 10) (w : World) : Calls Tryz.prog 84 #[.int .i64 t, .agg #[.int .i64 10, .int .i64 i.a, .int .i64 i.b, .int .i64 i.n]] w (Made w t i) := by
  have H : Hid (i.op = 10) := h
  clear h
  go_enter Tryz.func84, Tryz.ntmps84
  go_wp2_with fail
  go_quiet (fail)
  go_wp2_with fail
  refine (release_mk t i H.out _).mono ?_
  rintro e w1 ⟨v, rfl, ha, hg⟩
  have HA := hide ha
  have HG := hide hg
  clear ha hg
  go_wp2_with fail
  go_ret
  exact Made.grow (w := _) ⟨v, rfl, HA.out, HG.out⟩ (grown_drewN _ (grown_alloc (grown_refl _ _)))

set_option maxHeartbeats 1000000 in
set_option maxRecDepth 100000 in
theorem makeAction_11 (t : Nat) (i : Ins) (h : i.op = 11) (w : World) : Calls Tryz.prog 84 #[.int .i64 t, .agg #[.int .i64 11, .int .i64 i.a, .int .i64 i.b, .int .i64 i.n]] w (Made w t i) := by
  have H : Hid (i.op = 11) := h
  clear h
  go_enter Tryz.func84, Tryz.ntmps84
  go_wp2_with fail
  go_quiet (fail)
  go_wp2_with fail
  refine (assert_mk t i H.out _).mono ?_
  rintro e w1 ⟨v, rfl, ha, hg⟩
  have HA := hide ha
  have HG := hide hg
  clear ha hg
  go_wp2_with fail
  go_ret
  exact Made.grow (w := _) ⟨v, rfl, HA.out, HG.out⟩ (grown_drewN _ (grown_alloc (grown_refl _ _)))

theorem makeAction_m (t : Nat) (i : Ins) (h1 : 1 ≤ i.op) (h2 : i.op ≤ 11) (w : World) : Calls Tryz.prog 84 #[.int .i64 t, .agg #[.int .i64 i.op, .int .i64 i.a, .int .i64 i.b, .int .i64 i.n]] w (Made w t i) := by
  have hc : i.op = 1 ∨ i.op = 2 ∨ i.op = 3 ∨ i.op = 4 ∨ i.op = 5 ∨ i.op = 6 ∨ i.op = 7 ∨ i.op = 8 ∨ i.op = 9 ∨ i.op = 10 ∨ i.op = 11 := by omega
  rcases hc with e | e | e | e | e | e | e | e | e | e | e
  · rw [e]; exact makeAction_1 t i e w
  · rw [e]; exact makeAction_2 t i e w
  · rw [e]; exact makeAction_3 t i e w
  · rw [e]; exact makeAction_4 t i e w
  · rw [e]; exact makeAction_5 t i e w
  · rw [e]; exact makeAction_6 t i e w
  · rw [e]; exact makeAction_7 t i e w
  · rw [e]; exact makeAction_8 t i e w
  · rw [e]; exact makeAction_9 t i e w
  · rw [e]; exact makeAction_10 t i e w
  · rw [e]; exact makeAction_11 t i e w

theorem four_cells {w : World} {g : Nat} {x0 x1 x2 x3 : Value} {t : TypeId} (h : w.heap[g]? = some (.cells #[x0, x1, x2, x3] t (0, 0))) :
    w.cell? ⟨g, 0, none⟩ = some x0 ∧ w.cell? ⟨g, 1, none⟩ = some x1 ∧ w.cell? ⟨g, 2, none⟩ = some x2 ∧ w.cell? ⟨g, 3, none⟩ = some x3 ∧ (∀ o, w.frozen? ⟨g, o, none⟩ = false) := by
  simp [World.cell?, World.frozen?, h]

/-- A move was made: its three cells. -/
def MoveMade (w : World) (t : Nat) (i : Ins) (e : Ending) (w' : World) : Prop :=
  ∃ kf caps, e = .returned (.agg #[.func (.func kf) #[] caps, .bool (i.op == 9), .int .i64 (if i.op = 9 then i.a else 0)]) ∧ (∀ w2 : World, (∀ k, w.heap.size ≤ k → k < w'.heap.size → w2.heap[k]? = w'.heap[k]?) → ActIs w'.heap.size w2 (.func (.func kf) #[] caps) t i) ∧ w.grownBy w' none

theorem ActIs.form {B : Nat} {w : World} {v : Value} {t : Nat} {i : Ins} (h : ActIs B w v t i) : ∃ kf caps, v = .func (.func kf) #[] caps := by
  obtain ⟨x, y, z, u, _, _, _, _, h⟩ := h
  rcases h with ⟨_, e, _⟩ | ⟨_, e, _⟩ | ⟨_, e, _⟩ | ⟨_, _, e, _⟩ | ⟨_, e, _⟩ | ⟨_, e, _⟩ | ⟨_, e, _⟩ | ⟨_, e, _⟩ | ⟨_, e, _⟩ <;> exact ⟨_, _, e⟩

set_option maxHeartbeats 1000000 in
set_option maxRecDepth 100000 in
theorem makeMove_m (t : Nat) (i : Ins) (h1 : 1 ≤ i.op) (h2 : i.op ≤ 11) (w : World) : Calls Tryz.prog 51 #[.int .i64 t, .agg #[.int .i64 i.op, .int .i64 i.a, .int .i64 i.b, .int .i64 i.n]] w (MoveMade w t i) := by
  go_enter Tryz.func51, Tryz.ntmps51
  go_wp2_with fail
  refine (makeAction_m t i h1 h2 _).mono ?_
  rintro e w1 ⟨v, rfl, ha, hg⟩
  obtain ⟨kf, caps, rfl⟩ := (ha w1 fun _ _ _ => rfl).form
  have HA := hide ha
  have HG := hide hg
  have hsz : w.heap.size + 2 ≤ w1.heap.size := by have := hg.size; simpa using this
  have hb0 : w1.heap[w.heap.size]? = some (.cells #[.int .i64 i.op, .int .i64 i.a, .int .i64 i.b, .int .i64 i.n] 74 (0, 0)) := by
    rw [hg.block _ (by simp; omega) (by simp), Below.heap_alloc _ _ _ (by simp)]; exact heap_alloc_new w _
  have hb1 : w1.heap[w.heap.size + 1]? = some (.cells #[.nilFunc, .bool false, .int .i64 0] 111 (0, 0)) := by
    rw [hg.block _ (by simp) (by simp)]
    have := heap_alloc_new (w.alloc (.cells #[.int .i64 i.op, .int .i64 i.a, .int .i64 i.b, .int .i64 i.n] 74)) (.cells #[.nilFunc, .bool false, .int .i64 0] 111)
    simpa using this
  clear ha hg
  obtain ⟨c0, c1, c2, c3, _⟩ := four_cells hb0
  obtain ⟨d0, d1, d2, df⟩ := three_cells hb1
  have dfa : ∀ (o : Obj) (k : Nat), (w1.alloc o).frozen? ⟨w.heap.size + 1, k, none⟩ = false := fun o k => by
    rw [World.frozen?_alloc_old _ _ _ (by simp; omega)]; exact df k
  clear df hb0 hb1 c2 c3
  have HG0 : Hid (w.grownBy w1 none) := grown_trans (grown_alloc (grown_alloc (grown_refl _ _))) HG.out
  by_cases h9 : i.op = 9
  · have H9 := hide h9
    have hq : (i.op == 9) = true := by simpa using h9
    clear h9
    go_wp2_with fail
    refine bodyPost_ret (v := .agg #[.func (.func kf) #[] caps, .bool true, .int .i64 i.a]) ?_ rfl ⟨kf, caps, ?_, ?_, ?_⟩
    · simp [results, Tryz.results51, go_sem, d0, d1, d2]
    · rw [hq, if_pos H9.out]
    · intro w2 hw2
      refine (HA.out _ fun k hk hk2 => ?_).mono (by simp)
      rw [hw2 k (by simp at hk; omega) (by simp; omega)]
      have hk3 : w.heap.size + 2 ≤ k := by simpa using hk
      rw [Below.heap_setCell _ _ _ _ (by simp; omega), Below.heap_setCell _ _ _ _ (by simp; omega), Below.heap_setCell _ _ _ _ (by simp; omega), Below.heap_alloc _ _ _ hk2]
    · iterate 3 refine grown_setNew ?_ (by omega)
      exact grown_alloc HG0.out
  · have H9 := hide h9
    have hq : (i.op == 9) = false := by simpa using h9
    clear h9
    go_wp2_with fail
    refine bodyPost_ret (v := .agg #[.func (.func kf) #[] caps, .bool false, .int .i64 0]) ?_ rfl ⟨kf, caps, ?_, ?_, ?_⟩
    · simp [results, Tryz.results51, go_sem, d0, d1, d2]
    · rw [hq, if_neg H9.out]
    · intro w2 hw2
      refine (HA.out _ fun k hk hk2 => ?_).mono (by simp)
      rw [hw2 k (by simp at hk; omega) (by simp; omega)]
      have hk3 : w.heap.size + 2 ≤ k := by simpa using hk
      rw [Below.heap_setCell _ _ _ _ (by simp; omega), Below.heap_setCell _ _ _ _ (by simp; omega), Below.heap_setCell _ _ _ _ (by simp; omega), Below.heap_alloc _ _ _ hk2]
    · iterate 3 refine grown_setNew ?_ (by omega)
      exact grown_alloc HG0.out

end Go.Proofs.YtklenjmfalljgaaGreatDoor

/- The walk of New. -/
namespace Go.Proofs.YtklenjmfalljgaaGreatDoor
open Go.RowKit
attribute [local go_sem] Go.World.cell?_alloc_some

/-- The three cells of a move. -/
def moveV (kf : Nat) (caps : Array Value) (i : Ins) : List Value := [.func (.func kf) #[] caps, .bool (i.op == 9), .int .i64 (if i.op = 9 then i.a else 0)]

/-- The closure's boxes lie in the blocks from a on, below b. -/
def ActSt (a b : Nat) (w : World) (v : Value) (t : Nat) (i : Ins) : Prop := ∀ w' : World, (∀ k, a ≤ k → k < b → w'.heap[k]? = w.heap[k]?) → ActIs b w' v t i

/-- A row of moves, as a list of cells; the boxes lie from L on, below B, and not in the row's own block. -/
def MovesIn (L B : Nat) (w : World) (own : Option Nat) (xs : List Value) (t : Nat) (c : List Ins) : Prop :=
  ∀ k (hk : k < c.length), ∃ kf caps a b, xs[k * 3]? = some (.func (.func kf) #[] caps) ∧ xs[k * 3 + 1]? = some (.bool (c[k].op == 9)) ∧ xs[k * 3 + 2]? = some (.int .i64 (if c[k].op = 9 then c[k].a else 0)) ∧
    L ≤ a ∧ b ≤ B ∧ (∀ h, own = some h → h < a ∨ b ≤ h) ∧ ActSt a b w (.func (.func kf) #[] caps) t c[k]

theorem MovesIn.step {L B : Nat} {w w' : World} {own r : Option Nat} {xs : List Value} {t : Nat} {c : List Ins} (h : MovesIn L B w own xs t c) (hB : B ≤ w.heap.size) (hg : w.grownBy w' r) (hr : ∀ q, r = some q → own = some q ∨ q < L ∨ B ≤ q) : MovesIn L B w' own xs t c := by
  intro k hk
  obtain ⟨kf, caps, a, b, h1, h2, h3, h4, h5, h6, h7⟩ := h k hk
  refine ⟨kf, caps, a, b, h1, h2, h3, h4, h5, h6, fun w2 hw2 => h7 w2 fun q hq hq2 => ?_⟩
  rw [hw2 q hq hq2, hg.block q (by omega) (fun e => by
    rcases hr q e.symm with e2 | e2 | e2
    · rcases h6 q e2 with e3 | e3 <;> omega
    · omega
    · omega)]

theorem MovesIn.mono {L B B' : Nat} {w : World} {own : Option Nat} {xs : List Value} {t : Nat} {c : List Ins} (h : MovesIn L B w own xs t c) (hB : B ≤ B') : MovesIn L B' w own xs t c := by
  intro k hk
  obtain ⟨kf, caps, a, b, h1, h2, h3, h4, h5, h6, h7⟩ := h k hk
  exact ⟨kf, caps, a, b, h1, h2, h3, h4, by omega, h6, h7⟩

theorem MovesIn.reown {L B g : Nat} {w : World} {own : Option Nat} {xs : List Value} {t : Nat} {c : List Ins} (h : MovesIn L B w own xs t c) (hat : own = some g ∨ B ≤ g) : MovesIn L B w (some g) xs t c := by
  intro k hk
  obtain ⟨kf, caps, a, b, h1, h2, h3, h4, h5, h6, h7⟩ := h k hk
  refine ⟨kf, caps, a, b, h1, h2, h3, h4, h5, fun q e => ?_, h7⟩
  cases e
  rcases hat with e | e
  · exact h6 _ e
  · exact Or.inr (by omega)

theorem MovesIn.snoc {L B : Nat} {w : World} {own : Option Nat} {xs : List Value} {t : Nat} {c : List Ins} {i : Ins} {kf : Nat} {caps : Array Value} {a b : Nat} (h : MovesIn L B w own xs t c) (hl : xs.length = c.length * 3)
    (ha : L ≤ a) (hb : b ≤ B) (ho : ∀ h, own = some h → h < a ∨ b ≤ h) (hA : ActSt a b w (.func (.func kf) #[] caps) t i) :
    MovesIn L B w own (xs ++ moveV kf caps i) t (c ++ [i]) := by
  intro k hk
  by_cases hlt : k < c.length
  · obtain ⟨kf', caps', a', b', h1, h2, h3, h4⟩ := h k hlt
    have e : (c ++ [i])[k] = c[k] := List.getElem_append_left hlt
    refine ⟨kf', caps', a', b', ?_, ?_, ?_, ?_⟩
    · rw [List.getElem?_append_left (by omega)]; exact h1
    · rw [List.getElem?_append_left (by omega), e]; exact h2
    · rw [List.getElem?_append_left (by omega), e]; exact h3
    · rw [e]; exact h4
  · have ek : k = c.length := by simp at hk; omega
    subst ek
    have e : (c ++ [i])[c.length] = i := by simp
    refine ⟨kf, caps, a, b, ?_, ?_, ?_, ha, hb, ho, ?_⟩
    · rw [List.getElem?_append_right (by omega), hl]; simp [moveV]
    · rw [List.getElem?_append_right (by omega), hl, e]
      have : c.length * 3 + 1 - c.length * 3 = 1 := by omega
      rw [this]; rfl
    · rw [List.getElem?_append_right (by omega), hl, e]
      have : c.length * 3 + 2 - c.length * 3 = 2 := by omega
      rw [this]; rfl
    · rw [e]; exact hA

/-- The rows of the threads ahead of t are done; their blocks lie from L on, below B. -/
def Fin (L B : Nat) (w : World) (rows : Array Value) (t : Nat) (p : List (List Ins)) : Prop :=
  ∀ j, j < t → ∃ v xs, rows[j]? = some v ∧ w.ownsRow L 111 3 v (codeOf p j).length xs ∧ (∀ h, v.ownBlock = some h → h < B) ∧ MovesIn L B w v.ownBlock xs j (codeOf p j)

theorem Fin.step {L B : Nat} {w w' : World} {rows : Array Value} {t : Nat} {p : List (List Ins)} {r : Option Nat} (h : Fin L B w rows t p) (hBs : B ≤ w.heap.size) (hg : w.grownBy w' r) (hr : ∀ k, r = some k → k < L ∨ B ≤ k) : Fin L B w' rows t p := by
  intro j hj
  obtain ⟨v, xs, h1, h2, h3, h4⟩ := h j hj
  refine ⟨v, xs, h1, ?_, h3, h4.step hBs hg (fun q e => Or.inr (hr q e))⟩
  obtain ⟨q1, q2⟩ := h2
  refine ⟨q1, ?_⟩
  rcases q2 with q2 | ⟨g, cap, cur, hv, hb, hh, rest⟩
  · exact Or.inl q2
  · have hlt : g < w.heap.size := (Array.getElem?_eq_some_iff.1 hh).1
    have hB := h3 g (by rw [hv]; rfl)
    refine Or.inr ⟨g, cap, cur, hv, hb, ?_, rest⟩
    rw [hg.block g hlt (fun e => by have := hr g e.symm; omega)]; exact hh

theorem Fin.rows {L B : Nat} {w : World} {rows : Array Value} {t u : Nat} {x : Value} {p : List (List Ins)} (h : Fin L B w rows t p) (hu : t ≤ u) : Fin L B w (rows.setIfInBounds u x) t p := by
  intro j hj
  obtain ⟨v, xs, h1, h2, h3, h4⟩ := h j hj
  exact ⟨v, xs, by rw [Array.getElem?_setIfInBounds_ne (by omega)]; exact h1, h2, h3, h4⟩
theorem Fin.mono {L B B' : Nat} {w : World} {rows : Array Value} {t : Nat} {p : List (List Ins)} (h : Fin L B w rows t p) (hb : B ≤ B') : Fin L B' w rows t p := by
  intro j hj
  obtain ⟨v, xs, h1, h2, h3, h4⟩ := h j hj
  exact ⟨v, xs, h1, h2, fun h e => Nat.lt_of_lt_of_le (h3 h e) hb, h4.mono hb⟩
theorem Fin.succ {L B : Nat} {w : World} {rows : Array Value} {t : Nat} {p : List (List Ins)} {v : Value} {xs : List Value} (h : Fin L B w rows t p) (h1 : rows[t]? = some v) (h2 : w.ownsRow L 111 3 v (codeOf p t).length xs)
    (h3 : ∀ h, v.ownBlock = some h → h < B) (h4 : MovesIn L B w v.ownBlock xs t (codeOf p t)) : Fin L B w rows (t + 1) p := by
  intro j hj
  by_cases e : j = t
  · subst e; exact ⟨v, xs, h1, h2, h3, h4⟩
  · exact h j (by omega)

theorem Fin.rowIs {L B : Nat} {w : World} {rows : Array Value} {t : Nat} {p : List (List Ins)} (h : Fin L B w rows t p) {j : Nat} (hj : j < t) : ∃ v, rows[j]? = some v ∧ RowIs B w v j (codeOf p j) := by
  obtain ⟨v, xs, h1, h2, h3, h4⟩ := h j hj
  refine ⟨v, h1, ?_⟩
  rcases h2.2 with ⟨e, e0⟩ | ⟨g, cap, cur, hv, hb, hh, hrest⟩
  · exact Or.inl ⟨List.length_eq_zero_iff.1 e0, e⟩
  · refine Or.inr ⟨g, cap, hv, h3 g (by rw [hv]; rfl), fun k hk => ?_⟩
    obtain ⟨kf, caps, a, b, q1, q2, q3, q4, q5, q6, q7⟩ := h4 k hk
    rw [hv] at h2
    have hc := fun j hj => h2.cellAt j hj
    exact ⟨kf, caps, by rw [hc _ (by omega)]; exact q1, (q7 w fun _ _ _ => rfl).mono q5, by rw [hc _ (by omega)]; exact q2, by rw [hc _ (by omega)]; exact q3⟩

theorem info_move : ((Tryz.prog.info? 111).map fun i => (i.zero, i.size, i.bytes)) = some (some (.agg #[.nilFunc, .bool false, .int .i64 0]), 3, 24) := by kernel_rfl
theorem info_row : ((Tryz.prog.info? 107).map fun i => (i.zero, i.size, i.bytes)) = some (some (.slice none 0 0), 1, 24) := by kernel_rfl

end Go.Proofs.YtklenjmfalljgaaGreatDoor

/- The walk of New. -/
namespace Go.Proofs.YtklenjmfalljgaaGreatDoor
open Go.RowKit
attribute [local go_sem] Go.World.cell?_alloc_some

/-- In the midst of New: the threads ahead of t are done, and k instructions of t. -/
def Inner (w0 : World) (L Bt g m n t k : Nat) (p : List (List Ins)) (w : World) : Prop :=
  ∃ rows v xs, w.heap[g]? = some (.cells rows 107 (0, 0)) ∧ rows.size = n ∧ rows[t]? = some v ∧ w.ownsRow Bt 111 3 v k xs ∧ MovesIn L w.heap.size w v.ownBlock xs t ((codeOf p t).take k) ∧
    Fin L Bt w rows t p ∧ (∀ j, t < j → j < n → rows[j]? = some (.slice none 0 0)) ∧ w.cell? ⟨m, 0, none⟩ = some (.slice (some ⟨g, 0, none⟩) n n) ∧ w0.grownBy w none ∧ L ≤ Bt ∧ Bt ≤ w.heap.size ∧ g < L ∧ m < L ∧ g ≠ m ∧ w0.heap.size ≤ g

theorem inner_step {w0 : World} {L Bt g m n t k : Nat} {p : List (List Ins)} {wr w4 w5 : World} {rows : Array Value} {v : Value} {xs : List Value} {kf : Nat} {caps : Array Value} {i : Ins} {E : Obj} {g2 cap2 : Nat}
    (j1 : wr.heap[g]? = some (.cells rows 107 (0, 0))) (j2 : rows.size = n) (j4 : wr.ownsRow Bt 111 3 v k xs) (j5 : MovesIn L wr.heap.size wr v.ownBlock xs t ((codeOf p t).take k))
    (j6 : Fin L Bt wr rows t p) (j7 : ∀ j, t < j → j < n → rows[j]? = some (.slice none 0 0)) (j9 : w0.grownBy wr none) (j10 : L ≤ Bt) (j11 : Bt ≤ wr.heap.size) (j12 : g < L) (j13 : m < L) (j14 : g ≠ m) (j15 : w0.heap.size ≤ g)
    (ht : t < n) (hk : k < (codeOf p t).length) (hi : (codeOf p t)[k] = i)
    (hact : ∀ u : World, (∀ q, wr.heap.size + 1 ≤ q → q < w4.heap.size → u.heap[q]? = w4.heap[q]?) → ActIs w4.heap.size u (.func (.func kf) #[] caps) t i) (hg4 : wr.grownBy w4 none) (hsz4 : wr.heap.size + 1 ≤ w4.heap.size)
    (hown5 : w5.ownsRow Bt 111 3 (.slice (some ⟨g2, 0, none⟩) (k + 1) cap2) (k + 1) (xs ++ moveV kf caps i)) (hgr : (w4.alloc E).grownBy w5 v.ownBlock) (hat : v.ownBlock = some g2 ∨ g2 = w4.heap.size + 1)
    (s1 : w5.cell? ⟨m, 0, none⟩ = some (.slice (some ⟨g, 0, none⟩) n n)) :
    Inner w0 L Bt g m n t (k + 1) p (w5.setCell ⟨g, t, none⟩ (.slice (some ⟨g2, 0, none⟩) (k + 1) cap2)) := by
  have hob : ∀ q, v.ownBlock = some q → Bt ≤ q ∧ q < wr.heap.size := fun q e => ⟨owns_block j4 q e, by
    rcases j4.2 with ⟨e1, _⟩ | ⟨g', _, _, hv, _, hh, _⟩
    · rw [e1] at e; cases e
    · rw [hv] at e
      have := (Array.getElem?_eq_some_iff.1 hh).1
      simp [Value.ownBlock] at e
      omega⟩
  have hgE : wr.grownBy (w4.alloc E) none := grown_alloc hg4
  have hz5 := hgr.size
  simp only [World.size_alloc] at hz5
  have hgl : g < wr.heap.size := by omega
  have hb5 : w5.heap[g]? = some (.cells rows 107 (0, 0)) := by
    rw [hgr.block g (by simp; omega) (fun e => by have := hob g e.symm; omega), hgE.block g hgl (by simp)]; exact j1
  have hset : w5.grownBy (w5.setCell ⟨g, t, none⟩ (.slice (some ⟨g2, 0, none⟩) (k + 1) cap2)) (some g) := grown_set
  have hin : ∀ q, wr.heap.size + 1 ≤ q → q < w4.heap.size → (w5.setCell ⟨g, t, none⟩ (.slice (some ⟨g2, 0, none⟩) (k + 1) cap2)).heap[q]? = w4.heap[q]? := fun q h1 h2 => by
    rw [Below.heap_setCell _ _ _ _ (by simp; omega), hgr.block q (by simp; omega) (fun e => by have := hob q e.symm; omega), Below.heap_alloc _ _ _ h2]
  have hm1 : MovesIn L wr.heap.size w5 v.ownBlock xs t ((codeOf p t).take k) := (j5.step (Nat.le_refl _) hgE (fun q e => by cases e)).step (by simp; omega) hgr (fun q e => Or.inl e)
  have hm2 := (hm1.reown (g := g2) (hat.imp id (fun e => by omega))).step (by omega) hset (fun q e => by cases e; exact Or.inr (Or.inl j12))
  refine ⟨rows.setIfInBounds t (.slice (some ⟨g2, 0, none⟩) (k + 1) cap2), .slice (some ⟨g2, 0, none⟩) (k + 1) cap2, xs ++ moveV kf caps i, heap_setCell_same w5 g t rows _ _ hb5, by simp [j2], by simp [j2, ht], ownsRow_setCell_below hown5 (by simp; omega) _, ?_, ?_, ?_, ?_, ?_, j10, by simp; omega, j12, j13, j14, j15⟩
  · rw [List.take_succ_eq_append_getElem hk, hi]
    refine MovesIn.snoc (a := wr.heap.size + 1) (b := w4.heap.size) (hm2.mono (by simp; omega)) (by rw [j4.1]; simp; omega) (by omega) (by simp; omega) (fun h e => ?_) (fun u hu => hact u fun q h1 h2 => by rw [hu q h1 h2, hin q h1 h2])
    have e' : h = g2 := by simp [Value.ownBlock] at e; omega
    subst e'
    rcases hat with e2 | e2
    · have := hob _ e2; omega
    · omega
  · exact (((j6.step j11 hgE (fun q e => by cases e)).step (by simp; omega) hgr (fun q e => Or.inr (hob q e).1)).step (by omega) hset (fun q e => by cases e; exact Or.inl j12)).rows (Nat.le_refl _)
  · intro j h1 h2
    rw [Array.getElem?_setIfInBounds_ne (by omega)]; exact j7 j h1 h2
  · rw [World.cell?_setCell_far _ _ _ _ (by simpa using j14)]; exact s1
  · exact grown_setNew (grown_row (grown_trans j9 hgE) hgr (fun q e => by have := hob q e; omega)) j15

set_option maxHeartbeats 4000000 in
set_option maxRecDepth 100000 in
theorem new_m {p : List (List Ins)} {pv : Value} {w : World} (hp : vProg p = true) (hP : ProgAt w pv p) :
    Calls Tryz.prog 24 #[pv] w fun e w' => ∃ m, e = .returned (.pointer (some ⟨m, 0, none⟩)) ∧ MachAt w'.heap.size w' m p ∧ w.grownBy w' none := by
  obtain ⟨i0, hi0, hz0, hz1, hz2⟩ := info_parts info_row
  obtain ⟨i1, hi1, hy0, hy1, hy2⟩ := info_parts info_move
  obtain ⟨ao, cap, rfl, hP⟩ := hP
  have hlen := vProg_len hp
  have HP := hide hP
  have HV := hide hp
  clear hp hP
  have h4 : (p.length : Int) ≤ 4 := by omega
  go_enter Tryz.func24, Tryz.ntmps24
  go_wp2_with (at_make; refine wpList_make_full _ rfl _ _ _ rfl (w.heap.size + 1) 107 i0 _ 1 Tryz.underlying104 hi0 hz0 hz1 .i64 .i64 _ _ p.length rfl rfl rfl rfl (by rw [hz2]; omega) (by unfold maxLen; omega) (by simp) ?_; intro w2 hown2 hg2; have hc2 : w2.cell? ⟨w.heap.size, 0, none⟩ = some (.slice ao p.length cap) := (by rw [hg2.cell_far _ (by simp) (by simp)]; simp))
  have HG2 : Hid (w.grownBy w2 none) := grown_trans (grown_alloc (grown_refl _ _)) hg2
  have hsz2 : w.heap.size + 2 ≤ w2.heap.size := by
    obtain ⟨cur, hcur, _⟩ := owns_cells hown2
    have := (Array.getElem?_eq_some_iff.1 hcur).1
    simp at this; omega
  have HR : Hid (∃ rows : Array Value, w2.heap[w.heap.size + 1]? = some (.cells rows 107 (0, 0)) ∧ rows.size = p.length ∧ ∀ j, j < p.length → rows[j]? = some (.slice none 0 0)) := by
    rcases hown2.2 with ⟨e, _⟩ | ⟨g, c, cur, hv, _, hh, _, _, hs, ht⟩
    · cases e
    · simp at hv
      obtain ⟨e1, e2⟩ := hv
      subst e1; subst e2
      refine ⟨cur, hh, by omega, fun j hj => ?_⟩
      have e : cur.toList = (madeCells #[Value.slice none 0 0] p.length).toList := by
        rw [List.take_of_length_le (by simp; omega)] at ht
        simpa [Value.cells] using ht
      rw [← Array.getElem?_toList, e, toList_madeCells_one]
      simp [hj]
  clear hown2 hg2 hc2
  go_loopw [17] (fun i w' => ∃ t : Nat, t ≤ p.length ∧ i = .int .i64 t ∧ Hid (∃ rows, w'.heap[w.heap.size + 1]? = some (.cells rows 107 (0, 0)) ∧ rows.size = p.length ∧ Fin (w2.heap.size + 1) w'.heap.size w' rows t p ∧ (∀ j, t ≤ j → j < p.length → rows[j]? = some (.slice none 0 0)) ∧
      w'.cell? ⟨w2.heap.size, 0, none⟩ = some (.slice (some ⟨w.heap.size + 1, 0, none⟩) p.length p.length) ∧ w.grownBy w' none ∧ w2.heap.size + 1 ≤ w'.heap.size)) (fun i _ => p.length - (intOf i).toNat)
  case atStart =>
    obtain ⟨rows, h1, h2, h3⟩ := HR.out
    refine ⟨0, Nat.zero_le _, rfl, rows, ?_, h2, fun j hj => by omega, fun j _ hj => h3 j hj, ?_, grown_alloc HG2.out, by simp⟩
    · rw [Below.heap_alloc _ _ _ (by omega)]; exact h1
    · simp
  case round =>
    obtain ⟨t, ht, rfl, HI⟩ := hrel
    obtain ⟨w3, hw3⟩ : ∃ w3, w3 = wr := ⟨_, rfl⟩
    subst hw3
    by_cases hlt : t < p.length
    · obtain ⟨pg, po, rfl, rv, hrv, hcode⟩ := HP.out t hlt
      obtain ⟨ca, ccap, rfl, hcode⟩ := hcode
      have hcl : p[t].length ≤ 16 := by have := vCode_len (vProg_code HV.out hlt); rwa [codeOf_get hlt] at this
      have hcl2 : (p[t].length : Int) ≤ 16 := by omega
      have HC := hide hcode
      clear hcode
      have hrv' : w3.cell? ⟨pg, po + t, none⟩ = some (.slice ca p[t].length ccap) := by
        obtain ⟨rows, _, _, _, _, _, hg, _⟩ := HI.out
        exact pres_grown hg _ _ hrv
      have ht0 : (0 : Int) ≤ (t : Int) := by omega
      have ht1 : (t : Int) < p.length := by omega
      have HT : Hid (codeOf p t = p[t]) := codeOf_get hlt
      generalize hcd : p[t] = c at *
      clear hcd
      go_wp2_with fail
      go_loopw [24] (fun i w' => ∃ k : Nat, k ≤ c.length ∧ i = .int .i64 k ∧ Hid (Inner w (w2.heap.size + 1) w3.heap.size (w.heap.size + 1) w2.heap.size p.length t k p w')) (fun i _ => c.length - (intOf i).toNat)
      case atStart =>
        obtain ⟨rows, h1, h2, h3, h4, h5, h6, h7⟩ := HI.out
        exact ⟨0, Nat.zero_le _, rfl, rows, _, [], h1, h2, h4 t (Nat.le_refl _) hlt, ⟨rfl, Or.inl ⟨rfl, rfl⟩⟩, fun k hk => by simp at hk, h3, fun j hj hj2 => h4 j (by omega) hj2, h5, h6, h7, Nat.le_refl _, by omega, by omega, by omega, by omega⟩
      case round =>
        obtain ⟨k, hk, rfl, HIn⟩ := hrel
        by_cases hkl : k < c.length
        · obtain ⟨cg, co, rfl, c0, c1, c2, c3⟩ := HC.out k hkl
          have hpr : Pres w wr := by
            obtain ⟨rows, v, xs, _, _, _, _, _, _, _, _, hg, _⟩ := HIn.out
            exact pres_grown hg
          have d0 := hpr _ _ c0
          have d1 := hpr _ _ c1
          have d2 := hpr _ _ c2
          have d3 := hpr _ _ c3
          clear c0 c1 c2 c3 hpr
          have hk0 : (0 : Int) ≤ (k : Int) := by omega
          have hk1 : (k : Int) < c.length := by omega
          obtain ⟨rows, v, xs, j1, j2, j3, j4, j5, j6, j7, j8, j9, j10, j11, j12, j13, j14, j15⟩ := HIn.out
          have hgt : wr.cell? ⟨w.heap.size + 1, t, none⟩ = some v := by simp [World.cell?, j1, j3]
          have hgf : wr.frozen? ⟨w.heap.size + 1, t, none⟩ = false := by simp [World.frozen?, j1]
          have J4 := hide j4
          have J5 := hide j5
          have J1 := hide j1
          have J2 := hide j2
          have J6 := hide j6
          have J7 := hide j7
          have J9 := hide j9
          clear j1 j2 j3 j4 j5 j6 j7 j9
          go_wp2_with fail
          refine wp_region_head (fun u => u.cell? ⟨w2.heap.size, 0, none⟩ = some (.slice (some ⟨w.heap.size + 1, 0, none⟩) p.length p.length) ∧ u.cell? ⟨w.heap.size + 1, t, none⟩ = some v ∧ u.cell? ⟨wr.heap.size, 0, none⟩ = some (.int .i64 c[k].op) ∧ u.cell? ⟨wr.heap.size, 1, none⟩ = some (.int .i64 c[k].a) ∧ u.cell? ⟨wr.heap.size, 2, none⟩ = some (.int .i64 c[k].b) ∧ u.cell? ⟨wr.heap.size, 3, none⟩ = some (.int .i64 c[k].n)) 18 (by kernel_rfl) (by kernel_rfl) ?_ ?_
          · refine ⟨?_, ?_, ?_, ?_, ?_, ?_⟩ <;> simp [go_sem, j8, hgt]
          intro hHeld
          refine wpHead_take (i := 0) (v := ?vv0) rfl (by kernel_rfl) (fun _ _ _ h => h) (Or.inl ⟨by rfl, ?hy0⟩) (by assumption) ?rest0
          case hy0 => (intro u hu; obtain ⟨g1, g2, g3, g4, g5, g6⟩ := hu; go_simp; try with_reducible rfl)
          simp only [Act.put, List.setIfInBounds_toArray]
          refine wpHead_take (i := 1) (v := ?vv1) rfl (by kernel_rfl) (fun _ _ _ h => h) (Or.inl ⟨by rfl, ?hy1⟩) (by assumption) ?rest1
          case hy1 => (intro u hu; obtain ⟨g1, g2, g3, g4, g5, g6⟩ := hu; go_simp; try with_reducible rfl)
          simp only [Act.put]
          refine wpHead_take (i := 2) (v := ?vv2) rfl (by kernel_rfl) (fun _ _ _ h => h) (Or.inl ⟨by rfl, ?hy2⟩) (by assumption) ?rest2
          case hy2 => (intro u hu; obtain ⟨g1, g2, g3, g4, g5, g6⟩ := hu; go_simp; try with_reducible rfl)
          simp only [Act.put]
          refine wpHead_take (i := 3) (v := ?vv3) rfl (by kernel_rfl) (fun _ _ _ h => h) (Or.inl ⟨by rfl, ?hy3⟩) (by assumption) ?rest3
          case hy3 => (intro u hu; obtain ⟨g1, g2, g3, g4, g5, g6⟩ := hu; go_simp; try with_reducible rfl)
          simp only [Act.put]
          refine wpHead_take (i := 4) (v := ?vv4) rfl (by kernel_rfl) (fun _ _ _ h => h) (Or.inl ⟨by rfl, ?hy4⟩) (by assumption) ?rest4
          case hy4 => (intro u hu; obtain ⟨g1, g2, g3, g4, g5, g6⟩ := hu; go_simp; try with_reducible rfl)
          simp only [Act.put]
          refine wpHead_take (i := 5) (v := ?vv5) rfl (by kernel_rfl) (fun _ _ _ h => h) (Or.inl ⟨by rfl, ?hy5⟩) (by assumption) ?rest5
          case hy5 => (intro u hu; obtain ⟨g1, g2, g3, g4, g5, g6⟩ := hu; go_simp; try with_reducible rfl)
          simp only [Act.put]
          refine wpHead_take (i := 6) (v := ?vv6) rfl (by kernel_rfl) (fun _ _ _ h => h) (Or.inl ⟨by rfl, ?hy6⟩) (by assumption) ?rest6
          case hy6 => (intro u hu; obtain ⟨g1, g2, g3, g4, g5, g6⟩ := hu; go_simp; try with_reducible rfl)
          simp only [Act.put]
          refine wpHead_take (i := 7) (v := ?vv7) rfl (by kernel_rfl) (fun _ _ _ h => h) (Or.inl ⟨by rfl, ?hy7⟩) (by assumption) ?rest7
          case hy7 => (intro u hu; obtain ⟨g1, g2, g3, g4, g5, g6⟩ := hu; go_simp; try with_reducible rfl)
          simp only [Act.put]
          refine wpHead_take (i := 8) (v := ?vv8) rfl (by kernel_rfl) (fun _ _ _ h => h) (Or.inl ⟨by rfl, ?hy8⟩) (by assumption) ?rest8
          case hy8 => (intro u hu; obtain ⟨g1, g2, g3, g4, g5, g6⟩ := hu; go_simp; try with_reducible rfl)
          simp only [Act.put]
          refine wpHead_take (i := 9) (v := ?vv9) rfl (by kernel_rfl) (fun _ _ _ h => h) (Or.inl ⟨by rfl, ?hy9⟩) (by assumption) ?rest9
          case hy9 => (intro u hu; obtain ⟨g1, g2, g3, g4, g5, g6⟩ := hu; go_simp; try with_reducible rfl)
          simp only [Act.put]
          refine wpHead_take (i := 10) (v := ?vv10) rfl (by kernel_rfl) (fun _ _ _ h => h) (Or.inl ⟨by rfl, ?hy10⟩) (by assumption) ?rest10
          case hy10 => (intro u hu; obtain ⟨g1, g2, g3, g4, g5, g6⟩ := hu; go_simp; try with_reducible rfl)
          simp only [Act.put]
          refine wpHead_take (i := 11) (v := ?vv11) rfl (by kernel_rfl) (fun _ _ _ h => h) (Or.inl ⟨by rfl, ?hy11⟩) (by assumption) ?rest11
          case hy11 => (intro u hu; obtain ⟨g1, g2, g3, g4, g5, g6⟩ := hu; go_simp; try with_reducible rfl)
          simp only [Act.put]
          refine wpHead_take (i := 12) (v := ?vv12) rfl (by kernel_rfl) (fun _ _ _ h => h) (Or.inl ⟨by rfl, ?hy12⟩) (by assumption) ?rest12
          case hy12 => (intro u hu; obtain ⟨g1, g2, g3, g4, g5, g6⟩ := hu; go_simp; try with_reducible rfl)
          simp only [Act.put]
          refine wpHead_take (i := 13) (v := ?vv13) rfl (by kernel_rfl) (fun _ _ _ h => h) (Or.inl ⟨by rfl, ?hy13⟩) (by assumption) ?rest13
          case hy13 => (intro u hu; obtain ⟨g1, g2, g3, g4, g5, g6⟩ := hu; go_simp; try with_reducible rfl)
          simp only [Act.put]
          have hv1 := vIns_op (vCode_ins (by have := vProg_code HV.out hlt; rw [HT.out] at this; exact this) hkl)
          refine wpHead_alone (i := 14) rfl (by kernel_rfl) (by kernel_rfl) (by rfl) ?_
          intro K14 hK14
          have HK14 := hide hK14
          clear hK14
          go_simp
          refine (makeMove_m t c[k] hv1.1 hv1.2 _).mono ?_
          rintro e w4 ⟨kf, caps, rfl, hact, hg4⟩
          simp only []
          have HACT := hide hact
          have HG4 := hide hg4
          have hsz4 : wr.heap.size + 1 ≤ w4.heap.size := by have := hg4.size; simpa using this
          have hS4 : w4.cell? ⟨w2.heap.size, 0, none⟩ = some (.slice (some ⟨w.heap.size + 1, 0, none⟩) p.length p.length) ∧ w4.cell? ⟨w.heap.size + 1, t, none⟩ = some v ∧ w4.cell? ⟨wr.heap.size, 0, none⟩ = some (.int .i64 c[k].op) ∧ w4.cell? ⟨wr.heap.size, 1, none⟩ = some (.int .i64 c[k].a) ∧ w4.cell? ⟨wr.heap.size, 2, none⟩ = some (.int .i64 c[k].b) ∧ w4.cell? ⟨wr.heap.size, 3, none⟩ = some (.int .i64 c[k].n) := by
            obtain ⟨q1, q2, q3, q4, q5, q6⟩ := hHeld
            have hpr := pres_grown hg4
            exact ⟨hpr _ _ q1, hpr _ _ q2, hpr _ _ q3, hpr _ _ q4, hpr _ _ q5, hpr _ _ q6⟩
          clear hact hg4 hHeld
          refine HK14.out _ _ hS4 ?_
          clear HK14
          refine wpHead_alone (i := 15) rfl (by kernel_rfl) (by kernel_rfl) (by rfl) ?_
          intro K15 hK15
          have HK15 := hide hK15
          clear hK15
          go_simp
          have hS5 : (w4.alloc (.cells #[.func (.func kf) #[] caps, .bool (c[k].op == 9), .int .i64 (if c[k].op = 9 then c[k].a else 0)] 111)).cell? ⟨w2.heap.size, 0, none⟩ = some (.slice (some ⟨w.heap.size + 1, 0, none⟩) p.length p.length) ∧ (w4.alloc (.cells #[.func (.func kf) #[] caps, .bool (c[k].op == 9), .int .i64 (if c[k].op = 9 then c[k].a else 0)] 111)).cell? ⟨w.heap.size + 1, t, none⟩ = some v ∧ (w4.alloc (.cells #[.func (.func kf) #[] caps, .bool (c[k].op == 9), .int .i64 (if c[k].op = 9 then c[k].a else 0)] 111)).cell? ⟨wr.heap.size, 0, none⟩ = some (.int .i64 c[k].op) ∧ (w4.alloc (.cells #[.func (.func kf) #[] caps, .bool (c[k].op == 9), .int .i64 (if c[k].op = 9 then c[k].a else 0)] 111)).cell? ⟨wr.heap.size, 1, none⟩ = some (.int .i64 c[k].a) ∧ (w4.alloc (.cells #[.func (.func kf) #[] caps, .bool (c[k].op == 9), .int .i64 (if c[k].op = 9 then c[k].a else 0)] 111)).cell? ⟨wr.heap.size, 2, none⟩ = some (.int .i64 c[k].b) ∧ (w4.alloc (.cells #[.func (.func kf) #[] caps, .bool (c[k].op == 9), .int .i64 (if c[k].op = 9 then c[k].a else 0)] 111)).cell? ⟨wr.heap.size, 3, none⟩ = some (.int .i64 c[k].n) := by
            obtain ⟨q1, q2, q3, q4, q5, q6⟩ := hS4
            have hpr := pres_grown (grown_alloc (o := .cells #[.func (.func kf) #[] caps, .bool (c[k].op == 9), .int .i64 (if c[k].op = 9 then c[k].a else 0)] 111) (grown_refl w4 none))
            exact ⟨hpr _ _ q1, hpr _ _ q2, hpr _ _ q3, hpr _ _ q4, hpr _ _ q5, hpr _ _ q6⟩
          refine HK15.out _ _ hS5 ?_
          clear HK15
          have HGw : Hid (wr.grownBy (w4.alloc (.cells #[.func (.func kf) #[] caps, .bool (c[k].op == 9), .int .i64 (if c[k].op = 9 then c[k].a else 0)] 111)) none) := grown_alloc (grown_trans (grown_drew (grown_alloc (grown_refl _ _))) HG4.out)
          have h63 : k + 1 ≤ maxLen := by unfold maxLen; omega
          have hby : (k + 1) * 24 ≤ 140737488355328 := by omega
          refine wpHead_alone (i := 16) rfl (by kernel_rfl) (by kernel_rfl) (by rfl) ?_
          intro K16 hK16
          have HK16 := hide hK16
          clear hK16
          refine wp_append_lies _ (.tmp 39) (.tmp 43) 107 (by rfl) w3.heap.size 111 i1 _ 3 24 Tryz.underlying107 hi1 hy0 hy1 hy2 rfl (by omega) v k xs (by rfl) (owns_grown J4.out HGw.out (fun _ e => by cases e)) ⟨w4.heap.size, 0, none⟩ 1 1 (moveV kf caps c[k]) (by rfl) (by rfl) (World.news_of_block (cs := #[.func (.func kf) #[] caps, .bool (c[k].op == 9), .int .i64 (if c[k].op = 9 then c[k].a else 0)]) (t := 111) (fr := (0, 0)) (heap_alloc_new w4 _)) (by simp [moveV, Value.oneCell']) (by omega) h63 hby (by simp; omega) (w4.heap.size + 1) (by simp) ?_
          intro g2 cap2 w5 hown5 hgrow hat hlt5
          have hob : ∀ q, v.ownBlock = some q → w3.heap.size ≤ q ∧ q < wr.heap.size := fun q e => ⟨owns_block J4.out q e, by
            rcases J4.out.2 with ⟨e1, _⟩ | ⟨g', _, _, hv, _, hh, _⟩
            · rw [e1] at e; cases e
            · rw [hv] at e
              have := (Array.getElem?_eq_some_iff.1 hh).1
              simp [Value.ownBlock] at e
              omega⟩
          have hfar : ∀ q o x, (q < w3.heap.size ∨ wr.heap.size ≤ q) → (w4.alloc (.cells #[.func (.func kf) #[] caps, .bool (c[k].op == 9), .int .i64 (if c[k].op = 9 then c[k].a else 0)] 111)).cell? ⟨q, o, none⟩ = some x → w5.cell? ⟨q, o, none⟩ = some x := fun q o x hq hx => by
            rw [hgrow.cell_far _ (World.block_lt_of_cell? _ _ hx) (fun e => by have := hob q e.symm; omega)]; exact hx
          have hS6 : w5.cell? ⟨w2.heap.size, 0, none⟩ = some (.slice (some ⟨w.heap.size + 1, 0, none⟩) p.length p.length) ∧ w5.cell? ⟨w.heap.size + 1, t, none⟩ = some v ∧ w5.cell? ⟨wr.heap.size, 0, none⟩ = some (.int .i64 c[k].op) ∧ w5.cell? ⟨wr.heap.size, 1, none⟩ = some (.int .i64 c[k].a) ∧ w5.cell? ⟨wr.heap.size, 2, none⟩ = some (.int .i64 c[k].b) ∧ w5.cell? ⟨wr.heap.size, 3, none⟩ = some (.int .i64 c[k].n) := by
            obtain ⟨q1, q2, q3, q4, q5, q6⟩ := hS5
            exact ⟨hfar _ _ _ (by omega) q1, hfar _ _ _ (by omega) q2, hfar _ _ _ (by omega) q3, hfar _ _ _ (by omega) q4, hfar _ _ _ (by omega) q5, hfar _ _ _ (by omega) q6⟩
          have HOW5 := hide hown5
          have HGR := hide hgrow
          have HAT := hide hat
          clear hown5 hgrow hat hS4 hS5 hfar
          refine HK16.out _ _ hS6 ?_
          clear HK16
          simp only [Act.put, List.setIfInBounds_toArray]
          refine wpHead_take (i := 17) (v := ?vv17) rfl (by kernel_rfl) (fun _ _ _ h => h) (Or.inl ⟨by rfl, ?hy17⟩) (by assumption) ?rest17
          case hy17 => (intro u hu; obtain ⟨g1, g2, g3, g4, g5, g6⟩ := hu; go_simp; try with_reducible rfl)
          simp only [Act.put]
          refine wpHead_last rfl (by kernel_rfl) (by kernel_rfl) (by rfl) ?_
          obtain ⟨s1, s2, _⟩ := hS6
          have s2f : w5.frozen? ⟨w.heap.size + 1, t, none⟩ = false := by
            rw [HGR.out.frozen_far _ (by simp; omega) (fun e => by have := hob _ e.symm; simp at this; omega), HGw.out.frozen_far _ (by simp; omega) (by simp)]
            exact hgf
          have HNX : Hid (Inner w (w2.heap.size + 1) w3.heap.size (w.heap.size + 1) w2.heap.size p.length t (k + 1) p (w5.setCell ⟨w.heap.size + 1, t, none⟩ (.slice (some ⟨g2, 0, none⟩) (k + 1) cap2))) :=
            inner_step J1.out J2.out J4.out J5.out J6.out J7.out J9.out j10 j11 j12 j13 j14 j15 hlt (by rw [HT.out]; exact hkl) (i := c[k]) (by simp [HT.out]) (fun u hu => HACT.out u (fun q h1 h2 => hu q (by simpa using h1) h2)) (grown_trans (grown_drew (grown_alloc (grown_refl _ _))) HG4.out) hsz4 HOW5.out HGR.out HAT.out s1
          clear J1 J2 J4 J5 J6 J7 J9 HACT HG4 HOW5 HGR HAT HGw
          go_simp
          go_wp2
          go_roundw
          case rel => exact ⟨k + 1, by omega, by go_num, HNX⟩
          case measure => simp [intOf]; omega
        · have ek : k = c.length := by omega
          have HNX : Hid (∃ rows, wr.heap[w.heap.size + 1]? = some (.cells rows 107 (0, 0)) ∧ rows.size = p.length ∧ Fin (w2.heap.size + 1) wr.heap.size wr rows (t + 1) p ∧ (∀ j, t + 1 ≤ j → j < p.length → rows[j]? = some (.slice none 0 0)) ∧
              wr.cell? ⟨w2.heap.size, 0, none⟩ = some (.slice (some ⟨w.heap.size + 1, 0, none⟩) p.length p.length) ∧ w.grownBy wr none ∧ w2.heap.size + 1 ≤ wr.heap.size) := by
            obtain ⟨rows, v, xs, j1, j2, j3, j4, j5, j6, j7, j8, j9, j10, j11, j12, j13, j14, j15⟩ := HIn.out
            have hlc : (codeOf p t).length = k := by rw [HT.out]; omega
            rw [List.take_of_length_le (by omega)] at j5
            have hbl : ∀ h, v.ownBlock = some h → h < wr.heap.size := fun q e => by
              rcases j4.2 with ⟨e1, _⟩ | ⟨g', _, _, hv, _, hh, _⟩
              · rw [e1] at e; cases e
              · rw [hv] at e
                have := (Array.getElem?_eq_some_iff.1 hh).1
                simp [Value.ownBlock] at e
                omega
            refine ⟨rows, j1, j2, (j6.mono j11).succ j3 (by rw [hlc]; exact owns_mono j4 (by omega)) hbl j5, fun j h1 h2 => j7 j (by omega) h2, j8, j9, by omega⟩
          clear ek
          go_wp2
          go_roundw
          case rel => exact ⟨t + 1, by omega, by go_num, HNX⟩
          case measure => simp [intOf]; omega
    · have et : t = p.length := by omega
      have HNX : Hid (MachAt w3.heap.size w3 w2.heap.size p ∧ w.grownBy w3 none) := by
        obtain ⟨rows, j1, j2, j3, j4, j5, j6, j7⟩ := HI.out
        refine ⟨⟨w.heap.size + 1, p.length, by omega, by omega, j5, fun j hj => ?_⟩, j6⟩
        obtain ⟨v, e1, e2⟩ := j3.rowIs (j := j) (by omega)
        exact ⟨v, by simp [World.cell?, j1, e1], e2⟩
      clear et
      go_wp2
      go_ret
      exact ⟨w2.heap.size, rfl, HNX.out.1, HNX.out.2⟩

end Go.Proofs.YtklenjmfalljgaaGreatDoor

/- The walks of Valid, Check, checkRun and Replay. -/
namespace Go.Proofs.YtklenjmfalljgaaGreatDoor
open Go.RowKit
attribute [local go_sem] Go.World.cell?_alloc_some

set_option maxHeartbeats 1000000 in
set_option maxRecDepth 100000 in
theorem valid_m (p : List (List Ins)) (pv : Value) (w : World) (hS : ShpAt w) (hP : ProgAt w pv p) :
    Calls Tryz.prog 53 #[pv] w fun e w' => e = .returned (.bool (vProg p)) ∧ w.grownBy w' none := by
  obtain ⟨ao, cap, rfl, hP⟩ := hP
  have HSh := hide hS
  have HP := hide hP
  clear hS hP
  by_cases h1 : 1 ≤ p.length
  · by_cases h4 : p.length ≤ 4
    · have g1 : (1 : Int) ≤ p.length := by omega
      have g4 : (p.length : Int) ≤ 4 := by omega
      have HV : Hid (vProg p = p.all vCode) := by unfold Hid; simp [vProg, h1, h4]
      go_enter Tryz.func53, Tryz.ntmps53
      go_wp2
      go_loopw [18] (fun i w' => ∃ k : Nat, k ≤ p.length ∧ i = .int .i64 k ∧ Hid (w.grownBy w' none) ∧ Hid ((p.take k).all vCode = true)) (fun i _ => p.length - (intOf i).toNat)
      case atStart => exact ⟨0, Nat.zero_le _, rfl, grown_alloc (grown_refl _ _), rfl⟩
      case round =>
        obtain ⟨k, hk, rfl, HG, HA⟩ := hrel
        by_cases hlt : k < p.length
        · obtain ⟨g, o, rfl, rv, c0, c1⟩ := HP.out k hlt
          have hpr := pres_grown HG.out
          have d0 := hpr _ _ c0
          have D1 := hide (c1.pres hpr)
          have HAs := hide (all_take_succ p vCode k hlt)
          have HSh' : Hid (ShpAt wr) := HSh.out.pres hpr
          clear c0 c1 hpr
          have hk0 : (0 : Int) ≤ (k : Int) := by omega
          have hk1 : (k : Int) < p.length := by omega
          generalize p[k] = c at *
          go_wp2_with fail
          refine (validThread_m c rv _ HSh'.out D1.out).mono ?_
          rintro e w1 ⟨rfl, hg1⟩
          have HG1 : Hid (w.grownBy w1 none) := grown_trans HG.out hg1
          clear hg1
          cases hv : vCode c
          · have HE : Hid (vProg p = false) := by
              unfold Hid
              rw [HV.out]
              have : (p.take (k + 1)).all vCode = false := by rw [HAs.out, hv]; simp
              rw [← List.take_append_drop (k + 1) p, List.all_append, this]; rfl
            go_wp2_with fail
            go_ret
            exact ⟨by rw [HE.out]; rfl, HG1⟩
          · have HA1 : Hid ((p.take (k + 1)).all vCode = true) := by unfold Hid; rw [HAs.out, hv, HA.out]; rfl
            clear HAs hv
            go_wp2
            go_roundw
            case rel => exact ⟨k + 1, by omega, by go_num, HG1, HA1⟩
            case measure => simp [intOf]; omega
        · have HE : Hid (vProg p = true) := by
            unfold Hid
            rw [HV.out]
            have := HA.out
            rw [List.take_of_length_le (by omega)] at this
            exact this
          go_wp2
          go_ret
          exact ⟨by rw [HE.out]; rfl, HG⟩
    · have HV : Hid (vProg p = false) := by unfold Hid; simp [vProg, h4]
      have g4 : (4 : Int) < p.length := by omega
      go_enter Tryz.func53, Tryz.ntmps53
      go_wp2
      go_ret
      exact ⟨by rw [HV.out]; rfl, grown_alloc (grown_refl _ _)⟩
  · have HV : Hid (vProg p = false) := by unfold Hid; simp [vProg, h1]
    have g1 : (p.length : Int) < 1 := by omega
    go_enter Tryz.func53, Tryz.ntmps53
    go_wp2
    go_ret
    exact ⟨by rw [HV.out]; rfl, grown_alloc (grown_refl _ _)⟩

theorem ProgAt.form {w : World} {pv : Value} {p : List (List Ins)} (h : ProgAt w pv p) : ∃ ao cap, pv = .agg #[.slice ao p.length cap] := by
  obtain ⟨ao, cap, e, _⟩ := h; exact ⟨ao, cap, e⟩

def checkN (p : List (List Ins)) : Int := if vProg p = true then 0 else 1
def checkRunN (p : List (List Ins)) (s : List Int) : Int := if vProg p = true then (if s.length ≤ 500 then 0 else 2) else 1

set_option maxHeartbeats 1000000 in
theorem check_m (p : List (List Ins)) (pv : Value) (w : World) (hS : ShpAt w) (hP : ProgAt w pv p) :
    Calls Tryz.prog 26 #[pv] w fun e w' => e = .returned (.int .i64 (checkN p)) ∧ w.grownBy w' none := by
  have HSh := hide hS
  have HP := hide hP
  obtain ⟨ao, cap, rfl⟩ := hP.form
  clear hS hP
  go_enter Tryz.func26, Tryz.ntmps26
  go_wp2_with fail
  refine (valid_m p _ _ (HSh.out.pres (pres_grown (grown_alloc (grown_refl _ _)))) (HP.out.pres (pres_grown (grown_alloc (grown_refl _ _))))).mono ?_
  rintro e w1 ⟨rfl, hg1⟩
  have HG1 : Hid (w.grownBy w1 none) := grown_trans (grown_alloc (grown_refl _ _)) hg1
  clear hg1
  cases hv : vProg p
  · have HE : Hid (checkN p = 1) := by unfold Hid checkN; simp [hv]
    go_wp2_with fail
    go_ret
    exact ⟨by rw [HE.out]; rfl, HG1⟩
  · have HE : Hid (checkN p = 0) := by unfold Hid checkN; simp [hv]
    go_wp2_with fail
    go_ret
    exact ⟨by rw [HE.out]; rfl, HG1⟩

/-- Lists of numbers in a row, by their lengths. -/
def ListsAt (w : World) (v : Value) (ss : List (List Int)) : Prop :=
  ∃ g o cap, v = .slice (some ⟨g, o, none⟩) ss.length cap ∧ ∀ k (hk : k < ss.length), ∃ so sc, w.cell? ⟨g, o + k, none⟩ = some (.slice so ss[k].length sc)
theorem lists_one {W : World} {so : Option Addr} {s : List Int} {sc : Nat} {t : TypeId} {g : Nat} (hg : W.heap.size = g) : ListsAt (W.alloc (.cells #[.slice so s.length sc] t)) (.slice (some ⟨g, 0, none⟩) 1 1) [s] := by
  subst hg
  refine ⟨W.heap.size, 0, 1, rfl, fun k hk => ⟨so, sc, ?_⟩⟩
  have hk0 : k = 0 := by simp at hk; omega
  subst hk0
  have h := heap_alloc_new W (.cells #[.slice so s.length sc] t)
  simp only [World.cell?, h]
  rfl
def checkRunsN (p : List (List Ins)) (ss : List (List Int)) : Int := if vProg p = true then (if ss.all (fun s => decide (s.length ≤ 500)) = true then 0 else 2) else 1
theorem checkRuns_one (p : List (List Ins)) (s : List Int) : checkRunsN p [s] = checkRunN p s := by simp [checkRunsN, checkRunN]

set_option maxHeartbeats 1000000 in
theorem checkRun_m (p : List (List Ins)) (ss : List (List Int)) (pv sv : Value) (w : World) (hS : ShpAt w) (hP : ProgAt w pv p) (hL : ListsAt w sv ss) (hn : ss.length ≤ 1000) :
    Calls Tryz.prog 23 #[pv, sv] w fun e w' => e = .returned (.int .i64 (checkRunsN p ss)) ∧ w.grownBy w' none := by
  have HSh := hide hS
  have HP := hide hP
  obtain ⟨ao, cap, rfl⟩ := hP.form
  obtain ⟨g, o, scap, rfl, hc⟩ := hL
  have HC := hide hc
  clear hS hP hc
  go_enter Tryz.func23, Tryz.ntmps23
  go_wp2_with fail
  refine (check_m p _ _ (HSh.out.pres (pres_grown (grown_alloc (grown_refl _ _)))) (HP.out.pres (pres_grown (grown_alloc (grown_refl _ _))))).mono ?_
  rintro e w1 ⟨rfl, hg1⟩
  have HG1 : Hid (w.grownBy w1 none) := grown_trans (grown_alloc (grown_refl _ _)) hg1
  clear hg1
  cases hv : vProg p
  · have HE : Hid (checkRunsN p ss = 1) := by unfold Hid checkRunsN; simp [hv]
    have e1 : checkN p = 1 := by unfold checkN; simp [hv]
    rw [e1]
    clear e1
    go_wp2_with fail
    go_ret
    exact ⟨by rw [HE.out]; rfl, HG1⟩
  · have e1 : checkN p = 0 := by unfold checkN; simp [hv]
    rw [e1]
    have HV : Hid (checkRunsN p ss = if ss.all (fun s => decide (s.length ≤ 500)) = true then 0 else 2) := by unfold Hid checkRunsN; rw [if_pos hv]
    clear e1 hv
    have hn' : (ss.length : Int) ≤ 1000 := by omega
    go_wp2_with fail
    go_loopw [15] (fun i w' => ∃ k : Nat, k ≤ ss.length ∧ i = .int .i64 k ∧ Hid (w.grownBy w' none) ∧ Hid ((ss.take k).all (fun s => decide (s.length ≤ 500)) = true)) (fun i _ => ss.length - (intOf i).toNat)
    case atStart => exact ⟨0, Nat.zero_le _, rfl, HG1, rfl⟩
    case round =>
      clear HG1
      obtain ⟨k, hk, rfl, HG, HA⟩ := hrel
      obtain ⟨w5, hw5⟩ : ∃ w5, w5 = wr := ⟨_, rfl⟩
      rw [← hw5] at HG ⊢
      clear hw5
      by_cases hlt : k < ss.length
      · obtain ⟨so, sc, c0⟩ := HC.out k hlt
        have d0 := pres_grown HG.out _ _ c0
        have HAs := hide (all_take_succ ss (fun s => decide (s.length ≤ 500)) k hlt)
        have HEx : Hid (ss[k].length ≤ 500 ∨ (ss.all (fun s => decide (s.length ≤ 500)) = false)) := by
          unfold Hid
          by_cases h5 : ss[k].length ≤ 500
          · exact Or.inl h5
          · right
            cases ha : ss.all (fun s => decide (s.length ≤ 500)) with
            | false => rfl
            | true =>
              rw [List.all_eq_true] at ha
              have := ha _ (List.getElem_mem hlt)
              simp at this; omega
        clear c0
        have hk0 : (0 : Int) ≤ (k : Int) := by omega
        have hk1 : (k : Int) < ss.length := by omega
        generalize ss[k] = s at *
        by_cases h5 : s.length ≤ 500
        · have h6 : (s.length : Int) ≤ 500 := by omega
          have HA1 : Hid ((ss.take (k + 1)).all (fun s => decide (s.length ≤ 500)) = true) := by unfold Hid; rw [HAs.out, HA.out]; simp [h5]
          clear HAs HEx
          go_wp2_with fail
          go_roundw
          case rel => exact ⟨k + 1, by omega, by go_num, HG, HA1⟩
          case measure => simp [intOf]; omega
        · have h6 : (500 : Int) < s.length := by omega
          have HE : Hid (checkRunsN p ss = 2) := by
            unfold Hid; rw [HV.out, if_neg]
            rw [HEx.out.resolve_left h5]; simp
          clear HAs HEx
          go_wp2_with fail
          go_ret
          exact ⟨by rw [HE.out]; rfl, HG⟩
      · have HE : Hid (checkRunsN p ss = 0) := by
          unfold Hid; rw [HV.out, if_pos]
          have := HA.out
          rwa [List.take_of_length_le (by omega)] at this
        go_wp2_with fail
        go_ret
        exact ⟨by rw [HE.out]; rfl, HG⟩

theorem IntsAt.mono {B B' : Nat} {w : World} {v : Value} {l : List Int} (h : IntsAt B w v l) (hb : B ≤ B') : IntsAt B' w v l := by
  obtain ⟨ao, cap, e, h1, h2⟩ := h
  refine ⟨ao, cap, e, h1, fun k hk => ?_⟩
  obtain ⟨g, o, e1, e2, e3⟩ := h2 k hk
  exact ⟨g, o, e1, by omega, e3⟩
theorem IntsAt.pres {B : Nat} {w w' : World} {v : Value} {l : List Int} (h : IntsAt B w v l) (hp : Pres w w') : IntsAt B w' v l := by
  obtain ⟨ao, cap, e, h1, h2⟩ := h
  refine ⟨ao, cap, e, h1, fun k hk => ?_⟩
  obtain ⟨g, o, e1, e2, e3⟩ := h2 k hk
  exact ⟨g, o, e1, e2, hp _ _ e3⟩
theorem IntsAt.form {B : Nat} {w : World} {v : Value} {l : List Int} (h : IntsAt B w v l) : ∃ ao cap, v = .slice ao l.length cap := by
  obtain ⟨ao, cap, e, _⟩ := h; exact ⟨ao, cap, e⟩

/-- What Replay answers. -/
def Replayed (p : List (List Ins)) (s : List Int) (w : World) (e : Ending) (w' : World) : Prop :=
  w.grownBy w' none ∧
  ((checkRunN p s = 0 ∧ ∃ rv, e = .returned (.tuple #[rv, .int .i64 0]) ∧ ResAt w.heap.size w' (runS p s) p.length rv) ∨
   (checkRunN p s ≠ 0 ∧ e = .returned (.tuple #[.agg #[.int .i64 0, .int .i64 0, .int .i64 0, .slice none 0 0, .int .i64 0, .int .i64 0, .int .i64 0, .int .i64 0, .slice none 0 0], .int .i64 (checkRunN p s)])))

set_option maxHeartbeats 4000000 in
set_option maxRecDepth 100000 in
theorem replay_m (p : List (List Ins)) (s : List Int) (pv sv : Value) (w : World) (hS : ShpAt w) (hP : ProgAt w pv p) (hI : IntsAt w.heap.size w sv s) :
    Calls Tryz.prog 6 #[pv, sv] w (Replayed p s w) := by
  have HSh := hide hS
  have HP := hide hP
  have HI := hide hI
  obtain ⟨ao, cap, rfl⟩ := hP.form
  obtain ⟨so, sc, rfl⟩ := hI.form
  clear hS hP hI
  go_enter Tryz.func6, Tryz.ntmps6
  go_wp2_with fail
  have hg0 : ∀ a b c, w.grownBy (((w.alloc a).alloc b).alloc c) none := fun a b c => grown_alloc (grown_alloc (grown_alloc (grown_refl _ _)))
  refine (checkRun_m p [s] _ _ _ (HSh.out.pres (pres_grown (hg0 _ _ _))) (HP.out.pres (pres_grown (hg0 _ _ _))) (lists_one (by simp)) (by simp)).mono ?_
  rw [checkRuns_one]
  rintro e w1 ⟨rfl, hg1⟩
  have HG1 : Hid (w.grownBy w1 none) := grown_trans (hg0 _ _ _) hg1
  have hsz1 : w.heap.size + 2 ≤ w1.heap.size := by have := hg1.size; simp at this; omega
  have hb0 : w1.heap[w.heap.size]? = some (.cells #[.slice ao p.length cap] 24 (0, 0)) := by
    rw [hg1.block w.heap.size (by simp; omega) (by simp), Below.heap_alloc _ _ _ (by simp; omega), Below.heap_alloc _ _ _ (by simp)]; exact heap_alloc_new w _
  have hb1 : w1.heap[w.heap.size + 1]? = some (.cells #[.int .i64 0, .int .i64 0, .int .i64 0, .slice none 0 0, .int .i64 0, .int .i64 0, .int .i64 0, .int .i64 0, .slice none 0 0] 32 (0, 0)) := by
    rw [hg1.block (w.heap.size + 1) (by simp) (by simp), Below.heap_alloc _ _ _ (by simp)]
    have := heap_alloc_new (w.alloc (.cells #[.slice ao p.length cap] 24)) (.cells #[.int .i64 0, .int .i64 0, .int .i64 0, .slice none 0 0, .int .i64 0, .int .i64 0, .int .i64 0, .int .i64 0, .slice none 0 0] 32)
    simpa using this
  have HB1 := hide hb1
  have c0 : w1.cell? ⟨w.heap.size, 0, none⟩ = some (.slice ao p.length cap) := by simp [World.cell?, hb0]
  clear hb0 hg1
  by_cases h0 : checkRunN p s = 0
  · have H0 := hide h0
    have hv : vProg p = true := by
      unfold checkRunN at h0
      by_cases hv : vProg p = true
      · exact hv
      · simp [hv] at h0
    have h5 : s.length ≤ 500 := by
      unfold checkRunN at h0
      by_cases h5 : s.length ≤ 500
      · exact h5
      · simp [hv, h5] at h0
    have HV := hide hv
    rw [h0]
    clear h0 hv hb1
    go_wp2_with fail
    refine (new_m HV.out (HP.out.pres (pres_grown HG1.out))).mono ?_
    rintro e w2 ⟨m, rfl, hM, hg2⟩
    have HM := hide hM
    have HG2 : Hid (w.grownBy w2 none) := grown_trans HG1.out hg2
    have hsz2 : w.heap.size + 2 ≤ w2.heap.size := by have := hg2.size; omega
    have HB2 : Hid (w2.heap[w.heap.size + 1]? = some (.cells #[.int .i64 0, .int .i64 0, .int .i64 0, .slice none 0 0, .int .i64 0, .int .i64 0, .int .i64 0, .int .i64 0, .slice none 0 0] 32 (0, 0))) := by
      unfold Hid; rw [hg2.block _ (by omega) (by simp)]; exact HB1.out
    clear hM hg2 c0
    go_wp2_with fail
    refine (run_m HV.out HM.out (Nat.le_refl _) ((HI.out.pres (pres_grown HG2.out)).mono (by omega)) h5).mono ?_
    rintro e w3 ⟨rv, rfl, ⟨sv, gv, rfl, ho1, ho2⟩, hg3⟩
    obtain ⟨x1, x2, x3, rfl⟩ := owns_form ho1
    obtain ⟨y1, y2, y3, rfl⟩ := owns_form ho2
    have HO1 := hide ho1
    have HO2 := hide ho2
    have HG3 : Hid (w.grownBy w3 none) := grown_trans HG2.out hg3
    have hrb : w3.heap[w.heap.size + 1]? = some (.cells #[.int .i64 0, .int .i64 0, .int .i64 0, .slice none 0 0, .int .i64 0, .int .i64 0, .int .i64 0, .int .i64 0, .slice none 0 0] 32 (0, 0)) := by
      rw [hg3.block _ (by omega) (by simp)]; exact HB2.out
    obtain ⟨r0, r1, r2, r3, r4, r5, r6, r7, r8, rf⟩ := nine_cells hrb
    have f0 := rf 0
    have f1 := rf 1
    have f2 := rf 2
    have f3 := rf 3
    have f4 := rf 4
    have f5 := rf 5
    have f6 := rf 6
    have f7 := rf 7
    have f8 := rf 8
    clear rf hrb ho1 ho2 hg3
    generalize hO : runS p s = o at *
    have HOe := hide hO
    clear hO
    go_wp2_with fail
    refine bodyPost_ret (v := .tuple #[.agg #[.int .i64 o.kind, .int .i64 o.thread, .int .i64 o.at_, .slice x1 x2 x3, .int .i64 (o.st.vars 0), .int .i64 (o.st.vars 1), .int .i64 (o.st.vars 2), .int .i64 (o.st.vars 3), .slice y1 y2 y3], .int .i64 0]) ?_ rfl ⟨?_, Or.inl ⟨H0.out, _, rfl, ?_⟩⟩
    · simp [results, Tryz.results6, go_sem, r0, r1, r2, r3, r4, r5, r6, r7, r8]
    · iterate 9 refine grown_setNew ?_ (by omega)
      exact HG3.out
    · rw [HOe.out]
      refine ⟨_, _, rfl, ?_, ?_⟩
      · refine owns_mono (base := w2.heap.size) ?_ (by omega)
        iterate 9 refine ownsRow_setCell_below ?_ (by simp; omega) _
        exact HO1.out
      · refine owns_mono (base := w2.heap.size) ?_ (by omega)
        iterate 9 refine ownsRow_setCell_below ?_ (by simp; omega) _
        exact HO2.out
  · have H0 := hide h0
    obtain ⟨r0, r1, r2, r3, r4, r5, r6, r7, r8, rf⟩ := nine_cells hb1
    have f0 := rf 0
    have f1 := rf 1
    have f2 := rf 2
    have f3 := rf 3
    have f4 := rf 4
    have f5 := rf 5
    have f6 := rf 6
    have f7 := rf 7
    have f8 := rf 8
    have hne : (checkRunN p s != 0) = true := by simpa using h0
    clear rf hb1 h0
    generalize hE : checkRunN p s = e at *
    have HE := hide hE
    clear hE
    go_wp2_with fail
    refine bodyPost_ret (v := .tuple #[.agg #[.int .i64 0, .int .i64 0, .int .i64 0, .slice none 0 0, .int .i64 0, .int .i64 0, .int .i64 0, .int .i64 0, .slice none 0 0], .int .i64 e]) ?_ rfl ⟨?_, Or.inr ⟨by rw [HE.out]; exact H0.out, by rw [HE.out]⟩⟩
    · simp [results, Tryz.results6, go_sem, r0, r1, r2, r3, r4, r5, r6, r7, r8]
    · iterate 9 refine grown_setNew ?_ (by omega)
      exact HG1.out

end Go.Proofs.YtklenjmfalljgaaGreatDoor

/- The reference's Check: pure, and its walk. -/
namespace Go.Proofs.YtklenjmfalljgaaGreatDoor
open Go.RowKit
attribute [local go_sem] Go.World.cell?_alloc_some

def shapeR (op : Int) : Int × Int × Int :=
  if op = 1 then (4, 0, 1) else if 2 ≤ op ∧ op ≤ 7 then (4, 4, 0) else if op = 8 then (4, 0, 2) else if op = 9 ∨ op = 10 then (3, 0, 0) else if op = 11 then (4, 0, 0) else (-1, 0, 0)
def belowR (v n : Int) : Bool := v == 0 || (decide (0 < v) && decide (v < n))
def placeR (c v n : Int) : Bool := c == 1 || v == 0 || (c == 2 && decide (0 < v) && decide (v ≤ n))
def insR (i : Ins) (n : Int) : Bool := !decide ((shapeR i.op).1 < 0) && belowR i.a (shapeR i.op).1 && belowR i.b (shapeR i.op).2.1 && placeR (shapeR i.op).2.2 i.n n

theorem belowR_four (v : Int) : belowR v 4 = belowB v 4 := by
  unfold belowR belowB; rw [Bool.eq_iff_iff]; simp; omega
theorem belowR_three (v : Int) : belowR v 3 = belowB v 3 := by
  unfold belowR belowB; rw [Bool.eq_iff_iff]; simp; omega
theorem belowR_zero (v : Int) : belowR v 0 = (v == 0) := by
  unfold belowR; rw [Bool.eq_iff_iff]; simp; omega
theorem placeR_two (v n : Int) (hn : 0 ≤ n) : placeR 2 v n = belowB v (n + 1) := by
  unfold placeR belowB; rw [Bool.eq_iff_iff]; simp; omega
theorem insR_eq (i : Ins) (n : Int) (hn : 0 ≤ n) : insR i n = vIns i n := by
  obtain ⟨op, a, b, m⟩ := i
  by_cases h : 1 ≤ op ∧ op ≤ 11
  · have hc : op = 1 ∨ op = 2 ∨ op = 3 ∨ op = 4 ∨ op = 5 ∨ op = 6 ∨ op = 7 ∨ op = 8 ∨ op = 9 ∨ op = 10 ∨ op = 11 := by omega
    have z0 : placeR 0 m n = (m == 0) := by unfold placeR; simp
    have z1 : placeR 1 m n = true := by unfold placeR; simp
    have z2 := placeR_two m n hn
    rcases hc with rfl | rfl | rfl | rfl | rfl | rfl | rfl | rfl | rfl | rfl | rfl <;> simp [insR, vIns, shapeR, shp, fitsB, belowR_four, belowR_three, belowR_zero, z0, z1, z2, Bool.and_assoc]
  · have hs : shapeR op = (-1, 0, 0) := by
      unfold shapeR
      rw [if_neg (by omega), if_neg (by omega), if_neg (by omega), if_neg (by omega), if_neg (by omega)]
    have hv : vIns ⟨op, a, b, m⟩ n = false := by
      simp only [vIns]
      by_cases h1 : 1 ≤ op
      · have : ¬ op ≤ 11 := by omega
        simp [this]
      · simp [h1]
    rw [hv]
    simp [insR, hs]

set_option maxHeartbeats 400000 in
theorem rbelow_m (v n : Int) (w : World) : Calls Tryz.prog 56 #[.int .i64 v, .int .i64 n] w fun e w' => e = .returned (.bool (belowR v n)) ∧ w' = w := by
  by_cases h0 : v = 0
  · have HB : Hid (belowR v n = true) := by unfold Hid belowR; simp [h0]
    subst h0
    go_enter Tryz.func56, Tryz.ntmps56
    go_wp2_with fail
    go_ret
    exact ⟨by rw [HB.out]; rfl, rfl⟩
  · have h0' : (v == 0) = false := by simpa using h0
    by_cases h1 : 0 < v
    · by_cases h2 : v < n
      · have HB : Hid (belowR v n = true) := by unfold Hid belowR; simp [h1, h2]
        go_enter Tryz.func56, Tryz.ntmps56
        go_wp2_with fail
        go_ret
        exact ⟨by rw [HB.out]; rfl, rfl⟩
      · have HB : Hid (belowR v n = false) := by unfold Hid belowR; simp [h0, h2]
        have h3 : n ≤ v := by omega
        go_enter Tryz.func56, Tryz.ntmps56
        go_wp2_with fail
        go_ret
        exact ⟨by rw [HB.out]; rfl, rfl⟩
    · have HB : Hid (belowR v n = false) := by unfold Hid belowR; simp [h0, h1]
      have h3 : v ≤ 0 := by omega
      go_enter Tryz.func56, Tryz.ntmps56
      go_wp2_with fail
      go_ret
      exact ⟨by rw [HB.out]; rfl, rfl⟩

def shapeV (x : Int × Int × Int) : Value := .tuple #[.int .i64 x.1, .int .i64 x.2.1, .int .i64 x.2.2]
set_option maxHeartbeats 1000000 in
theorem shape_m (op : Int) (w : World) : Calls Tryz.prog 55 #[.int .i64 op] w fun e w' => e = .returned (shapeV (shapeR op)) ∧ w' = w := by
  by_cases h : 1 ≤ op ∧ op ≤ 11
  · have hc : op = 1 ∨ op = 2 ∨ op = 3 ∨ op = 4 ∨ op = 5 ∨ op = 6 ∨ op = 7 ∨ op = 8 ∨ op = 9 ∨ op = 10 ∨ op = 11 := by omega
    rcases hc with rfl | rfl | rfl | rfl | rfl | rfl | rfl | rfl | rfl | rfl | rfl
    all_goals
      go_enter Tryz.func55, Tryz.ntmps55
      go_wp2_with fail
      refine bodyPost_ret (v := shapeV (shapeR _)) (by simp [results, Tryz.results55, go_sem, shapeV, shapeR]) rfl ⟨rfl, rfl⟩
  · have hs : shapeR op = (-1, 0, 0) := by
      unfold shapeR
      rw [if_neg (by omega), if_neg (by omega), if_neg (by omega), if_neg (by omega), if_neg (by omega)]
    have n1 : (op == 1) = false := by simp; omega
    have n2 : (op == 2) = false := by simp; omega
    have n3 : (op == 3) = false := by simp; omega
    have n4 : (op == 4) = false := by simp; omega
    have n5 : (op == 5) = false := by simp; omega
    have n6 : (op == 6) = false := by simp; omega
    have n7 : (op == 7) = false := by simp; omega
    have n8 : (op == 8) = false := by simp; omega
    have n9 : (op == 9) = false := by simp; omega
    have n10 : (op == 10) = false := by simp; omega
    have n11 : (op == 11) = false := by simp; omega
    rw [hs]
    clear hs h
    go_enter Tryz.func55, Tryz.ntmps55
    go_wp2_with fail
    refine bodyPost_ret (v := shapeV (-1, 0, 0)) (by simp [results, Tryz.results55, go_sem, shapeV]) rfl ⟨rfl, rfl⟩

end Go.Proofs.YtklenjmfalljgaaGreatDoor
