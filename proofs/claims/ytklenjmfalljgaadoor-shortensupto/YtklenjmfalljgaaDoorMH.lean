/- The texts Rfh Ctr Eq4 Ask Ins Prg Prg2 PureC Cut Cct. -/
import Derived.Test.YtklenjmfalljgaaDoorMG
import Derived.ChangeKeysEq
import Derived.Deep.DeepCutAuto
import Derived.Lib.AppendZeros

/- The reference's Replay. -/
namespace Go.Proofs.YtklenjmfalljgaaDoor
open Go.RowKit
attribute [local go_sem] Go.World.cell?_alloc_some

/-- The run's registers, as a row of the call's own. -/
theorem RunAt.regRow {w0 w : World} {b ab rb n : Nat} {ps st : Value} {s : St} {acc : List (Int × Int)} {k th a : Int} (h : RunAt w0 w b ab rb n ps st s acc k th a) (hn : n ≤ 4) :
    w.ownsRow w0.heap.size 34 4 (.slice (some ⟨rb, 0, none⟩) n n) n (regsF n s) :=
  ⟨regsF_len n s, Or.inr ⟨rb, n, (regsF n s).toArray, rfl, h.rb0, h.regs, Nat.le_refl _, by unfold maxLen; omega, by simp [regsF_len], by rw [← regsF_len n s]; simp⟩⟩

set_option maxHeartbeats 4000000 in
set_option maxRecDepth 100000 in
theorem refreplay_m (p : List (List Ins)) (s : List Int) (pv sv : Value) (w : World) (hP : ProgAt w pv p) (hI : IntsAt w.heap.size w sv s) (hpl : p.length ≤ 1048576) (hpc : ∀ c ∈ p, c.length ≤ 1048576) :
    Calls Tryd.prog 99 #[pv, sv] w (Replayed p s w) := by
  have HP := hide hP
  have HI := hide hI
  have HPC := hide hpc
  obtain ⟨ao, cap, rfl⟩ := hP.form
  obtain ⟨so, sc, rfl⟩ := hI.form
  clear hP hI hpc
  go_enter Tryd.func99, Tryd.ntmps99
  go_wp2_with fail
  have hg0 : ∀ a b, w.grownBy ((w.alloc a).alloc b) none := fun a b => grown_alloc (grown_alloc (grown_refl _ _))
  refine (refcheck_m p _ _ (HP.out.pres (pres_grown (hg0 _ _))) hpl HPC.out).mono ?_
  rintro e w1 ⟨rfl, hg1⟩
  have HG1 : Hid (w.grownBy w1 none) := grown_trans (hg0 _ _) hg1
  have hsz1 : w.heap.size + 2 ≤ w1.heap.size := by have := hg1.size; simpa using this
  have hb0 : w1.heap[w.heap.size]? = some (.cells #[.slice ao p.length cap] 25 (0, 0)) := by
    rw [hg1.block w.heap.size (by simp; omega) (by simp), Below.heap_alloc _ _ _ (by simp)]; exact heap_alloc_new w _
  have hb1 : w1.heap[w.heap.size + 1]? = some (.cells #[.int .i64 0, .int .i64 0, .int .i64 0, .slice none 0 0, .int .i64 0, .int .i64 0, .int .i64 0, .int .i64 0, .slice none 0 0] 37 (0, 0)) := by
    rw [hg1.block (w.heap.size + 1) (by simp) (by simp)]
    have := heap_alloc_new (w.alloc (.cells #[.slice ao p.length cap] 25)) (.cells #[.int .i64 0, .int .i64 0, .int .i64 0, .slice none 0 0, .int .i64 0, .int .i64 0, .int .i64 0, .int .i64 0, .slice none 0 0] 37)
    simpa using this
  have HB1 := hide hb1
  have c0 : w1.cell? ⟨w.heap.size, 0, none⟩ = some (.slice ao p.length cap) := by simp [World.cell?, hb0]
  clear hb0 hg1
  obtain ⟨r0, r1, r2, r3, r4, r5, r6, r7, r8, rf⟩ := nine_cells hb1
  have f0 := rf 0
  have f1 := rf 1
  have f2 := rf 2
  have f3 := rf 3
  have f4 := rf 4
  have f5 := rf 5
  have f6 := rf 6
  have f7 := rf 7
  have f8 := rf 8
  clear rf hb1
  by_cases hv : vProg p = true
  · have e0 : checkN p = 0 := by simp [checkN, hv]
    have HV := hide hv
    have hlen := vProg_len hv
    rw [e0]
    clear e0 hv
    by_cases h5 : s.length ≤ 500
    · have h5' : (s.length : Int) ≤ 500 := by omega
      have H0 : Hid (checkRunN p s = 0) := by unfold Hid checkRunN; simp [HV.out, h5]
      go_wp2_with fail
      have HPl := hide (play_m w1 ao cap p _ s HV.out (HP.out.pres (pres_grown HG1.out)) ((HI.out.pres (pres_grown HG1.out)).mono HG1.out.size) h5)
      refine (unhide HPl).mono ?_
      clear HPl r0 r1 r2 r3 r4 r5 r6 r7 r8 f0 f1 f2 f3 f4 f5 f6 f7 f8
      rintro e w2 ⟨b, ab, rb, st, rfl, hR⟩
      obtain ⟨x1, x2, x3, rfl⟩ := owns_form hR.row
      have HR := hide hR
      have HG2 : Hid (w.grownBy w2 none) := grown_trans HG1.out hR.frame
      have hrb : w2.heap[w.heap.size + 1]? = some (.cells #[.int .i64 0, .int .i64 0, .int .i64 0, .slice none 0 0, .int .i64 0, .int .i64 0, .int .i64 0, .int .i64 0, .slice none 0 0] 37 (0, 0)) := by
        rw [hR.frame.block _ (by omega) (by simp)]; exact HB1.out
      obtain ⟨c10, c11, c12, c13, _, _, _⟩ := hR.vcells
      have v0 := hR.var (l := 0) (by omega)
      have v1 := hR.var (l := 1) (by omega)
      have v2 := hR.var (l := 2) (by omega)
      have v3 := hR.var (l := 3) (by omega)
      have c2 : w2.cell? ⟨b, 2, none⟩ = some (.slice (some ⟨rb, 0, none⟩) p.length p.length) := (hR.cell 2).1
      obtain ⟨r0, r1, r2, r3, r4, r5, r6, r7, r8, rf⟩ := nine_cells hrb
      have f0 := rf 0
      have f1 := rf 1
      have f2 := rf 2
      have f3 := rf 3
      have f4 := rf 4
      have f5 := rf 5
      have f6 := rf 6
      have f7 := rf 7
      have f8 := rf 8
      have hab := hR.ab0
      have habb := hR.abb
      have hbw : b ≠ w.heap.size + 1 := by omega
      have hbw' : w.heap.size + 1 ≠ b := by omega
      clear rf hrb hR c0
      generalize hO : runS p s = o at *
      have HOe := hide hO
      clear hO
      go_wp2_with fail
      go_region
      go_wp2
      refine bodyPost_ret (v := .tuple #[.agg #[.int .i64 o.kind, .int .i64 o.thread, .int .i64 o.at_, .slice x1 x2 x3, .int .i64 (o.st.vars 0), .int .i64 (o.st.vars 1), .int .i64 (o.st.vars 2), .int .i64 (o.st.vars 3), .slice (some ⟨rb, 0, none⟩) p.length p.length], .int .i64 0]) ?_ rfl ⟨?_, Or.inl ⟨H0.out, _, rfl, ?_⟩⟩
      · simp [results, Tryd.results99, go_sem, r0, r1, r2, r3, r4, r5, r6, r7, r8]
      · refine grown_drew ?_
        iterate 9 refine grown_setNew ?_ (by omega)
        exact HG2.out
      · rw [HOe.out]
        refine ⟨_, _, rfl, ?_, ?_⟩
        · refine owns_mono (base := b + 1) ?_ (by omega)
          refine owns_grown (r := none) ?_ (grown_drew (grown_refl _ _)) (fun _ e => by cases e)
          iterate 9 refine ownsRow_setCell_below ?_ (by simp; omega) _
          exact HR.out.row
        · refine owns_mono (base := w1.heap.size) ?_ (by omega)
          refine owns_grown (r := none) ?_ (grown_drew (grown_refl _ _)) (fun _ e => by cases e)
          iterate 9 refine ownsRow_setCell_below ?_ (by simp; omega) _
          exact HR.out.regRow (by omega)
    · have h5' : (500 : Int) < s.length := by omega
      have H0 : Hid (checkRunN p s = 2) := by unfold Hid checkRunN; simp [HV.out, h5]
      go_wp2_with fail
      refine bodyPost_ret (v := .tuple #[.agg #[.int .i64 0, .int .i64 0, .int .i64 0, .slice none 0 0, .int .i64 0, .int .i64 0, .int .i64 0, .int .i64 0, .slice none 0 0], .int .i64 2]) ?_ rfl ⟨?_, Or.inr ⟨by rw [H0.out]; decide, by rw [H0.out]⟩⟩
      · simp [results, Tryd.results99, go_sem, r0, r1, r2, r3, r4, r5, r6, r7, r8]
      · iterate 9 refine grown_setNew ?_ (by omega)
        exact HG1.out
  · have e0 : checkN p = 1 := by simp [checkN, hv]
    have H0 : Hid (checkRunN p s = 1) := by unfold Hid checkRunN; simp [hv]
    rw [e0]
    clear e0 hv
    go_wp2_with fail
    refine bodyPost_ret (v := .tuple #[.agg #[.int .i64 0, .int .i64 0, .int .i64 0, .slice none 0 0, .int .i64 0, .int .i64 0, .int .i64 0, .int .i64 0, .slice none 0 0], .int .i64 1]) ?_ rfl ⟨?_, Or.inr ⟨by rw [H0.out]; decide, by rw [H0.out]⟩⟩
    · simp [results, Tryd.results99, go_sem, r0, r1, r2, r3, r4, r5, r6, r7, r8]
    · iterate 9 refine grown_setNew ?_ (by omega)
      exact HG1.out

end Go.Proofs.YtklenjmfalljgaaDoor

/- The laws' counter: the document's program P, made. -/
namespace Go.Proofs.YtklenjmfalljgaaDoor
open Go.RowKit
attribute [local go_sem] Go.World.cell?_alloc_some

def ctrC : List Ins := [⟨2, 0, 0, 0⟩, ⟨1, 1, 0, 1⟩, ⟨4, 0, 1, 0⟩, ⟨3, 0, 0, 0⟩]
def ctrP : List (List Ins) := [ctrC, ctrC]
def ctrV : Array Value := #[.int .i64 2, .int .i64 0, .int .i64 0, .int .i64 0, .int .i64 1, .int .i64 1, .int .i64 0, .int .i64 1, .int .i64 4, .int .i64 0, .int .i64 1, .int .i64 0, .int .i64 3, .int .i64 0, .int .i64 0, .int .i64 0]

theorem ctr_code {w : World} {g : Nat} {ty : TypeId} (h : w.heap[g]? = some (.cells ctrV ty (0, 0))) : CodeAt w (.slice (some ⟨g, 0, none⟩) 4 4) ctrC := by
  refine ⟨some ⟨g, 0, none⟩, 4, rfl, fun k hk => ⟨g, 0, rfl, ?_⟩⟩
  have hk4 : k = 0 ∨ k = 1 ∨ k = 2 ∨ k = 3 := by simp [ctrC] at hk; omega
  simp only [World.cell?, h]
  rcases hk4 with rfl | rfl | rfl | rfl <;> exact ⟨rfl, rfl, rfl, rfl⟩

theorem ctr_prog {w : World} {g g2 : Nat} {ty ty2 : TypeId} (h : w.heap[g]? = some (.cells ctrV ty (0, 0))) (h2 : w.heap[g2]? = some (.cells #[.slice (some ⟨g, 0, none⟩) 4 4, .slice (some ⟨g, 0, none⟩) 4 4] ty2 (0, 0))) :
    ProgAt w (.agg #[.slice (some ⟨g2, 0, none⟩) 2 2]) ctrP := by
  refine ⟨some ⟨g2, 0, none⟩, 2, rfl, fun t ht => ⟨g2, 0, rfl, .slice (some ⟨g, 0, none⟩) 4 4, ?_, ?_⟩⟩
  · have ht2 : t = 0 ∨ t = 1 := by simp [ctrP] at ht; omega
    simp only [World.cell?, h2]
    rcases ht2 with rfl | rfl <;> rfl
  · have ht2 : t = 0 ∨ t = 1 := by simp [ctrP] at ht; omega
    rcases ht2 with rfl | rfl <;> exact ctr_code h

set_option maxHeartbeats 1000000 in
theorem counter_m (w : World) : Calls Tryd.prog 17 #[] w fun e w' => ∃ pv, e = .returned pv ∧ ProgAt w' pv ctrP ∧ w.grownBy w' none := by
  go_enter Tryd.func17, Tryd.ntmps17
  go_wp2_with fail
  refine bodyPost_ret (v := .agg #[.slice (some ⟨w.heap.size + 1 + 1, 0, none⟩) 2 2]) ?_ rfl ⟨_, rfl, ctr_prog (g := w.heap.size + 1) (ty := 28) (ty2 := 29) ?_ ?_, grown_alloc (grown_alloc (grown_alloc (grown_refl _ _)))⟩
  · simp [results, Tryd.results17, go_sem]
  · rw [Below.heap_alloc _ _ _ (by simp)]
    have := heap_alloc_new (w.alloc (.cells #[.slice (some ⟨w.heap.size + 1 + 1, 0, none⟩) 2 2] 25)) (.cells ctrV 28)
    simp only [World.size_alloc] at this
    exact this
  · have := heap_alloc_new ((w.alloc (.cells #[.slice (some ⟨w.heap.size + 1 + 1, 0, none⟩) 2 2] 25)).alloc (.cells ctrV 28)) (.cells #[.slice (some ⟨w.heap.size + 1, 0, none⟩) 4 4, .slice (some ⟨w.heap.size + 1, 0, none⟩) 4 4] 29)
    simp only [World.size_alloc] at this
    exact this

end Go.Proofs.YtklenjmfalljgaaDoor

/- Equality of two equal arrays of four ints. -/
namespace Go.Proofs.YtklenjmfalljgaaDoor
open Go.RowKit

theorem run_eq4 (a b c d : Int) (w : World) : (Op.equalIn 10000 34 (.agg #[.int .i64 a, .int .i64 b, .int .i64 c, .int .i64 d]) (.agg #[.int .i64 a, .int .i64 b, .int .i64 c, .int .i64 d])).run Tryd.prog w = .ok true w := by
  obtain ⟨i0, hi0, hz0, hz1, hz2⟩ := info_parts info_int
  have hc : Tryd.prog.cellsOf 3 = 1 := by simp [Program.cellsOf, hi0, hz1]
  have hk : Tryd.prog.plainKey 3 = true := by simp [Program.plainKey, Tryd.underlying3]
  rw [show (10000 : Nat) = 9999 + 1 from rfl, run_equalIn_array w 9999 _ _ (n := 4) (e := 3) (by first | exact Tryd.underlying34 | kernel_rfl) hi0, hc]
  have he : ∀ (d : Nat) (v : Int), (Op.equalIn (d + 1) 3 (.int .i64 v) (.int .i64 v)).run Tryd.prog w = .ok true w := fun d v => by
    rw [run_equalIn_int w d _ _ .i64 v v Tryd.underlying3]; simp
  have hq := he 9998
  simp only [Nat.reduceAdd] at hq
  have p0 := run_part_plain w hk (xs := #[.int .i64 a, .int .i64 b, .int .i64 c, .int .i64 d]) (off := 0) rfl
  have p1 := run_part_plain w hk (xs := #[.int .i64 a, .int .i64 b, .int .i64 c, .int .i64 d]) (off := 1) rfl
  have p2 := run_part_plain w hk (xs := #[.int .i64 a, .int .i64 b, .int .i64 c, .int .i64 d]) (off := 2) rfl
  have p3 := run_part_plain w hk (xs := #[.int .i64 a, .int .i64 b, .int .i64 c, .int .i64 d]) (off := 3) rfl
  simp [List.range, List.range.loop, Op.eqItems, Sem.run_bind, p0, p1, p2, p3, hq, Result.andThen_ok]

end Go.Proofs.YtklenjmfalljgaaDoor

/- The laws' asked, of Replay. -/
namespace Go.Proofs.YtklenjmfalljgaaDoor
open Go.RowKit
attribute [local go_sem] Go.World.cell?_alloc_some run_eq4

theorem num_mR (n : Int) (w : World) : Calls Tryd.prog 47 #[.int .i64 n] w fun e w' => e = .returned (.int .i64 n) ∧ w' = w := by
  go_enter Tryd.func47, Tryd.ntmps47
  go_wp2_with fail
  go_ret
  exact ⟨rfl, rfl⟩

/-- What Replay answers, under one name: an answer, its verdict, its variables, its lists. -/
def ResV (p : List (List Ins)) (s : List Int) (B : Nat) (w : World) (rv : Value) (c : Int) : Prop :=
  ∃ k t a v0 v1 v2 v3 x1 x3 y1 y3 m q, rv = .agg #[.int .i64 k, .int .i64 t, .int .i64 a, .slice x1 m x3, .int .i64 v0, .int .i64 v1, .int .i64 v2, .int .i64 v3, .slice y1 q y3] ∧ c = checkRunN p s ∧
    ((c = 0 ∧ k = (runS p s).kind ∧ t = (runS p s).thread ∧ a = (runS p s).at_ ∧ v0 = (runS p s).st.vars 0 ∧ v1 = (runS p s).st.vars 1 ∧ v2 = (runS p s).st.vars 2 ∧ v3 = (runS p s).st.vars 3 ∧ m = (runS p s).steps.length ∧ q = p.length ∧
      w.ownsRow B 48 2 (.slice x1 m x3) (runS p s).steps.length (flatS (runS p s).steps) ∧ w.ownsRow B 34 4 (.slice y1 q y3) p.length (regsF p.length (runS p s).st)) ∨
     (c ≠ 0 ∧ k = 0 ∧ t = 0 ∧ a = 0 ∧ v0 = 0 ∧ v1 = 0 ∧ v2 = 0 ∧ v3 = 0 ∧ m = 0 ∧ q = 0 ∧ x1 = none ∧ x3 = 0 ∧ y1 = none ∧ y3 = 0))

theorem owns_lenR {w : World} {base : Nat} {e : TypeId} {size : Nat} {ao : Option Addr} {m c n : Nat} {xs : List Value} (h : w.ownsRow base e size (.slice ao m c) n xs) : m = n := by
  rcases h.2 with ⟨e1, e2⟩ | ⟨g', cap', cur, hv, _⟩
  · simp only [Value.slice.injEq] at e1
    rw [e1.2.1]; first | exact e2.symm | omega
  · simp only [Value.slice.injEq] at hv; exact hv.2.1

theorem Replayed.form {p : List (List Ins)} {s : List Int} {w w' : World} {e : Ending} (h : Replayed p s w e w') : w.grownBy w' none ∧ ∃ rv c, e = .returned (.tuple #[rv, .int .i64 c]) ∧ ResV p s w.heap.size w' rv c := by
  obtain ⟨hg, h⟩ := h
  refine ⟨hg, ?_⟩
  rcases h with ⟨h0, rv, rfl, sv, gv, rfl, h1, h2⟩ | ⟨h0, rfl⟩
  · obtain ⟨x1, m, x3, rfl⟩ := owns_form h1
    obtain ⟨y1, q, y3, rfl⟩ := owns_form h2
    exact ⟨_, _, rfl, _, _, _, _, _, _, _, _, _, _, _, _, _, rfl, h0.symm, Or.inl ⟨rfl, rfl, rfl, rfl, rfl, rfl, rfl, rfl, owns_lenR h1, owns_lenR h2, h1, h2⟩⟩
  · exact ⟨_, _, rfl, _, _, _, _, _, _, _, _, _, _, _, _, _, rfl, rfl, Or.inr ⟨h0, rfl, rfl, rfl, rfl, rfl, rfl, rfl, rfl, rfl, rfl, rfl, rfl, rfl⟩⟩

/-- Two answers to one question are one, but for where their lists lie. -/
theorem ResV.same {p : List (List Ins)} {s : List Int} {B B' : Nat} {w w' : World} {rv rv' : Value} {c c' : Int} (h : ResV p s B w rv c) (h' : ResV p s B' w' rv' c') :
    c = c' ∧ ∃ k t a v0 v1 v2 v3 x1 x3 y1 y3 m q x1' x3' y1' y3', rv = .agg #[.int .i64 k, .int .i64 t, .int .i64 a, .slice x1 m x3, .int .i64 v0, .int .i64 v1, .int .i64 v2, .int .i64 v3, .slice y1 q y3] ∧
      rv' = .agg #[.int .i64 k, .int .i64 t, .int .i64 a, .slice x1' m x3', .int .i64 v0, .int .i64 v1, .int .i64 v2, .int .i64 v3, .slice y1' q y3'] := by
  obtain ⟨k, t, a, v0, v1, v2, v3, x1, x3, y1, y3, m, q, rfl, hc, h⟩ := h
  obtain ⟨k', t', a', v0', v1', v2', v3', x1', x3', y1', y3', m', q', rfl, hc', h'⟩ := h'
  refine ⟨hc.trans hc'.symm, ?_⟩
  rcases h with ⟨h0, rfl, rfl, rfl, rfl, rfl, rfl, rfl, rfl, rfl, _⟩ | ⟨h0, rfl, rfl, rfl, rfl, rfl, rfl, rfl, rfl, rfl, _⟩
  · rcases h' with ⟨h0', rfl, rfl, rfl, rfl, rfl, rfl, rfl, rfl, rfl, _⟩ | ⟨h0', _⟩
    · exact ⟨_, _, _, _, _, _, _, _, _, _, _, _, _, _, _, _, _, rfl, rfl⟩
    · exact absurd (hc'.trans (hc.symm.trans h0)) h0'
  · rcases h' with ⟨h0', _⟩ | ⟨h0', rfl, rfl, rfl, rfl, rfl, rfl, rfl, rfl, rfl, _⟩
    · exact absurd (hc.trans (hc'.symm.trans h0')) h0
    · exact ⟨_, _, _, _, _, _, _, _, _, _, _, _, _, _, _, _, _, rfl, rfl⟩

set_option maxHeartbeats 4000000 in
set_option maxRecDepth 100000 in
theorem asked_m (p : List (List Ins)) (s : List Int) (xv lv pv sv : Value) (w : World) (hS : ShpAt w) (hX : ProgAt w xv p) (hL : IntsAt w.heap.size w lv s) (hP : ProgAt w pv p) (hI : IntsAt w.heap.size w sv s) (hpl : p.length ≤ 1048576) (hpc : ∀ c ∈ p, c.length ≤ 1048576) :
    Calls Tryd.prog 67 #[.int .i64 0, xv, lv, pv, sv] w fun e w' => e = .returned (.bool true) ∧ w.grownBy w' none := by
  have HS := hide hS
  have HX := hide hX
  have HL := hide hL
  have HP := hide hP
  have HI := hide hI
  have HPC := hide hpc
  obtain ⟨ao, cap, rfl⟩ := hX.form
  obtain ⟨ao2, cap2, rfl⟩ := hP.form
  obtain ⟨so, sc, rfl⟩ := hL.form
  obtain ⟨so2, sc2, rfl⟩ := hI.form
  clear hS hX hL hP hI hpc
  go_enter Tryd.func67, Tryd.ntmps67
  go_wp2_with fail
  have hg0 : w.grownBy ((w.alloc (.cells #[.slice ao p.length cap] 25)).alloc (.cells #[.slice ao2 p.length cap2] 25)) none := grown_alloc (grown_alloc (grown_refl _ _))
  have hb8 : ((w.alloc (.cells #[.slice ao p.length cap] 25)).alloc (.cells #[.slice ao2 p.length cap2] 25)).cell? ⟨w.heap.size + 1, 0, none⟩ = some (.slice ao2 p.length cap2) := by
    have := heap_alloc_new (w.alloc (.cells #[.slice ao p.length cap] 25)) (.cells #[.slice ao2 p.length cap2] 25)
    simp only [World.size_alloc] at this
    simp only [World.cell?, this]
    rfl
  generalize (w.alloc (.cells #[.slice ao p.length cap] 25)).alloc (.cells #[.slice ao2 p.length cap2] 25) = w1 at hg0 hb8 ⊢
  have HG1 := hide hg0
  clear hg0
  refine (replay_m p s _ _ w1 (HS.out.pres (pres_grown HG1.out)) (HX.out.pres (pres_grown HG1.out)) ((HL.out.pres (pres_grown HG1.out)).mono HG1.out.size)).mono ?_
  intro e w2 hR
  obtain ⟨hg2, rv, c, he, hV⟩ := hR.form
  clear hR
  subst he
  have HR := hide hV
  have HG2 := hide (grown_trans HG1.out hg2)
  replace hb8 := pres_grown hg2 _ _ hb8
  obtain ⟨k, t, a, v0, v1, v2, v3, x1, x3, y1, y3, m, q, hrv, hx⟩ := hV
  clear hx
  subst hrv
  clear hg2
  go_wp2_with fail
  have hg3 : w2.grownBy (w2.alloc (.cells #[.int .i64 k, .int .i64 t, .int .i64 a, .slice x1 m x3, .int .i64 v0, .int .i64 v1, .int .i64 v2, .int .i64 v3, .slice y1 q y3] 37)) none := grown_alloc (grown_refl _ _)
  have hb3 := heap_alloc_new w2 (.cells #[.int .i64 k, .int .i64 t, .int .i64 a, .slice x1 m x3, .int .i64 v0, .int .i64 v1, .int .i64 v2, .int .i64 v3, .slice y1 q y3] 37)
  generalize w2.alloc (.cells #[.int .i64 k, .int .i64 t, .int .i64 a, .slice x1 m x3, .int .i64 v0, .int .i64 v1, .int .i64 v2, .int .i64 v3, .slice y1 q y3] 37) = w3 at hg3 hb3 ⊢
  have HG3 := hide (grown_trans HG2.out hg3)
  have HB3 := hide hb3
  have hz2 : w2.heap.size < w3.heap.size := (Array.getElem?_eq_some_iff.1 hb3).1
  clear hg3 hb3 hb8
  refine (refreplay_m p s _ _ w3 (HP.out.pres (pres_grown HG3.out)) ((HI.out.pres (pres_grown HG3.out)).mono HG3.out.size) hpl HPC.out).mono ?_
  intro e w4 hR
  obtain ⟨hg4, rv, c', he, hV⟩ := hR.form
  clear hR
  subst he
  obtain ⟨hcc, k2, t2, a2, u0, u1, u2, u3, z1, z3, z4, z5, m2, q2, z6, z7, z8, z9, e1, e2⟩ := HR.out.same hV
  clear hV
  simp only [Value.agg.injEq, Array.mk.injEq, List.cons.injEq, Value.int.injEq, Value.slice.injEq, true_and, and_true] at e1
  obtain ⟨rfl, rfl, rfl, ⟨rfl, rfl, rfl⟩, rfl, rfl, rfl, rfl, rfl, rfl, rfl⟩ := e1
  subst e2 hcc
  have HG4 := hide (grown_trans HG3.out hg4)
  have hb4 : w4.heap[w2.heap.size]? = some (.cells #[.int .i64 k, .int .i64 t, .int .i64 a, .slice x1 m x3, .int .i64 v0, .int .i64 v1, .int .i64 v2, .int .i64 v3, .slice y1 q y3] 37 (0, 0)) := by
    rw [hg4.block _ hz2 (by simp)]; exact HB3.out
  have hz4 : w2.heap.size < w4.heap.size := (Array.getElem?_eq_some_iff.1 hb4).1
  obtain ⟨r0, r1, r2, r3, r4, r5, r6, r7, r8, _⟩ := nine_cells hb4
  clear hb4 hg4 HR HB3
  have hne : w2.heap.size ≠ w4.heap.size := by omega
  go_wp2_with (go_at_call 47; refine (num_mR _ _).mono ?_; rintro e w5 ⟨rfl, hw5⟩; have hw5 := hw5.symm; subst hw5)
  go_ret
  exact ⟨rfl, grown_alloc HG4.out⟩

end Go.Proofs.YtklenjmfalljgaaDoor

/- The walks of instruction and program. -/
namespace Go.Proofs.YtklenjmfalljgaaDoor
open Go.RowKit
attribute [local go_sem] Go.World.cell?_alloc_some

def insM (n many : Int) : Ins :=
  if n % 11 = 0 then ⟨1, n / 11 % 3, 0, n / 132 % 5 - 1⟩
  else if n % 11 = 7 then ⟨8, n / 11 % 3, 0, n / 132 % (many + 1)⟩
  else if n % 11 = 8 then ⟨9, n / 11 % 3, 0, 0⟩
  else if n % 11 = 9 then ⟨10, n / 11 % 3, 0, 0⟩
  else if n % 11 = 10 then (if 0 < n / 33 % 4 then ⟨2, n / 11 % 3, n / 33 % 4, 0⟩ else ⟨11, n / 11 % 3, 0, 0⟩)
  else ⟨1 + n % 11, n / 11 % 3, n / 33 % 4, 0⟩

def insN (c many : Int) : Ins := insM (pickN c 1099511627776) many

theorem insM_valid (n many : Int) (_hn : 0 ≤ n) (hm : 0 ≤ many) : vIns (insM n many) many = true := by
  have a1 : 0 ≤ n / 11 % 3 ∧ n / 11 % 3 < 3 := by omega
  have b1 : 0 ≤ n / 33 % 4 ∧ n / 33 % 4 < 4 := by omega
  have e1 : 0 ≤ n % 11 ∧ n % 11 < 11 := by omega
  have j1 : 0 ≤ n / 132 % (many + 1) ∧ n / 132 % (many + 1) < many + 1 := ⟨Int.emod_nonneg _ (by omega), Int.emod_lt_of_pos _ (by omega)⟩
  have hc : n % 11 = 0 ∨ n % 11 = 1 ∨ n % 11 = 2 ∨ n % 11 = 3 ∨ n % 11 = 4 ∨ n % 11 = 5 ∨ n % 11 = 6 ∨ n % 11 = 7 ∨ n % 11 = 8 ∨ n % 11 = 9 ∨ n % 11 = 10 := by omega
  rcases hc with e | e | e | e | e | e | e | e | e | e | e
  all_goals
    unfold insM
    simp only [e]
    generalize n / 11 % 3 = A at *
    generalize n / 33 % 4 = B at *
    generalize n / 132 % (many + 1) = J at *
    simp [vIns, shp, fitsB, belowB]
  all_goals first | omega | (split <;> simp <;> omega)

set_option maxHeartbeats 2000000 in
set_option maxRecDepth 100000 in
theorem instruction_core (c many n : Int) (hpk : ∀ w, Calls Tryd.prog 12 #[.int .i64 c, .int .i64 1099511627776] w fun e w' => e = .returned (.int .i64 n) ∧ w' = w) (hn0 : 0 ≤ n) (hn1 : n < 1099511627776) (h0 : 0 ≤ many) (h16 : many ≤ 16) (w : World) :
    Calls Tryd.prog 37 #[.int .i64 c, .int .i64 many] w fun e w' => e = .returned (.agg #[.int .i64 (insM n many).op, .int .i64 (insM n many).a, .int .i64 (insM n many).b, .int .i64 (insM n many).n]) ∧ w.grownBy w' none := by
  have HPK := hide hpk
  clear hpk
  have hcc : n % 11 = 0 ∨ n % 11 = 1 ∨ n % 11 = 2 ∨ n % 11 = 3 ∨ n % 11 = 4 ∨ n % 11 = 5 ∨ n % 11 = 6 ∨ n % 11 = 7 ∨ n % 11 = 8 ∨ n % 11 = 9 ∨ n % 11 = 10 := by omega
  have HJ : Hid (0 ≤ n / 132 % (many + 1)) := Int.emod_nonneg _ (by omega)
  rcases hcc with e | e | e | e | e | e | e | e | e | e | e
  · have HE : Hid (insM n many = ⟨1, n / 11 % 3, 0, n / 132 % 5 - 1⟩) := by unfold Hid insM; simp [e]
    rw [HE.out]
    clear HE
    go_enter Tryd.func37, Tryd.ntmps37
    go_wp2_with fail
    refine (HPK.out _).mono ?_
    rintro e' w1 ⟨rfl, rfl⟩
    go_wp2_with fail
    refine bodyPost_ret (v := .agg #[.int .i64 (1), .int .i64 (n / 11 % 3), .int .i64 (0), .int .i64 (n / 132 % 5 - 1)]) ?_ rfl ⟨rfl, ?_⟩
    · simp [results, Tryd.results37, go_sem]
    · repeat (first | exact grown_refl _ _ | refine grown_alloc ?_ | refine grown_setNew ?_ (by simp; omega))
  · have HE : Hid (insM n many = ⟨2, n / 11 % 3, n / 33 % 4, 0⟩) := by unfold Hid insM; simp [e]
    rw [HE.out]
    clear HE
    go_enter Tryd.func37, Tryd.ntmps37
    go_wp2_with fail
    refine (HPK.out _).mono ?_
    rintro e' w1 ⟨rfl, rfl⟩
    go_wp2_with fail
    refine bodyPost_ret (v := .agg #[.int .i64 (2), .int .i64 (n / 11 % 3), .int .i64 (n / 33 % 4), .int .i64 (0)]) ?_ rfl ⟨rfl, ?_⟩
    · simp [results, Tryd.results37, go_sem]
    · repeat (first | exact grown_refl _ _ | refine grown_alloc ?_ | refine grown_setNew ?_ (by simp; omega))
  · have HE : Hid (insM n many = ⟨3, n / 11 % 3, n / 33 % 4, 0⟩) := by unfold Hid insM; simp [e]
    rw [HE.out]
    clear HE
    go_enter Tryd.func37, Tryd.ntmps37
    go_wp2_with fail
    refine (HPK.out _).mono ?_
    rintro e' w1 ⟨rfl, rfl⟩
    go_wp2_with fail
    refine bodyPost_ret (v := .agg #[.int .i64 (3), .int .i64 (n / 11 % 3), .int .i64 (n / 33 % 4), .int .i64 (0)]) ?_ rfl ⟨rfl, ?_⟩
    · simp [results, Tryd.results37, go_sem]
    · repeat (first | exact grown_refl _ _ | refine grown_alloc ?_ | refine grown_setNew ?_ (by simp; omega))
  · have HE : Hid (insM n many = ⟨4, n / 11 % 3, n / 33 % 4, 0⟩) := by unfold Hid insM; simp [e]
    rw [HE.out]
    clear HE
    go_enter Tryd.func37, Tryd.ntmps37
    go_wp2_with fail
    refine (HPK.out _).mono ?_
    rintro e' w1 ⟨rfl, rfl⟩
    go_wp2_with fail
    refine bodyPost_ret (v := .agg #[.int .i64 (4), .int .i64 (n / 11 % 3), .int .i64 (n / 33 % 4), .int .i64 (0)]) ?_ rfl ⟨rfl, ?_⟩
    · simp [results, Tryd.results37, go_sem]
    · repeat (first | exact grown_refl _ _ | refine grown_alloc ?_ | refine grown_setNew ?_ (by simp; omega))
  · have HE : Hid (insM n many = ⟨5, n / 11 % 3, n / 33 % 4, 0⟩) := by unfold Hid insM; simp [e]
    rw [HE.out]
    clear HE
    go_enter Tryd.func37, Tryd.ntmps37
    go_wp2_with fail
    refine (HPK.out _).mono ?_
    rintro e' w1 ⟨rfl, rfl⟩
    go_wp2_with fail
    refine bodyPost_ret (v := .agg #[.int .i64 (5), .int .i64 (n / 11 % 3), .int .i64 (n / 33 % 4), .int .i64 (0)]) ?_ rfl ⟨rfl, ?_⟩
    · simp [results, Tryd.results37, go_sem]
    · repeat (first | exact grown_refl _ _ | refine grown_alloc ?_ | refine grown_setNew ?_ (by simp; omega))
  · have HE : Hid (insM n many = ⟨6, n / 11 % 3, n / 33 % 4, 0⟩) := by unfold Hid insM; simp [e]
    rw [HE.out]
    clear HE
    go_enter Tryd.func37, Tryd.ntmps37
    go_wp2_with fail
    refine (HPK.out _).mono ?_
    rintro e' w1 ⟨rfl, rfl⟩
    go_wp2_with fail
    refine bodyPost_ret (v := .agg #[.int .i64 (6), .int .i64 (n / 11 % 3), .int .i64 (n / 33 % 4), .int .i64 (0)]) ?_ rfl ⟨rfl, ?_⟩
    · simp [results, Tryd.results37, go_sem]
    · repeat (first | exact grown_refl _ _ | refine grown_alloc ?_ | refine grown_setNew ?_ (by simp; omega))
  · have HE : Hid (insM n many = ⟨7, n / 11 % 3, n / 33 % 4, 0⟩) := by unfold Hid insM; simp [e]
    rw [HE.out]
    clear HE
    go_enter Tryd.func37, Tryd.ntmps37
    go_wp2_with fail
    refine (HPK.out _).mono ?_
    rintro e' w1 ⟨rfl, rfl⟩
    go_wp2_with fail
    refine bodyPost_ret (v := .agg #[.int .i64 (7), .int .i64 (n / 11 % 3), .int .i64 (n / 33 % 4), .int .i64 (0)]) ?_ rfl ⟨rfl, ?_⟩
    · simp [results, Tryd.results37, go_sem]
    · repeat (first | exact grown_refl _ _ | refine grown_alloc ?_ | refine grown_setNew ?_ (by simp; omega))
  · have HE : Hid (insM n many = ⟨8, n / 11 % 3, 0, n / 132 % (many + 1)⟩) := by unfold Hid insM; simp [e]
    rw [HE.out]
    clear HE
    go_enter Tryd.func37, Tryd.ntmps37
    go_wp2_with fail
    refine (HPK.out _).mono ?_
    rintro e' w1 ⟨rfl, rfl⟩
    go_wp2_with fail
    refine bodyPost_ret (v := .agg #[.int .i64 (8), .int .i64 (n / 11 % 3), .int .i64 (0), .int .i64 (n / 132 % (many + 1))]) ?_ rfl ⟨rfl, ?_⟩
    · simp [results, Tryd.results37, go_sem]
    · repeat (first | exact grown_refl _ _ | refine grown_alloc ?_ | refine grown_setNew ?_ (by simp; omega))
  · have HE : Hid (insM n many = ⟨9, n / 11 % 3, 0, 0⟩) := by unfold Hid insM; simp [e]
    rw [HE.out]
    clear HE
    go_enter Tryd.func37, Tryd.ntmps37
    go_wp2_with fail
    refine (HPK.out _).mono ?_
    rintro e' w1 ⟨rfl, rfl⟩
    go_wp2_with fail
    refine bodyPost_ret (v := .agg #[.int .i64 (9), .int .i64 (n / 11 % 3), .int .i64 (0), .int .i64 (0)]) ?_ rfl ⟨rfl, ?_⟩
    · simp [results, Tryd.results37, go_sem]
    · repeat (first | exact grown_refl _ _ | refine grown_alloc ?_ | refine grown_setNew ?_ (by simp; omega))
  · have HE : Hid (insM n many = ⟨10, n / 11 % 3, 0, 0⟩) := by unfold Hid insM; simp [e]
    rw [HE.out]
    clear HE
    go_enter Tryd.func37, Tryd.ntmps37
    go_wp2_with fail
    refine (HPK.out _).mono ?_
    rintro e' w1 ⟨rfl, rfl⟩
    go_wp2_with fail
    refine bodyPost_ret (v := .agg #[.int .i64 (10), .int .i64 (n / 11 % 3), .int .i64 (0), .int .i64 (0)]) ?_ rfl ⟨rfl, ?_⟩
    · simp [results, Tryd.results37, go_sem]
    · repeat (first | exact grown_refl _ _ | refine grown_alloc ?_ | refine grown_setNew ?_ (by simp; omega))
  · by_cases hb : 0 < n / 33 % 4
    · have HE : Hid (insM n many = ⟨2, n / 11 % 3, n / 33 % 4, 0⟩) := by unfold Hid insM; simp [e, hb]
      rw [HE.out]
      clear HE
      go_enter Tryd.func37, Tryd.ntmps37
      go_wp2_with fail
      refine (HPK.out _).mono ?_
      rintro e' w1 ⟨rfl, rfl⟩
      go_wp2_with fail
      refine bodyPost_ret (v := .agg #[.int .i64 (2), .int .i64 (n / 11 % 3), .int .i64 (n / 33 % 4), .int .i64 (0)]) ?_ rfl ⟨rfl, ?_⟩
      · simp [results, Tryd.results37, go_sem]
      · repeat (first | exact grown_refl _ _ | refine grown_alloc ?_ | refine grown_setNew ?_ (by simp; omega))
    · have HE : Hid (insM n many = ⟨11, n / 11 % 3, 0, 0⟩) := by unfold Hid insM; simp [e, hb]
      have hb2 : n / 33 % 4 ≤ 0 := by omega
      rw [HE.out]
      clear HE
      go_enter Tryd.func37, Tryd.ntmps37
      go_wp2_with fail
      refine (HPK.out _).mono ?_
      rintro e' w1 ⟨rfl, rfl⟩
      go_wp2_with fail
      refine bodyPost_ret (v := .agg #[.int .i64 (11), .int .i64 (n / 11 % 3), .int .i64 (0), .int .i64 (0)]) ?_ rfl ⟨rfl, ?_⟩
      · simp [results, Tryd.results37, go_sem]
      · repeat (first | exact grown_refl _ _ | refine grown_alloc ?_ | refine grown_setNew ?_ (by simp; omega))

theorem instruction_m (c many : Int) (hc : -9223372036854775808 ≤ c) (hc2 : c ≤ 9223372036854775807) (h0 : 0 ≤ many) (h16 : many ≤ 16) (w : World) :
    Calls Tryd.prog 37 #[.int .i64 c, .int .i64 many] w fun e w' => e = .returned (.agg #[.int .i64 (insN c many).op, .int .i64 (insN c many).a, .int .i64 (insN c many).b, .int .i64 (insN c many).n]) ∧ w.grownBy w' none :=
  instruction_core c many _ (pick_m c 1099511627776 (by omega) (by omega) hc hc2) (pickN_range c 1099511627776 (by omega)).1 (pickN_range c 1099511627776 (by omega)).2 h0 h16 w

end Go.Proofs.YtklenjmfalljgaaDoor

/- The walk of program. -/
namespace Go.Proofs.YtklenjmfalljgaaDoor
open Go.RowKit
attribute [local go_sem] Go.World.cell?_alloc_some

/-- Lists of numbers in memory. -/
def RawAt (w : World) (v : Value) (l : List (List Int)) : Prop :=
  ∃ ao cap, v = .slice ao l.length cap ∧ ∀ t (ht : t < l.length), ∃ g o, ao = some ⟨g, o, none⟩ ∧ ∃ rv, w.cell? ⟨g, o + t, none⟩ = some rv ∧ IntsAt w.heap.size w rv l[t]

def codeN (r : List Int) : List Ins := (r.take 16).map fun c => insN c (min r.length 16 : Nat)
def thrN (raw : List (List Int)) (k : Nat) : List (List Ins) := (raw.take k).map codeN
def progN (raw : List (List Int)) : List (List Ins) := if (thrN raw 4).length = 0 then [[]] else thrN raw 4

theorem codeN_len (r : List Int) : (codeN r).length = min r.length 16 := by simp [codeN, Nat.min_comm]

theorem codeN_valid (r : List Int) : vCode (codeN r) = true := by
  have hl := codeN_len r
  simp only [vCode, Bool.and_eq_true, decide_eq_true_eq, List.all_eq_true]
  refine ⟨by omega, fun i hi => ?_⟩
  simp only [codeN, List.mem_map] at hi
  obtain ⟨c, _, rfl⟩ := hi
  rw [hl]
  exact insM_valid _ _ (pickN_range c 1099511627776 (by omega)).1 (by omega)

theorem progN_valid (raw : List (List Int)) : vProg (progN raw) = true := by
  unfold progN
  by_cases h : (thrN raw 4).length = 0
  · rw [if_pos h]; decide
  · rw [if_neg h]
    simp only [vProg, Bool.and_eq_true, decide_eq_true_eq, List.all_eq_true]
    refine ⟨by omega, by simp [thrN]; omega, fun c hc => ?_⟩
    simp only [thrN, List.mem_map] at hc
    obtain ⟨r, _, rfl⟩ := hc
    exact codeN_valid r

def insV (i : Ins) : List Value := [.int .i64 i.op, .int .i64 i.a, .int .i64 i.b, .int .i64 i.n]
def insCells (c : List Ins) : List Value := c.flatMap insV
theorem insCells_len (c : List Ins) : (insCells c).length = c.length * 4 := by
  induction c with
  | nil => rfl
  | cons i c ih => simp only [insCells, List.flatMap_cons, List.length_append] at *; rw [ih]; simp [insV]; omega
theorem insCells_snoc (c : List Ins) (i : Ins) : insCells (c ++ [i]) = insCells c ++ insV i := by simp [insCells]
theorem insCells_get : ∀ (c : List Ins) (k : Nat) (hk : k < c.length), (insCells c)[k * 4]? = some (.int .i64 c[k].op) ∧ (insCells c)[k * 4 + 1]? = some (.int .i64 c[k].a) ∧ (insCells c)[k * 4 + 2]? = some (.int .i64 c[k].b) ∧ (insCells c)[k * 4 + 3]? = some (.int .i64 c[k].n)
  | [], k, hk => by simp at hk
  | i :: c, 0, hk => by simp [insCells, insV]
  | i :: c, k + 1, hk => by
    have h := insCells_get c k (by simpa using hk)
    have e : insCells (i :: c) = insV i ++ insCells c := by simp [insCells]
    have e4 : ∀ j, (insCells (i :: c))[(k + 1) * 4 + j]? = (insCells c)[k * 4 + j]? := fun j => by
      rw [e, List.getElem?_append_right (by simp [insV]; omega)]
      congr 1
      simp [insV]; omega
    refine ⟨?_, ?_, ?_, ?_⟩
    · have := e4 0; simp only [Nat.add_zero] at this; rw [this]; simpa using h.1
    · rw [e4 1]; simpa using h.2.1
    · rw [e4 2]; simpa using h.2.2.1
    · rw [e4 3]; simpa using h.2.2.2

/-- A thread's code in a row of the call's own. -/
def CodeRow (L B : Nat) (w : World) (v : Value) (c : List Ins) : Prop := w.ownsRow L 28 4 v c.length (insCells c) ∧ ∀ h, v.ownBlock = some h → h < B

theorem CodeRow.codeAt {L B : Nat} {w : World} {v : Value} {c : List Ins} (h : CodeRow L B w v c) : CodeAt w v c := by
  obtain ⟨h1, _⟩ := h
  rcases h1.2 with ⟨e, e0⟩ | ⟨g, cap, cur, hv, _⟩
  · refine ⟨none, 0, by rw [e, e0], fun k hk => by omega⟩
  · refine ⟨some ⟨g, 0, none⟩, cap, hv, fun k hk => ⟨g, 0, rfl, ?_⟩⟩
    rw [hv] at h1
    have q := insCells_get c k hk
    refine ⟨?_, ?_, ?_, ?_⟩
    · rw [Nat.zero_add, h1.cellAt _ (by omega)]; exact q.1
    · rw [Nat.zero_add, h1.cellAt _ (by omega)]; exact q.2.1
    · rw [Nat.zero_add, h1.cellAt _ (by omega)]; exact q.2.2.1
    · rw [Nat.zero_add, h1.cellAt _ (by omega)]; exact q.2.2.2

theorem owns_step {w w' : World} {base : Nat} {e : TypeId} {size : Nat} {v : Value} {n : Nat} {xs : List Value} {r : Option Nat} (h : w.ownsRow base e size v n xs) (hg : w.grownBy w' r) (hr : ∀ k, r = some k → v.ownBlock ≠ some k) : w'.ownsRow base e size v n xs := by
  obtain ⟨h1, h2⟩ := h
  refine ⟨h1, ?_⟩
  rcases h2 with h2 | ⟨g, cap, cur, hv, hb, hh, rest⟩
  · exact Or.inl h2
  · have hlt : g < w.heap.size := (Array.getElem?_eq_some_iff.1 hh).1
    refine Or.inr ⟨g, cap, cur, hv, hb, ?_, rest⟩
    rw [hg.block g hlt (fun e => hr g e.symm (by rw [hv]; rfl))]; exact hh

theorem owns_types {w : World} {b1 b2 e1 e2 z1 z2 : Nat} {v1 v2 : Value} {n1 n2 : Nat} {x1 x2 : List Value} (h1 : w.ownsRow b1 e1 z1 v1 n1 x1) (h2 : w.ownsRow b2 e2 z2 v2 n2 x2) (he : e1 ≠ e2) : ∀ k, v1.ownBlock = some k → v2.ownBlock ≠ some k := by
  intro k hk hk2
  rcases h1.2 with ⟨e, _⟩ | ⟨g, _, c1, hv, _, hh, _⟩
  · rw [e] at hk; cases hk
  · rcases h2.2 with ⟨e, _⟩ | ⟨g', _, c2, hv', _, hh', _⟩
    · rw [e] at hk2; cases hk2
    · rw [hv] at hk
      rw [hv'] at hk2
      have e1 : g = k := by simpa [Value.ownBlock] using hk
      have e2 : g' = k := by simpa [Value.ownBlock] using hk2
      rw [e1] at hh
      rw [e2, hh] at hh'
      simp at hh'
      exact he hh'.2

/-- The threads so far. -/
def ThrAt (L B : Nat) (w : World) (tv : Value) (p : List (List Ins)) : Prop :=
  ∃ rows, w.ownsRow L 29 1 tv p.length rows ∧ (∀ h, tv.ownBlock = some h → h < B) ∧ ∀ j (hj : j < p.length), ∃ rv, rows[j]? = some rv ∧ CodeRow L B w rv p[j]

theorem ThrAt.step {L B : Nat} {w w' : World} {tv : Value} {p : List (List Ins)} {r : Option Nat} (h : ThrAt L B w tv p) (hg : w.grownBy w' r) (hr : ∀ q, r = some q → q < L ∨ B ≤ q) : ThrAt L B w' tv p := by
  obtain ⟨rows, h1, h2, h3⟩ := h
  refine ⟨rows, owns_step h1 hg (fun k e e2 => ?_), h2, fun j hj => ?_⟩
  · have := h2 k e2; have := owns_block h1 k e2; rcases hr k e with q | q <;> omega
  · obtain ⟨rv, e1, e2, e3⟩ := h3 j hj
    refine ⟨rv, e1, owns_step e2 hg (fun k e e4 => ?_), e3⟩
    have := e3 k e4; have := owns_block e2 k e4; rcases hr k e with q | q <;> omega
theorem ThrAt.mono {L B B' : Nat} {w : World} {tv : Value} {p : List (List Ins)} (h : ThrAt L B w tv p) (hb : B ≤ B') : ThrAt L B' w tv p := by
  obtain ⟨rows, h1, h2, h3⟩ := h
  refine ⟨rows, h1, fun q e => Nat.lt_of_lt_of_le (h2 q e) hb, fun j hj => ?_⟩
  obtain ⟨rv, e1, e2, e3⟩ := h3 j hj
  exact ⟨rv, e1, e2, fun q e => Nat.lt_of_lt_of_le (e3 q e) hb⟩

theorem ThrAt.progAt {L B : Nat} {w : World} {tv : Value} {p : List (List Ins)} (h : ThrAt L B w tv p) : ProgAt w (.agg #[tv]) p := by
  obtain ⟨rows, h1, h2, h3⟩ := h
  rcases h1.2 with ⟨e, e0⟩ | ⟨g, cap, cur, hv, _⟩
  · refine ⟨none, 0, by rw [e, e0], fun k hk => by omega⟩
  · refine ⟨some ⟨g, 0, none⟩, cap, by rw [hv], fun j hj => ⟨g, 0, rfl, ?_⟩⟩
    obtain ⟨rv, e1, e2⟩ := h3 j hj
    rw [hv] at h1
    exact ⟨rv, by rw [Nat.zero_add, h1.cellAt j (by omega)]; exact e1, e2.codeAt⟩

/-- p.Threads = append(p.Threads, l): the worlds behind the append. -/
theorem ThrAt.snoc {L B : Nat} {w w1 w2 : World} {tv tv' lv : Value} {p : List (List Ins)} {c : List Ins} {rows : List Value} (h : ThrAt L B w tv p) (ho : w.ownsRow L 29 1 tv p.length rows) (hl : CodeRow L B w lv c) (hg1 : w.grownBy w1 none)
    (hg2 : w1.grownBy w2 tv.ownBlock) (ho2 : w2.ownsRow L 29 1 tv' (p.length + 1) (rows ++ [lv])) (hB : B ≤ w2.heap.size) (ht : ∀ q, tv'.ownBlock = some q → q < w2.heap.size) : ThrAt L w2.heap.size w2 tv' (p ++ [c]) := by
  obtain ⟨rows', h1, h2, h3⟩ := h
  have hrows : rows' = rows := by
    rcases h1.2 with ⟨e, e0⟩ | ⟨g, cap, cur, hv, _, hh, _, _, _, ht1⟩
    · have a1 := h1.1; have a2 := ho.1
      rw [e0] at a1 a2
      rw [List.length_eq_zero_iff.1 (by omega : rows'.length = 0), List.length_eq_zero_iff.1 (by omega : rows.length = 0)]
    · rcases ho.2 with ⟨e, e0⟩ | ⟨g', cap', cur', hv', _, hh', _, _, _, ht2⟩
      · rw [e] at hv; cases hv
      · rw [hv] at hv'
        simp at hv'
        obtain ⟨e1, e2⟩ := hv'
        rw [← e1, hh] at hh'
        simp at hh'
        rw [← ht1, ← ht2, hh']
  subst hrows
  have hrow : ∀ {rv : Value} {c : List Ins}, CodeRow L B w rv c → CodeRow L w2.heap.size w2 rv c := fun {rv c} hc => by
    have a1 := owns_step hc.1 hg1 (fun k e => by cases e)
    have a2 := owns_step h1 hg1 (fun k e => by cases e)
    exact ⟨owns_step a1 hg2 (fun k e => owns_types a2 a1 (by decide) k e), fun q e => Nat.lt_of_lt_of_le (hc.2 q e) hB⟩
  refine ⟨rows' ++ [lv], by simpa using ho2, ht, fun j hj => ?_⟩
  have hlr : rows'.length = p.length := by have := h1.1; omega
  by_cases hlt : j < p.length
  · obtain ⟨rv, e1, e2⟩ := h3 j hlt
    exact ⟨rv, by rw [List.getElem?_append_left (by omega)]; exact e1, by rw [List.getElem_append_left hlt]; exact hrow e2⟩
  · have ej : j = p.length := by simp at hj; omega
    subst ej
    exact ⟨lv, by rw [List.getElem?_append_right (by omega)]; simp [hlr], by simpa using hrow hl⟩

theorem info_ins : ((Tryd.prog.info? 28).map fun i => (i.zero, i.size, i.bytes)) = some (some (.agg #[.int .i64 0, .int .i64 0, .int .i64 0, .int .i64 0]), 4, 32) := by kernel_rfl
theorem info_code : ((Tryd.prog.info? 29).map fun i => (i.zero, i.size, i.bytes)) = some (some (.slice none 0 0), 1, 24) := by kernel_rfl

end Go.Proofs.YtklenjmfalljgaaDoor

/- The walk of program. -/
namespace Go.Proofs.YtklenjmfalljgaaDoor
open Go.RowKit
attribute [local go_sem] Go.World.cell?_alloc_some

def isInt (c : Int) : Prop := -9223372036854775808 ≤ c ∧ c ≤ 9223372036854775807

/-- In the midst of program. -/
def ProgOut (w : World) (raw : List (List Int)) (t : Nat) (w' : World) : Prop :=
  ∃ tv, w'.heap[w.heap.size + 1]? = some (.cells #[tv] 25 (0, 0)) ∧ ThrAt (w.heap.size + 2) w'.heap.size w' tv (thrN raw t) ∧ w.grownBy w' none ∧ w'.heap[w.heap.size]? = some (.cells #[.slice none 0 0] 25 (0, 0)) ∧ w.heap.size + 2 ≤ w'.heap.size

def ProgIn (w : World) (raw : List (List Int)) (t Bt k : Nat) (c : List Ins) (lv : Value) (w' : World) : Prop :=
  ∃ tv, w'.heap[w.heap.size + 1]? = some (.cells #[tv] 25 (0, 0)) ∧ ThrAt (w.heap.size + 2) Bt w' tv (thrN raw t) ∧ w'.ownsRow Bt 28 4 lv k (insCells (c.take k)) ∧ w.grownBy w' none ∧ w'.heap[w.heap.size]? = some (.cells #[.slice none 0 0] 25 (0, 0)) ∧ w.heap.size + 2 ≤ Bt ∧ Bt ≤ w'.heap.size

theorem owns_lt {w : World} {base e size : Nat} {v : Value} {n : Nat} {xs : List Value} (h : w.ownsRow base e size v n xs) : ∀ q, v.ownBlock = some q → q < w.heap.size := fun q eq => by
  rcases h.2 with ⟨e1, _⟩ | ⟨g', _, _, hv, _, hh, _⟩
  · rw [e1] at eq; cases eq
  · rw [hv] at eq
    have := (Array.getElem?_eq_some_iff.1 hh).1
    simp [Value.ownBlock] at eq
    omega

theorem thrN_succ (raw : List (List Int)) (t : Nat) (ht : t < raw.length) : thrN raw (t + 1) = thrN raw t ++ [codeN raw[t]] := by
  unfold thrN
  rw [List.take_succ_eq_append_getElem ht, List.map_append]; rfl
theorem thrN_len (raw : List (List Int)) (t : Nat) (ht : t ≤ raw.length) : (thrN raw t).length = t := by simp [thrN]; omega

theorem heap_alloc_new2 (w : World) (a b : Obj) : ((w.alloc a).alloc b).heap[w.heap.size + 1]? = some b := by
  have := heap_alloc_new (w.alloc a) b
  simpa using this

theorem insV_one (i : Ins) : ∀ v ∈ insV i, v.oneCell' = true := by
  intro v hv; simp only [insV, List.mem_cons, List.not_mem_nil, or_false] at hv
  rcases hv with rfl | rfl | rfl | rfl <;> rfl

set_option maxHeartbeats 8000000 in
set_option maxRecDepth 100000 in
theorem program_t (raw : List (List Int)) (rv : Value) (w : World) (hR : RawAt w rv raw) (hb : ∀ t (ht : t < raw.length) k (hk : k < raw[t].length), isInt raw[t][k]) :
    Calls Tryd.prog 15 #[rv] w fun e w' => ∃ tv, e = .returned (.agg #[tv]) ∧ ThrAt (w.heap.size + 2) w'.heap.size w' tv (progN raw) ∧ w.grownBy w' none := by
  obtain ⟨i0, hi0, hz0, hz1, hz2⟩ := info_parts info_ins
  obtain ⟨i1, hi1, hy0, hy1, hy2⟩ := info_parts info_code
  obtain ⟨ao, cap, rfl, hR⟩ := hR
  have HR := hide hR
  have HBd := hide hb
  clear hR hb
  go_enter Tryd.func15, Tryd.ntmps15
  go_wp2_with fail
  go_loopw [4] (fun i w' => ∃ t : Nat, t ≤ raw.length ∧ t ≤ 4 ∧ i = .int .i64 t ∧ Hid (ProgOut w raw t w')) (fun i _ => raw.length - (intOf i).toNat)
  case atStart =>
    refine ⟨0, Nat.zero_le _, by omega, rfl, .slice none 0 0, ?_, ⟨[], ⟨rfl, Or.inl ⟨rfl, rfl⟩⟩, fun h e => (by cases e), fun j hj => (by simp [thrN] at hj)⟩, grown_alloc (grown_alloc (grown_refl _ _)), ?_, by simp⟩
    · have := heap_alloc_new (w.alloc (.cells #[.slice none 0 0] 25)) (.cells #[.slice none 0 0] 25)
      simpa using this
    · rw [Below.heap_alloc _ _ _ (by simp)]; exact heap_alloc_new w _
  case round =>
    obtain ⟨t, ht, ht4, rfl, HO⟩ := hrel
    obtain ⟨w3, hw3⟩ : ∃ w3, w3 = wr := ⟨_, rfl⟩
    subst hw3
    by_cases hgo : t < raw.length ∧ t < 4
    · obtain ⟨hlt, hlt4⟩ := hgo
      obtain ⟨pg, po, rfl, r1, hr1, hr2⟩ := HR.out t hlt
      obtain ⟨ra, rc, rfl, _, hr3⟩ := hr2
      have hpr : Pres w w3 := by obtain ⟨tv, _, _, hg, _⟩ := HO.out; exact pres_grown hg
      have hr1' := hpr _ _ hr1
      have HBt := hide (HBd.out t hlt)
      have HR3 := hide hr3
      have HCN : Hid (thrN raw (t + 1) = thrN raw t ++ [codeN raw[t]]) := thrN_succ raw t hlt
      clear hpr hr3
      have q0 : (0 : Int) ≤ (t : Int) := by omega
      have q1 : (t : Int) < raw.length := by omega
      have q2 : (t : Int) < 4 := by omega
      generalize raw[t] = r at *
      by_cases h16 : 16 < r.length
      · have g16 : (16 : Int) < r.length := by omega
        have hCl : (codeN r).length = 16 := by rw [codeN_len]; omega
        have HCl := hide hCl
        have hML : 16 ≤ 16 := by omega
        have hMr : 16 ≤ r.length := by omega
        clear hCl
        go_wp2_with fail
        go_loopw [5, 7] (fun lv i w' => ∃ k : Nat, k ≤ 16 ∧ i = .int .i64 k ∧ Hid (ProgIn w raw t w3.heap.size k (codeN r) lv w')) (fun _ i _ => 16 - (intOf i).toNat)
        case atStart =>
          obtain ⟨tv, o1, o2, o3, o4, o5⟩ := HO.out
          exact ⟨0, Nat.zero_le _, rfl, tv, o1, o2, ⟨rfl, Or.inl ⟨rfl, rfl⟩⟩, o3, o4, o5, Nat.le_refl _⟩
        case round =>
          obtain ⟨k, hk, rfl, HJ⟩ := hrel
          obtain ⟨w4, hw4⟩ : ∃ w4, w4 = wr := ⟨_, rfl⟩
          subst hw4
          by_cases hkl : k < 16
          · have hg4 : w.grownBy w4 none := by obtain ⟨tv, _, _, _, hg, _⟩ := HJ.out; exact hg
            have hkr : k < r.length := by omega
            obtain ⟨ig, io, rfl, _, hic⟩ := HR3.out k hkr
            have hic' := pres_grown hg4 _ _ hic
            have hr1'' : w4.cell? ⟨pg, po + t, none⟩ = some (.slice (some ⟨ig, io, none⟩) r.length rc) := pres_grown hg4 _ _ hr1
            have hbd := HBt.out k hkr
            have q3 : (0 : Int) ≤ (k : Int) := by omega
            have q4 : (k : Int) < r.length := by omega
            have q5 : (k : Int) < 16 := by omega
            have HCk : Hid ((codeN r)[k]? = some (insN r[k] ((16 : Nat) : Int))) := by
              unfold Hid codeN
              have e : min r.length 16 = 16 := by omega
              rw [e]
              simp [List.getElem?_take, hkr]
              omega
            clear hic
            generalize r[k] = c at *
            go_wp2_with fail
            refine (instruction_m c _ hbd.1 hbd.2 (by omega) (by omega) _).mono ?_
            rintro e w5 ⟨rfl, hg5⟩
            have HG5 := hide hg5
            have hsz5 := hg5.size
            clear hg5 hic' hr1''
            generalize hins : insN c (16) = i at *
            clear hins
            have h63 : k + 1 ≤ maxLen := by unfold maxLen; omega
            obtain ⟨tv, j1, j2, j3, j4, j5, j6, j7⟩ := HJ.out
            go_wp2_with (at_builtin; refine wpList_append_lies _ rfl _ _ _ rfl w3.heap.size 28 i0 _ 4 32 Tryd.underlying29 hi0 hz0 hz1 hz2 rfl (by omega) u5 k (insCells ((codeN r).take k)) rfl (owns_grown j3 (grown_alloc (grown_alloc HG5.out)) (fun _ e => by cases e)) ⟨w5.heap.size + 1, 0, none⟩ 1 1 (insV i) rfl rfl (World.news_of_block (cs := #[.int .i64 i.op, .int .i64 i.a, .int .i64 i.b, .int .i64 i.n]) (t := 28) (fr := (0, 0)) (heap_alloc_new2 w5 _ _)) (insV_one i) (by omega) h63 (by omega) (by simp; omega) (w5.heap.size + 2) (by simp) ?_; intro g6 cap6 w6 hown6 hgrow hat hlt6)
            have HNX : Hid (ProgIn w raw t w3.heap.size (k + 1) (codeN r) (.slice (some ⟨g6, 0, none⟩) (k + 1) cap6) w6) := by
              have hob := owns_block j3
              have hgw : w4.grownBy ((w5.alloc (.cells #[.int .i64 i.op, .int .i64 i.a, .int .i64 i.b, .int .i64 i.n] 28)).alloc (.cells #[.int .i64 i.op, .int .i64 i.a, .int .i64 i.b, .int .i64 i.n] 28)) none := grown_alloc (grown_alloc HG5.out)
              have hsz6 := hgrow.size
              simp only [World.size_alloc] at hsz6
              have hfar : ∀ q, q < w3.heap.size → w6.heap[q]? = w4.heap[q]? := fun q hq => by
                rw [hgrow.block q (by simp; omega) (fun e => by have := hob q e.symm; omega), hgw.block q (by omega) (by simp)]
              have hkc : k < (codeN r).length := by rw [HCl.out]; omega
              refine ⟨tv, by rw [hfar _ (by omega)]; exact j1, (j2.step hgw (fun q e => by cases e)).step hgrow (fun q e => Or.inr (hob q e)), ?_, grown_row (grown_trans j4 hgw) hgrow (fun q e => by have := hob q e; have := j4.size; omega), by rw [hfar _ (by omega)]; exact j5, j6, by omega⟩
              rw [List.take_succ_eq_append_getElem hkc, insCells_snoc]
              have e1 : (codeN r)[k] = i := by
                have := HCk.out
                rw [List.getElem?_eq_getElem hkc] at this
                simpa using this
              rw [e1]; exact hown6
            clear j1 j2 j3 j4 j5 j6 j7 hgrow hown6 hat
            go_wp2
            go_roundw
            case rel => exact ⟨k + 1, by omega, by go_num, HNX⟩
            case measure => simp [intOf]; omega
          · have hke : k = 16 := by omega
            have q5 : (16 : Int) ≤ (k : Int) := by omega
            obtain ⟨tv, j1, j2, j3, j4, j5, j6, j7⟩ := HJ.out
            have HJ3 : Hid (CodeRow (w.heap.size + 2) w4.heap.size w4 u5 (codeN r)) := by
              refine ⟨?_, owns_lt j3⟩
              rw [List.take_of_length_le (by rw [HCl.out]; omega)] at j3
              rw [HCl.out, ← hke]
              exact owns_mono j3 (by omega)
            obtain ⟨rows, p1, p2, p3⟩ := j2
            have hTl : (thrN raw t).length = t := thrN_len raw t ht
            rw [hTl] at p1
            have P1 := hide p1
            have J2 : Hid (ThrAt (w.heap.size + 2) w3.heap.size w4 tv (thrN raw t)) := ⟨rows, by rw [hTl]; exact p1, p2, p3⟩
            obtain ⟨tva, tvn, tvc, rfl⟩ := owns_form p1
            have c1 : w4.cell? ⟨w.heap.size + 1, 0, none⟩ = some (.slice tva tvn tvc) := by simp [World.cell?, j1]
            have c1f : w4.frozen? ⟨w.heap.size + 1, 0, none⟩ = false := by simp [World.frozen?, j1]
            obtain ⟨la, ln, lc, rfl⟩ := owns_form HJ3.out.1
            have h63 : t + 1 ≤ maxLen := by unfold maxLen; omega
            have J1 := hide j1
            have J5 := hide j5
            have J4 := hide j4
            clear p1 p2 p3 j1 j5 j4 hke j3
            go_wp2_with (at_builtin; refine wpList_append_lies _ rfl _ _ _ rfl (w.heap.size + 2) 29 i1 _ 1 24 Tryd.underlying23 hi1 hy0 hy1 hy2 rfl (by omega) (.slice tva tvn tvc) t rows rfl (owns_alloc P1.out) ⟨w4.heap.size, 0, none⟩ 1 1 [.slice la ln lc] rfl rfl (World.news_of_block (cs := #[.slice la ln lc]) (t := 29) (fr := (0, 0)) (heap_alloc_new w4 _)) (by simp [Value.oneCell']) (by omega) h63 (by omega) (by simp; omega) (w4.heap.size + 1) (by simp) ?_; intro g6 cap6 w6 hown6 hgrow hat hlt6; have c6 : w6.cell? ⟨w.heap.size + 1, 0, none⟩ = some (.slice tva tvn tvc) := (by rw [hgrow.cell_far _ (by simp; omega) (fun e => by have := owns_block P1.out _ e.symm; simp at this), World.cell?_alloc_lt _ _ _ (by simp; omega)]; exact c1); have c6f : w6.frozen? ⟨w.heap.size + 1, 0, none⟩ = false := (by rw [hgrow.frozen_far _ (by simp; omega) (fun e => by have := owns_block P1.out _ e.symm; simp at this), World.frozen?_alloc_old _ _ _ (by simp; omega)]; exact c1f))
            have HNX : Hid (ProgOut w raw (t + 1) (w6.setCell ⟨w.heap.size + 1, 0, none⟩ (.slice (some ⟨g6, 0, none⟩) (t + 1) cap6))) := by
              have hob := owns_block P1.out
              have hsz6 := hgrow.size
              simp only [World.size_alloc] at hsz6
              have hfar : ∀ q, q < w.heap.size + 2 → w6.heap[q]? = w4.heap[q]? := fun q hq => by
                rw [hgrow.block q (by simp; omega) (fun e => by have := hob q e.symm; omega), Below.heap_alloc _ _ _ (by omega)]
              have hsn := ThrAt.snoc (J2.out.mono (by omega : w3.heap.size ≤ w4.heap.size)) (rows := rows) (by rw [hTl]; exact P1.out) HJ3.out (grown_alloc (grown_refl _ _)) hgrow (tv' := .slice (some ⟨g6, 0, none⟩) (t + 1) cap6) (by rw [hTl]; exact hown6) (by omega) (owns_lt hown6)
              refine ⟨.slice (some ⟨g6, 0, none⟩) (t + 1) cap6, ?_, ?_, ?_, ?_, by simp; omega⟩
              · have := heap_setCell_same w6 (w.heap.size + 1) 0 _ _ (.slice (some ⟨g6, 0, none⟩) (t + 1) cap6) (by rw [hfar _ (by omega)]; exact J1.out)
                simpa using this
              · rw [HCN.out, World.size_setCell]
                exact hsn.step grown_set (fun q e => by cases e; exact Or.inl (by omega))
              · exact grown_setNew (grown_row (grown_alloc J4.out) hgrow (fun q e => by have := hob q e; omega)) (by omega)
              · rw [Below.heap_setCell _ _ _ _ (by simp), hfar _ (by omega)]; exact J5.out
            clear hgrow hown6 hat
            go_wp2
            go_roundw
            case rel => exact ⟨t + 1, by omega, by omega, by go_num, HNX⟩
            case measure => simp [intOf]; omega
      · have g16 : (r.length : Int) ≤ 16 := by omega
        have hCl : (codeN r).length = r.length := by rw [codeN_len]; omega
        have HCl := hide hCl
        have hML : r.length ≤ 16 := by omega
        have hMr : r.length ≤ r.length := by omega
        clear hCl
        go_wp2_with fail
        go_loopw [5, 7] (fun lv i w' => ∃ k : Nat, k ≤ r.length ∧ i = .int .i64 k ∧ Hid (ProgIn w raw t w3.heap.size k (codeN r) lv w')) (fun _ i _ => r.length - (intOf i).toNat)
        case atStart =>
          obtain ⟨tv, o1, o2, o3, o4, o5⟩ := HO.out
          exact ⟨0, Nat.zero_le _, rfl, tv, o1, o2, ⟨rfl, Or.inl ⟨rfl, rfl⟩⟩, o3, o4, o5, Nat.le_refl _⟩
        case round =>
          obtain ⟨k, hk, rfl, HJ⟩ := hrel
          obtain ⟨w4, hw4⟩ : ∃ w4, w4 = wr := ⟨_, rfl⟩
          subst hw4
          by_cases hkl : k < r.length
          · have hg4 : w.grownBy w4 none := by obtain ⟨tv, _, _, _, hg, _⟩ := HJ.out; exact hg
            have hkr : k < r.length := by omega
            obtain ⟨ig, io, rfl, _, hic⟩ := HR3.out k hkr
            have hic' := pres_grown hg4 _ _ hic
            have hr1'' : w4.cell? ⟨pg, po + t, none⟩ = some (.slice (some ⟨ig, io, none⟩) r.length rc) := pres_grown hg4 _ _ hr1
            have hbd := HBt.out k hkr
            have q3 : (0 : Int) ≤ (k : Int) := by omega
            have q4 : (k : Int) < r.length := by omega
            have q5 : (k : Int) < (r.length : Int) := by omega
            have HCk : Hid ((codeN r)[k]? = some (insN r[k] ((r.length : Nat) : Int))) := by
              unfold Hid codeN
              have e : min r.length 16 = r.length := by omega
              rw [e]
              simp [List.getElem?_take, hkr]
              omega
            clear hic
            generalize r[k] = c at *
            go_wp2_with fail
            refine (instruction_m c _ hbd.1 hbd.2 (by omega) (by omega) _).mono ?_
            rintro e w5 ⟨rfl, hg5⟩
            have HG5 := hide hg5
            have hsz5 := hg5.size
            clear hg5 hic' hr1''
            generalize hins : insN c ((r.length : Int)) = i at *
            clear hins
            have h63 : k + 1 ≤ maxLen := by unfold maxLen; omega
            obtain ⟨tv, j1, j2, j3, j4, j5, j6, j7⟩ := HJ.out
            go_wp2_with (at_builtin; refine wpList_append_lies _ rfl _ _ _ rfl w3.heap.size 28 i0 _ 4 32 Tryd.underlying29 hi0 hz0 hz1 hz2 rfl (by omega) u5 k (insCells ((codeN r).take k)) rfl (owns_grown j3 (grown_alloc (grown_alloc HG5.out)) (fun _ e => by cases e)) ⟨w5.heap.size + 1, 0, none⟩ 1 1 (insV i) rfl rfl (World.news_of_block (cs := #[.int .i64 i.op, .int .i64 i.a, .int .i64 i.b, .int .i64 i.n]) (t := 28) (fr := (0, 0)) (heap_alloc_new2 w5 _ _)) (insV_one i) (by omega) h63 (by omega) (by simp; omega) (w5.heap.size + 2) (by simp) ?_; intro g6 cap6 w6 hown6 hgrow hat hlt6)
            have HNX : Hid (ProgIn w raw t w3.heap.size (k + 1) (codeN r) (.slice (some ⟨g6, 0, none⟩) (k + 1) cap6) w6) := by
              have hob := owns_block j3
              have hgw : w4.grownBy ((w5.alloc (.cells #[.int .i64 i.op, .int .i64 i.a, .int .i64 i.b, .int .i64 i.n] 28)).alloc (.cells #[.int .i64 i.op, .int .i64 i.a, .int .i64 i.b, .int .i64 i.n] 28)) none := grown_alloc (grown_alloc HG5.out)
              have hsz6 := hgrow.size
              simp only [World.size_alloc] at hsz6
              have hfar : ∀ q, q < w3.heap.size → w6.heap[q]? = w4.heap[q]? := fun q hq => by
                rw [hgrow.block q (by simp; omega) (fun e => by have := hob q e.symm; omega), hgw.block q (by omega) (by simp)]
              have hkc : k < (codeN r).length := by rw [HCl.out]; omega
              refine ⟨tv, by rw [hfar _ (by omega)]; exact j1, (j2.step hgw (fun q e => by cases e)).step hgrow (fun q e => Or.inr (hob q e)), ?_, grown_row (grown_trans j4 hgw) hgrow (fun q e => by have := hob q e; have := j4.size; omega), by rw [hfar _ (by omega)]; exact j5, j6, by omega⟩
              rw [List.take_succ_eq_append_getElem hkc, insCells_snoc]
              have e1 : (codeN r)[k] = i := by
                have := HCk.out
                rw [List.getElem?_eq_getElem hkc] at this
                simpa using this
              rw [e1]; exact hown6
            clear j1 j2 j3 j4 j5 j6 j7 hgrow hown6 hat
            go_wp2
            go_roundw
            case rel => exact ⟨k + 1, by omega, by go_num, HNX⟩
            case measure => simp [intOf]; omega
          · have hke : k = r.length := by omega
            have q5 : ((r.length : Int) : Int) ≤ (k : Int) := by omega
            obtain ⟨tv, j1, j2, j3, j4, j5, j6, j7⟩ := HJ.out
            have HJ3 : Hid (CodeRow (w.heap.size + 2) w4.heap.size w4 u5 (codeN r)) := by
              refine ⟨?_, owns_lt j3⟩
              rw [List.take_of_length_le (by rw [HCl.out]; omega)] at j3
              rw [HCl.out, ← hke]
              exact owns_mono j3 (by omega)
            obtain ⟨rows, p1, p2, p3⟩ := j2
            have hTl : (thrN raw t).length = t := thrN_len raw t ht
            rw [hTl] at p1
            have P1 := hide p1
            have J2 : Hid (ThrAt (w.heap.size + 2) w3.heap.size w4 tv (thrN raw t)) := ⟨rows, by rw [hTl]; exact p1, p2, p3⟩
            obtain ⟨tva, tvn, tvc, rfl⟩ := owns_form p1
            have c1 : w4.cell? ⟨w.heap.size + 1, 0, none⟩ = some (.slice tva tvn tvc) := by simp [World.cell?, j1]
            have c1f : w4.frozen? ⟨w.heap.size + 1, 0, none⟩ = false := by simp [World.frozen?, j1]
            obtain ⟨la, ln, lc, rfl⟩ := owns_form HJ3.out.1
            have h63 : t + 1 ≤ maxLen := by unfold maxLen; omega
            have J1 := hide j1
            have J5 := hide j5
            have J4 := hide j4
            clear p1 p2 p3 j1 j5 j4 hke j3
            go_wp2_with (at_builtin; refine wpList_append_lies _ rfl _ _ _ rfl (w.heap.size + 2) 29 i1 _ 1 24 Tryd.underlying23 hi1 hy0 hy1 hy2 rfl (by omega) (.slice tva tvn tvc) t rows rfl (owns_alloc P1.out) ⟨w4.heap.size, 0, none⟩ 1 1 [.slice la ln lc] rfl rfl (World.news_of_block (cs := #[.slice la ln lc]) (t := 29) (fr := (0, 0)) (heap_alloc_new w4 _)) (by simp [Value.oneCell']) (by omega) h63 (by omega) (by simp; omega) (w4.heap.size + 1) (by simp) ?_; intro g6 cap6 w6 hown6 hgrow hat hlt6; have c6 : w6.cell? ⟨w.heap.size + 1, 0, none⟩ = some (.slice tva tvn tvc) := (by rw [hgrow.cell_far _ (by simp; omega) (fun e => by have := owns_block P1.out _ e.symm; simp at this), World.cell?_alloc_lt _ _ _ (by simp; omega)]; exact c1); have c6f : w6.frozen? ⟨w.heap.size + 1, 0, none⟩ = false := (by rw [hgrow.frozen_far _ (by simp; omega) (fun e => by have := owns_block P1.out _ e.symm; simp at this), World.frozen?_alloc_old _ _ _ (by simp; omega)]; exact c1f))
            have HNX : Hid (ProgOut w raw (t + 1) (w6.setCell ⟨w.heap.size + 1, 0, none⟩ (.slice (some ⟨g6, 0, none⟩) (t + 1) cap6))) := by
              have hob := owns_block P1.out
              have hsz6 := hgrow.size
              simp only [World.size_alloc] at hsz6
              have hfar : ∀ q, q < w.heap.size + 2 → w6.heap[q]? = w4.heap[q]? := fun q hq => by
                rw [hgrow.block q (by simp; omega) (fun e => by have := hob q e.symm; omega), Below.heap_alloc _ _ _ (by omega)]
              have hsn := ThrAt.snoc (J2.out.mono (by omega : w3.heap.size ≤ w4.heap.size)) (rows := rows) (by rw [hTl]; exact P1.out) HJ3.out (grown_alloc (grown_refl _ _)) hgrow (tv' := .slice (some ⟨g6, 0, none⟩) (t + 1) cap6) (by rw [hTl]; exact hown6) (by omega) (owns_lt hown6)
              refine ⟨.slice (some ⟨g6, 0, none⟩) (t + 1) cap6, ?_, ?_, ?_, ?_, by simp; omega⟩
              · have := heap_setCell_same w6 (w.heap.size + 1) 0 _ _ (.slice (some ⟨g6, 0, none⟩) (t + 1) cap6) (by rw [hfar _ (by omega)]; exact J1.out)
                simpa using this
              · rw [HCN.out, World.size_setCell]
                exact hsn.step grown_set (fun q e => by cases e; exact Or.inl (by omega))
              · exact grown_setNew (grown_row (grown_alloc J4.out) hgrow (fun q e => by have := hob q e; omega)) (by omega)
              · rw [Below.heap_setCell _ _ _ _ (by simp), hfar _ (by omega)]; exact J5.out
            clear hgrow hown6 hat
            go_wp2
            go_roundw
            case rel => exact ⟨t + 1, by omega, by omega, by go_num, HNX⟩
            case measure => simp [intOf]; omega
    · obtain ⟨tv, j1, j2, j4, j5, j6⟩ := HO.out
      have hTe : thrN raw t = thrN raw 4 := by
        unfold thrN
        by_cases h4 : t = 4
        · rw [h4]
        · rw [List.take_of_length_le (by omega), List.take_of_length_le (by omega)]
      have hTl : (thrN raw t).length = t := thrN_len raw t ht
      have HT : Hid (ThrAt (w.heap.size + 2) w3.heap.size w3 tv (thrN raw 4)) := by rw [← hTe]; exact j2
      obtain ⟨rows, p1, p2, p3⟩ := j2
      rw [hTl] at p1
      have P1 := hide p1
      obtain ⟨tva, tvn, tvc, rfl⟩ := owns_form p1
      have hn := owns_lenq p1
      subst hn
      have c1 : w3.cell? ⟨w.heap.size + 1, 0, none⟩ = some (.slice tva tvn tvc) := by simp [World.cell?, j1]
      have c1f : w3.frozen? ⟨w.heap.size + 1, 0, none⟩ = false := by simp [World.frozen?, j1]
      have c2 : w3.cell? ⟨w.heap.size, 0, none⟩ = some (.slice none 0 0) := by simp [World.cell?, j5]
      have c2f : w3.frozen? ⟨w.heap.size, 0, none⟩ = false := by simp [World.frozen?, j5]
      have J1 := hide j1
      have J4 := hide j4
      have J5 := hide j5
      have HTe := hide hTe
      have HTl := hide hTl
      have HNG := hide hgo
      clear p1 p2 p3 j1 j4 j5 hgo hTe hTl
      have q0 : (0 : Int) ≤ (tvn : Int) := by omega
      by_cases h0 : tvn = 0
      · have hr0 : raw.length = 0 := by
          by_cases e : raw.length = 0
          · exact e
          · exact absurd ⟨by omega, by omega⟩ HNG.out
        subst h0
        have hrr : (raw.length : Int) ≤ 0 := by omega
        have HPN : Hid (progN raw = thrN raw 4 ++ [[]]) := by
          unfold Hid progN
          have e : (thrN raw 4).length = 0 := by rw [← HTe.out]; exact HTl.out
          rw [if_pos e, List.length_eq_zero_iff.1 e]; rfl
        go_wp2_with (at_builtin; refine wpList_append_lies _ rfl _ _ _ rfl (w.heap.size + 2) 29 i1 _ 1 24 Tryd.underlying23 hi1 hy0 hy1 hy2 rfl (by omega) (.slice tva 0 tvc) 0 rows rfl (owns_alloc P1.out) ⟨w3.heap.size, 0, none⟩ 1 1 [.slice none 0 0] rfl rfl (World.news_of_block (cs := #[.slice none 0 0]) (t := 29) (fr := (0, 0)) (heap_alloc_new w3 _)) (by simp [Value.oneCell']) (by omega) (by unfold maxLen; omega) (by omega) (by simp; omega) (w3.heap.size + 1) (by simp) ?_; intro g6 cap6 w6 hown6 hgrow hat hlt6; have c6 : w6.cell? ⟨w.heap.size + 1, 0, none⟩ = some (.slice tva 0 tvc) := (by rw [hgrow.cell_far _ (by simp; omega) (fun e => by have := owns_block P1.out _ e.symm; simp at this), World.cell?_alloc_lt _ _ _ (by simp; omega)]; exact c1); have c6f : w6.frozen? ⟨w.heap.size + 1, 0, none⟩ = false := (by rw [hgrow.frozen_far _ (by simp; omega) (fun e => by have := owns_block P1.out _ e.symm; simp at this), World.frozen?_alloc_old _ _ _ (by simp; omega)]; exact c1f); have c7 : w6.cell? ⟨w.heap.size, 0, none⟩ = some (.slice none 0 0) := (by rw [hgrow.cell_far _ (by simp; omega) (fun e => by have := owns_block P1.out _ e.symm; simp at this; omega), World.cell?_alloc_lt _ _ _ (by simp; omega)]; exact c2); have c7f : w6.frozen? ⟨w.heap.size, 0, none⟩ = false := (by rw [hgrow.frozen_far _ (by simp; omega) (fun e => by have := owns_block P1.out _ e.symm; simp at this; omega), World.frozen?_alloc_old _ _ _ (by simp; omega)]; exact c2f))
        have hob := owns_block P1.out
        have hsz6 := hgrow.size
        simp only [World.size_alloc] at hsz6
        have hsn := ThrAt.snoc HT.out (rows := rows) (lv := .slice none 0 0) (c := []) (by rw [← HTe.out, HTl.out]; exact P1.out) ⟨⟨rfl, Or.inl ⟨rfl, rfl⟩⟩, fun h e => by cases e⟩ (grown_alloc (grown_refl _ _)) hgrow (tv' := .slice (some ⟨g6, 0, none⟩) (0 + 1) cap6) (by rw [← HTe.out, HTl.out]; exact hown6) (by omega) (owns_lt hown6)
        rw [← HPN.out] at hsn
        refine bodyPost_ret (v := .agg #[.slice (some ⟨g6, 0, none⟩) (0 + 1) cap6]) ?_ rfl ⟨_, rfl, ?_, ?_⟩
        · simp [results, Tryd.results15, go_sem, c7]
        · exact ((hsn.step grown_set (fun q e => by cases e; exact Or.inl (by omega))).step grown_set (fun q e => by cases e; exact Or.inl (by omega))).mono (by simp)
        · exact grown_setNew (grown_setNew (grown_row (grown_alloc J4.out) hgrow (fun q e => by have := hob q e; omega)) (by omega)) (by omega)
      · have HPN : Hid (progN raw = thrN raw 4) := by
          unfold Hid progN
          have e : (thrN raw 4).length ≠ 0 := by rw [← HTe.out, HTl.out]; exact h0
          rw [if_neg e]
        have hne : ((tvn : Int) == 0) = false := by simpa using h0
        by_cases hlt : tvn < raw.length
        · have g1 : (tvn : Int) < raw.length := by omega
          have g2 : (4 : Int) ≤ tvn := by
            by_cases e : tvn < 4
            · exact absurd ⟨hlt, e⟩ HNG.out
            · omega
          go_wp2_with fail
          rw [HPN.out]
          refine bodyPost_ret (v := .agg #[.slice tva tvn tvc]) ?_ rfl ⟨_, rfl, ?_, ?_⟩
          · simp [results, Tryd.results15, go_sem, c2]
          · exact (HT.out.step grown_set (fun q e => by cases e; exact Or.inl (by omega))).mono (by simp)
          · exact grown_setNew J4.out (by omega)
        · have g1 : (raw.length : Int) ≤ tvn := by omega
          go_wp2_with fail
          rw [HPN.out]
          refine bodyPost_ret (v := .agg #[.slice tva tvn tvc]) ?_ rfl ⟨_, rfl, ?_, ?_⟩
          · simp [results, Tryd.results15, go_sem, c2]
          · exact (HT.out.step grown_set (fun q e => by cases e; exact Or.inl (by omega))).mono (by simp)
          · exact grown_setNew J4.out (by omega)

theorem program_m (raw : List (List Int)) (rv : Value) (w : World) (hR : RawAt w rv raw) (hb : ∀ t (ht : t < raw.length) k (hk : k < raw[t].length), isInt raw[t][k]) :
    Calls Tryd.prog 15 #[rv] w fun e w' => ∃ tv, e = .returned (.agg #[tv]) ∧ ProgAt w' (.agg #[tv]) (progN raw) ∧ w.grownBy w' none :=
  (program_t raw rv w hR hb).mono fun _ _ ⟨tv, h1, h2, h3⟩ => ⟨tv, h1, h2.progAt, h3⟩

end Go.Proofs.YtklenjmfalljgaaDoor

/- On beginnings of runs. -/
namespace Go.Proofs.YtklenjmfalljgaaDoor

theorem follow_fst (p : List (List Ins)) : ∀ (l : List Int) (i : Int) (s : St) (acc : List (Int × Int)), ∃ m, m ≤ l.length ∧ (follow p l i s acc).steps.map (·.1) = acc.map (·.1) ++ l.take m ∧ acc.length + m = (follow p l i s acc).steps.length ∧ ∃ more, (follow p l i s acc).steps = acc ++ more
  | [], i, s, acc => ⟨0, Nat.le_refl _, by simp [follow_nil], by simp [follow_nil], [], by simp [follow_nil]⟩
  | t :: r, i, s, acc => by
    by_cases h1 : okAt p s t = true
    · by_cases h2 : (stepS p s t.toNat).1 = true
      · rw [follow_go p t r i s acc h1 h2]
        obtain ⟨m, q1, q2, q3, more, q4⟩ := follow_fst p r (i + 1) (stepS p s t.toNat).2 (acc ++ [(t, s.next t.toNat)])
        refine ⟨m + 1, by simp; omega, by rw [q2]; simp, by rw [← q3]; simp; omega, (t, s.next t.toNat) :: more, by rw [q4]; simp⟩
      · have h3 : (stepS p s t.toNat).1 = false := by simpa using h2
        rw [follow_fail p t r i s acc h1 h3]
        exact ⟨1, by simp, by simp, by simp, _, rfl⟩
    · have h3 : okAt p s t = false := by simpa using h1
      rw [follow_wrong p t r i s acc h3]
      exact ⟨0, by simp, by simp, by simp, [], by simp⟩

theorem sched_fst {p : List (List Ins)} {a : List Int} (h : Sched p a) : (runS p a).steps.map (·.1) = a := by
  obtain ⟨m, q1, q2, q3, _⟩ := follow_fst p a 0 St.zero []
  have h2 := h.2
  unfold runS at *
  simp at q2 q3
  have : m = a.length := by omega
  rw [q2, this]; simp

theorem stp_steps {p : List (List Ins)} {a b : List Int} {s' : St} {acc' : List (Int × Int)} (h : stp p a St.zero [] = some (s', acc')) : ∃ more, (runS p (a ++ b)).steps = acc' ++ more := by
  have e : runS p (a ++ b) = follow p b (0 + a.length) s' acc' := follow_stp p a b 0 St.zero [] s' acc' h
  obtain ⟨_, _, _, _, more, q⟩ := follow_fst p b (0 + a.length) s' acc'
  exact ⟨more, by rw [e]; exact q⟩

/-- A beginning of such a schedule goes through, and the next number may go on. -/
theorem sched_prefix {p : List (List Ins)} {a : List Int} (h : Sched p a) {k : Nat} (hk : k < a.length) :
    ∃ s' acc', stp p (a.take k) St.zero [] = some (s', acc') ∧ acc' = (runS p a).steps.take k ∧ okAt p s' a[k] = true := by
  have ea : a = a.take k ++ a.drop k := (List.take_append_drop k a).symm
  have ed : a.drop k = a[k] :: a.drop (k + 1) := List.drop_eq_getElem_cons hk
  have hlk : (a.take k).length = k := by simp; omega
  cases hs : stp p (a.take k) St.zero [] with
  | none =>
    exfalso
    have e1 := (follow_none p (a.take k) (a.drop k) 0 St.zero [] hs).1
    rw [← ea] at e1
    obtain ⟨m, q1, _, q3, _⟩ := follow_fst p (a.take k) 0 St.zero []
    have h2 := h.2
    unfold runS at h2
    rw [e1, ← q3] at h2
    simp at h2 q1
    omega
  | some x =>
    obtain ⟨s', acc'⟩ := x
    have hl := stp_len p _ _ _ _ _ hs
    have e1 : runS p a = follow p (a.drop k) (0 + (a.take k).length) s' acc' := by
      have := follow_stp p (a.take k) (a.drop k) 0 St.zero [] s' acc' hs
      rw [← ea] at this; exact this
    refine ⟨s', acc', rfl, ?_, ?_⟩
    · obtain ⟨more, q⟩ := stp_steps (b := a.drop k) hs
      rw [← ea] at q
      rw [q, List.take_left' (by simpa [hlk] using hl)]
    · cases ho : okAt p s' a[k] with
      | true => rfl
      | false =>
        exfalso
        rw [ed, follow_wrong p _ _ _ _ _ ho] at e1
        have := h.1
        rw [e1] at this
        exact this rfl

/-- The beginning: its run. -/
theorem cut_run {p : List (List Ins)} {a : List Int} (h : Sched p a) {k : Nat} (hk : k ≤ a.length) :
    (runS p (a.take k)).steps = (runS p a).steps.take k ∧ (k < a.length → (runS p (a.take k)).kind = 5 ∧ (runS p (a.take k)).thread = 0 ∧ (runS p (a.take k)).at_ = 0) := by
  by_cases hlt : k < a.length
  · obtain ⟨s', acc', h1, h2, h3⟩ := sched_prefix h hlt
    rw [run_stp h1]
    refine ⟨h2, fun _ => ⟨?_, rfl, rfl⟩⟩
    simp only [okAt, Bool.and_eq_true, belowB, decide_eq_true_eq] at h3
    have hr : (List.range p.length).any (readyB p s') = true := List.any_eq_true.2 ⟨a[k].toNat, List.mem_range.2 (by omega), h3.2⟩
    simp [endingS, hr]
  · have e : k = a.length := by omega
    subst e
    have := h.2
    refine ⟨?_, fun h => absurd h hlt⟩
    rw [List.take_length, List.take_of_length_le (by omega)]

/-- With a number that is nobody's in between. -/
theorem cut_wrong {p : List (List Ins)} {a : List Int} (h : Sched p a) {k : Nat} (hk : k ≤ a.length) (x : Int) (hx : x < 0 ∨ (p.length : Int) ≤ x) :
    ((runS p (a.take k)).kind = 1 → runS p (a.take k ++ [x] ++ a.drop k) = runS p (a.take k)) ∧
    ((runS p (a.take k)).kind ≠ 1 → runS p (a.take k ++ [x] ++ a.drop k) = ⟨(runS p (a.take k)).steps, 2, 0, k, (runS p (a.take k)).st⟩) := by
  have hlk : (a.take k).length = k := by simp; omega
  cases hs : stp p (a.take k) St.zero [] with
  | none =>
    have e1 := follow_none p (a.take k) ([x] ++ a.drop k) 0 St.zero [] hs
    rw [← List.append_assoc] at e1
    refine ⟨fun _ => e1.1, fun hne => ?_⟩
    exfalso
    have hk2 : (runS p (a.take k)).kind = 2 := by
      rcases e1.2 with e | e
      · exact absurd e hne
      · exact e
    by_cases hlt : k < a.length
    · obtain ⟨s', acc', h1, _⟩ := sched_prefix h hlt
      rw [hs] at h1; cases h1
    · have e : k = a.length := by omega
      subst e
      rw [List.take_length] at hk2
      exact h.1 hk2
  | some y =>
    obtain ⟨s', acc'⟩ := y
    have er := run_stp hs
    have e1 : runS p (a.take k ++ [x] ++ a.drop k) = follow p ([x] ++ a.drop k) (0 + (a.take k).length) s' acc' := by
      rw [List.append_assoc]
      exact follow_stp p (a.take k) ([x] ++ a.drop k) 0 St.zero [] s' acc' hs
    have ho : okAt p s' x = false := by
      simp only [okAt, belowB, Bool.and_eq_false_iff, decide_eq_false_iff_not]
      left; omega
    have hend := endingS_range p s'
    rw [er]
    refine ⟨fun h1 => by simp only at h1; omega, fun _ => ?_⟩
    rw [e1, List.singleton_append, follow_wrong p x _ _ s' acc' ho, hlk]
    simp

end Go.Proofs.YtklenjmfalljgaaDoor

/- The walk of Cut. -/
namespace Go.Proofs.YtklenjmfalljgaaDoor
open Go.RowKit
attribute [local go_sem] Go.World.cell?_alloc_some run_eq4

theorem flatS_get : ∀ (l : List (Int × Int)) (j : Nat) (hj : j < l.length), (flatS l)[j * 2]? = some (.int .i64 l[j].1) ∧ (flatS l)[j * 2 + 1]? = some (.int .i64 l[j].2)
  | [], j, hj => by simp at hj
  | x :: l, 0, hj => by simp [flatS]
  | x :: l, j + 1, hj => by
    have h := flatS_get l j (by simpa using hj)
    have e : flatS (x :: l) = [.int .i64 x.1, .int .i64 x.2] ++ flatS l := by simp [flatS]
    have e2 : ∀ q, (flatS (x :: l))[(j + 1) * 2 + q]? = (flatS l)[j * 2 + q]? := fun q => by
      rw [e, List.getElem?_append_right (by simp; omega)]
      congr 1
      simp; omega
    refine ⟨?_, ?_⟩
    · have := e2 0; simp only [Nat.add_zero] at this; rw [this]; simpa using h.1
    · rw [e2 1]; simpa using h.2

theorem ints_take {a : List Int} {k j : Nat} {u : Value} (h : (ints (a.take k))[j]? = some u) : (ints a)[j]? = some u := by
  have hj := (List.getElem?_eq_some_iff.1 h).1
  rw [ints_len] at hj
  have hj2 : j < k ∧ j < a.length := by simp at hj; omega
  simp only [ints, List.getElem?_map, List.getElem?_take] at h ⊢
  simpa [hj2.1] using h
theorem ints_drop {a : List Int} {k j : Nat} {u : Value} (h : (ints (a.drop k))[j]? = some u) : (ints a)[k + j]? = some u := by
  simpa [ints, List.getElem?_drop] using h

/-- The cells of a row of steps. -/
theorem step_cells {w : World} {base : Nat} {ao : Option Addr} {n c m : Nat} {l : List (Int × Int)} (h : w.ownsRow base 48 2 (.slice ao n c) m (flatS l)) (hm : m = l.length) {j : Nat} (hj : j < l.length) :
    ∃ g, ao = some ⟨g, 0, none⟩ ∧ g < w.heap.size ∧ w.cell? ⟨g, j * 2, none⟩ = some (.int .i64 l[j].1) ∧ w.cell? ⟨g, j * 2 + 1, none⟩ = some (.int .i64 l[j].2) := by
  obtain ⟨g, cap, e, _, hlt⟩ := h.form (by omega)
  simp at e
  obtain ⟨rfl, rfl, rfl⟩ := e
  have q := flatS_get l j hj
  exact ⟨g, rfl, hlt, by rw [h.cellAt _ (by omega)]; exact q.1, by rw [h.cellAt _ (by omega)]; exact q.2⟩

theorem int_cell {w : World} {base : Nat} {ao : Option Addr} {n c m : Nat} {l : List Int} (h : w.ownsRow base 3 1 (.slice ao n c) m (ints l)) (hm : m = l.length) {j : Nat} (hj : j < l.length) :
    ∃ g, ao = some ⟨g, 0, none⟩ ∧ g < w.heap.size ∧ w.cell? ⟨g, j, none⟩ = some (.int .i64 l[j]) := by
  obtain ⟨g, cap, e, _, hlt⟩ := h.form (by omega)
  simp at e
  obtain ⟨rfl, rfl, rfl⟩ := e
  exact ⟨g, rfl, hlt, by rw [h.cellAt _ (by omega)]; simp [ints, hj]⟩

set_option maxHeartbeats 8000000 in
set_option maxRecDepth 100000 in
theorem cut_m (raw : List (List Int)) (ch : List Int) (at_ wrong : Int) (rawv chv : Value) (w : World) (hS : ShpAt w) (hR : RawAt w rawv raw) (hbR : ∀ t (ht : t < raw.length) k (hk : k < raw[t].length), isInt raw[t][k])
    (hC : IntsAt w.heap.size w chv ch) (hbC : ∀ k (hk : k < ch.length), -9223372036854775808 ≤ ch[k] ∧ ch[k] ≤ 9223372036854775807) (hat : isInt at_) (hwr : isInt wrong) :
    Calls Tryd.prog 5 #[rawv, chv, .int .i64 at_, .int .i64 wrong] w fun e w' => e = .returned (.bool true) ∧ w.grownBy w' none := by
  obtain ⟨i0, hi0, hz0, hz1, hz2⟩ := info_parts info_int
  have HSh := hide hS
  have HC := hide hC
  have HBC := hide hbC
  have HA := hide hat
  have HW := hide hwr
  have HPR := hide (program_m raw rawv w hR hbR)
  have hvp := progN_valid raw
  clear hS hR hbR hC hbC hat hwr
  generalize progN raw = p at *
  have HVP := hide hvp
  have hlen := vProg_len hvp
  clear hvp
  go_enter Tryd.func5, Tryd.ntmps5
  go_wp2_with fail
  refine HPR.out.mono ?_
  clear HPR
  rintro e w1 ⟨tv, rfl, hP, hg1⟩
  have hform := hP.form
  obtain ⟨pao, pcap, htv⟩ := hform
  have htv2 : tv = .slice pao p.length pcap := by simpa using htv
  subst htv2
  have HP1 := hide hP
  have HG1 := hide hg1
  have hs1 := hg1.size
  clear hP hg1 htv
  go_wp2_with fail
  have HSC := hide (schedule_m p ch (.agg #[.slice pao p.length pcap]) chv (w1.alloc (.cells #[.slice pao p.length pcap] 25)) (HSh.out.pres (pres_grown (grown_alloc HG1.out))) HVP.out (HP1.out.pres (pres_grown (grown_alloc (grown_refl _ _)))) ((HC.out.pres (pres_grown (grown_alloc HG1.out))).mono (by simp; omega)) HBC.out)
  refine HSC.out.mono ?_
  clear HSC
  rintro e w2 ⟨sv, rv, a, rfl, hrow, ⟨st, gt, rfl, ho1, ho2⟩, hsd, h200, _, hg2⟩
  have HSD := hide hsd
  have hsz2 : w1.heap.size + 1 ≤ w2.heap.size := by have := hg2.size; simpa using this
  obtain ⟨s1, s2, s3, rfl⟩ := owns_form hrow
  have e2 := owns_lenq hrow
  subst e2
  obtain ⟨x1, x2, x3, rfl⟩ := owns_form ho1
  have e3 := (owns_lenq ho1).trans hsd.2
  subst e3
  obtain ⟨y1, y2, y3, rfl⟩ := owns_form ho2
  have HRow := hide hrow
  have HO1 := hide ho1
  have HPB : Hid (w2.heap[w1.heap.size]? = some (.cells #[.slice pao p.length pcap] 25 (0, 0))) := by
    unfold Hid; rw [hg2.block _ (by simp) (by simp)]; exact heap_alloc_new w1 _
  have HG2 : Hid (w.grownBy w2 none) := grown_trans (grown_alloc HG1.out) hg2
  have HGW : Hid ((w1.alloc (.cells #[.slice pao p.length pcap] 25)).grownBy w2 none) := hg2
  have HII := hide (owns_ints hrow)
  have hcap : a.length ≤ s3 := by
    obtain ⟨ao', cap', e, hc, _⟩ := HII.out
    simp at e; omega
  clear hrow ho1 ho2 hsd hg2
  obtain ⟨k, hk⟩ := Int.eq_ofNat_of_zero_le (pickN_range at_ (a.length + 1) (by omega)).1
  have hk2 : k ≤ a.length := by have := (pickN_range at_ (a.length + 1) (by omega)).2; omega
  have HPK := hide (pick_m at_ (a.length + 1) (by omega) (by omega) HA.out.1 HA.out.2)
  rw [hk] at HPK
  clear hk
  go_wp2_with fail
  refine (HPK.out _).mono ?_
  clear HPK
  rintro e w3 ⟨rfl, rfl⟩
  have q0 : (0 : Int) ≤ (k : Int) := by omega
  have q1 : (k : Int) ≤ a.length := by omega
  have q2 : (a.length : Int) ≤ s3 := by omega
  have q3 : (k : Int) ≤ s3 := by omega
  go_wp2_with fail
  generalize hw3 : w2.alloc (Obj.cells #[Value.int IntKind.i64 (runS p a).kind, Value.int IntKind.i64 (runS p a).thread, Value.int IntKind.i64 (runS p a).at_, Value.slice x1 a.length x3, Value.int IntKind.i64 ((runS p a).st.vars 0), Value.int IntKind.i64 ((runS p a).st.vars 1), Value.int IntKind.i64 ((runS p a).st.vars 2), Value.int IntKind.i64 ((runS p a).st.vars 3), Value.slice y1 y2 y3] 37) = w3
  have hsz3 : w3.heap.size = w2.heap.size + 1 := by rw [← hw3]; simp
  have HG23 : Hid (w2.grownBy w3 none) := by unfold Hid; rw [← hw3]; exact grown_alloc (grown_refl _ _)
  have HRB : Hid (w3.heap[w2.heap.size]? = some (.cells (resCells (runS p a) (.slice x1 a.length x3) (.slice y1 y2 y3)) 37 (0, 0))) := by
    unfold Hid; rw [← hw3]; exact heap_alloc_new w2 _
  have hpb : w3.cell? ⟨w1.heap.size, 0, none⟩ = some (.slice pao p.length pcap) := by
    rw [World.cell?_of_block (HG23.out.block _ (by simp; omega) (by simp))]
    simp [World.cell?, HPB.out]
  clear hw3
  have HSZ3 := hide hsz3
  clear hsz3
  have hsz3 : w2.heap.size < w3.heap.size := by rw [HSZ3.out]; omega
  -- the beginning of s, as it lies
  have HTK : Hid (IntsAt w2.heap.size w2 (.slice s1 k s3) (a.take k)) := by
    obtain ⟨ao', cap', e, hc, h⟩ := HII.out
    simp at e
    obtain ⟨rfl, rfl⟩ := e
    refine ⟨s1, s3, by simp; omega, by simp; omega, fun j hj => ?_⟩
    have hj2 : j < a.length := by simp at hj; omega
    obtain ⟨g, o, e1, e2, e3⟩ := h j hj2
    exact ⟨g, o, e1, e2, by simpa using e3⟩
  have HALL : Hid (∀ u, w3.grownBy u none → Calls Tryd.prog 16 #[.agg #[.slice pao p.length pcap], .slice s1 k s3] u (Replayed p (a.take k) u)) := fun u hu => by
    have hg : w2.grownBy u none := grown_trans HG23.out hu
    exact replay_m p (a.take k) _ _ u (HSh.out.pres (pres_grown (grown_trans HG2.out hg))) (HP1.out.pres (pres_grown (grown_trans (grown_trans (grown_alloc (grown_refl _ _)) (HGW.out)) hg))) ((HTK.out.pres (pres_grown hg)).mono (by have := hg.size; omega))
  have hne31 : w3.heap.size ≠ w1.heap.size := by omega
  have htk : (a.take k).length ≤ 500 := by rw [List.length_take]; omega
  go_cut [14, 15] (fun xb ev w' => ev = .int .i64 0 ∧ ∃ b, xb = .pointer (some ⟨b, 0, none⟩) ∧ Hid (w3.grownBy w' none ∧ w3.heap.size ≤ b ∧ ∃ sx gx, w'.heap[b]? = some (.cells (resCells (runS p (a.take k)) sx gx) 37 (0, 0)) ∧ w'.ownsRow w3.heap.size 48 2 sx (runS p (a.take k)).steps.length (flatS (runS p (a.take k)).steps)))
  case first =>
    go_region_held3 (fun u => u.cell? ⟨w1.heap.size, 0, none⟩ = some (.slice pao p.length pcap)) (go_keep)
      (first
        | (go_at_call 16; refine (HALL.out _ (grown_drew (grown_refl _ _))).mono ?_; rintro e w5 ⟨hg5, h5⟩; rcases h5 with ⟨_, rv5, rfl, sx, gx, rfl, ho5, hp5⟩ | ⟨h5, _⟩; (case inr => exact absurd (checkRun_ok HVP.out htk) h5); have s5 : w5.cell? ⟨w1.heap.size, 0, none⟩ = some (.slice pao p.length pcap) := (pres_grown hg5 _ _ (by simp [go_sem, hpb])); obtain ⟨z1, z2, z3, rfl⟩ := owns_form ho5; obtain ⟨z4, z5, z6, rfl⟩ := owns_form hp5)
        | (go_at_call 16; refine (HALL.out _ (grown_drew (grown_alloc (grown_refl _ _)))).mono ?_; rintro e w5 ⟨hg5, h5⟩; rcases h5 with ⟨_, rv5, rfl, sx, gx, rfl, ho5, hp5⟩ | ⟨h5, _⟩; (case inr => exact absurd (checkRun_ok HVP.out htk) h5); have s5 : w5.cell? ⟨w1.heap.size, 0, none⟩ = some (.slice pao p.length pcap) := (pres_grown hg5 _ _ (by simp [go_sem, hpb])); obtain ⟨z1, z2, z3, rfl⟩ := owns_form ho5; obtain ⟨z4, z5, z6, rfl⟩ := owns_form hp5; have hX : w5.heap[w3.heap.size]? = some (.cells zeroRes 37 (0, 0)) := (by rw [hg5.block _ (by simp) (by simp)]; exact heap_alloc_new w3 _); obtain ⟨m0, m1, m2, m3, m4, m5, m6, m7, m8, mf⟩ := nine_cells hX; have mf0 := mf 0; have mf1 := mf 1; have mf2 := mf 2; have mf3 := mf 3; have mf4 := mf 4; have mf5 := mf 5; have mf6 := mf 6; have mf7 := mf 7; have mf8 := mf 8; clear mf))
    all_goals (try go_wp2_with fail)
    all_goals go_meet
    · exact ⟨rfl, _, rfl, grown_alloc (grown_trans (grown_drew (grown_refl _ _)) hg5), (by have := hg5.size; simpa using this), _, _, heap_alloc_new w5 _, owns_alloc (owns_mono ho5 (by simp))⟩
    · refine ⟨rfl, _, rfl, ?_, Nat.le_refl _, _, _, set9 hX, ?_⟩
      · iterate 9 refine grown_setNew ?_ (by omega)
        exact grown_trans (grown_drew (grown_alloc (grown_refl _ _))) hg5
      · refine owns_mono (base := w3.heap.size + 1) ?_ (by omega)
        iterate 9 refine ownsRow_setCell_below ?_ (by simp) _
        exact owns_mono ho5 (by simp)
  case rest =>
    obtain ⟨rfl, xb, rfl, HX⟩ := hcut
    obtain ⟨hgx, hxb, sx, gx, hxc, hxo⟩ := HX.out
    obtain ⟨z1, kk, z3, rfl⟩ := owns_form hxo
    have ez := owns_lenq hxo
    obtain ⟨hck, hcv⟩ := cut_run HSD.out hk2
    have hlk : (runS p (a.take k)).steps.length = k := by rw [hck]; simp [HSD.out.2]; omega
    rw [hlk] at ez
    subst ez
    obtain ⟨n0, n1, n2, n3, n4, n5, n6, n7, n8, _⟩ := nine_cells hxc
    have hrbc : wc.heap[w2.heap.size]? = some (.cells (resCells (runS p a) (.slice x1 a.length x3) (.slice y1 y2 y3)) 37 (0, 0)) := by
      rw [hgx.block _ (by omega) (by simp)]; exact HRB.out
    obtain ⟨r0, r1, r2, r3, r4, r5, r6, r7, r8, _⟩ := nine_cells hrbc
    have HGX := hide hgx
    have HXO := hide hxo
    have HXC := hide hxc
    have HCK := hide hck
    have HCV := hide hcv
    clear HX hgx hxo hck hcv hrbc hxc HALL
    go_wp2_with fail
    go_loopw [16] (fun i w' => ∃ j : Nat, j ≤ kk ∧ i = .int .i64 j ∧ Hid (Like w' wc)) (fun i _ => kk - (intOf i).toNat)
    case atStart => exact ⟨0, Nat.zero_le _, rfl, rfl, rfl, rfl, rfl⟩
    case round =>
      obtain ⟨j, hj, rfl, HL⟩ := hrel
      have cL : ∀ x, wr.cell? x = wc.cell? x := fun x => by simp [World.cell?, HL.out.1]
      by_cases hlt : j < kk
      · have hjs : j < (runS p a).steps.length := by have := HSD.out.2; omega
        have hj2 : j < (runS p (a.take kk)).steps.length := by omega
        obtain ⟨g1, rfl, _, u1, u2⟩ := step_cells HXO.out rfl hj2
        obtain ⟨g2, rfl, hg2, u3, u4⟩ := step_cells HO1.out rfl hjs
        obtain ⟨g3, rfl, hg3, u5⟩ := int_cell HRow.out rfl (by omega : j < a.length)
        have e1 : (runS p (a.take kk)).steps[j] = (runS p a).steps[j] := by simp [HCK.out]
        have e2 : a[j] = ((runS p a).steps[j]).1 := by
          have h := sched_fst HSD.out
          have h2 : ((runS p a).steps.map (·.1))[j]? = a[j]? := by rw [h]
          rw [List.getElem?_map, List.getElem?_eq_getElem hjs, List.getElem?_eq_getElem (by omega : j < a.length)] at h2
          simpa using h2.symm
        rw [e1] at u1 u2
        rw [e2] at u5
        have hgc : w2.grownBy wc none := grown_trans HG23.out HGX.out
        have t3 := pres_grown hgc _ _ u3
        have t4 := pres_grown hgc _ _ u4
        have t5 := pres_grown hgc _ _ u5
        generalize ((runS p a).steps[j]).1 = T at *
        generalize ((runS p a).steps[j]).2 = A at *
        have q5 : (0 : Int) ≤ (j : Int) := by omega
        have q6 : (j : Int) < kk := by omega
        have q7 : (j : Int) < a.length := by omega
        have v1 : wr.cell? ⟨g1, j * 2, none⟩ = some (.int .i64 T) := by rw [cL]; exact u1
        have v2 : wr.cell? ⟨g1, j * 2 + 1, none⟩ = some (.int .i64 A) := by rw [cL]; exact u2
        have v3 : wr.cell? ⟨g2, j * 2, none⟩ = some (.int .i64 T) := by rw [cL]; exact t3
        have v4 : wr.cell? ⟨g2, j * 2 + 1, none⟩ = some (.int .i64 A) := by rw [cL]; exact t4
        have v5 : wr.cell? ⟨g3, j, none⟩ = some (.int .i64 T) := by rw [cL]; exact t5
        have v6 : wr.cell? ⟨xb, 3, none⟩ = some (.slice (some ⟨g1, 0, none⟩) kk z3) := by rw [cL]; exact n3
        have v7 : wr.cell? ⟨w2.heap.size, 3, none⟩ = some (.slice (some ⟨g2, 0, none⟩) a.length x3) := by rw [cL]; exact r3
        clear e1 e2 u1 u2 u3 u4 u5 t3 t4 t5 hgc cL n0 n1 n2 n3 n4 n5 n6 n7 n8 r0 r1 r2 r3 r4 r5 r6 r7 r8
        go_wp2_with fail
        go_quiet (fail)
        go_wp2
        go_roundw
        case rel => exact ⟨j + 1, by omega, by go_num, HL.out⟩
        case measure => simp [intOf]; omega
      · have ejk : j = kk := by omega
        have q5 : (kk : Int) ≤ (j : Int) := by omega
        clear ejk hj
        obtain ⟨w6, hw6⟩ : ∃ w6, w6 = wr := ⟨_, rfl⟩
        subst hw6
        have m3 : w6.cell? ⟨xb, 3, none⟩ = some (.slice z1 kk z3) := by rw [cL]; exact n3
        have m0 : w6.cell? ⟨xb, 0, none⟩ = some (.int .i64 (runS p (a.take kk)).kind) := by rw [cL]; exact n0
        have m1 : w6.cell? ⟨xb, 1, none⟩ = some (.int .i64 (runS p (a.take kk)).thread) := by rw [cL]; exact n1
        have m2 : w6.cell? ⟨xb, 2, none⟩ = some (.int .i64 (runS p (a.take kk)).at_) := by rw [cL]; exact n2
        have HXC6 : Hid (w6.heap[xb]? = some (.cells (resCells (runS p (a.take kk)) (.slice z1 kk z3) gx) 37 (0, 0))) := by
          unfold Hid; rw [HL.out.1]; exact HXC.out
        have HG26 : Hid (w2.grownBy w6 none) := grown_like (grown_trans HG23.out HGX.out) HL.out
        have hxl : xb < w6.heap.size := (Array.getElem?_eq_some_iff.1 HXC6.out).1
        have hpb6 : w6.cell? ⟨w1.heap.size, 0, none⟩ = some (.slice pao p.length pcap) := by
          rw [cL]; exact pres_grown HGX.out _ _ hpb
        have HR6 : Hid (w6.ownsRow (w1.heap.size + 1) 3 1 (.slice s1 a.length s3) a.length (ints a)) := by
          have h := owns_grown HRow.out HG26.out (fun _ e => by cases e)
          unfold Hid
          simpa using h
        have HN1 : Hid (s1 = none → a.length = 0 ∧ s3 = 0) := fun e => by
          rcases HR6.out.2 with ⟨e1, e2⟩ | ⟨g, c, cur, hv, _⟩
          · simp at e1; exact ⟨e2, e1.2.2⟩
          · rw [e] at hv; simp at hv
        have HN2 : Hid (∀ ad, s1 = some ad → ∃ g, ad = ⟨g, 0, none⟩ ∧ g < w6.heap.size ∧ ∀ j u, (ints a)[j]? = some u → w6.cell? ⟨g, j, none⟩ = some u) := fun ad e => by
          rcases HR6.out.2 with ⟨e1, e2⟩ | ⟨g, c, cur, hv, _, hh, _⟩
          · rw [e] at e1; simp at e1
          · rw [e] at hv
            simp at hv
            obtain ⟨rfl, rfl⟩ := hv
            have hcu := HR6.out
            rw [e] at hcu
            refine ⟨g, rfl, (Array.getElem?_eq_some_iff.1 hh).1, fun j u hu => ?_⟩
            have hjl := (List.getElem?_eq_some_iff.1 hu).1
            rw [ints_len] at hjl
            rw [hcu.cellAt j (by omega)]; exact hu
        clear cL n0 n1 n2 n3 n4 n5 n6 n7 n8 r0 r1 r2 r3 r4 r5 r6 r7 r8 HL hpb
        have HSO : Hid (s1 = none → kk = 0 ∧ s3 = 0) := fun e => by have := HN1.out e; omega
        have HNW : Hid (∀ ad, s1 = some ad → ∀ j u, (ints (a.take kk))[j]? = some u → w6.cell? (ad.add j) = some u) := fun ad e j u hu => by
          obtain ⟨g, rfl, _, h⟩ := HN2.out ad e
          have hadd : (⟨g, 0, none⟩ : Addr).add j = ⟨g, j, none⟩ := by unfold Addr.add; split <;> simp_all
          rw [hadd]; exact h j u (ints_take hu)
        have hilk : (ints (a.take kk)).length = kk * 1 := by rw [ints_len, List.length_take]; omega
        have h63 : 0 + kk ≤ maxLen := by unfold maxLen; omega
        have hpw := pickN_range wrong 1000 (by omega)
        have HPW := hide (pick_m wrong 1000 (by omega) (by omega) HW.out.1 HW.out.2)
        have HM0 := hide m0
        have HM1 := hide m1
        have HM2 := hide m2
        clear m0 m1 m2 m3
        go_upto_region 14 with fail
        go_cut [92] (fun b w' => b = .bool false ∧ w' = w6)
        case first =>
          have m0 := HM0.out
          have m1 := HM1.out
          have m2 := HM2.out
          by_cases hfull : kk < a.length
          · obtain ⟨f1, f2, f3⟩ := HCV.out hfull
            rw [f1] at m0
            rw [f2] at m1
            rw [f3] at m2
            have q6 : (kk : Int) < a.length := by omega
            clear f1 f2 f3 HM0 HM1 HM2
            go_wp2
            go_meet
            exact ⟨rfl, rfl⟩
          · have q6 : (a.length : Int) ≤ kk := by omega
            go_wp2
            go_meet
            exact ⟨rfl, rfl⟩
        case rest =>
        obtain ⟨rfl, hwc⟩ := hcut
        have hwc2 := hwc.symm
        subst hwc2
        clear HM0 HM1 HM2
        go_upto_if 102 with (first
          | (at_builtin; refine wpList_append_any rfl _ _ _ rfl w6.heap.size 3 i0 _ 1 8 Tryd.underlying22 hi0 hz0 hz1 hz2 rfl (by omega) (.slice none 0 0) 0 [] rfl ⟨rfl, Or.inl ⟨rfl, rfl⟩⟩ s1 kk s3 (ints (a.take kk)) rfl hilk HSO.out HNW.out (ints_one _) h63 (by omega) (Nat.le_refl _) ?_; intro ta tn tc w7 hown7 hg7)
          | (go_at_call 12; refine (HPW.out _).mono ?_; rintro e w8 ⟨rfl, hw8⟩; have hw9 := hw8.symm; subst hw9))
        go_cut [18] (fun xv w' => (∃ y : Int, xv = .int .i64 y ∧ (y < 0 ∨ (p.length : Int) ≤ y)) ∧ w' = w7)
        case first =>
          by_cases hng : wrong < 0
          · go_wp2_with (go_at_call 12; refine (HPW.out _).mono ?_; rintro e w8 ⟨rfl, hw8⟩; have hw9 := hw8.symm; subst hw9)
            go_meet
            exact ⟨⟨_, rfl, by omega⟩, rfl⟩
          · go_wp2_with fail
            go_meet
            exact ⟨⟨_, rfl, by omega⟩, rfl⟩
        case rest =>
        obtain ⟨⟨x, rfl, hxx⟩, hwc⟩ := hcut
        have hwc2 := hwc.symm
        subst hwc2
        have HXX := hide hxx
        clear hpw HPW hxx
        simp only [Nat.zero_add, List.nil_append] at hown7
        have c7 : w7.cell? ⟨w1.heap.size, 0, none⟩ = some (.slice pao p.length pcap) := pres_grown hg7 _ _ hpb6
        have h63b : kk + 1 ≤ maxLen := by unfold maxLen; omega
        have hs7 := hg7.size
        go_upto_region 22 with (at_builtin; refine wpList_append_lies _ rfl _ _ _ rfl w6.heap.size 3 i0 _ 1 8 Tryd.underlying22 hi0 hz0 hz1 hz2 rfl (by omega) (.slice ta tn tc) kk (ints (a.take kk)) rfl (owns_alloc hown7) ⟨w7.heap.size, 0, none⟩ 1 1 [.int .i64 x] rfl rfl (World.news_of_block (cs := #[.int .i64 x]) (t := 3) (fr := (0, 0)) (heap_alloc_new w7 _)) (by simp [Value.oneCell']) (by omega) h63b (by omega) (by simp; omega) (w7.heap.size + 1) (by simp) ?_; intro g8 cap8 w8 hown8 hgrow8 hat8 hlt8)
        have HO8 := hide hown8
        have HG68 : Hid (w6.grownBy w8 none) := grown_row (grown_alloc hg7) hgrow8 (fun q e => owns_block hown7 q e)
        have hs68 := HG68.out.size
        have hidl : (ints (a.drop kk)).length = (a.length - kk) * 1 := by rw [ints_len, List.length_drop]; omega
        have h63c : kk + 1 + (a.length - kk) ≤ maxLen := by unfold maxLen; omega
        have HSD1 : Hid (Option.map (fun x => x.add kk) s1 = none → a.length - kk = 0 ∧ s3 - kk = 0) := fun e => by
          have e1 : s1 = none := by simpa using e
          have := HN1.out e1; omega
        have HND1 : Hid (∀ ad, Option.map (fun x => x.add kk) s1 = some ad → ∀ j u, (ints (a.drop kk))[j]? = some u → w8.cell? (ad.add j) = some u) := fun ad e j u hu => by
          obtain ⟨ad0, e1, e2⟩ := Option.map_eq_some_iff.1 e
          obtain ⟨g, rfl, _, h⟩ := HN2.out ad0 e1
          have hadd : ((⟨g, 0, none⟩ : Addr).add kk).add j = ⟨g, kk + j, none⟩ := by
            have h1 : (⟨g, 0, none⟩ : Addr).add kk = ⟨g, kk, none⟩ := by unfold Addr.add; split <;> simp_all
            rw [h1]; unfold Addr.add; split <;> simp_all
          rw [← e2, hadd]
          exact pres_grown HG68.out _ _ (h (kk + j) u (ints_drop hu))
        clear hown8 hgrow8 hat8 hown7 hg7 c7
        go_cut [17] (fun tv w' => Hid (∃ tb tm td, tv = .slice tb tm td ∧ w'.ownsRow w6.heap.size 3 1 tv (kk + 1 + (a.length - kk)) (ints (a.take kk) ++ [.int .i64 x] ++ ints (a.drop kk)) ∧ w6.grownBy w' none))
        case first =>
          by_cases hsk : s3 - kk = 0
          · have hdr : a.drop kk = [] := List.drop_of_length_le (by omega)
            have HSD2 : Hid (s1 = none → a.length - kk = 0 ∧ s3 - kk = 0) := fun e => by have := HN1.out e; omega
            have HND2 : Hid (∀ ad, s1 = some ad → ∀ j u, (ints (a.drop kk))[j]? = some u → w8.cell? (ad.add j) = some u) := fun ad e j u hu => by rw [hdr] at hu; simp [ints] at hu
            have HSD3 : Hid (s1 = none → a.length - kk = 0 ∧ (0 : Nat) = 0) := fun e => ⟨(HSD2.out e).1, rfl⟩
            clear hdr
            go_wp2_with (at_builtin; refine wpList_append_any rfl _ _ _ rfl w6.heap.size 3 i0 _ 1 8 Tryd.underlying22 hi0 hz0 hz1 hz2 rfl (by omega) (.slice (some ⟨g8, 0, none⟩) (kk + 1) cap8) (kk + 1) (ints (a.take kk) ++ [.int .i64 x]) rfl HO8.out s1 (a.length - kk) 0 (ints (a.drop kk)) rfl hidl HSD3.out HND2.out (ints_one _) h63c (by omega) hs68 ?_; intro tb tm td w9 hown9 hg9)
            go_meet
            exact ⟨tb, tm, td, rfl, hown9, grown_row HG68.out hg9 (fun q e => by have := owns_block HO8.out q e; omega)⟩
          · have HSD2 := HSD1
            have HND2 := HND1
            go_wp2_with (first | (at_builtin; refine wpList_append_any rfl _ _ _ rfl w6.heap.size 3 i0 _ 1 8 Tryd.underlying22 hi0 hz0 hz1 hz2 rfl (by omega) (.slice (some ⟨g8, 0, none⟩) (kk + 1) cap8) (kk + 1) (ints (a.take kk) ++ [.int .i64 x]) rfl HO8.out (Option.map (fun x => x.add kk) s1) (a.length - kk) (s3 - kk) (ints (a.drop kk)) rfl hidl (by first | exact HSD1.out | exact HSD2.out) (by first | exact HND1.out | exact HND2.out) (ints_one _) h63c (by omega) hs68 ?_; intro tb tm td w9 hown9 hg9))
            go_meet
            exact ⟨tb, tm, td, rfl, hown9, grown_row HG68.out hg9 (fun q e => by have := owns_block HO8.out q e; omega)⟩
        case rest =>
        obtain ⟨tb, tm, td, rfl, hown9, hg9⟩ := hcut
        obtain ⟨w9, hw9⟩ : ∃ w9, w9 = wc := ⟨_, rfl⟩
        subst hw9
        have hbl : (a.take kk ++ [x] ++ a.drop kk).length = kk + 1 + (a.length - kk) := by simp; omega
        have HI9 : Hid (IntsAt w9.heap.size w9 (.slice tb tm td) (a.take kk ++ [x] ++ a.drop kk)) := by
          apply owns_ints (base := w6.heap.size)
          rw [hbl]
          have e : ints (a.take kk ++ [x] ++ a.drop kk) = ints (a.take kk) ++ [.int .i64 x] ++ ints (a.drop kk) := by simp [ints]
          rw [e]; exact hown9
        have hmm := owns_lenq hown9
        have htm : tm = (a.take kk ++ [x] ++ a.drop kk).length := by omega
        have c9 : w9.cell? ⟨w1.heap.size, 0, none⟩ = some (.slice pao p.length pcap) := pres_grown hg9 _ _ hpb6
        have HG29 : Hid (w2.grownBy w9 none) := grown_trans HG26.out hg9
        have HX9 : Hid (w9.heap[xb]? = some (.cells (resCells (runS p (a.take kk)) (.slice z1 kk z3) gx) 37 (0, 0))) := by
          unfold Hid; rw [hg9.block _ hxl (by simp)]; exact HXC6.out
        have HRP := hide (replay_m p (a.take kk ++ [x] ++ a.drop kk) (.agg #[.slice pao p.length pcap]) (.slice tb tm td) w9 (HSh.out.pres (pres_grown (grown_trans HG2.out HG29.out))) (HP1.out.pres (pres_grown (grown_trans (grown_trans (grown_alloc (grown_refl _ _)) HGW.out) HG29.out))) HI9.out)
        have hb5 : (a.take kk ++ [x] ++ a.drop kk).length ≤ 500 := by omega
        have HCW := hide (cut_wrong HSD.out (by omega : kk ≤ a.length) x HXX.out)
        have hxl9 : xb < w9.heap.size := by have := hg9.size; omega
        have hlkk := hlk
        clear hown9 hg9 hmm htm hbl HI9 HSO HNW HN1 HN2 HND1 HSD1 hidl hilk h63 h63b h63c HO8 HG68
        go_wp2_with fail
        refine HRP.out.mono ?_
        clear HRP
        rintro e w10 ⟨hg10, h⟩
        rcases h with ⟨_, rv10, rfl, sy, gy, rfl, ho10, hp10⟩ | ⟨h, _⟩
        case inr => exact absurd (checkRun_ok HVP.out hb5) h
        have hx10 : w10.heap[xb]? = some (.cells (resCells (runS p (a.take kk)) (.slice z1 kk z3) gx) 37 (0, 0)) := by
          rw [hg10.block _ hxl9 (by simp)]; exact HX9.out
        obtain ⟨n0, n1, n2, n3, n4, n5, n6, n7, n8, _⟩ := nine_cells hx10
        obtain ⟨u1, u2, u3, rfl⟩ := owns_form ho10
        have hu2 := owns_lenq ho10
        obtain ⟨v1, v2, v3, rfl⟩ := owns_form hp10
        have HEND : Hid (w.grownBy w10 none) := grown_trans (grown_trans HG2.out HG29.out) hg10
        clear hx10 ho10 hp10 hg10 c9 hpb6
        by_cases hk1 : (runS p (a.take kk)).kind = 1
        · have hoy := HCW.out.1 hk1
          rw [hoy] at hu2 ⊢
          have hu3 : u2 = kk := hu2.trans hlkk
          subst hu3
          clear hoy hu2
          generalize runS p (a.take u2) = o at *
          rw [hk1] at n0 ⊢
          go_wp2_with fail
          go_ret
          exact ⟨rfl, grown_alloc HEND.out⟩
        · have hoy := HCW.out.2 hk1
          rw [hoy] at hu2 ⊢
          have hu3 : u2 = kk := hu2.trans hlkk
          subst hu3
          have hk1' : ((runS p (a.take u2)).kind == 1) = false := by simpa using hk1
          clear hoy hu2 hk1
          generalize runS p (a.take u2) = o at *
          go_wp2_with fail
          go_ret
          exact ⟨rfl, grown_alloc HEND.out⟩

end Go.Proofs.YtklenjmfalljgaaDoor

/- The walks of slices.Grow (of nothing) and slices.Concat, at lists of numbers. -/
namespace Go.Proofs.YtklenjmfalljgaaDoor
open Go.RowKit
attribute [local go_sem] Go.World.cell?_alloc_some

theorem info_intC : ((Tryd.prog.info? 3).map fun i => (i.zero, i.size, i.bytes)) = some (some (.int .i64 0), 1, 8) := by kernel_rfl

set_option maxHeartbeats 1000000 in
set_option maxRecDepth 100000 in
theorem grow_m (n : Nat) (w : World) (hn : n ≤ 1000000) :
    Calls Tryd.prog 132 #[.slice none 0 0, .int .i64 n] w fun e w' => ∃ v, e = .returned v ∧ w'.ownsRow w.heap.size 3 1 v 0 [] ∧ w.grownBy w' none := by
  obtain ⟨i0, hi0, hz0, hz1, hz2⟩ := info_parts info_intC
  rcases Nat.eq_zero_or_pos n with e | h0
  · subst e
    go_enter Tryd.func132, Tryd.ntmps132
    go_wp2
    go_ret
    exact ⟨_, rfl, ⟨rfl, Or.inl ⟨rfl, rfl⟩⟩, grown_refl _ _⟩
  · have hr : ∀ ty, (Builtin.append_ #[22, 3] ty #[.slice none 0 0, .int .i64 (n : Int)]).run Tryd.prog w = _ := fun ty => Lib.run_append_nil_zeros w 22 3 ty 3 i0 _ .i64 .i64 Tryd.underlying22 Tryd.underlying3 hi0 hz0 n h0 (by omega) (by omega) (by rw [hz2]; omega)
    have hGn : n ≤ grownCap w n 0 3 := grownCap_ge w _ _ _
    have hG63 : grownCap w n 0 3 ≤ maxLen := grownCap_le_maxLen w n 0 3 (by unfold maxLen; omega)
    generalize grownCap w n 0 3 = G at *
    have HF : Hid ((w.drew.alloc (.cells (Builtin.zeroCells (Value.int .i64 0).cells n ++ Builtin.zeroCells (Value.int .i64 0).cells (G - n)) 3)).ownsRow w.heap.size 3 1 (.slice (some ⟨w.heap.size, 0, none⟩) 0 G) 0 []) := by
      refine ⟨rfl, Or.inr ⟨w.heap.size, G, _, rfl, Nat.le_refl _, heap_alloc_new w.drew _, Nat.zero_le _, hG63, ?_, by simp⟩⟩
      simp [Builtin.zeroCells, Value.cells]; omega
    have HG : Hid (w.grownBy (w.drew.alloc (.cells (Builtin.zeroCells (Value.int .i64 0).cells n ++ Builtin.zeroCells (Value.int .i64 0).cells (G - n)) 3)) none) := ⟨rfl, rfl, rfl, by simp, fun k hk _ => heap_alloc_old w.drew _ hk⟩
    have h1 : (0 : Int) < (n : Int) := by omega
    have h2 : (n : Int) ≤ 1000000 := by omega
    have h3 : (0 : Int) ≤ (n : Int) := by omega
    generalize w.drew.alloc (.cells (Builtin.zeroCells (Value.int .i64 0).cells n ++ Builtin.zeroCells (Value.int .i64 0).cells (G - n)) 3) = w' at *
    have h5 : G ≤ 9223372036854775807 := by unfold maxLen at hG63; omega
    clear hG63
    go_enter Tryd.func132, Tryd.ntmps132
    go_wp2_with (at_builtin; refine Lib.wpList_append_run _ rfl _ _ _ _ rfl _ _ rfl rfl _ _ (hr _) ?_)
    go_ret
    exact ⟨_, rfl, HF.out, HG.out⟩

def nilOk (x : Value) : Prop := ∀ n c, x = .slice none n c → n = 0 ∧ c = 0
/-- Lists of numbers in a row. -/
def RowsAt (w : World) (v : Value) (ss : List (List Int)) : Prop :=
  ∃ g o cap, v = .slice (some ⟨g, o, none⟩) ss.length cap ∧ g < w.heap.size ∧ ∀ k (hk : k < ss.length), ∃ x, w.cell? ⟨g, o + k, none⟩ = some x ∧ IntsAt w.heap.size w x ss[k] ∧ nilOk x

theorem flat_step (ss : List (List Int)) (k : Nat) (hk : k < ss.length) : (ss.take (k + 1)).flatten = (ss.take k).flatten ++ ss[k] := by
  rw [List.take_succ_eq_append_getElem hk, List.flatten_append]; simp
theorem flat_le (ss : List (List Int)) (k : Nat) : (ss.take k).flatten.length ≤ ss.flatten.length := by
  conv => rhs; rw [← List.take_append_drop k ss, List.flatten_append, List.length_append]
  omega
theorem ints_news {w : World} {g o c : Nat} {l : List Int} (h : IntsAt w.heap.size w (.slice (some ⟨g, o, none⟩) l.length c) l) : ∀ j u, (ints l)[j]? = some u → w.cell? ((⟨g, o, none⟩ : Addr).add j) = some u := by
  intro j u hj
  obtain ⟨ao, cap, e, _, h2⟩ := h
  have hl := (List.getElem?_eq_some_iff.1 hj).1
  rw [ints_len] at hl
  obtain ⟨g', o', e1, e2, e3⟩ := h2 j hl
  simp only [Value.slice.injEq] at e
  rw [e1] at e
  simp only [Option.some.injEq, Addr.mk.injEq, and_true] at e
  obtain ⟨⟨rfl, rfl⟩, _⟩ := e
  have hadd : (⟨g, o, none⟩ : Addr).add j = ⟨g, o + j, none⟩ := by unfold Addr.add; split <;> simp_all
  rw [hadd, e3]
  have : (ints l)[j]? = some (.int .i64 l[j]) := by simp [ints, hl]
  rw [this] at hj; exact hj

set_option maxHeartbeats 2000000 in
set_option maxRecDepth 100000 in
theorem concat_m (ss : List (List Int)) (sv : Value) (w : World) (hR : RowsAt w sv ss) (hn : ss.length ≤ 1000) (ht : ss.flatten.length ≤ 1000000) :
    Calls Tryd.prog 96 #[sv] w fun e w' => ∃ v, e = .returned v ∧ w'.ownsRow w.heap.size 3 1 v ss.flatten.length (ints ss.flatten) ∧ w.grownBy w' none := by
  obtain ⟨i0, hi0, hz0, hz1, hz2⟩ := info_parts info_intC
  obtain ⟨g, o, cap, rfl, hg, hc⟩ := hR
  have HC := hide hc
  have hn' : (ss.length : Int) ≤ 1000 := by omega
  clear hc
  go_enter Tryd.func96, Tryd.ntmps96
  go_wp2_with fail
  go_loopw [3, 11] (fun z i w' => ∃ k n : Nat, k ≤ ss.length ∧ i = .int .i64 k ∧ z = .int .i64 n ∧ Hid (n = (ss.take k).flatten.length) ∧ Hid (w' = w)) (fun _ i _ => ss.length - (intOf i).toNat)
  case atStart => exact ⟨0, 0, Nat.zero_le _, rfl, rfl, rfl, rfl⟩
  case round =>
    obtain ⟨k, n, hk, rfl, rfl, HN, HW⟩ := hrel
    obtain rfl := HW.out.symm
    clear HW
    have hnb : n ≤ 1000000 := by have := HN.out; have := flat_le ss k; omega
    have hnb' : (n : Int) ≤ 1000000 := by omega
    have hn0 : (0 : Int) ≤ (n : Int) := by omega
    by_cases hlt : k < ss.length
    · obtain ⟨x, c0, hI, hno⟩ := HC.out k hlt
      obtain ⟨so, sc, rfl⟩ := hI.form
      have hle : n + ss[k].length ≤ 1000000 := by
        have h1 := flat_le ss (k + 1)
        rw [flat_step ss k hlt, List.length_append] at h1
        have := HN.out; omega
      have HNX : Hid (n + ss[k].length = (ss.take (k + 1)).flatten.length) := by
        unfold Hid; rw [flat_step ss k hlt, List.length_append, HN.out]
      clear hI hno
      generalize ss[k] = s at *
      have hs0 : (0 : Int) ≤ (s.length : Int) := by omega
      have hs1 : (n : Int) + (s.length : Int) ≤ 1000000 := by omega
      have hs2 : (0 : Int) ≤ (n : Int) + (s.length : Int) := by omega
      have hk0 : (0 : Int) ≤ (k : Int) := by omega
      have hk1 : (k : Int) < ss.length := by omega
      go_wp2_with fail
      go_roundw
      case rel => exact ⟨k + 1, n + s.length, by omega, by go_num, by go_num, HNX, (by first | exact trivial | rfl)⟩
      case measure => simp [intOf]; omega
    · have hk1 : (ss.length : Int) ≤ (k : Int) := by omega
      have HNE : Hid (n = ss.flatten.length) := by unfold Hid; rw [HN.out, List.take_of_length_le (by omega)]
      go_wp2_with (go_at_call 132; refine (grow_m n _ hnb).mono ?_; rintro e w1 ⟨v1, rfl, hown1, hg1⟩)
      obtain ⟨a1, a2, a3, rfl⟩ := owns_form hown1
      have HO1 := hide hown1
      have HG1 := hide hg1
      clear hown1 hg1 HN HNE hnb hnb' hn0 hk hlt hk1
      go_wp2_with fail
      go_loopw [6, 27] (fun v i w' => ∃ k : Nat, k ≤ ss.length ∧ i = .int .i64 k ∧ Hid (w'.ownsRow w.heap.size 3 1 v (ss.take k).flatten.length (ints (ss.take k).flatten)) ∧ Hid (w.grownBy w' none)) (fun _ i _ => ss.length - (intOf i).toNat)
      case atStart => exact ⟨0, Nat.zero_le _, rfl, HO1, HG1⟩
      case round =>
        clear HO1 HG1
        obtain ⟨k, hk, rfl, HO, HG⟩ := hrel
        obtain ⟨w5, hw5⟩ : ∃ w5, w5 = wr := ⟨_, rfl⟩
        rw [← hw5] at HO HG ⊢
        clear hw5
        by_cases hlt : k < ss.length
        · obtain ⟨x, c0, hI, hno⟩ := HC.out k hlt
          obtain ⟨so, sc, rfl⟩ := hI.form
          have d0 := pres_grown HG.out _ _ c0
          have hle : (ss.take k).flatten.length + ss[k].length ≤ 1000000 := by
            have h1 := flat_le ss (k + 1)
            rw [flat_step ss k hlt, List.length_append] at h1
            omega
          have HNX : Hid ((ss.take (k + 1)).flatten = (ss.take k).flatten ++ ss[k]) := flat_step ss k hlt
          have HI5 : Hid (IntsAt w5.heap.size w5 (.slice so ss[k].length sc) ss[k]) := (hI.pres (pres_grown HG.out)).mono HG.out.size
          have HSO : Hid (so = none → ss[k].length = 0 ∧ sc = 0) := fun e => hno _ _ (by rw [e])
          have HNW : Hid (∀ ad, so = some ad → ∀ j u, (ints ss[k])[j]? = some u → w5.cell? (ad.add j) = some u) := by
            rintro ad rfl j u hj
            have hl := (List.getElem?_eq_some_iff.1 hj).1
            rw [ints_len] at hl
            obtain ⟨ao, cp, e, _, h2⟩ := HI5.out
            obtain ⟨g', o', e1, _⟩ := h2 0 (by omega)
            simp only [Value.slice.injEq] at e
            rw [e1] at e
            simp only [Option.some.injEq] at e
            obtain ⟨rfl, _⟩ := e
            exact ints_news HI5.out j u hj
          clear c0 hI hno
          generalize ss[k] = s at *
          obtain ⟨b1, b2, b3, hv⟩ := owns_form HO.out
          have hk0 : (0 : Int) ≤ (k : Int) := by omega
          have hk1 : (k : Int) < ss.length := by omega
          have hil : (ints s).length = s.length * 1 := by rw [ints_len]; omega
          have h63 : (ss.take k).flatten.length + s.length ≤ maxLen := by unfold maxLen; omega
          have hbs : w.heap.size ≤ w5.heap.size := HG.out.size
          have HOB := hide (owns_block HO.out)
          go_wp2_with (at_builtin; refine wpList_append_any rfl _ _ _ rfl w.heap.size 3 i0 _ 1 8 Tryd.underlying22 hi0 hz0 hz1 hz2 rfl (by omega) u6 (ss.take k).flatten.length (ints (ss.take k).flatten) rfl HO.out so s.length sc (ints s) rfl hil HSO.out HNW.out (ints_one _) h63 (by omega) hbs ?_; intro ta tn tc w7 hown7 hg7)
          have HO7 : Hid (w7.ownsRow w.heap.size 3 1 (.slice ta tn tc) (ss.take (k + 1)).flatten.length (ints (ss.take (k + 1)).flatten)) := by
            unfold Hid; rw [HNX.out, List.length_append]
            have : ints ((ss.take k).flatten ++ s) = ints (ss.take k).flatten ++ ints s := by simp [ints]
            rw [this]; exact hown7
          have HG7 : Hid (w.grownBy w7 none) := grown_row HG.out hg7 HOB.out
          clear hown7 hg7 HO HG HNX HI5 HSO HNW
          go_wp2_with fail
          go_roundw
          case rel => exact ⟨k + 1, by omega, by go_num, HO7, HG7⟩
          case measure => simp [intOf]; omega
        · have hk1 : (ss.length : Int) ≤ (k : Int) := by omega
          have HOE : Hid (w5.ownsRow w.heap.size 3 1 u6 ss.flatten.length (ints ss.flatten)) := by
            have := HO.out
            rwa [List.take_of_length_le (by omega)] at this
          go_wp2_with fail
          go_ret
          exact ⟨_, rfl, HOE.out, HG.out⟩

end Go.Proofs.YtklenjmfalljgaaDoor
