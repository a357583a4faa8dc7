/- The texts Sch Sch2 Bas Hnd Hnd2 Hnd3 Hnd4 Hnd5 Hnd6. -/
import Derived.Test.YtklenjmfalljgaaDoorMB
import Derived.WalkSpells
import Derived.WalkLawsBesides
import Derived.Deep.Light
import Derived.Lib.QuietBelow
import Derived.BigQuiet
import Derived.Deep.QuietTactic
import Derived.Laws.CopyOwn

/- The walk of schedule. -/
namespace Go.Proofs.YtklenjmfalljgaaDoor
open Go.RowKit
attribute [local go_sem] Go.World.cell?_alloc_some

def ints (a : List Int) : List Value := a.map fun x => .int .i64 x
theorem ints_len (a : List Int) : (ints a).length = a.length := by simp [ints]
theorem ints_one (a : List Int) : ∀ v ∈ ints a, v.oneCell' = true := by
  intro v hv
  simp only [ints, List.mem_map] at hv
  obtain ⟨x, _, rfl⟩ := hv; rfl
theorem ints_snoc (a : List Int) (x : Int) : ints (a ++ [x]) = ints a ++ [.int .i64 x] := by simp [ints]

theorem owns_ints {w : World} {base : Nat} {v : Value} {a : List Int} (h : w.ownsRow base 3 1 v a.length (ints a)) : IntsAt w.heap.size w v a := by
  rcases h.2 with ⟨e, e0⟩ | ⟨g, cap, cur, hv, hb, hh, hc, _⟩
  · refine ⟨none, 0, by rw [e, e0], by omega, fun k hk => by omega⟩
  · refine ⟨some ⟨g, 0, none⟩, cap, hv, hc, fun k hk => ⟨g, 0, rfl, (Array.getElem?_eq_some_iff.1 hh).1, ?_⟩⟩
    rw [hv] at h
    rw [Nat.zero_add, h.cellAt k (by omega)]
    simp [ints, hk]

def resCells (o : Out) (s1 g1 : Value) : Array Value := #[.int .i64 o.kind, .int .i64 o.thread, .int .i64 o.at_, s1, .int .i64 (o.st.vars 0), .int .i64 (o.st.vars 1), .int .i64 (o.st.vars 2), .int .i64 (o.st.vars 3), g1]
def zeroRes : Array Value := #[.int .i64 0, .int .i64 0, .int .i64 0, .slice none 0 0, .int .i64 0, .int .i64 0, .int .i64 0, .int .i64 0, .slice none 0 0]

/-- In the midst of schedule: s is a, r its run. -/
structure SchAt (w : World) (p : List (List Ins)) (pb : Value) (rb : Nat) (a : List Int) (sv : Value) (w' : World) : Prop where
  grown : w.grownBy w' none
  row : w'.ownsRow w.heap.size 3 1 sv a.length (ints a)
  nil : a = [] → sv = .slice none 0 0
  apart : sv.ownBlock ≠ some rb
  res : ∃ s1 g1, w'.heap[rb]? = some (.cells (resCells (runS p a) s1 g1) 37 (0, 0)) ∧ w'.ownsRow w.heap.size 48 2 s1 (runS p a).steps.length (flatS (runS p a).steps) ∧ w'.ownsRow w.heap.size 34 4 g1 p.length (regsF p.length (runS p a).st) ∧ s1.ownBlock ≠ some rb ∧ g1.ownBlock ≠ some rb
  box : w'.heap[w.heap.size]? = some (.cells #[pb] 25 (0, 0))
  out : w'.heap[w.heap.size + 1]? = some (.cells zeroRes 37 (0, 0))
  lo : w.heap.size + 2 ≤ rb
  hi : rb < w'.heap.size
  good : Sched p a

theorem SchAt.step {w : World} {p : List (List Ins)} {pb : Value} {rb : Nat} {a : List Int} {sv : Value} {w' w'' : World} (h : SchAt w p pb rb a sv w') (hg : w'.grownBy w'' none) : SchAt w p pb rb a sv w'' := by
  obtain ⟨s1, g1, h1, h2, h3, h4, h5⟩ := h.res
  exact ⟨grown_trans h.grown hg, owns_grown h.row hg (fun _ e => by cases e), h.nil, h.apart, ⟨s1, g1, by rw [hg.block _ h.hi (by simp)]; exact h1, owns_grown h2 hg (fun _ e => by cases e), owns_grown h3 hg (fun _ e => by cases e), h4, h5⟩,
    by rw [hg.block _ (by have := h.lo; have := h.hi; omega) (by simp)]; exact h.box, by rw [hg.block _ (by have := h.lo; have := h.hi; omega) (by simp)]; exact h.out, h.lo, Nat.lt_of_lt_of_le h.hi hg.size, h.good⟩

theorem owns_setCell_ne {w : World} {base : Nat} {e : TypeId} {size : Nat} {v : Value} {n : Nat} {xs : List Value} {g o : Nat} {u : Value} (h : w.ownsRow base e size v n xs) (hne : v.ownBlock ≠ some g) : (w.setCell ⟨g, o, none⟩ u).ownsRow base e size v n xs := by
  obtain ⟨h1, h2⟩ := h
  refine ⟨h1, ?_⟩
  rcases h2 with h2 | ⟨b, cap, cur, hv, hb, hh, rest⟩
  · exact Or.inl h2
  · refine Or.inr ⟨b, cap, cur, hv, hb, ?_, rest⟩
    rw [Below.heap_setCell _ _ _ _ (fun e => hne (by rw [hv]; simp [Value.ownBlock, e]))]; exact hh

theorem set9 {w : World} {g : Nat} {x0 x1 x2 x3 x4 x5 x6 x7 x8 y0 y1 y2 y3 y4 y5 y6 y7 y8 : Value} {t : TypeId} (h : w.heap[g]? = some (.cells #[x0, x1, x2, x3, x4, x5, x6, x7, x8] t (0, 0))) :
    (((((((((w.setCell ⟨g, 0, none⟩ y0).setCell ⟨g, 1, none⟩ y1).setCell ⟨g, 2, none⟩ y2).setCell ⟨g, 3, none⟩ y3).setCell ⟨g, 4, none⟩ y4).setCell ⟨g, 5, none⟩ y5).setCell ⟨g, 6, none⟩ y6).setCell ⟨g, 7, none⟩ y7).setCell ⟨g, 8, none⟩ y8).heap[g]? = some (.cells #[y0, y1, y2, y3, y4, y5, y6, y7, y8] t (0, 0)) := by
  have h0 := heap_setCell_same w g 0 _ t y0 h
  have h1 := heap_setCell_same _ g 1 _ t y1 h0
  have h2 := heap_setCell_same _ g 2 _ t y2 h1
  have h3 := heap_setCell_same _ g 3 _ t y3 h2
  have h4 := heap_setCell_same _ g 4 _ t y4 h3
  have h5 := heap_setCell_same _ g 5 _ t y5 h4
  have h6 := heap_setCell_same _ g 6 _ t y6 h5
  have h7 := heap_setCell_same _ g 7 _ t y7 h6
  have h8 := heap_setCell_same _ g 8 _ t y8 h7
  simpa using h8

/-- r = x, s = t. -/
theorem SchAt.set {w : World} {p : List (List Ins)} {pb : Value} {rb : Nat} {a b : List Int} {sv tv : Value} {w' : World} (h : SchAt w p pb rb a sv w') (hb : b ≠ []) (ht : w'.ownsRow w.heap.size 3 1 tv b.length (ints b)) (hta : tv.ownBlock ≠ some rb) {s1 g1 : Value}
    (hs : w'.ownsRow w.heap.size 48 2 s1 (runS p b).steps.length (flatS (runS p b).steps)) (hg : w'.ownsRow w.heap.size 34 4 g1 p.length (regsF p.length (runS p b).st)) (hsa : s1.ownBlock ≠ some rb) (hga : g1.ownBlock ≠ some rb) (hok : Sched p b) :
    SchAt w p pb rb b tv (((((((((w'.setCell ⟨rb, 0, none⟩ (.int .i64 (runS p b).kind)).setCell ⟨rb, 1, none⟩ (.int .i64 (runS p b).thread)).setCell ⟨rb, 2, none⟩ (.int .i64 (runS p b).at_)).setCell ⟨rb, 3, none⟩ s1).setCell ⟨rb, 4, none⟩ (.int .i64 ((runS p b).st.vars 0))).setCell ⟨rb, 5, none⟩ (.int .i64 ((runS p b).st.vars 1))).setCell ⟨rb, 6, none⟩ (.int .i64 ((runS p b).st.vars 2))).setCell ⟨rb, 7, none⟩ (.int .i64 ((runS p b).st.vars 3))).setCell ⟨rb, 8, none⟩ g1) := by
  obtain ⟨s0, g0, h1, _⟩ := h.res
  have hlo := h.lo
  have hhi := h.hi
  have hother : ∀ k, k ≠ rb → (((((((((w'.setCell ⟨rb, 0, none⟩ (.int .i64 (runS p b).kind)).setCell ⟨rb, 1, none⟩ (.int .i64 (runS p b).thread)).setCell ⟨rb, 2, none⟩ (.int .i64 (runS p b).at_)).setCell ⟨rb, 3, none⟩ s1).setCell ⟨rb, 4, none⟩ (.int .i64 ((runS p b).st.vars 0))).setCell ⟨rb, 5, none⟩ (.int .i64 ((runS p b).st.vars 1))).setCell ⟨rb, 6, none⟩ (.int .i64 ((runS p b).st.vars 2))).setCell ⟨rb, 7, none⟩ (.int .i64 ((runS p b).st.vars 3))).setCell ⟨rb, 8, none⟩ g1).heap[k]? = w'.heap[k]? := fun k hk => by
    iterate 9 rw [Below.heap_setCell _ _ _ _ (by simpa using hk)]
  refine ⟨?_, ?_, fun e => absurd e hb, hta, ⟨s1, g1, set9 h1, ?_, ?_, hsa, hga⟩, ?_, ?_, hlo, by simp; omega, hok⟩
  · iterate 9 refine grown_setNew ?_ (by omega)
    exact h.grown
  · iterate 9 refine owns_setCell_ne ?_ hta
    exact ht
  · iterate 9 refine owns_setCell_ne ?_ hsa
    exact hs
  · iterate 9 refine owns_setCell_ne ?_ hga
    exact hg
  · rw [hother _ (by omega)]; exact h.box
  · rw [hother _ (by omega)]; exact h.out


section
variable {P : Program} {w : World} {ops : Array Oper} {rest : List Oper} {o : Oper} {a : Act} {Q : Exit → Act → World → Prop}
/-- append of a whole slice of numbers onto nil: a new row. -/
theorem wpList_append_copy (hgd : o.guard = none) (s x : Operand) (t : TypeId) (ho : o.op = .call { callee := .builtin .append, args := #[s, x], argTypes := #[t, t] })
    (e : TypeId) (i : TypeInfo) (z : Value) (bytes : Nat) (ht : P.underlying t = some (.slice e)) (hi : P.info? e = some i) (hz : i.zero = some z) (hsize : i.size = 1) (hby : i.bytes = bytes) (hzs : z.cells.size = 1)
    (hs : a.eval s = .slice none 0 0) (sv : Value) (hx : a.eval x = sv) (b0 n : Nat) (xs : List Value) (hown : w.ownsRow b0 e 1 sv n xs) (hnil : n = 0 → sv = .slice none 0 0) (h1 : ∀ u ∈ xs, u.oneCell' = true) (h63 : n ≤ maxLen) (hbytes : n * bytes ≤ 140737488355328)
    (h : ∀ ta tn tc w', w'.ownsRow w.heap.size e 1 (.slice ta tn tc) n xs → w.grownBy w' none → (n = 0 → Value.slice ta tn tc = .slice none 0 0) → wpList P ops Q rest (a.put o.dst (.slice ta tn tc)) w') : wpList P ops Q (o :: rest) a w := by
  refine wpList_plain hgd fun K hK => ?_
  have hnone : w.ownsRow w.heap.size e 1 (.slice none 0 0) 0 [] := ⟨rfl, Or.inl ⟨rfl, rfl⟩⟩
  by_cases h0 : n = 0
  · have hrun := run_append_owned_none (P := P) w w.heap.size t o.type e i 1 ht hi _ 0 [] hnone
    have hx0 : xs = [] := by
      have := hown.1
      rw [h0] at this
      exact List.length_eq_zero_iff.1 (by omega)
    unfold Oper.wp
    simp [execOp, ho, resolve, invoke, builtin, hs, hx, hnil h0, hrun, Result.andThen]
    exact hK _ _ (h _ _ _ w (by rw [h0, hx0]; exact hnone) (grown_refl _ _) (fun _ => rfl))
  · obtain ⟨g, cap, rfl, _, _⟩ := hown.form (by omega)
    have hnews : ∀ j u, xs[j]? = some u → w.cell? ((⟨g, 0, none⟩ : Addr).add j) = some u := fun j u hj => by
      have hadd : (⟨g, 0, none⟩ : Addr).add j = ⟨g, j, none⟩ := by unfold Addr.add; split <;> simp_all
      have hl := (List.getElem?_eq_some_iff.1 hj).1
      rw [hadd, hown.cellAt j (by rw [← hown.1]; exact hl)]; exact hj
    obtain ⟨v', w', hrun, h2, h3, h4, h5⟩ := run_append_own_at (P := P) w w.heap.size t o.type e i z 1 bytes ht hi hz hsize hby hzs (by omega) _ 0 [] hnone ⟨g, 0, none⟩ n cap xs hown.1 hnews h1 (by omega) (by simpa using hbytes) (Nat.le_refl _)
    simp only [Nat.zero_add, List.nil_append] at h2
    obtain ⟨ta, tn, tc, rfl⟩ := owns_form h2
    unfold Oper.wp
    simp [execOp, ho, resolve, invoke, builtin, hs, hx, hrun, Result.andThen]
    exact hK _ _ (h _ _ _ w' h2 h3 (fun e => absurd e h0))
end

end Go.Proofs.YtklenjmfalljgaaDoor

/- The walk of schedule. -/
namespace Go.Proofs.YtklenjmfalljgaaDoor
open Go.RowKit
attribute [local go_sem] Go.World.cell?_alloc_some

theorem info_int : ((Tryd.prog.info? 3).map fun i => (i.zero, i.size, i.bytes)) = some (some (.int .i64 0), 1, 8) := by kernel_rfl

theorem owns_lenq {w : World} {base e size : Nat} {ao : Option Addr} {n c m : Nat} {xs : List Value} (h : w.ownsRow base e size (.slice ao n c) m xs) : n = m := by
  rcases h.2 with ⟨e, e0⟩ | ⟨g, cap, cur, hv, _⟩
  · simp at e; omega
  · simp at hv; omega

theorem owns_out9 {w w' : World} {e size : Nat} {v : Value} {n : Nat} {xs : List Value} {y0 y1 y2 y3 y4 y5 y6 y7 y8 : Value} (h : w'.ownsRow w.heap.size e size v n xs) (ho : w'.heap[w.heap.size + 1]? = some (.cells zeroRes 37 (0, 0))) (he : e ≠ 37) :
    (((((((((w'.setCell ⟨w.heap.size + 1, 0, none⟩ y0).setCell ⟨w.heap.size + 1, 1, none⟩ y1).setCell ⟨w.heap.size + 1, 2, none⟩ y2).setCell ⟨w.heap.size + 1, 3, none⟩ y3).setCell ⟨w.heap.size + 1, 4, none⟩ y4).setCell ⟨w.heap.size + 1, 5, none⟩ y5).setCell ⟨w.heap.size + 1, 6, none⟩ y6).setCell ⟨w.heap.size + 1, 7, none⟩ y7).setCell ⟨w.heap.size + 1, 8, none⟩ y8).drew.ownsRow w.heap.size e size v n xs := by
  have hne : v.ownBlock ≠ some (w.heap.size + 1) := fun eq => by
    rcases h.2 with ⟨e1, _⟩ | ⟨g', _, cur, hv, _, hh, _⟩
    · rw [e1] at eq; cases eq
    · rw [hv] at eq
      have e2 : g' = w.heap.size + 1 := by simpa [Value.ownBlock] using eq
      rw [e2, ho] at hh
      simp at hh
      exact he hh.2.symm
  refine owns_grown (w := (((((((((w'.setCell ⟨w.heap.size + 1, 0, none⟩ y0).setCell ⟨w.heap.size + 1, 1, none⟩ y1).setCell ⟨w.heap.size + 1, 2, none⟩ y2).setCell ⟨w.heap.size + 1, 3, none⟩ y3).setCell ⟨w.heap.size + 1, 4, none⟩ y4).setCell ⟨w.heap.size + 1, 5, none⟩ y5).setCell ⟨w.heap.size + 1, 6, none⟩ y6).setCell ⟨w.heap.size + 1, 7, none⟩ y7).setCell ⟨w.heap.size + 1, 8, none⟩ y8)) (r := none) ?_ (grown_drew (grown_refl _ _)) (fun _ e => by cases e)
  iterate 9 refine owns_setCell_ne ?_ hne
  exact h
theorem grown_out9 {w w' : World} {y0 y1 y2 y3 y4 y5 y6 y7 y8 : Value} (h : w.grownBy w' none) :
    w.grownBy (((((((((w'.setCell ⟨w.heap.size + 1, 0, none⟩ y0).setCell ⟨w.heap.size + 1, 1, none⟩ y1).setCell ⟨w.heap.size + 1, 2, none⟩ y2).setCell ⟨w.heap.size + 1, 3, none⟩ y3).setCell ⟨w.heap.size + 1, 4, none⟩ y4).setCell ⟨w.heap.size + 1, 5, none⟩ y5).setCell ⟨w.heap.size + 1, 6, none⟩ y6).setCell ⟨w.heap.size + 1, 7, none⟩ y7).setCell ⟨w.heap.size + 1, 8, none⟩ y8).drew none := by
  refine grown_drew ?_
  iterate 9 refine grown_setNew ?_ (by omega)
  exact h

/-- What schedule answers. -/
def Scheduled (p : List (List Ins)) (raw : List Int) (w : World) (e : Ending) (w' : World) : Prop :=
  ∃ sv rv a, e = .returned (.tuple #[sv, rv, .bool true]) ∧ w'.ownsRow w.heap.size 3 1 sv a.length (ints a) ∧ ResAt w.heap.size w' (runS p a) p.length rv ∧ Sched p a ∧ a.length ≤ 200 ∧
    ((a.length = raw.length ∨ a.length = 200) ∨ (runS p a).kind ≠ 5) ∧ w.grownBy w' none

theorem checkRun_ok {p : List (List Ins)} {s : List Int} (hv : vProg p = true) (hs : s.length ≤ 500) : checkRunN p s = 0 := by simp [checkRunN, hv, hs]


set_option maxHeartbeats 8000000 in
set_option maxRecDepth 100000 in
theorem schedule_m (p : List (List Ins)) (raw : List Int) (pv rv : Value) (w : World) (hS : ShpAt w) (hv : vProg p = true) (hP : ProgAt w pv p) (hR : IntsAt w.heap.size w rv raw)
    (hb : ∀ k (hk : k < raw.length), -9223372036854775808 ≤ raw[k] ∧ raw[k] ≤ 9223372036854775807) :
    Calls Tryd.prog 14 #[pv, rv] w (Scheduled p raw w) := by
  obtain ⟨i0, hi0, hz0, hz1, hz2⟩ := info_parts info_int
  have hlen := vProg_len hv
  have HSh := hide hS
  have HV := hide hv
  have HP := hide hP
  have HR := hide hR
  have HBd := hide hb
  obtain ⟨pao, pcap, rfl⟩ := hP.form
  obtain ⟨rao, rcap, rfl⟩ := hR.form
  clear hS hv hP hR hb
  have hn1 : (1 : Int) ≤ p.length := by omega
  have hn4 : (p.length : Int) ≤ 4 := by omega
  go_enter Tryd.func14, Tryd.ntmps14
  go_wp2_with fail
  have hg0 : ∀ a b, w.grownBy ((w.alloc a).alloc b) none := fun a b => grown_alloc (grown_alloc (grown_refl _ _))
  refine (awake_m _ (HSh.out.pres (pres_grown (hg0 _ _)))).mono ?_
  rintro e w1 ⟨rfl, hg1⟩
  have HG1 : Hid (w.grownBy w1 none) := grown_trans (hg0 _ _) hg1
  have hsz1 : w.heap.size + 2 ≤ w1.heap.size := by have := hg1.size; simpa using this
  have hb0 : w1.heap[w.heap.size]? = some (.cells #[.slice pao p.length pcap] 25 (0, 0)) := by
    rw [hg1.block w.heap.size (by simp; omega) (by simp), Below.heap_alloc _ _ _ (by simp)]; exact heap_alloc_new w _
  have hb1 : w1.heap[w.heap.size + 1]? = some (.cells zeroRes 37 (0, 0)) := by
    rw [hg1.block (w.heap.size + 1) (by simp) (by simp)]
    have := heap_alloc_new (w.alloc (.cells #[.slice pao p.length pcap] 25)) (.cells zeroRes 37)
    simpa [zeroRes] using this
  have HB0 := hide hb0
  have HB1 := hide hb1
  have c0 : w1.cell? ⟨w.heap.size, 0, none⟩ = some (.slice pao p.length pcap) := by simp [World.cell?, hb0]
  clear hg1 hb0 hb1 hg0
  go_wp2_with fail
  have hnil : IntsAt w1.heap.size w1 (.slice none 0 0) [] := ⟨none, 0, rfl, Nat.le_refl _, fun k hk => by simp at hk⟩
  refine (replay_m p [] _ _ _ (HSh.out.pres (pres_grown HG1.out)) (HP.out.pres (pres_grown HG1.out)) hnil).mono ?_
  clear hnil
  rintro e w2 ⟨hg2, h⟩
  rcases h with ⟨_, rv0, rfl, s1, g1, rfl, ho1, ho2⟩ | ⟨h, _⟩
  case inr => exact absurd (checkRun_ok HV.out (by simp)) h
  have HG2 : Hid (w.grownBy w2 none) := grown_trans HG1.out hg2
  have hsz2 : w.heap.size + 2 ≤ w2.heap.size := by have := hg2.size; omega
  obtain ⟨x1, x2, x3, rfl⟩ := owns_form ho1
  obtain ⟨y1, y2, y3, rfl⟩ := owns_form ho2
  have HST : Hid (SchAt w p (.slice pao p.length pcap) w2.heap.size [] (.slice none 0 0) (w2.alloc (.cells (resCells (runS p []) (.slice x1 x2 x3) (.slice y1 y2 y3)) 37))) := by
    have hgg : w2.grownBy (w2.alloc (.cells (resCells (runS p []) (.slice x1 x2 x3) (.slice y1 y2 y3)) 37)) none := grown_alloc (grown_refl _ _)
    have hlt : ∀ {e size : Nat} {v : Value} {n : Nat} {xs : List Value}, w2.ownsRow w1.heap.size e size v n xs → v.ownBlock ≠ some w2.heap.size := fun h e => by
      rcases h.2 with ⟨e1, _⟩ | ⟨g', _, _, hv, _, hh, _⟩
      · rw [e1] at e; cases e
      · rw [hv] at e
        have := (Array.getElem?_eq_some_iff.1 hh).1
        simp [Value.ownBlock] at e
        omega
    refine ⟨grown_trans HG2.out hgg, ⟨rfl, Or.inl ⟨rfl, rfl⟩⟩, fun _ => rfl, by simp [Value.ownBlock], ⟨_, _, heap_alloc_new w2 _, owns_grown (owns_mono ho1 (by omega)) hgg (fun _ e => by cases e), owns_grown (owns_mono ho2 (by omega)) hgg (fun _ e => by cases e), hlt ho1, hlt ho2⟩, ?_, ?_, hsz2, by simp, sched_nil p⟩
    · rw [hgg.block _ (by omega) (by simp), hg2.block _ (by omega) (by simp)]; exact HB0.out
    · rw [hgg.block _ (by omega) (by simp), hg2.block _ (by omega) (by simp)]; exact HB1.out
  have hk0 : (runS p []).kind = endingS p St.zero := rfl
  clear hg2 ho1 ho2 c0 hk0
  go_wp2
  go_loopw [8, 11] (fun sv i w' => ∃ (k : Nat) (a : List Int), k ≤ raw.length ∧ k ≤ 200 ∧ i = .int .i64 k ∧ a.length = k ∧ Hid (SchAt w p (.slice pao p.length pcap) w2.heap.size a sv w')) (fun _ i _ => raw.length - (intOf i).toNat)
  case atStart => exact ⟨0, [], Nat.zero_le _, by omega, rfl, rfl, HST⟩
  case round =>
    obtain ⟨k, a, hk, hk2, rfl, hak, HI⟩ := hrel
    obtain ⟨w3, hw3⟩ : ∃ w3, w3 = wr := ⟨_, rfl⟩
    subst hw3
    obtain ⟨s1, g1, hres, ho1, ho2, _, _⟩ := HI.out.res
    obtain ⟨x1', x2', x3', rfl⟩ := owns_form ho1
    obtain ⟨y1', y2', y3', rfl⟩ := owns_form ho2
    have HO1 := hide ho1
    have HO2 := hide ho2
    obtain ⟨r0, r1, r2, r3, r4, r5, r6, r7, r8, rf⟩ := nine_cells hres
    have c0 : w3.cell? ⟨w.heap.size, 0, none⟩ = some (.slice pao p.length pcap) := by simp [World.cell?, HI.out.box]
    have HSD := hide HI.out.good
    have hx2 : x2' = a.length := (owns_lenq ho1).trans HI.out.good.2
    subst hx2
    clear rf hres ho1 ho2
    by_cases hgo : (k < raw.length ∧ k < 200) ∧ (runS p a).kind = 5
    · obtain ⟨⟨hg1, hg2⟩, hg5⟩ := hgo
      have H5 := hide hg5
      rw [hg5] at r0
      clear hg5 r1 r2 r3 r4 r5 r6 r7 r8
      obtain ⟨rg, ro, rfl, hrg, hrc⟩ : ∃ g o, rao = some ⟨g, o, none⟩ ∧ g < w.heap.size ∧ w.cell? ⟨g, o + k, none⟩ = some (.int .i64 raw[k]) := by
        obtain ⟨ao', cap', e, _, h⟩ := HR.out
        simp at e
        obtain ⟨rfl, rfl⟩ := e
        obtain ⟨g, o, e1, e2, e3⟩ := h k hg1
        exact ⟨g, o, e1, e2, e3⟩
      have hrc3 := pres_grown HI.out.grown _ _ hrc
      have hbd := HBd.out k hg1
      have hi0' : (0 : Int) ≤ (k : Int) := by omega
      have hi1' : (k : Int) < raw.length := by omega
      have hi2' : (k : Int) < 200 := by omega
      clear hrc
      generalize raw[k] = c at *
      have hpk := pickN_range c p.length (by omega)
      have HPK := hide (pick_m c p.length (by omega) (by omega) hbd.1 hbd.2)
      go_wp2_with fail
      go_quiet ((go_at_call 12; exact Calls.quiet_of_same (HPK.out _)))
      clear HPK hrc3 r0
      generalize pickN c p.length = f at *
      have HI' : Hid (SchAt w p (.slice pao p.length pcap) w2.heap.size a u8 (w3.drewN nq)) := HI.out.step (grown_drewN _ (grown_refl _ _))
      go_wp2_with fail
      go_loopw [8, 13, 14] (fun sv d j w' => ∃ k' : Nat, k' ≤ p.length ∧ j = .int .i64 k' ∧
          ((d = .bool false ∧ Hid (SchAt w p (.slice pao p.length pcap) w2.heap.size a sv w') ∧ Hid (∀ q : Nat, q < k' → (runS p (a ++ [(f + q) % p.length])).kind = 2)) ∨
           (d = .bool true ∧ ∃ b : List Int, b.length = k + 1 ∧ Hid (SchAt w p (.slice pao p.length pcap) w2.heap.size b sv w')))) (fun _ _ j _ => p.length - (intOf j).toNat)
      case atStart => exact ⟨0, Nat.zero_le _, rfl, Or.inl ⟨rfl, HI', fun q hq => by omega⟩⟩
      case round =>
        obtain ⟨k', hk', rfl, hrel⟩ := hrel
        rcases hrel with ⟨rfl, HJ, HN⟩ | ⟨rfl, b, hbl, HJ⟩
        · have c0' : wr.cell? ⟨w.heap.size, 0, none⟩ = some (.slice pao p.length pcap) := by simp [World.cell?, HJ.out.box]
          by_cases hlt : k' < p.length
          · have hq0 : (0 : Int) ≤ (k' : Int) := by omega
            have hq1 : (k' : Int) < p.length := by omega
            have hal : a.length ≤ 199 := by omega
            have hb63 : a.length ≤ maxLen := by unfold maxLen; omega
            have hc63 : a.length + 1 ≤ maxLen := by unfold maxLen; omega
            go_wp2_with (first
              | (at_builtin; refine wpList_append_copy rfl _ _ _ rfl 3 i0 _ 8 Tryd.underlying22 hi0 hz0 hz1 hz2 rfl rfl u8 rfl w.heap.size a.length (ints a) HJ.out.row (fun e => HJ.out.nil (List.length_eq_zero_iff.1 e)) (ints_one a) hb63 (by omega) ?_; intro ta tn tc w4 hown4 hg4 _; have c4 : w4.cell? ⟨w.heap.size, 0, none⟩ = some (.slice pao p.length pcap) := (pres_grown hg4 _ _ c0'))
              | (at_builtin; refine wpList_append_lies _ rfl _ _ _ rfl wr.heap.size 3 i0 _ 1 8 Tryd.underlying22 hi0 hz0 hz1 hz2 rfl (by omega) (.slice ta tn tc) a.length (ints a) rfl (owns_alloc hown4) ⟨w4.heap.size, 0, none⟩ 1 1 [.int .i64 ((f + k') % p.length)] rfl rfl (World.news_of_block (cs := #[.int .i64 ((f + k') % p.length)]) (t := 3) (fr := (0, 0)) (heap_alloc_new w4 _)) (by simp [Value.oneCell']) (by omega) hc63 (by omega) (by have := hg4.size; simp; omega) (w4.heap.size + 1) (by simp) ?_; intro g5 cap5 w5 hown5 hgrow hat hlt5; have hg5 : wr.grownBy w5 none := (grown_row (grown_alloc hg4) hgrow (fun q e => owns_block hown4 q e)); have c5 : w5.cell? ⟨w.heap.size, 0, none⟩ = some (.slice pao p.length pcap) := (pres_grown hg5 _ _ c0')))
            have HG5 := hide hg5
            have hbl : (a ++ [(f + k') % p.length]).length = k + 1 := by simp [hak]
            have HO5 : Hid (w5.ownsRow wr.heap.size 3 1 (.slice (some ⟨g5, 0, none⟩) (k + 1) cap5) (a ++ [(f + k') % p.length]).length (ints (a ++ [(f + k') % p.length]))) := by
              unfold Hid
              rw [ints_snoc, hbl]
              rw [hak] at hown5
              exact hown5
            clear hg4 hg5 hgrow hat hown4 hown5 c4
            have HSh5 : Hid (ShpAt w5) := HSh.out.pres (pres_grown (grown_trans HJ.out.grown HG5.out))
            have HP5 := hide (HP.out.pres (pres_grown (grown_trans HJ.out.grown HG5.out)))
            have HI5 := hide (owns_ints HO5.out)
            have HRP := hide (replay_m p (a ++ [(f + k') % p.length]) _ _ w5 HSh5.out HP5.out HI5.out)
            refine (unhide HRP).mono ?_
            clear HRP
            rintro e w6 ⟨hg6, h⟩
            rcases h with ⟨_, rv6, rfl, s6, g6, rfl, ho6, hp6⟩ | ⟨h, _⟩
            case inr => exact absurd (checkRun_ok HV.out (by rw [hbl]; omega)) h
            obtain ⟨z1, z2, z3, rfl⟩ := owns_form ho6
            obtain ⟨z4, z5, z6, rfl⟩ := owns_form hp6
            have hrbl := HJ.out.hi
            have hg5s := HG5.out.size
            have HG6 : Hid (wr.grownBy w6 none) := grown_trans HG5.out hg6
            have HO6 : Hid (w6.ownsRow wr.heap.size 3 1 (.slice (some ⟨g5, 0, none⟩) (k + 1) cap5) (a ++ [(f + k') % p.length]).length (ints (a ++ [(f + k') % p.length]))) := owns_grown HO5.out hg6 (fun _ e => by cases e)
            have HS6 := hide ho6
            have HR6 := hide hp6
            have HJ6 : Hid (SchAt w p (.slice pao p.length pcap) w2.heap.size a u8 w6) := HJ.out.step HG6.out
            clear hg6 ho6 hp6 c5 HO5 HSh5 HP5 HI5 c0'
            generalize hx : (f + (k' : Int)) % (p.length : Int) = x at *
            have HX := hide hx
            clear hx
            obtain ⟨q1, q2, hq3, _⟩ := HJ6.out.res
            obtain ⟨n0, n1, n2, n3, n4, n5, n6, n7, n8, nf⟩ := nine_cells hq3
            have dfa : ∀ (o : Obj) (j : Nat), (w6.alloc o).frozen? ⟨w2.heap.size, j, none⟩ = false := fun o j => by
              rw [World.frozen?_alloc_old _ _ _ (by have := HJ6.out.hi; simp; omega)]; exact nf j
            clear nf hq3
            by_cases h2 : (runS p (a ++ [x])).kind = 2
            · have HN' : Hid (∀ q : Nat, q < k' + 1 → (runS p (a ++ [(f + q) % p.length])).kind = 2) := fun q hq => by
                by_cases e : q = k'
                · rw [e, HX.out]; exact h2
                · exact HN.out q (by omega)
              have hkd : ((runS p (a ++ [x])).kind != 2) = false := by simp [h2]
              clear h2
              go_wp2
              go_roundw
              case rel => exact ⟨k' + 1, by omega, by go_num, Or.inl ⟨rfl, HJ6.out.step (grown_alloc (grown_refl _ _)), HN'⟩⟩
              case measure => simp [intOf]; omega
            · have H2 := hide h2
              have hkd : ((runS p (a ++ [x])).kind != 2) = true := by simpa using h2
              clear h2
              have hrb2 : ∀ {v : Value} {bs e size n : Nat} {xs : List Value}, w6.ownsRow bs e size v n xs → wr.heap.size ≤ bs → v.ownBlock ≠ some w2.heap.size := fun h hb e => by
                have := owns_block h _ e; omega
              have HE := hide (SchAt.set (HJ6.out.step (w'' := w6.alloc (.cells (resCells (runS p (a ++ [x])) (.slice z1 z2 z3) (.slice z4 z5 z6)) 37)) (grown_alloc (grown_refl _ _))) (b := a ++ [x]) (by simp) (owns_alloc (owns_mono HO6.out (by have := HJ.out.grown.size; omega))) (hrb2 HO6.out (Nat.le_refl _)) (owns_alloc (owns_mono HS6.out (by have := HJ.out.grown.size; omega))) (owns_alloc (owns_mono HR6.out (by have := HJ.out.grown.size; omega))) (hrb2 HS6.out hg5s) (hrb2 HR6.out hg5s) (sched_snoc H5.out H2.out))
              go_wp2
              go_roundw
              case rel => exact ⟨k' + 1, by omega, by go_num, Or.inr ⟨rfl, a ++ [x], hbl, HE⟩⟩
              case measure => simp [intOf]; omega
          · have hke : k' = p.length := by omega
            exfalso
            obtain ⟨q, hq, hne⟩ := open_round H5.out hpk.1 hpk.2
            exact hne (HN.out q (by omega))
        · have c0' : wr.cell? ⟨w.heap.size, 0, none⟩ = some (.slice pao p.length pcap) := by simp [World.cell?, HJ.out.box]
          by_cases hlt : k' < p.length
          · have hq0 : (0 : Int) ≤ (k' : Int) := by omega
            have hq1 : (k' : Int) < p.length := by omega
            go_wp2
            go_roundw
            case rel => exact ⟨k + 1, b, by omega, by omega, by go_num, hbl, HJ⟩
            case measure => simp [intOf]; omega
          · have hq1 : (p.length : Int) ≤ k' := by omega
            go_wp2
            go_roundw
            case rel => exact ⟨k + 1, b, by omega, by omega, by go_num, hbl, HJ⟩
            case measure => simp [intOf]; omega
    · have HNG := hide hgo
      clear hgo
      obtain ⟨v1, v2, v3, hu8⟩ := owns_form HI.out.row
      subst hu8
      have hv2 : v2 = a.length := owns_lenq HI.out.row
      subst hv2
      obtain ⟨t0, t1, t2, t3, t4, t5, t6, t7, t8, tf⟩ := nine_cells HI.out.out
      have tf0 := tf 0
      have tf1 := tf 1
      have tf2 := tf 2
      have tf3 := tf 3
      have tf4 := tf 4
      have tf5 := tf 5
      have tf6 := tf 6
      have tf7 := tf 7
      have tf8 := tf 8
      clear tf
      have hlo := HI.out.lo
      have hne1 : w2.heap.size ≠ w.heap.size + 1 := by omega
      have hne2 : w.heap.size + 1 ≠ w2.heap.size := by omega
      have HEND : Hid ((a.length = raw.length ∨ a.length = 200) ∨ (runS p a).kind ≠ 5) := by
        by_cases h5 : (runS p a).kind = 5
        · refine Or.inl ?_
          have : ¬ (k < raw.length ∧ k < 200) := fun h => HNG.out ⟨h, h5⟩
          omega
        · exact Or.inr h5
      by_cases h1 : k < raw.length
      · by_cases h2 : k < 200
        · have h5 : (runS p a).kind ≠ 5 := fun h5 => HNG.out ⟨⟨h1, h2⟩, h5⟩
          have h5' : ((runS p a).kind == 5) = false := by simpa using h5
          have hi0' : (0 : Int) ≤ (k : Int) := by omega
          have hi1' : (k : Int) < raw.length := by omega
          have hi2' : (k : Int) < 200 := by omega
          go_wp2_with fail
          go_region
          all_goals go_wp2_with fail
          all_goals (
            refine bodyPost_ret (v := .tuple #[.slice v1 a.length v3, .agg (resCells (runS p a) (.slice x1' a.length x3') (.slice y1' y2' y3')), .bool true]) ?_ rfl ⟨_, _, a, rfl, ?_, ⟨_, _, rfl, ?_, ?_⟩, HSD.out, by omega, HEND.out, ?_⟩
            · simp [results, Tryd.results14, go_sem, t0, t1, t2, t3, t4, t5, t6, t7, t8, resCells, hak]
            · exact owns_out9 HI.out.row HI.out.out (by decide)
            · exact owns_out9 HO1.out HI.out.out (by decide)
            · exact owns_out9 HO2.out HI.out.out (by decide)
            · exact grown_out9 HI.out.grown)
        · have hi0' : (0 : Int) ≤ (k : Int) := by omega
          have hi1' : (k : Int) < raw.length := by omega
          have hi2' : (200 : Int) ≤ (k : Int) := by omega
          go_wp2_with fail
          go_region
          all_goals go_wp2_with fail
          all_goals (
            refine bodyPost_ret (v := .tuple #[.slice v1 a.length v3, .agg (resCells (runS p a) (.slice x1' a.length x3') (.slice y1' y2' y3')), .bool true]) ?_ rfl ⟨_, _, a, rfl, ?_, ⟨_, _, rfl, ?_, ?_⟩, HSD.out, by omega, HEND.out, ?_⟩
            · simp [results, Tryd.results14, go_sem, t0, t1, t2, t3, t4, t5, t6, t7, t8, resCells, hak]
            · exact owns_out9 HI.out.row HI.out.out (by decide)
            · exact owns_out9 HO1.out HI.out.out (by decide)
            · exact owns_out9 HO2.out HI.out.out (by decide)
            · exact grown_out9 HI.out.grown)
      · have hi0' : (0 : Int) ≤ (k : Int) := by omega
        have hi1' : (raw.length : Int) ≤ k := by omega
        go_wp2_with fail
        go_region
        all_goals go_wp2_with fail
        all_goals (
          refine bodyPost_ret (v := .tuple #[.slice v1 a.length v3, .agg (resCells (runS p a) (.slice x1' a.length x3') (.slice y1' y2' y3')), .bool true]) ?_ rfl ⟨_, _, a, rfl, ?_, ⟨_, _, rfl, ?_, ?_⟩, HSD.out, by omega, HEND.out, ?_⟩
          · simp [results, Tryd.results14, go_sem, t0, t1, t2, t3, t4, t5, t6, t7, t8, resCells, hak]
          · exact owns_out9 HI.out.row HI.out.out (by decide)
          · exact owns_out9 HO1.out HI.out.out (by decide)
          · exact owns_out9 HO2.out HI.out.out (by decide)
          · exact grown_out9 HI.out.grown)


end Go.Proofs.YtklenjmfalljgaaDoor

/- Small laws on worlds that are alike, and on rows. -/
namespace Go.Proofs.YtklenjmfalljgaaDoor
open Go.RowKit

theorem like_refl (w : World) : Like w w := ⟨rfl, rfl, rfl, rfl⟩
theorem like_drew {w' w : World} (h : Like w' w) : Like w'.drew w := h
theorem like_dn {w' w : World} (h : Like w' w) (n : Nat) : Like (w'.drewN n) w := by
  have := like_drewN w' n
  exact ⟨this.1.trans h.1, this.2.1.trans h.2.1, this.2.2.1.trans h.2.2.1, this.2.2.2.trans h.2.2.2⟩
theorem owns_setCell {w : World} {base : Nat} {e : TypeId} {size g n cap : Nat} {xs : List Value} (h : w.ownsRow base e size (.slice (some ⟨g, 0, none⟩) n cap) n xs) (j : Nat) (u : Value) :
    (w.setCell ⟨g, j, none⟩ u).ownsRow base e size (.slice (some ⟨g, 0, none⟩) n cap) n (xs.set j u) := by
  obtain ⟨h1, h2⟩ := h
  refine ⟨by simpa using h1, ?_⟩
  rcases h2 with ⟨e1, _⟩ | ⟨g', cap', cur, hv, hb, hh, h3, h4, h5, h6⟩
  · cases e1
  · simp only [Value.slice.injEq, Option.some.injEq, Addr.mk.injEq, true_and, and_true] at hv
    obtain ⟨rfl, rfl⟩ := hv
    exact Or.inr ⟨g, cap, cur.setIfInBounds j u, rfl, hb, heap_setCell_same w g j cur e u hh, h3, h4, by simpa using h5, by rw [← h6, Array.toList_setIfInBounds, List.take_set]⟩
theorem grown_below' {w w' : World} (h : Below w.heap.size w w') : w.grownBy w' none := ⟨h.os, h.tape, h.output, h.size, fun k hk _ => h.block k hk⟩

end Go.Proofs.YtklenjmfalljgaaDoor

/- The walks of the owner's hands: same, mark, schedule. -/
namespace Go.Proofs.YtklenjmfalljgaaDoor
open Go.RowKit
attribute [local go_sem] Go.World.cell?_alloc_some

def nilV : Value := .slice none 0 0
def hc (iv wv : Value) (n : Int) (ov mv : Value) : Array Value := #[iv, wv, .slice none 0 0, .slice none 0 0, .slice none 0 0, .int .i64 n, ov, mv, .slice none 0 0, .slice none 0 0, .slice none 0 0, .slice none 0 0, .slice none 0 0, .slice none 0 0, .slice none 0 0, .slice none 0 0]

def HAt (w : World) (b : Nat) (iv wv : Value) (n : Int) (ov mv : Value) : Prop := w.heap[b]? = some (.cells (hc iv wv n ov mv) 62 (0, 0))
theorem HAt.cell {w : World} {b : Nat} {iv wv : Value} {n : Int} {ov mv : Value} (h : HAt w b iv wv n ov mv) (o : Nat) : w.cell? ⟨b, o, none⟩ = (hc iv wv n ov mv)[o]? := by
  unfold HAt at h; simp [World.cell?, h]
theorem HAt.frozen {w : World} {b : Nat} {iv wv : Value} {n : Int} {ov mv : Value} (h : HAt w b iv wv n ov mv) (o : Nat) : w.frozen? ⟨b, o, none⟩ = false := by
  unfold HAt at h; simp [World.frozen?, h]
theorem HAt.lt {w : World} {b : Nat} {iv wv : Value} {n : Int} {ov mv : Value} (h : HAt w b iv wv n ov mv) : b < w.heap.size := (Array.getElem?_eq_some_iff.1 h).1
theorem HAt.grown {w w' : World} {b : Nat} {iv wv : Value} {n : Int} {ov mv : Value} {r : Option Nat} (h : HAt w b iv wv n ov mv) (hg : w.grownBy w' r) (hr : r ≠ some b) : HAt w' b iv wv n ov mv := by
  have hl := h.lt
  unfold HAt at *; rw [hg.block b hl (fun e => hr e.symm)]; exact h
theorem HAt.setOther {w : World} {b g o : Nat} {u : Value} {iv wv : Value} {n : Int} {ov mv : Value} (h : HAt w b iv wv n ov mv) (hg : b ≠ g) : HAt (w.setCell ⟨g, o, none⟩ u) b iv wv n ov mv := by
  unfold HAt at *; rw [Below.heap_setCell _ _ _ _ (by simpa using hg)]; exact h
theorem HAt.set0 {w : World} {b : Nat} {iv wv : Value} {n : Int} {ov mv : Value} (h : HAt w b iv wv n ov mv) (u : Value) : HAt (w.setCell ⟨b, 0, none⟩ u) b u wv n ov mv := by
  unfold HAt at *; rw [heap_setCell_same w b 0 _ _ _ h]; rfl
theorem HAt.set1 {w : World} {b : Nat} {iv wv : Value} {n : Int} {ov mv : Value} (h : HAt w b iv wv n ov mv) (u : Value) : HAt (w.setCell ⟨b, 1, none⟩ u) b iv u n ov mv := by
  unfold HAt at *; rw [heap_setCell_same w b 1 _ _ _ h]; rfl
theorem HAt.set5 {w : World} {b : Nat} {iv wv : Value} {n : Int} {ov mv : Value} (h : HAt w b iv wv n ov mv) (u : Int) : HAt (w.setCell ⟨b, 5, none⟩ (.int .i64 u)) b iv wv u ov mv := by
  unfold HAt at *; rw [heap_setCell_same w b 5 _ _ _ h]; rfl
theorem HAt.set6 {w : World} {b : Nat} {iv wv : Value} {n : Int} {ov mv : Value} (h : HAt w b iv wv n ov mv) (u : Value) : HAt (w.setCell ⟨b, 6, none⟩ u) b iv wv n u mv := by
  unfold HAt at *; rw [heap_setCell_same w b 6 _ _ _ h]; rfl
theorem HAt.set7 {w : World} {b : Nat} {iv wv : Value} {n : Int} {ov mv : Value} (h : HAt w b iv wv n ov mv) (u : Value) : HAt (w.setCell ⟨b, 7, none⟩ u) b iv wv n ov u := by
  unfold HAt at *; rw [heap_setCell_same w b 7 _ _ _ h]; rfl

set_option maxHeartbeats 400000 in
theorem num_m (n : Int) (w : World) : Calls Tryd.prog 47 #[.int .i64 n] w fun e w' => e = .returned (.int .i64 n) ∧ w' = w := by
  go_enter Tryd.func47, Tryd.ntmps47
  go_wp2
  go_ret
  exact ⟨rfl, rfl⟩

set_option maxRecDepth 100000 in
set_option maxHeartbeats 1000000 in
theorem same_m (l m : List Int) (v u : Value) (w : World) (hI : IntsAt w.heap.size w v l) (hJ : IntsAt w.heap.size w u m) (hln : l.length ≤ 9223372036854775806) :
    Calls Tryd.prog 56 #[v, u] w fun e w' => e = .returned (.bool (l == m)) ∧ Like w' w := by
  obtain ⟨ao, cap, rfl, hcap, hc⟩ := hI
  obtain ⟨bo, dap, rfl, hdap, hd⟩ := hJ
  by_cases hlen : l.length = m.length
  · have HC := hide hc
    have HD := hide hd
    clear hc hd
    have hl2 : (l.length : Int) = m.length := by omega
    have hl3 : ((l.length : Int) != (m.length : Int)) = false := by simp; omega
    have HLN := hide hlen
    go_enter Tryd.func56, Tryd.ntmps56
    clear hlen hl2
    go_wp2_with fail
    go_loopw [5] (fun i w' => ∃ k : Nat, k ≤ l.length ∧ i = .int .i64 k ∧ Hid (Like w' w) ∧ Hid (l.take k = m.take k)) (fun i _ => l.length - (intOf i).toNat)
    case atStart => exact ⟨0, Nat.zero_le _, rfl, hide (like_refl _), by simp [Hid]⟩
    case round =>
      obtain ⟨k, hk, rfl, HK, HA⟩ := hrel
      obtain ⟨w5, hw5⟩ : ∃ w5, w5 = wr := ⟨_, rfl⟩
      subst hw5
      by_cases hlt : k < l.length
      · have hlt2 : k < m.length := by have := HLN.out; omega
        obtain ⟨g, o, rfl, _, c0⟩ := HC.out k hlt
        obtain ⟨g2, o2, rfl, _, c1⟩ := HD.out k hlt2
        have cL : ∀ a, w5.cell? a = w.cell? a := fun a => by simp [World.cell?, HK.out.1]
        have d0 : w5.cell? ⟨g, o + k, none⟩ = some (.int .i64 l[k]) := by rw [cL]; exact c0
        have d1 : w5.cell? ⟨g2, o2 + k, none⟩ = some (.int .i64 m[k]) := by rw [cL]; exact c1
        have hk0 : (0 : Int) ≤ (k : Int) := by omega
        have hk1 : (k : Int) < l.length := by omega
        have hk2 : (k : Int) < m.length := by omega
        have HT1 : Hid (l.take (k + 1) = l.take k ++ [l[k]]) := List.take_succ_eq_append_getElem hlt
        have HT2 : Hid (m.take (k + 1) = m.take k ++ [m[k]]) := List.take_succ_eq_append_getElem hlt2
        clear cL c0 c1
        by_cases heq : l[k] = m[k]
        · have hq : (l[k] != m[k]) = false := by simpa using heq
          have HA1 : Hid (l.take (k + 1) = m.take (k + 1)) := by unfold Hid; rw [HT1.out, HT2.out, HA.out, heq]
          clear heq HT1 HT2
          generalize l[k] = x at *
          generalize m[k] = y at *
          go_wp2_with fail
          go_quiet (fail)
          go_wp2_with fail
          go_roundw
          case rel => exact ⟨k + 1, by omega, by go_num, hide (like_dn HK.out _), HA1⟩
          case measure => simp [intOf]; omega
        · have hq : (l[k] != m[k]) = true := by simpa using heq
          have HE : Hid ((l == m) = false) := by
            unfold Hid
            simp only [beq_eq_false_iff_ne]
            intro e
            apply heq
            simp [e]
          clear heq HT1 HT2
          generalize l[k] = x at *
          generalize m[k] = y at *
          go_wp2_with fail
          go_quiet (fail)
          go_wp2_with fail
          go_ret
          exact ⟨by rw [HE.out]; rfl, like_dn HK.out _⟩
      · have HE : Hid ((l == m) = true) := by
          unfold Hid
          have h1 := HA.out
          rw [List.take_of_length_le (by omega), List.take_of_length_le (by have := HLN.out; omega)] at h1
          simpa using h1
        have q2 : (l.length : Int) ≤ (k : Int) := by omega
        go_wp2_with fail
        go_ret
        exact ⟨by rw [HE.out]; rfl, HK.out⟩
  · have HE : Hid ((l == m) = false) := by
      unfold Hid
      simp only [beq_eq_false_iff_ne]
      intro e; exact hlen (by rw [e])
    have hl3 : ((l.length : Int) != (m.length : Int)) = true := by simp; omega
    clear hc hd
    go_enter Tryd.func56, Tryd.ntmps56
    go_wp2_with fail
    go_ret
    exact ⟨by rw [HE.out]; rfl, like_refl _⟩

set_option maxRecDepth 100000 in
set_option maxHeartbeats 400000 in
theorem mark_m (b : Nat) (iv wv : Value) (n : Int) (ov mv : Value) (w : World) (h : HAt w b iv wv n ov mv) (h0 : 0 ≤ n) (h1 : n ≤ 1000000) :
    Calls Tryd.prog 86 #[pt b] w fun e w' => e = .returned (.int .i64 (-77000000 - (n + 1))) ∧ w' = w.setCell ⟨b, 5, none⟩ (.int .i64 (n + 1)) := by
  have c5 : w.cell? ⟨b, 5, none⟩ = some (.int .i64 n) := h.cell 5
  have f5 := h.frozen 5
  have c6 : (w.setCell ⟨b, 5, none⟩ (.int .i64 (n + 1))).cell? ⟨b, 5, none⟩ = some (.int .i64 (n + 1)) := (h.set5 (n + 1)).cell 5
  have hpt : pt b = .pointer (some ⟨b, 0, none⟩) := rfl
  rw [hpt]
  clear h hpt
  go_enter Tryd.func86, Tryd.ntmps86
  go_wp2_with fail
  go_ret
  exact ⟨rfl, rfl⟩

end Go.Proofs.YtklenjmfalljgaaDoor

/- The walk of the hands' schedule. -/
namespace Go.Proofs.YtklenjmfalljgaaDoor
open Go.RowKit
attribute [local go_sem] Go.World.cell?_alloc_some

/-- copy of a list of numbers onto a row of one's own. -/
theorem run_copy_ints {P : Program} (w : World) (t ty elem : TypeId) (hu : P.underlying t = some (.slice elem)) (hsz : (P.info? elem).map (·.size) = some 1) (g dLen dCap : Nat) (sv : Value) (B : Nat) (l : List Int) (hI : IntsAt B w sv l) (cur : Array Value) (ct : TypeId) (hg : w.heap[g]? = some (.cells cur ct (0, 0))) (hln : l.length ≤ dLen) (hfit : l.length ≤ cur.size) :
    ∃ w', (Builtin.copy_ #[t, t] ty #[.slice (some ⟨g, 0, none⟩) dLen dCap, sv]).run P w = .ok (goInt l.length) w' ∧ w'.heap[g]? = some (.cells (ints l ++ cur.toList.drop l.length).toArray ct (0, 0)) ∧ w.grownBy w' (some g) := by
  obtain ⟨ao, cap, e, hcap, hc⟩ := hI
  subst e
  by_cases h0 : l.length = 0
  · have hl : l = [] := List.length_eq_zero_iff.1 h0
    subst hl
    refine ⟨w, run_copy_none (P := P) w t t ty elem _ _ dLen dCap _ cap hu hsz (by simp), ?_, grown_refl _ _⟩
    rw [hg]; simp [ints]
  · obtain ⟨g', o', e', _, _⟩ := hc 0 (by omega)
    subst e'
    have hcc : ∀ k (hk : k < l.length), w.cell? ⟨g', o' + k, none⟩ = some (.int .i64 l[k]) := by
      intro k hk
      obtain ⟨g2, o2, e2, _, c⟩ := hc k hk
      simp only [Option.some.injEq, Addr.mk.injEq, and_true] at e2
      obtain ⟨rfl, rfl⟩ := e2
      exact c
    have hmin : Nat.min l.length dLen = l.length := Nat.min_eq_left hln
    have hr := run_copy_row (P := P) w t t ty elem g 0 dLen dCap ⟨g', o', none⟩ l.length cap cur ct (ints l) hu hsz hg (by rw [ints_len, hmin]) (fun j v hj => by
      have hjl : j < l.length := by have := (List.getElem?_eq_some_iff.1 hj).1; rwa [ints_len] at this
      have hadd : (⟨g', o', none⟩ : Addr).add j = ⟨g', o' + j, none⟩ := by unfold Addr.add; split <;> simp_all
      rw [hadd, hcc j hjl, ← hj]
      simp [ints, hjl]) (by rw [ints_len]; omega) (ints_one l)
    rw [ints_len] at hr
    simp only [List.take_zero, List.nil_append, Nat.zero_add] at hr
    exact ⟨_, hr, setRow_heap w g cur _ ct (0, 0) hg, ⟨rfl, rfl, rfl, by simp, fun k hk hr => setRow_other w g k _ (fun e => hr (by rw [e]))⟩⟩

def ink : Value := .int .i64 (-77000000)
def lentRow (l : List Int) : Array Value := (ints l ++ [ink, ink]).toArray

theorem info_ints : ((Tryd.prog.info? 22).map fun i => (i.zero, i.size, i.bytes)) = some (some (.slice none 0 0), 1, 24) := by kernel_rfl

/-- What the hands' schedule leaves: the list x that was lent lies at g; the hands hold it, and what stood in it. -/
structure LentAt (w : World) (b g : Nat) (n : Int) (ov mv lv : Value) (l : List Int) (w' : World) : Prop where
  h : ∃ g1 c1 g2 c2, HAt w' b (.slice (some ⟨g1, 0, none⟩) 1 c1) (.slice (some ⟨g2, 0, none⟩) 1 c2) n ov mv ∧ w'.cell? ⟨g1, 0, none⟩ = some (.slice (some ⟨g, 0, none⟩) (l.length + 2) (l.length + 2)) ∧ w'.cell? ⟨g2, 0, none⟩ = some lv ∧ g1 ≠ b ∧ g2 ≠ b ∧ g1 ≠ g ∧ g2 ≠ g
  row : w'.heap[g]? = some (.cells (lentRow l) 3 (0, 0))
  gb : g ≠ b
  lo : w.heap.size ≤ g

theorem row_ink (l : List Int) (cur : Array Value) (hc : cur.size = l.length + 2) : ((ints l ++ cur.toList.drop l.length).toArray.setIfInBounds l.length ink).setIfInBounds (l.length + 1) ink = lentRow l := by
  obtain ⟨c⟩ := cur
  simp at hc
  obtain ⟨x, y, h1⟩ : ∃ x y, c.drop l.length = [x, y] := ⟨c[l.length]'(by omega), c[l.length + 1]'(by omega), by
    rw [List.drop_eq_getElem_cons (by omega), List.drop_eq_getElem_cons (by omega), List.drop_eq_nil_of_le (by omega)]⟩
  have e1 : ∀ (a : List Value) (x y z : Value) (k : Nat), k = a.length → (a ++ [x, y]).set k z = a ++ [z, y] := by
    intro a x y z k hk; subst hk; rw [List.set_append]; simp
  have e2 : ∀ (a : List Value) (x y z : Value) (k : Nat), k = a.length → (a ++ [x, y]).set (k + 1) z = a ++ [x, z] := by
    intro a x y z k hk; subst hk; rw [List.set_append, if_neg (by omega)]; simp
  have el := (ints_len l).symm
  simp only [h1, List.setIfInBounds_toArray, lentRow]
  rw [e1 _ _ _ _ _ el, e2 _ _ _ _ _ el]

set_option maxRecDepth 100000 in
set_option maxHeartbeats 1000000 in
theorem schedule_h (b : Nat) (n : Int) (ov mv lv : Value) (l : List Int) (w : World) (h : HAt w b (.slice none 0 0) (.slice none 0 0) n ov mv) (hI : IntsAt w.heap.size w lv l) (hln : l.length ≤ 1048576) :
    Calls Tryd.prog 45 #[pt b, lv] w fun e w' => ∃ g, e = .returned (.slice (some ⟨g, 0, none⟩) l.length (l.length + 2)) ∧ LentAt w b g n ov mv lv l w' ∧ w.grownBy w' (some b) := by
  obtain ⟨i0, hi0, hz0, hz1, hz2⟩ := info_parts info_int
  obtain ⟨i1, hi1, hy0, hy1, hy2⟩ := info_parts info_ints
  have HH := hide h
  have HI := hide hI
  have hb := h.lt
  obtain ⟨ao, cap, rfl⟩ := hI.form
  have hpt : pt b = .pointer (some ⟨b, 0, none⟩) := rfl
  rw [hpt]
  clear h hI hpt
  have q0 : (l.length : Int) ≤ 1048576 := by omega
  have q1 : (0 : Int) ≤ (l.length : Int) := by omega
  have hsz1 : (Tryd.prog.info? 3).map (·.size) = some 1 := by rw [hi0]; simp [hz1]
  go_enter Tryd.func45, Tryd.ntmps45
  go_upto_region 3 with (at_make; refine wpList_make_full _ rfl _ _ _ rfl w.heap.size 3 i0 _ 1 Tryd.underlying22 hi0 hz0 hz1 .i64 .i64 _ _ (l.length + 2) rfl rfl (by simp) (by simp) (by rw [hz2]; omega) (by unfold maxLen; omega) (by simp) ?_; intro w2 hown2 hg2)
  have hrow2 : ∃ cur, w2.heap[w.heap.size]? = some (.cells cur 3 (0, 0)) ∧ cur.size = l.length + 2 := by
    rcases hown2.2 with ⟨e, _⟩ | ⟨g', cap', cur, hv, _, hh, _, _, hcs, _⟩
    · cases e
    · simp only [Value.slice.injEq, Option.some.injEq, Addr.mk.injEq, true_and, and_true] at hv
      obtain ⟨rfl, rfl⟩ := hv
      exact ⟨cur, hh, by simpa using hcs⟩
  obtain ⟨cur, hcur, hcsz⟩ := hrow2
  have HG2 := hide hg2
  have HI2 : Hid (IntsAt w2.heap.size w2 (.slice ao l.length cap) l) := (HI.out.pres (pres_grown hg2)).mono hg2.size
  have HH2 : Hid (HAt w2 b (.slice none 0 0) (.slice none 0 0) n ov mv) := HH.out.grown hg2 (by simp)
  have HCUR := hide hcur
  clear hown2 hg2 hcur HI
  obtain ⟨w3, hrun, hrow3, hg3⟩ := run_copy_ints w2 22 3 3 Tryd.underlying22 hsz1 w.heap.size (l.length + 2) (l.length + 2) (.slice ao l.length cap) w2.heap.size l HI2.out cur 3 HCUR.out (by omega) (by omega)
  go_upto_region 4 with fail
  clear hrun
  have HH3 : Hid (HAt w3 b (.slice none 0 0) (.slice none 0 0) n ov mv) := HH2.out.grown hg3 (by simp; omega)
  have HG3 : Hid (w.grownBy w3 none) := ⟨hg3.os.trans HG2.out.os, hg3.tape.trans HG2.out.tape, hg3.output.trans HG2.out.output, Nat.le_trans HG2.out.size hg3.size, fun k hk _ => by
    rw [hg3.block k (Nat.lt_of_lt_of_le hk HG2.out.size) (by simp; omega)]; exact HG2.out.block k hk (by simp)⟩
  have hs3 : w.heap.size < w3.heap.size := (Array.getElem?_eq_some_iff.1 hrow3).1
  obtain ⟨R, hR⟩ : ∃ R : Array Value, R = (ints l ++ cur.toList.drop l.length).toArray := ⟨_, rfl⟩
  rw [← hR] at hrow3
  have hRs : R.size = l.length + 2 := by rw [hR]; simp [ints_len]; omega
  have HRI : Hid ((R.setIfInBounds l.length ink).setIfInBounds (l.length + 1) ink = lentRow l) := by unfold Hid; rw [hR]; exact row_ink l cur hcsz
  have hrow4 := heap_setCell_same w3 w.heap.size l.length R 3 ink hrow3
  have hrow5 := heap_setCell_same _ w.heap.size (l.length + 1) _ 3 ink hrow4
  rw [HRI.out] at hrow5
  have d0 : ∃ u, w3.cell? ⟨w.heap.size, l.length, none⟩ = some u := by
    refine ⟨R[l.length]'(by omega), ?_⟩
    simp [World.cell?, hrow3]
  have d1 : ∃ u, (w3.setCell ⟨w.heap.size, l.length, none⟩ ink).cell? ⟨w.heap.size, l.length + 1, none⟩ = some u := by
    refine ⟨(R.setIfInBounds l.length ink)[l.length + 1]'(by simp; omega), ?_⟩
    simp only [World.cell?, hrow4]
    exact Array.getElem?_eq_getElem _
  obtain ⟨u0, d0⟩ := d0
  obtain ⟨u1, d1⟩ := d1
  have f0 : w3.frozen? ⟨w.heap.size, l.length, none⟩ = false := by simp [World.frozen?, hrow3]
  have f1 : (w3.setCell ⟨w.heap.size, l.length, none⟩ ink).frozen? ⟨w.heap.size, l.length + 1, none⟩ = false := by simp [World.frozen?, hrow4]
  obtain ⟨w5, hw5⟩ : ∃ w5, w5 = (w3.setCell ⟨w.heap.size, l.length, none⟩ ink).setCell ⟨w.heap.size, l.length + 1, none⟩ ink := ⟨_, rfl⟩
  have HH5 : Hid (HAt w5 b (.slice none 0 0) (.slice none 0 0) n ov mv) := by rw [hw5]; exact (HH3.out.setOther (by omega)).setOther (by omega)
  have HG5 : Hid (w.grownBy w5 none) := by rw [hw5]; exact grown_setNew (grown_setNew HG3.out (Nat.le_refl _)) (Nat.le_refl _)
  have HR5 : Hid (w5.heap[w.heap.size]? = some (.cells (lentRow l) 3 (0, 0))) := by rw [hw5]; exact hrow5
  have hs5 : w.heap.size < w5.heap.size := by rw [hw5]; simpa using hs3
  have hink : ink = .int .i64 (-77000000) := rfl
  rw [hink] at hw5 d1 f1
  have HW5 := hide hw5
  clear hrow3 hg3 hR hrow4 hrow5 hw5
  have HC0 : Hid (w5.cell? ⟨b, 0, none⟩ = some (.slice none 0 0)) := HH5.out.cell 0
  go_upto_region 6 with fail
  rw [← HW5.out]
  clear d0 d1 f0 f1 HW5 HCUR HRI
  have c0 := HC0.out
  have f0 := HH5.out.frozen 0
  have hnil5 : ∀ o, (w5.alloc o).ownsRow w.heap.size 22 1 (.slice none 0 0) 0 [] := fun o => ⟨rfl, Or.inl ⟨rfl, rfl⟩⟩
  have HN5 := hide hnil5
  clear hnil5
  go_upto_region 7 with (at_builtin; refine wpList_append_lies _ rfl _ _ _ rfl w.heap.size 22 i1 _ 1 24 Tryd.underlying41 hi1 hy0 hy1 hy2 rfl (by omega) (.slice none 0 0) 0 [] rfl (HN5.out _) ⟨w5.heap.size, 0, none⟩ 1 1 [.slice (some ⟨w.heap.size, 0, none⟩) (l.length + 2) (l.length + 2)] rfl rfl (World.news_of_block (cs := #[.slice (some ⟨w.heap.size, 0, none⟩) (l.length + 2) (l.length + 2)]) (t := 22) (fr := (0, 0)) (heap_alloc_new w5 _)) (by simp [Value.oneCell']) (by omega) (by unfold maxLen; omega) (by omega) (by simp; omega) (w5.heap.size + 1) (by simp) ?_; intro g6 cap6 w6 hown6 hgrow6 hat6 hlt6; have b0 : w6.cell? ⟨b, 0, none⟩ = some (.slice none 0 0) := (pres_grown (grown_trans (grown_alloc (grown_refl w5 none)) hgrow6) _ _ c0); have b1 : w6.frozen? ⟨b, 0, none⟩ = false := ((HH5.out.grown (grown_trans (grown_alloc (grown_refl w5 none)) hgrow6) (by simp)).frozen 0))
  have HG6 : Hid (w5.grownBy w6 none) := grown_trans (grown_alloc (grown_refl w5 none)) hgrow6
  have hg6 : g6 = w5.heap.size + 1 := by
    rcases hat6 with e | e
    · cases e
    · exact e
  have hc6 : w6.cell? ⟨g6, 0, none⟩ = some (.slice (some ⟨w.heap.size, 0, none⟩) (l.length + 2) (l.length + 2)) := by
    have := hown6.cellAt 0 (by omega)
    rw [this]; rfl
  have HH6 : Hid (HAt w6 b (.slice none 0 0) (.slice none 0 0) n ov mv) := HH5.out.grown HG6.out (by simp)
  obtain ⟨w7, hw7⟩ : ∃ w7, w7 = w6.setCell ⟨b, 0, none⟩ (.slice (some ⟨g6, 0, none⟩) (0 + 1) cap6) := ⟨_, rfl⟩
  have HH7 : Hid (HAt w7 b (.slice (some ⟨g6, 0, none⟩) 1 cap6) (.slice none 0 0) n ov mv) := by rw [hw7]; exact HH6.out.set0 _
  have hs7 : w5.heap.size + 1 < w7.heap.size := by rw [hw7]; simp; omega
  have HG7 : Hid (w.grownBy w7 (some b)) := by
    rw [hw7]
    refine grown_trans (grown_trans (r := some b) ⟨HG5.out.os, HG5.out.tape, HG5.out.output, HG5.out.size, fun k hk _ => HG5.out.block k hk (by simp)⟩ ⟨HG6.out.os, HG6.out.tape, HG6.out.output, HG6.out.size, fun k hk _ => HG6.out.block k hk (by simp)⟩) grown_set
  have HR7 : Hid (w7.heap[w.heap.size]? = some (.cells (lentRow l) 3 (0, 0))) := by
    unfold Hid
    rw [hw7, Below.heap_setCell _ _ _ _ (by simp; omega), HG6.out.block _ (by omega) (by simp)]; exact HR5.out
  have hc7 : w7.cell? ⟨g6, 0, none⟩ = some (.slice (some ⟨w.heap.size, 0, none⟩) (l.length + 2) (l.length + 2)) := by
    rw [hw7, World.cell?_of_block (Below.heap_setCell _ _ _ _ (by simp; omega))]; exact hc6
  have HW7 := hide hw7
  have e01 : (0 + 1 : Nat) = 1 := rfl
  clear hown6 hgrow6 hat6 hc6 b0 b1 hw7 c0 f0
  rw [← HW7.out]
  clear HW7
  have c1 : w7.cell? ⟨b, 1, none⟩ = some (.slice none 0 0) := HH7.out.cell 1
  have hnil7 : ∀ o, (w7.alloc o).ownsRow w.heap.size 22 1 (.slice none 0 0) 0 [] := fun o => ⟨rfl, Or.inl ⟨rfl, rfl⟩⟩
  have HN7 := hide hnil7
  clear hnil7
  go_upto_region 8 with (at_builtin; refine wpList_append_lies _ rfl _ _ _ rfl w.heap.size 22 i1 _ 1 24 Tryd.underlying41 hi1 hy0 hy1 hy2 rfl (by omega) (.slice none 0 0) 0 [] rfl (HN7.out _) ⟨w7.heap.size, 0, none⟩ 1 1 [.slice ao l.length cap] rfl rfl (World.news_of_block (cs := #[.slice ao l.length cap]) (t := 22) (fr := (0, 0)) (heap_alloc_new w7 _)) (by simp [Value.oneCell']) (by omega) (by unfold maxLen; omega) (by omega) (by simp; omega) (w7.heap.size + 1) (by simp) ?_; intro g8 cap8 w8 hown8 hgrow8 hat8 hlt8; have b0 : w8.cell? ⟨b, 1, none⟩ = some (.slice none 0 0) := (pres_grown (grown_trans (grown_alloc (grown_refl w7 none)) hgrow8) _ _ c1); have b1 : w8.frozen? ⟨b, 1, none⟩ = false := ((HH7.out.grown (grown_trans (grown_alloc (grown_refl w7 none)) hgrow8) (by simp)).frozen 1))
  have HG8 : Hid (w7.grownBy w8 none) := grown_trans (grown_alloc (grown_refl w7 none)) hgrow8
  have hg8 : g8 = w7.heap.size + 1 := by
    rcases hat8 with e | e
    · cases e
    · exact e
  have hc8 : w8.cell? ⟨g8, 0, none⟩ = some (.slice ao l.length cap) := by
    have := hown8.cellAt 0 (by omega)
    rw [this]; rfl
  have HH8 : Hid (HAt w8 b (.slice (some ⟨g6, 0, none⟩) 1 cap6) (.slice none 0 0) n ov mv) := HH7.out.grown HG8.out (by simp)
  have HFIN : Hid (LentAt w b w.heap.size n ov mv (.slice ao l.length cap) l (w8.setCell ⟨b, 1, none⟩ (.slice (some ⟨g8, 0, none⟩) (0 + 1) cap8)) ∧ w.grownBy (w8.setCell ⟨b, 1, none⟩ (.slice (some ⟨g8, 0, none⟩) (0 + 1) cap8)) (some b)) := by
    refine ⟨⟨⟨g6, cap6, g8, cap8, HH8.out.set1 _, ?_, ?_, by omega, by omega, by omega, by omega⟩, ?_, by omega, Nat.le_refl _⟩, ?_⟩
    · rw [World.cell?_of_block (Below.heap_setCell _ _ _ _ (by simp; omega))]; exact pres_grown HG8.out _ _ hc7
    · rw [World.cell?_of_block (Below.heap_setCell _ _ _ _ (by simp; omega))]; exact hc8
    · rw [Below.heap_setCell _ _ _ _ (by simp; omega), HG8.out.block _ (by omega) (by simp)]; exact HR7.out
    · exact grown_trans (grown_trans HG7.out ⟨HG8.out.os, HG8.out.tape, HG8.out.output, HG8.out.size, fun k hk _ => HG8.out.block k hk (by simp)⟩) grown_set
  clear hown8 hgrow8 hat8 hc8 b0 b1 c1 hc7 hg8 hg6
  have q2 : (l.length : Int) ≤ (l.length : Int) + 2 := by omega
  go_wp2_with fail
  go_ret
  exact ⟨w.heap.size, rfl, HFIN.out.1, HFIN.out.2⟩

end Go.Proofs.YtklenjmfalljgaaDoor

/- The walk of the hands' back. -/
namespace Go.Proofs.YtklenjmfalljgaaDoor
open Go.RowKit
attribute [local go_sem] Go.World.cell?_alloc_some

theorem lentRow_len (l : List Int) : (lentRow l).size = l.length + 2 := by simp [lentRow, ints_len]
theorem lentRow_at (l : List Int) (k : Nat) (hk : k < l.length) : (lentRow l)[k]? = some (.int .i64 l[k]) := by
  simp [lentRow, ints, List.getElem?_append, hk]
theorem lentRow_ink0 (l : List Int) : (lentRow l)[l.length]? = some ink := by
  simp [lentRow, ints_len]
theorem lentRow_ink1 (l : List Int) : (lentRow l)[l.length + 1]? = some ink := by
  simp [lentRow, ints_len]

theorem lent_ints {w : World} {g : Nat} {l : List Int} (h : w.heap[g]? = some (.cells (lentRow l) 3 (0, 0))) : IntsAt w.heap.size w (.slice (some ⟨g, 0, none⟩) l.length (l.length + 2)) l := by
  refine ⟨some ⟨g, 0, none⟩, l.length + 2, rfl, by omega, fun k hk => ⟨g, 0, rfl, (Array.getElem?_eq_some_iff.1 h).1, ?_⟩⟩
  rw [Nat.zero_add]
  simp only [World.cell?, h]
  exact lentRow_at l k hk

def Turned (w : World) (b g : Nat) (w' : World) : Prop := w'.os = w.os ∧ w'.tape = w.tape ∧ w'.output = w.output ∧ w.heap.size ≤ w'.heap.size ∧ ∀ k, k < w.heap.size → k ≠ b → k ≠ g → w'.heap[k]? = w.heap[k]?
theorem Turned.refl (w : World) (b g : Nat) : Turned w b g w := ⟨rfl, rfl, rfl, Nat.le_refl _, fun _ _ _ _ => rfl⟩
theorem Turned.below {w w1 w2 : World} {b g : Nat} (h : Turned w b g w1) (hb : Below w1.heap.size w1 w2) : Turned w b g w2 :=
  ⟨hb.os.trans h.1, hb.tape.trans h.2.1, hb.output.trans h.2.2.1, Nat.le_trans h.2.2.2.1 hb.size, fun k hk h1 h2 => by rw [hb.block k (Nat.lt_of_lt_of_le hk h.2.2.2.1)]; exact h.2.2.2.2 k hk h1 h2⟩
theorem Turned.set {w w1 : World} {b g c o : Nat} {v : Value} (h : Turned w b g w1) (hc : c = b ∨ c = g) : Turned w b g (w1.setCell ⟨c, o, none⟩ v) :=
  ⟨h.1, h.2.1, h.2.2.1, by simpa using h.2.2.2.1, fun k hk h1 h2 => by rw [Below.heap_setCell _ _ _ _ (by rcases hc with rfl | rfl <;> simpa using by assumption)]; exact h.2.2.2.2 k hk h1 h2⟩
theorem Turned.like {w w1 w2 : World} {b g : Nat} (h : Turned w b g w1) (hl : Like w2 w1) : Turned w b g w2 :=
  ⟨hl.2.1.trans h.1, hl.2.2.2.trans h.2.1, hl.2.2.1.trans h.2.2.1, by rw [hl.1]; exact h.2.2.2.1, fun k hk h1 h2 => by rw [hl.1]; exact h.2.2.2.2 k hk h1 h2⟩

/-- In the midst of the writing over: the first k are 3. -/
structure OverIn (w : World) (b g : Nat) (iv wv : Value) (n : Int) (ov mv : Value) (sz : Nat) (w' : World) : Prop where
  turned : Turned w b g w'
  h : HAt w' b iv wv n ov mv
  row : ∃ R : Array Value, R.size = sz ∧ w'.heap[g]? = some (.cells R 3 (0, 0))

set_option maxRecDepth 100000 in
set_option maxHeartbeats 1000000 in
theorem back_h (b g g1 c1 g2 c2 : Nat) (n : Int) (ov mv lv : Value) (l : List Int) (w : World) (hln : l.length ≤ 1048576)
    (h : HAt w b (.slice (some ⟨g1, 0, none⟩) 1 c1) (.slice (some ⟨g2, 0, none⟩) 1 c2) n ov mv) (h1 : w.cell? ⟨g1, 0, none⟩ = some (.slice (some ⟨g, 0, none⟩) (l.length + 2) (l.length + 2))) (h2 : w.cell? ⟨g2, 0, none⟩ = some lv)
    (hr : w.heap[g]? = some (.cells (lentRow l) 3 (0, 0))) (hI : IntsAt w.heap.size w lv l) (hgb : g ≠ b) (_hg1 : g1 ≠ b) (_hg1g : g1 ≠ g) :
    Calls Tryd.prog 46 #[pt b] w fun e w' => e = .returned (.bool true) ∧ HAt w' b (.slice none 0 0) (.slice none 0 0) n ov mv ∧ Turned w b g w' := by
  have HH := hide h
  have HR := hide hr
  have HI := hide hI
  obtain ⟨ao, cap, rfl⟩ := hI.form
  have a0 : w.cell? ⟨b, 0, none⟩ = some (.slice (some ⟨g1, 0, none⟩) 1 c1) := h.cell 0
  have a1 : w.cell? ⟨b, 1, none⟩ = some (.slice (some ⟨g2, 0, none⟩) 1 c2) := h.cell 1
  have a2 : w.cell? ⟨b, 2, none⟩ = some (.slice none 0 0) := h.cell 2
  have a4 : w.cell? ⟨b, 4, none⟩ = some (.slice none 0 0) := h.cell 4
  have hpt : pt b = .pointer (some ⟨b, 0, none⟩) := rfl
  rw [hpt]
  clear h hr hI hpt
  go_enter Tryd.func46, Tryd.ntmps46
  go_wp2_with fail
  go_loopw [3, 5] (fun ok i w' => ok = .bool true ∧ i = .int .i64 0 ∧ Hid (w' = w)) (fun _ _ _ => 0)
  case atStart => exact ⟨rfl, rfl, hide rfl⟩
  case round =>
    obtain ⟨rfl, rfl, HW⟩ := hrel
    rw [HW.out]
    clear HW
    go_wp2_with fail
    go_loopw [3, 11] (fun ok i w' => ok = .bool true ∧ i = .int .i64 0 ∧ Hid (w' = w)) (fun _ _ _ => 0)
    case atStart => exact ⟨rfl, rfl, hide rfl⟩
    case round =>
      obtain ⟨rfl, rfl, HW⟩ := hrel
      rw [HW.out]
      clear HW
      go_wp2_with fail
      go_loopw [3, 16] (fun ok i w' => ok = .bool true ∧ ((i = .int .i64 0 ∧ Hid (w' = w)) ∨ (i = .int .i64 1 ∧ Hid (OverIn w b g (.slice (some ⟨g1, 0, none⟩) 1 c1) (.slice (some ⟨g2, 0, none⟩) 1 c2) n ov mv (l.length + 2) w')))) (fun _ i _ => 1 - (intOf i).toNat)
      case atStart => exact ⟨rfl, Or.inl ⟨rfl, hide rfl⟩⟩
      case round =>
        obtain ⟨rfl, hrel⟩ := hrel
        rcases hrel with ⟨rfl, HW⟩ | ⟨rfl, HO⟩
        · rw [HW.out]
          clear HW
          go_wp2_with fail
          have callS : ∀ (d : Nat) (os : Array Obj), Calls Tryd.prog 56 #[.slice (some ⟨g, 0, none⟩) l.length (l.length + 2), .slice ao l.length cap] (Sort.grow (redrawn w d) os) fun e w'' => e = .returned (.bool true) ∧ ∃ p : Regrown, w'' = Sort.grow (redrawn w p.d) p.os := by
            intro d os
            have hbel := grown_below' (below_regrown w d os)
            refine Calls.regrown_of ((same_m l l _ _ _ (((lent_ints HR.out).pres (pres_grown hbel)).mono hbel.size) ((HI.out.pres (pres_grown hbel)).mono hbel.size) (by omega)).mono ?_)
            rintro e w' ⟨rfl, hl⟩
            refine ⟨by simp, ?_⟩
            have := grown_of_like (r := none) hl
            exact ⟨this.os, this.tape, this.output, this.size, fun k hk => this.block k hk (by simp)⟩
          have k1 := fun d os => cell_regrown a1 d os
          have k2 := fun d os => cell_regrown h2 d os
          have qn0 : (0 : Int) ≤ (l.length : Int) := by omega
          have qn : (l.length : Int) ≤ (l.length : Int) + 2 := by omega
          refine wp_region_quiet_below (by kernel_rfl) (by kernel_rfl) ?_
          repeat (quiet_step (exact callS _ _))
          refine wpQuiet_nil ?_
          intro w6 hw6
          obtain ⟨⟨dq, osq⟩, hw6⟩ := hw6
          have hB6 := below_regrown w dq osq
          rw [← hw6] at hB6
          clear hw6 callS k1 k2
          have hG6 := grown_below' hB6
          have HT6 : Hid (Turned w b g w6) := (Turned.refl w b g).below hB6
          have hr6 : w6.heap[g]? = some (.cells (lentRow l) 3 (0, 0)) := by
            rw [hG6.block g (Array.getElem?_eq_some_iff.1 HR.out).1 (by simp)]; exact HR.out
          have HH6 := hide (HH.out.grown hG6 (by simp))
          have x0 : w6.cell? ⟨g, l.length, none⟩ = some (.int .i64 (-77000000)) := by simp only [World.cell?, hr6]; exact lentRow_ink0 l
          have x1 : w6.cell? ⟨g, l.length + 1, none⟩ = some (.int .i64 (-77000000)) := by simp only [World.cell?, hr6]; exact lentRow_ink1 l
          have HOV : Hid (OverIn w b g (.slice (some ⟨g1, 0, none⟩) 1 c1) (.slice (some ⟨g2, 0, none⟩) 1 c2) n ov mv (l.length + 2) w6) := ⟨HT6.out, HH6.out, lentRow l, lentRow_len l, hr6⟩
          have qn1 : (l.length : Int) < (l.length : Int) + 2 := by omega
          have qn2 : (l.length : Int) + 1 < (l.length : Int) + 2 := by omega
          clear hB6 hG6 hr6 a0 a1 a2 a4 h1 h2
          go_wp2_with fail
          go_loopw [20] (fun i w' => ∃ k : Nat, k ≤ l.length + 2 ∧ i = .int .i64 k ∧ Hid (OverIn w b g (.slice (some ⟨g1, 0, none⟩) 1 c1) (.slice (some ⟨g2, 0, none⟩) 1 c2) n ov mv (l.length + 2) w')) (fun i _ => l.length + 2 - (intOf i).toNat)
          case atStart => exact ⟨0, by omega, rfl, HOV⟩
          case round =>
            obtain ⟨k, hk, rfl, HOK⟩ := hrel
            obtain ⟨w7, hw7⟩ : ∃ w7, w7 = wr := ⟨_, rfl⟩
            rw [← hw7] at HOK ⊢
            clear hw7
            by_cases hlt : k < l.length + 2
            · obtain ⟨R, hRs, hRr⟩ := HOK.out.row
              have y0 : ∃ u, w7.cell? ⟨g, k, none⟩ = some u := ⟨R[k]'(by omega), by simp only [World.cell?, hRr]; exact Array.getElem?_eq_getElem _⟩
              obtain ⟨u, y0⟩ := y0
              have y1 : w7.frozen? ⟨g, k, none⟩ = false := by simp [World.frozen?, hRr]
              have HNX : Hid (OverIn w b g (.slice (some ⟨g1, 0, none⟩) 1 c1) (.slice (some ⟨g2, 0, none⟩) 1 c2) n ov mv (l.length + 2) (w7.setCell ⟨g, k, none⟩ (.int .i64 3))) :=
                ⟨HOK.out.turned.set (Or.inr rfl), HOK.out.h.setOther (fun e => hgb e.symm), R.setIfInBounds k (.int .i64 3), by simpa using hRs, heap_setCell_same w7 g k R _ _ hRr⟩
              have z0 : (0 : Int) ≤ (k : Int) := by omega
              have z1 : (k : Int) < (l.length : Int) + 2 := by omega
              clear hRr hRs
              go_wp2_with fail
              go_roundw
              case rel => exact ⟨k + 1, by omega, by go_num, HNX⟩
              case measure => simp [intOf]; omega
            · have z1 : (l.length : Int) + 2 ≤ (k : Int) := by omega
              go_wp2_with fail
              go_roundw
              case rel => exact ⟨rfl, Or.inr ⟨rfl, HOK⟩⟩
              case measure => simp [intOf]
        · have b0 : wr.cell? ⟨b, 0, none⟩ = some (.slice (some ⟨g1, 0, none⟩) 1 c1) := HO.out.h.cell 0
          obtain ⟨w7, hw7⟩ : ∃ w7, w7 = wr := ⟨_, rfl⟩
          rw [← hw7] at HO b0 ⊢
          clear hw7 a0 a1 a2 a4 h1 h2
          have HB0 := HO.out.h
          have e4 : w7.cell? ⟨b, 4, none⟩ = some (.slice none 0 0) := HB0.cell 4
          have e2 : w7.cell? ⟨b, 2, none⟩ = some (.slice none 0 0) := HB0.cell 2
          have e3 : w7.cell? ⟨b, 3, none⟩ = some (.slice none 0 0) := HB0.cell 3
          have e1 : w7.cell? ⟨b, 1, none⟩ = some (.slice (some ⟨g2, 0, none⟩) 1 c2) := HB0.cell 1
          have f4 := HB0.frozen 4
          have f2 := HB0.frozen 2
          have f3 := HB0.frozen 3
          have f0 := HB0.frozen 0
          have f1 := HB0.frozen 1
          clear HB0
          go_wp2_with fail
          go_ret
          refine ⟨rfl, ?_, ?_⟩
          · have HB := HO.out.h
            unfold HAt at *
            have s4 := heap_setCell_same _ b 4 _ _ (.slice none 0 0) HB
            have s2 := heap_setCell_same _ b 2 _ _ (.slice none 0 0) s4
            have s3 := heap_setCell_same _ b 3 _ _ (.slice none 0 0) s2
            have s0 := heap_setCell_same _ b 0 _ _ (.slice none 0 0) s3
            have s1 := heap_setCell_same _ b 1 _ _ (.slice none 0 0) s0
            rw [s1]; rfl
          · exact ((((HO.out.turned.set (Or.inl rfl)).set (Or.inl rfl)).set (Or.inl rfl)).set (Or.inl rfl)).set (Or.inl rfl)

end Go.Proofs.YtklenjmfalljgaaDoor

/- append, and what becomes of the old row; the walk of keepInts. -/
namespace Go.Proofs.YtklenjmfalljgaaDoor
open Go.RowKit
attribute [local go_sem] Go.World.cell?_alloc_some

section
variable {P : Program} {w : World}
/-- append: in its own row, or in a new one, and then all else stands, the old row too. -/
theorem wpList_append_keeps {ops : Array Oper} {rest : List Oper} {o : Oper} {a : Act} {Q : Exit → Act → World → Prop} (hgd : o.guard = none) (s x : Operand) (t : TypeId)
    (ho : o.op = .call { callee := .builtin .append, args := #[s, x], argTypes := #[t, t] })
    (base : Nat) (e : TypeId) (i : TypeInfo) (z : Value) (size bytes : Nat) (ht : P.underlying t = some (.slice e)) (hi : P.info? e = some i) (hz : i.zero = some z)
    (hsize : i.size = size) (hby : i.bytes = bytes) (hzs : z.cells.size = size) (hsz : 0 < size)
    (v : Value) (n : Nat) (xs : List Value) (hs : a.eval s = v) (hown : w.ownsRow base e size v n xs)
    (ad : Addr) (m c : Nat) (news : List Value) (hx : a.eval x = .slice (some ad) m c) (hl : news.length = m * size) (hnews : ∀ j u, news[j]? = some u → w.cell? (ad.add j) = some u) (h1 : ∀ u ∈ news, u.oneCell' = true)
    (hm : 0 < m) (h63 : n + m ≤ maxLen) (hbytes : (n + m) * bytes ≤ 140737488355328) (hbase : base ≤ w.heap.size) (H : Nat) (hH : w.heap.size = H)
    (h : ∀ g cap w', w'.ownsRow base e size (.slice (some ⟨g, 0, none⟩) (n + m) cap) (n + m) (xs ++ news) → ((v.ownBlock = some g ∧ w.grownBy w' (some g)) ∨ (g = H ∧ w.grownBy w' none)) → g < w'.heap.size → wpList P ops Q rest (a.put o.dst (.slice (some ⟨g, 0, none⟩) (n + m) cap)) w') : wpList P ops Q (o :: rest) a w := by
  refine wpList_plain hgd fun K hK => ?_
  obtain ⟨g, cap, w', hr, h2, h3, h4, h5⟩ := run_append_lies (P := P) w t o.type base e i z size bytes ht hi hz hsize hby hzs hsz v n xs hown ad m c news hl hnews h1 hm h63 hbytes hbase H hH
  have key : (v.ownBlock = some g ∧ w.grownBy w' (some g)) ∨ (g = H ∧ w.grownBy w' none) := by
    have hsmall : n + m ≤ 9223372036854775807 := by simp only [maxLen] at h63; omega
    rcases hown.2 with ⟨rfl, rfl⟩ | ⟨g0, cap0, cur, rfl, hbg, hg, hnc, hcm, hcs, htake⟩
    · rcases h4 with h4 | h4
      · cases h4
      · exact Or.inr ⟨h4, h3⟩
    · by_cases hroom : n + m ≤ cap0
      · obtain ⟨w2, hr2, h6, h7⟩ := run_append_fits (P := P) w base t o.type e i size ht hi hsize g0 n cap0 xs hown ad m c news hl hnews h1 hroom
        rw [hr] at hr2
        simp only [Result.ok.injEq, Value.slice.injEq, Option.some.injEq, Addr.mk.injEq, true_and, and_true] at hr2
        obtain ⟨⟨rfl, rfl⟩, rfl⟩ := hr2
        exact Or.inl ⟨rfl, h7⟩
      · subst hsize
        subst hby
        have holds : ∀ j u, xs[j]? = some u → w.cell? ((⟨g0, 0, none⟩ : Addr).add j) = some u := hown.cells (g := g0) rfl
        have hr2 := run_append_grow (P := P) w t o.type e i z ht hi hz ⟨g0, 0, none⟩ n cap0 xs hown.1 holds ad m c news hl hnews (by omega) (by omega) (growslice_fits (by omega) hbytes)
        rw [hr] at hr2
        simp only [Result.ok.injEq, Value.slice.injEq, Option.some.injEq, Addr.mk.injEq, true_and, and_true] at hr2
        obtain ⟨⟨rfl, rfl⟩, rfl⟩ := hr2
        exact Or.inr ⟨hH, ⟨rfl, rfl, rfl, by simp, fun k hk _ => Below.heap_alloc w.drew _ k hk⟩⟩
  unfold Oper.wp execOp
  simp only [ho, resolve, invoke, builtin, Sem.run_bind, Sem.run_pure, Result.andThen_ok, List.map_toArray, List.map_cons, List.map_nil, hs, hx, hr]
  exact hK _ _ (h g cap w' h2 key h5)
end

/-- A list that came out and was written full: it reads so. -/
def Kept (w : World) (x : Value × Int) : Prop := x.1 = .slice none 0 0 ∨ ∃ g len cap, x.1 = .slice (some ⟨g, 0, none⟩) len cap ∧ len ≤ 1000 ∧ ∀ k, k < len → w.cell? ⟨g, k, none⟩ = some (.int .i64 x.2)

structure KeptAll (B : Nat) (w : World) (b : Nat) (ov mv : Value) (K : List (Value × Int)) : Prop where
  orow : w.ownsRow B 22 1 ov K.length (K.map (·.1))
  mrow : w.ownsRow B 3 1 mv K.length (ints (K.map (·.2)))
  ob : ov.ownBlock ≠ some b
  mb : mv.ownBlock ≠ some b
  om : ∀ g, ov.ownBlock = some g → mv.ownBlock ≠ some g
  kept : ∀ x ∈ K, Kept w x ∧ ∀ g, x.1.ownBlock = some g → g ≠ b ∧ ov.ownBlock ≠ some g ∧ mv.ownBlock ≠ some g ∧ g < w.heap.size
  lo : B ≤ b

/-- The hands between two calls. -/
def Hd (B : Nat) (w : World) (b : Nat) (n : Int) (K : List (Value × Int)) : Prop := ∃ ov mv, HAt w b (.slice none 0 0) (.slice none 0 0) n ov mv ∧ KeptAll B w b ov mv K

theorem Kept.grown {w w' : World} {x : Value × Int} {r : Option Nat} (h : Kept w x) (hg : w.grownBy w' r) (hr : ∀ g, x.1.ownBlock = some g → r ≠ some g ∧ g < w.heap.size) : Kept w' x := by
  rcases h with h | ⟨g, len, cap, e, hl, hc⟩
  · exact Or.inl h
  · obtain ⟨h1, h2⟩ := hr g (by rw [e]; rfl)
    refine Or.inr ⟨g, len, cap, e, hl, fun k hk => ?_⟩
    rw [World.cell?_of_block (hg.block g h2 (fun e => h1 e.symm))]; exact hc k hk
theorem owns_ltH {w : World} {base : Nat} {e : TypeId} {size : Nat} {v : Value} {n : Nat} {xs : List Value} (h : w.ownsRow base e size v n xs) : ∀ g, v.ownBlock = some g → g < w.heap.size := by
  intro g hg
  rcases h.2 with ⟨e1, _⟩ | ⟨g', cap, cur, hv, hb, hh, _⟩
  · rw [e1] at hg; cases hg
  · rw [hv] at hg; simp [Value.ownBlock] at hg; rw [← hg]; exact (Array.getElem?_eq_some_iff.1 hh).1
theorem owns_step' {w w' : World} {base : Nat} {e : TypeId} {size : Nat} {v : Value} {n : Nat} {xs : List Value} {r : Option Nat} (h : w.ownsRow base e size v n xs) (hg : w.grownBy w' r) (hr : ∀ g, v.ownBlock = some g → r ≠ some g) : w'.ownsRow base e size v n xs := by
  obtain ⟨h1, h2⟩ := h
  refine ⟨h1, ?_⟩
  rcases h2 with h2 | ⟨g, cap, cur, hv, hb, hh, rest⟩
  · exact Or.inl h2
  · refine Or.inr ⟨g, cap, cur, hv, hb, ?_, rest⟩
    rw [hg.block g (Array.getElem?_eq_some_iff.1 hh).1 (fun e => hr g (by rw [hv]; rfl) e.symm)]; exact hh

/-- What changes blocks that are not the hands' leaves them. -/
theorem KeptAll.grown {B : Nat} {w w' : World} {b : Nat} {ov mv : Value} {K : List (Value × Int)} {r : Option Nat} (h : KeptAll B w b ov mv K) (hg : w.grownBy w' r) (ho : ∀ g, r = some g → ov.ownBlock ≠ some g ∧ mv.ownBlock ≠ some g ∧ ∀ x ∈ K, x.1.ownBlock ≠ some g) : KeptAll B w' b ov mv K := by
  refine ⟨owns_step' h.orow hg (fun g e1 e2 => (ho g e2).1 e1), owns_step' h.mrow hg (fun g e1 e2 => (ho g e2).2.1 e1), h.ob, h.mb, h.om, fun x hx => ?_, h.lo⟩
  obtain ⟨k1, k2⟩ := h.kept x hx
  refine ⟨k1.grown hg (fun g e => ⟨fun e2 => (ho g e2).2.2 x hx e, (k2 g e).2.2.2⟩), fun g e => ?_⟩
  obtain ⟨h1, h2, h3, h4⟩ := k2 g e
  exact ⟨h1, h2, h3, Nat.lt_of_lt_of_le h4 hg.size⟩

theorem Hd.grown {B : Nat} {w w' : World} {b : Nat} {n : Int} {K : List (Value × Int)} (h : Hd B w b n K) (hg : w.grownBy w' none) : Hd B w' b n K := by
  obtain ⟨ov, mv, h1, h2⟩ := h
  exact ⟨ov, mv, h1.grown hg (by simp), h2.grown hg (fun g e => by cases e)⟩

/-- In the midst of keepInts: lists kept, marks kept, the list that is written. -/
structure KS (W : World) (B : Nat) (w : World) (b : Nat) (n m : Int) (ov mv lv : Value) (len : Nat) (K : List (Value × Int)) (M : List Int) : Prop where
  h : HAt w b (.slice none 0 0) (.slice none 0 0) n ov mv
  orow : w.ownsRow B 22 1 ov K.length (K.map (·.1))
  mrow : w.ownsRow B 3 1 mv M.length (ints M)
  lrow : w.ownsRow B 3 1 lv len (List.replicate len (.int .i64 m))
  ob : ov.ownBlock ≠ some b
  mb : mv.ownBlock ≠ some b
  lb : lv.ownBlock ≠ some b
  om : ∀ g, ov.ownBlock = some g → mv.ownBlock ≠ some g
  ol : ∀ g, ov.ownBlock = some g → lv.ownBlock ≠ some g
  ml : ∀ g, mv.ownBlock = some g → lv.ownBlock ≠ some g
  kept : ∀ x ∈ K, Kept w x ∧ ∀ g, x.1.ownBlock = some g → g ≠ b ∧ ov.ownBlock ≠ some g ∧ mv.ownBlock ≠ some g ∧ g < w.heap.size ∧ (lv.ownBlock = some g → x.2 = m ∧ ∃ l c, x.1 = .slice (some ⟨g, 0, none⟩) l c ∧ l ≤ len)
  lo : B ≤ b
  ln : len ≤ 1000
  base : W.grownBy w none
  wb : W.heap.size ≤ B

theorem grown_some {w w' : World} {r : Option Nat} (h : w.grownBy w' none) : w.grownBy w' r := ⟨h.os, h.tape, h.output, h.size, fun k hk _ => h.block k hk (by simp)⟩

/-- The frame of an append behind a new block. -/
theorem key_frame {w w6 : World} {o : Obj} {v : Value} {g6 : Nat} (key : (v.ownBlock = some g6 ∧ (w.alloc o).grownBy w6 (some g6)) ∨ (g6 = w.heap.size + 1 ∧ (w.alloc o).grownBy w6 none)) :
    ∃ r, w.grownBy w6 r ∧ (∀ g, r = some g → v.ownBlock = some g) ∧ (∀ g, g < w.heap.size → v.ownBlock ≠ some g → g6 ≠ g) ∧ (∀ g, g < w.heap.size → v.ownBlock ≠ some g → w6.heap[g]? = w.heap[g]?) ∧ w.heap.size ≤ w6.heap.size := by
  rcases key with ⟨e, hg⟩ | ⟨e, hg⟩
  · have hw : w.grownBy w6 (some g6) := grown_trans (grown_alloc (grown_refl _ _)) hg
    exact ⟨some g6, hw, fun g e2 => (by rw [e, e2]), fun g _ h2 e3 => h2 (by rw [e, e3]), fun g h1 h2 => hw.block g h1 (fun e3 => h2 (by rw [e, e3])), hw.size⟩
  · have hw : w.grownBy w6 none := grown_trans (grown_alloc (grown_refl _ _)) hg
    exact ⟨none, hw, fun g e2 => (by cases e2), fun g h1 _ e3 => (by omega), fun g h1 _ => hw.block g h1 (by simp), hw.size⟩

theorem Kept.same {w w' : World} {x : Value × Int} (h : Kept w x) (hb : ∀ g, x.1.ownBlock = some g → w'.heap[g]? = w.heap[g]?) : Kept w' x := by
  rcases h with h | ⟨g, len, cap, e, hl, hc⟩
  · exact Or.inl h
  · refine Or.inr ⟨g, len, cap, e, hl, fun k hk => ?_⟩
    rw [World.cell?_of_block (hb g (by rw [e]; rfl))]; exact hc k hk
theorem owns_same {w w' : World} {base : Nat} {e : TypeId} {size : Nat} {v : Value} {n : Nat} {xs : List Value} (h : w.ownsRow base e size v n xs) (hb : ∀ g, v.ownBlock = some g → w'.heap[g]? = w.heap[g]?) : w'.ownsRow base e size v n xs := by
  obtain ⟨h1, h2⟩ := h
  refine ⟨h1, ?_⟩
  rcases h2 with h2 | ⟨g, cap, cur, hv, hbb, hh, rest⟩
  · exact Or.inl h2
  · exact Or.inr ⟨g, cap, cur, hv, hbb, by rw [hb g (by rw [hv]; rfl)]; exact hh, rest⟩
theorem base_row {W w w6 : World} {r : Option Nat} {v : Value} {B : Nat} (h : W.grownBy w none) (hB : W.heap.size ≤ B) (hg : w.grownBy w6 r) (hr : ∀ g, r = some g → v.ownBlock = some g) (hv : ∀ g, v.ownBlock = some g → B ≤ g) : W.grownBy w6 none :=
  ⟨hg.os.trans h.os, hg.tape.trans h.tape, hg.output.trans h.output, Nat.le_trans h.size hg.size, fun k hk _ => by
    rw [hg.block k (Nat.lt_of_lt_of_le hk h.size) (fun e => by have := hv k (hr k e.symm); omega)]; exact h.block k hk (by simp)⟩

section
variable {W : World} {B : Nat} {w : World} {b : Nat} {n m : Int} {ov mv lv : Value} {len : Nat} {K : List (Value × Int)} {M : List Int}

/-- h.out = append(h.out, l). -/
theorem KS.out (s : KS W B w b n m ov mv lv len K M) {w6 : World} {o : Obj} {g6 c6 : Nat} (hown : w6.ownsRow B 22 1 (.slice (some ⟨g6, 0, none⟩) (K.length + 1) c6) (K.length + 1) (K.map (·.1) ++ [lv]))
    (key : (ov.ownBlock = some g6 ∧ (w.alloc o).grownBy w6 (some g6)) ∨ (g6 = w.heap.size + 1 ∧ (w.alloc o).grownBy w6 none)) :
    KS W B (w6.setCell ⟨b, 6, none⟩ (.slice (some ⟨g6, 0, none⟩) (K.length + 1) c6)) b n m (.slice (some ⟨g6, 0, none⟩) (K.length + 1) c6) mv lv len (K ++ [(lv, m)]) M := by
  obtain ⟨r, hg, hr, hne, hsame, hsz⟩ := key_frame key
  have hb := s.h.lt
  have hg6b : g6 ≠ b := hne b hb s.ob
  have oth : ∀ g, g < w.heap.size → ov.ownBlock ≠ some g → g ≠ b → (w6.setCell ⟨b, 6, none⟩ (.slice (some ⟨g6, 0, none⟩) (K.length + 1) c6)).heap[g]? = w.heap[g]? := fun g h1 h2 h3 => by
    rw [Below.heap_setCell _ _ _ _ (by simpa using h3)]; exact hsame g h1 h2
  have hmL := owns_ltH s.mrow
  have hlL := owns_ltH s.lrow
  refine ⟨?_, ?_, owns_same s.mrow (fun g e => oth g (hmL g e) (fun e2 => s.om g e2 e) (fun e2 => s.mb (by rw [e, e2]))), owns_same s.lrow (fun g e => oth g (hlL g e) (fun e2 => s.ol g e2 e) (fun e2 => s.lb (by rw [e, e2]))),
    by simpa [Value.ownBlock] using hg6b, s.mb, s.lb, ?_, ?_, s.ml, ?_, s.lo, s.ln, ?_, s.wb⟩
  · refine HAt.set6 (ov := ov) ?_ _
    have := s.h
    unfold HAt at *
    rw [hsame b hb s.ob]; exact this
  · refine ownsRow_setCell_other ?_ (by simpa [Value.ownBlock] using hg6b) _
    simpa using hown
  · intro g e e2
    simp only [Value.ownBlock, Option.some.injEq] at e
    exact hne g (hmL g e2) (fun e3 => s.om g e3 e2) e
  · intro g e e2
    simp only [Value.ownBlock, Option.some.injEq] at e
    exact hne g (hlL g e2) (fun e3 => s.ol g e3 e2) e
  · intro x hx
    rcases List.mem_append.1 hx with hx | hx
    · obtain ⟨k1, k2⟩ := s.kept x hx
      refine ⟨k1.same (fun g e => by obtain ⟨h1, h2, h3, h4, _⟩ := k2 g e; exact oth g h4 h2 h1), fun g e => ?_⟩
      obtain ⟨h1, h2, h3, h4, h5⟩ := k2 g e
      exact ⟨h1, by simpa [Value.ownBlock] using hne g h4 h2, h3, by simp; omega, h5⟩
    · simp at hx
      subst hx
      refine ⟨?_, fun g e => ⟨fun e2 => s.lb (by rw [← e2]; exact e), by simpa [Value.ownBlock] using hne g (hlL g e) (fun e3 => s.ol g e3 e), fun e3 => s.ml g e3 e, by have := hlL g e; simp; omega, fun _ => ⟨rfl, ?_⟩⟩⟩
      · rcases s.lrow.2 with ⟨e, _⟩ | ⟨g, cap, cur, hv, hbb, hh, hc1, hc2, hc3, hc4⟩
        · exact Or.inl e
        · refine Or.inr ⟨g, len, cap, hv, s.ln, fun k hk => ?_⟩
          have hlr := s.lrow
          rw [hv] at hlr
          rw [World.cell?_of_block (oth g (Array.getElem?_eq_some_iff.1 hh).1 (fun e3 => s.ol g e3 (by rw [hv]; rfl)) (fun e3 => s.lb (by rw [hv, ← e3]; rfl))), hlr.cellAt k (by omega)]
          simp [hk]
      · rcases s.lrow.2 with ⟨e2, _⟩ | ⟨g', cap, cur, hv, _⟩
        · rw [e2] at e; cases e
        · rw [hv] at e
          simp only [Value.ownBlock, Option.some.injEq] at e
          exact ⟨len, cap, by rw [hv, e], Nat.le_refl _⟩
  · exact grown_setNew (base_row s.base s.wb hg hr (owns_block s.orow)) (by have := s.lo; have := s.wb; omega)

/-- h.marks = append(h.marks, m). -/
theorem KS.mark (s : KS W B w b n m ov mv lv len K M) {w6 : World} {o : Obj} {g6 c6 : Nat} (hown : w6.ownsRow B 3 1 (.slice (some ⟨g6, 0, none⟩) (M.length + 1) c6) (M.length + 1) (ints M ++ [.int .i64 m]))
    (key : (mv.ownBlock = some g6 ∧ (w.alloc o).grownBy w6 (some g6)) ∨ (g6 = w.heap.size + 1 ∧ (w.alloc o).grownBy w6 none)) :
    KS W B (w6.setCell ⟨b, 7, none⟩ (.slice (some ⟨g6, 0, none⟩) (M.length + 1) c6)) b n m ov (.slice (some ⟨g6, 0, none⟩) (M.length + 1) c6) lv len K (M ++ [m]) := by
  obtain ⟨r, hg, hr, hne, hsame, hsz⟩ := key_frame key
  have hb := s.h.lt
  have hg6b : g6 ≠ b := hne b hb s.mb
  have oth : ∀ g, g < w.heap.size → mv.ownBlock ≠ some g → g ≠ b → (w6.setCell ⟨b, 7, none⟩ (.slice (some ⟨g6, 0, none⟩) (M.length + 1) c6)).heap[g]? = w.heap[g]? := fun g h1 h2 h3 => by
    rw [Below.heap_setCell _ _ _ _ (by simpa using h3)]; exact hsame g h1 h2
  have hoL := owns_ltH s.orow
  have hlL := owns_ltH s.lrow
  refine ⟨?_, owns_same s.orow (fun g e => oth g (hoL g e) (fun e2 => s.om g e e2) (fun e2 => s.ob (by rw [e, e2]))), ?_, owns_same s.lrow (fun g e => oth g (hlL g e) (fun e2 => s.ml g e2 e) (fun e2 => s.lb (by rw [e, e2]))),
    s.ob, by simpa [Value.ownBlock] using hg6b, s.lb, ?_, s.ol, ?_, ?_, s.lo, s.ln, ?_, s.wb⟩
  · refine HAt.set7 (mv := mv) ?_ _
    have := s.h
    unfold HAt at *
    rw [hsame b hb s.mb]; exact this
  · refine ownsRow_setCell_other ?_ (by simpa [Value.ownBlock] using hg6b) _
    simpa [ints] using hown
  · intro g e e2
    simp only [Value.ownBlock, Option.some.injEq] at e2
    exact hne g (hoL g e) (fun e3 => s.om g e e3) e2
  · intro g e e2
    simp only [Value.ownBlock, Option.some.injEq] at e
    exact hne g (hlL g e2) (fun e3 => s.ml g e3 e2) e
  · intro x hx
    obtain ⟨k1, k2⟩ := s.kept x hx
    refine ⟨k1.same (fun g e => by obtain ⟨h1, h2, h3, h4, _⟩ := k2 g e; exact oth g h4 h3 h1), fun g e => ?_⟩
    obtain ⟨h1, h2, h3, h4, h5⟩ := k2 g e
    exact ⟨h1, h2, by simpa [Value.ownBlock] using hne g h4 h3, by simp; omega, h5⟩
  · exact grown_setNew (base_row s.base s.wb hg hr (owns_block s.mrow)) (by have := s.lo; have := s.wb; omega)

/-- l = append(l, m). -/
theorem KS.list (s : KS W B w b n m ov mv lv len K M) (hl : len + 1 ≤ 1000) {w6 : World} {o : Obj} {g6 c6 : Nat} (hown : w6.ownsRow B 3 1 (.slice (some ⟨g6, 0, none⟩) (len + 1) c6) (len + 1) (List.replicate len (.int .i64 m) ++ [.int .i64 m]))
    (key : (lv.ownBlock = some g6 ∧ (w.alloc o).grownBy w6 (some g6)) ∨ (g6 = w.heap.size + 1 ∧ (w.alloc o).grownBy w6 none)) :
    KS W B w6 b n m ov mv (.slice (some ⟨g6, 0, none⟩) (len + 1) c6) (len + 1) K M := by
  obtain ⟨r, hg, hr, hne, hsame, hsz⟩ := key_frame key
  have hb := s.h.lt
  have hg6b : g6 ≠ b := hne b hb s.lb
  have hoL := owns_ltH s.orow
  have hmL := owns_ltH s.mrow
  have hrow : w6.ownsRow B 3 1 (.slice (some ⟨g6, 0, none⟩) (len + 1) c6) (len + 1) (List.replicate (len + 1) (.int .i64 m)) := by rw [List.replicate_succ']; exact hown
  refine ⟨?_, owns_same s.orow (fun g e => hsame g (hoL g e) (s.ol g e)), owns_same s.mrow (fun g e => hsame g (hmL g e) (s.ml g e)), hrow, s.ob, s.mb, by simpa [Value.ownBlock] using hg6b, s.om, ?_, ?_, ?_, s.lo, hl, ?_, s.wb⟩
  · have := s.h
    unfold HAt at *
    rw [hsame b hb s.lb]; exact this
  · intro g e e2
    simp only [Value.ownBlock, Option.some.injEq] at e2
    exact hne g (hoL g e) (s.ol g e) e2
  · intro g e e2
    simp only [Value.ownBlock, Option.some.injEq] at e2
    exact hne g (hmL g e) (s.ml g e) e2
  · intro x hx
    obtain ⟨k1, k2⟩ := s.kept x hx
    refine ⟨?_, fun g e => ?_⟩
    · rcases k1 with k1 | ⟨g, l, c, e, hl1, hc⟩
      · exact Or.inl k1
      · obtain ⟨h1, h2, h3, h4, h5⟩ := k2 g (by rw [e]; rfl)
        refine Or.inr ⟨g, l, c, e, hl1, fun k hk => ?_⟩
        by_cases hlg : lv.ownBlock = some g
        · obtain ⟨h6, l', c', e', hl'⟩ := h5 hlg
          rw [e] at e'
          simp only [Value.slice.injEq, true_and] at e'
          rcases key with ⟨e2, _⟩ | ⟨e2, hg2⟩
          · have : g6 = g := by rw [hlg] at e2; exact (Option.some.inj e2).symm
            subst this
            rw [hrow.cellAt k (by omega), h6, List.getElem?_replicate, if_pos (by omega)]
          · have hw : w.grownBy w6 none := grown_trans (grown_alloc (grown_refl _ _)) hg2
            rw [World.cell?_of_block (hw.block g h4 (by simp))]; exact hc k hk
        · rw [World.cell?_of_block (hsame g h4 hlg)]; exact hc k hk
    · obtain ⟨h1, h2, h3, h4, h5⟩ := k2 g e
      refine ⟨h1, h2, h3, by omega, fun e2 => ?_⟩
      simp only [Value.ownBlock, Option.some.injEq] at e2
      by_cases hlg : lv.ownBlock = some g
      · obtain ⟨h6, l', c', e', hl'⟩ := h5 hlg
        exact ⟨h6, l', c', e', by omega⟩
      · exact absurd e2 (hne g h4 hlg)
  · exact base_row s.base s.wb hg hr (owns_block s.lrow)
end

end Go.Proofs.YtklenjmfalljgaaDoor

/- The walk of keepInts. -/
namespace Go.Proofs.YtklenjmfalljgaaDoor
open Go.RowKit
attribute [local go_sem] Go.World.cell?_alloc_some

theorem set_prefix (m : Value) (xs : List Value) (k : Nat) (hk : k < xs.length) : (List.replicate k m ++ xs.drop k).set k m = List.replicate (k + 1) m ++ xs.drop (k + 1) := by
  rw [List.set_append, if_neg (by simp), List.length_replicate, Nat.sub_self, List.drop_eq_getElem_cons hk, List.set_cons_zero, List.replicate_succ', List.append_assoc]; rfl

/-- In the midst of the writing. -/
structure WrIn (W : World) (B : Nat) (w : World) (b : Nat) (n : Int) (ov mv lv : Value) (m : Int) (a : List Int) (K : List (Value × Int)) (k : Nat) : Prop where
  h : HAt w b (.slice none 0 0) (.slice none 0 0) n ov mv
  all : KeptAll B w b ov mv K
  row : w.ownsRow B 3 1 lv a.length (List.replicate k (.int .i64 m) ++ (ints a).drop k)
  base : W.grownBy w none

theorem HAt.key {w w6 : World} {b : Nat} {iv wv : Value} {n : Int} {ov mv v : Value} {o : Obj} {g6 : Nat} (h : HAt w b iv wv n ov mv) (hv : v.ownBlock ≠ some b) (key : (v.ownBlock = some g6 ∧ (w.alloc o).grownBy w6 (some g6)) ∨ (g6 = w.heap.size + 1 ∧ (w.alloc o).grownBy w6 none)) : HAt w6 b iv wv n ov mv := by
  obtain ⟨r, hg, hr, hne, hsame, hsz⟩ := key_frame key
  have hb := h.lt
  unfold HAt at *
  rw [hsame b hb hv]; exact h

set_option maxRecDepth 100000 in
set_option maxHeartbeats 1000000 in
theorem keepInts_m (W : World) (B : Nat) (w0 w : World) (b : Nat) (n : Int) (lv : Value) (a : List Int) (K : List (Value × Int)) (hH : Hd B w0 b n K) (hg : w0.grownBy w none) (hl : w.ownsRow (w0.heap.size + 1) 3 1 lv a.length (ints a)) (hW : W.grownBy w none) (hWB : W.heap.size ≤ B) (hB : B ≤ w0.heap.size)
    (hn0 : 0 ≤ n) (hn1 : n ≤ 100) (hK : K.length ≤ 100) (ha : a.length ≤ 500) :
    Calls Tryd.prog 58 #[pt b, lv] w fun e w' => (∃ v, e = .returned v) ∧ (∃ K', Hd B w' b (n + 1) K' ∧ K'.length = K.length + 4) ∧ W.grownBy w' none := by
  obtain ⟨i0, hi0, hz0, hz1, hz2⟩ := info_parts info_int
  obtain ⟨i1, hi1, hy0, hy1, hy2⟩ := info_parts info_ints
  obtain ⟨ov, mv, hh0, hk0⟩ := hH
  have hh := hh0.grown hg (by simp)
  have hka := hk0.grown hg (fun g e => by cases e)
  have hb0 := hh0.lt
  have hlb := owns_block hl
  have hlne : ∀ g, lv.ownBlock = some g → g ≠ b ∧ ov.ownBlock ≠ some g ∧ mv.ownBlock ≠ some g ∧ ∀ x ∈ K, x.1.ownBlock ≠ some g := by
    intro g e
    have h1 := hlb g e
    refine ⟨by omega, fun e2 => by have := owns_ltH hk0.orow g e2; omega, fun e2 => by have := owns_ltH hk0.mrow g e2; omega, fun x hx e2 => ?_⟩
    have := ((hk0.kept x hx).2 g e2).2.2.2
    omega
  have HLNE := hide hlne
  obtain ⟨x1, x2, x3, rfl⟩ := owns_form hl
  have hx2 := owns_lenq hl
  subst hx2
  have hM := mark_m b (.slice none 0 0) (.slice none 0 0) n ov mv w hh hn0 (by omega)
  have HM := hide hM
  have H0 : Hid (WrIn W B (w.setCell ⟨b, 5, none⟩ (.int .i64 (n + 1))) b (n + 1) ov mv (.slice x1 a.length x3) (-77000000 - (n + 1)) a K 0) := by
    refine ⟨hh.set5 _, hka.grown grown_set (fun g e => ?_), ?_, grown_setNew hW (by have := hka.lo; omega)⟩
    · have : g = b := (Option.some.inj e).symm
      subst this
      refine ⟨hka.ob, hka.mb, fun x hx e2 => ((hka.kept x hx).2 g e2).1 rfl⟩
    · simp only [List.replicate_zero, List.nil_append, List.drop_zero]
      refine ownsRow_setCell_other (owns_mono hl (by omega)) (fun e => (HLNE.out b e).1 rfl) _
  have hlo := hka.lo
  have hpt : pt b = .pointer (some ⟨b, 0, none⟩) := rfl
  rw [hpt] at *
  clear hh0 hk0 hh hka hlb hlne hl hM hg hW hpt
  generalize hm : -77000000 - (n + 1) = m at *
  have HMM := hide hm
  clear hm
  go_enter Tryd.func58, Tryd.ntmps58
  go_wp2_with (go_at_call 86; refine HM.out.mono ?_; rintro e w1 ⟨rfl, rfl⟩)
  go_loopw [5] (fun i w' => ∃ k : Nat, k ≤ a.length ∧ i = .int .i64 k ∧ Hid (WrIn W B w' b (n + 1) ov mv (.slice x1 a.length x3) m a K k)) (fun i _ => a.length - (intOf i).toNat)
  case atStart => exact ⟨0, Nat.zero_le _, rfl, H0⟩
  case round =>
    obtain ⟨k, hk, rfl, HI⟩ := hrel
    obtain ⟨w5, hw5⟩ : ∃ w5, w5 = wr := ⟨_, rfl⟩
    rw [← hw5] at HI ⊢
    clear hw5
    by_cases hlt : k < a.length
    · obtain ⟨g, cp, e0, _, _⟩ := HI.out.row.form (by omega)
      have hrow := HI.out.row
      rw [e0] at hrow
      simp only [Value.slice.injEq, true_and] at e0
      obtain ⟨rfl, rfl⟩ := e0
      obtain ⟨h1, h2, h3, h4⟩ := HLNE.out g rfl
      have y0 : ∃ u, w5.cell? ⟨g, k, none⟩ = some u := by
        have h5 := hrow.1
        refine ⟨(List.replicate k (Value.int .i64 m) ++ (ints a).drop k)[k]'(by omega), ?_⟩
        rw [hrow.cellAt k (by omega), List.getElem?_eq_getElem]
      obtain ⟨u, y0⟩ := y0
      have y1 : w5.frozen? ⟨g, k, none⟩ = false := by
        rcases hrow.2 with ⟨e, _⟩ | ⟨g', cap', cur, hv, _, hh, _⟩
        · cases e
        · simp only [Value.slice.injEq, Option.some.injEq, Addr.mk.injEq, true_and, and_true] at hv
          obtain ⟨rfl, rfl⟩ := hv
          simp [World.frozen?, hh]
      have HNX : Hid (WrIn W B (w5.setCell ⟨g, k, none⟩ (.int .i64 m)) b (n + 1) ov mv (.slice (some ⟨g, 0, none⟩) a.length x3) m a K (k + 1)) := by
        refine ⟨HI.out.h.setOther (fun e => h1 e.symm), HI.out.all.grown grown_set (fun g' e => ?_), ?_, grown_setNew HI.out.base (by have := owns_block hrow g rfl; omega)⟩
        · have : g' = g := (Option.some.inj e).symm
          subst this
          exact ⟨h2, h3, h4⟩
        · have := owns_setCell hrow k (.int .i64 m)
          rw [set_prefix _ _ _ (by rw [ints_len]; exact hlt)] at this
          exact this
      have z0 : (0 : Int) ≤ (k : Int) := by omega
      have z1 : (k : Int) < a.length := by omega
      clear hrow h1 h2 h3 h4
      go_wp2_with fail
      go_roundw
      case rel => exact ⟨k + 1, by omega, by go_num, HNX⟩
      case measure => simp [intOf]; omega
    · have ek : k = a.length := by omega
      have z1 : (a.length : Int) ≤ (k : Int) := by omega
      have HS : Hid (KS W B w5 b (n + 1) m ov mv (.slice x1 a.length x3) a.length K (K.map (·.2))) := by
        have hi := HI.out
        rw [ek] at hi
        have hrow := hi.row
        rw [List.drop_eq_nil_of_le (by rw [ints_len]; exact Nat.le_refl _), List.append_nil] at hrow
        refine ⟨hi.h, hi.all.orow, by simpa using hi.all.mrow, hrow, hi.all.ob, hi.all.mb, fun e => (HLNE.out b e).1 rfl, hi.all.om, fun g e e2 => (HLNE.out g e2).2.1 e, fun g e e2 => (HLNE.out g e2).2.2.1 e, fun x hx => ?_, hi.all.lo, by omega, hi.base, hWB⟩
        obtain ⟨k1, k2⟩ := hi.all.kept x hx
        refine ⟨k1, fun g e => ?_⟩
        obtain ⟨h1, h2, h3, h4⟩ := k2 g e
        exact ⟨h1, h2, h3, h4, fun e2 => absurd e ((HLNE.out g e2).2.2.2 x hx)⟩
      clear HI ek
      go_wp2_with fail
      go_loopw [1, 6] (fun lv' i w' => ∃ (k : Nat) (ov' mv' : Value) (K' : List (Value × Int)), k ≤ 4 ∧ i = .int .i64 k ∧ Hid (KS W B w' b (n + 1) m ov' mv' lv' (a.length + k) K' (K'.map (·.2))) ∧ Hid (K'.length = K.length + k)) (fun _ i _ => 4 - (intOf i).toNat)
      case atStart => exact ⟨0, ov, mv, K, by omega, rfl, HS, hide rfl⟩
      case round =>
        obtain ⟨j, ov', mv', K', hj, rfl, HK, HL⟩ := hrel
        obtain ⟨w7, hw7⟩ : ∃ w7, w7 = wr := ⟨_, rfl⟩
        rw [← hw7] at HK ⊢
        clear hw7
        obtain ⟨l1, l2, l3, rfl⟩ := owns_form HK.out.lrow
        have hl2 := owns_lenq HK.out.lrow
        subst hl2
        obtain ⟨o1, o2, o3, rfl⟩ := owns_form HK.out.orow
        have ho2 := owns_lenq HK.out.orow
        subst ho2
        obtain ⟨m1, m2, m3, rfl⟩ := owns_form HK.out.mrow
        have hm2 := owns_lenq HK.out.mrow
        rw [List.length_map] at hm2
        subst hm2
        by_cases hj4 : j < 4
        · have z2 : (j : Int) < 4 := by omega
          have c6 : w7.cell? ⟨b, 6, none⟩ = some (.slice o1 K'.length o3) := HK.out.h.cell 6
          have hLL : K'.length ≤ 104 := by have := HL.out; omega
          have hbase : B ≤ w7.heap.size := by have := HK.out.h.lt; omega
          have h63a : K'.length + 1 ≤ maxLen := by unfold maxLen; omega
          have h63c : a.length + j + 1 ≤ maxLen := by unfold maxLen; omega
          go_upto_region 9 with (at_builtin; go_must (refine wpList_append_keeps rfl _ _ _ rfl B 22 i1 _ 1 24 Tryd.underlying41 hi1 hy0 hy1 hy2 rfl (by omega) (.slice o1 K'.length o3) K'.length (K'.map (·.1)) rfl (owns_alloc HK.out.orow) ⟨w7.heap.size, 0, none⟩ 1 1 [.slice l1 (a.length + j) l3] rfl rfl (World.news_of_block (cs := #[.slice l1 (a.length + j) l3]) (t := 22) (fr := (0, 0)) (heap_alloc_new w7 _)) (by simp [Value.oneCell']) (by omega) h63a (by omega) (by simp; omega) (w7.heap.size + 1) (by simp) ?_); intro g8 cap8 w8 hown8 key8 hlt8; have hb8 := (HK.out.h.key HK.out.ob key8); have p6 : w8.cell? ⟨b, 6, none⟩ = some (.slice o1 K'.length o3) := hb8.cell 6; have p7 := hb8.frozen 6)
          have HK9 := hide (HK.out.out hown8 key8)
          generalize hw9 : w8.setCell ⟨b, 6, none⟩ (.slice (some ⟨g8, 0, none⟩) (K'.length + 1) cap8) = w9 at *
          have c7 : w9.cell? ⟨b, 7, none⟩ = some (.slice m1 K'.length m3) := HK9.out.h.cell 7
          have hbase9 : B ≤ w9.heap.size := by have := HK9.out.h.lt; omega
          clear hown8 key8 hb8 p6 p7 hlt8 hw9 c6
          go_upto_region 10 with (at_builtin; go_must (refine wpList_append_keeps rfl _ _ _ rfl B 3 i0 _ 1 8 Tryd.underlying22 hi0 hz0 hz1 hz2 rfl (by omega) (.slice m1 K'.length m3) K'.length (ints (K'.map (·.2))) rfl (owns_alloc (by have := HK9.out.mrow; rw [List.length_map] at this; exact this)) ⟨w9.heap.size, 0, none⟩ 1 1 [.int .i64 m] rfl rfl (World.news_of_block (cs := #[.int .i64 m]) (t := 3) (fr := (0, 0)) (heap_alloc_new w9 _)) (by simp [Value.oneCell']) (by omega) h63a (by omega) (by simp; omega) (w9.heap.size + 1) (by simp) ?_); intro g10 cap10 w10 hown10 key10 hlt10; have hb10 := (HK9.out.h.key HK9.out.mb key10); have p6 : w10.cell? ⟨b, 7, none⟩ = some (.slice m1 K'.length m3) := hb10.cell 7; have p7 := hb10.frozen 7)
          have HK11 := hide (HK9.out.mark (c6 := cap10) (by rw [List.length_map]; exact hown10) key10)
          rw [List.length_map] at HK11
          generalize hw11 : w10.setCell ⟨b, 7, none⟩ (.slice (some ⟨g10, 0, none⟩) (K'.length + 1) cap10) = w11 at *
          have hbase11 : B ≤ w11.heap.size := by have := HK11.out.h.lt; omega
          clear hown10 key10 hb10 p6 p7 hlt10 hw11 c7
          go_wp2_with (at_builtin; go_must (refine wpList_append_keeps rfl _ _ _ rfl B 3 i0 _ 1 8 Tryd.underlying22 hi0 hz0 hz1 hz2 rfl (by omega) (.slice l1 (a.length + j) l3) (a.length + j) (List.replicate (a.length + j) (.int .i64 m)) rfl (owns_alloc HK11.out.lrow) ⟨w11.heap.size, 0, none⟩ 1 1 [.int .i64 m] rfl rfl (World.news_of_block (cs := #[.int .i64 m]) (t := 3) (fr := (0, 0)) (heap_alloc_new w11 _)) (by simp [Value.oneCell']) (by omega) h63c (by omega) (by simp; omega) (w11.heap.size + 1) (by simp) ?_); intro g12 cap12 w12 hown12 key12 hlt12; have HK13 := hide (HK11.out.list (by omega) hown12 key12); clear hown12 key12 hlt12)
          go_roundw
          case rel => exact ⟨j + 1, _, _, K' ++ [(.slice l1 (a.length + j) l3, m)], by omega, by go_num, hide (by have := HK13.out; rw [List.map_append]; exact this), hide (by have := HL.out; simp; omega)⟩
          case measure => simp [intOf]; omega
        · have z2 : (4 : Int) ≤ (j : Int) := by omega
          have HE : Hid (∃ K', Hd B w7 b (n + 1) K' ∧ K'.length = K.length + 4) := by
            have hk := HK.out
            refine ⟨K', ⟨_, _, hk.h, ⟨hk.orow, by simpa using hk.mrow, hk.ob, hk.mb, hk.om, fun x hx => ?_, hk.lo⟩⟩, by have := HL.out; omega⟩
            obtain ⟨k1, k2⟩ := hk.kept x hx
            exact ⟨k1, fun g e => ⟨(k2 g e).1, (k2 g e).2.1, (k2 g e).2.2.1, (k2 g e).2.2.2.1⟩⟩
          have HBS := hide HK.out.base
          go_wp2_with fail
          go_end0
          exact ⟨⟨_, rfl⟩, HE.out, HBS.out⟩

end Go.Proofs.YtklenjmfalljgaaDoor

/- The walk of holds. -/
namespace Go.Proofs.YtklenjmfalljgaaDoor
open Go.RowKit
attribute [local go_sem] Go.World.cell?_alloc_some

theorem Hd.like {B : Nat} {w w' : World} {b : Nat} {n : Int} {K : List (Value × Int)} (h : Hd B w b n K) (hl : Like w' w) : Hd B w' b n K := h.grown (grown_of_like hl)

set_option maxRecDepth 100000 in
set_option maxHeartbeats 1000000 in
theorem holds_m (B : Nat) (w : World) (b : Nat) (n : Int) (K : List (Value × Int)) (hH : Hd B w b n K) (hK : K.length ≤ 1000) :
    Calls Tryd.prog 59 #[pt b] w fun e w' => e = .returned (.bool true) ∧ Like w' w := by
  obtain ⟨ov, mv, hh, hk⟩ := hH
  obtain ⟨o1, o2, o3, rfl⟩ := owns_form hk.orow
  have ho2 := owns_lenq hk.orow
  subst ho2
  obtain ⟨m1, m2, m3, rfl⟩ := owns_form hk.mrow
  have hm2 := owns_lenq hk.mrow
  subst hm2
  have c6 : w.cell? ⟨b, 6, none⟩ = some (.slice o1 K.length o3) := hh.cell 6
  have c7 : w.cell? ⟨b, 7, none⟩ = some (.slice m1 K.length m3) := hh.cell 7
  have c8 : w.cell? ⟨b, 8, none⟩ = some (.slice none 0 0) := hh.cell 8
  have c10 : w.cell? ⟨b, 10, none⟩ = some (.slice none 0 0) := hh.cell 10
  have c12 : w.cell? ⟨b, 12, none⟩ = some (.slice none 0 0) := hh.cell 12
  have c14 : w.cell? ⟨b, 14, none⟩ = some (.slice none 0 0) := hh.cell 14
  have HK := hide hk
  have hpt : pt b = .pointer (some ⟨b, 0, none⟩) := rfl
  rw [hpt]
  have hK2 : (K.length : Int) ≤ 1000 := by omega
  have HC : Hid (∀ w', Like w' w → ∀ o, w'.cell? ⟨b, o, none⟩ = w.cell? ⟨b, o, none⟩) := by
    intro w' hl o; simp [World.cell?, hl.1]
  clear hh hk hpt
  go_enter Tryd.func59, Tryd.ntmps59
  go_wp2_with fail
  go_loopw [3] (fun i w' => ∃ k : Nat, k ≤ K.length ∧ i = .int .i64 k ∧ Hid (Like w' w)) (fun i _ => K.length - (intOf i).toNat)
  case atStart => exact ⟨0, Nat.zero_le _, rfl, hide (like_refl _)⟩
  case round =>
    obtain ⟨k, hk, rfl, HLK⟩ := hrel
    obtain ⟨w5, hw5⟩ : ∃ w5, w5 = wr := ⟨_, rfl⟩
    rw [← hw5] at HLK ⊢
    clear hw5
    have e6 : w5.cell? ⟨b, 6, none⟩ = some (.slice o1 K.length o3) := by rw [HC.out w5 HLK.out]; exact c6
    by_cases hlt : k < K.length
    · obtain ⟨og, oc, eo, _, _⟩ := HK.out.orow.form (by omega)
      obtain ⟨mg, mc, em, _, _⟩ := HK.out.mrow.form (by omega)
      have horow := HK.out.orow
      have hmrow := HK.out.mrow
      rw [eo] at horow
      rw [em] at hmrow
      simp only [Value.slice.injEq, true_and] at eo em
      obtain ⟨rfl, rfl⟩ := eo
      obtain ⟨rfl, rfl⟩ := em
      have hkept := (HK.out.kept K[k] (List.getElem_mem hlt)).1
      have d0 : w.cell? ⟨og, k, none⟩ = some K[k].1 := by rw [horow.cellAt k (by omega)]; simp [hlt]
      have d1 : w.cell? ⟨mg, k, none⟩ = some (.int .i64 K[k].2) := by rw [hmrow.cellAt k (by omega)]; simp [ints, hlt]
      have q0 : (0 : Int) ≤ (k : Int) := by omega
      have q1 : (k : Int) < K.length := by omega
      have HKT := hide hkept
      clear horow hmrow hkept
      generalize K[k] = x at *
      obtain ⟨xv, xm⟩ := x
      simp only at d0 d1
      obtain ⟨xa, xl, xc, hxv, hxl, hxc⟩ : ∃ xa xl xc, xv = .slice xa xl xc ∧ xl ≤ 1000 ∧ ∀ j, j < xl → ∃ g, xa = some ⟨g, 0, none⟩ ∧ w.cell? ⟨g, j, none⟩ = some (.int .i64 xm) := by
        rcases HKT.out with e | ⟨g, len, cap, e, hl, hc⟩
        · exact ⟨none, 0, 0, e, by omega, fun j hj => by omega⟩
        · exact ⟨some ⟨g, 0, none⟩, len, cap, e, hl, fun j hj => ⟨g, rfl, hc j hj⟩⟩
      subst hxv
      have HXC := hide hxc
      clear hxc
      have HL5 : ∀ w', Like w' w → ∀ a, w'.cell? a = w.cell? a := fun w' hl a => by simp [World.cell?, hl.1]
      have HLL := hide HL5
      clear HL5
      go_wp2_with fail
      go_loopw [4] (fun i w' => ∃ j : Nat, j ≤ xl ∧ i = .int .i64 j ∧ Hid (Like w' w)) (fun i _ => xl - (intOf i).toNat)
      case atStart => exact ⟨0, Nat.zero_le _, rfl, HLK⟩
      case round =>
        obtain ⟨j, hj, rfl, HLJ⟩ := hrel
        obtain ⟨w7, hw7⟩ : ∃ w7, w7 = wr := ⟨_, rfl⟩
        rw [← hw7] at HLJ ⊢
        clear hw7 e6
        have f6 : w7.cell? ⟨b, 6, none⟩ = some (.slice (some ⟨og, 0, none⟩) K.length o3) := by rw [HLL.out w7 HLJ.out]; exact c6
        have f7 : w7.cell? ⟨b, 7, none⟩ = some (.slice (some ⟨mg, 0, none⟩) K.length m3) := by rw [HLL.out w7 HLJ.out]; exact c7
        have g0 : w7.cell? ⟨og, k, none⟩ = some (.slice xa xl xc) := by rw [HLL.out w7 HLJ.out]; exact d0
        have g1 : w7.cell? ⟨mg, k, none⟩ = some (.int .i64 xm) := by rw [HLL.out w7 HLJ.out]; exact d1
        by_cases hjl : j < xl
        · obtain ⟨g, rfl, hcj⟩ := HXC.out j hjl
          have g2 : w7.cell? ⟨g, j, none⟩ = some (.int .i64 xm) := by rw [HLL.out w7 HLJ.out]; exact hcj
          have q2 : (0 : Int) ≤ (j : Int) := by omega
          have q3 : (j : Int) < xl := by omega
          clear hcj c6 c7 c8 c10 c12 c14 d0 d1
          go_wp2_with fail
          go_quiet (fail)
          go_wp2_with fail
          go_roundw
          case rel => exact ⟨j + 1, by omega, by go_num, hide (like_dn HLJ.out _)⟩
          case measure => simp [intOf]; omega
        · have q3 : (xl : Int) ≤ (j : Int) := by omega
          clear c6 c7 c8 c10 c12 c14 d0 d1
          go_wp2_with fail
          go_roundw
          case rel => exact ⟨k + 1, by omega, by go_num, HLJ⟩
          case measure => simp [intOf]; omega
    · have q1 : (K.length : Int) ≤ (k : Int) := by omega
      have e8 : w5.cell? ⟨b, 8, none⟩ = some (.slice none 0 0) := by rw [HC.out w5 HLK.out]; exact c8
      have e10 : w5.cell? ⟨b, 10, none⟩ = some (.slice none 0 0) := by rw [HC.out w5 HLK.out]; exact c10
      have e12 : w5.cell? ⟨b, 12, none⟩ = some (.slice none 0 0) := by rw [HC.out w5 HLK.out]; exact c12
      have e14 : w5.cell? ⟨b, 14, none⟩ = some (.slice none 0 0) := by rw [HC.out w5 HLK.out]; exact c14
      clear c6 c7 c8 c10 c12 c14
      go_wp2_with fail
      go_loopw [5] (fun i w' => i = .int .i64 0 ∧ Hid (w' = w5)) (fun _ _ => 0)
      case atStart => exact ⟨rfl, hide rfl⟩
      case round =>
        obtain ⟨rfl, HW⟩ := hrel
        rw [HW.out]
        clear HW
        go_wp2_with fail
        go_loopw [7] (fun i w' => i = .int .i64 0 ∧ Hid (w' = w5)) (fun _ _ => 0)
        case atStart => exact ⟨rfl, hide rfl⟩
        case round =>
          obtain ⟨rfl, HW⟩ := hrel
          rw [HW.out]
          clear HW
          go_wp2_with fail
          go_loopw [9] (fun i w' => i = .int .i64 0 ∧ Hid (w' = w5)) (fun _ _ => 0)
          case atStart => exact ⟨rfl, hide rfl⟩
          case round =>
            obtain ⟨rfl, HW⟩ := hrel
            rw [HW.out]
            clear HW
            go_wp2_with fail
            go_loopw [11] (fun i w' => i = .int .i64 0 ∧ Hid (w' = w5)) (fun _ _ => 0)
            case atStart => exact ⟨rfl, hide rfl⟩
            case round =>
              obtain ⟨rfl, HW⟩ := hrel
              rw [HW.out]
              clear HW
              go_wp2_with fail
              go_ret
              exact ⟨rfl, HLK.out⟩

end Go.Proofs.YtklenjmfalljgaaDoor
