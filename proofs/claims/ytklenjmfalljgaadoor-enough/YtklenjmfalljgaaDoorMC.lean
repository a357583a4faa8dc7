/- The texts Sch Sch2 Ins Prg Prg2 PureC Eq4. -/
import Derived.Test.YtklenjmfalljgaaDoorMB
import Derived.ChangeKeysEq

/- The walk of schedule. -/
namespace Go.Proofs.YtklenjmfalljgaaDoor
open Go.RowKit
attribute [local go_sem] Go.World.cell?_alloc_some

def ints (a : List Int) : List Value := a.map fun x => .int .i64 x
theorem ints_len (a : List Int) : (ints a).length = a.length := by simp [ints]
theorem ints_one (a : List Int) : ∀ v ∈ ints a, v.oneCell' = true := by
  intro v hv
  simp only [ints, List.mem_map] at hv
  obtain ⟨x, _, rfl⟩ := hv; rfl
theorem ints_snoc (a : List Int) (x : Int) : ints (a ++ [x]) = ints a ++ [.int .i64 x] := by simp [ints]

theorem owns_ints {w : World} {base : Nat} {v : Value} {a : List Int} (h : w.ownsRow base 3 1 v a.length (ints a)) : IntsAt w.heap.size w v a := by
  rcases h.2 with ⟨e, e0⟩ | ⟨g, cap, cur, hv, hb, hh, hc, _⟩
  · refine ⟨none, 0, by rw [e, e0], by omega, fun k hk => by omega⟩
  · refine ⟨some ⟨g, 0, none⟩, cap, hv, hc, fun k hk => ⟨g, 0, rfl, (Array.getElem?_eq_some_iff.1 hh).1, ?_⟩⟩
    rw [hv] at h
    rw [Nat.zero_add, h.cellAt k (by omega)]
    simp [ints, hk]

def resCells (o : Out) (s1 g1 : Value) : Array Value := #[.int .i64 o.kind, .int .i64 o.thread, .int .i64 o.at_, s1, .int .i64 (o.st.vars 0), .int .i64 (o.st.vars 1), .int .i64 (o.st.vars 2), .int .i64 (o.st.vars 3), g1]
def zeroRes : Array Value := #[.int .i64 0, .int .i64 0, .int .i64 0, .slice none 0 0, .int .i64 0, .int .i64 0, .int .i64 0, .int .i64 0, .slice none 0 0]

/-- In the midst of schedule: s is a, r its run. -/
structure SchAt (w : World) (p : List (List Ins)) (pb : Value) (rb : Nat) (a : List Int) (sv : Value) (w' : World) : Prop where
  grown : w.grownBy w' none
  row : w'.ownsRow w.heap.size 3 1 sv a.length (ints a)
  nil : a = [] → sv = .slice none 0 0
  apart : sv.ownBlock ≠ some rb
  res : ∃ s1 g1, w'.heap[rb]? = some (.cells (resCells (runS p a) s1 g1) 37 (0, 0)) ∧ w'.ownsRow w.heap.size 48 2 s1 (runS p a).steps.length (flatS (runS p a).steps) ∧ w'.ownsRow w.heap.size 34 4 g1 p.length (regsF p.length (runS p a).st) ∧ s1.ownBlock ≠ some rb ∧ g1.ownBlock ≠ some rb
  box : w'.heap[w.heap.size]? = some (.cells #[pb] 25 (0, 0))
  out : w'.heap[w.heap.size + 1]? = some (.cells zeroRes 37 (0, 0))
  lo : w.heap.size + 2 ≤ rb
  hi : rb < w'.heap.size
  good : Sched p a

theorem SchAt.step {w : World} {p : List (List Ins)} {pb : Value} {rb : Nat} {a : List Int} {sv : Value} {w' w'' : World} (h : SchAt w p pb rb a sv w') (hg : w'.grownBy w'' none) : SchAt w p pb rb a sv w'' := by
  obtain ⟨s1, g1, h1, h2, h3, h4, h5⟩ := h.res
  exact ⟨grown_trans h.grown hg, owns_grown h.row hg (fun _ e => by cases e), h.nil, h.apart, ⟨s1, g1, by rw [hg.block _ h.hi (by simp)]; exact h1, owns_grown h2 hg (fun _ e => by cases e), owns_grown h3 hg (fun _ e => by cases e), h4, h5⟩,
    by rw [hg.block _ (by have := h.lo; have := h.hi; omega) (by simp)]; exact h.box, by rw [hg.block _ (by have := h.lo; have := h.hi; omega) (by simp)]; exact h.out, h.lo, Nat.lt_of_lt_of_le h.hi hg.size, h.good⟩

theorem owns_setCell_ne {w : World} {base : Nat} {e : TypeId} {size : Nat} {v : Value} {n : Nat} {xs : List Value} {g o : Nat} {u : Value} (h : w.ownsRow base e size v n xs) (hne : v.ownBlock ≠ some g) : (w.setCell ⟨g, o, none⟩ u).ownsRow base e size v n xs := by
  obtain ⟨h1, h2⟩ := h
  refine ⟨h1, ?_⟩
  rcases h2 with h2 | ⟨b, cap, cur, hv, hb, hh, rest⟩
  · exact Or.inl h2
  · refine Or.inr ⟨b, cap, cur, hv, hb, ?_, rest⟩
    rw [Below.heap_setCell _ _ _ _ (fun e => hne (by rw [hv]; simp [Value.ownBlock, e]))]; exact hh

theorem set9 {w : World} {g : Nat} {x0 x1 x2 x3 x4 x5 x6 x7 x8 y0 y1 y2 y3 y4 y5 y6 y7 y8 : Value} {t : TypeId} (h : w.heap[g]? = some (.cells #[x0, x1, x2, x3, x4, x5, x6, x7, x8] t (0, 0))) :
    (((((((((w.setCell ⟨g, 0, none⟩ y0).setCell ⟨g, 1, none⟩ y1).setCell ⟨g, 2, none⟩ y2).setCell ⟨g, 3, none⟩ y3).setCell ⟨g, 4, none⟩ y4).setCell ⟨g, 5, none⟩ y5).setCell ⟨g, 6, none⟩ y6).setCell ⟨g, 7, none⟩ y7).setCell ⟨g, 8, none⟩ y8).heap[g]? = some (.cells #[y0, y1, y2, y3, y4, y5, y6, y7, y8] t (0, 0)) := by
  have h0 := heap_setCell_same w g 0 _ t y0 h
  have h1 := heap_setCell_same _ g 1 _ t y1 h0
  have h2 := heap_setCell_same _ g 2 _ t y2 h1
  have h3 := heap_setCell_same _ g 3 _ t y3 h2
  have h4 := heap_setCell_same _ g 4 _ t y4 h3
  have h5 := heap_setCell_same _ g 5 _ t y5 h4
  have h6 := heap_setCell_same _ g 6 _ t y6 h5
  have h7 := heap_setCell_same _ g 7 _ t y7 h6
  have h8 := heap_setCell_same _ g 8 _ t y8 h7
  simpa using h8

/-- r = x, s = t. -/
theorem SchAt.set {w : World} {p : List (List Ins)} {pb : Value} {rb : Nat} {a b : List Int} {sv tv : Value} {w' : World} (h : SchAt w p pb rb a sv w') (hb : b ≠ []) (ht : w'.ownsRow w.heap.size 3 1 tv b.length (ints b)) (hta : tv.ownBlock ≠ some rb) {s1 g1 : Value}
    (hs : w'.ownsRow w.heap.size 48 2 s1 (runS p b).steps.length (flatS (runS p b).steps)) (hg : w'.ownsRow w.heap.size 34 4 g1 p.length (regsF p.length (runS p b).st)) (hsa : s1.ownBlock ≠ some rb) (hga : g1.ownBlock ≠ some rb) (hok : Sched p b) :
    SchAt w p pb rb b tv (((((((((w'.setCell ⟨rb, 0, none⟩ (.int .i64 (runS p b).kind)).setCell ⟨rb, 1, none⟩ (.int .i64 (runS p b).thread)).setCell ⟨rb, 2, none⟩ (.int .i64 (runS p b).at_)).setCell ⟨rb, 3, none⟩ s1).setCell ⟨rb, 4, none⟩ (.int .i64 ((runS p b).st.vars 0))).setCell ⟨rb, 5, none⟩ (.int .i64 ((runS p b).st.vars 1))).setCell ⟨rb, 6, none⟩ (.int .i64 ((runS p b).st.vars 2))).setCell ⟨rb, 7, none⟩ (.int .i64 ((runS p b).st.vars 3))).setCell ⟨rb, 8, none⟩ g1) := by
  obtain ⟨s0, g0, h1, _⟩ := h.res
  have hlo := h.lo
  have hhi := h.hi
  have hother : ∀ k, k ≠ rb → (((((((((w'.setCell ⟨rb, 0, none⟩ (.int .i64 (runS p b).kind)).setCell ⟨rb, 1, none⟩ (.int .i64 (runS p b).thread)).setCell ⟨rb, 2, none⟩ (.int .i64 (runS p b).at_)).setCell ⟨rb, 3, none⟩ s1).setCell ⟨rb, 4, none⟩ (.int .i64 ((runS p b).st.vars 0))).setCell ⟨rb, 5, none⟩ (.int .i64 ((runS p b).st.vars 1))).setCell ⟨rb, 6, none⟩ (.int .i64 ((runS p b).st.vars 2))).setCell ⟨rb, 7, none⟩ (.int .i64 ((runS p b).st.vars 3))).setCell ⟨rb, 8, none⟩ g1).heap[k]? = w'.heap[k]? := fun k hk => by
    iterate 9 rw [Below.heap_setCell _ _ _ _ (by simpa using hk)]
  refine ⟨?_, ?_, fun e => absurd e hb, hta, ⟨s1, g1, set9 h1, ?_, ?_, hsa, hga⟩, ?_, ?_, hlo, by simp; omega, hok⟩
  · iterate 9 refine grown_setNew ?_ (by omega)
    exact h.grown
  · iterate 9 refine owns_setCell_ne ?_ hta
    exact ht
  · iterate 9 refine owns_setCell_ne ?_ hsa
    exact hs
  · iterate 9 refine owns_setCell_ne ?_ hga
    exact hg
  · rw [hother _ (by omega)]; exact h.box
  · rw [hother _ (by omega)]; exact h.out


section
variable {P : Program} {w : World} {ops : Array Oper} {rest : List Oper} {o : Oper} {a : Act} {Q : Exit → Act → World → Prop}
/-- append of a whole slice of numbers onto nil: a new row. -/
theorem wpList_append_copy (hgd : o.guard = none) (s x : Operand) (t : TypeId) (ho : o.op = .call { callee := .builtin .append, args := #[s, x], argTypes := #[t, t] })
    (e : TypeId) (i : TypeInfo) (z : Value) (bytes : Nat) (ht : P.underlying t = some (.slice e)) (hi : P.info? e = some i) (hz : i.zero = some z) (hsize : i.size = 1) (hby : i.bytes = bytes) (hzs : z.cells.size = 1)
    (hs : a.eval s = .slice none 0 0) (sv : Value) (hx : a.eval x = sv) (b0 n : Nat) (xs : List Value) (hown : w.ownsRow b0 e 1 sv n xs) (hnil : n = 0 → sv = .slice none 0 0) (h1 : ∀ u ∈ xs, u.oneCell' = true) (h63 : n ≤ maxLen) (hbytes : n * bytes ≤ 140737488355328)
    (h : ∀ ta tn tc w', w'.ownsRow w.heap.size e 1 (.slice ta tn tc) n xs → w.grownBy w' none → (n = 0 → Value.slice ta tn tc = .slice none 0 0) → wpList P ops Q rest (a.put o.dst (.slice ta tn tc)) w') : wpList P ops Q (o :: rest) a w := by
  refine wpList_plain hgd fun K hK => ?_
  have hnone : w.ownsRow w.heap.size e 1 (.slice none 0 0) 0 [] := ⟨rfl, Or.inl ⟨rfl, rfl⟩⟩
  by_cases h0 : n = 0
  · have hrun := run_append_owned_none (P := P) w w.heap.size t o.type e i 1 ht hi _ 0 [] hnone
    have hx0 : xs = [] := by
      have := hown.1
      rw [h0] at this
      exact List.length_eq_zero_iff.1 (by omega)
    unfold Oper.wp
    simp [execOp, ho, resolve, invoke, builtin, hs, hx, hnil h0, hrun, Result.andThen]
    exact hK _ _ (h _ _ _ w (by rw [h0, hx0]; exact hnone) (grown_refl _ _) (fun _ => rfl))
  · obtain ⟨g, cap, rfl, _, _⟩ := hown.form (by omega)
    have hnews : ∀ j u, xs[j]? = some u → w.cell? ((⟨g, 0, none⟩ : Addr).add j) = some u := fun j u hj => by
      have hadd : (⟨g, 0, none⟩ : Addr).add j = ⟨g, j, none⟩ := by unfold Addr.add; split <;> simp_all
      have hl := (List.getElem?_eq_some_iff.1 hj).1
      rw [hadd, hown.cellAt j (by rw [← hown.1]; exact hl)]; exact hj
    obtain ⟨v', w', hrun, h2, h3, h4, h5⟩ := run_append_own_at (P := P) w w.heap.size t o.type e i z 1 bytes ht hi hz hsize hby hzs (by omega) _ 0 [] hnone ⟨g, 0, none⟩ n cap xs hown.1 hnews h1 (by omega) (by simpa using hbytes) (Nat.le_refl _)
    simp only [Nat.zero_add, List.nil_append] at h2
    obtain ⟨ta, tn, tc, rfl⟩ := owns_form h2
    unfold Oper.wp
    simp [execOp, ho, resolve, invoke, builtin, hs, hx, hrun, Result.andThen]
    exact hK _ _ (h _ _ _ w' h2 h3 (fun e => absurd e h0))
end

end Go.Proofs.YtklenjmfalljgaaDoor

/- The walk of schedule. -/
namespace Go.Proofs.YtklenjmfalljgaaDoor
open Go.RowKit
attribute [local go_sem] Go.World.cell?_alloc_some

theorem info_int : ((Tryd.prog.info? 3).map fun i => (i.zero, i.size, i.bytes)) = some (some (.int .i64 0), 1, 8) := by kernel_rfl

theorem owns_lenq {w : World} {base e size : Nat} {ao : Option Addr} {n c m : Nat} {xs : List Value} (h : w.ownsRow base e size (.slice ao n c) m xs) : n = m := by
  rcases h.2 with ⟨e, e0⟩ | ⟨g, cap, cur, hv, _⟩
  · simp at e; omega
  · simp at hv; omega

theorem owns_out9 {w w' : World} {e size : Nat} {v : Value} {n : Nat} {xs : List Value} {y0 y1 y2 y3 y4 y5 y6 y7 y8 : Value} (h : w'.ownsRow w.heap.size e size v n xs) (ho : w'.heap[w.heap.size + 1]? = some (.cells zeroRes 37 (0, 0))) (he : e ≠ 37) :
    (((((((((w'.setCell ⟨w.heap.size + 1, 0, none⟩ y0).setCell ⟨w.heap.size + 1, 1, none⟩ y1).setCell ⟨w.heap.size + 1, 2, none⟩ y2).setCell ⟨w.heap.size + 1, 3, none⟩ y3).setCell ⟨w.heap.size + 1, 4, none⟩ y4).setCell ⟨w.heap.size + 1, 5, none⟩ y5).setCell ⟨w.heap.size + 1, 6, none⟩ y6).setCell ⟨w.heap.size + 1, 7, none⟩ y7).setCell ⟨w.heap.size + 1, 8, none⟩ y8).drew.ownsRow w.heap.size e size v n xs := by
  have hne : v.ownBlock ≠ some (w.heap.size + 1) := fun eq => by
    rcases h.2 with ⟨e1, _⟩ | ⟨g', _, cur, hv, _, hh, _⟩
    · rw [e1] at eq; cases eq
    · rw [hv] at eq
      have e2 : g' = w.heap.size + 1 := by simpa [Value.ownBlock] using eq
      rw [e2, ho] at hh
      simp at hh
      exact he hh.2.symm
  refine owns_grown (w := (((((((((w'.setCell ⟨w.heap.size + 1, 0, none⟩ y0).setCell ⟨w.heap.size + 1, 1, none⟩ y1).setCell ⟨w.heap.size + 1, 2, none⟩ y2).setCell ⟨w.heap.size + 1, 3, none⟩ y3).setCell ⟨w.heap.size + 1, 4, none⟩ y4).setCell ⟨w.heap.size + 1, 5, none⟩ y5).setCell ⟨w.heap.size + 1, 6, none⟩ y6).setCell ⟨w.heap.size + 1, 7, none⟩ y7).setCell ⟨w.heap.size + 1, 8, none⟩ y8)) (r := none) ?_ (grown_drew (grown_refl _ _)) (fun _ e => by cases e)
  iterate 9 refine owns_setCell_ne ?_ hne
  exact h
theorem grown_out9 {w w' : World} {y0 y1 y2 y3 y4 y5 y6 y7 y8 : Value} (h : w.grownBy w' none) :
    w.grownBy (((((((((w'.setCell ⟨w.heap.size + 1, 0, none⟩ y0).setCell ⟨w.heap.size + 1, 1, none⟩ y1).setCell ⟨w.heap.size + 1, 2, none⟩ y2).setCell ⟨w.heap.size + 1, 3, none⟩ y3).setCell ⟨w.heap.size + 1, 4, none⟩ y4).setCell ⟨w.heap.size + 1, 5, none⟩ y5).setCell ⟨w.heap.size + 1, 6, none⟩ y6).setCell ⟨w.heap.size + 1, 7, none⟩ y7).setCell ⟨w.heap.size + 1, 8, none⟩ y8).drew none := by
  refine grown_drew ?_
  iterate 9 refine grown_setNew ?_ (by omega)
  exact h

/-- What schedule answers. -/
def Scheduled (p : List (List Ins)) (raw : List Int) (w : World) (e : Ending) (w' : World) : Prop :=
  ∃ sv rv a, e = .returned (.tuple #[sv, rv, .bool true]) ∧ w'.ownsRow w.heap.size 3 1 sv a.length (ints a) ∧ ResAt w.heap.size w' (runS p a) p.length rv ∧ Sched p a ∧ a.length ≤ 200 ∧
    ((a.length = raw.length ∨ a.length = 200) ∨ (runS p a).kind ≠ 5) ∧ w.grownBy w' none

theorem checkRun_ok {p : List (List Ins)} {s : List Int} (hv : vProg p = true) (hs : s.length ≤ 500) : checkRunN p s = 0 := by simp [checkRunN, hv, hs]


set_option maxHeartbeats 8000000 in
set_option maxRecDepth 100000 in
theorem schedule_m (p : List (List Ins)) (raw : List Int) (pv rv : Value) (w : World) (hS : ShpAt w) (hv : vProg p = true) (hP : ProgAt w pv p) (hR : IntsAt w.heap.size w rv raw)
    (hb : ∀ k (hk : k < raw.length), -9223372036854775808 ≤ raw[k] ∧ raw[k] ≤ 9223372036854775807) :
    Calls Tryd.prog 14 #[pv, rv] w (Scheduled p raw w) := by
  obtain ⟨i0, hi0, hz0, hz1, hz2⟩ := info_parts info_int
  have hlen := vProg_len hv
  have HSh := hide hS
  have HV := hide hv
  have HP := hide hP
  have HR := hide hR
  have HBd := hide hb
  obtain ⟨pao, pcap, rfl⟩ := hP.form
  obtain ⟨rao, rcap, rfl⟩ := hR.form
  clear hS hv hP hR hb
  have hn1 : (1 : Int) ≤ p.length := by omega
  have hn4 : (p.length : Int) ≤ 4 := by omega
  go_enter Tryd.func14, Tryd.ntmps14
  go_wp2_with fail
  have hg0 : ∀ a b, w.grownBy ((w.alloc a).alloc b) none := fun a b => grown_alloc (grown_alloc (grown_refl _ _))
  refine (awake_m _ (HSh.out.pres (pres_grown (hg0 _ _)))).mono ?_
  rintro e w1 ⟨rfl, hg1⟩
  have HG1 : Hid (w.grownBy w1 none) := grown_trans (hg0 _ _) hg1
  have hsz1 : w.heap.size + 2 ≤ w1.heap.size := by have := hg1.size; simpa using this
  have hb0 : w1.heap[w.heap.size]? = some (.cells #[.slice pao p.length pcap] 25 (0, 0)) := by
    rw [hg1.block w.heap.size (by simp; omega) (by simp), Below.heap_alloc _ _ _ (by simp)]; exact heap_alloc_new w _
  have hb1 : w1.heap[w.heap.size + 1]? = some (.cells zeroRes 37 (0, 0)) := by
    rw [hg1.block (w.heap.size + 1) (by simp) (by simp)]
    have := heap_alloc_new (w.alloc (.cells #[.slice pao p.length pcap] 25)) (.cells zeroRes 37)
    simpa [zeroRes] using this
  have HB0 := hide hb0
  have HB1 := hide hb1
  have c0 : w1.cell? ⟨w.heap.size, 0, none⟩ = some (.slice pao p.length pcap) := by simp [World.cell?, hb0]
  clear hg1 hb0 hb1 hg0
  go_wp2_with fail
  have hnil : IntsAt w1.heap.size w1 (.slice none 0 0) [] := ⟨none, 0, rfl, Nat.le_refl _, fun k hk => by simp at hk⟩
  refine (replay_m p [] _ _ _ (HSh.out.pres (pres_grown HG1.out)) (HP.out.pres (pres_grown HG1.out)) hnil).mono ?_
  clear hnil
  rintro e w2 ⟨hg2, h⟩
  rcases h with ⟨_, rv0, rfl, s1, g1, rfl, ho1, ho2⟩ | ⟨h, _⟩
  case inr => exact absurd (checkRun_ok HV.out (by simp)) h
  have HG2 : Hid (w.grownBy w2 none) := grown_trans HG1.out hg2
  have hsz2 : w.heap.size + 2 ≤ w2.heap.size := by have := hg2.size; omega
  obtain ⟨x1, x2, x3, rfl⟩ := owns_form ho1
  obtain ⟨y1, y2, y3, rfl⟩ := owns_form ho2
  have HST : Hid (SchAt w p (.slice pao p.length pcap) w2.heap.size [] (.slice none 0 0) (w2.alloc (.cells (resCells (runS p []) (.slice x1 x2 x3) (.slice y1 y2 y3)) 37))) := by
    have hgg : w2.grownBy (w2.alloc (.cells (resCells (runS p []) (.slice x1 x2 x3) (.slice y1 y2 y3)) 37)) none := grown_alloc (grown_refl _ _)
    have hlt : ∀ {e size : Nat} {v : Value} {n : Nat} {xs : List Value}, w2.ownsRow w1.heap.size e size v n xs → v.ownBlock ≠ some w2.heap.size := fun h e => by
      rcases h.2 with ⟨e1, _⟩ | ⟨g', _, _, hv, _, hh, _⟩
      · rw [e1] at e; cases e
      · rw [hv] at e
        have := (Array.getElem?_eq_some_iff.1 hh).1
        simp [Value.ownBlock] at e
        omega
    refine ⟨grown_trans HG2.out hgg, ⟨rfl, Or.inl ⟨rfl, rfl⟩⟩, fun _ => rfl, by simp [Value.ownBlock], ⟨_, _, heap_alloc_new w2 _, owns_grown (owns_mono ho1 (by omega)) hgg (fun _ e => by cases e), owns_grown (owns_mono ho2 (by omega)) hgg (fun _ e => by cases e), hlt ho1, hlt ho2⟩, ?_, ?_, hsz2, by simp, sched_nil p⟩
    · rw [hgg.block _ (by omega) (by simp), hg2.block _ (by omega) (by simp)]; exact HB0.out
    · rw [hgg.block _ (by omega) (by simp), hg2.block _ (by omega) (by simp)]; exact HB1.out
  have hk0 : (runS p []).kind = endingS p St.zero := rfl
  clear hg2 ho1 ho2 c0 hk0
  go_wp2
  go_loopw [8, 11] (fun sv i w' => ∃ (k : Nat) (a : List Int), k ≤ raw.length ∧ k ≤ 200 ∧ i = .int .i64 k ∧ a.length = k ∧ Hid (SchAt w p (.slice pao p.length pcap) w2.heap.size a sv w')) (fun _ i _ => raw.length - (intOf i).toNat)
  case atStart => exact ⟨0, [], Nat.zero_le _, by omega, rfl, rfl, HST⟩
  case round =>
    obtain ⟨k, a, hk, hk2, rfl, hak, HI⟩ := hrel
    obtain ⟨w3, hw3⟩ : ∃ w3, w3 = wr := ⟨_, rfl⟩
    subst hw3
    obtain ⟨s1, g1, hres, ho1, ho2, _, _⟩ := HI.out.res
    obtain ⟨x1', x2', x3', rfl⟩ := owns_form ho1
    obtain ⟨y1', y2', y3', rfl⟩ := owns_form ho2
    have HO1 := hide ho1
    have HO2 := hide ho2
    obtain ⟨r0, r1, r2, r3, r4, r5, r6, r7, r8, rf⟩ := nine_cells hres
    have c0 : w3.cell? ⟨w.heap.size, 0, none⟩ = some (.slice pao p.length pcap) := by simp [World.cell?, HI.out.box]
    have HSD := hide HI.out.good
    have hx2 : x2' = a.length := (owns_lenq ho1).trans HI.out.good.2
    subst hx2
    clear rf hres ho1 ho2
    by_cases hgo : (k < raw.length ∧ k < 200) ∧ (runS p a).kind = 5
    · obtain ⟨⟨hg1, hg2⟩, hg5⟩ := hgo
      have H5 := hide hg5
      rw [hg5] at r0
      clear hg5 r1 r2 r3 r4 r5 r6 r7 r8
      obtain ⟨rg, ro, rfl, hrg, hrc⟩ : ∃ g o, rao = some ⟨g, o, none⟩ ∧ g < w.heap.size ∧ w.cell? ⟨g, o + k, none⟩ = some (.int .i64 raw[k]) := by
        obtain ⟨ao', cap', e, _, h⟩ := HR.out
        simp at e
        obtain ⟨rfl, rfl⟩ := e
        obtain ⟨g, o, e1, e2, e3⟩ := h k hg1
        exact ⟨g, o, e1, e2, e3⟩
      have hrc3 := pres_grown HI.out.grown _ _ hrc
      have hbd := HBd.out k hg1
      have hi0' : (0 : Int) ≤ (k : Int) := by omega
      have hi1' : (k : Int) < raw.length := by omega
      have hi2' : (k : Int) < 200 := by omega
      clear hrc
      generalize raw[k] = c at *
      have hpk := pickN_range c p.length (by omega)
      have HPK := hide (pick_m c p.length (by omega) (by omega) hbd.1 hbd.2)
      go_wp2_with fail
      go_quiet ((go_at_call 12; exact Calls.quiet_of_same (HPK.out _)))
      clear HPK hrc3 r0
      generalize pickN c p.length = f at *
      have HI' : Hid (SchAt w p (.slice pao p.length pcap) w2.heap.size a u8 (w3.drewN nq)) := HI.out.step (grown_drewN _ (grown_refl _ _))
      go_wp2_with fail
      go_loopw [8, 13, 14] (fun sv d j w' => ∃ k' : Nat, k' ≤ p.length ∧ j = .int .i64 k' ∧
          ((d = .bool false ∧ Hid (SchAt w p (.slice pao p.length pcap) w2.heap.size a sv w') ∧ Hid (∀ q : Nat, q < k' → (runS p (a ++ [(f + q) % p.length])).kind = 2)) ∨
           (d = .bool true ∧ ∃ b : List Int, b.length = k + 1 ∧ Hid (SchAt w p (.slice pao p.length pcap) w2.heap.size b sv w')))) (fun _ _ j _ => p.length - (intOf j).toNat)
      case atStart => exact ⟨0, Nat.zero_le _, rfl, Or.inl ⟨rfl, HI', fun q hq => by omega⟩⟩
      case round =>
        obtain ⟨k', hk', rfl, hrel⟩ := hrel
        rcases hrel with ⟨rfl, HJ, HN⟩ | ⟨rfl, b, hbl, HJ⟩
        · have c0' : wr.cell? ⟨w.heap.size, 0, none⟩ = some (.slice pao p.length pcap) := by simp [World.cell?, HJ.out.box]
          by_cases hlt : k' < p.length
          · have hq0 : (0 : Int) ≤ (k' : Int) := by omega
            have hq1 : (k' : Int) < p.length := by omega
            have hal : a.length ≤ 199 := by omega
            have hb63 : a.length ≤ maxLen := by unfold maxLen; omega
            have hc63 : a.length + 1 ≤ maxLen := by unfold maxLen; omega
            go_wp2_with (first
              | (at_builtin; refine wpList_append_copy rfl _ _ _ rfl 3 i0 _ 8 Tryd.underlying22 hi0 hz0 hz1 hz2 rfl rfl u8 rfl w.heap.size a.length (ints a) HJ.out.row (fun e => HJ.out.nil (List.length_eq_zero_iff.1 e)) (ints_one a) hb63 (by omega) ?_; intro ta tn tc w4 hown4 hg4 _; have c4 : w4.cell? ⟨w.heap.size, 0, none⟩ = some (.slice pao p.length pcap) := (pres_grown hg4 _ _ c0'))
              | (at_builtin; refine wpList_append_lies _ rfl _ _ _ rfl wr.heap.size 3 i0 _ 1 8 Tryd.underlying22 hi0 hz0 hz1 hz2 rfl (by omega) (.slice ta tn tc) a.length (ints a) rfl (owns_alloc hown4) ⟨w4.heap.size, 0, none⟩ 1 1 [.int .i64 ((f + k') % p.length)] rfl rfl (World.news_of_block (cs := #[.int .i64 ((f + k') % p.length)]) (t := 3) (fr := (0, 0)) (heap_alloc_new w4 _)) (by simp [Value.oneCell']) (by omega) hc63 (by omega) (by have := hg4.size; simp; omega) (w4.heap.size + 1) (by simp) ?_; intro g5 cap5 w5 hown5 hgrow hat hlt5; have hg5 : wr.grownBy w5 none := (grown_row (grown_alloc hg4) hgrow (fun q e => owns_block hown4 q e)); have c5 : w5.cell? ⟨w.heap.size, 0, none⟩ = some (.slice pao p.length pcap) := (pres_grown hg5 _ _ c0')))
            have HG5 := hide hg5
            have hbl : (a ++ [(f + k') % p.length]).length = k + 1 := by simp [hak]
            have HO5 : Hid (w5.ownsRow wr.heap.size 3 1 (.slice (some ⟨g5, 0, none⟩) (k + 1) cap5) (a ++ [(f + k') % p.length]).length (ints (a ++ [(f + k') % p.length]))) := by
              unfold Hid
              rw [ints_snoc, hbl]
              rw [hak] at hown5
              exact hown5
            clear hg4 hg5 hgrow hat hown4 hown5 c4
            have HSh5 : Hid (ShpAt w5) := HSh.out.pres (pres_grown (grown_trans HJ.out.grown HG5.out))
            have HP5 := hide (HP.out.pres (pres_grown (grown_trans HJ.out.grown HG5.out)))
            have HI5 := hide (owns_ints HO5.out)
            have HRP := hide (replay_m p (a ++ [(f + k') % p.length]) _ _ w5 HSh5.out HP5.out HI5.out)
            refine (unhide HRP).mono ?_
            clear HRP
            rintro e w6 ⟨hg6, h⟩
            rcases h with ⟨_, rv6, rfl, s6, g6, rfl, ho6, hp6⟩ | ⟨h, _⟩
            case inr => exact absurd (checkRun_ok HV.out (by rw [hbl]; omega)) h
            obtain ⟨z1, z2, z3, rfl⟩ := owns_form ho6
            obtain ⟨z4, z5, z6, rfl⟩ := owns_form hp6
            have hrbl := HJ.out.hi
            have hg5s := HG5.out.size
            have HG6 : Hid (wr.grownBy w6 none) := grown_trans HG5.out hg6
            have HO6 : Hid (w6.ownsRow wr.heap.size 3 1 (.slice (some ⟨g5, 0, none⟩) (k + 1) cap5) (a ++ [(f + k') % p.length]).length (ints (a ++ [(f + k') % p.length]))) := owns_grown HO5.out hg6 (fun _ e => by cases e)
            have HS6 := hide ho6
            have HR6 := hide hp6
            have HJ6 : Hid (SchAt w p (.slice pao p.length pcap) w2.heap.size a u8 w6) := HJ.out.step HG6.out
            clear hg6 ho6 hp6 c5 HO5 HSh5 HP5 HI5 c0'
            generalize hx : (f + (k' : Int)) % (p.length : Int) = x at *
            have HX := hide hx
            clear hx
            obtain ⟨q1, q2, hq3, _⟩ := HJ6.out.res
            obtain ⟨n0, n1, n2, n3, n4, n5, n6, n7, n8, nf⟩ := nine_cells hq3
            have dfa : ∀ (o : Obj) (j : Nat), (w6.alloc o).frozen? ⟨w2.heap.size, j, none⟩ = false := fun o j => by
              rw [World.frozen?_alloc_old _ _ _ (by have := HJ6.out.hi; simp; omega)]; exact nf j
            clear nf hq3
            by_cases h2 : (runS p (a ++ [x])).kind = 2
            · have HN' : Hid (∀ q : Nat, q < k' + 1 → (runS p (a ++ [(f + q) % p.length])).kind = 2) := fun q hq => by
                by_cases e : q = k'
                · rw [e, HX.out]; exact h2
                · exact HN.out q (by omega)
              have hkd : ((runS p (a ++ [x])).kind != 2) = false := by simp [h2]
              clear h2
              go_wp2
              go_roundw
              case rel => exact ⟨k' + 1, by omega, by go_num, Or.inl ⟨rfl, HJ6.out.step (grown_alloc (grown_refl _ _)), HN'⟩⟩
              case measure => simp [intOf]; omega
            · have H2 := hide h2
              have hkd : ((runS p (a ++ [x])).kind != 2) = true := by simpa using h2
              clear h2
              have hrb2 : ∀ {v : Value} {bs e size n : Nat} {xs : List Value}, w6.ownsRow bs e size v n xs → wr.heap.size ≤ bs → v.ownBlock ≠ some w2.heap.size := fun h hb e => by
                have := owns_block h _ e; omega
              have HE := hide (SchAt.set (HJ6.out.step (w'' := w6.alloc (.cells (resCells (runS p (a ++ [x])) (.slice z1 z2 z3) (.slice z4 z5 z6)) 37)) (grown_alloc (grown_refl _ _))) (b := a ++ [x]) (by simp) (owns_alloc (owns_mono HO6.out (by have := HJ.out.grown.size; omega))) (hrb2 HO6.out (Nat.le_refl _)) (owns_alloc (owns_mono HS6.out (by have := HJ.out.grown.size; omega))) (owns_alloc (owns_mono HR6.out (by have := HJ.out.grown.size; omega))) (hrb2 HS6.out hg5s) (hrb2 HR6.out hg5s) (sched_snoc H5.out H2.out))
              go_wp2
              go_roundw
              case rel => exact ⟨k' + 1, by omega, by go_num, Or.inr ⟨rfl, a ++ [x], hbl, HE⟩⟩
              case measure => simp [intOf]; omega
          · have hke : k' = p.length := by omega
            exfalso
            obtain ⟨q, hq, hne⟩ := open_round H5.out hpk.1 hpk.2
            exact hne (HN.out q (by omega))
        · have c0' : wr.cell? ⟨w.heap.size, 0, none⟩ = some (.slice pao p.length pcap) := by simp [World.cell?, HJ.out.box]
          by_cases hlt : k' < p.length
          · have hq0 : (0 : Int) ≤ (k' : Int) := by omega
            have hq1 : (k' : Int) < p.length := by omega
            go_wp2
            go_roundw
            case rel => exact ⟨k + 1, b, by omega, by omega, by go_num, hbl, HJ⟩
            case measure => simp [intOf]; omega
          · have hq1 : (p.length : Int) ≤ k' := by omega
            go_wp2
            go_roundw
            case rel => exact ⟨k + 1, b, by omega, by omega, by go_num, hbl, HJ⟩
            case measure => simp [intOf]; omega
    · have HNG := hide hgo
      clear hgo
      obtain ⟨v1, v2, v3, hu8⟩ := owns_form HI.out.row
      subst hu8
      have hv2 : v2 = a.length := owns_lenq HI.out.row
      subst hv2
      obtain ⟨t0, t1, t2, t3, t4, t5, t6, t7, t8, tf⟩ := nine_cells HI.out.out
      have tf0 := tf 0
      have tf1 := tf 1
      have tf2 := tf 2
      have tf3 := tf 3
      have tf4 := tf 4
      have tf5 := tf 5
      have tf6 := tf 6
      have tf7 := tf 7
      have tf8 := tf 8
      clear tf
      have hlo := HI.out.lo
      have hne1 : w2.heap.size ≠ w.heap.size + 1 := by omega
      have hne2 : w.heap.size + 1 ≠ w2.heap.size := by omega
      have HEND : Hid ((a.length = raw.length ∨ a.length = 200) ∨ (runS p a).kind ≠ 5) := by
        by_cases h5 : (runS p a).kind = 5
        · refine Or.inl ?_
          have : ¬ (k < raw.length ∧ k < 200) := fun h => HNG.out ⟨h, h5⟩
          omega
        · exact Or.inr h5
      by_cases h1 : k < raw.length
      · by_cases h2 : k < 200
        · have h5 : (runS p a).kind ≠ 5 := fun h5 => HNG.out ⟨⟨h1, h2⟩, h5⟩
          have h5' : ((runS p a).kind == 5) = false := by simpa using h5
          have hi0' : (0 : Int) ≤ (k : Int) := by omega
          have hi1' : (k : Int) < raw.length := by omega
          have hi2' : (k : Int) < 200 := by omega
          go_wp2_with fail
          go_region
          all_goals go_wp2_with fail
          all_goals (
            refine bodyPost_ret (v := .tuple #[.slice v1 a.length v3, .agg (resCells (runS p a) (.slice x1' a.length x3') (.slice y1' y2' y3')), .bool true]) ?_ rfl ⟨_, _, a, rfl, ?_, ⟨_, _, rfl, ?_, ?_⟩, HSD.out, by omega, HEND.out, ?_⟩
            · simp [results, Tryd.results14, go_sem, t0, t1, t2, t3, t4, t5, t6, t7, t8, resCells, hak]
            · exact owns_out9 HI.out.row HI.out.out (by decide)
            · exact owns_out9 HO1.out HI.out.out (by decide)
            · exact owns_out9 HO2.out HI.out.out (by decide)
            · exact grown_out9 HI.out.grown)
        · have hi0' : (0 : Int) ≤ (k : Int) := by omega
          have hi1' : (k : Int) < raw.length := by omega
          have hi2' : (200 : Int) ≤ (k : Int) := by omega
          go_wp2_with fail
          go_region
          all_goals go_wp2_with fail
          all_goals (
            refine bodyPost_ret (v := .tuple #[.slice v1 a.length v3, .agg (resCells (runS p a) (.slice x1' a.length x3') (.slice y1' y2' y3')), .bool true]) ?_ rfl ⟨_, _, a, rfl, ?_, ⟨_, _, rfl, ?_, ?_⟩, HSD.out, by omega, HEND.out, ?_⟩
            · simp [results, Tryd.results14, go_sem, t0, t1, t2, t3, t4, t5, t6, t7, t8, resCells, hak]
            · exact owns_out9 HI.out.row HI.out.out (by decide)
            · exact owns_out9 HO1.out HI.out.out (by decide)
            · exact owns_out9 HO2.out HI.out.out (by decide)
            · exact grown_out9 HI.out.grown)
      · have hi0' : (0 : Int) ≤ (k : Int) := by omega
        have hi1' : (raw.length : Int) ≤ k := by omega
        go_wp2_with fail
        go_region
        all_goals go_wp2_with fail
        all_goals (
          refine bodyPost_ret (v := .tuple #[.slice v1 a.length v3, .agg (resCells (runS p a) (.slice x1' a.length x3') (.slice y1' y2' y3')), .bool true]) ?_ rfl ⟨_, _, a, rfl, ?_, ⟨_, _, rfl, ?_, ?_⟩, HSD.out, by omega, HEND.out, ?_⟩
          · simp [results, Tryd.results14, go_sem, t0, t1, t2, t3, t4, t5, t6, t7, t8, resCells, hak]
          · exact owns_out9 HI.out.row HI.out.out (by decide)
          · exact owns_out9 HO1.out HI.out.out (by decide)
          · exact owns_out9 HO2.out HI.out.out (by decide)
          · exact grown_out9 HI.out.grown)


end Go.Proofs.YtklenjmfalljgaaDoor

/- The walks of instruction and program. -/
namespace Go.Proofs.YtklenjmfalljgaaDoor
open Go.RowKit
attribute [local go_sem] Go.World.cell?_alloc_some

def insM (n many : Int) : Ins :=
  if n % 11 = 0 then ⟨1, n / 11 % 3, 0, n / 132 % 5 - 1⟩
  else if n % 11 = 7 then ⟨8, n / 11 % 3, 0, n / 132 % (many + 1)⟩
  else if n % 11 = 8 then ⟨9, n / 11 % 3, 0, 0⟩
  else if n % 11 = 9 then ⟨10, n / 11 % 3, 0, 0⟩
  else if n % 11 = 10 then (if 0 < n / 33 % 4 then ⟨2, n / 11 % 3, n / 33 % 4, 0⟩ else ⟨11, n / 11 % 3, 0, 0⟩)
  else ⟨1 + n % 11, n / 11 % 3, n / 33 % 4, 0⟩

def insN (c many : Int) : Ins := insM (pickN c 1099511627776) many

theorem insM_valid (n many : Int) (_hn : 0 ≤ n) (hm : 0 ≤ many) : vIns (insM n many) many = true := by
  have a1 : 0 ≤ n / 11 % 3 ∧ n / 11 % 3 < 3 := by omega
  have b1 : 0 ≤ n / 33 % 4 ∧ n / 33 % 4 < 4 := by omega
  have e1 : 0 ≤ n % 11 ∧ n % 11 < 11 := by omega
  have j1 : 0 ≤ n / 132 % (many + 1) ∧ n / 132 % (many + 1) < many + 1 := ⟨Int.emod_nonneg _ (by omega), Int.emod_lt_of_pos _ (by omega)⟩
  have hc : n % 11 = 0 ∨ n % 11 = 1 ∨ n % 11 = 2 ∨ n % 11 = 3 ∨ n % 11 = 4 ∨ n % 11 = 5 ∨ n % 11 = 6 ∨ n % 11 = 7 ∨ n % 11 = 8 ∨ n % 11 = 9 ∨ n % 11 = 10 := by omega
  rcases hc with e | e | e | e | e | e | e | e | e | e | e
  all_goals
    unfold insM
    simp only [e]
    generalize n / 11 % 3 = A at *
    generalize n / 33 % 4 = B at *
    generalize n / 132 % (many + 1) = J at *
    simp [vIns, shp, fitsB, belowB]
  all_goals first | omega | (split <;> simp <;> omega)

set_option maxHeartbeats 2000000 in
set_option maxRecDepth 100000 in
theorem instruction_core (c many n : Int) (hpk : ∀ w, Calls Tryd.prog 12 #[.int .i64 c, .int .i64 1099511627776] w fun e w' => e = .returned (.int .i64 n) ∧ w' = w) (hn0 : 0 ≤ n) (hn1 : n < 1099511627776) (h0 : 0 ≤ many) (h16 : many ≤ 16) (w : World) :
    Calls Tryd.prog 37 #[.int .i64 c, .int .i64 many] w fun e w' => e = .returned (.agg #[.int .i64 (insM n many).op, .int .i64 (insM n many).a, .int .i64 (insM n many).b, .int .i64 (insM n many).n]) ∧ w.grownBy w' none := by
  have HPK := hide hpk
  clear hpk
  have hcc : n % 11 = 0 ∨ n % 11 = 1 ∨ n % 11 = 2 ∨ n % 11 = 3 ∨ n % 11 = 4 ∨ n % 11 = 5 ∨ n % 11 = 6 ∨ n % 11 = 7 ∨ n % 11 = 8 ∨ n % 11 = 9 ∨ n % 11 = 10 := by omega
  have HJ : Hid (0 ≤ n / 132 % (many + 1)) := Int.emod_nonneg _ (by omega)
  rcases hcc with e | e | e | e | e | e | e | e | e | e | e
  · have HE : Hid (insM n many = ⟨1, n / 11 % 3, 0, n / 132 % 5 - 1⟩) := by unfold Hid insM; simp [e]
    rw [HE.out]
    clear HE
    go_enter Tryd.func37, Tryd.ntmps37
    go_wp2_with fail
    refine (HPK.out _).mono ?_
    rintro e' w1 ⟨rfl, rfl⟩
    go_wp2_with fail
    refine bodyPost_ret (v := .agg #[.int .i64 (1), .int .i64 (n / 11 % 3), .int .i64 (0), .int .i64 (n / 132 % 5 - 1)]) ?_ rfl ⟨rfl, ?_⟩
    · simp [results, Tryd.results37, go_sem]
    · repeat (first | exact grown_refl _ _ | refine grown_alloc ?_ | refine grown_setNew ?_ (by simp; omega))
  · have HE : Hid (insM n many = ⟨2, n / 11 % 3, n / 33 % 4, 0⟩) := by unfold Hid insM; simp [e]
    rw [HE.out]
    clear HE
    go_enter Tryd.func37, Tryd.ntmps37
    go_wp2_with fail
    refine (HPK.out _).mono ?_
    rintro e' w1 ⟨rfl, rfl⟩
    go_wp2_with fail
    refine bodyPost_ret (v := .agg #[.int .i64 (2), .int .i64 (n / 11 % 3), .int .i64 (n / 33 % 4), .int .i64 (0)]) ?_ rfl ⟨rfl, ?_⟩
    · simp [results, Tryd.results37, go_sem]
    · repeat (first | exact grown_refl _ _ | refine grown_alloc ?_ | refine grown_setNew ?_ (by simp; omega))
  · have HE : Hid (insM n many = ⟨3, n / 11 % 3, n / 33 % 4, 0⟩) := by unfold Hid insM; simp [e]
    rw [HE.out]
    clear HE
    go_enter Tryd.func37, Tryd.ntmps37
    go_wp2_with fail
    refine (HPK.out _).mono ?_
    rintro e' w1 ⟨rfl, rfl⟩
    go_wp2_with fail
    refine bodyPost_ret (v := .agg #[.int .i64 (3), .int .i64 (n / 11 % 3), .int .i64 (n / 33 % 4), .int .i64 (0)]) ?_ rfl ⟨rfl, ?_⟩
    · simp [results, Tryd.results37, go_sem]
    · repeat (first | exact grown_refl _ _ | refine grown_alloc ?_ | refine grown_setNew ?_ (by simp; omega))
  · have HE : Hid (insM n many = ⟨4, n / 11 % 3, n / 33 % 4, 0⟩) := by unfold Hid insM; simp [e]
    rw [HE.out]
    clear HE
    go_enter Tryd.func37, Tryd.ntmps37
    go_wp2_with fail
    refine (HPK.out _).mono ?_
    rintro e' w1 ⟨rfl, rfl⟩
    go_wp2_with fail
    refine bodyPost_ret (v := .agg #[.int .i64 (4), .int .i64 (n / 11 % 3), .int .i64 (n / 33 % 4), .int .i64 (0)]) ?_ rfl ⟨rfl, ?_⟩
    · simp [results, Tryd.results37, go_sem]
    · repeat (first | exact grown_refl _ _ | refine grown_alloc ?_ | refine grown_setNew ?_ (by simp; omega))
  · have HE : Hid (insM n many = ⟨5, n / 11 % 3, n / 33 % 4, 0⟩) := by unfold Hid insM; simp [e]
    rw [HE.out]
    clear HE
    go_enter Tryd.func37, Tryd.ntmps37
    go_wp2_with fail
    refine (HPK.out _).mono ?_
    rintro e' w1 ⟨rfl, rfl⟩
    go_wp2_with fail
    refine bodyPost_ret (v := .agg #[.int .i64 (5), .int .i64 (n / 11 % 3), .int .i64 (n / 33 % 4), .int .i64 (0)]) ?_ rfl ⟨rfl, ?_⟩
    · simp [results, Tryd.results37, go_sem]
    · repeat (first | exact grown_refl _ _ | refine grown_alloc ?_ | refine grown_setNew ?_ (by simp; omega))
  · have HE : Hid (insM n many = ⟨6, n / 11 % 3, n / 33 % 4, 0⟩) := by unfold Hid insM; simp [e]
    rw [HE.out]
    clear HE
    go_enter Tryd.func37, Tryd.ntmps37
    go_wp2_with fail
    refine (HPK.out _).mono ?_
    rintro e' w1 ⟨rfl, rfl⟩
    go_wp2_with fail
    refine bodyPost_ret (v := .agg #[.int .i64 (6), .int .i64 (n / 11 % 3), .int .i64 (n / 33 % 4), .int .i64 (0)]) ?_ rfl ⟨rfl, ?_⟩
    · simp [results, Tryd.results37, go_sem]
    · repeat (first | exact grown_refl _ _ | refine grown_alloc ?_ | refine grown_setNew ?_ (by simp; omega))
  · have HE : Hid (insM n many = ⟨7, n / 11 % 3, n / 33 % 4, 0⟩) := by unfold Hid insM; simp [e]
    rw [HE.out]
    clear HE
    go_enter Tryd.func37, Tryd.ntmps37
    go_wp2_with fail
    refine (HPK.out _).mono ?_
    rintro e' w1 ⟨rfl, rfl⟩
    go_wp2_with fail
    refine bodyPost_ret (v := .agg #[.int .i64 (7), .int .i64 (n / 11 % 3), .int .i64 (n / 33 % 4), .int .i64 (0)]) ?_ rfl ⟨rfl, ?_⟩
    · simp [results, Tryd.results37, go_sem]
    · repeat (first | exact grown_refl _ _ | refine grown_alloc ?_ | refine grown_setNew ?_ (by simp; omega))
  · have HE : Hid (insM n many = ⟨8, n / 11 % 3, 0, n / 132 % (many + 1)⟩) := by unfold Hid insM; simp [e]
    rw [HE.out]
    clear HE
    go_enter Tryd.func37, Tryd.ntmps37
    go_wp2_with fail
    refine (HPK.out _).mono ?_
    rintro e' w1 ⟨rfl, rfl⟩
    go_wp2_with fail
    refine bodyPost_ret (v := .agg #[.int .i64 (8), .int .i64 (n / 11 % 3), .int .i64 (0), .int .i64 (n / 132 % (many + 1))]) ?_ rfl ⟨rfl, ?_⟩
    · simp [results, Tryd.results37, go_sem]
    · repeat (first | exact grown_refl _ _ | refine grown_alloc ?_ | refine grown_setNew ?_ (by simp; omega))
  · have HE : Hid (insM n many = ⟨9, n / 11 % 3, 0, 0⟩) := by unfold Hid insM; simp [e]
    rw [HE.out]
    clear HE
    go_enter Tryd.func37, Tryd.ntmps37
    go_wp2_with fail
    refine (HPK.out _).mono ?_
    rintro e' w1 ⟨rfl, rfl⟩
    go_wp2_with fail
    refine bodyPost_ret (v := .agg #[.int .i64 (9), .int .i64 (n / 11 % 3), .int .i64 (0), .int .i64 (0)]) ?_ rfl ⟨rfl, ?_⟩
    · simp [results, Tryd.results37, go_sem]
    · repeat (first | exact grown_refl _ _ | refine grown_alloc ?_ | refine grown_setNew ?_ (by simp; omega))
  · have HE : Hid (insM n many = ⟨10, n / 11 % 3, 0, 0⟩) := by unfold Hid insM; simp [e]
    rw [HE.out]
    clear HE
    go_enter Tryd.func37, Tryd.ntmps37
    go_wp2_with fail
    refine (HPK.out _).mono ?_
    rintro e' w1 ⟨rfl, rfl⟩
    go_wp2_with fail
    refine bodyPost_ret (v := .agg #[.int .i64 (10), .int .i64 (n / 11 % 3), .int .i64 (0), .int .i64 (0)]) ?_ rfl ⟨rfl, ?_⟩
    · simp [results, Tryd.results37, go_sem]
    · repeat (first | exact grown_refl _ _ | refine grown_alloc ?_ | refine grown_setNew ?_ (by simp; omega))
  · by_cases hb : 0 < n / 33 % 4
    · have HE : Hid (insM n many = ⟨2, n / 11 % 3, n / 33 % 4, 0⟩) := by unfold Hid insM; simp [e, hb]
      rw [HE.out]
      clear HE
      go_enter Tryd.func37, Tryd.ntmps37
      go_wp2_with fail
      refine (HPK.out _).mono ?_
      rintro e' w1 ⟨rfl, rfl⟩
      go_wp2_with fail
      refine bodyPost_ret (v := .agg #[.int .i64 (2), .int .i64 (n / 11 % 3), .int .i64 (n / 33 % 4), .int .i64 (0)]) ?_ rfl ⟨rfl, ?_⟩
      · simp [results, Tryd.results37, go_sem]
      · repeat (first | exact grown_refl _ _ | refine grown_alloc ?_ | refine grown_setNew ?_ (by simp; omega))
    · have HE : Hid (insM n many = ⟨11, n / 11 % 3, 0, 0⟩) := by unfold Hid insM; simp [e, hb]
      have hb2 : n / 33 % 4 ≤ 0 := by omega
      rw [HE.out]
      clear HE
      go_enter Tryd.func37, Tryd.ntmps37
      go_wp2_with fail
      refine (HPK.out _).mono ?_
      rintro e' w1 ⟨rfl, rfl⟩
      go_wp2_with fail
      refine bodyPost_ret (v := .agg #[.int .i64 (11), .int .i64 (n / 11 % 3), .int .i64 (0), .int .i64 (0)]) ?_ rfl ⟨rfl, ?_⟩
      · simp [results, Tryd.results37, go_sem]
      · repeat (first | exact grown_refl _ _ | refine grown_alloc ?_ | refine grown_setNew ?_ (by simp; omega))

theorem instruction_m (c many : Int) (hc : -9223372036854775808 ≤ c) (hc2 : c ≤ 9223372036854775807) (h0 : 0 ≤ many) (h16 : many ≤ 16) (w : World) :
    Calls Tryd.prog 37 #[.int .i64 c, .int .i64 many] w fun e w' => e = .returned (.agg #[.int .i64 (insN c many).op, .int .i64 (insN c many).a, .int .i64 (insN c many).b, .int .i64 (insN c many).n]) ∧ w.grownBy w' none :=
  instruction_core c many _ (pick_m c 1099511627776 (by omega) (by omega) hc hc2) (pickN_range c 1099511627776 (by omega)).1 (pickN_range c 1099511627776 (by omega)).2 h0 h16 w

end Go.Proofs.YtklenjmfalljgaaDoor

/- The walk of program. -/
namespace Go.Proofs.YtklenjmfalljgaaDoor
open Go.RowKit
attribute [local go_sem] Go.World.cell?_alloc_some

/-- Lists of numbers in memory. -/
def RawAt (w : World) (v : Value) (l : List (List Int)) : Prop :=
  ∃ ao cap, v = .slice ao l.length cap ∧ ∀ t (ht : t < l.length), ∃ g o, ao = some ⟨g, o, none⟩ ∧ ∃ rv, w.cell? ⟨g, o + t, none⟩ = some rv ∧ IntsAt w.heap.size w rv l[t]

def codeN (r : List Int) : List Ins := (r.take 16).map fun c => insN c (min r.length 16 : Nat)
def thrN (raw : List (List Int)) (k : Nat) : List (List Ins) := (raw.take k).map codeN
def progN (raw : List (List Int)) : List (List Ins) := if (thrN raw 4).length = 0 then [[]] else thrN raw 4

theorem codeN_len (r : List Int) : (codeN r).length = min r.length 16 := by simp [codeN, Nat.min_comm]

theorem codeN_valid (r : List Int) : vCode (codeN r) = true := by
  have hl := codeN_len r
  simp only [vCode, Bool.and_eq_true, decide_eq_true_eq, List.all_eq_true]
  refine ⟨by omega, fun i hi => ?_⟩
  simp only [codeN, List.mem_map] at hi
  obtain ⟨c, _, rfl⟩ := hi
  rw [hl]
  exact insM_valid _ _ (pickN_range c 1099511627776 (by omega)).1 (by omega)

theorem progN_valid (raw : List (List Int)) : vProg (progN raw) = true := by
  unfold progN
  by_cases h : (thrN raw 4).length = 0
  · rw [if_pos h]; decide
  · rw [if_neg h]
    simp only [vProg, Bool.and_eq_true, decide_eq_true_eq, List.all_eq_true]
    refine ⟨by omega, by simp [thrN]; omega, fun c hc => ?_⟩
    simp only [thrN, List.mem_map] at hc
    obtain ⟨r, _, rfl⟩ := hc
    exact codeN_valid r

def insV (i : Ins) : List Value := [.int .i64 i.op, .int .i64 i.a, .int .i64 i.b, .int .i64 i.n]
def insCells (c : List Ins) : List Value := c.flatMap insV
theorem insCells_len (c : List Ins) : (insCells c).length = c.length * 4 := by
  induction c with
  | nil => rfl
  | cons i c ih => simp only [insCells, List.flatMap_cons, List.length_append] at *; rw [ih]; simp [insV]; omega
theorem insCells_snoc (c : List Ins) (i : Ins) : insCells (c ++ [i]) = insCells c ++ insV i := by simp [insCells]
theorem insCells_get : ∀ (c : List Ins) (k : Nat) (hk : k < c.length), (insCells c)[k * 4]? = some (.int .i64 c[k].op) ∧ (insCells c)[k * 4 + 1]? = some (.int .i64 c[k].a) ∧ (insCells c)[k * 4 + 2]? = some (.int .i64 c[k].b) ∧ (insCells c)[k * 4 + 3]? = some (.int .i64 c[k].n)
  | [], k, hk => by simp at hk
  | i :: c, 0, hk => by simp [insCells, insV]
  | i :: c, k + 1, hk => by
    have h := insCells_get c k (by simpa using hk)
    have e : insCells (i :: c) = insV i ++ insCells c := by simp [insCells]
    have e4 : ∀ j, (insCells (i :: c))[(k + 1) * 4 + j]? = (insCells c)[k * 4 + j]? := fun j => by
      rw [e, List.getElem?_append_right (by simp [insV]; omega)]
      congr 1
      simp [insV]; omega
    refine ⟨?_, ?_, ?_, ?_⟩
    · have := e4 0; simp only [Nat.add_zero] at this; rw [this]; simpa using h.1
    · rw [e4 1]; simpa using h.2.1
    · rw [e4 2]; simpa using h.2.2.1
    · rw [e4 3]; simpa using h.2.2.2

/-- A thread's code in a row of the call's own. -/
def CodeRow (L B : Nat) (w : World) (v : Value) (c : List Ins) : Prop := w.ownsRow L 28 4 v c.length (insCells c) ∧ ∀ h, v.ownBlock = some h → h < B

theorem CodeRow.codeAt {L B : Nat} {w : World} {v : Value} {c : List Ins} (h : CodeRow L B w v c) : CodeAt w v c := by
  obtain ⟨h1, _⟩ := h
  rcases h1.2 with ⟨e, e0⟩ | ⟨g, cap, cur, hv, _⟩
  · refine ⟨none, 0, by rw [e, e0], fun k hk => by omega⟩
  · refine ⟨some ⟨g, 0, none⟩, cap, hv, fun k hk => ⟨g, 0, rfl, ?_⟩⟩
    rw [hv] at h1
    have q := insCells_get c k hk
    refine ⟨?_, ?_, ?_, ?_⟩
    · rw [Nat.zero_add, h1.cellAt _ (by omega)]; exact q.1
    · rw [Nat.zero_add, h1.cellAt _ (by omega)]; exact q.2.1
    · rw [Nat.zero_add, h1.cellAt _ (by omega)]; exact q.2.2.1
    · rw [Nat.zero_add, h1.cellAt _ (by omega)]; exact q.2.2.2

theorem owns_step {w w' : World} {base : Nat} {e : TypeId} {size : Nat} {v : Value} {n : Nat} {xs : List Value} {r : Option Nat} (h : w.ownsRow base e size v n xs) (hg : w.grownBy w' r) (hr : ∀ k, r = some k → v.ownBlock ≠ some k) : w'.ownsRow base e size v n xs := by
  obtain ⟨h1, h2⟩ := h
  refine ⟨h1, ?_⟩
  rcases h2 with h2 | ⟨g, cap, cur, hv, hb, hh, rest⟩
  · exact Or.inl h2
  · have hlt : g < w.heap.size := (Array.getElem?_eq_some_iff.1 hh).1
    refine Or.inr ⟨g, cap, cur, hv, hb, ?_, rest⟩
    rw [hg.block g hlt (fun e => hr g e.symm (by rw [hv]; rfl))]; exact hh

theorem owns_types {w : World} {b1 b2 e1 e2 z1 z2 : Nat} {v1 v2 : Value} {n1 n2 : Nat} {x1 x2 : List Value} (h1 : w.ownsRow b1 e1 z1 v1 n1 x1) (h2 : w.ownsRow b2 e2 z2 v2 n2 x2) (he : e1 ≠ e2) : ∀ k, v1.ownBlock = some k → v2.ownBlock ≠ some k := by
  intro k hk hk2
  rcases h1.2 with ⟨e, _⟩ | ⟨g, _, c1, hv, _, hh, _⟩
  · rw [e] at hk; cases hk
  · rcases h2.2 with ⟨e, _⟩ | ⟨g', _, c2, hv', _, hh', _⟩
    · rw [e] at hk2; cases hk2
    · rw [hv] at hk
      rw [hv'] at hk2
      have e1 : g = k := by simpa [Value.ownBlock] using hk
      have e2 : g' = k := by simpa [Value.ownBlock] using hk2
      rw [e1] at hh
      rw [e2, hh] at hh'
      simp at hh'
      exact he hh'.2

/-- The threads so far. -/
def ThrAt (L B : Nat) (w : World) (tv : Value) (p : List (List Ins)) : Prop :=
  ∃ rows, w.ownsRow L 29 1 tv p.length rows ∧ (∀ h, tv.ownBlock = some h → h < B) ∧ ∀ j (hj : j < p.length), ∃ rv, rows[j]? = some rv ∧ CodeRow L B w rv p[j]

theorem ThrAt.step {L B : Nat} {w w' : World} {tv : Value} {p : List (List Ins)} {r : Option Nat} (h : ThrAt L B w tv p) (hg : w.grownBy w' r) (hr : ∀ q, r = some q → q < L ∨ B ≤ q) : ThrAt L B w' tv p := by
  obtain ⟨rows, h1, h2, h3⟩ := h
  refine ⟨rows, owns_step h1 hg (fun k e e2 => ?_), h2, fun j hj => ?_⟩
  · have := h2 k e2; have := owns_block h1 k e2; rcases hr k e with q | q <;> omega
  · obtain ⟨rv, e1, e2, e3⟩ := h3 j hj
    refine ⟨rv, e1, owns_step e2 hg (fun k e e4 => ?_), e3⟩
    have := e3 k e4; have := owns_block e2 k e4; rcases hr k e with q | q <;> omega
theorem ThrAt.mono {L B B' : Nat} {w : World} {tv : Value} {p : List (List Ins)} (h : ThrAt L B w tv p) (hb : B ≤ B') : ThrAt L B' w tv p := by
  obtain ⟨rows, h1, h2, h3⟩ := h
  refine ⟨rows, h1, fun q e => Nat.lt_of_lt_of_le (h2 q e) hb, fun j hj => ?_⟩
  obtain ⟨rv, e1, e2, e3⟩ := h3 j hj
  exact ⟨rv, e1, e2, fun q e => Nat.lt_of_lt_of_le (e3 q e) hb⟩

theorem ThrAt.progAt {L B : Nat} {w : World} {tv : Value} {p : List (List Ins)} (h : ThrAt L B w tv p) : ProgAt w (.agg #[tv]) p := by
  obtain ⟨rows, h1, h2, h3⟩ := h
  rcases h1.2 with ⟨e, e0⟩ | ⟨g, cap, cur, hv, _⟩
  · refine ⟨none, 0, by rw [e, e0], fun k hk => by omega⟩
  · refine ⟨some ⟨g, 0, none⟩, cap, by rw [hv], fun j hj => ⟨g, 0, rfl, ?_⟩⟩
    obtain ⟨rv, e1, e2⟩ := h3 j hj
    rw [hv] at h1
    exact ⟨rv, by rw [Nat.zero_add, h1.cellAt j (by omega)]; exact e1, e2.codeAt⟩

/-- p.Threads = append(p.Threads, l): the worlds behind the append. -/
theorem ThrAt.snoc {L B : Nat} {w w1 w2 : World} {tv tv' lv : Value} {p : List (List Ins)} {c : List Ins} {rows : List Value} (h : ThrAt L B w tv p) (ho : w.ownsRow L 29 1 tv p.length rows) (hl : CodeRow L B w lv c) (hg1 : w.grownBy w1 none)
    (hg2 : w1.grownBy w2 tv.ownBlock) (ho2 : w2.ownsRow L 29 1 tv' (p.length + 1) (rows ++ [lv])) (hB : B ≤ w2.heap.size) (ht : ∀ q, tv'.ownBlock = some q → q < w2.heap.size) : ThrAt L w2.heap.size w2 tv' (p ++ [c]) := by
  obtain ⟨rows', h1, h2, h3⟩ := h
  have hrows : rows' = rows := by
    rcases h1.2 with ⟨e, e0⟩ | ⟨g, cap, cur, hv, _, hh, _, _, _, ht1⟩
    · have a1 := h1.1; have a2 := ho.1
      rw [e0] at a1 a2
      rw [List.length_eq_zero_iff.1 (by omega : rows'.length = 0), List.length_eq_zero_iff.1 (by omega : rows.length = 0)]
    · rcases ho.2 with ⟨e, e0⟩ | ⟨g', cap', cur', hv', _, hh', _, _, _, ht2⟩
      · rw [e] at hv; cases hv
      · rw [hv] at hv'
        simp at hv'
        obtain ⟨e1, e2⟩ := hv'
        rw [← e1, hh] at hh'
        simp at hh'
        rw [← ht1, ← ht2, hh']
  subst hrows
  have hrow : ∀ {rv : Value} {c : List Ins}, CodeRow L B w rv c → CodeRow L w2.heap.size w2 rv c := fun {rv c} hc => by
    have a1 := owns_step hc.1 hg1 (fun k e => by cases e)
    have a2 := owns_step h1 hg1 (fun k e => by cases e)
    exact ⟨owns_step a1 hg2 (fun k e => owns_types a2 a1 (by decide) k e), fun q e => Nat.lt_of_lt_of_le (hc.2 q e) hB⟩
  refine ⟨rows' ++ [lv], by simpa using ho2, ht, fun j hj => ?_⟩
  have hlr : rows'.length = p.length := by have := h1.1; omega
  by_cases hlt : j < p.length
  · obtain ⟨rv, e1, e2⟩ := h3 j hlt
    exact ⟨rv, by rw [List.getElem?_append_left (by omega)]; exact e1, by rw [List.getElem_append_left hlt]; exact hrow e2⟩
  · have ej : j = p.length := by simp at hj; omega
    subst ej
    exact ⟨lv, by rw [List.getElem?_append_right (by omega)]; simp [hlr], by simpa using hrow hl⟩

theorem info_ins : ((Tryd.prog.info? 28).map fun i => (i.zero, i.size, i.bytes)) = some (some (.agg #[.int .i64 0, .int .i64 0, .int .i64 0, .int .i64 0]), 4, 32) := by kernel_rfl
theorem info_code : ((Tryd.prog.info? 29).map fun i => (i.zero, i.size, i.bytes)) = some (some (.slice none 0 0), 1, 24) := by kernel_rfl

end Go.Proofs.YtklenjmfalljgaaDoor

/- The walk of program. -/
namespace Go.Proofs.YtklenjmfalljgaaDoor
open Go.RowKit
attribute [local go_sem] Go.World.cell?_alloc_some

def isInt (c : Int) : Prop := -9223372036854775808 ≤ c ∧ c ≤ 9223372036854775807

/-- In the midst of program. -/
def ProgOut (w : World) (raw : List (List Int)) (t : Nat) (w' : World) : Prop :=
  ∃ tv, w'.heap[w.heap.size + 1]? = some (.cells #[tv] 25 (0, 0)) ∧ ThrAt (w.heap.size + 2) w'.heap.size w' tv (thrN raw t) ∧ w.grownBy w' none ∧ w'.heap[w.heap.size]? = some (.cells #[.slice none 0 0] 25 (0, 0)) ∧ w.heap.size + 2 ≤ w'.heap.size

def ProgIn (w : World) (raw : List (List Int)) (t Bt k : Nat) (c : List Ins) (lv : Value) (w' : World) : Prop :=
  ∃ tv, w'.heap[w.heap.size + 1]? = some (.cells #[tv] 25 (0, 0)) ∧ ThrAt (w.heap.size + 2) Bt w' tv (thrN raw t) ∧ w'.ownsRow Bt 28 4 lv k (insCells (c.take k)) ∧ w.grownBy w' none ∧ w'.heap[w.heap.size]? = some (.cells #[.slice none 0 0] 25 (0, 0)) ∧ w.heap.size + 2 ≤ Bt ∧ Bt ≤ w'.heap.size

theorem owns_lt {w : World} {base e size : Nat} {v : Value} {n : Nat} {xs : List Value} (h : w.ownsRow base e size v n xs) : ∀ q, v.ownBlock = some q → q < w.heap.size := fun q eq => by
  rcases h.2 with ⟨e1, _⟩ | ⟨g', _, _, hv, _, hh, _⟩
  · rw [e1] at eq; cases eq
  · rw [hv] at eq
    have := (Array.getElem?_eq_some_iff.1 hh).1
    simp [Value.ownBlock] at eq
    omega

theorem thrN_succ (raw : List (List Int)) (t : Nat) (ht : t < raw.length) : thrN raw (t + 1) = thrN raw t ++ [codeN raw[t]] := by
  unfold thrN
  rw [List.take_succ_eq_append_getElem ht, List.map_append]; rfl
theorem thrN_len (raw : List (List Int)) (t : Nat) (ht : t ≤ raw.length) : (thrN raw t).length = t := by simp [thrN]; omega

theorem heap_alloc_new2 (w : World) (a b : Obj) : ((w.alloc a).alloc b).heap[w.heap.size + 1]? = some b := by
  have := heap_alloc_new (w.alloc a) b
  simpa using this

theorem insV_one (i : Ins) : ∀ v ∈ insV i, v.oneCell' = true := by
  intro v hv; simp only [insV, List.mem_cons, List.not_mem_nil, or_false] at hv
  rcases hv with rfl | rfl | rfl | rfl <;> rfl

set_option maxHeartbeats 8000000 in
set_option maxRecDepth 100000 in
theorem program_t (raw : List (List Int)) (rv : Value) (w : World) (hR : RawAt w rv raw) (hb : ∀ t (ht : t < raw.length) k (hk : k < raw[t].length), isInt raw[t][k]) :
    Calls Tryd.prog 15 #[rv] w fun e w' => ∃ tv, e = .returned (.agg #[tv]) ∧ ThrAt (w.heap.size + 2) w'.heap.size w' tv (progN raw) ∧ w.grownBy w' none := by
  obtain ⟨i0, hi0, hz0, hz1, hz2⟩ := info_parts info_ins
  obtain ⟨i1, hi1, hy0, hy1, hy2⟩ := info_parts info_code
  obtain ⟨ao, cap, rfl, hR⟩ := hR
  have HR := hide hR
  have HBd := hide hb
  clear hR hb
  go_enter Tryd.func15, Tryd.ntmps15
  go_wp2_with fail
  go_loopw [4] (fun i w' => ∃ t : Nat, t ≤ raw.length ∧ t ≤ 4 ∧ i = .int .i64 t ∧ Hid (ProgOut w raw t w')) (fun i _ => raw.length - (intOf i).toNat)
  case atStart =>
    refine ⟨0, Nat.zero_le _, by omega, rfl, .slice none 0 0, ?_, ⟨[], ⟨rfl, Or.inl ⟨rfl, rfl⟩⟩, fun h e => (by cases e), fun j hj => (by simp [thrN] at hj)⟩, grown_alloc (grown_alloc (grown_refl _ _)), ?_, by simp⟩
    · have := heap_alloc_new (w.alloc (.cells #[.slice none 0 0] 25)) (.cells #[.slice none 0 0] 25)
      simpa using this
    · rw [Below.heap_alloc _ _ _ (by simp)]; exact heap_alloc_new w _
  case round =>
    obtain ⟨t, ht, ht4, rfl, HO⟩ := hrel
    obtain ⟨w3, hw3⟩ : ∃ w3, w3 = wr := ⟨_, rfl⟩
    subst hw3
    by_cases hgo : t < raw.length ∧ t < 4
    · obtain ⟨hlt, hlt4⟩ := hgo
      obtain ⟨pg, po, rfl, r1, hr1, hr2⟩ := HR.out t hlt
      obtain ⟨ra, rc, rfl, _, hr3⟩ := hr2
      have hpr : Pres w w3 := by obtain ⟨tv, _, _, hg, _⟩ := HO.out; exact pres_grown hg
      have hr1' := hpr _ _ hr1
      have HBt := hide (HBd.out t hlt)
      have HR3 := hide hr3
      have HCN : Hid (thrN raw (t + 1) = thrN raw t ++ [codeN raw[t]]) := thrN_succ raw t hlt
      clear hpr hr3
      have q0 : (0 : Int) ≤ (t : Int) := by omega
      have q1 : (t : Int) < raw.length := by omega
      have q2 : (t : Int) < 4 := by omega
      generalize raw[t] = r at *
      by_cases h16 : 16 < r.length
      · have g16 : (16 : Int) < r.length := by omega
        have hCl : (codeN r).length = 16 := by rw [codeN_len]; omega
        have HCl := hide hCl
        have hML : 16 ≤ 16 := by omega
        have hMr : 16 ≤ r.length := by omega
        clear hCl
        go_wp2_with fail
        go_loopw [5, 7] (fun lv i w' => ∃ k : Nat, k ≤ 16 ∧ i = .int .i64 k ∧ Hid (ProgIn w raw t w3.heap.size k (codeN r) lv w')) (fun _ i _ => 16 - (intOf i).toNat)
        case atStart =>
          obtain ⟨tv, o1, o2, o3, o4, o5⟩ := HO.out
          exact ⟨0, Nat.zero_le _, rfl, tv, o1, o2, ⟨rfl, Or.inl ⟨rfl, rfl⟩⟩, o3, o4, o5, Nat.le_refl _⟩
        case round =>
          obtain ⟨k, hk, rfl, HJ⟩ := hrel
          obtain ⟨w4, hw4⟩ : ∃ w4, w4 = wr := ⟨_, rfl⟩
          subst hw4
          by_cases hkl : k < 16
          · have hg4 : w.grownBy w4 none := by obtain ⟨tv, _, _, _, hg, _⟩ := HJ.out; exact hg
            have hkr : k < r.length := by omega
            obtain ⟨ig, io, rfl, _, hic⟩ := HR3.out k hkr
            have hic' := pres_grown hg4 _ _ hic
            have hr1'' : w4.cell? ⟨pg, po + t, none⟩ = some (.slice (some ⟨ig, io, none⟩) r.length rc) := pres_grown hg4 _ _ hr1
            have hbd := HBt.out k hkr
            have q3 : (0 : Int) ≤ (k : Int) := by omega
            have q4 : (k : Int) < r.length := by omega
            have q5 : (k : Int) < 16 := by omega
            have HCk : Hid ((codeN r)[k]? = some (insN r[k] ((16 : Nat) : Int))) := by
              unfold Hid codeN
              have e : min r.length 16 = 16 := by omega
              rw [e]
              simp [List.getElem?_take, hkr]
              omega
            clear hic
            generalize r[k] = c at *
            go_wp2_with fail
            refine (instruction_m c _ hbd.1 hbd.2 (by omega) (by omega) _).mono ?_
            rintro e w5 ⟨rfl, hg5⟩
            have HG5 := hide hg5
            have hsz5 := hg5.size
            clear hg5 hic' hr1''
            generalize hins : insN c (16) = i at *
            clear hins
            have h63 : k + 1 ≤ maxLen := by unfold maxLen; omega
            obtain ⟨tv, j1, j2, j3, j4, j5, j6, j7⟩ := HJ.out
            go_wp2_with (at_builtin; refine wpList_append_lies _ rfl _ _ _ rfl w3.heap.size 28 i0 _ 4 32 Tryd.underlying29 hi0 hz0 hz1 hz2 rfl (by omega) u5 k (insCells ((codeN r).take k)) rfl (owns_grown j3 (grown_alloc (grown_alloc HG5.out)) (fun _ e => by cases e)) ⟨w5.heap.size + 1, 0, none⟩ 1 1 (insV i) rfl rfl (World.news_of_block (cs := #[.int .i64 i.op, .int .i64 i.a, .int .i64 i.b, .int .i64 i.n]) (t := 28) (fr := (0, 0)) (heap_alloc_new2 w5 _ _)) (insV_one i) (by omega) h63 (by omega) (by simp; omega) (w5.heap.size + 2) (by simp) ?_; intro g6 cap6 w6 hown6 hgrow hat hlt6)
            have HNX : Hid (ProgIn w raw t w3.heap.size (k + 1) (codeN r) (.slice (some ⟨g6, 0, none⟩) (k + 1) cap6) w6) := by
              have hob := owns_block j3
              have hgw : w4.grownBy ((w5.alloc (.cells #[.int .i64 i.op, .int .i64 i.a, .int .i64 i.b, .int .i64 i.n] 28)).alloc (.cells #[.int .i64 i.op, .int .i64 i.a, .int .i64 i.b, .int .i64 i.n] 28)) none := grown_alloc (grown_alloc HG5.out)
              have hsz6 := hgrow.size
              simp only [World.size_alloc] at hsz6
              have hfar : ∀ q, q < w3.heap.size → w6.heap[q]? = w4.heap[q]? := fun q hq => by
                rw [hgrow.block q (by simp; omega) (fun e => by have := hob q e.symm; omega), hgw.block q (by omega) (by simp)]
              have hkc : k < (codeN r).length := by rw [HCl.out]; omega
              refine ⟨tv, by rw [hfar _ (by omega)]; exact j1, (j2.step hgw (fun q e => by cases e)).step hgrow (fun q e => Or.inr (hob q e)), ?_, grown_row (grown_trans j4 hgw) hgrow (fun q e => by have := hob q e; have := j4.size; omega), by rw [hfar _ (by omega)]; exact j5, j6, by omega⟩
              rw [List.take_succ_eq_append_getElem hkc, insCells_snoc]
              have e1 : (codeN r)[k] = i := by
                have := HCk.out
                rw [List.getElem?_eq_getElem hkc] at this
                simpa using this
              rw [e1]; exact hown6
            clear j1 j2 j3 j4 j5 j6 j7 hgrow hown6 hat
            go_wp2
            go_roundw
            case rel => exact ⟨k + 1, by omega, by go_num, HNX⟩
            case measure => simp [intOf]; omega
          · have hke : k = 16 := by omega
            have q5 : (16 : Int) ≤ (k : Int) := by omega
            obtain ⟨tv, j1, j2, j3, j4, j5, j6, j7⟩ := HJ.out
            have HJ3 : Hid (CodeRow (w.heap.size + 2) w4.heap.size w4 u5 (codeN r)) := by
              refine ⟨?_, owns_lt j3⟩
              rw [List.take_of_length_le (by rw [HCl.out]; omega)] at j3
              rw [HCl.out, ← hke]
              exact owns_mono j3 (by omega)
            obtain ⟨rows, p1, p2, p3⟩ := j2
            have hTl : (thrN raw t).length = t := thrN_len raw t ht
            rw [hTl] at p1
            have P1 := hide p1
            have J2 : Hid (ThrAt (w.heap.size + 2) w3.heap.size w4 tv (thrN raw t)) := ⟨rows, by rw [hTl]; exact p1, p2, p3⟩
            obtain ⟨tva, tvn, tvc, rfl⟩ := owns_form p1
            have c1 : w4.cell? ⟨w.heap.size + 1, 0, none⟩ = some (.slice tva tvn tvc) := by simp [World.cell?, j1]
            have c1f : w4.frozen? ⟨w.heap.size + 1, 0, none⟩ = false := by simp [World.frozen?, j1]
            obtain ⟨la, ln, lc, rfl⟩ := owns_form HJ3.out.1
            have h63 : t + 1 ≤ maxLen := by unfold maxLen; omega
            have J1 := hide j1
            have J5 := hide j5
            have J4 := hide j4
            clear p1 p2 p3 j1 j5 j4 hke j3
            go_wp2_with (at_builtin; refine wpList_append_lies _ rfl _ _ _ rfl (w.heap.size + 2) 29 i1 _ 1 24 Tryd.underlying23 hi1 hy0 hy1 hy2 rfl (by omega) (.slice tva tvn tvc) t rows rfl (owns_alloc P1.out) ⟨w4.heap.size, 0, none⟩ 1 1 [.slice la ln lc] rfl rfl (World.news_of_block (cs := #[.slice la ln lc]) (t := 29) (fr := (0, 0)) (heap_alloc_new w4 _)) (by simp [Value.oneCell']) (by omega) h63 (by omega) (by simp; omega) (w4.heap.size + 1) (by simp) ?_; intro g6 cap6 w6 hown6 hgrow hat hlt6; have c6 : w6.cell? ⟨w.heap.size + 1, 0, none⟩ = some (.slice tva tvn tvc) := (by rw [hgrow.cell_far _ (by simp; omega) (fun e => by have := owns_block P1.out _ e.symm; simp at this), World.cell?_alloc_lt _ _ _ (by simp; omega)]; exact c1); have c6f : w6.frozen? ⟨w.heap.size + 1, 0, none⟩ = false := (by rw [hgrow.frozen_far _ (by simp; omega) (fun e => by have := owns_block P1.out _ e.symm; simp at this), World.frozen?_alloc_old _ _ _ (by simp; omega)]; exact c1f))
            have HNX : Hid (ProgOut w raw (t + 1) (w6.setCell ⟨w.heap.size + 1, 0, none⟩ (.slice (some ⟨g6, 0, none⟩) (t + 1) cap6))) := by
              have hob := owns_block P1.out
              have hsz6 := hgrow.size
              simp only [World.size_alloc] at hsz6
              have hfar : ∀ q, q < w.heap.size + 2 → w6.heap[q]? = w4.heap[q]? := fun q hq => by
                rw [hgrow.block q (by simp; omega) (fun e => by have := hob q e.symm; omega), Below.heap_alloc _ _ _ (by omega)]
              have hsn := ThrAt.snoc (J2.out.mono (by omega : w3.heap.size ≤ w4.heap.size)) (rows := rows) (by rw [hTl]; exact P1.out) HJ3.out (grown_alloc (grown_refl _ _)) hgrow (tv' := .slice (some ⟨g6, 0, none⟩) (t + 1) cap6) (by rw [hTl]; exact hown6) (by omega) (owns_lt hown6)
              refine ⟨.slice (some ⟨g6, 0, none⟩) (t + 1) cap6, ?_, ?_, ?_, ?_, by simp; omega⟩
              · have := heap_setCell_same w6 (w.heap.size + 1) 0 _ _ (.slice (some ⟨g6, 0, none⟩) (t + 1) cap6) (by rw [hfar _ (by omega)]; exact J1.out)
                simpa using this
              · rw [HCN.out, World.size_setCell]
                exact hsn.step grown_set (fun q e => by cases e; exact Or.inl (by omega))
              · exact grown_setNew (grown_row (grown_alloc J4.out) hgrow (fun q e => by have := hob q e; omega)) (by omega)
              · rw [Below.heap_setCell _ _ _ _ (by simp), hfar _ (by omega)]; exact J5.out
            clear hgrow hown6 hat
            go_wp2
            go_roundw
            case rel => exact ⟨t + 1, by omega, by omega, by go_num, HNX⟩
            case measure => simp [intOf]; omega
      · have g16 : (r.length : Int) ≤ 16 := by omega
        have hCl : (codeN r).length = r.length := by rw [codeN_len]; omega
        have HCl := hide hCl
        have hML : r.length ≤ 16 := by omega
        have hMr : r.length ≤ r.length := by omega
        clear hCl
        go_wp2_with fail
        go_loopw [5, 7] (fun lv i w' => ∃ k : Nat, k ≤ r.length ∧ i = .int .i64 k ∧ Hid (ProgIn w raw t w3.heap.size k (codeN r) lv w')) (fun _ i _ => r.length - (intOf i).toNat)
        case atStart =>
          obtain ⟨tv, o1, o2, o3, o4, o5⟩ := HO.out
          exact ⟨0, Nat.zero_le _, rfl, tv, o1, o2, ⟨rfl, Or.inl ⟨rfl, rfl⟩⟩, o3, o4, o5, Nat.le_refl _⟩
        case round =>
          obtain ⟨k, hk, rfl, HJ⟩ := hrel
          obtain ⟨w4, hw4⟩ : ∃ w4, w4 = wr := ⟨_, rfl⟩
          subst hw4
          by_cases hkl : k < r.length
          · have hg4 : w.grownBy w4 none := by obtain ⟨tv, _, _, _, hg, _⟩ := HJ.out; exact hg
            have hkr : k < r.length := by omega
            obtain ⟨ig, io, rfl, _, hic⟩ := HR3.out k hkr
            have hic' := pres_grown hg4 _ _ hic
            have hr1'' : w4.cell? ⟨pg, po + t, none⟩ = some (.slice (some ⟨ig, io, none⟩) r.length rc) := pres_grown hg4 _ _ hr1
            have hbd := HBt.out k hkr
            have q3 : (0 : Int) ≤ (k : Int) := by omega
            have q4 : (k : Int) < r.length := by omega
            have q5 : (k : Int) < (r.length : Int) := by omega
            have HCk : Hid ((codeN r)[k]? = some (insN r[k] ((r.length : Nat) : Int))) := by
              unfold Hid codeN
              have e : min r.length 16 = r.length := by omega
              rw [e]
              simp [List.getElem?_take, hkr]
              omega
            clear hic
            generalize r[k] = c at *
            go_wp2_with fail
            refine (instruction_m c _ hbd.1 hbd.2 (by omega) (by omega) _).mono ?_
            rintro e w5 ⟨rfl, hg5⟩
            have HG5 := hide hg5
            have hsz5 := hg5.size
            clear hg5 hic' hr1''
            generalize hins : insN c ((r.length : Int)) = i at *
            clear hins
            have h63 : k + 1 ≤ maxLen := by unfold maxLen; omega
            obtain ⟨tv, j1, j2, j3, j4, j5, j6, j7⟩ := HJ.out
            go_wp2_with (at_builtin; refine wpList_append_lies _ rfl _ _ _ rfl w3.heap.size 28 i0 _ 4 32 Tryd.underlying29 hi0 hz0 hz1 hz2 rfl (by omega) u5 k (insCells ((codeN r).take k)) rfl (owns_grown j3 (grown_alloc (grown_alloc HG5.out)) (fun _ e => by cases e)) ⟨w5.heap.size + 1, 0, none⟩ 1 1 (insV i) rfl rfl (World.news_of_block (cs := #[.int .i64 i.op, .int .i64 i.a, .int .i64 i.b, .int .i64 i.n]) (t := 28) (fr := (0, 0)) (heap_alloc_new2 w5 _ _)) (insV_one i) (by omega) h63 (by omega) (by simp; omega) (w5.heap.size + 2) (by simp) ?_; intro g6 cap6 w6 hown6 hgrow hat hlt6)
            have HNX : Hid (ProgIn w raw t w3.heap.size (k + 1) (codeN r) (.slice (some ⟨g6, 0, none⟩) (k + 1) cap6) w6) := by
              have hob := owns_block j3
              have hgw : w4.grownBy ((w5.alloc (.cells #[.int .i64 i.op, .int .i64 i.a, .int .i64 i.b, .int .i64 i.n] 28)).alloc (.cells #[.int .i64 i.op, .int .i64 i.a, .int .i64 i.b, .int .i64 i.n] 28)) none := grown_alloc (grown_alloc HG5.out)
              have hsz6 := hgrow.size
              simp only [World.size_alloc] at hsz6
              have hfar : ∀ q, q < w3.heap.size → w6.heap[q]? = w4.heap[q]? := fun q hq => by
                rw [hgrow.block q (by simp; omega) (fun e => by have := hob q e.symm; omega), hgw.block q (by omega) (by simp)]
              have hkc : k < (codeN r).length := by rw [HCl.out]; omega
              refine ⟨tv, by rw [hfar _ (by omega)]; exact j1, (j2.step hgw (fun q e => by cases e)).step hgrow (fun q e => Or.inr (hob q e)), ?_, grown_row (grown_trans j4 hgw) hgrow (fun q e => by have := hob q e; have := j4.size; omega), by rw [hfar _ (by omega)]; exact j5, j6, by omega⟩
              rw [List.take_succ_eq_append_getElem hkc, insCells_snoc]
              have e1 : (codeN r)[k] = i := by
                have := HCk.out
                rw [List.getElem?_eq_getElem hkc] at this
                simpa using this
              rw [e1]; exact hown6
            clear j1 j2 j3 j4 j5 j6 j7 hgrow hown6 hat
            go_wp2
            go_roundw
            case rel => exact ⟨k + 1, by omega, by go_num, HNX⟩
            case measure => simp [intOf]; omega
          · have hke : k = r.length := by omega
            have q5 : ((r.length : Int) : Int) ≤ (k : Int) := by omega
            obtain ⟨tv, j1, j2, j3, j4, j5, j6, j7⟩ := HJ.out
            have HJ3 : Hid (CodeRow (w.heap.size + 2) w4.heap.size w4 u5 (codeN r)) := by
              refine ⟨?_, owns_lt j3⟩
              rw [List.take_of_length_le (by rw [HCl.out]; omega)] at j3
              rw [HCl.out, ← hke]
              exact owns_mono j3 (by omega)
            obtain ⟨rows, p1, p2, p3⟩ := j2
            have hTl : (thrN raw t).length = t := thrN_len raw t ht
            rw [hTl] at p1
            have P1 := hide p1
            have J2 : Hid (ThrAt (w.heap.size + 2) w3.heap.size w4 tv (thrN raw t)) := ⟨rows, by rw [hTl]; exact p1, p2, p3⟩
            obtain ⟨tva, tvn, tvc, rfl⟩ := owns_form p1
            have c1 : w4.cell? ⟨w.heap.size + 1, 0, none⟩ = some (.slice tva tvn tvc) := by simp [World.cell?, j1]
            have c1f : w4.frozen? ⟨w.heap.size + 1, 0, none⟩ = false := by simp [World.frozen?, j1]
            obtain ⟨la, ln, lc, rfl⟩ := owns_form HJ3.out.1
            have h63 : t + 1 ≤ maxLen := by unfold maxLen; omega
            have J1 := hide j1
            have J5 := hide j5
            have J4 := hide j4
            clear p1 p2 p3 j1 j5 j4 hke j3
            go_wp2_with (at_builtin; refine wpList_append_lies _ rfl _ _ _ rfl (w.heap.size + 2) 29 i1 _ 1 24 Tryd.underlying23 hi1 hy0 hy1 hy2 rfl (by omega) (.slice tva tvn tvc) t rows rfl (owns_alloc P1.out) ⟨w4.heap.size, 0, none⟩ 1 1 [.slice la ln lc] rfl rfl (World.news_of_block (cs := #[.slice la ln lc]) (t := 29) (fr := (0, 0)) (heap_alloc_new w4 _)) (by simp [Value.oneCell']) (by omega) h63 (by omega) (by simp; omega) (w4.heap.size + 1) (by simp) ?_; intro g6 cap6 w6 hown6 hgrow hat hlt6; have c6 : w6.cell? ⟨w.heap.size + 1, 0, none⟩ = some (.slice tva tvn tvc) := (by rw [hgrow.cell_far _ (by simp; omega) (fun e => by have := owns_block P1.out _ e.symm; simp at this), World.cell?_alloc_lt _ _ _ (by simp; omega)]; exact c1); have c6f : w6.frozen? ⟨w.heap.size + 1, 0, none⟩ = false := (by rw [hgrow.frozen_far _ (by simp; omega) (fun e => by have := owns_block P1.out _ e.symm; simp at this), World.frozen?_alloc_old _ _ _ (by simp; omega)]; exact c1f))
            have HNX : Hid (ProgOut w raw (t + 1) (w6.setCell ⟨w.heap.size + 1, 0, none⟩ (.slice (some ⟨g6, 0, none⟩) (t + 1) cap6))) := by
              have hob := owns_block P1.out
              have hsz6 := hgrow.size
              simp only [World.size_alloc] at hsz6
              have hfar : ∀ q, q < w.heap.size + 2 → w6.heap[q]? = w4.heap[q]? := fun q hq => by
                rw [hgrow.block q (by simp; omega) (fun e => by have := hob q e.symm; omega), Below.heap_alloc _ _ _ (by omega)]
              have hsn := ThrAt.snoc (J2.out.mono (by omega : w3.heap.size ≤ w4.heap.size)) (rows := rows) (by rw [hTl]; exact P1.out) HJ3.out (grown_alloc (grown_refl _ _)) hgrow (tv' := .slice (some ⟨g6, 0, none⟩) (t + 1) cap6) (by rw [hTl]; exact hown6) (by omega) (owns_lt hown6)
              refine ⟨.slice (some ⟨g6, 0, none⟩) (t + 1) cap6, ?_, ?_, ?_, ?_, by simp; omega⟩
              · have := heap_setCell_same w6 (w.heap.size + 1) 0 _ _ (.slice (some ⟨g6, 0, none⟩) (t + 1) cap6) (by rw [hfar _ (by omega)]; exact J1.out)
                simpa using this
              · rw [HCN.out, World.size_setCell]
                exact hsn.step grown_set (fun q e => by cases e; exact Or.inl (by omega))
              · exact grown_setNew (grown_row (grown_alloc J4.out) hgrow (fun q e => by have := hob q e; omega)) (by omega)
              · rw [Below.heap_setCell _ _ _ _ (by simp), hfar _ (by omega)]; exact J5.out
            clear hgrow hown6 hat
            go_wp2
            go_roundw
            case rel => exact ⟨t + 1, by omega, by omega, by go_num, HNX⟩
            case measure => simp [intOf]; omega
    · obtain ⟨tv, j1, j2, j4, j5, j6⟩ := HO.out
      have hTe : thrN raw t = thrN raw 4 := by
        unfold thrN
        by_cases h4 : t = 4
        · rw [h4]
        · rw [List.take_of_length_le (by omega), List.take_of_length_le (by omega)]
      have hTl : (thrN raw t).length = t := thrN_len raw t ht
      have HT : Hid (ThrAt (w.heap.size + 2) w3.heap.size w3 tv (thrN raw 4)) := by rw [← hTe]; exact j2
      obtain ⟨rows, p1, p2, p3⟩ := j2
      rw [hTl] at p1
      have P1 := hide p1
      obtain ⟨tva, tvn, tvc, rfl⟩ := owns_form p1
      have hn := owns_lenq p1
      subst hn
      have c1 : w3.cell? ⟨w.heap.size + 1, 0, none⟩ = some (.slice tva tvn tvc) := by simp [World.cell?, j1]
      have c1f : w3.frozen? ⟨w.heap.size + 1, 0, none⟩ = false := by simp [World.frozen?, j1]
      have c2 : w3.cell? ⟨w.heap.size, 0, none⟩ = some (.slice none 0 0) := by simp [World.cell?, j5]
      have c2f : w3.frozen? ⟨w.heap.size, 0, none⟩ = false := by simp [World.frozen?, j5]
      have J1 := hide j1
      have J4 := hide j4
      have J5 := hide j5
      have HTe := hide hTe
      have HTl := hide hTl
      have HNG := hide hgo
      clear p1 p2 p3 j1 j4 j5 hgo hTe hTl
      have q0 : (0 : Int) ≤ (tvn : Int) := by omega
      by_cases h0 : tvn = 0
      · have hr0 : raw.length = 0 := by
          by_cases e : raw.length = 0
          · exact e
          · exact absurd ⟨by omega, by omega⟩ HNG.out
        subst h0
        have hrr : (raw.length : Int) ≤ 0 := by omega
        have HPN : Hid (progN raw = thrN raw 4 ++ [[]]) := by
          unfold Hid progN
          have e : (thrN raw 4).length = 0 := by rw [← HTe.out]; exact HTl.out
          rw [if_pos e, List.length_eq_zero_iff.1 e]; rfl
        go_wp2_with (at_builtin; refine wpList_append_lies _ rfl _ _ _ rfl (w.heap.size + 2) 29 i1 _ 1 24 Tryd.underlying23 hi1 hy0 hy1 hy2 rfl (by omega) (.slice tva 0 tvc) 0 rows rfl (owns_alloc P1.out) ⟨w3.heap.size, 0, none⟩ 1 1 [.slice none 0 0] rfl rfl (World.news_of_block (cs := #[.slice none 0 0]) (t := 29) (fr := (0, 0)) (heap_alloc_new w3 _)) (by simp [Value.oneCell']) (by omega) (by unfold maxLen; omega) (by omega) (by simp; omega) (w3.heap.size + 1) (by simp) ?_; intro g6 cap6 w6 hown6 hgrow hat hlt6; have c6 : w6.cell? ⟨w.heap.size + 1, 0, none⟩ = some (.slice tva 0 tvc) := (by rw [hgrow.cell_far _ (by simp; omega) (fun e => by have := owns_block P1.out _ e.symm; simp at this), World.cell?_alloc_lt _ _ _ (by simp; omega)]; exact c1); have c6f : w6.frozen? ⟨w.heap.size + 1, 0, none⟩ = false := (by rw [hgrow.frozen_far _ (by simp; omega) (fun e => by have := owns_block P1.out _ e.symm; simp at this), World.frozen?_alloc_old _ _ _ (by simp; omega)]; exact c1f); have c7 : w6.cell? ⟨w.heap.size, 0, none⟩ = some (.slice none 0 0) := (by rw [hgrow.cell_far _ (by simp; omega) (fun e => by have := owns_block P1.out _ e.symm; simp at this; omega), World.cell?_alloc_lt _ _ _ (by simp; omega)]; exact c2); have c7f : w6.frozen? ⟨w.heap.size, 0, none⟩ = false := (by rw [hgrow.frozen_far _ (by simp; omega) (fun e => by have := owns_block P1.out _ e.symm; simp at this; omega), World.frozen?_alloc_old _ _ _ (by simp; omega)]; exact c2f))
        have hob := owns_block P1.out
        have hsz6 := hgrow.size
        simp only [World.size_alloc] at hsz6
        have hsn := ThrAt.snoc HT.out (rows := rows) (lv := .slice none 0 0) (c := []) (by rw [← HTe.out, HTl.out]; exact P1.out) ⟨⟨rfl, Or.inl ⟨rfl, rfl⟩⟩, fun h e => by cases e⟩ (grown_alloc (grown_refl _ _)) hgrow (tv' := .slice (some ⟨g6, 0, none⟩) (0 + 1) cap6) (by rw [← HTe.out, HTl.out]; exact hown6) (by omega) (owns_lt hown6)
        rw [← HPN.out] at hsn
        refine bodyPost_ret (v := .agg #[.slice (some ⟨g6, 0, none⟩) (0 + 1) cap6]) ?_ rfl ⟨_, rfl, ?_, ?_⟩
        · simp [results, Tryd.results15, go_sem, c7]
        · exact ((hsn.step grown_set (fun q e => by cases e; exact Or.inl (by omega))).step grown_set (fun q e => by cases e; exact Or.inl (by omega))).mono (by simp)
        · exact grown_setNew (grown_setNew (grown_row (grown_alloc J4.out) hgrow (fun q e => by have := hob q e; omega)) (by omega)) (by omega)
      · have HPN : Hid (progN raw = thrN raw 4) := by
          unfold Hid progN
          have e : (thrN raw 4).length ≠ 0 := by rw [← HTe.out, HTl.out]; exact h0
          rw [if_neg e]
        have hne : ((tvn : Int) == 0) = false := by simpa using h0
        by_cases hlt : tvn < raw.length
        · have g1 : (tvn : Int) < raw.length := by omega
          have g2 : (4 : Int) ≤ tvn := by
            by_cases e : tvn < 4
            · exact absurd ⟨hlt, e⟩ HNG.out
            · omega
          go_wp2_with fail
          rw [HPN.out]
          refine bodyPost_ret (v := .agg #[.slice tva tvn tvc]) ?_ rfl ⟨_, rfl, ?_, ?_⟩
          · simp [results, Tryd.results15, go_sem, c2]
          · exact (HT.out.step grown_set (fun q e => by cases e; exact Or.inl (by omega))).mono (by simp)
          · exact grown_setNew J4.out (by omega)
        · have g1 : (raw.length : Int) ≤ tvn := by omega
          go_wp2_with fail
          rw [HPN.out]
          refine bodyPost_ret (v := .agg #[.slice tva tvn tvc]) ?_ rfl ⟨_, rfl, ?_, ?_⟩
          · simp [results, Tryd.results15, go_sem, c2]
          · exact (HT.out.step grown_set (fun q e => by cases e; exact Or.inl (by omega))).mono (by simp)
          · exact grown_setNew J4.out (by omega)

theorem program_m (raw : List (List Int)) (rv : Value) (w : World) (hR : RawAt w rv raw) (hb : ∀ t (ht : t < raw.length) k (hk : k < raw[t].length), isInt raw[t][k]) :
    Calls Tryd.prog 15 #[rv] w fun e w' => ∃ tv, e = .returned (.agg #[tv]) ∧ ProgAt w' (.agg #[tv]) (progN raw) ∧ w.grownBy w' none :=
  (program_t raw rv w hR hb).mono fun _ _ ⟨tv, h1, h2, h3⟩ => ⟨tv, h1, h2.progAt, h3⟩

end Go.Proofs.YtklenjmfalljgaaDoor

/- On beginnings of runs. -/
namespace Go.Proofs.YtklenjmfalljgaaDoor

theorem follow_fst (p : List (List Ins)) : ∀ (l : List Int) (i : Int) (s : St) (acc : List (Int × Int)), ∃ m, m ≤ l.length ∧ (follow p l i s acc).steps.map (·.1) = acc.map (·.1) ++ l.take m ∧ acc.length + m = (follow p l i s acc).steps.length ∧ ∃ more, (follow p l i s acc).steps = acc ++ more
  | [], i, s, acc => ⟨0, Nat.le_refl _, by simp [follow_nil], by simp [follow_nil], [], by simp [follow_nil]⟩
  | t :: r, i, s, acc => by
    by_cases h1 : okAt p s t = true
    · by_cases h2 : (stepS p s t.toNat).1 = true
      · rw [follow_go p t r i s acc h1 h2]
        obtain ⟨m, q1, q2, q3, more, q4⟩ := follow_fst p r (i + 1) (stepS p s t.toNat).2 (acc ++ [(t, s.next t.toNat)])
        refine ⟨m + 1, by simp; omega, by rw [q2]; simp, by rw [← q3]; simp; omega, (t, s.next t.toNat) :: more, by rw [q4]; simp⟩
      · have h3 : (stepS p s t.toNat).1 = false := by simpa using h2
        rw [follow_fail p t r i s acc h1 h3]
        exact ⟨1, by simp, by simp, by simp, _, rfl⟩
    · have h3 : okAt p s t = false := by simpa using h1
      rw [follow_wrong p t r i s acc h3]
      exact ⟨0, by simp, by simp, by simp, [], by simp⟩

theorem sched_fst {p : List (List Ins)} {a : List Int} (h : Sched p a) : (runS p a).steps.map (·.1) = a := by
  obtain ⟨m, q1, q2, q3, _⟩ := follow_fst p a 0 St.zero []
  have h2 := h.2
  unfold runS at *
  simp at q2 q3
  have : m = a.length := by omega
  rw [q2, this]; simp

theorem stp_steps {p : List (List Ins)} {a b : List Int} {s' : St} {acc' : List (Int × Int)} (h : stp p a St.zero [] = some (s', acc')) : ∃ more, (runS p (a ++ b)).steps = acc' ++ more := by
  have e : runS p (a ++ b) = follow p b (0 + a.length) s' acc' := follow_stp p a b 0 St.zero [] s' acc' h
  obtain ⟨_, _, _, _, more, q⟩ := follow_fst p b (0 + a.length) s' acc'
  exact ⟨more, by rw [e]; exact q⟩

/-- A beginning of such a schedule goes through, and the next number may go on. -/
theorem sched_prefix {p : List (List Ins)} {a : List Int} (h : Sched p a) {k : Nat} (hk : k < a.length) :
    ∃ s' acc', stp p (a.take k) St.zero [] = some (s', acc') ∧ acc' = (runS p a).steps.take k ∧ okAt p s' a[k] = true := by
  have ea : a = a.take k ++ a.drop k := (List.take_append_drop k a).symm
  have ed : a.drop k = a[k] :: a.drop (k + 1) := List.drop_eq_getElem_cons hk
  have hlk : (a.take k).length = k := by simp; omega
  cases hs : stp p (a.take k) St.zero [] with
  | none =>
    exfalso
    have e1 := (follow_none p (a.take k) (a.drop k) 0 St.zero [] hs).1
    rw [← ea] at e1
    obtain ⟨m, q1, _, q3, _⟩ := follow_fst p (a.take k) 0 St.zero []
    have h2 := h.2
    unfold runS at h2
    rw [e1, ← q3] at h2
    simp at h2 q1
    omega
  | some x =>
    obtain ⟨s', acc'⟩ := x
    have hl := stp_len p _ _ _ _ _ hs
    have e1 : runS p a = follow p (a.drop k) (0 + (a.take k).length) s' acc' := by
      have := follow_stp p (a.take k) (a.drop k) 0 St.zero [] s' acc' hs
      rw [← ea] at this; exact this
    refine ⟨s', acc', rfl, ?_, ?_⟩
    · obtain ⟨more, q⟩ := stp_steps (b := a.drop k) hs
      rw [← ea] at q
      rw [q, List.take_left' (by simpa [hlk] using hl)]
    · cases ho : okAt p s' a[k] with
      | true => rfl
      | false =>
        exfalso
        rw [ed, follow_wrong p _ _ _ _ _ ho] at e1
        have := h.1
        rw [e1] at this
        exact this rfl

/-- The beginning: its run. -/
theorem cut_run {p : List (List Ins)} {a : List Int} (h : Sched p a) {k : Nat} (hk : k ≤ a.length) :
    (runS p (a.take k)).steps = (runS p a).steps.take k ∧ (k < a.length → (runS p (a.take k)).kind = 5 ∧ (runS p (a.take k)).thread = 0 ∧ (runS p (a.take k)).at_ = 0) := by
  by_cases hlt : k < a.length
  · obtain ⟨s', acc', h1, h2, h3⟩ := sched_prefix h hlt
    rw [run_stp h1]
    refine ⟨h2, fun _ => ⟨?_, rfl, rfl⟩⟩
    simp only [okAt, Bool.and_eq_true, belowB, decide_eq_true_eq] at h3
    have hr : (List.range p.length).any (readyB p s') = true := List.any_eq_true.2 ⟨a[k].toNat, List.mem_range.2 (by omega), h3.2⟩
    simp [endingS, hr]
  · have e : k = a.length := by omega
    subst e
    have := h.2
    refine ⟨?_, fun h => absurd h hlt⟩
    rw [List.take_length, List.take_of_length_le (by omega)]

/-- With a number that is nobody's in between. -/
theorem cut_wrong {p : List (List Ins)} {a : List Int} (h : Sched p a) {k : Nat} (hk : k ≤ a.length) (x : Int) (hx : x < 0 ∨ (p.length : Int) ≤ x) :
    ((runS p (a.take k)).kind = 1 → runS p (a.take k ++ [x] ++ a.drop k) = runS p (a.take k)) ∧
    ((runS p (a.take k)).kind ≠ 1 → runS p (a.take k ++ [x] ++ a.drop k) = ⟨(runS p (a.take k)).steps, 2, 0, k, (runS p (a.take k)).st⟩) := by
  have hlk : (a.take k).length = k := by simp; omega
  cases hs : stp p (a.take k) St.zero [] with
  | none =>
    have e1 := follow_none p (a.take k) ([x] ++ a.drop k) 0 St.zero [] hs
    rw [← List.append_assoc] at e1
    refine ⟨fun _ => e1.1, fun hne => ?_⟩
    exfalso
    have hk2 : (runS p (a.take k)).kind = 2 := by
      rcases e1.2 with e | e
      · exact absurd e hne
      · exact e
    by_cases hlt : k < a.length
    · obtain ⟨s', acc', h1, _⟩ := sched_prefix h hlt
      rw [hs] at h1; cases h1
    · have e : k = a.length := by omega
      subst e
      rw [List.take_length] at hk2
      exact h.1 hk2
  | some y =>
    obtain ⟨s', acc'⟩ := y
    have er := run_stp hs
    have e1 : runS p (a.take k ++ [x] ++ a.drop k) = follow p ([x] ++ a.drop k) (0 + (a.take k).length) s' acc' := by
      rw [List.append_assoc]
      exact follow_stp p (a.take k) ([x] ++ a.drop k) 0 St.zero [] s' acc' hs
    have ho : okAt p s' x = false := by
      simp only [okAt, belowB, Bool.and_eq_false_iff, decide_eq_false_iff_not]
      left; omega
    have hend := endingS_range p s'
    rw [er]
    refine ⟨fun h1 => by simp only at h1; omega, fun _ => ?_⟩
    rw [e1, List.singleton_append, follow_wrong p x _ _ s' acc' ho, hlk]
    simp

end Go.Proofs.YtklenjmfalljgaaDoor

/- Equality of two equal arrays of four ints. -/
namespace Go.Proofs.YtklenjmfalljgaaDoor
open Go.RowKit

theorem run_eq4 (a b c d : Int) (w : World) : (Op.equalIn 10000 34 (.agg #[.int .i64 a, .int .i64 b, .int .i64 c, .int .i64 d]) (.agg #[.int .i64 a, .int .i64 b, .int .i64 c, .int .i64 d])).run Tryd.prog w = .ok true w := by
  obtain ⟨i0, hi0, hz0, hz1, hz2⟩ := info_parts info_int
  have hc : Tryd.prog.cellsOf 3 = 1 := by simp [Program.cellsOf, hi0, hz1]
  have hk : Tryd.prog.plainKey 3 = true := by simp [Program.plainKey, Tryd.underlying3]
  rw [show (10000 : Nat) = 9999 + 1 from rfl, run_equalIn_array w 9999 _ _ (n := 4) (e := 3) (by first | exact Tryd.underlying34 | kernel_rfl) hi0, hc]
  have he : ∀ (d : Nat) (v : Int), (Op.equalIn (d + 1) 3 (.int .i64 v) (.int .i64 v)).run Tryd.prog w = .ok true w := fun d v => by
    rw [run_equalIn_int w d _ _ .i64 v v Tryd.underlying3]; simp
  have hq := he 9998
  simp only [Nat.reduceAdd] at hq
  have p0 := run_part_plain w hk (xs := #[.int .i64 a, .int .i64 b, .int .i64 c, .int .i64 d]) (off := 0) rfl
  have p1 := run_part_plain w hk (xs := #[.int .i64 a, .int .i64 b, .int .i64 c, .int .i64 d]) (off := 1) rfl
  have p2 := run_part_plain w hk (xs := #[.int .i64 a, .int .i64 b, .int .i64 c, .int .i64 d]) (off := 2) rfl
  have p3 := run_part_plain w hk (xs := #[.int .i64 a, .int .i64 b, .int .i64 c, .int .i64 d]) (off := 3) rfl
  simp [List.range, List.range.loop, Op.eqItems, Sem.run_bind, p0, p1, p2, p3, hq, Result.andThen_ok]

end Go.Proofs.YtklenjmfalljgaaDoor
