/- The texts Sch Sch2 Ins Prg Prg2 Bas TxtP TxtQ TxtR. -/
import Derived.Test.YtklenjmfalljgaaGreatDoorMB
import Derived.WalkSpells
import Derived.WalkLawsBesides
import Derived.Deep.Light
import Derived.Lib.QuietBelow
import Derived.BigQuiet
import Derived.Deep.QuietTactic
import Derived.RowKit

/- The walk of schedule. -/
namespace Go.Proofs.YtklenjmfalljgaaGreatDoor
open Go.RowKit
attribute [local go_sem] Go.World.cell?_alloc_some

def ints (a : List Int) : List Value := a.map fun x => .int .i64 x
theorem ints_len (a : List Int) : (ints a).length = a.length := by simp [ints]
theorem ints_one (a : List Int) : ∀ v ∈ ints a, v.oneCell' = true := by
  intro v hv
  simp only [ints, List.mem_map] at hv
  obtain ⟨x, _, rfl⟩ := hv; rfl
theorem ints_snoc (a : List Int) (x : Int) : ints (a ++ [x]) = ints a ++ [.int .i64 x] := by simp [ints]

theorem owns_ints {w : World} {base : Nat} {v : Value} {a : List Int} (h : w.ownsRow base 3 1 v a.length (ints a)) : IntsAt w.heap.size w v a := by
  rcases h.2 with ⟨e, e0⟩ | ⟨g, cap, cur, hv, hb, hh, hc, _⟩
  · refine ⟨none, 0, by rw [e, e0], by omega, fun k hk => by omega⟩
  · refine ⟨some ⟨g, 0, none⟩, cap, hv, hc, fun k hk => ⟨g, 0, rfl, (Array.getElem?_eq_some_iff.1 hh).1, ?_⟩⟩
    rw [hv] at h
    rw [Nat.zero_add, h.cellAt k (by omega)]
    simp [ints, hk]

def resCells (o : Out) (s1 g1 : Value) : Array Value := #[.int .i64 o.kind, .int .i64 o.thread, .int .i64 o.at_, s1, .int .i64 (o.st.vars 0), .int .i64 (o.st.vars 1), .int .i64 (o.st.vars 2), .int .i64 (o.st.vars 3), g1]
def zeroRes : Array Value := #[.int .i64 0, .int .i64 0, .int .i64 0, .slice none 0 0, .int .i64 0, .int .i64 0, .int .i64 0, .int .i64 0, .slice none 0 0]

/-- In the midst of schedule: s is a, r its run. -/
structure SchAt (w : World) (p : List (List Ins)) (pb : Value) (rb : Nat) (a : List Int) (sv : Value) (w' : World) : Prop where
  grown : w.grownBy w' none
  row : w'.ownsRow w.heap.size 3 1 sv a.length (ints a)
  nil : a = [] → sv = .slice none 0 0
  apart : sv.ownBlock ≠ some rb
  res : ∃ s1 g1, w'.heap[rb]? = some (.cells (resCells (runS p a) s1 g1) 32 (0, 0)) ∧ w'.ownsRow w.heap.size 84 2 s1 (runS p a).steps.length (flatS (runS p a).steps) ∧ w'.ownsRow w.heap.size 29 4 g1 p.length (regsF p.length (runS p a).st) ∧ s1.ownBlock ≠ some rb ∧ g1.ownBlock ≠ some rb
  box : w'.heap[w.heap.size]? = some (.cells #[pb] 24 (0, 0))
  out : w'.heap[w.heap.size + 1]? = some (.cells zeroRes 32 (0, 0))
  lo : w.heap.size + 2 ≤ rb
  hi : rb < w'.heap.size
  good : Sched p a

theorem SchAt.step {w : World} {p : List (List Ins)} {pb : Value} {rb : Nat} {a : List Int} {sv : Value} {w' w'' : World} (h : SchAt w p pb rb a sv w') (hg : w'.grownBy w'' none) : SchAt w p pb rb a sv w'' := by
  obtain ⟨s1, g1, h1, h2, h3, h4, h5⟩ := h.res
  exact ⟨grown_trans h.grown hg, owns_grown h.row hg (fun _ e => by cases e), h.nil, h.apart, ⟨s1, g1, by rw [hg.block _ h.hi (by simp)]; exact h1, owns_grown h2 hg (fun _ e => by cases e), owns_grown h3 hg (fun _ e => by cases e), h4, h5⟩,
    by rw [hg.block _ (by have := h.lo; have := h.hi; omega) (by simp)]; exact h.box, by rw [hg.block _ (by have := h.lo; have := h.hi; omega) (by simp)]; exact h.out, h.lo, Nat.lt_of_lt_of_le h.hi hg.size, h.good⟩

theorem owns_setCell_ne {w : World} {base : Nat} {e : TypeId} {size : Nat} {v : Value} {n : Nat} {xs : List Value} {g o : Nat} {u : Value} (h : w.ownsRow base e size v n xs) (hne : v.ownBlock ≠ some g) : (w.setCell ⟨g, o, none⟩ u).ownsRow base e size v n xs := by
  obtain ⟨h1, h2⟩ := h
  refine ⟨h1, ?_⟩
  rcases h2 with h2 | ⟨b, cap, cur, hv, hb, hh, rest⟩
  · exact Or.inl h2
  · refine Or.inr ⟨b, cap, cur, hv, hb, ?_, rest⟩
    rw [Below.heap_setCell _ _ _ _ (fun e => hne (by rw [hv]; simp [Value.ownBlock, e]))]; exact hh

theorem set9 {w : World} {g : Nat} {x0 x1 x2 x3 x4 x5 x6 x7 x8 y0 y1 y2 y3 y4 y5 y6 y7 y8 : Value} {t : TypeId} (h : w.heap[g]? = some (.cells #[x0, x1, x2, x3, x4, x5, x6, x7, x8] t (0, 0))) :
    (((((((((w.setCell ⟨g, 0, none⟩ y0).setCell ⟨g, 1, none⟩ y1).setCell ⟨g, 2, none⟩ y2).setCell ⟨g, 3, none⟩ y3).setCell ⟨g, 4, none⟩ y4).setCell ⟨g, 5, none⟩ y5).setCell ⟨g, 6, none⟩ y6).setCell ⟨g, 7, none⟩ y7).setCell ⟨g, 8, none⟩ y8).heap[g]? = some (.cells #[y0, y1, y2, y3, y4, y5, y6, y7, y8] t (0, 0)) := by
  have h0 := heap_setCell_same w g 0 _ t y0 h
  have h1 := heap_setCell_same _ g 1 _ t y1 h0
  have h2 := heap_setCell_same _ g 2 _ t y2 h1
  have h3 := heap_setCell_same _ g 3 _ t y3 h2
  have h4 := heap_setCell_same _ g 4 _ t y4 h3
  have h5 := heap_setCell_same _ g 5 _ t y5 h4
  have h6 := heap_setCell_same _ g 6 _ t y6 h5
  have h7 := heap_setCell_same _ g 7 _ t y7 h6
  have h8 := heap_setCell_same _ g 8 _ t y8 h7
  simpa using h8

/-- r = x, s = t. -/
theorem SchAt.set {w : World} {p : List (List Ins)} {pb : Value} {rb : Nat} {a b : List Int} {sv tv : Value} {w' : World} (h : SchAt w p pb rb a sv w') (hb : b ≠ []) (ht : w'.ownsRow w.heap.size 3 1 tv b.length (ints b)) (hta : tv.ownBlock ≠ some rb) {s1 g1 : Value}
    (hs : w'.ownsRow w.heap.size 84 2 s1 (runS p b).steps.length (flatS (runS p b).steps)) (hg : w'.ownsRow w.heap.size 29 4 g1 p.length (regsF p.length (runS p b).st)) (hsa : s1.ownBlock ≠ some rb) (hga : g1.ownBlock ≠ some rb) (hok : Sched p b) :
    SchAt w p pb rb b tv (((((((((w'.setCell ⟨rb, 0, none⟩ (.int .i64 (runS p b).kind)).setCell ⟨rb, 1, none⟩ (.int .i64 (runS p b).thread)).setCell ⟨rb, 2, none⟩ (.int .i64 (runS p b).at_)).setCell ⟨rb, 3, none⟩ s1).setCell ⟨rb, 4, none⟩ (.int .i64 ((runS p b).st.vars 0))).setCell ⟨rb, 5, none⟩ (.int .i64 ((runS p b).st.vars 1))).setCell ⟨rb, 6, none⟩ (.int .i64 ((runS p b).st.vars 2))).setCell ⟨rb, 7, none⟩ (.int .i64 ((runS p b).st.vars 3))).setCell ⟨rb, 8, none⟩ g1) := by
  obtain ⟨s0, g0, h1, _⟩ := h.res
  have hlo := h.lo
  have hhi := h.hi
  have hother : ∀ k, k ≠ rb → (((((((((w'.setCell ⟨rb, 0, none⟩ (.int .i64 (runS p b).kind)).setCell ⟨rb, 1, none⟩ (.int .i64 (runS p b).thread)).setCell ⟨rb, 2, none⟩ (.int .i64 (runS p b).at_)).setCell ⟨rb, 3, none⟩ s1).setCell ⟨rb, 4, none⟩ (.int .i64 ((runS p b).st.vars 0))).setCell ⟨rb, 5, none⟩ (.int .i64 ((runS p b).st.vars 1))).setCell ⟨rb, 6, none⟩ (.int .i64 ((runS p b).st.vars 2))).setCell ⟨rb, 7, none⟩ (.int .i64 ((runS p b).st.vars 3))).setCell ⟨rb, 8, none⟩ g1).heap[k]? = w'.heap[k]? := fun k hk => by
    iterate 9 rw [Below.heap_setCell _ _ _ _ (by simpa using hk)]
  refine ⟨?_, ?_, fun e => absurd e hb, hta, ⟨s1, g1, set9 h1, ?_, ?_, hsa, hga⟩, ?_, ?_, hlo, by simp; omega, hok⟩
  · iterate 9 refine grown_setNew ?_ (by omega)
    exact h.grown
  · iterate 9 refine owns_setCell_ne ?_ hta
    exact ht
  · iterate 9 refine owns_setCell_ne ?_ hsa
    exact hs
  · iterate 9 refine owns_setCell_ne ?_ hga
    exact hg
  · rw [hother _ (by omega)]; exact h.box
  · rw [hother _ (by omega)]; exact h.out


section
variable {P : Program} {w : World} {ops : Array Oper} {rest : List Oper} {o : Oper} {a : Act} {Q : Exit → Act → World → Prop}
/-- append of a whole slice of numbers onto nil: a new row. -/
theorem wpList_append_copy (hgd : o.guard = none) (s x : Operand) (t : TypeId) (ho : o.op = .call { callee := .builtin .append, args := #[s, x], argTypes := #[t, t] })
    (e : TypeId) (i : TypeInfo) (z : Value) (bytes : Nat) (ht : P.underlying t = some (.slice e)) (hi : P.info? e = some i) (hz : i.zero = some z) (hsize : i.size = 1) (hby : i.bytes = bytes) (hzs : z.cells.size = 1)
    (hs : a.eval s = .slice none 0 0) (sv : Value) (hx : a.eval x = sv) (b0 n : Nat) (xs : List Value) (hown : w.ownsRow b0 e 1 sv n xs) (hnil : n = 0 → sv = .slice none 0 0) (h1 : ∀ u ∈ xs, u.oneCell' = true) (h63 : n ≤ maxLen) (hbytes : n * bytes ≤ 140737488355328)
    (h : ∀ ta tn tc w', w'.ownsRow w.heap.size e 1 (.slice ta tn tc) n xs → w.grownBy w' none → (n = 0 → Value.slice ta tn tc = .slice none 0 0) → wpList P ops Q rest (a.put o.dst (.slice ta tn tc)) w') : wpList P ops Q (o :: rest) a w := by
  refine wpList_plain hgd fun K hK => ?_
  have hnone : w.ownsRow w.heap.size e 1 (.slice none 0 0) 0 [] := ⟨rfl, Or.inl ⟨rfl, rfl⟩⟩
  by_cases h0 : n = 0
  · have hrun := run_append_owned_none (P := P) w w.heap.size t o.type e i 1 ht hi _ 0 [] hnone
    have hx0 : xs = [] := by
      have := hown.1
      rw [h0] at this
      exact List.length_eq_zero_iff.1 (by omega)
    unfold Oper.wp
    simp [execOp, ho, resolve, invoke, builtin, hs, hx, hnil h0, hrun, Result.andThen]
    exact hK _ _ (h _ _ _ w (by rw [h0, hx0]; exact hnone) (grown_refl _ _) (fun _ => rfl))
  · obtain ⟨g, cap, rfl, _, _⟩ := hown.form (by omega)
    have hnews : ∀ j u, xs[j]? = some u → w.cell? ((⟨g, 0, none⟩ : Addr).add j) = some u := fun j u hj => by
      have hadd : (⟨g, 0, none⟩ : Addr).add j = ⟨g, j, none⟩ := by unfold Addr.add; split <;> simp_all
      have hl := (List.getElem?_eq_some_iff.1 hj).1
      rw [hadd, hown.cellAt j (by rw [← hown.1]; exact hl)]; exact hj
    obtain ⟨v', w', hrun, h2, h3, h4, h5⟩ := run_append_own_at (P := P) w w.heap.size t o.type e i z 1 bytes ht hi hz hsize hby hzs (by omega) _ 0 [] hnone ⟨g, 0, none⟩ n cap xs hown.1 hnews h1 (by omega) (by simpa using hbytes) (Nat.le_refl _)
    simp only [Nat.zero_add, List.nil_append] at h2
    obtain ⟨ta, tn, tc, rfl⟩ := owns_form h2
    unfold Oper.wp
    simp [execOp, ho, resolve, invoke, builtin, hs, hx, hrun, Result.andThen]
    exact hK _ _ (h _ _ _ w' h2 h3 (fun e => absurd e h0))
end

end Go.Proofs.YtklenjmfalljgaaGreatDoor

/- The walk of schedule. -/
namespace Go.Proofs.YtklenjmfalljgaaGreatDoor
open Go.RowKit
attribute [local go_sem] Go.World.cell?_alloc_some

theorem info_int : ((Tryz.prog.info? 3).map fun i => (i.zero, i.size, i.bytes)) = some (some (.int .i64 0), 1, 8) := by kernel_rfl

theorem owns_lenq {w : World} {base e size : Nat} {ao : Option Addr} {n c m : Nat} {xs : List Value} (h : w.ownsRow base e size (.slice ao n c) m xs) : n = m := by
  rcases h.2 with ⟨e, e0⟩ | ⟨g, cap, cur, hv, _⟩
  · simp at e; omega
  · simp at hv; omega

theorem owns_out9 {w w' : World} {e size : Nat} {v : Value} {n : Nat} {xs : List Value} {y0 y1 y2 y3 y4 y5 y6 y7 y8 : Value} (h : w'.ownsRow w.heap.size e size v n xs) (ho : w'.heap[w.heap.size + 1]? = some (.cells zeroRes 32 (0, 0))) (he : e ≠ 32) :
    (((((((((w'.setCell ⟨w.heap.size + 1, 0, none⟩ y0).setCell ⟨w.heap.size + 1, 1, none⟩ y1).setCell ⟨w.heap.size + 1, 2, none⟩ y2).setCell ⟨w.heap.size + 1, 3, none⟩ y3).setCell ⟨w.heap.size + 1, 4, none⟩ y4).setCell ⟨w.heap.size + 1, 5, none⟩ y5).setCell ⟨w.heap.size + 1, 6, none⟩ y6).setCell ⟨w.heap.size + 1, 7, none⟩ y7).setCell ⟨w.heap.size + 1, 8, none⟩ y8).drew.ownsRow w.heap.size e size v n xs := by
  have hne : v.ownBlock ≠ some (w.heap.size + 1) := fun eq => by
    rcases h.2 with ⟨e1, _⟩ | ⟨g', _, cur, hv, _, hh, _⟩
    · rw [e1] at eq; cases eq
    · rw [hv] at eq
      have e2 : g' = w.heap.size + 1 := by simpa [Value.ownBlock] using eq
      rw [e2, ho] at hh
      simp at hh
      exact he hh.2.symm
  refine owns_grown (w := (((((((((w'.setCell ⟨w.heap.size + 1, 0, none⟩ y0).setCell ⟨w.heap.size + 1, 1, none⟩ y1).setCell ⟨w.heap.size + 1, 2, none⟩ y2).setCell ⟨w.heap.size + 1, 3, none⟩ y3).setCell ⟨w.heap.size + 1, 4, none⟩ y4).setCell ⟨w.heap.size + 1, 5, none⟩ y5).setCell ⟨w.heap.size + 1, 6, none⟩ y6).setCell ⟨w.heap.size + 1, 7, none⟩ y7).setCell ⟨w.heap.size + 1, 8, none⟩ y8)) (r := none) ?_ (grown_drew (grown_refl _ _)) (fun _ e => by cases e)
  iterate 9 refine owns_setCell_ne ?_ hne
  exact h
theorem grown_out9 {w w' : World} {y0 y1 y2 y3 y4 y5 y6 y7 y8 : Value} (h : w.grownBy w' none) :
    w.grownBy (((((((((w'.setCell ⟨w.heap.size + 1, 0, none⟩ y0).setCell ⟨w.heap.size + 1, 1, none⟩ y1).setCell ⟨w.heap.size + 1, 2, none⟩ y2).setCell ⟨w.heap.size + 1, 3, none⟩ y3).setCell ⟨w.heap.size + 1, 4, none⟩ y4).setCell ⟨w.heap.size + 1, 5, none⟩ y5).setCell ⟨w.heap.size + 1, 6, none⟩ y6).setCell ⟨w.heap.size + 1, 7, none⟩ y7).setCell ⟨w.heap.size + 1, 8, none⟩ y8).drew none := by
  refine grown_drew ?_
  iterate 9 refine grown_setNew ?_ (by omega)
  exact h

/-- What schedule answers. -/
def Scheduled (p : List (List Ins)) (raw : List Int) (w : World) (e : Ending) (w' : World) : Prop :=
  ∃ sv rv a, e = .returned (.tuple #[sv, rv, .bool true]) ∧ w'.ownsRow w.heap.size 3 1 sv a.length (ints a) ∧ ResAt w.heap.size w' (runS p a) p.length rv ∧ Sched p a ∧ a.length ≤ 200 ∧
    ((a.length = raw.length ∨ a.length = 200) ∨ (runS p a).kind ≠ 5) ∧ w.grownBy w' none

theorem checkRun_ok {p : List (List Ins)} {s : List Int} (hv : vProg p = true) (hs : s.length ≤ 500) : checkRunN p s = 0 := by simp [checkRunN, hv, hs]




end Go.Proofs.YtklenjmfalljgaaGreatDoor

/- The walks of instruction and program. -/
namespace Go.Proofs.YtklenjmfalljgaaGreatDoor
open Go.RowKit
attribute [local go_sem] Go.World.cell?_alloc_some

def insM (n many : Int) : Ins :=
  if n % 11 = 0 then ⟨1, n / 11 % 3, 0, n / 132 % 5 - 1⟩
  else if n % 11 = 7 then ⟨8, n / 11 % 3, 0, n / 132 % (many + 1)⟩
  else if n % 11 = 8 then ⟨9, n / 11 % 3, 0, 0⟩
  else if n % 11 = 9 then ⟨10, n / 11 % 3, 0, 0⟩
  else if n % 11 = 10 then (if 0 < n / 33 % 4 then ⟨2, n / 11 % 3, n / 33 % 4, 0⟩ else ⟨11, n / 11 % 3, 0, 0⟩)
  else ⟨1 + n % 11, n / 11 % 3, n / 33 % 4, 0⟩

def insN (c many : Int) : Ins := insM (pickN c 1099511627776) many

theorem insM_valid (n many : Int) (_hn : 0 ≤ n) (hm : 0 ≤ many) : vIns (insM n many) many = true := by
  have a1 : 0 ≤ n / 11 % 3 ∧ n / 11 % 3 < 3 := by omega
  have b1 : 0 ≤ n / 33 % 4 ∧ n / 33 % 4 < 4 := by omega
  have e1 : 0 ≤ n % 11 ∧ n % 11 < 11 := by omega
  have j1 : 0 ≤ n / 132 % (many + 1) ∧ n / 132 % (many + 1) < many + 1 := ⟨Int.emod_nonneg _ (by omega), Int.emod_lt_of_pos _ (by omega)⟩
  have hc : n % 11 = 0 ∨ n % 11 = 1 ∨ n % 11 = 2 ∨ n % 11 = 3 ∨ n % 11 = 4 ∨ n % 11 = 5 ∨ n % 11 = 6 ∨ n % 11 = 7 ∨ n % 11 = 8 ∨ n % 11 = 9 ∨ n % 11 = 10 := by omega
  rcases hc with e | e | e | e | e | e | e | e | e | e | e
  all_goals
    unfold insM
    simp only [e]
    generalize n / 11 % 3 = A at *
    generalize n / 33 % 4 = B at *
    generalize n / 132 % (many + 1) = J at *
    simp [vIns, shp, fitsB, belowB]
  all_goals first | omega | (split <;> simp <;> omega)

set_option maxHeartbeats 2000000 in
set_option maxRecDepth 100000 in
theorem instruction_core (c many n : Int) (hpk : ∀ w, Calls Tryz.prog 18 #[.int .i64 c, .int .i64 1099511627776] w fun e w' => e = .returned (.int .i64 n) ∧ w' = w) (hn0 : 0 ≤ n) (hn1 : n < 1099511627776) (h0 : 0 ≤ many) (h16 : many ≤ 16) (w : World) :
    Calls Tryz.prog 60 #[.int .i64 c, .int .i64 many] w fun e w' => e = .returned (.agg #[.int .i64 (insM n many).op, .int .i64 (insM n many).a, .int .i64 (insM n many).b, .int .i64 (insM n many).n]) ∧ w.grownBy w' none := by
  have HPK := hide hpk
  clear hpk
  have hcc : n % 11 = 0 ∨ n % 11 = 1 ∨ n % 11 = 2 ∨ n % 11 = 3 ∨ n % 11 = 4 ∨ n % 11 = 5 ∨ n % 11 = 6 ∨ n % 11 = 7 ∨ n % 11 = 8 ∨ n % 11 = 9 ∨ n % 11 = 10 := by omega
  have HJ : Hid (0 ≤ n / 132 % (many + 1)) := Int.emod_nonneg _ (by omega)
  rcases hcc with e | e | e | e | e | e | e | e | e | e | e
  · have HE : Hid (insM n many = ⟨1, n / 11 % 3, 0, n / 132 % 5 - 1⟩) := by unfold Hid insM; simp [e]
    rw [HE.out]
    clear HE
    go_enter Tryz.func60, Tryz.ntmps60
    go_wp2_with fail
    refine (HPK.out _).mono ?_
    rintro e' w1 ⟨rfl, rfl⟩
    go_wp2_with fail
    refine bodyPost_ret (v := .agg #[.int .i64 (1), .int .i64 (n / 11 % 3), .int .i64 (0), .int .i64 (n / 132 % 5 - 1)]) ?_ rfl ⟨rfl, ?_⟩
    · simp [results, Tryz.results60, go_sem]
    · repeat (first | exact grown_refl _ _ | refine grown_alloc ?_ | refine grown_setNew ?_ (by simp; omega))
  · have HE : Hid (insM n many = ⟨2, n / 11 % 3, n / 33 % 4, 0⟩) := by unfold Hid insM; simp [e]
    rw [HE.out]
    clear HE
    go_enter Tryz.func60, Tryz.ntmps60
    go_wp2_with fail
    refine (HPK.out _).mono ?_
    rintro e' w1 ⟨rfl, rfl⟩
    go_wp2_with fail
    refine bodyPost_ret (v := .agg #[.int .i64 (2), .int .i64 (n / 11 % 3), .int .i64 (n / 33 % 4), .int .i64 (0)]) ?_ rfl ⟨rfl, ?_⟩
    · simp [results, Tryz.results60, go_sem]
    · repeat (first | exact grown_refl _ _ | refine grown_alloc ?_ | refine grown_setNew ?_ (by simp; omega))
  · have HE : Hid (insM n many = ⟨3, n / 11 % 3, n / 33 % 4, 0⟩) := by unfold Hid insM; simp [e]
    rw [HE.out]
    clear HE
    go_enter Tryz.func60, Tryz.ntmps60
    go_wp2_with fail
    refine (HPK.out _).mono ?_
    rintro e' w1 ⟨rfl, rfl⟩
    go_wp2_with fail
    refine bodyPost_ret (v := .agg #[.int .i64 (3), .int .i64 (n / 11 % 3), .int .i64 (n / 33 % 4), .int .i64 (0)]) ?_ rfl ⟨rfl, ?_⟩
    · simp [results, Tryz.results60, go_sem]
    · repeat (first | exact grown_refl _ _ | refine grown_alloc ?_ | refine grown_setNew ?_ (by simp; omega))
  · have HE : Hid (insM n many = ⟨4, n / 11 % 3, n / 33 % 4, 0⟩) := by unfold Hid insM; simp [e]
    rw [HE.out]
    clear HE
    go_enter Tryz.func60, Tryz.ntmps60
    go_wp2_with fail
    refine (HPK.out _).mono ?_
    rintro e' w1 ⟨rfl, rfl⟩
    go_wp2_with fail
    refine bodyPost_ret (v := .agg #[.int .i64 (4), .int .i64 (n / 11 % 3), .int .i64 (n / 33 % 4), .int .i64 (0)]) ?_ rfl ⟨rfl, ?_⟩
    · simp [results, Tryz.results60, go_sem]
    · repeat (first | exact grown_refl _ _ | refine grown_alloc ?_ | refine grown_setNew ?_ (by simp; omega))
  · have HE : Hid (insM n many = ⟨5, n / 11 % 3, n / 33 % 4, 0⟩) := by unfold Hid insM; simp [e]
    rw [HE.out]
    clear HE
    go_enter Tryz.func60, Tryz.ntmps60
    go_wp2_with fail
    refine (HPK.out _).mono ?_
    rintro e' w1 ⟨rfl, rfl⟩
    go_wp2_with fail
    refine bodyPost_ret (v := .agg #[.int .i64 (5), .int .i64 (n / 11 % 3), .int .i64 (n / 33 % 4), .int .i64 (0)]) ?_ rfl ⟨rfl, ?_⟩
    · simp [results, Tryz.results60, go_sem]
    · repeat (first | exact grown_refl _ _ | refine grown_alloc ?_ | refine grown_setNew ?_ (by simp; omega))
  · have HE : Hid (insM n many = ⟨6, n / 11 % 3, n / 33 % 4, 0⟩) := by unfold Hid insM; simp [e]
    rw [HE.out]
    clear HE
    go_enter Tryz.func60, Tryz.ntmps60
    go_wp2_with fail
    refine (HPK.out _).mono ?_
    rintro e' w1 ⟨rfl, rfl⟩
    go_wp2_with fail
    refine bodyPost_ret (v := .agg #[.int .i64 (6), .int .i64 (n / 11 % 3), .int .i64 (n / 33 % 4), .int .i64 (0)]) ?_ rfl ⟨rfl, ?_⟩
    · simp [results, Tryz.results60, go_sem]
    · repeat (first | exact grown_refl _ _ | refine grown_alloc ?_ | refine grown_setNew ?_ (by simp; omega))
  · have HE : Hid (insM n many = ⟨7, n / 11 % 3, n / 33 % 4, 0⟩) := by unfold Hid insM; simp [e]
    rw [HE.out]
    clear HE
    go_enter Tryz.func60, Tryz.ntmps60
    go_wp2_with fail
    refine (HPK.out _).mono ?_
    rintro e' w1 ⟨rfl, rfl⟩
    go_wp2_with fail
    refine bodyPost_ret (v := .agg #[.int .i64 (7), .int .i64 (n / 11 % 3), .int .i64 (n / 33 % 4), .int .i64 (0)]) ?_ rfl ⟨rfl, ?_⟩
    · simp [results, Tryz.results60, go_sem]
    · repeat (first | exact grown_refl _ _ | refine grown_alloc ?_ | refine grown_setNew ?_ (by simp; omega))
  · have HE : Hid (insM n many = ⟨8, n / 11 % 3, 0, n / 132 % (many + 1)⟩) := by unfold Hid insM; simp [e]
    rw [HE.out]
    clear HE
    go_enter Tryz.func60, Tryz.ntmps60
    go_wp2_with fail
    refine (HPK.out _).mono ?_
    rintro e' w1 ⟨rfl, rfl⟩
    go_wp2_with fail
    refine bodyPost_ret (v := .agg #[.int .i64 (8), .int .i64 (n / 11 % 3), .int .i64 (0), .int .i64 (n / 132 % (many + 1))]) ?_ rfl ⟨rfl, ?_⟩
    · simp [results, Tryz.results60, go_sem]
    · repeat (first | exact grown_refl _ _ | refine grown_alloc ?_ | refine grown_setNew ?_ (by simp; omega))
  · have HE : Hid (insM n many = ⟨9, n / 11 % 3, 0, 0⟩) := by unfold Hid insM; simp [e]
    rw [HE.out]
    clear HE
    go_enter Tryz.func60, Tryz.ntmps60
    go_wp2_with fail
    refine (HPK.out _).mono ?_
    rintro e' w1 ⟨rfl, rfl⟩
    go_wp2_with fail
    refine bodyPost_ret (v := .agg #[.int .i64 (9), .int .i64 (n / 11 % 3), .int .i64 (0), .int .i64 (0)]) ?_ rfl ⟨rfl, ?_⟩
    · simp [results, Tryz.results60, go_sem]
    · repeat (first | exact grown_refl _ _ | refine grown_alloc ?_ | refine grown_setNew ?_ (by simp; omega))
  · have HE : Hid (insM n many = ⟨10, n / 11 % 3, 0, 0⟩) := by unfold Hid insM; simp [e]
    rw [HE.out]
    clear HE
    go_enter Tryz.func60, Tryz.ntmps60
    go_wp2_with fail
    refine (HPK.out _).mono ?_
    rintro e' w1 ⟨rfl, rfl⟩
    go_wp2_with fail
    refine bodyPost_ret (v := .agg #[.int .i64 (10), .int .i64 (n / 11 % 3), .int .i64 (0), .int .i64 (0)]) ?_ rfl ⟨rfl, ?_⟩
    · simp [results, Tryz.results60, go_sem]
    · repeat (first | exact grown_refl _ _ | refine grown_alloc ?_ | refine grown_setNew ?_ (by simp; omega))
  · by_cases hb : 0 < n / 33 % 4
    · have HE : Hid (insM n many = ⟨2, n / 11 % 3, n / 33 % 4, 0⟩) := by unfold Hid insM; simp [e, hb]
      rw [HE.out]
      clear HE
      go_enter Tryz.func60, Tryz.ntmps60
      go_wp2_with fail
      refine (HPK.out _).mono ?_
      rintro e' w1 ⟨rfl, rfl⟩
      go_wp2_with fail
      refine bodyPost_ret (v := .agg #[.int .i64 (2), .int .i64 (n / 11 % 3), .int .i64 (n / 33 % 4), .int .i64 (0)]) ?_ rfl ⟨rfl, ?_⟩
      · simp [results, Tryz.results60, go_sem]
      · repeat (first | exact grown_refl _ _ | refine grown_alloc ?_ | refine grown_setNew ?_ (by simp; omega))
    · have HE : Hid (insM n many = ⟨11, n / 11 % 3, 0, 0⟩) := by unfold Hid insM; simp [e, hb]
      have hb2 : n / 33 % 4 ≤ 0 := by omega
      rw [HE.out]
      clear HE
      go_enter Tryz.func60, Tryz.ntmps60
      go_wp2_with fail
      refine (HPK.out _).mono ?_
      rintro e' w1 ⟨rfl, rfl⟩
      go_wp2_with fail
      refine bodyPost_ret (v := .agg #[.int .i64 (11), .int .i64 (n / 11 % 3), .int .i64 (0), .int .i64 (0)]) ?_ rfl ⟨rfl, ?_⟩
      · simp [results, Tryz.results60, go_sem]
      · repeat (first | exact grown_refl _ _ | refine grown_alloc ?_ | refine grown_setNew ?_ (by simp; omega))

theorem instruction_m (c many : Int) (hc : -9223372036854775808 ≤ c) (hc2 : c ≤ 9223372036854775807) (h0 : 0 ≤ many) (h16 : many ≤ 16) (w : World) :
    Calls Tryz.prog 60 #[.int .i64 c, .int .i64 many] w fun e w' => e = .returned (.agg #[.int .i64 (insN c many).op, .int .i64 (insN c many).a, .int .i64 (insN c many).b, .int .i64 (insN c many).n]) ∧ w.grownBy w' none :=
  instruction_core c many _ (pick_m c 1099511627776 (by omega) (by omega) hc hc2) (pickN_range c 1099511627776 (by omega)).1 (pickN_range c 1099511627776 (by omega)).2 h0 h16 w

end Go.Proofs.YtklenjmfalljgaaGreatDoor

/- The walk of program. -/
namespace Go.Proofs.YtklenjmfalljgaaGreatDoor
open Go.RowKit
attribute [local go_sem] Go.World.cell?_alloc_some

/-- Lists of numbers in memory. -/
def RawAt (w : World) (v : Value) (l : List (List Int)) : Prop :=
  ∃ ao cap, v = .slice ao l.length cap ∧ ∀ t (ht : t < l.length), ∃ g o, ao = some ⟨g, o, none⟩ ∧ ∃ rv, w.cell? ⟨g, o + t, none⟩ = some rv ∧ IntsAt w.heap.size w rv l[t]

def codeN (r : List Int) : List Ins := (r.take 16).map fun c => insN c (min r.length 16 : Nat)
def thrN (raw : List (List Int)) (k : Nat) : List (List Ins) := (raw.take k).map codeN
def progN (raw : List (List Int)) : List (List Ins) := if (thrN raw 4).length = 0 then [[]] else thrN raw 4

theorem codeN_len (r : List Int) : (codeN r).length = min r.length 16 := by simp [codeN, Nat.min_comm]

theorem codeN_valid (r : List Int) : vCode (codeN r) = true := by
  have hl := codeN_len r
  simp only [vCode, Bool.and_eq_true, decide_eq_true_eq, List.all_eq_true]
  refine ⟨by omega, fun i hi => ?_⟩
  simp only [codeN, List.mem_map] at hi
  obtain ⟨c, _, rfl⟩ := hi
  rw [hl]
  exact insM_valid _ _ (pickN_range c 1099511627776 (by omega)).1 (by omega)

theorem progN_valid (raw : List (List Int)) : vProg (progN raw) = true := by
  unfold progN
  by_cases h : (thrN raw 4).length = 0
  · rw [if_pos h]; decide
  · rw [if_neg h]
    simp only [vProg, Bool.and_eq_true, decide_eq_true_eq, List.all_eq_true]
    refine ⟨by omega, by simp [thrN]; omega, fun c hc => ?_⟩
    simp only [thrN, List.mem_map] at hc
    obtain ⟨r, _, rfl⟩ := hc
    exact codeN_valid r

def insV (i : Ins) : List Value := [.int .i64 i.op, .int .i64 i.a, .int .i64 i.b, .int .i64 i.n]
def insCells (c : List Ins) : List Value := c.flatMap insV
theorem insCells_len (c : List Ins) : (insCells c).length = c.length * 4 := by
  induction c with
  | nil => rfl
  | cons i c ih => simp only [insCells, List.flatMap_cons, List.length_append] at *; rw [ih]; simp [insV]; omega
theorem insCells_snoc (c : List Ins) (i : Ins) : insCells (c ++ [i]) = insCells c ++ insV i := by simp [insCells]
theorem insCells_get : ∀ (c : List Ins) (k : Nat) (hk : k < c.length), (insCells c)[k * 4]? = some (.int .i64 c[k].op) ∧ (insCells c)[k * 4 + 1]? = some (.int .i64 c[k].a) ∧ (insCells c)[k * 4 + 2]? = some (.int .i64 c[k].b) ∧ (insCells c)[k * 4 + 3]? = some (.int .i64 c[k].n)
  | [], k, hk => by simp at hk
  | i :: c, 0, hk => by simp [insCells, insV]
  | i :: c, k + 1, hk => by
    have h := insCells_get c k (by simpa using hk)
    have e : insCells (i :: c) = insV i ++ insCells c := by simp [insCells]
    have e4 : ∀ j, (insCells (i :: c))[(k + 1) * 4 + j]? = (insCells c)[k * 4 + j]? := fun j => by
      rw [e, List.getElem?_append_right (by simp [insV]; omega)]
      congr 1
      simp [insV]; omega
    refine ⟨?_, ?_, ?_, ?_⟩
    · have := e4 0; simp only [Nat.add_zero] at this; rw [this]; simpa using h.1
    · rw [e4 1]; simpa using h.2.1
    · rw [e4 2]; simpa using h.2.2.1
    · rw [e4 3]; simpa using h.2.2.2

/-- A thread's code in a row of the call's own. -/
def CodeRow (L B : Nat) (w : World) (v : Value) (c : List Ins) : Prop := w.ownsRow L 74 4 v c.length (insCells c) ∧ ∀ h, v.ownBlock = some h → h < B

theorem CodeRow.codeAt {L B : Nat} {w : World} {v : Value} {c : List Ins} (h : CodeRow L B w v c) : CodeAt w v c := by
  obtain ⟨h1, _⟩ := h
  rcases h1.2 with ⟨e, e0⟩ | ⟨g, cap, cur, hv, _⟩
  · refine ⟨none, 0, by rw [e, e0], fun k hk => by omega⟩
  · refine ⟨some ⟨g, 0, none⟩, cap, hv, fun k hk => ⟨g, 0, rfl, ?_⟩⟩
    rw [hv] at h1
    have q := insCells_get c k hk
    refine ⟨?_, ?_, ?_, ?_⟩
    · rw [Nat.zero_add, h1.cellAt _ (by omega)]; exact q.1
    · rw [Nat.zero_add, h1.cellAt _ (by omega)]; exact q.2.1
    · rw [Nat.zero_add, h1.cellAt _ (by omega)]; exact q.2.2.1
    · rw [Nat.zero_add, h1.cellAt _ (by omega)]; exact q.2.2.2

theorem owns_step {w w' : World} {base : Nat} {e : TypeId} {size : Nat} {v : Value} {n : Nat} {xs : List Value} {r : Option Nat} (h : w.ownsRow base e size v n xs) (hg : w.grownBy w' r) (hr : ∀ k, r = some k → v.ownBlock ≠ some k) : w'.ownsRow base e size v n xs := by
  obtain ⟨h1, h2⟩ := h
  refine ⟨h1, ?_⟩
  rcases h2 with h2 | ⟨g, cap, cur, hv, hb, hh, rest⟩
  · exact Or.inl h2
  · have hlt : g < w.heap.size := (Array.getElem?_eq_some_iff.1 hh).1
    refine Or.inr ⟨g, cap, cur, hv, hb, ?_, rest⟩
    rw [hg.block g hlt (fun e => hr g e.symm (by rw [hv]; rfl))]; exact hh

theorem owns_types {w : World} {b1 b2 e1 e2 z1 z2 : Nat} {v1 v2 : Value} {n1 n2 : Nat} {x1 x2 : List Value} (h1 : w.ownsRow b1 e1 z1 v1 n1 x1) (h2 : w.ownsRow b2 e2 z2 v2 n2 x2) (he : e1 ≠ e2) : ∀ k, v1.ownBlock = some k → v2.ownBlock ≠ some k := by
  intro k hk hk2
  rcases h1.2 with ⟨e, _⟩ | ⟨g, _, c1, hv, _, hh, _⟩
  · rw [e] at hk; cases hk
  · rcases h2.2 with ⟨e, _⟩ | ⟨g', _, c2, hv', _, hh', _⟩
    · rw [e] at hk2; cases hk2
    · rw [hv] at hk
      rw [hv'] at hk2
      have e1 : g = k := by simpa [Value.ownBlock] using hk
      have e2 : g' = k := by simpa [Value.ownBlock] using hk2
      rw [e1] at hh
      rw [e2, hh] at hh'
      simp at hh'
      exact he hh'.2

/-- The threads so far. -/
def ThrAt (L B : Nat) (w : World) (tv : Value) (p : List (List Ins)) : Prop :=
  ∃ rows, w.ownsRow L 75 1 tv p.length rows ∧ (∀ h, tv.ownBlock = some h → h < B) ∧ ∀ j (hj : j < p.length), ∃ rv, rows[j]? = some rv ∧ CodeRow L B w rv p[j]

theorem ThrAt.step {L B : Nat} {w w' : World} {tv : Value} {p : List (List Ins)} {r : Option Nat} (h : ThrAt L B w tv p) (hg : w.grownBy w' r) (hr : ∀ q, r = some q → q < L ∨ B ≤ q) : ThrAt L B w' tv p := by
  obtain ⟨rows, h1, h2, h3⟩ := h
  refine ⟨rows, owns_step h1 hg (fun k e e2 => ?_), h2, fun j hj => ?_⟩
  · have := h2 k e2; have := owns_block h1 k e2; rcases hr k e with q | q <;> omega
  · obtain ⟨rv, e1, e2, e3⟩ := h3 j hj
    refine ⟨rv, e1, owns_step e2 hg (fun k e e4 => ?_), e3⟩
    have := e3 k e4; have := owns_block e2 k e4; rcases hr k e with q | q <;> omega
theorem ThrAt.mono {L B B' : Nat} {w : World} {tv : Value} {p : List (List Ins)} (h : ThrAt L B w tv p) (hb : B ≤ B') : ThrAt L B' w tv p := by
  obtain ⟨rows, h1, h2, h3⟩ := h
  refine ⟨rows, h1, fun q e => Nat.lt_of_lt_of_le (h2 q e) hb, fun j hj => ?_⟩
  obtain ⟨rv, e1, e2, e3⟩ := h3 j hj
  exact ⟨rv, e1, e2, fun q e => Nat.lt_of_lt_of_le (e3 q e) hb⟩

theorem ThrAt.progAt {L B : Nat} {w : World} {tv : Value} {p : List (List Ins)} (h : ThrAt L B w tv p) : ProgAt w (.agg #[tv]) p := by
  obtain ⟨rows, h1, h2, h3⟩ := h
  rcases h1.2 with ⟨e, e0⟩ | ⟨g, cap, cur, hv, _⟩
  · refine ⟨none, 0, by rw [e, e0], fun k hk => by omega⟩
  · refine ⟨some ⟨g, 0, none⟩, cap, by rw [hv], fun j hj => ⟨g, 0, rfl, ?_⟩⟩
    obtain ⟨rv, e1, e2⟩ := h3 j hj
    rw [hv] at h1
    exact ⟨rv, by rw [Nat.zero_add, h1.cellAt j (by omega)]; exact e1, e2.codeAt⟩

/-- p.Threads = append(p.Threads, l): the worlds behind the append. -/
theorem ThrAt.snoc {L B : Nat} {w w1 w2 : World} {tv tv' lv : Value} {p : List (List Ins)} {c : List Ins} {rows : List Value} (h : ThrAt L B w tv p) (ho : w.ownsRow L 75 1 tv p.length rows) (hl : CodeRow L B w lv c) (hg1 : w.grownBy w1 none)
    (hg2 : w1.grownBy w2 tv.ownBlock) (ho2 : w2.ownsRow L 75 1 tv' (p.length + 1) (rows ++ [lv])) (hB : B ≤ w2.heap.size) (ht : ∀ q, tv'.ownBlock = some q → q < w2.heap.size) : ThrAt L w2.heap.size w2 tv' (p ++ [c]) := by
  obtain ⟨rows', h1, h2, h3⟩ := h
  have hrows : rows' = rows := by
    rcases h1.2 with ⟨e, e0⟩ | ⟨g, cap, cur, hv, _, hh, _, _, _, ht1⟩
    · have a1 := h1.1; have a2 := ho.1
      rw [e0] at a1 a2
      rw [List.length_eq_zero_iff.1 (by omega : rows'.length = 0), List.length_eq_zero_iff.1 (by omega : rows.length = 0)]
    · rcases ho.2 with ⟨e, e0⟩ | ⟨g', cap', cur', hv', _, hh', _, _, _, ht2⟩
      · rw [e] at hv; cases hv
      · rw [hv] at hv'
        simp at hv'
        obtain ⟨e1, e2⟩ := hv'
        rw [← e1, hh] at hh'
        simp at hh'
        rw [← ht1, ← ht2, hh']
  subst hrows
  have hrow : ∀ {rv : Value} {c : List Ins}, CodeRow L B w rv c → CodeRow L w2.heap.size w2 rv c := fun {rv c} hc => by
    have a1 := owns_step hc.1 hg1 (fun k e => by cases e)
    have a2 := owns_step h1 hg1 (fun k e => by cases e)
    exact ⟨owns_step a1 hg2 (fun k e => owns_types a2 a1 (by decide) k e), fun q e => Nat.lt_of_lt_of_le (hc.2 q e) hB⟩
  refine ⟨rows' ++ [lv], by simpa using ho2, ht, fun j hj => ?_⟩
  have hlr : rows'.length = p.length := by have := h1.1; omega
  by_cases hlt : j < p.length
  · obtain ⟨rv, e1, e2⟩ := h3 j hlt
    exact ⟨rv, by rw [List.getElem?_append_left (by omega)]; exact e1, by rw [List.getElem_append_left hlt]; exact hrow e2⟩
  · have ej : j = p.length := by simp at hj; omega
    subst ej
    exact ⟨lv, by rw [List.getElem?_append_right (by omega)]; simp [hlr], by simpa using hrow hl⟩

theorem info_ins : ((Tryz.prog.info? 74).map fun i => (i.zero, i.size, i.bytes)) = some (some (.agg #[.int .i64 0, .int .i64 0, .int .i64 0, .int .i64 0]), 4, 32) := by kernel_rfl
theorem info_code : ((Tryz.prog.info? 75).map fun i => (i.zero, i.size, i.bytes)) = some (some (.slice none 0 0), 1, 24) := by kernel_rfl

end Go.Proofs.YtklenjmfalljgaaGreatDoor

/- The walk of program. -/
namespace Go.Proofs.YtklenjmfalljgaaGreatDoor
open Go.RowKit
attribute [local go_sem] Go.World.cell?_alloc_some

def isInt (c : Int) : Prop := -9223372036854775808 ≤ c ∧ c ≤ 9223372036854775807

/-- In the midst of program. -/
def ProgOut (w : World) (raw : List (List Int)) (t : Nat) (w' : World) : Prop :=
  ∃ tv, w'.heap[w.heap.size + 1]? = some (.cells #[tv] 24 (0, 0)) ∧ ThrAt (w.heap.size + 2) w'.heap.size w' tv (thrN raw t) ∧ w.grownBy w' none ∧ w'.heap[w.heap.size]? = some (.cells #[.slice none 0 0] 24 (0, 0)) ∧ w.heap.size + 2 ≤ w'.heap.size

def ProgIn (w : World) (raw : List (List Int)) (t Bt k : Nat) (c : List Ins) (lv : Value) (w' : World) : Prop :=
  ∃ tv, w'.heap[w.heap.size + 1]? = some (.cells #[tv] 24 (0, 0)) ∧ ThrAt (w.heap.size + 2) Bt w' tv (thrN raw t) ∧ w'.ownsRow Bt 74 4 lv k (insCells (c.take k)) ∧ w.grownBy w' none ∧ w'.heap[w.heap.size]? = some (.cells #[.slice none 0 0] 24 (0, 0)) ∧ w.heap.size + 2 ≤ Bt ∧ Bt ≤ w'.heap.size

theorem owns_lt {w : World} {base e size : Nat} {v : Value} {n : Nat} {xs : List Value} (h : w.ownsRow base e size v n xs) : ∀ q, v.ownBlock = some q → q < w.heap.size := fun q eq => by
  rcases h.2 with ⟨e1, _⟩ | ⟨g', _, _, hv, _, hh, _⟩
  · rw [e1] at eq; cases eq
  · rw [hv] at eq
    have := (Array.getElem?_eq_some_iff.1 hh).1
    simp [Value.ownBlock] at eq
    omega

theorem thrN_succ (raw : List (List Int)) (t : Nat) (ht : t < raw.length) : thrN raw (t + 1) = thrN raw t ++ [codeN raw[t]] := by
  unfold thrN
  rw [List.take_succ_eq_append_getElem ht, List.map_append]; rfl
theorem thrN_len (raw : List (List Int)) (t : Nat) (ht : t ≤ raw.length) : (thrN raw t).length = t := by simp [thrN]; omega

theorem heap_alloc_new2 (w : World) (a b : Obj) : ((w.alloc a).alloc b).heap[w.heap.size + 1]? = some b := by
  have := heap_alloc_new (w.alloc a) b
  simpa using this

theorem insV_one (i : Ins) : ∀ v ∈ insV i, v.oneCell' = true := by
  intro v hv; simp only [insV, List.mem_cons, List.not_mem_nil, or_false] at hv
  rcases hv with rfl | rfl | rfl | rfl <;> rfl

set_option maxHeartbeats 8000000 in
set_option maxRecDepth 100000 in
theorem program_t (raw : List (List Int)) (rv : Value) (w : World) (hR : RawAt w rv raw) (hb : ∀ t (ht : t < raw.length) k (hk : k < raw[t].length), isInt raw[t][k]) :
    Calls Tryz.prog 37 #[rv] w fun e w' => ∃ tv, e = .returned (.agg #[tv]) ∧ ThrAt (w.heap.size + 2) w'.heap.size w' tv (progN raw) ∧ w.grownBy w' none := by
  obtain ⟨i0, hi0, hz0, hz1, hz2⟩ := info_parts info_ins
  obtain ⟨i1, hi1, hy0, hy1, hy2⟩ := info_parts info_code
  obtain ⟨ao, cap, rfl, hR⟩ := hR
  have HR := hide hR
  have HBd := hide hb
  clear hR hb
  go_enter Tryz.func37, Tryz.ntmps37
  go_wp2_with fail
  go_loopw [4] (fun i w' => ∃ t : Nat, t ≤ raw.length ∧ t ≤ 4 ∧ i = .int .i64 t ∧ Hid (ProgOut w raw t w')) (fun i _ => raw.length - (intOf i).toNat)
  case atStart =>
    refine ⟨0, Nat.zero_le _, by omega, rfl, .slice none 0 0, ?_, ⟨[], ⟨rfl, Or.inl ⟨rfl, rfl⟩⟩, fun h e => (by cases e), fun j hj => (by simp [thrN] at hj)⟩, grown_alloc (grown_alloc (grown_refl _ _)), ?_, by simp⟩
    · have := heap_alloc_new (w.alloc (.cells #[.slice none 0 0] 24)) (.cells #[.slice none 0 0] 24)
      simpa using this
    · rw [Below.heap_alloc _ _ _ (by simp)]; exact heap_alloc_new w _
  case round =>
    obtain ⟨t, ht, ht4, rfl, HO⟩ := hrel
    obtain ⟨w3, hw3⟩ : ∃ w3, w3 = wr := ⟨_, rfl⟩
    subst hw3
    by_cases hgo : t < raw.length ∧ t < 4
    · obtain ⟨hlt, hlt4⟩ := hgo
      obtain ⟨pg, po, rfl, r1, hr1, hr2⟩ := HR.out t hlt
      obtain ⟨ra, rc, rfl, _, hr3⟩ := hr2
      have hpr : Pres w w3 := by obtain ⟨tv, _, _, hg, _⟩ := HO.out; exact pres_grown hg
      have hr1' := hpr _ _ hr1
      have HBt := hide (HBd.out t hlt)
      have HR3 := hide hr3
      have HCN : Hid (thrN raw (t + 1) = thrN raw t ++ [codeN raw[t]]) := thrN_succ raw t hlt
      clear hpr hr3
      have q0 : (0 : Int) ≤ (t : Int) := by omega
      have q1 : (t : Int) < raw.length := by omega
      have q2 : (t : Int) < 4 := by omega
      generalize raw[t] = r at *
      by_cases h16 : 16 < r.length
      · have g16 : (16 : Int) < r.length := by omega
        have hCl : (codeN r).length = 16 := by rw [codeN_len]; omega
        have HCl := hide hCl
        have hML : 16 ≤ 16 := by omega
        have hMr : 16 ≤ r.length := by omega
        clear hCl
        go_wp2_with fail
        go_loopw [5, 7] (fun lv i w' => ∃ k : Nat, k ≤ 16 ∧ i = .int .i64 k ∧ Hid (ProgIn w raw t w3.heap.size k (codeN r) lv w')) (fun _ i _ => 16 - (intOf i).toNat)
        case atStart =>
          obtain ⟨tv, o1, o2, o3, o4, o5⟩ := HO.out
          exact ⟨0, Nat.zero_le _, rfl, tv, o1, o2, ⟨rfl, Or.inl ⟨rfl, rfl⟩⟩, o3, o4, o5, Nat.le_refl _⟩
        case round =>
          obtain ⟨k, hk, rfl, HJ⟩ := hrel
          obtain ⟨w4, hw4⟩ : ∃ w4, w4 = wr := ⟨_, rfl⟩
          subst hw4
          by_cases hkl : k < 16
          · have hg4 : w.grownBy w4 none := by obtain ⟨tv, _, _, _, hg, _⟩ := HJ.out; exact hg
            have hkr : k < r.length := by omega
            obtain ⟨ig, io, rfl, _, hic⟩ := HR3.out k hkr
            have hic' := pres_grown hg4 _ _ hic
            have hr1'' : w4.cell? ⟨pg, po + t, none⟩ = some (.slice (some ⟨ig, io, none⟩) r.length rc) := pres_grown hg4 _ _ hr1
            have hbd := HBt.out k hkr
            have q3 : (0 : Int) ≤ (k : Int) := by omega
            have q4 : (k : Int) < r.length := by omega
            have q5 : (k : Int) < 16 := by omega
            have HCk : Hid ((codeN r)[k]? = some (insN r[k] ((16 : Nat) : Int))) := by
              unfold Hid codeN
              have e : min r.length 16 = 16 := by omega
              rw [e]
              simp [List.getElem?_take, hkr]
              omega
            clear hic
            generalize r[k] = c at *
            go_wp2_with fail
            refine (instruction_m c _ hbd.1 hbd.2 (by omega) (by omega) _).mono ?_
            rintro e w5 ⟨rfl, hg5⟩
            have HG5 := hide hg5
            have hsz5 := hg5.size
            clear hg5 hic' hr1''
            generalize hins : insN c (16) = i at *
            clear hins
            have h63 : k + 1 ≤ maxLen := by unfold maxLen; omega
            obtain ⟨tv, j1, j2, j3, j4, j5, j6, j7⟩ := HJ.out
            go_wp2_with (at_builtin; refine wpList_append_lies _ rfl _ _ _ rfl w3.heap.size 74 i0 _ 4 32 Tryz.underlying75 hi0 hz0 hz1 hz2 rfl (by omega) u5 k (insCells ((codeN r).take k)) rfl (owns_grown j3 (grown_alloc (grown_alloc HG5.out)) (fun _ e => by cases e)) ⟨w5.heap.size + 1, 0, none⟩ 1 1 (insV i) rfl rfl (World.news_of_block (cs := #[.int .i64 i.op, .int .i64 i.a, .int .i64 i.b, .int .i64 i.n]) (t := 74) (fr := (0, 0)) (heap_alloc_new2 w5 _ _)) (insV_one i) (by omega) h63 (by omega) (by simp; omega) (w5.heap.size + 2) (by simp) ?_; intro g6 cap6 w6 hown6 hgrow hat hlt6)
            have HNX : Hid (ProgIn w raw t w3.heap.size (k + 1) (codeN r) (.slice (some ⟨g6, 0, none⟩) (k + 1) cap6) w6) := by
              have hob := owns_block j3
              have hgw : w4.grownBy ((w5.alloc (.cells #[.int .i64 i.op, .int .i64 i.a, .int .i64 i.b, .int .i64 i.n] 74)).alloc (.cells #[.int .i64 i.op, .int .i64 i.a, .int .i64 i.b, .int .i64 i.n] 74)) none := grown_alloc (grown_alloc HG5.out)
              have hsz6 := hgrow.size
              simp only [World.size_alloc] at hsz6
              have hfar : ∀ q, q < w3.heap.size → w6.heap[q]? = w4.heap[q]? := fun q hq => by
                rw [hgrow.block q (by simp; omega) (fun e => by have := hob q e.symm; omega), hgw.block q (by omega) (by simp)]
              have hkc : k < (codeN r).length := by rw [HCl.out]; omega
              refine ⟨tv, by rw [hfar _ (by omega)]; exact j1, (j2.step hgw (fun q e => by cases e)).step hgrow (fun q e => Or.inr (hob q e)), ?_, grown_row (grown_trans j4 hgw) hgrow (fun q e => by have := hob q e; have := j4.size; omega), by rw [hfar _ (by omega)]; exact j5, j6, by omega⟩
              rw [List.take_succ_eq_append_getElem hkc, insCells_snoc]
              have e1 : (codeN r)[k] = i := by
                have := HCk.out
                rw [List.getElem?_eq_getElem hkc] at this
                simpa using this
              rw [e1]; exact hown6
            clear j1 j2 j3 j4 j5 j6 j7 hgrow hown6 hat
            go_wp2
            go_roundw
            case rel => exact ⟨k + 1, by omega, by go_num, HNX⟩
            case measure => simp [intOf]; omega
          · have hke : k = 16 := by omega
            have q5 : (16 : Int) ≤ (k : Int) := by omega
            obtain ⟨tv, j1, j2, j3, j4, j5, j6, j7⟩ := HJ.out
            have HJ3 : Hid (CodeRow (w.heap.size + 2) w4.heap.size w4 u5 (codeN r)) := by
              refine ⟨?_, owns_lt j3⟩
              rw [List.take_of_length_le (by rw [HCl.out]; omega)] at j3
              rw [HCl.out, ← hke]
              exact owns_mono j3 (by omega)
            obtain ⟨rows, p1, p2, p3⟩ := j2
            have hTl : (thrN raw t).length = t := thrN_len raw t ht
            rw [hTl] at p1
            have P1 := hide p1
            have J2 : Hid (ThrAt (w.heap.size + 2) w3.heap.size w4 tv (thrN raw t)) := ⟨rows, by rw [hTl]; exact p1, p2, p3⟩
            obtain ⟨tva, tvn, tvc, rfl⟩ := owns_form p1
            have c1 : w4.cell? ⟨w.heap.size + 1, 0, none⟩ = some (.slice tva tvn tvc) := by simp [World.cell?, j1]
            have c1f : w4.frozen? ⟨w.heap.size + 1, 0, none⟩ = false := by simp [World.frozen?, j1]
            obtain ⟨la, ln, lc, rfl⟩ := owns_form HJ3.out.1
            have h63 : t + 1 ≤ maxLen := by unfold maxLen; omega
            have J1 := hide j1
            have J5 := hide j5
            have J4 := hide j4
            clear p1 p2 p3 j1 j5 j4 hke j3
            go_wp2_with (at_builtin; refine wpList_append_lies _ rfl _ _ _ rfl (w.heap.size + 2) 75 i1 _ 1 24 Tryz.underlying22 hi1 hy0 hy1 hy2 rfl (by omega) (.slice tva tvn tvc) t rows rfl (owns_alloc P1.out) ⟨w4.heap.size, 0, none⟩ 1 1 [.slice la ln lc] rfl rfl (World.news_of_block (cs := #[.slice la ln lc]) (t := 75) (fr := (0, 0)) (heap_alloc_new w4 _)) (by simp [Value.oneCell']) (by omega) h63 (by omega) (by simp; omega) (w4.heap.size + 1) (by simp) ?_; intro g6 cap6 w6 hown6 hgrow hat hlt6; have c6 : w6.cell? ⟨w.heap.size + 1, 0, none⟩ = some (.slice tva tvn tvc) := (by rw [hgrow.cell_far _ (by simp; omega) (fun e => by have := owns_block P1.out _ e.symm; simp at this), World.cell?_alloc_lt _ _ _ (by simp; omega)]; exact c1); have c6f : w6.frozen? ⟨w.heap.size + 1, 0, none⟩ = false := (by rw [hgrow.frozen_far _ (by simp; omega) (fun e => by have := owns_block P1.out _ e.symm; simp at this), World.frozen?_alloc_old _ _ _ (by simp; omega)]; exact c1f))
            have HNX : Hid (ProgOut w raw (t + 1) (w6.setCell ⟨w.heap.size + 1, 0, none⟩ (.slice (some ⟨g6, 0, none⟩) (t + 1) cap6))) := by
              have hob := owns_block P1.out
              have hsz6 := hgrow.size
              simp only [World.size_alloc] at hsz6
              have hfar : ∀ q, q < w.heap.size + 2 → w6.heap[q]? = w4.heap[q]? := fun q hq => by
                rw [hgrow.block q (by simp; omega) (fun e => by have := hob q e.symm; omega), Below.heap_alloc _ _ _ (by omega)]
              have hsn := ThrAt.snoc (J2.out.mono (by omega : w3.heap.size ≤ w4.heap.size)) (rows := rows) (by rw [hTl]; exact P1.out) HJ3.out (grown_alloc (grown_refl _ _)) hgrow (tv' := .slice (some ⟨g6, 0, none⟩) (t + 1) cap6) (by rw [hTl]; exact hown6) (by omega) (owns_lt hown6)
              refine ⟨.slice (some ⟨g6, 0, none⟩) (t + 1) cap6, ?_, ?_, ?_, ?_, by simp; omega⟩
              · have := heap_setCell_same w6 (w.heap.size + 1) 0 _ _ (.slice (some ⟨g6, 0, none⟩) (t + 1) cap6) (by rw [hfar _ (by omega)]; exact J1.out)
                simpa using this
              · rw [HCN.out, World.size_setCell]
                exact hsn.step grown_set (fun q e => by cases e; exact Or.inl (by omega))
              · exact grown_setNew (grown_row (grown_alloc J4.out) hgrow (fun q e => by have := hob q e; omega)) (by omega)
              · rw [Below.heap_setCell _ _ _ _ (by simp), hfar _ (by omega)]; exact J5.out
            clear hgrow hown6 hat
            go_wp2
            go_roundw
            case rel => exact ⟨t + 1, by omega, by omega, by go_num, HNX⟩
            case measure => simp [intOf]; omega
      · have g16 : (r.length : Int) ≤ 16 := by omega
        have hCl : (codeN r).length = r.length := by rw [codeN_len]; omega
        have HCl := hide hCl
        have hML : r.length ≤ 16 := by omega
        have hMr : r.length ≤ r.length := by omega
        clear hCl
        go_wp2_with fail
        go_loopw [5, 7] (fun lv i w' => ∃ k : Nat, k ≤ r.length ∧ i = .int .i64 k ∧ Hid (ProgIn w raw t w3.heap.size k (codeN r) lv w')) (fun _ i _ => r.length - (intOf i).toNat)
        case atStart =>
          obtain ⟨tv, o1, o2, o3, o4, o5⟩ := HO.out
          exact ⟨0, Nat.zero_le _, rfl, tv, o1, o2, ⟨rfl, Or.inl ⟨rfl, rfl⟩⟩, o3, o4, o5, Nat.le_refl _⟩
        case round =>
          obtain ⟨k, hk, rfl, HJ⟩ := hrel
          obtain ⟨w4, hw4⟩ : ∃ w4, w4 = wr := ⟨_, rfl⟩
          subst hw4
          by_cases hkl : k < r.length
          · have hg4 : w.grownBy w4 none := by obtain ⟨tv, _, _, _, hg, _⟩ := HJ.out; exact hg
            have hkr : k < r.length := by omega
            obtain ⟨ig, io, rfl, _, hic⟩ := HR3.out k hkr
            have hic' := pres_grown hg4 _ _ hic
            have hr1'' : w4.cell? ⟨pg, po + t, none⟩ = some (.slice (some ⟨ig, io, none⟩) r.length rc) := pres_grown hg4 _ _ hr1
            have hbd := HBt.out k hkr
            have q3 : (0 : Int) ≤ (k : Int) := by omega
            have q4 : (k : Int) < r.length := by omega
            have q5 : (k : Int) < (r.length : Int) := by omega
            have HCk : Hid ((codeN r)[k]? = some (insN r[k] ((r.length : Nat) : Int))) := by
              unfold Hid codeN
              have e : min r.length 16 = r.length := by omega
              rw [e]
              simp [List.getElem?_take, hkr]
              omega
            clear hic
            generalize r[k] = c at *
            go_wp2_with fail
            refine (instruction_m c _ hbd.1 hbd.2 (by omega) (by omega) _).mono ?_
            rintro e w5 ⟨rfl, hg5⟩
            have HG5 := hide hg5
            have hsz5 := hg5.size
            clear hg5 hic' hr1''
            generalize hins : insN c ((r.length : Int)) = i at *
            clear hins
            have h63 : k + 1 ≤ maxLen := by unfold maxLen; omega
            obtain ⟨tv, j1, j2, j3, j4, j5, j6, j7⟩ := HJ.out
            go_wp2_with (at_builtin; refine wpList_append_lies _ rfl _ _ _ rfl w3.heap.size 74 i0 _ 4 32 Tryz.underlying75 hi0 hz0 hz1 hz2 rfl (by omega) u5 k (insCells ((codeN r).take k)) rfl (owns_grown j3 (grown_alloc (grown_alloc HG5.out)) (fun _ e => by cases e)) ⟨w5.heap.size + 1, 0, none⟩ 1 1 (insV i) rfl rfl (World.news_of_block (cs := #[.int .i64 i.op, .int .i64 i.a, .int .i64 i.b, .int .i64 i.n]) (t := 74) (fr := (0, 0)) (heap_alloc_new2 w5 _ _)) (insV_one i) (by omega) h63 (by omega) (by simp; omega) (w5.heap.size + 2) (by simp) ?_; intro g6 cap6 w6 hown6 hgrow hat hlt6)
            have HNX : Hid (ProgIn w raw t w3.heap.size (k + 1) (codeN r) (.slice (some ⟨g6, 0, none⟩) (k + 1) cap6) w6) := by
              have hob := owns_block j3
              have hgw : w4.grownBy ((w5.alloc (.cells #[.int .i64 i.op, .int .i64 i.a, .int .i64 i.b, .int .i64 i.n] 74)).alloc (.cells #[.int .i64 i.op, .int .i64 i.a, .int .i64 i.b, .int .i64 i.n] 74)) none := grown_alloc (grown_alloc HG5.out)
              have hsz6 := hgrow.size
              simp only [World.size_alloc] at hsz6
              have hfar : ∀ q, q < w3.heap.size → w6.heap[q]? = w4.heap[q]? := fun q hq => by
                rw [hgrow.block q (by simp; omega) (fun e => by have := hob q e.symm; omega), hgw.block q (by omega) (by simp)]
              have hkc : k < (codeN r).length := by rw [HCl.out]; omega
              refine ⟨tv, by rw [hfar _ (by omega)]; exact j1, (j2.step hgw (fun q e => by cases e)).step hgrow (fun q e => Or.inr (hob q e)), ?_, grown_row (grown_trans j4 hgw) hgrow (fun q e => by have := hob q e; have := j4.size; omega), by rw [hfar _ (by omega)]; exact j5, j6, by omega⟩
              rw [List.take_succ_eq_append_getElem hkc, insCells_snoc]
              have e1 : (codeN r)[k] = i := by
                have := HCk.out
                rw [List.getElem?_eq_getElem hkc] at this
                simpa using this
              rw [e1]; exact hown6
            clear j1 j2 j3 j4 j5 j6 j7 hgrow hown6 hat
            go_wp2
            go_roundw
            case rel => exact ⟨k + 1, by omega, by go_num, HNX⟩
            case measure => simp [intOf]; omega
          · have hke : k = r.length := by omega
            have q5 : ((r.length : Int) : Int) ≤ (k : Int) := by omega
            obtain ⟨tv, j1, j2, j3, j4, j5, j6, j7⟩ := HJ.out
            have HJ3 : Hid (CodeRow (w.heap.size + 2) w4.heap.size w4 u5 (codeN r)) := by
              refine ⟨?_, owns_lt j3⟩
              rw [List.take_of_length_le (by rw [HCl.out]; omega)] at j3
              rw [HCl.out, ← hke]
              exact owns_mono j3 (by omega)
            obtain ⟨rows, p1, p2, p3⟩ := j2
            have hTl : (thrN raw t).length = t := thrN_len raw t ht
            rw [hTl] at p1
            have P1 := hide p1
            have J2 : Hid (ThrAt (w.heap.size + 2) w3.heap.size w4 tv (thrN raw t)) := ⟨rows, by rw [hTl]; exact p1, p2, p3⟩
            obtain ⟨tva, tvn, tvc, rfl⟩ := owns_form p1
            have c1 : w4.cell? ⟨w.heap.size + 1, 0, none⟩ = some (.slice tva tvn tvc) := by simp [World.cell?, j1]
            have c1f : w4.frozen? ⟨w.heap.size + 1, 0, none⟩ = false := by simp [World.frozen?, j1]
            obtain ⟨la, ln, lc, rfl⟩ := owns_form HJ3.out.1
            have h63 : t + 1 ≤ maxLen := by unfold maxLen; omega
            have J1 := hide j1
            have J5 := hide j5
            have J4 := hide j4
            clear p1 p2 p3 j1 j5 j4 hke j3
            go_wp2_with (at_builtin; refine wpList_append_lies _ rfl _ _ _ rfl (w.heap.size + 2) 75 i1 _ 1 24 Tryz.underlying22 hi1 hy0 hy1 hy2 rfl (by omega) (.slice tva tvn tvc) t rows rfl (owns_alloc P1.out) ⟨w4.heap.size, 0, none⟩ 1 1 [.slice la ln lc] rfl rfl (World.news_of_block (cs := #[.slice la ln lc]) (t := 75) (fr := (0, 0)) (heap_alloc_new w4 _)) (by simp [Value.oneCell']) (by omega) h63 (by omega) (by simp; omega) (w4.heap.size + 1) (by simp) ?_; intro g6 cap6 w6 hown6 hgrow hat hlt6; have c6 : w6.cell? ⟨w.heap.size + 1, 0, none⟩ = some (.slice tva tvn tvc) := (by rw [hgrow.cell_far _ (by simp; omega) (fun e => by have := owns_block P1.out _ e.symm; simp at this), World.cell?_alloc_lt _ _ _ (by simp; omega)]; exact c1); have c6f : w6.frozen? ⟨w.heap.size + 1, 0, none⟩ = false := (by rw [hgrow.frozen_far _ (by simp; omega) (fun e => by have := owns_block P1.out _ e.symm; simp at this), World.frozen?_alloc_old _ _ _ (by simp; omega)]; exact c1f))
            have HNX : Hid (ProgOut w raw (t + 1) (w6.setCell ⟨w.heap.size + 1, 0, none⟩ (.slice (some ⟨g6, 0, none⟩) (t + 1) cap6))) := by
              have hob := owns_block P1.out
              have hsz6 := hgrow.size
              simp only [World.size_alloc] at hsz6
              have hfar : ∀ q, q < w.heap.size + 2 → w6.heap[q]? = w4.heap[q]? := fun q hq => by
                rw [hgrow.block q (by simp; omega) (fun e => by have := hob q e.symm; omega), Below.heap_alloc _ _ _ (by omega)]
              have hsn := ThrAt.snoc (J2.out.mono (by omega : w3.heap.size ≤ w4.heap.size)) (rows := rows) (by rw [hTl]; exact P1.out) HJ3.out (grown_alloc (grown_refl _ _)) hgrow (tv' := .slice (some ⟨g6, 0, none⟩) (t + 1) cap6) (by rw [hTl]; exact hown6) (by omega) (owns_lt hown6)
              refine ⟨.slice (some ⟨g6, 0, none⟩) (t + 1) cap6, ?_, ?_, ?_, ?_, by simp; omega⟩
              · have := heap_setCell_same w6 (w.heap.size + 1) 0 _ _ (.slice (some ⟨g6, 0, none⟩) (t + 1) cap6) (by rw [hfar _ (by omega)]; exact J1.out)
                simpa using this
              · rw [HCN.out, World.size_setCell]
                exact hsn.step grown_set (fun q e => by cases e; exact Or.inl (by omega))
              · exact grown_setNew (grown_row (grown_alloc J4.out) hgrow (fun q e => by have := hob q e; omega)) (by omega)
              · rw [Below.heap_setCell _ _ _ _ (by simp), hfar _ (by omega)]; exact J5.out
            clear hgrow hown6 hat
            go_wp2
            go_roundw
            case rel => exact ⟨t + 1, by omega, by omega, by go_num, HNX⟩
            case measure => simp [intOf]; omega
    · obtain ⟨tv, j1, j2, j4, j5, j6⟩ := HO.out
      have hTe : thrN raw t = thrN raw 4 := by
        unfold thrN
        by_cases h4 : t = 4
        · rw [h4]
        · rw [List.take_of_length_le (by omega), List.take_of_length_le (by omega)]
      have hTl : (thrN raw t).length = t := thrN_len raw t ht
      have HT : Hid (ThrAt (w.heap.size + 2) w3.heap.size w3 tv (thrN raw 4)) := by rw [← hTe]; exact j2
      obtain ⟨rows, p1, p2, p3⟩ := j2
      rw [hTl] at p1
      have P1 := hide p1
      obtain ⟨tva, tvn, tvc, rfl⟩ := owns_form p1
      have hn := owns_lenq p1
      subst hn
      have c1 : w3.cell? ⟨w.heap.size + 1, 0, none⟩ = some (.slice tva tvn tvc) := by simp [World.cell?, j1]
      have c1f : w3.frozen? ⟨w.heap.size + 1, 0, none⟩ = false := by simp [World.frozen?, j1]
      have c2 : w3.cell? ⟨w.heap.size, 0, none⟩ = some (.slice none 0 0) := by simp [World.cell?, j5]
      have c2f : w3.frozen? ⟨w.heap.size, 0, none⟩ = false := by simp [World.frozen?, j5]
      have J1 := hide j1
      have J4 := hide j4
      have J5 := hide j5
      have HTe := hide hTe
      have HTl := hide hTl
      have HNG := hide hgo
      clear p1 p2 p3 j1 j4 j5 hgo hTe hTl
      have q0 : (0 : Int) ≤ (tvn : Int) := by omega
      by_cases h0 : tvn = 0
      · have hr0 : raw.length = 0 := by
          by_cases e : raw.length = 0
          · exact e
          · exact absurd ⟨by omega, by omega⟩ HNG.out
        subst h0
        have hrr : (raw.length : Int) ≤ 0 := by omega
        have HPN : Hid (progN raw = thrN raw 4 ++ [[]]) := by
          unfold Hid progN
          have e : (thrN raw 4).length = 0 := by rw [← HTe.out]; exact HTl.out
          rw [if_pos e, List.length_eq_zero_iff.1 e]; rfl
        go_wp2_with (at_builtin; refine wpList_append_lies _ rfl _ _ _ rfl (w.heap.size + 2) 75 i1 _ 1 24 Tryz.underlying22 hi1 hy0 hy1 hy2 rfl (by omega) (.slice tva 0 tvc) 0 rows rfl (owns_alloc P1.out) ⟨w3.heap.size, 0, none⟩ 1 1 [.slice none 0 0] rfl rfl (World.news_of_block (cs := #[.slice none 0 0]) (t := 75) (fr := (0, 0)) (heap_alloc_new w3 _)) (by simp [Value.oneCell']) (by omega) (by unfold maxLen; omega) (by omega) (by simp; omega) (w3.heap.size + 1) (by simp) ?_; intro g6 cap6 w6 hown6 hgrow hat hlt6; have c6 : w6.cell? ⟨w.heap.size + 1, 0, none⟩ = some (.slice tva 0 tvc) := (by rw [hgrow.cell_far _ (by simp; omega) (fun e => by have := owns_block P1.out _ e.symm; simp at this), World.cell?_alloc_lt _ _ _ (by simp; omega)]; exact c1); have c6f : w6.frozen? ⟨w.heap.size + 1, 0, none⟩ = false := (by rw [hgrow.frozen_far _ (by simp; omega) (fun e => by have := owns_block P1.out _ e.symm; simp at this), World.frozen?_alloc_old _ _ _ (by simp; omega)]; exact c1f); have c7 : w6.cell? ⟨w.heap.size, 0, none⟩ = some (.slice none 0 0) := (by rw [hgrow.cell_far _ (by simp; omega) (fun e => by have := owns_block P1.out _ e.symm; simp at this; omega), World.cell?_alloc_lt _ _ _ (by simp; omega)]; exact c2); have c7f : w6.frozen? ⟨w.heap.size, 0, none⟩ = false := (by rw [hgrow.frozen_far _ (by simp; omega) (fun e => by have := owns_block P1.out _ e.symm; simp at this; omega), World.frozen?_alloc_old _ _ _ (by simp; omega)]; exact c2f))
        have hob := owns_block P1.out
        have hsz6 := hgrow.size
        simp only [World.size_alloc] at hsz6
        have hsn := ThrAt.snoc HT.out (rows := rows) (lv := .slice none 0 0) (c := []) (by rw [← HTe.out, HTl.out]; exact P1.out) ⟨⟨rfl, Or.inl ⟨rfl, rfl⟩⟩, fun h e => by cases e⟩ (grown_alloc (grown_refl _ _)) hgrow (tv' := .slice (some ⟨g6, 0, none⟩) (0 + 1) cap6) (by rw [← HTe.out, HTl.out]; exact hown6) (by omega) (owns_lt hown6)
        rw [← HPN.out] at hsn
        refine bodyPost_ret (v := .agg #[.slice (some ⟨g6, 0, none⟩) (0 + 1) cap6]) ?_ rfl ⟨_, rfl, ?_, ?_⟩
        · simp [results, Tryz.results37, go_sem, c7]
        · exact ((hsn.step grown_set (fun q e => by cases e; exact Or.inl (by omega))).step grown_set (fun q e => by cases e; exact Or.inl (by omega))).mono (by simp)
        · exact grown_setNew (grown_setNew (grown_row (grown_alloc J4.out) hgrow (fun q e => by have := hob q e; omega)) (by omega)) (by omega)
      · have HPN : Hid (progN raw = thrN raw 4) := by
          unfold Hid progN
          have e : (thrN raw 4).length ≠ 0 := by rw [← HTe.out, HTl.out]; exact h0
          rw [if_neg e]
        have hne : ((tvn : Int) == 0) = false := by simpa using h0
        by_cases hlt : tvn < raw.length
        · have g1 : (tvn : Int) < raw.length := by omega
          have g2 : (4 : Int) ≤ tvn := by
            by_cases e : tvn < 4
            · exact absurd ⟨hlt, e⟩ HNG.out
            · omega
          go_wp2_with fail
          rw [HPN.out]
          refine bodyPost_ret (v := .agg #[.slice tva tvn tvc]) ?_ rfl ⟨_, rfl, ?_, ?_⟩
          · simp [results, Tryz.results37, go_sem, c2]
          · exact (HT.out.step grown_set (fun q e => by cases e; exact Or.inl (by omega))).mono (by simp)
          · exact grown_setNew J4.out (by omega)
        · have g1 : (raw.length : Int) ≤ tvn := by omega
          go_wp2_with fail
          rw [HPN.out]
          refine bodyPost_ret (v := .agg #[.slice tva tvn tvc]) ?_ rfl ⟨_, rfl, ?_, ?_⟩
          · simp [results, Tryz.results37, go_sem, c2]
          · exact (HT.out.step grown_set (fun q e => by cases e; exact Or.inl (by omega))).mono (by simp)
          · exact grown_setNew J4.out (by omega)

theorem program_m (raw : List (List Int)) (rv : Value) (w : World) (hR : RawAt w rv raw) (hb : ∀ t (ht : t < raw.length) k (hk : k < raw[t].length), isInt raw[t][k]) :
    Calls Tryz.prog 37 #[rv] w fun e w' => ∃ tv, e = .returned (.agg #[tv]) ∧ ProgAt w' (.agg #[tv]) (progN raw) ∧ w.grownBy w' none :=
  (program_t raw rv w hR hb).mono fun _ _ ⟨tv, h1, h2, h3⟩ => ⟨tv, h1, h2.progAt, h3⟩

end Go.Proofs.YtklenjmfalljgaaGreatDoor

/- Small laws on worlds that are alike, and on rows. -/
namespace Go.Proofs.YtklenjmfalljgaaGreatDoor
open Go.RowKit

theorem like_refl (w : World) : Like w w := ⟨rfl, rfl, rfl, rfl⟩
theorem like_drew {w' w : World} (h : Like w' w) : Like w'.drew w := h
theorem like_dn {w' w : World} (h : Like w' w) (n : Nat) : Like (w'.drewN n) w := by
  have := like_drewN w' n
  exact ⟨this.1.trans h.1, this.2.1.trans h.2.1, this.2.2.1.trans h.2.2.1, this.2.2.2.trans h.2.2.2⟩
theorem owns_setCell {w : World} {base : Nat} {e : TypeId} {size g n cap : Nat} {xs : List Value} (h : w.ownsRow base e size (.slice (some ⟨g, 0, none⟩) n cap) n xs) (j : Nat) (u : Value) :
    (w.setCell ⟨g, j, none⟩ u).ownsRow base e size (.slice (some ⟨g, 0, none⟩) n cap) n (xs.set j u) := by
  obtain ⟨h1, h2⟩ := h
  refine ⟨by simpa using h1, ?_⟩
  rcases h2 with ⟨e1, _⟩ | ⟨g', cap', cur, hv, hb, hh, h3, h4, h5, h6⟩
  · cases e1
  · simp only [Value.slice.injEq, Option.some.injEq, Addr.mk.injEq, true_and, and_true] at hv
    obtain ⟨rfl, rfl⟩ := hv
    exact Or.inr ⟨g, cap, cur.setIfInBounds j u, rfl, hb, heap_setCell_same w g j cur e u hh, h3, h4, by simpa using h5, by rw [← h6, Array.toList_setIfInBounds, List.take_set]⟩
theorem grown_below' {w w' : World} (h : Below w.heap.size w w') : w.grownBy w' none := ⟨h.os, h.tape, h.output, h.size, fun k hk _ => h.block k hk⟩

end Go.Proofs.YtklenjmfalljgaaGreatDoor

/- Texts of schedules, as plain functions on lists of bytes (no dump is named here): the program's way, the reference's way. -/
namespace Go.Proofs.YtklenjmfalljgaaGreatDoor

def isD (b : Nat) : Bool := decide (48 ≤ b) && decide (b ≤ 57)
def nxt (n : Int) (b : Nat) : Int := max n 0 * 10 + ((b : Int) - 48)
def beginsB (m : Int) : Bool := decide (0 < m) && decide (10 * m < 63)
def growsB (n d last : Int) : Bool :=
  !(n == 0) && ((decide (max n 0 * 10 + d ≤ 63) && !(max n 0 * 10 + d == last)) || beginsB (max n 0 * 10 + d))

def thr (last : Int) : Int → List Nat → Int × Nat
  | n, [] => (n, 0)
  | n, b :: r => if (isD b && growsB n ((b : Int) - 48) last) = true then ((thr last (nxt n b) r).1, (thr last (nxt n b) r).2 + 1) else (n, 0)

def cnt : Int → List Nat → Int × Nat
  | n, [] => (n, 0)
  | n, b :: r => if (isD b && !(n == 0 && b == 48)) = true then ((cnt (min (10 * n + ((b : Int) - 48)) 501) r).1, (cnt (min (10 * n + ((b : Int) - 48)) 501) r).2 + 1) else (n, 0)

structure RunP where
  thread : Int
  count : Int
  ok : Bool
  len : Nat

def thrOk (last n : Int) : Bool := !(n == -1) && !(n == last)

def runP (last : Int) (l : List Nat) : RunP :=
  if (thrOk last (thr last (-1) l).1 && (l[(thr last (-1) l).2]? == some 42)) = true then
    ⟨(thr last (-1) l).1, (cnt 0 (l.drop ((thr last (-1) l).2 + 1))).1, decide (1 < (cnt 0 (l.drop ((thr last (-1) l).2 + 1))).1), (thr last (-1) l).2 + 1 + (cnt 0 (l.drop ((thr last (-1) l).2 + 1))).2⟩
  else ⟨(thr last (-1) l).1, 1, thrOk last (thr last (-1) l).1, (thr last (-1) l).2⟩

structure ParP where
  out : List Int
  at_ : Nat
  ok : Bool

def addRun (sch : List Int) (total' count thread : Int) : List Int := if total' < 501 then sch ++ List.replicate count.toNat thread else sch

def loopP : Nat → List Int → Int → Int → Nat → List Nat → ParP
  | 0, _, _, _, _, _ => ⟨[], 0, false⟩
  | f + 1, sch, last, total, at_, l =>
    if (runP last l).ok = true then
      match l.drop (runP last l).len with
      | [] => if min (total + (runP last l).count) 501 = 501 then ⟨[], 0, false⟩ else ⟨addRun sch (min (total + (runP last l).count) 501) (runP last l).count (runP last l).thread, 0, true⟩
      | b :: rest => if b = 32 then loopP f (addRun sch (min (total + (runP last l).count) 501) (runP last l).count (runP last l).thread) (runP last l).thread (min (total + (runP last l).count) 501) (at_ + (runP last l).len + 1) rest
          else ⟨[], at_ + (runP last l).len, false⟩
    else ⟨[], at_ + (runP last l).len, false⟩

def parseP (l : List Nat) : ParP := if l = [] then ⟨[], 0, true⟩ else loopP (l.length + 1) [] (-1) 0 0 l

/- The reference's way. -/
def partsR : List Nat → List (List Nat)
  | [] => [[]]
  | b :: r => if b = 32 then [] :: partsR r else (b :: (partsR r).headD []) :: (partsR r).tail

def halfA (l : List Nat) : List Nat := l.takeWhile (· != 42)
def halfB (l : List Nat) : List Nat := (l.dropWhile (· != 42)).drop 1
def starR (l : List Nat) : Bool := l.any (· == 42)
def plainR (l : List Nat) : Bool := l.all isD && ((l == [48]) || (!(l == []) && !(l.head? == some 48)))
def valueR : Int → List Nat → Int
  | n, [] => min n 1000
  | n, b :: r => if n < 1000 then valueR (10 * n + (((b + 208) % 256 : Nat) : Int)) r else min n 1000

def runR (l : List Nat) (ahead : Int) : Option (Int × Int) :=
  if (!plainR (halfA l) || decide (63 < valueR 0 (halfA l)) || (valueR 0 (halfA l) == ahead)) = true then none
  else if (starR l && (!plainR (halfB l) || decide (valueR 0 (halfB l) < 2))) = true then none
  else if starR l = true then some (valueR 0 (halfA l), valueR 0 (halfB l)) else some (valueR 0 (halfA l), 1)

def beginsR (l : List Nat) (ahead : Int) : Bool :=
  if l = [] then true
  else if (!plainR (halfA l) || decide (63 < valueR 0 (halfA l))) = true then false
  else if starR l = true then !(valueR 0 (halfA l) == ahead) && ((halfB l == []) || (plainR (halfB l) && !(halfB l == [48])))
  else !(valueR 0 (halfA l) == ahead) || (decide (1 ≤ valueR 0 (halfA l)) && decide (valueR 0 (halfA l) ≤ 6))

def fillR (out : List Int) (t n : Int) : List Int := out ++ List.replicate (min n.toNat (501 - out.length)) t

def wholeR : List (List Nat) → Int → List Int → Option (List Int × Int)
  | [], ahead, out => some (out, ahead)
  | q :: qs, ahead, out => match runR q ahead with
    | none => none
    | some (t, n) => wholeR qs t (fillR out t n)

def viable (ahead : Int) (l : List Nat) : Bool :=
  match wholeR (partsR l).dropLast ahead [] with
  | none => false
  | some (_, a) => beginsR ((partsR l).getLastD []) a

def searchR (l : List Nat) : Nat → Nat
  | 0 => 0
  | k + 1 => if viable (-1) (l.take (k + 1)) = true then k + 1 else searchR l k

def parseR (l : List Nat) : ParP :=
  if l = [] then ⟨[], 0, true⟩
  else match wholeR (partsR l) (-1) [] with
    | some (o, _) => if 500 < o.length then ⟨[], 0, false⟩ else ⟨o, 0, true⟩
    | none => ⟨[], searchR l l.length, false⟩

/- Counts. -/
theorem cnt_len (n : Int) (l : List Nat) : (cnt n l).2 ≤ l.length := by
  induction l generalizing n with
  | nil => simp [cnt]
  | cons b r ih => unfold cnt; split
                   · simpa using ih _
                   · simp

theorem cnt_digits (n : Int) (hn : 0 < n) (l : List Nat) (k : Nat) (hk : k ≤ l.length) : (l.take k).all isD = decide (k ≤ (cnt n l).2) := by
  induction l generalizing n k with
  | nil => simp at hk; subst hk; simp [cnt]
  | cons b r ih =>
    cases k with
    | zero => simp
    | succ k =>
      unfold cnt
      cases hd : isD b
      · simp [hd]
      · have h0 : (n == 0) = false := by simp; omega
        simp only [List.take_succ_cons, List.all_cons, hd, Bool.true_and, h0, Bool.false_and, Bool.not_false, if_true]
        have hb : 48 ≤ b ∧ b ≤ 57 := by simpa [isD] using hd
        rw [ih (min (10 * n + ((b : Int) - 48)) 501) (by omega) k (by simpa using hk)]
        simp

theorem cnt_value (n m : Int) (hn : 0 < n) (hm : n = min m 501) (l : List Nat) (h : l.all isD = true) : (cnt n l).1 = min (valueR m l) 501 := by
  induction l generalizing n m with
  | nil => simp [cnt, valueR]; omega
  | cons b r ih =>
    simp only [List.all_cons, Bool.and_eq_true] at h
    have hb : 48 ≤ b ∧ b ≤ 57 := by simpa [isD] using h.1
    unfold cnt valueR
    have h0 : (n == 0) = false := by simp; omega
    simp only [h.1, h0, Bool.true_and, Bool.false_and, Bool.not_false, if_true]
    have e : (((b + 208) % 256 : Nat) : Int) = (b : Int) - 48 := by omega
    rw [e]
    split
    · exact ih _ _ (by omega) (by omega) h.2
    · have : ∀ (x : Int) (l : List Nat), x = 501 → l.all isD = true → (cnt x l).1 = 501 := by
        intro x l hx hl
        induction l generalizing x with
        | nil => simp [cnt, hx]
        | cons c s ih2 =>
          simp only [List.all_cons, Bool.and_eq_true] at hl
          have hc : 48 ≤ c ∧ c ≤ 57 := by simpa [isD] using hl.1
          unfold cnt
          have h0 : (x == 0) = false := by simp; omega
          simp only [hl.1, h0, Bool.true_and, Bool.false_and, Bool.not_false, if_true]
          exact ih2 _ (by omega) hl.2
      rw [this _ r (by omega) h.2]; omega

/-- The digits behind a star: how many are read. -/
theorem cnt_begins (l : List Nat) (k : Nat) (hk : k ≤ l.length) : ((l.take k == []) || (plainR (l.take k) && !(l.take k == [48]))) = decide (k ≤ (cnt 0 l).2) := by
  cases l with
  | nil => simp at hk; subst hk; simp [cnt]
  | cons b r =>
    cases k with
    | zero => simp
    | succ k =>
      unfold cnt plainR
      cases hd : isD b
      · simp [hd]
      · have hb : 48 ≤ b ∧ b ≤ 57 := by simpa [isD] using hd
        by_cases h48 : b = 48
        · subst h48
          simp [hd]
        · have e1 : ((b :: r.take k) == [48]) = false := by
            cases r.take k <;> simp [h48]
          have e2 : (b == 48) = false := by simpa using h48
          simp only [List.take_succ_cons, List.all_cons, hd, Bool.true_and, e1, Bool.false_or, List.head?_cons, e2, Bool.and_false, Bool.not_false, if_true, Bool.and_true]
          rw [cnt_digits (min (10 * 0 + ((b : Int) - 48)) 501) (by omega) r k (by simpa using hk)]
          have e3 : (some b == some 48) = false := by simpa using h48
          simp [h48]

theorem cnt_whole (l : List Nat) (h : (cnt 0 l).2 = l.length) : (cnt 0 l).1 = min (valueR 0 l) 501 := by
  cases l with
  | nil => simp [cnt, valueR]; omega
  | cons b r =>
    unfold cnt at h ⊢
    split at h
    · rename_i hc
      simp only [hc, if_true]
      simp only [Bool.and_eq_true, Bool.not_eq_true'] at hc
      have hb : 48 ≤ b ∧ b ≤ 57 := by simpa [isD] using hc.1
      have h48 : b ≠ 48 := by
        intro e; have := hc.2; simp [e] at this
      unfold valueR
      simp only [show (0 : Int) < 1000 by decide, if_true]
      have e : (((b + 208) % 256 : Nat) : Int) = (b : Int) - 48 := by omega
      rw [e]
      have hlen : (cnt (min (10 * 0 + ((b : Int) - 48)) 501) r).2 = r.length := by simpa using h
      refine cnt_value _ _ (by omega) (by omega) r ?_
      have := cnt_digits (min (10 * 0 + ((b : Int) - 48)) 501) (by omega) r r.length (Nat.le_refl _)
      rw [List.take_length, hlen] at this
      simpa using this
    · simp at h

/- Threads' numbers: two digits at most. -/
theorem thr_closed (last : Int) (l : List Nat) : thr last (-1) l = match l with
    | [] => (-1, 0)
    | b :: r => if isD b = true ∧ (((b : Int) - 48 ≠ last) ∨ (49 ≤ b ∧ b ≤ 54)) then
        (match r with
        | [] => ((b : Int) - 48, 1)
        | c :: _ => if isD c = true ∧ b ≠ 48 ∧ ((b : Int) - 48) * 10 + ((c : Int) - 48) ≤ 63 ∧ ((b : Int) - 48) * 10 + ((c : Int) - 48) ≠ last then (((b : Int) - 48) * 10 + ((c : Int) - 48), 2) else ((b : Int) - 48, 1))
      else (-1, 0) := by
  have stop : ∀ (n : Int) (r : List Nat), 10 ≤ n → thr last n r = (n, 0) := by
    intro n r hn
    cases r with
    | nil => rfl
    | cons c s =>
      unfold thr
      rw [if_neg]
      simp only [isD, growsB, beginsB, Bool.and_eq_true, Bool.or_eq_true, decide_eq_true_eq, Bool.not_eq_true', beq_eq_false_iff_ne]
      omega
  have second : ∀ (b : Nat) (r : List Nat), 48 ≤ b → b ≤ 57 → thr last ((b : Int) - 48) r = match r with
      | [] => ((b : Int) - 48, 0)
      | c :: _ => if isD c = true ∧ b ≠ 48 ∧ ((b : Int) - 48) * 10 + ((c : Int) - 48) ≤ 63 ∧ ((b : Int) - 48) * 10 + ((c : Int) - 48) ≠ last then (((b : Int) - 48) * 10 + ((c : Int) - 48), 1) else ((b : Int) - 48, 0) := by
    intro b r h1 h2
    cases r with
    | nil => rfl
    | cons c s =>
      unfold thr
      simp only
      by_cases hc : isD c = true ∧ b ≠ 48 ∧ ((b : Int) - 48) * 10 + ((c : Int) - 48) ≤ 63 ∧ ((b : Int) - 48) * 10 + ((c : Int) - 48) ≠ last
      · have hd : 48 ≤ c ∧ c ≤ 57 := by simpa [isD] using hc.1
        rw [if_pos hc, if_pos]
        · have e : nxt ((b : Int) - 48) c = ((b : Int) - 48) * 10 + ((c : Int) - 48) := by unfold nxt; rw [Int.max_eq_left (by omega)]
          rw [e, stop _ s (by omega)]
        · simp only [growsB, beginsB, hc.1, Bool.true_and, Bool.and_eq_true, Bool.or_eq_true, decide_eq_true_eq, Bool.not_eq_true', beq_eq_false_iff_ne]
          rw [Int.max_eq_left (by omega)]
          omega
      · rw [if_neg hc, if_neg]
        intro h
        apply hc
        simp only [growsB, beginsB, Bool.and_eq_true, Bool.or_eq_true, decide_eq_true_eq, Bool.not_eq_true', beq_eq_false_iff_ne] at h
        rw [Int.max_eq_left (by omega)] at h
        obtain ⟨ha, hb, hcc⟩ := h
        have hd : 48 ≤ c ∧ c ≤ 57 := by simpa [isD] using ha
        exact ⟨ha, by omega, by omega, by omega⟩
  cases l with
  | nil => rfl
  | cons b r =>
    unfold thr
    simp only
    by_cases hb : isD b = true ∧ (((b : Int) - 48 ≠ last) ∨ (49 ≤ b ∧ b ≤ 54))
    · have hd : 48 ≤ b ∧ b ≤ 57 := by simpa [isD] using hb.1
      rw [if_pos hb, if_pos]
      · have e : nxt (-1) b = (b : Int) - 48 := by unfold nxt; rw [Int.max_eq_right (by omega)]; omega
        rw [e, second b r hd.1 hd.2]
        cases r with
        | nil => rfl
        | cons c s => simp only; split <;> rfl
      · simp only [growsB, beginsB, hb.1, Bool.true_and, Bool.and_eq_true, Bool.or_eq_true, decide_eq_true_eq, Bool.not_eq_true', beq_eq_false_iff_ne]
        rw [Int.max_eq_right (by omega)]
        omega
    · rw [if_neg hb, if_neg]
      intro h
      apply hb
      simp only [growsB, beginsB, Bool.and_eq_true, Bool.or_eq_true, decide_eq_true_eq, Bool.not_eq_true', beq_eq_false_iff_ne] at h
      rw [Int.max_eq_right (by omega)] at h
      obtain ⟨ha, hc, hcc⟩ := h
      exact ⟨ha, by omega⟩

theorem value_d {b : Nat} (h : isD b = true) {n : Int} (hn : n < 1000) (r : List Nat) : valueR n (b :: r) = valueR (10 * n + ((b : Int) - 48)) r := by
  have hb' : 48 ≤ b ∧ b ≤ 57 := by simpa [isD] using h
  have e1 : (((b + 208) % 256 : Nat) : Int) = (b : Int) - 48 := by omega
  rw [valueR, if_pos hn, e1]
theorem value_nil (n : Int) : valueR n [] = min n 1000 := rfl

theorem value_one {b : Nat} (h : isD b = true) : valueR 0 [b] = (b : Int) - 48 := by
  have hb' : 48 ≤ b ∧ b ≤ 57 := by simpa [isD] using h
  rw [value_d h (by omega), value_nil]; omega
theorem value_two {b c : Nat} (h : isD b = true) (h2 : isD c = true) : valueR 0 [b, c] = ((b : Int) - 48) * 10 + ((c : Int) - 48) := by
  have hb' : 48 ≤ b ∧ b ≤ 57 := by simpa [isD] using h
  have hc' : 48 ≤ c ∧ c ≤ 57 := by simpa [isD] using h2
  rw [value_d h (by omega), value_d h2 (by omega), value_nil]; omega

theorem value_big (n : Int) (hn : 64 ≤ n) (l : List Nat) : 63 < valueR n l := by
  induction l generalizing n with
  | nil => unfold valueR; omega
  | cons b r ih =>
    unfold valueR; split
    · exact ih _ (by omega)
    · omega

/-- What stands ahead of a star, if it is a thread's number: one digit or two. -/
theorem ahead_forms (a : List Nat) : (plainR a = true ∧ valueR 0 a ≤ 63) ↔
    (∃ b, a = [b] ∧ isD b = true) ∨ (∃ b c, a = [b, c] ∧ isD b = true ∧ isD c = true ∧ b ≠ 48 ∧ ((b : Int) - 48) * 10 + ((c : Int) - 48) ≤ 63) := by
  constructor
  · rintro ⟨h1, h2⟩
    rcases a with _ | ⟨b, _ | ⟨c, _ | ⟨d, r⟩⟩⟩
    · simp [plainR] at h1
    · left; exact ⟨b, rfl, by simpa [plainR] using h1⟩
    · right
      simp [plainR] at h1
      obtain ⟨⟨hb, hc⟩, h48⟩ := h1
      rw [value_two hb hc] at h2
      exact ⟨b, c, rfl, hb, hc, h48, h2⟩
    · exfalso
      simp [plainR] at h1
      obtain ⟨⟨hb, hc, hd, _⟩, h48⟩ := h1
      have hb' : 48 ≤ b ∧ b ≤ 57 := by simpa [isD] using hb
      have hc' : 48 ≤ c ∧ c ≤ 57 := by simpa [isD] using hc
      have hd' : 48 ≤ d ∧ d ≤ 57 := by simpa [isD] using hd
      rw [value_d hb (by omega), value_d hc (by omega), value_d hd (by omega)] at h2
      have := value_big (10 * (10 * (10 * 0 + ((b : Int) - 48)) + ((c : Int) - 48)) + ((d : Int) - 48)) (by omega) r
      omega
  · rintro (⟨b, rfl, hb⟩ | ⟨b, c, rfl, hb, hc, h48, h63⟩)
    · have hb' : 48 ≤ b ∧ b ≤ 57 := by simpa [isD] using hb
      refine ⟨?_, ?_⟩
      · by_cases h : b = 48
        · subst h; rfl
        · simp [plainR, hb]
      · rw [value_one hb]; omega
    · exact ⟨by simp [plainR, hb, hc, h48], by rw [value_two hb hc]; exact h63⟩

end Go.Proofs.YtklenjmfalljgaaGreatDoor

/- One run of a text: what the program reads of it, what the reference says of it. -/
namespace Go.Proofs.YtklenjmfalljgaaGreatDoor

theorem half_star {a bb : List Nat} (ha : ∀ x ∈ a, x ≠ 42) : halfA (a ++ 42 :: bb) = a ∧ halfB (a ++ 42 :: bb) = bb ∧ starR (a ++ 42 :: bb) = true := by
  induction a with
  | nil => simp [halfA, halfB, starR]
  | cons x a ih =>
    have hx : x ≠ 42 := ha x (by simp)
    obtain ⟨h1, h2, h3⟩ := ih (fun y hy => ha y (by simp [hy]))
    refine ⟨?_, ?_, ?_⟩
    · unfold halfA at *; rw [List.cons_append, List.takeWhile_cons, if_pos (by simpa using hx), h1]
    · unfold halfB at *; rw [List.cons_append, List.dropWhile_cons, if_pos (by simpa using hx), h2]
    · simp [starR]
theorem half_none {a : List Nat} (ha : ∀ x ∈ a, x ≠ 42) : halfA a = a ∧ halfB a = [] ∧ starR a = false := by
  induction a with
  | nil => simp [halfA, halfB, starR]
  | cons x a ih =>
    have hx : x ≠ 42 := ha x (by simp)
    obtain ⟨h1, h2, h3⟩ := ih (fun y hy => ha y (by simp [hy]))
    refine ⟨?_, ?_, ?_⟩
    · unfold halfA at *; rw [List.takeWhile_cons, if_pos (by simpa using hx), h1]
    · unfold halfB at *; rw [List.dropWhile_cons, if_pos (by simpa using hx), h2]
    · unfold starR at *; rw [List.any_cons, h3]; simpa using hx

/-- Nothing that opens otherwise than a thread's number begins a run. -/
theorem begins_bad {l : List Nat} (hl : l ≠ []) (last : Int) (h : ¬ (plainR (halfA l) = true ∧ valueR 0 (halfA l) ≤ 63)) : beginsR l last = false ∧ runR l last = none := by
  have h' : (!plainR (halfA l) || decide (63 < valueR 0 (halfA l))) = true := by
    cases hp : plainR (halfA l)
    · rfl
    · simp only [Bool.not_true, Bool.false_or, decide_eq_true_eq]
      by_cases h2 : valueR 0 (halfA l) ≤ 63
      · exact absurd ⟨hp, h2⟩ h
      · omega
  unfold beginsR runR
  rw [if_neg hl, if_pos h', h', Bool.true_or, if_pos rfl]
  exact ⟨rfl, rfl⟩

theorem begins_star {a bb : List Nat} (ha : ∀ x ∈ a, x ≠ 42) (hp : plainR a = true) (hv : valueR 0 a ≤ 63) (last : Int) :
    beginsR (a ++ 42 :: bb) last = (!(valueR 0 a == last) && ((bb == []) || (plainR bb && !(bb == [48])))) := by
  obtain ⟨h1, h2, h3⟩ := half_star (bb := bb) ha
  unfold beginsR
  rw [if_neg (by simp), h1, h2, h3, hp, if_neg (by simp; omega), if_pos rfl]
theorem begins_plain {a : List Nat} (ha : ∀ x ∈ a, x ≠ 42) (h0 : a ≠ []) (hp : plainR a = true) (hv : valueR 0 a ≤ 63) (last : Int) :
    beginsR a last = (!(valueR 0 a == last) || (decide (1 ≤ valueR 0 a) && decide (valueR 0 a ≤ 6))) := by
  obtain ⟨h1, h2, h3⟩ := half_none ha
  unfold beginsR
  rw [if_neg h0, h1, h3, hp, if_neg (by simp; omega), if_neg (by simp)]
theorem run_star {a bb : List Nat} (ha : ∀ x ∈ a, x ≠ 42) (hp : plainR a = true) (hv : valueR 0 a ≤ 63) (last : Int) (hn : valueR 0 a ≠ last) :
    runR (a ++ 42 :: bb) last = if (!plainR bb || decide (valueR 0 bb < 2)) = true then none else some (valueR 0 a, valueR 0 bb) := by
  obtain ⟨h1, h2, h3⟩ := half_star (bb := bb) ha
  unfold runR
  rw [h1, h2, h3, hp, if_neg (by simp; exact ⟨by omega, hn⟩), Bool.true_and, if_pos rfl]
theorem run_same {l : List Nat} {last : Int} (hn : valueR 0 (halfA l) = last) : runR l last = none := by
  unfold runR
  rw [if_pos]; simp [hn]
theorem run_plain {a : List Nat} (ha : ∀ x ∈ a, x ≠ 42) (hp : plainR a = true) (hv : valueR 0 a ≤ 63) (last : Int) (hn : valueR 0 a ≠ last) :
    runR a last = some (valueR 0 a, 1) := by
  obtain ⟨h1, h2, h3⟩ := half_none ha
  unfold runR
  rw [h1, h3, hp, if_neg (by simp; exact ⟨by omega, hn⟩), if_neg (by simp), if_neg (by simp)]

/-- What one run's reading and the reference have to do with one another. -/
structure Auto (last : Int) (q : List Nat) : Prop where
  len : (runP last q).len ≤ q.length
  pre : ∀ k, k ≤ q.length → beginsR (q.take k) last = decide (k ≤ (runP last q).len)
  yes : ∀ t n, runR q last = some (t, n) → (runP last q).ok = true ∧ (runP last q).len = q.length ∧ (runP last q).thread = t ∧ (runP last q).count = min n 501 ∧ 1 ≤ n
  no : runR q last = none → (runP last q).ok = true → (runP last q).len ≠ q.length

theorem begins_nil (last : Int) : beginsR [] last = true := rfl

theorem digit_ne {b : Nat} (h : isD b = true) : b ≠ 42 ∧ b ≠ 32 := by
  have : 48 ≤ b ∧ b ≤ 57 := by simpa [isD] using h
  omega

/-- Behind a thread's number stands a star. -/
theorem auto_star (last : Int) (a bb : List Nat) (ha : ∀ x ∈ a, x ≠ 42) (hp : plainR a = true) (hv : valueR 0 a ≤ 63) (hn : valueR 0 a ≠ last) (hn0 : 0 ≤ valueR 0 a)
    (ht : thr last (-1) (a ++ 42 :: bb) = (valueR 0 a, a.length)) (hpre : ∀ k, k ≤ a.length → beginsR (a.take k) last = true) : Auto last (a ++ 42 :: bb) := by
  have e : runP last (a ++ 42 :: bb) = ⟨valueR 0 a, (cnt 0 bb).1, decide (1 < (cnt 0 bb).1), a.length + 1 + (cnt 0 bb).2⟩ := by
    unfold runP
    rw [ht]
    have e1 : (a ++ 42 :: bb)[a.length]? = some 42 := by simp
    have e2 : (a ++ 42 :: bb).drop (a.length + 1) = bb := by
      rw [List.drop_append]; simp
    have e3 : thrOk last (valueR 0 a) = true := by
      simp only [thrOk, Bool.and_eq_true, Bool.not_eq_true', beq_eq_false_iff_ne]; exact ⟨by omega, hn⟩
    simp only [e1, e2, e3, Bool.true_and, beq_self_eq_true, if_true]
  have hc := cnt_len 0 bb
  have hk : ∀ k, k ≤ bb.length → beginsR (a ++ 42 :: bb.take k) last = decide (k ≤ (cnt 0 bb).2) := by
    intro k hk
    rw [begins_star ha hp hv, cnt_begins bb k hk]
    have : (valueR 0 a == last) = false := by simpa using hn
    rw [this]; simp
  refine ⟨?_, ?_, ?_, ?_⟩
  · rw [e]; simp; omega
  · intro k hkl
    rw [e]
    simp only
    by_cases h : k ≤ a.length
    · rw [List.take_append_of_le_length h, hpre k h]; symm; simp; omega
    · obtain ⟨j, rfl⟩ : ∃ j, k = a.length + 1 + j := ⟨k - (a.length + 1), by omega⟩
      have e4 : (a ++ 42 :: bb).take (a.length + 1 + j) = a ++ 42 :: bb.take j := by
        rw [List.take_append, List.take_of_length_le (by omega)]
        have : a.length + 1 + j - a.length = j + 1 := by omega
        rw [this, List.take_succ_cons]
      have hj : j ≤ bb.length := by simp at hkl; omega
      rw [e4, hk j hj]
      by_cases h5 : j ≤ (cnt 0 bb).2 <;> simp [h5] <;> omega
  · intro t n h
    rw [run_star ha hp hv last hn] at h
    split at h
    · cases h
    · rename_i hb
      simp only [Option.some.injEq, Prod.mk.injEq] at h
      obtain ⟨rfl, rfl⟩ := h
      simp only [Bool.or_eq_true, Bool.not_eq_true', decide_eq_true_eq, not_or, Bool.not_eq_false] at hb
      have hne : bb ≠ [] := by intro h0; rw [h0] at hb; simp [plainR] at hb
      have h48 : bb ≠ [48] := by intro h0; rw [h0] at hb; exact hb.2 (by rw [value_one (by rfl)]; omega)
      have h6 := cnt_begins bb bb.length (Nat.le_refl _)
      rw [List.take_length, hb.1] at h6
      have h7 : (bb == []) = false := by simpa using hne
      have h8 : (bb == [48]) = false := by simpa using h48
      rw [h7, h8] at h6
      have h9 : bb.length ≤ (cnt 0 bb).2 := by simpa using h6.symm
      have h10 := cnt_whole bb (by omega)
      rw [e]
      refine ⟨?_, ?_, rfl, h10, by omega⟩
      · simp only [decide_eq_true_eq]; omega
      · simp; omega
  · intro h hok
    rw [e] at hok ⊢
    simp only [decide_eq_true_eq] at hok
    rw [run_star ha hp hv last hn] at h
    split at h
    · rename_i hb
      simp only [List.length_append, List.length_cons]
      intro hl
      have h10 := cnt_whole bb (by omega)
      have h6 := cnt_begins bb bb.length (Nat.le_refl _)
      rw [List.take_length] at h6
      have h9 : decide (bb.length ≤ (cnt 0 bb).2) = true := by simp; omega
      rw [h9] at h6
      have hne : bb ≠ [] := by intro h0; rw [h0] at hok; simp [cnt] at hok
      have h7 : (bb == []) = false := by simpa using hne
      rw [h7, Bool.false_or] at h6
      simp only [Bool.and_eq_true] at h6
      rw [h6.1] at hb
      simp only [Bool.not_true, Bool.false_or, decide_eq_true_eq] at hb
      omega
    · cases h

/-- A thread's number at which the reading ends. -/
theorem auto_stop (last : Int) (a r : List Nat) (n : Int) (ht : thr last (-1) (a ++ r) = (n, a.length)) (hpre : ∀ k, k ≤ a.length → beginsR (a.take k) last = true)
    (hok : (thrOk last n && (r.head? == some 42)) = false)
    (hpost : ∀ k, 0 < k → k ≤ r.length → beginsR (a ++ r.take k) last = false)
    (hyes : ∀ t m, runR (a ++ r) last = some (t, m) → thrOk last n = true ∧ r = [] ∧ n = t ∧ m = 1)
    (hno : runR (a ++ r) last = none → thrOk last n = true → r ≠ []) : Auto last (a ++ r) := by
  have e : runP last (a ++ r) = ⟨n, 1, thrOk last n, a.length⟩ := by
    unfold runP
    rw [ht]
    have e1 : (a ++ r)[a.length]? = r.head? := by rw [List.getElem?_append_right (Nat.le_refl _)]; simp [List.head?_eq_getElem?]
    simp only [e1, hok]
    simp
  refine ⟨?_, ?_, ?_, ?_⟩
  · rw [e]; simp
  · intro k hk
    rw [e]
    simp only
    by_cases h : k ≤ a.length
    · rw [List.take_append_of_le_length h, hpre k h]; symm; simpa using h
    · have e4 : (a ++ r).take k = a ++ r.take (k - a.length) := by rw [List.take_append, List.take_of_length_le (by omega)]
      rw [e4, hpost _ (by omega) (by simp at hk; omega)]; symm; simpa using h
  · intro t m h
    obtain ⟨h1, rfl, rfl, rfl⟩ := hyes t m h
    rw [e]; simp [h1]; omega
  · intro h h1
    rw [e] at h1 ⊢
    have := hno h h1
    simp
    exact this

theorem auto (last : Int) (q : List Nat) : Auto last q := by
  have T := thr_closed last q
  rcases q with _ | ⟨b, r⟩
  · refine auto_stop last [] [] (-1) T (fun k hk => ?_) rfl (fun k h1 h2 => by simp at h2; omega) ?_ ?_
    · simp [begins_nil]
    · intro t m h; simp [runR, halfA, plainR] at h
    · intro _ h; simp [thrOk] at h
  · simp only at T
    by_cases hb : isD b = true ∧ (((b : Int) - 48 ≠ last) ∨ (49 ≤ b ∧ b ≤ 54))
    · rw [if_pos hb] at T
      obtain ⟨hd, hb2⟩ := hb
      have hb42 := digit_ne hd
      have hbr : 48 ≤ b ∧ b ≤ 57 := by simpa [isD] using hd
      have p1 := (ahead_forms [b]).2 (Or.inl ⟨b, rfl, hd⟩)
      have v1 := value_one hd
      have n1 : ∀ x ∈ [b], x ≠ 42 := by simp; exact hb42.1
      have b1 : beginsR [b] last = true := by
        rw [begins_plain n1 (by simp) p1.1 p1.2, v1]
        simp; omega
      have pre1 : ∀ k, k ≤ [b].length → beginsR ([b].take k) last = true := by
        intro k hk
        have : k = 0 ∨ k = 1 := by simp at hk; omega
        rcases this with rfl | rfl
        · rfl
        · exact b1
      rcases r with _ | ⟨c, r⟩
      · refine auto_stop last [b] [] ((b : Int) - 48) T pre1 (by simp) (fun k h1 h2 => by simp at h2; omega) ?_ ?_
        · intro t m h
          by_cases hv : (b : Int) - 48 = last
          · rw [run_same (by rw [(half_none (by simpa using n1)).1, List.append_nil, v1]; exact hv)] at h; cases h
          · rw [List.append_nil, run_plain n1 p1.1 p1.2 last (by rw [v1]; exact hv), v1] at h
            simp only [Option.some.injEq, Prod.mk.injEq] at h
            exact ⟨by simp [thrOk, hv]; omega, rfl, h.1, h.2.symm⟩
        · intro h h2
          by_cases hv : (b : Int) - 48 = last
          · simp [thrOk, hv] at h2
          · rw [List.append_nil, run_plain n1 p1.1 p1.2 last (by rw [v1]; exact hv)] at h; cases h
      · by_cases hc : isD c = true ∧ b ≠ 48 ∧ ((b : Int) - 48) * 10 + ((c : Int) - 48) ≤ 63 ∧ ((b : Int) - 48) * 10 + ((c : Int) - 48) ≠ last
        · simp only [if_pos hc] at T
          obtain ⟨hdc, h48, h63, hl⟩ := hc
          have hc42 := digit_ne hdc
          have hcr : 48 ≤ c ∧ c ≤ 57 := by simpa [isD] using hdc
          have p2 := (ahead_forms [b, c]).2 (Or.inr ⟨b, c, rfl, hd, hdc, h48, h63⟩)
          have v2 := value_two hd hdc
          have n2 : ∀ x ∈ [b, c], x ≠ 42 := by simp; exact ⟨hb42.1, hc42.1⟩
          have b2 : beginsR [b, c] last = true := by
            rw [begins_plain n2 (by simp) p2.1 p2.2, v2]
            simp; omega
          have pre2 : ∀ k, k ≤ [b, c].length → beginsR ([b, c].take k) last = true := by
            intro k hk
            have : k = 0 ∨ k = 1 ∨ k = 2 := by simp at hk; omega
            rcases this with rfl | rfl | rfl
            · rfl
            · exact b1
            · exact b2
          have ok2 : thrOk last (((b : Int) - 48) * 10 + ((c : Int) - 48)) = true := by
            simp only [thrOk, Bool.and_eq_true, Bool.not_eq_true', beq_eq_false_iff_ne]; exact ⟨by omega, hl⟩
          by_cases hs : r.head? = some 42
          · obtain ⟨bb, rfl⟩ : ∃ bb, r = 42 :: bb := by
              cases r with
              | nil => simp at hs
              | cons x bb => simp at hs; exact ⟨bb, by rw [hs]⟩
            exact auto_star last [b, c] bb n2 p2.1 p2.2 (by rw [v2]; exact hl) (by rw [v2]; omega) (by rw [v2]; exact T) pre2
          · have three : ∀ d s, d ≠ 42 → ¬ (plainR (halfA (b :: c :: d :: s)) = true ∧ valueR 0 (halfA (b :: c :: d :: s)) ≤ 63) := by
              intro d s hd42
              have e : halfA (b :: c :: d :: s) = b :: c :: d :: halfA s := by
                unfold halfA
                rw [List.takeWhile_cons, if_pos (by simpa using hb42.1), List.takeWhile_cons, if_pos (by simpa using hc42.1), List.takeWhile_cons, if_pos (by simpa using hd42)]
              rw [e, ahead_forms]
              simp
            refine auto_stop last [b, c] r _ T pre2 (by rw [ok2]; simpa using hs) ?_ ?_ ?_
            · intro k h1 h2
              rcases r with _ | ⟨d, s⟩
              · simp at h2; omega
              · obtain ⟨j, rfl⟩ : ∃ j, k = j + 1 := ⟨k - 1, by omega⟩
                exact (begins_bad (by simp) last (three d (s.take j) (by simpa using hs))).1
            · intro t m h
              rcases r with _ | ⟨d, s⟩
              · rw [List.append_nil, run_plain n2 p2.1 p2.2 last (by rw [v2]; exact hl), v2] at h
                simp only [Option.some.injEq, Prod.mk.injEq] at h
                exact ⟨ok2, rfl, h.1, h.2.symm⟩
              · rw [show [b, c] ++ d :: s = b :: c :: d :: s from rfl, (begins_bad (by simp) last (three d s (by simpa using hs))).2] at h; cases h
            · intro h _
              rcases r with _ | ⟨d, s⟩
              · rw [List.append_nil, run_plain n2 p2.1 p2.2 last (by rw [v2]; exact hl)] at h; cases h
              · simp
        · simp only [if_neg hc] at T
          by_cases hs : c = 42
          · subst hs
            by_cases hv : (b : Int) - 48 = last
            · have same : ∀ s, halfA (b :: 42 :: s) = [b] := fun s => (half_star (a := [b]) (bb := s) n1).1
              refine auto_stop last [b] (42 :: r) _ T pre1 (by simp [thrOk, hv]) ?_ ?_ ?_
              · intro k h1 h2
                obtain ⟨j, rfl⟩ : ∃ j, k = j + 1 := ⟨k - 1, by omega⟩
                rw [List.take_succ_cons, begins_star n1 p1.1 p1.2, v1]
                simp [hv]
              · intro t m h
                rw [run_same (by rw [show [b] ++ 42 :: r = b :: 42 :: r from rfl, same, v1]; exact hv)] at h; cases h
              · intro _ h; simp [thrOk, hv] at h
            · exact auto_star last [b] r n1 p1.1 p1.2 (by rw [v1]; exact hv) (by rw [v1]; omega) (by rw [v1]; exact T) pre1
          · have two : ∀ s, (plainR (halfA (b :: c :: s)) = true ∧ valueR 0 (halfA (b :: c :: s)) ≤ 63) → halfA (b :: c :: s) = [b, c] ∧ isD c = true ∧ b ≠ 48 ∧ ((b : Int) - 48) * 10 + ((c : Int) - 48) = last := by
              intro s h
              have e : halfA (b :: c :: s) = b :: c :: halfA s := by
                unfold halfA
                rw [List.takeWhile_cons, if_pos (by simpa using hb42.1), List.takeWhile_cons, if_pos (by simpa using hs)]
              rw [e, ahead_forms] at h
              rcases h with ⟨b', h, _⟩ | ⟨b', c', h, h1, h2, h3, h4⟩
              · simp at h
              · simp only [List.cons.injEq] at h
                obtain ⟨rfl, rfl, h5⟩ := h
                refine ⟨by rw [e, h5], h2, h3, ?_⟩
                by_cases h6 : ((b : Int) - 48) * 10 + ((c : Int) - 48) = last
                · exact h6
                · exact absurd ⟨h2, h3, h4, h6⟩ hc
            have no2 : ∀ s, runR (b :: c :: s) last = none := by
              intro s
              by_cases h : plainR (halfA (b :: c :: s)) = true ∧ valueR 0 (halfA (b :: c :: s)) ≤ 63
              · obtain ⟨h1, h2, _, h3⟩ := two s h
                exact run_same (by rw [h1, value_two hd h2]; exact h3)
              · exact (begins_bad (by simp) last h).2
            refine auto_stop last [b] (c :: r) _ T pre1 (by simp [hs]) ?_ ?_ ?_
            · intro k h1 h2
              obtain ⟨j, rfl⟩ : ∃ j, k = j + 1 := ⟨k - 1, by omega⟩
              rw [List.take_succ_cons]
              by_cases h : plainR (halfA (b :: c :: r.take j)) = true ∧ valueR 0 (halfA (b :: c :: r.take j)) ≤ 63
              · obtain ⟨h1, h2, h48, h3⟩ := two _ h
                have hcr : 48 ≤ c ∧ c ≤ 57 := by simpa [isD] using h2
                have hv2 := value_two hd h2
                show beginsR (b :: c :: r.take j) last = false
                unfold beginsR
                rw [if_neg (by simp), h1, hv2, h3, if_neg (by rw [h1] at h; simp [h.1]; rw [hv2] at h; omega)]
                split
                · simp
                · simp; omega
              · exact (begins_bad (by simp) last h).1
            · intro t m h
              rw [show [b] ++ c :: r = b :: c :: r from rfl, no2] at h; cases h
            · intro _ _; simp
    · rw [if_neg hb] at T
      have bad : ∀ s, beginsR (b :: s) last = false ∧ runR (b :: s) last = none := by
        intro s
        by_cases h : plainR (halfA (b :: s)) = true ∧ valueR 0 (halfA (b :: s)) ≤ 63
        · have hf := (ahead_forms _).1 h
          have hh : ∃ s', halfA (b :: s) = b :: s' := by
            unfold halfA
            rw [List.takeWhile_cons]
            split
            · exact ⟨_, rfl⟩
            · rename_i h42
              rw [halfA, List.takeWhile_cons, if_neg h42] at h
              simp [plainR] at h
          obtain ⟨s', hs'⟩ := hh
          rw [hs'] at hf
          rcases hf with ⟨b', h1, h2⟩ | ⟨b', c', h1, h2, h3, h4, h5⟩
          · simp only [List.cons.injEq] at h1
            obtain ⟨rfl, rfl⟩ := h1
            have hv : (b : Int) - 48 = last ∧ ¬ (49 ≤ b ∧ b ≤ 54) := by
              refine ⟨?_, fun h6 => hb ⟨h2, Or.inr h6⟩⟩
              by_cases h6 : (b : Int) - 48 = last
              · exact h6
              · exact absurd ⟨h2, Or.inl h6⟩ hb
            have hbr : 48 ≤ b ∧ b ≤ 57 := by simpa [isD] using h2
            have hv1 := value_one h2
            refine ⟨?_, run_same (by rw [hs', hv1]; exact hv.1)⟩
            unfold beginsR
            rw [if_neg (by simp), hs', hv1, hv.1, if_neg (by rw [hs'] at h; simp [h.1]; rw [hv1] at h; omega)]
            split
            · simp
            · simp; omega
          · simp only [List.cons.injEq] at h1
            obtain ⟨rfl, rfl⟩ := h1
            have hbr : 48 ≤ b ∧ b ≤ 57 := by simpa [isD] using h2
            have hcr : 48 ≤ c' ∧ c' ≤ 57 := by simpa [isD] using h3
            exact absurd ⟨h2, Or.inr (by omega)⟩ hb
        · exact begins_bad (by simp) last h
      refine auto_stop last [] (b :: r) (-1) T (fun k hk => by simp [begins_nil]) (by simp [thrOk]) ?_ ?_ ?_
      · intro k h1 h2
        obtain ⟨j, rfl⟩ : ∃ j, k = j + 1 := ⟨k - 1, by omega⟩
        exact (bad _).1
      · intro t m h; rw [List.nil_append, (bad r).2] at h; cases h
      · intro _ h; simp [thrOk] at h

end Go.Proofs.YtklenjmfalljgaaGreatDoor

/- The program's way through a text and the reference's come to the same. -/
namespace Go.Proofs.YtklenjmfalljgaaGreatDoor

theorem thr_len (last n : Int) (l : List Nat) : (thr last n l).2 ≤ l.length := by
  induction l generalizing n with
  | nil => simp [thr]
  | cons b r ih =>
    unfold thr
    split
    · simpa using ih _
    · simp
theorem thr_blank (last n : Int) (q u : List Nat) : thr last n (q ++ 32 :: u) = thr last n q := by
  induction q generalizing n with
  | nil => simp [thr, isD]
  | cons b r ih => simp only [List.cons_append, thr, ih]
theorem cnt_blank (n : Int) (q u : List Nat) : cnt n (q ++ 32 :: u) = cnt n q := by
  induction q generalizing n with
  | nil => simp [cnt, isD]
  | cons b r ih => simp only [List.cons_append, cnt, ih]

theorem runP_blank (last : Int) (q u : List Nat) : runP last (q ++ 32 :: u) = runP last q := by
  have hl := thr_len last (-1) q
  unfold runP
  rw [thr_blank]
  generalize (thr last (-1) q).2 = j at *
  by_cases h : j < q.length
  · have e1 : (q ++ 32 :: u)[j]? = q[j]? := List.getElem?_append_left h
    have e2 : (q ++ 32 :: u).drop (j + 1) = q.drop (j + 1) ++ 32 :: u := by
      rw [List.drop_append]
      have : j + 1 - q.length = 0 := by omega
      rw [this, List.drop_zero]
    rw [e1, e2, cnt_blank]
  · obtain rfl : j = q.length := by omega
    have e1 : (q ++ 32 :: u)[q.length]? = some 32 := by simp
    have e2 : q[q.length]? = none := by simp
    rw [e1, e2]
    have e3 : ((some 32 : Option Nat) == some 42) = false := by decide
    have e4 : ((none : Option Nat) == some 42) = false := by decide
    rw [e3, e4]
    simp

theorem parts_one (q : List Nat) (h : ∀ x ∈ q, x ≠ 32) : partsR q = [q] := by
  induction q with
  | nil => rfl
  | cons b r ih =>
    have hb : b ≠ 32 := h b (by simp)
    rw [partsR, if_neg hb, ih (fun x hx => h x (by simp [hx]))]; rfl
theorem parts_two (q u : List Nat) (h : ∀ x ∈ q, x ≠ 32) : partsR (q ++ 32 :: u) = q :: partsR u := by
  induction q with
  | nil => simp [partsR]
  | cons b r ih =>
    have hb : b ≠ 32 := h b (by simp)
    rw [List.cons_append, partsR, if_neg hb, ih (fun x hx => h x (by simp [hx]))]; rfl
theorem parts_ne (l : List Nat) : partsR l ≠ [] := by
  cases l with
  | nil => simp [partsR]
  | cons b r => unfold partsR; split <;> simp

theorem split_blank (l : List Nat) : (∀ x ∈ l, x ≠ 32) ∨ ∃ q u, l = q ++ 32 :: u ∧ ∀ x ∈ q, x ≠ 32 := by
  induction l with
  | nil => left; simp
  | cons b r ih =>
    by_cases hb : b = 32
    · right; exact ⟨[], r, by simp [hb], by simp⟩
    · rcases ih with h | ⟨q, u, rfl, h⟩
      · left
        intro x hx
        rcases List.mem_cons.1 hx with rfl | hx
        · exact hb
        · exact h x hx
      · right
        refine ⟨b :: q, u, rfl, ?_⟩
        intro x hx
        rcases List.mem_cons.1 hx with rfl | hx
        · exact hb
        · exact h x hx

/-- Whether runs are runs does not hang on what was there. -/
theorem whole_out (qs : List (List Nat)) (ahead : Int) (o o' : List Int) : (wholeR qs ahead o).map (·.2) = (wholeR qs ahead o').map (·.2) := by
  induction qs generalizing ahead o o' with
  | nil => rfl
  | cons q qs ih =>
    unfold wholeR
    cases runR q ahead with
    | none => rfl
    | some x => exact ih _ _ _

theorem viable_eq (ahead : Int) (l : List Nat) : viable ahead l = match (wholeR (partsR l).dropLast ahead []).map (·.2) with
    | none => false
    | some a => beginsR ((partsR l).getLastD []) a := by
  unfold viable
  cases wholeR (partsR l).dropLast ahead [] <;> rfl

theorem viable_one (ahead : Int) (q : List Nat) (h : ∀ x ∈ q, x ≠ 32) : viable ahead q = beginsR q ahead := by
  unfold viable; rw [parts_one q h]; rfl
theorem viable_two (ahead : Int) (q u : List Nat) (h : ∀ x ∈ q, x ≠ 32) : viable ahead (q ++ 32 :: u) = match runR q ahead with
    | none => false
    | some x => viable x.1 u := by
  rw [viable_eq, parts_two q u h]
  have e1 : (q :: partsR u).dropLast = q :: (partsR u).dropLast := by rw [List.dropLast_cons_of_ne_nil (parts_ne u)]
  have e2 : (q :: partsR u).getLastD [] = (partsR u).getLastD [] := by
    cases hp : partsR u with
    | nil => exact absurd hp (parts_ne u)
    | cons a b => rfl
  rw [e1, e2, wholeR]
  cases runR q ahead with
  | none => rfl
  | some x =>
    simp only
    rw [viable_eq, whole_out _ _ _ []]

/-- m is the length of the longest beginning of l that may begin runs behind one of a thread. -/
structure IsLng (ahead : Int) (l : List Nat) (m : Nat) : Prop where
  le : m ≤ l.length
  yes : viable ahead (l.take m) = true
  no : ∀ k, m < k → k ≤ l.length → viable ahead (l.take k) = false

theorem search_lng {l : List Nat} {m : Nat} (h : IsLng (-1) l m) (n : Nat) (hm : m ≤ n) (hn : n ≤ l.length) : searchR l n = m := by
  induction n with
  | zero => simp [searchR]; omega
  | succ n ih =>
    unfold searchR
    by_cases e : m = n + 1
    · rw [if_pos]
      · exact e.symm
      · rw [← e]; exact h.yes
    · rw [if_neg (by rw [h.no (n + 1) (by omega) hn]; simp)]
      exact ih (by omega) (by omega)

theorem take_blank {q u : List Nat} {k : Nat} (h : k ≤ q.length) : (q ++ 32 :: u).take k = q.take k := List.take_append_of_le_length h
theorem take_mem {q : List Nat} (h : ∀ x ∈ q, x ≠ 32) (k : Nat) : ∀ x ∈ q.take k, x ≠ 32 := fun x hx => h x (List.mem_of_mem_take hx)
theorem take_over (q u : List Nat) (j : Nat) : (q ++ 32 :: u).take (q.length + 1 + j) = q ++ 32 :: u.take j := by
  rw [List.take_append, List.take_of_length_le (by omega)]
  have : q.length + 1 + j - q.length = j + 1 := by omega
  rw [this, List.take_succ_cons]

theorem lng_one {last : Int} {q : List Nat} (h : ∀ x ∈ q, x ≠ 32) : IsLng last q (runP last q).len := by
  have A := auto last q
  refine ⟨A.len, ?_, ?_⟩
  · rw [viable_one _ _ (take_mem h _), A.pre _ A.len]; simp
  · intro k h1 h2
    rw [viable_one _ _ (take_mem h _), A.pre _ h2]; simp; omega
theorem lng_two_bad {last : Int} {q u : List Nat} (h : ∀ x ∈ q, x ≠ 32) (hr : runR q last = none) : IsLng last (q ++ 32 :: u) (runP last q).len := by
  have A := auto last q
  have hl := A.len
  refine ⟨by simp; omega, ?_, ?_⟩
  · rw [take_blank A.len, viable_one _ _ (take_mem h _), A.pre _ A.len]; simp
  · intro k h1 h2
    by_cases h3 : k ≤ q.length
    · rw [take_blank h3, viable_one _ _ (take_mem h _), A.pre _ h3]; simp; omega
    · obtain ⟨j, rfl⟩ : ∃ j, k = q.length + 1 + j := ⟨k - (q.length + 1), by omega⟩
      rw [take_over, viable_two _ _ _ h, hr]
theorem lng_two {last t n : Int} {q u : List Nat} {m : Nat} (h : ∀ x ∈ q, x ≠ 32) (hr : runR q last = some (t, n)) (hm : IsLng t u m) : IsLng last (q ++ 32 :: u) (q.length + 1 + m) := by
  have hl := hm.le
  refine ⟨by simp; omega, ?_, ?_⟩
  · rw [take_over, viable_two _ _ _ h, hr]; exact hm.yes
  · intro k h1 h2
    obtain ⟨j, rfl⟩ : ∃ j, k = q.length + 1 + j := ⟨k - (q.length + 1), by omega⟩
    rw [take_over, viable_two _ _ _ h, hr]
    exact hm.no j (by omega) (by simp at h2; omega)

theorem loop_eq (f : Nat) (sch out : List Int) (last total : Int) (at_ : Nat) (l : List Nat) (hf : l.length < f) (ht : total = out.length) (hs : total < 501 → sch = out) (h501 : total ≤ 501) :
    match wholeR (partsR l) last out with
    | some (o, _) => loopP f sch last total at_ l = if 500 < o.length then ⟨[], 0, false⟩ else ⟨o, 0, true⟩
    | none => ∃ m, IsLng last l m ∧ loopP f sch last total at_ l = ⟨[], at_ + m, false⟩ := by
  induction f generalizing sch out last total at_ l with
  | zero => omega
  | succ f ih =>
    have next : ∀ (q : List Nat) (t n : Int), runR q last = some (t, n) → min (total + (runP last q).count) 501 = ((fillR out t n).length : Int) ∧
        (min (total + (runP last q).count) 501 < 501 → addRun sch (min (total + (runP last q).count) 501) (runP last q).count (runP last q).thread = fillR out t n) := by
      intro q t n h
      obtain ⟨h1, h2, h3, h4, h5⟩ := (auto last q).yes t n h
      have e : ((fillR out t n).length : Int) = min (total + (runP last q).count) 501 := by
        unfold fillR; simp; omega
      refine ⟨e.symm, fun hlt => ?_⟩
      unfold addRun fillR
      rw [if_pos hlt, h3, h4, hs (by omega)]
      have : (min n 501).toNat = min n.toNat (501 - out.length) := by omega
      rw [this]
    rcases split_blank l with hb | ⟨q, u, rfl, hb⟩
    · rw [parts_one l hb]
      simp only [wholeR]
      have A := auto last l
      cases hr : runR l last with
      | none =>
        simp only
        refine ⟨(runP last l).len, lng_one hb, ?_⟩
        unfold loopP
        by_cases hok : (runP last l).ok = true
        · have hne := A.no hr hok
          have hlt : (runP last l).len < l.length := by have := A.len; omega
          rw [if_pos hok, List.drop_eq_getElem_cons hlt]
          simp only
          rw [if_neg (hb _ (List.getElem_mem hlt))]
        · rw [if_neg hok]
      | some x =>
        obtain ⟨t, n⟩ := x
        simp only
        obtain ⟨h1, h2, h3, h4, h5⟩ := A.yes t n hr
        obtain ⟨n1, n2⟩ := next l t n hr
        unfold loopP
        rw [if_pos h1, h2, List.drop_length]
        simp only
        by_cases h6 : min (total + (runP last l).count) 501 = 501
        · rw [if_pos h6, if_pos (by omega)]
        · rw [if_neg h6, if_neg (by omega), n2 (by omega)]
    · rw [parts_two q u hb]
      simp only [wholeR]
      have A := auto last q
      have hP := runP_blank last q u
      cases hr : runR q last with
      | none =>
        simp only
        refine ⟨(runP last q).len, lng_two_bad hb hr, ?_⟩
        unfold loopP
        rw [hP]
        by_cases hok : (runP last q).ok = true
        · have hne := A.no hr hok
          have hlt : (runP last q).len < q.length := by have := A.len; omega
          have hlt2 : (runP last q).len < (q ++ 32 :: u).length := by simp; omega
          rw [if_pos hok, List.drop_eq_getElem_cons hlt2]
          simp only
          rw [if_neg]
          rw [List.getElem_append_left hlt]
          exact hb _ (List.getElem_mem hlt)
        · rw [if_neg hok]
      | some x =>
        obtain ⟨t, n⟩ := x
        simp only
        obtain ⟨h1, h2, h3, h4, h5⟩ := A.yes t n hr
        obtain ⟨n1, n2⟩ := next q t n hr
        have e : loopP (f + 1) sch last total at_ (q ++ 32 :: u) = loopP f (addRun sch (min (total + (runP last q).count) 501) (runP last q).count (runP last q).thread) t (min (total + (runP last q).count) 501) (at_ + q.length + 1) u := by
          conv => lhs; unfold loopP
          rw [hP, if_pos h1, h2]
          have e2 : (q ++ 32 :: u).drop q.length = 32 :: u := by simp
          rw [e2]
          simp only [if_true, h3]
        rw [e]
        have := ih (addRun sch (min (total + (runP last q).count) 501) (runP last q).count (runP last q).thread) (fillR out t n) t (min (total + (runP last q).count) 501) (at_ + q.length + 1) u (by simp at hf; omega) n1 n2 (by omega)
        cases hw : wholeR (partsR u) t (fillR out t n) with
        | none =>
          rw [hw] at this
          simp only at this ⊢
          obtain ⟨m, hm1, hm2⟩ := this
          exact ⟨q.length + 1 + m, lng_two hb hr hm1, by rw [hm2]; congr 1; omega⟩
        | some y =>
          rw [hw] at this
          exact this

theorem parse_eq (l : List Nat) : parseP l = parseR l := by
  unfold parseP parseR
  by_cases h0 : l = []
  · rw [if_pos h0, if_pos h0]
  · rw [if_neg h0, if_neg h0]
    have := loop_eq (l.length + 1) [] [] (-1) 0 0 l (by omega) rfl (fun _ => rfl) (by omega)
    cases hw : wholeR (partsR l) (-1) [] with
    | none =>
      rw [hw] at this
      obtain ⟨m, h1, h2⟩ := this
      simp only
      rw [h2, search_lng h1 l.length h1.le (Nat.le_refl _)]; simp
    | some y => rw [hw] at this; exact this

end Go.Proofs.YtklenjmfalljgaaGreatDoor
