/- The texts Agu Agr Agv Ctr Rfa Rfb Rfc. -/
import Derived.Test.YtklenjmfalljgaaDoorME
import Derived.Deep.DeepCutAuto
import Derived.Deep.Cut

/- Programs that are lent, written over, one by one. -/
namespace Go.Proofs.YtklenjmfalljgaaDoor
open Go.RowKit

def modC : List Ins → List Ins
  | [] => []
  | _ :: r => ⟨11, 1, 0, 0⟩ :: r
theorem modC_len (c : List Ins) : (modC c).length = c.length := by cases c <;> rfl
theorem modC_nil {c : List Ins} (h : ¬ 0 < c.length) : modC c = c := by
  match c, h with
  | [], _ => rfl
  | x :: r, h => simp at h
theorem modC_set {c : List Ins} (h : 0 < c.length) : ((((codeL c).set 0 (.int .i64 11)).set 1 (.int .i64 1)).set 2 (.int .i64 0)).set 3 (.int .i64 0) = codeL (modC c) := by
  match c, h with
  | x :: r, _ => rfl
def mixC (c d : List Ins) (k : Nat) : List Ins := d.take k ++ c.drop k
theorem mixC_len {c d : List Ins} (h : d.length = c.length) (k : Nat) (hk : k ≤ c.length) : (mixC c d k).length = c.length := by simp [mixC]; omega
theorem mixC_zero (c d : List Ins) : mixC c d 0 = c := by simp [mixC]
theorem mixC_end {c d : List Ins} (h : d.length = c.length) (k : Nat) (hk : c.length ≤ k) : mixC c d k = d := by
  unfold mixC; rw [List.take_of_length_le (by omega), List.drop_of_length_le hk, List.append_nil]
theorem set4_at (A : List Value) (i j : Ins) (R : List Value) (k : Nat) (hk : A.length = k) : (((((A ++ (insL i ++ R)).set k (.int .i64 j.op)).set (k + 1) (.int .i64 j.a)).set (k + 2) (.int .i64 j.b)).set (k + 3) (.int .i64 j.n)) = A ++ (insL j ++ R) := by
  subst hk
  simp [insL]
theorem mixC_next {c d : List Ins} (h : d.length = c.length) (k : Nat) (hk : k < c.length) :
    ((((lentCode (mixC c d k)).setIfInBounds (k * 4) (.int .i64 (d[k]'(by omega)).op)).setIfInBounds (k * 4 + 1) (.int .i64 (d[k]'(by omega)).a)).setIfInBounds (k * 4 + 2) (.int .i64 (d[k]'(by omega)).b)).setIfInBounds (k * 4 + 3) (.int .i64 (d[k]'(by omega)).n) = lentCode (mixC c d (k + 1)) := by
  have e1 : lentCode (mixC c d k) = (codeL (d.take k) ++ (insL c[k] ++ (codeL (c.drop (k + 1)) ++ (insInk ++ insInk)))).toArray := by
    unfold lentCode mixC
    rw [List.drop_eq_getElem_cons hk]
    simp only [codeL, List.flatMap_append, List.flatMap_cons, List.append_assoc]
  have e2 : lentCode (mixC c d (k + 1)) = (codeL (d.take k) ++ (insL (d[k]'(by omega)) ++ (codeL (c.drop (k + 1)) ++ (insInk ++ insInk)))).toArray := by
    unfold lentCode mixC
    rw [List.take_succ_eq_append_getElem (by omega : k < d.length)]
    simp only [codeL, List.flatMap_append, List.flatMap_cons, List.flatMap_nil, List.append_nil, List.append_assoc]
  rw [e1, e2]
  simp only [List.setIfInBounds_toArray]
  rw [set4_at _ _ _ _ _ (by rw [codeL_len]; simp; omega)]

section
variable {B : Nat} {w w' : World} {b : Nat} {who : Nat → Role} {n : Int} {f : Nat → Value} {K : Nat → List (Value × Int)} {E : Nat → List Value} {LI : List (Nat × List Int × Value)} {LC : List (Nat × List Ins × Value)} {LR : List (Nat × Nat)} {tail : Nat}

/-- A row that is lent, but in no list, grows, into a new block maybe. -/
theorem Lx.outNew (h : Lx B w b who n f K E LI LC LR tail) {r : Option Nat} (hg : w.grownBy w' r) (hr : ∀ g, r = some g → who g = .lent ∧ g ∉ LI.map (·.1) ++ (LC.map (·.1) ++ LR.map (·.1))) {g8 : Nat} (h8 : r = some g8 ∨ (w.heap.size ≤ g8 ∧ g8 < w'.heap.size)) :
    Lx B w' b (setW who g8 .lent) n f K E LI LC LR tail ∧ Fr w w' who (setW who g8 .lent) (fun _ => False) := by
  have hne : ∀ g', g' < w.heap.size → r ≠ some g' → w'.heap[g']? = w.heap[g']? := fun g' h1 e => hg.block g' h1 (fun e2 => e e2.symm)
  have hrl : ∀ g', r = some g' → who g' = .lent := fun g' e => (hr g' e).1
  have hw8 : ∀ g', who g' ≠ .other → setW who g8 .lent g' = who g' := fun g' e => by
    by_cases e8 : g' = g8
    · subst e8
      rcases h8 with h8 | h8
      · rw [setW_at, hrl _ h8]
      · exact absurd (h.hs.1.dom g' e).2 (by omega)
    · exact setW_ne _ _ e8
  have hs1 : Hs B w' b who n f K (marksOf K) := h.hs.1.same hg.size (fun g' h1 _ h3 => hne g' h1 (fun e => by rw [hrl g' e] at h3; cases h3))
  have hlow := h.low
  have hs2 : Hs B w' b (setW who g8 .lent) n f K (marksOf K) := hs1.more hw8 (fun g' e => by
    by_cases e8 : g' = g8
    · subst e8
      rcases h8 with h8 | h8
      · exact hs1.dom g' (by rw [hrl _ h8]; simp)
      · exact ⟨by omega, h8.2⟩
    · rw [setW_ne _ _ e8] at e; exact hs1.dom g' e)
  have hlr : Lr B w' who f E := h.lr.same (fun g' k e => hne g' (h.hs.1.dom g' (by rw [e]; simp)).2 (fun e2 => by rw [hrl g' e2] at e; cases e))
  have hfr : Fr w w' who (setW who g8 .lent) (fun _ => False) := ⟨hg.os, hg.tape, hg.output, hg.size, fun g' h1 h2 _ => ⟨hne g' h1 (fun e => by rw [hrl g' e] at h2; cases h2), by
    by_cases e8 : g' = g8
    · subst e8
      rcases h8 with h8 | h8
      · rw [hrl _ h8] at h2; cases h2
      · omega
    · rw [setW_ne _ _ e8]; exact h2⟩⟩
  refine ⟨⟨⟨hs2, fun c hc x hx g e => ?_⟩, hlr.more hw8, h.le.keepIn hfr (fun g' e => ⟨hne g' (h.le.lt g' e).1 (fun e2 => (hr g' e2).2 e), ?_⟩)⟩, hfr⟩
  · have := h.hs.2 c hc x hx g e
    rw [hw8 g (by rw [this]; simp)]; exact this
  · rw [hw8 g' (by rw [(h.le.lt g' e).2]; simp)]; exact (h.le.lt g' e).2
end

/-- In the midst: i programs are written over. -/
structure AgI (B : Nat) (w5 : World) (who5 : Nat → Role) (w' : World) (b : Nat) (who' : Nat → Role) (n : Int) (f : Nat → Value) (K : Nat → List (Value × Int)) (LI : List (Nat × List Int × Value)) (LC : List (Nat × List Ins × Value)) (LR : List (Nat × Nat)) (n12 : Nat) (qv : Value) (p : List (List Ins)) (i : Nat) : Prop where
  lx : Lx B w' b who' n f K (EL LI LC LR) LI LC LR 0
  fr : Fr w5 w' who5 who' (fun _ => False)
  cod : LC.map (·.2.1) = (p.take i).map modC ++ p.drop i
  box : w'.heap[n12]? = some (.cells #[qv] 25 (0, 0))
  wbx : who' n12 = .lent
  nbx : n12 ∉ LI.map (·.1) ++ (LC.map (·.1) ++ LR.map (·.1))
  row : w'.ownsRow w5.heap.size 29 1 qv i ((LC.take i).map (·.2.2))
  wrw : ∀ g, qv.ownBlock = some g → who' g = .lent ∧ g ∉ LI.map (·.1) ++ (LC.map (·.1) ++ LR.map (·.1)) ∧ g ≠ n12
theorem AgI.len {B : Nat} {w5 : World} {who5 : Nat → Role} {w' : World} {b : Nat} {who' : Nat → Role} {n : Int} {f : Nat → Value} {K : Nat → List (Value × Int)} {LI : List (Nat × List Int × Value)} {LC : List (Nat × List Ins × Value)} {LR : List (Nat × Nat)} {n12 : Nat} {qv : Value} {p : List (List Ins)} {i : Nat}
    (h : AgI B w5 who5 w' b who' n f K LI LC LR n12 qv p i) (hi : i ≤ p.length) : LC.length = p.length := by
  have := congrArg List.length h.cod
  simp at this
  omega
theorem AgI.at_ {B : Nat} {w5 : World} {who5 : Nat → Role} {w' : World} {b : Nat} {who' : Nat → Role} {n : Int} {f : Nat → Value} {K : Nat → List (Value × Int)} {LI : List (Nat × List Int × Value)} {LC : List (Nat × List Ins × Value)} {LR : List (Nat × Nat)} {n12 : Nat} {qv : Value} {p : List (List Ins)} {i : Nat}
    (h : AgI B w5 who5 w' b who' n f K LI LC LR n12 qv p i) (hi : i < p.length) (hl : i < LC.length) : LC[i].2.1 = p[i] := by
  have h1 : (LC.map (·.2.1))[i]? = some p[i] := by
    rw [h.cod, List.getElem?_append_right (by simp; omega)]
    have : i - ((p.take i).map modC).length = 0 := by simp; omega
    rw [this, List.drop_eq_getElem_cons hi]
    rfl
  simpa [hl] using h1
theorem cod_next {LC : List (Nat × List Ins × Value)} {p : List (List Ins)} {i : Nat} {g : Nat} {v : Value} (h : LC.map (·.2.1) = (p.take i).map modC ++ p.drop i) (hi : i < p.length) : (LC.set i (g, modC p[i], v)).map (·.2.1) = (p.take (i + 1)).map modC ++ p.drop (i + 1) := by
  rw [List.map_set, h, List.take_succ_eq_append_getElem hi, List.drop_eq_getElem_cons hi, List.set_append, if_neg (by simp; omega)]
  have : i - ((p.take i).map modC).length = 0 := by simp; omega
  rw [this]
  simp only [List.set_cons_zero, List.map_append, List.map_cons, List.map_nil, List.append_assoc, List.cons_append, List.nil_append]
theorem row_nextA {LC : List (Nat × List Ins × Value)} {i : Nat} {y : Nat × List Ins × Value} (hi : i < LC.length) : ((LC.set i y).take (i + 1)).map (·.2.2) = (LC.take i).map (·.2.2) ++ [y.2.2] := by
  rw [List.take_succ_eq_append_getElem (by simpa using hi), List.getElem_set_self, List.take_set_of_le (Nat.le_refl _)]
  simp

end Go.Proofs.YtklenjmfalljgaaDoor

/- The hands' again: the end of a round. -/
namespace Go.Proofs.YtklenjmfalljgaaDoor
open Go.RowKit
attribute [local go_sem] Go.World.cell?_alloc_some

theorem AgI.grown {B : Nat} {w5 : World} {who5 : Nat → Role} {w w' : World} {b : Nat} {who' : Nat → Role} {n : Int} {f : Nat → Value} {K : Nat → List (Value × Int)} {LI : List (Nat × List Int × Value)} {LC : List (Nat × List Ins × Value)} {LR : List (Nat × Nat)} {n12 : Nat} {qv : Value} {p : List (List Ins)} {i : Nat}
    (h : AgI B w5 who5 w b who' n f K LI LC LR n12 qv p i) (hg : w.grownBy w' none) : AgI B w5 who5 w' b who' n f K LI LC LR n12 qv p i :=
  ⟨h.lx.grown hg, h.fr.trans (Fr.grown hg), h.cod, by rw [hg.block _ (Array.getElem?_eq_some_iff.1 h.box).1 (by simp)]; exact h.box, h.wbx, h.nbx, owns_grown h.row hg (fun _ e => by cases e), h.wrw⟩

theorem code_own {w : World} {base tc : Nat} {ta : Option Addr} {d : List Ins} {m : Nat} (h : w.ownsRow base 28 4 (.slice ta m tc) m (codeL d)) (hm : d.length = m) : CodeAt w (.slice ta m tc) d := by
  subst hm
  refine ⟨ta, tc, rfl, fun k hk => ?_⟩
  obtain ⟨tg, hta⟩ : ∃ tg, ta = some ⟨tg, 0, none⟩ := by
    rcases h.2 with ⟨_, e⟩ | ⟨g, cap, cur, hv, hb', hh, _⟩
    · omega
    · simp only [Value.slice.injEq] at hv
      exact ⟨g, hv.1⟩
  subst hta
  obtain ⟨l0, l1, l2, l3⟩ := codeL_get d k hk
  have ct : ∀ j v, (codeL d)[j]? = some v → w.cell? ⟨tg, j, none⟩ = some v := fun j v hj => by
    rw [h.cellAt _ (by have := (List.getElem?_eq_some_iff.1 hj).1; rw [codeL_len] at this; exact this)]
    exact hj
  refine ⟨tg, 0, rfl, ?_, ?_, ?_, ?_⟩
  · rw [Nat.zero_add]; exact ct _ _ l0
  · rw [Nat.zero_add]; exact ct _ _ l1
  · rw [Nat.zero_add]; exact ct _ _ l2
  · rw [Nat.zero_add]; exact ct _ _ l3

set_option maxHeartbeats 4000000 in
set_option maxRecDepth 100000 in
theorem agRound {B : Nat} {w5 : World} {who5 : Nat → Role} {w : World} {b : Nat} {who' : Nat → Role} {n : Int} {f : Nat → Value} {K0 : Nat → List (Value × Int)} {LI : List (Nat × List Int × Value)} {LC : List (Nat × List Ins × Value)} {LR : List (Nat × Nat)} {n12 : Nat} {qv : Value} {p : List (List Ins)} {i base tc : Nat} {ta : Option Addr} {c : List Ins}
    (hA : AgI B w5 who5 w b who' n f K0 LI LC LR n12 qv p i) (hi : i < p.length) (HCE : Hid (p[i] = c)) (hpl : p.length ≤ 5864062014634) (hcl : c.length ≤ 4398046510976) (hn12 : n12 < w5.heap.size) (hO : w.ownsRow base 28 4 (.slice ta c.length tc) c.length (codeL (modC c))) (hoth : ∀ q, (Value.slice ta c.length tc).ownBlock = some q → who' q = .other)
    {K : Act → World → Prop} {Q' : Exit → Act → World → Prop} {c1 c2 c3 c4 c5 c6 c7 c8 c9 c10 c11 c15 c16 c17 c18 c19 c20 c21 c22 c23 c24 c25 c26 c27 c28 c29 c30 c31 c32 c33 c34 c35 c36 c37 c38 c39 c40 c41 c42 c43 c44 c45 c46 c47 c48 c49 c50 c51 c52 c53 c54 c55 c56 c57 c58 c59 c60 c61 c62 c63 c64 c65 c66 c67 c68 c69 c70 c71 c72 c73 c74 c75 c76 c77 c78 c79 c80 c81 c82 c83 c84 c85 c86 c87 c88 c89 c90 c91 c92 c93 c94 c95 c96 c97 c98 c99 c100 c101 c102 c103 c104 c105 c106 c107 c108 c109 c110 c111 c112 c113 c114 c115 c116 c117 c118 c119 c120 c121 c122 c123 c124 c125 c126 c127 c128 c129 c130 c131 c132 c133 c134 c135 c136 c137 c138 c139 : Value} (HQP : Hid (∀ c a d v w, Q' (.panic c) (Act.put a (some d) v) w → Q' (.panic c) a w))
    (HK : Hid (∀ {z15 z53 z54 z55 z56 z57 z58 z59 z60 z61 z62 z63 z64 z65 z66 z67 z68 z69 z70 z71 z72 z73 z74 z75 z76 z77 z78 z79 z80 z81 z82 z83 z84 : Value} (who'' : Nat → Role) (LC' : List (Nat × List Ins × Value)) (qv' : Value) (w' : World), AgI B w5 who5 w' b who'' n f K0 LI LC' LR n12 qv' p (i + 1) → K ⟨#[.pointer (some ⟨b, 0, none⟩), c1, c2, c3, c4, c5, c6, c7, c8, c9, c10, c11, .pointer (some ⟨n12, 0, none⟩), .int .i64 (i : Int), .slice ta c.length tc, z15, c16, c17, c18, c19, c20, c21, c22, c23, c24, c25, c26, c27, c28, c29, c30, c31, c32, c33, c34, c35, c36, c37, c38, c39, c40, c41, c42, c43, c44, c45, c46, c47, c48, c49, c50, c51, c52, z53, z54, z55, z56, z57, z58, z59, z60, z61, z62, z63, z64, z65, z66, z67, z68, z69, z70, z71, z72, z73, z74, z75, z76, z77, z78, z79, z80, z81, z82, z83, z84, c85, c86, c87, c88, c89, c90, c91, c92, c93, c94, c95, c96, c97, c98, c99, c100, c101, c102, c103, c104, c105, c106, c107, c108, c109, c110, c111, c112, c113, c114, c115, c116, c117, c118, c119, c120, c121, c122, c123, c124, c125, c126, c127, c128, c129, c130, c131, c132, c133, c134, c135, c136, c137, c138, c139], []⟩ w')) :
    Code.wp Tryd.prog (tailOf Tryd.f30 12) (Exit.inBlock 1 (Exit.then K Q')) ⟨#[.pointer (some ⟨b, 0, none⟩), c1, c2, c3, c4, c5, c6, c7, c8, c9, c10, c11, .pointer (some ⟨n12, 0, none⟩), .int .i64 (i : Int), .slice ta c.length tc, c15, c16, c17, c18, c19, c20, c21, c22, c23, c24, c25, c26, c27, c28, c29, c30, c31, c32, c33, c34, c35, c36, c37, c38, c39, c40, c41, c42, c43, c44, c45, c46, c47, c48, c49, c50, c51, c52, c53, c54, c55, c56, c57, c58, c59, c60, c61, c62, c63, c64, c65, c66, c67, c68, c69, c70, c71, c72, c73, c74, c75, c76, c77, c78, c79, c80, c81, c82, c83, c84, c85, c86, c87, c88, c89, c90, c91, c92, c93, c94, c95, c96, c97, c98, c99, c100, c101, c102, c103, c104, c105, c106, c107, c108, c109, c110, c111, c112, c113, c114, c115, c116, c117, c118, c119, c120, c121, c122, c123, c124, c125, c126, c127, c128, c129, c130, c131, c132, c133, c134, c135, c136, c137, c138, c139], []⟩ w := by
  conv => arg 2; whnf
  obtain ⟨i1, hi1, hy0, hy1, hy2⟩ := info_parts info_codeH
  have HA := hide hA
  have hLL := hA.len (Nat.le_of_lt hi)
  have hiL : i < LC.length := by omega
  have hce : LC[i].2.1 = c := by rw [hA.at_ hi hiL]; exact HCE.out
  have wgx : who' LC[i].1 = .lent := (hA.lx.le.lc _ (List.getElem_mem hiL)).2.1
  have hgxb : w.heap[LC[i].1]? = some (.cells (lentCode c) 28 (0, 0)) := by rw [← hce]; exact (hA.lx.le.lc _ (List.getElem_mem hiL)).1
  obtain ⟨r2, rc, hr2, d1⟩ := row_cell (hA.lx.lr.r 2 (by omega)) (i := i) (by simpa [EL] using hiL)
  obtain ⟨g3, c3', hf3, d3⟩ := row_cell (hA.lx.lr.r 3 (by omega)) (i := i) (by simpa [EL] using hiL)
  have el2 : (EL LI LC LR 2).length = p.length := by simp [EL, hLL]
  have el3 : (EL LI LC LR 3).length = p.length := by simp [EL, hLL]
  have d1' : w.cell? ⟨r2, i, none⟩ = some (.slice (some ⟨LC[i].1, 0, none⟩) (c.length + 2) (c.length + 2)) := by rw [d1]; simp [EL, sl2, hce]
  obtain ⟨u3, d3'⟩ : ∃ u, w.cell? ⟨g3, i, none⟩ = some u := ⟨_, d3⟩
  rw [el2] at hr2
  rw [el3] at hf3
  have hr3 := hA.lx.lr.r 3 (by omega)
  rw [hf3, el3] at hr3
  have d0 : w.cell? ⟨b, 2, none⟩ = some (.slice (some ⟨r2, 0, none⟩) p.length rc) := by rw [← hr2]; exact hA.lx.cell (by omega)
  have d4 : w.cell? ⟨b, 3, none⟩ = some (.slice (some ⟨g3, 0, none⟩) p.length c3') := by rw [← hf3]; exact hA.lx.cell (by omega)
  have f3 : w.frozen? ⟨g3, i, none⟩ = false := free_at hr3
  have wr2 : who' r2 = .lrow 2 := hA.lx.lr.wr 2 (by omega) r2 (by rw [hr2]; rfl)
  have wg3 : who' g3 = .lrow 3 := hA.lx.lr.wr 3 (by omega) g3 (by rw [hf3]; rfl)
  have wb : who' b = .hands := hA.lx.hs.1.wb
  have hg3l : g3 < w.heap.size := (hA.lx.hs.1.dom g3 (by rw [wg3]; simp)).2
  obtain ⟨gx, hgx⟩ : ∃ gx, gx = LC[i].1 := ⟨_, rfl⟩
  rw [← hgx] at wgx hgxb d1'
  have nb : b ≠ gx := fun e => by rw [e, wgx] at wb; cases wb
  have nr2 : r2 ≠ gx := fun e => by rw [e, wgx] at wr2; cases wr2
  have ng3 : g3 ≠ gx := fun e => by rw [e, wgx] at wg3; cases wg3
  have HGX := hide hgx
  have HD0 := hide d0
  have HD1 := hide d1'
  have HD3 := hide d3'
  have HD4 := hide d4
  have HF3 := hide f3
  have HFV := hide hf3
  have HO := hide hO
  have HOT := hide hoth
  have HTL := hide (modC_len c)
  have H0 : Hid (Chg w w (fun g' => g' = gx) ∧ w.heap[gx]? = some (.cells (lentCode (mixC c (modC c) 0)) 28 (0, 0))) := ⟨Chg.refl _ _, by rw [mixC_zero]; exact hgxb⟩
  have q0 : (c.length : Int) ≤ 4398046510976 := by omega
  have q1 : (p.length : Int) ≤ 5864062014634 := by omega
  have q2 : (0 : Int) ≤ (i : Int) := by omega
  have q3 : (i : Int) < p.length := by omega
  have HCL := hide hce
  clear hA hgx hgxb d0 d1 d1' d3 d3' d4 f3 hf3 hr3 hO hoth hr2 el2 el3 hce
  go_wp2_with fail
  go_loopw [15] (fun kv w' => ∃ k : Nat, k ≤ c.length ∧ kv = .int .i64 k ∧ Hid (Chg w w' (fun g' => g' = gx) ∧ w'.heap[gx]? = some (.cells (lentCode (mixC c (modC c) k)) 28 (0, 0)))) (fun kv _ => c.length - (intOf kv).toNat)
  case atStart => exact ⟨0, Nat.zero_le _, rfl, H0⟩
  case round =>
    clear H0
    obtain ⟨k, hk, rfl, HKK⟩ := hrel
    obtain ⟨w3, hw3⟩ : ∃ w3, w3 = wr := ⟨_, rfl⟩
    rw [← hw3] at HKK ⊢
    clear hw3
    by_cases hlt : k < c.length
    · have t0 : (0 : Int) ≤ (k : Int) := by omega
      have t1 : (k : Int) < c.length := by omega
      have t2 : (k : Int) < (c.length : Int) + 2 := by omega
      have hkt : k < (modC c).length := by have := HTL.out; omega
      obtain ⟨tg, hta⟩ : ∃ tg, ta = some ⟨tg, 0, none⟩ := by
        rcases HO.out.2 with ⟨_, e⟩ | ⟨g, cap, cur, hv, hb', hh, _⟩
        · omega
        · simp only [Value.slice.injEq] at hv
          exact ⟨g, hv.1⟩
      subst hta
      have ngt : tg ≠ gx := fun e => by
        have := HOT.out tg rfl
        rw [e, wgx] at this; cases this
      have k0 := HKK.out.1.cell HD0.out (by simpa using nb)
      have k1 := HKK.out.1.cell HD1.out (by simpa using nr2)
      obtain ⟨l0, l1, l2, l3⟩ := codeL_get (modC c) k hkt
      have ct : ∀ j v, (codeL (modC c))[j]? = some v → w3.cell? ⟨tg, j, none⟩ = some v := fun j v hj => by
        refine HKK.out.1.cell ?_ (by simpa using ngt)
        rw [HO.out.cellAt _ (by have := (List.getElem?_eq_some_iff.1 hj).1; rw [codeL_len, HTL.out] at this; exact this)]
        exact hj
      have k2 := ct _ _ l0
      have k3 := ct _ _ l1
      have k4 := ct _ _ l2
      have k5 := ct _ _ l3
      have hsz : (lentCode (mixC c (modC c) k)).size = (c.length + 2) * 4 := by rw [lentCode_size, mixC_len HTL.out k hk]
      have cu : ∀ j, j < (c.length + 2) * 4 → ∃ u, w3.cell? ⟨gx, j, none⟩ = some u := fun j hj => ⟨_, by simp only [World.cell?, HKK.out.2]; exact Array.getElem?_eq_getElem (by omega)⟩
      obtain ⟨v0, m0⟩ := cu (k * 4) (by omega)
      obtain ⟨v1, m1⟩ := cu (k * 4 + 1) (by omega)
      obtain ⟨v2, m2⟩ := cu (k * 4 + 2) (by omega)
      obtain ⟨v3, m3⟩ := cu (k * 4 + 3) (by omega)
      have fz : ∀ j, w3.frozen? ⟨gx, j, none⟩ = false := fun j => by simp [World.frozen?, HKK.out.2]
      have z0 := fz (k * 4)
      have z1 := fz (k * 4 + 1)
      have z2 := fz (k * 4 + 2)
      have z3 := fz (k * 4 + 3)
      have HNX : Hid (Chg w ((((w3.setCell ⟨gx, k * 4, none⟩ (.int .i64 (modC c)[k].op)).setCell ⟨gx, k * 4 + 1, none⟩ (.int .i64 (modC c)[k].a)).setCell ⟨gx, k * 4 + 2, none⟩ (.int .i64 (modC c)[k].b)).setCell ⟨gx, k * 4 + 3, none⟩ (.int .i64 (modC c)[k].n)) (fun g' => g' = gx) ∧
          ((((w3.setCell ⟨gx, k * 4, none⟩ (.int .i64 (modC c)[k].op)).setCell ⟨gx, k * 4 + 1, none⟩ (.int .i64 (modC c)[k].a)).setCell ⟨gx, k * 4 + 2, none⟩ (.int .i64 (modC c)[k].b)).setCell ⟨gx, k * 4 + 3, none⟩ (.int .i64 (modC c)[k].n)).heap[gx]? = some (.cells (lentCode (mixC c (modC c) (k + 1))) 28 (0, 0))) := by
        refine ⟨(((HKK.out.1.set rfl).set rfl).set rfl).set rfl, ?_⟩
        rw [← mixC_next HTL.out k hlt]
        exact heap_setCell_same _ gx _ _ _ _ (heap_setCell_same _ gx _ _ _ _ (heap_setCell_same _ gx _ _ _ _ (heap_setCell_same w3 gx _ _ _ _ HKK.out.2)))
      generalize (modC c)[k].op = x0 at *
      generalize (modC c)[k].a = x1 at *
      generalize (modC c)[k].b = x2 at *
      generalize (modC c)[k].n = x3 at *
      clear l0 l1 l2 l3 ct cu fz hsz HKK
      go_upto_region 15 with fail
      refine wp_region_head (fun u => u.cell? ⟨b, 2, none⟩ = some (.slice (some ⟨r2, 0, none⟩) p.length rc) ∧ u.cell? ⟨r2, i, none⟩ = some (.slice (some ⟨gx, 0, none⟩) (c.length + 2) (c.length + 2)) ∧ u.cell? ⟨tg, k * 4, none⟩ = some (.int .i64 x0) ∧ u.cell? ⟨tg, k * 4 + 1, none⟩ = some (.int .i64 x1) ∧ u.cell? ⟨tg, k * 4 + 2, none⟩ = some (.int .i64 x2) ∧ u.cell? ⟨tg, k * 4 + 3, none⟩ = some (.int .i64 x3)) 13 (by kernel_rfl) (by kernel_rfl) ⟨k0, k1, k2, k3, k4, k5⟩ ?_
      intro hHeld
      refine wpHead_take (i := 0) (v := ?vva0) rfl (by kernel_rfl) (fun c _ _ h => HQP.out c _ _ _ _ h) (Or.inl ⟨by rfl, ?hya0⟩) hHeld ?resta0
      case hya0 => (rintro u ⟨hu0, hu1, hu2, hu3, hu4, hu5⟩; go_simp; try with_reducible rfl)
      simp only [Act.put, List.setIfInBounds_toArray]
      refine wpHead_take (i := 1) (v := ?vva1) rfl (by kernel_rfl) (fun c _ _ h => HQP.out c _ _ _ _ h) (Or.inl ⟨by rfl, ?hya1⟩) hHeld ?resta1
      case hya1 => (rintro u ⟨hu0, hu1, hu2, hu3, hu4, hu5⟩; go_simp; try with_reducible rfl)
      simp only [Act.put]
      refine wpHead_take (i := 2) (v := ?vva2) rfl (by kernel_rfl) (fun c _ _ h => HQP.out c _ _ _ _ h) (Or.inl ⟨by rfl, ?hya2⟩) hHeld ?resta2
      case hya2 => (rintro u ⟨hu0, hu1, hu2, hu3, hu4, hu5⟩; go_simp; try with_reducible rfl)
      simp only [Act.put]
      refine wpHead_take (i := 3) (v := ?vva3) rfl (by kernel_rfl) (fun c _ _ h => HQP.out c _ _ _ _ h) (Or.inl ⟨by rfl, ?hya3⟩) hHeld ?resta3
      case hya3 => (rintro u ⟨hu0, hu1, hu2, hu3, hu4, hu5⟩; go_simp; try with_reducible rfl)
      simp only [Act.put]
      refine wpHead_take (i := 4) (v := ?vva4) rfl (by kernel_rfl) (fun c _ _ h => HQP.out c _ _ _ _ h) (Or.inl ⟨by rfl, ?hya4⟩) hHeld ?resta4
      case hya4 => (rintro u ⟨hu0, hu1, hu2, hu3, hu4, hu5⟩; go_simp; try with_reducible rfl)
      simp only [Act.put]
      refine wpHead_take (i := 5) (v := ?vva5) rfl (by kernel_rfl) (fun c _ _ h => HQP.out c _ _ _ _ h) (Or.inl ⟨by rfl, ?hya5⟩) hHeld ?resta5
      case hya5 => (rintro u ⟨hu0, hu1, hu2, hu3, hu4, hu5⟩; go_simp; try with_reducible rfl)
      simp only [Act.put]
      refine wpHead_take (i := 6) (v := ?vva6) rfl (by kernel_rfl) (fun c _ _ h => HQP.out c _ _ _ _ h) (Or.inl ⟨by rfl, ?hya6⟩) hHeld ?resta6
      case hya6 => (rintro u ⟨hu0, hu1, hu2, hu3, hu4, hu5⟩; go_simp; try with_reducible rfl)
      simp only [Act.put]
      refine wpHead_take (i := 7) (v := ?vva7) rfl (by kernel_rfl) (fun c _ _ h => HQP.out c _ _ _ _ h) (Or.inl ⟨by rfl, ?hya7⟩) hHeld ?resta7
      case hya7 => (rintro u ⟨hu0, hu1, hu2, hu3, hu4, hu5⟩; go_simp; try with_reducible rfl)
      simp only [Act.put]
      refine wpHead_take (i := 8) (v := ?vva8) rfl (by kernel_rfl) (fun c _ _ h => HQP.out c _ _ _ _ h) (Or.inl ⟨by rfl, ?hya8⟩) hHeld ?resta8
      case hya8 => (rintro u ⟨hu0, hu1, hu2, hu3, hu4, hu5⟩; go_simp; try with_reducible rfl)
      simp only [Act.put]
      refine wpHead_take (i := 9) (v := ?vva9) rfl (by kernel_rfl) (fun c _ _ h => HQP.out c _ _ _ _ h) (Or.inl ⟨by rfl, ?hya9⟩) hHeld ?resta9
      case hya9 => (rintro u ⟨hu0, hu1, hu2, hu3, hu4, hu5⟩; go_simp; try with_reducible rfl)
      simp only [Act.put]
      refine wpHead_take (i := 10) (v := ?vva10) rfl (by kernel_rfl) (fun c _ _ h => HQP.out c _ _ _ _ h) (Or.inl ⟨by rfl, ?hya10⟩) hHeld ?resta10
      case hya10 => (rintro u ⟨hu0, hu1, hu2, hu3, hu4, hu5⟩; go_simp; try with_reducible rfl)
      simp only [Act.put]
      refine wpHead_take (i := 11) (v := ?vva11) rfl (by kernel_rfl) (fun c _ _ h => HQP.out c _ _ _ _ h) (Or.inl ⟨by rfl, ?hya11⟩) hHeld ?resta11
      case hya11 => (rintro u ⟨hu0, hu1, hu2, hu3, hu4, hu5⟩; go_simp; try with_reducible rfl)
      simp only [Act.put]
      refine wpHead_take (i := 12) (v := ?vva12) rfl (by kernel_rfl) (fun c _ _ h => HQP.out c _ _ _ _ h) (Or.inl ⟨by rfl, ?hya12⟩) hHeld ?resta12
      case hya12 => (rintro u ⟨hu0, hu1, hu2, hu3, hu4, hu5⟩; go_simp; try with_reducible rfl)
      simp only [Act.put]
      refine wpHead_last rfl (by kernel_rfl) (by kernel_rfl) (by rfl) ?_
      go_simp
      clear hHeld
      go_wp2_with fail
      go_roundw
      case rel => exact ⟨k + 1, by omega, by go_num, ⟨⟨HNX.out.1.os, HNX.out.1.tape, HNX.out.1.output, HNX.out.1.size, HNX.out.1.blk⟩, HNX.out.2⟩⟩
      case measure => simp [intOf]; omega
    · have t1 : (c.length : Int) ≤ (k : Int) := by omega
      have hb3 := HKK.out.2
      rw [mixC_end HTL.out k (by omega)] at hb3
      have e4 := HKK.out.1.cell HD4.out (by simpa using nb)
      have e3 := HKK.out.1.cell HD3.out (by simpa using ng3)
      have z3 : w3.frozen? ⟨g3, i, none⟩ = false := by
        have := HF3.out
        simp only [World.frozen?, HKK.out.1.blk g3 hg3l (by simpa using ng3)] at this ⊢
        exact this
      have hoo : w3.ownsRow base 28 4 (.slice ta c.length tc) c.length (codeL (modC c)) := owns_same HO.out (fun q e => by
        refine HKK.out.1.blk q (owns_ltH HO.out q e) (fun e2 => ?_)
        have h1 := HOT.out q e
        rw [e2, wgx] at h1; cases h1)
      have hvo : valOther who' (.slice ta c.length tc) := fun q o l cc e hl => by
        simp only [Value.slice.injEq] at e
        rcases hoo.2 with ⟨e3, _⟩ | ⟨g', cap', cur, hv, hb', _⟩
        · simp only [Value.slice.injEq] at e3
          rw [e3.1] at e; cases e.1
        · simp only [Value.slice.injEq] at hv
          rw [hv.1] at e
          simp only [Option.some.injEq, Addr.mk.injEq, and_true] at e
          rw [← e.1.1]
          exact HOT.out g' (by rw [hv.1]; rfl)
      have hcg : Chg w w3 (fun g' => g' = LC[i].1) := by rw [← HGX.out]; exact HKK.out.1
      obtain ⟨hx4, hf4⟩ := HA.out.lx.recode hiL hcg HFV.out (by rw [← HGX.out]; exact hb3) (by rw [HTL.out, HCL.out]) (code_own hoo HTL.out) hvo
      rw [← HGX.out] at hx4
      obtain ⟨w4, hw4⟩ : ∃ w4, w4 = w3.setCell ⟨g3, i, none⟩ (.slice ta c.length tc) := ⟨_, rfl⟩
      rw [← hw4] at hx4 hf4
      have hsame : ∀ q, q < w.heap.size → q ≠ gx → q ≠ g3 → w4.heap[q]? = w.heap[q]? := fun q h1 h2 h3 => by
        rw [hw4, Below.heap_setCell _ _ _ _ (by simpa using h3)]; exact HKK.out.1.blk q h1 h2
      have emap : (LC.set i (gx, modC c, Value.slice ta c.length tc)).map (·.1) = LC.map (·.1) := map_set_same _ _ _ _ hiL HGX.out
      have ngx : ∀ q, q ∉ LI.map (·.1) ++ (LC.map (·.1) ++ LR.map (·.1)) → q ≠ gx := fun q hq e => hq (List.mem_append.2 (Or.inr (List.mem_append.2 (Or.inl (List.mem_map.2 ⟨_, List.getElem_mem hiL, by rw [e, HGX.out]⟩)))))
      have n123 : n12 ≠ g3 := fun e => by have := HA.out.wbx; rw [e, wg3] at this; cases this
      have hbox4 : w4.heap[n12]? = some (.cells #[qv] 25 (0, 0)) := by
        rw [hsame n12 (Array.getElem?_eq_some_iff.1 HA.out.box).1 (ngx _ HA.out.nbx) n123]; exact HA.out.box
      have hrow4 : w4.ownsRow w5.heap.size 29 1 qv i ((LC.take i).map (·.2.2)) := owns_same HA.out.row (fun q e => by
        obtain ⟨h1, h2, _⟩ := HA.out.wrw q e
        exact hsame q (owns_ltH HA.out.row q e) (ngx q h2) (fun e2 => by rw [e2, wg3] at h1; cases h1))
      have hsz5 : w5.heap.size ≤ w4.heap.size := Nat.le_trans HA.out.fr.size hf4.size
      obtain ⟨qa, qn, qc, hqv⟩ := owns_form hrow4
      subst hqv
      have hqn := owns_lenq hrow4
      subst hqn
      have HX4 := hide hx4
      have HF4 := hide hf4
      have HR4 := hide hrow4
      have HB4 := hide hbox4
      have HEM := hide emap
      have HNG := hide ngx
      clear hx4 hf4 hrow4 hbox4 hsame hcg hoo hvo emap ngx hb3 HKK
      go_upto_region 17 with fail
      rw [← hw4]
      clear hw4 e3 e4 z3
      have c12 : w4.cell? ⟨n12, 0, none⟩ = some (.slice qa qn qc) := by simp [World.cell?, HB4.out]
      have h63 : qn + 1 ≤ maxLen := by unfold maxLen; omega
      go_wp2_with (at_builtin; refine wpList_append_lies _ rfl _ _ _ rfl w5.heap.size 29 i1 _ 1 24 Tryd.underlying23 hi1 hy0 hy1 hy2 rfl (by omega) (.slice qa qn qc) qn ((LC.take qn).map (·.2.2)) rfl (owns_alloc HR4.out) ⟨w4.heap.size, 0, none⟩ 1 1 [.slice ta c.length tc] rfl rfl (World.news_of_block (cs := #[.slice ta c.length tc]) (t := 29) (fr := (0, 0)) (heap_alloc_new w4 _)) (by simp [Value.oneCell']) (by omega) h63 (by omega) (by simp; omega) (w4.heap.size + 1) (by simp) ?_; intro g8 cap8 w8 hown8 hgrow8 hat8 hlt8; have b0 : w8.heap[n12]? = some (.cells #[.slice qa qn qc] 25 (0, 0)) := (by rw [hgrow8.block n12 (by have := (Array.getElem?_eq_some_iff.1 HB4.out).1; simp; omega) (fun e => (HA.out.wrw n12 e.symm).2.2 rfl), Below.heap_alloc _ _ _ (Array.getElem?_eq_some_iff.1 HB4.out).1]; exact HB4.out); have b1 : w8.cell? ⟨n12, 0, none⟩ = some (.slice qa qn qc) := (by simp [World.cell?, b0]); have b2 : w8.frozen? ⟨n12, 0, none⟩ = false := (by simp [World.frozen?, b0]); have HB8 := hide b0; have HO8 := hide hown8; have HG8 := hide hgrow8; have HT8 := hide hat8; clear b0 hown8 hgrow8 hat8 c12)
      obtain ⟨hx8, hf8⟩ := (HX4.out.grown (grown_alloc (o := .cells #[.slice ta c.length tc] 29) (grown_refl _ _))).outNew HG8.out (fun q e => ⟨(HA.out.wrw q e).1, by rw [HEM.out]; exact (HA.out.wrw q e).2.1⟩) (g8 := g8) (by
        rcases HT8.out with h1 | h1
        · exact Or.inl h1
        · exact Or.inr ⟨by simp; omega, hlt8⟩)
      have hg85 : w5.heap.size ≤ g8 := owns_block HO8.out g8 rfl
      have hw12 : setW who' g8 .lent n12 = .lent := by rw [setW_ne _ _ (by omega)]; exact HA.out.wbx
      refine HK.out (setW who' g8 .lent) (LC.set qn (gx, modC c, .slice ta c.length tc)) (.slice (some ⟨g8, 0, none⟩) (qn + 1) cap8) _ ⟨hx8.setOut hw12 (by rw [HEM.out]; exact HA.out.nbx), (((HA.out.fr.trans HF4.out).trans (Fr.grown (grown_alloc (grown_refl _ _)))).trans hf8).trans (Fr.set (Or.inl (by rw [hw12]; simp))), ?_, ?_, hw12, by rw [HEM.out]; exact HA.out.nbx, ?_, fun q e => ?_⟩
      · have := cod_next (g := gx) (v := Value.slice ta c.length tc) HA.out.cod hi
        rw [HCE.out] at this
        exact this
      · rw [heap_setCell_same w8 n12 0 _ _ _ HB8.out]; rfl
      · rw [row_nextA hiL]
        exact owns_setCell_ne HO8.out (by simp [Value.ownBlock]; omega)
      · simp only [Value.ownBlock, Option.some.injEq] at e
        subst e
        refine ⟨setW_at _ _ _, ?_, by omega⟩
        rw [HEM.out]
        rcases HT8.out with h1 | h1
        · exact (HA.out.wrw g8 h1).2.1
        · intro hm
          have := (HX4.out.le.lt g8 (by rw [HEM.out]; exact hm)).1
          omega

end Go.Proofs.YtklenjmfalljgaaDoor

/- The walk of the hands' again. -/
namespace Go.Proofs.YtklenjmfalljgaaDoor
open Go.RowKit
attribute [local go_sem] Go.World.cell?_alloc_some


set_option maxHeartbeats 4000000 in
set_option maxRecDepth 100000 in
theorem again_g (W : World) (B : Nat) (w : World) (b : Nat) (who : Nat → Role) (n : Int) (f : Nat → Value) (K : Nat → List (Value × Int)) (pv sv : Value) (p : List (List Ins)) (s : List Int) (wh : Int)
    (h : Hz B w b who n f K) (hW : W.grownBy w none) (hWB : W.heap.size ≤ B) (hS : ShpAt W) (hP : ProgAt W pv p) (hPN : ProgNil W pv) (hI : IntsAt W.heap.size W sv s) (hnil : nilA sv) (hpl : p.length ≤ 5864062014634) (hpc : ∀ c ∈ p, c.length ≤ 4398046510976) (hsl : s.length ≤ 17592186043904) (hA : AskC wh) :
    Calls Tryd.prog 30 #[pt b, .int .i64 wh, pv, sv] w (HzG W B b n K) := by
  obtain ⟨i0, hi0, hz0, hz1, hz2⟩ := info_parts info_insH
  obtain ⟨i1, hi1, hy0, hy1, hy2⟩ := info_parts info_codeH
  have HH := hide h
  have HW := hide hW
  have HS := hide hS
  have HP := hide hP
  have HI := hide hI
  have HPC := hide hpc
  have HPN := hide hPN
  have HNL := hide hnil
  have HA := hide hA
  obtain ⟨ao, cap, rfl⟩ := hP.form
  obtain ⟨so, sc, rfl⟩ := hI.form
  have hpt : pt b = .pointer (some ⟨b, 0, none⟩) := rfl
  have HPG := hide (program_g W B (w.alloc (.cells #[.slice ao p.length cap] 25)) b who n f K [] [] [] (.agg #[.slice ao p.length cap]) p (h.lx.grown (grown_alloc (grown_refl _ _))) (grown_alloc hW) hWB hP hpl hpc (by simpa using hpl) (by simp))
  clear h hW hS hP hI hpc hPN hnil hA
  rw [hpt] at HPG ⊢
  go_enter Tryd.func30, Tryd.ntmps30
  go_wp2_with fail
  refine HPG.out.mono ?_
  clear HPG
  rintro e w1 ⟨g, LC1, who1, f1, rfl, hx1, hlc, hf1, hb1⟩
  have hwo : who w.heap.size = .other := by
    by_cases e : who w.heap.size = .other
    · exact e
    · exact absurd (HH.out.1.1.dom _ e).2 (by omega)
  obtain ⟨hbx, hwx⟩ := hf1.oth w.heap.size (by simp) hwo (fun e => e)
  have HW1 : Hid (W.grownBy w1 none) := hf1.base (grown_alloc HW.out) hWB (fun g e => (HH.out.1.1.dom g e).1) (fun _ e => e.elim)
  have c1 : w1.cell? ⟨w.heap.size, 0, none⟩ = some (.slice ao p.length cap) := by
    simp only [World.cell?, hbx, heap_alloc_new]; rfl
  have hlt1 : w.heap.size < w1.heap.size := World.block_lt_of_cell? w1 _ c1
  have hll : LC1.length = p.length := by rw [← hlc]; simp
  simp only [List.nil_append] at hx1
  have hw9 : who1 w1.heap.size = .other := by
    by_cases e : who1 w1.heap.size = .other
    · exact e
    · exact absurd (hx1.hs.1.dom _ e).2 (by omega)
  have HX1 := hide hx1
  have HLC := hide hlc
  have HWX := hide hwx
  have HW9 := hide hw9
  have HLL := hide hll
  have HC1 := hide c1
  clear hx1 hlc hf1 hb1 hbx hwo hwx hll hw9 c1
  go_upto_region 2 with fail
  obtain ⟨w2, hw2⟩ : ∃ w2, w2 = w1.alloc (.cells #[.slice (some ⟨g, 0, none⟩) p.length (p.length + 2)] 25) := ⟨_, rfl⟩
  have HG12 : Hid (w1.grownBy w2 none) := by unfold Hid; rw [hw2]; exact grown_alloc (grown_refl _ _)
  have hb2 : w2.heap[w1.heap.size]? = some (.cells #[.slice (some ⟨g, 0, none⟩) p.length (p.length + 2)] 25 (0, 0)) := by rw [hw2]; exact heap_alloc_new w1 _
  rw [← hw2]
  clear hw2
  have HX2 := hide (HX1.out.grown HG12.out)
  have HW2 : Hid (W.grownBy w2 none) := grown_trans HW1.out HG12.out
  have c9 : w2.cell? ⟨w1.heap.size, 0, none⟩ = some (.slice (some ⟨g, 0, none⟩) p.length (p.length + 2)) := by simp [World.cell?, hb2]
  have HC9 := hide c9
  have HC2 := hide (pres_grown HG12.out _ _ HC1.out)
  have hl9 : w1.heap.size < w2.heap.size := World.block_lt_of_cell? w2 _ c9
  have HSG := hide (schedule_g B w2 b who1 n f1 K [] LC1 [(g, p.length)] 0 (.slice so s.length sc) s HX2.out ((HI.out.pres (pres_grown HW2.out)).mono HW2.out.size) (val_other HX2.out.hs hWB HI.out) hsl (by simp))
  clear hb2 c9 HC1 HG12 HX1
  rw [hpt] at HSG
  go_wp2_with fail
  refine HSG.out.mono ?_
  clear HSG
  rintro e w3 ⟨gs, who3, f3, rfl, hx3, hf3⟩
  simp only [List.nil_append] at hx3
  have HW3 : Hid (W.grownBy w3 none) := hf3.base HW2.out hWB (fun g e => (HX2.out.hs.1.dom g e).1) (fun _ e => e.elim)
  obtain ⟨hbx, hwx⟩ := hf3.oth w.heap.size (by omega) HWX.out (fun e => e)
  obtain ⟨hby, hwy⟩ := hf3.oth w1.heap.size hl9 HW9.out (fun e => e)
  have c6 : w3.cell? ⟨w.heap.size, 0, none⟩ = some (.slice ao p.length cap) := by rw [World.cell?_of_block hbx]; exact HC2.out
  have c9 : w3.cell? ⟨w1.heap.size, 0, none⟩ = some (.slice (some ⟨g, 0, none⟩) p.length (p.length + 2)) := by rw [World.cell?_of_block hby]; exact HC9.out
  have hgb : w3.heap[g]? = some (.cells (lentRows LC1) 29 (0, 0)) := by
    have := (hx3.le.lr 0 (by simp)).1
    simp only [List.getElem_cons_zero, List.take_zero, List.map_nil, List.sum_nil, List.drop_zero] at this
    rw [List.take_of_length_le (by rw [HLL.out]; omega)] at this
    exact this
  have hPx : ProgAt w3 (.agg #[.slice (some ⟨g, 0, none⟩) p.length (p.length + 2)]) p := lent_prog (LC0 := []) (by simpa using hx3.le) hgb HLC.out _
  have hIx : IntsAt w3.heap.size w3 (.slice (some ⟨gs, 0, none⟩) s.length (s.length + 2)) s := lent_ints (hx3.le.li (gs, s, .slice so s.length sc) (by simp)).1
  have HAS := hide (HA.out p s _ _ _ _ w3 (HS.out.pres (pres_grown HW3.out)) hPx hIx (fun _ _ e => by simp at e) (HP.out.pres (pres_grown HW3.out)) ((HI.out.pres (pres_grown HW3.out)).mono HW3.out.size) HNL.out hpl HPC.out)
  have HX3 := hide hx3
  have HWX3 := hide hwx
  have HW93 := hide hwy
  have HC6 := hide c6
  have HC93 := hide c9
  clear hx3 hf3 hbx hby hwx hwy hgb hPx hIx HWX HW9 HC2 HC9 HX2
  go_wp2_with fail
  refine HAS.out.mono ?_
  clear HAS c6 c9
  rintro e w4 ⟨rfl, hg4⟩
  have HX4 := hide (HX3.out.grown hg4)
  have HW4 : Hid (W.grownBy w4 none) := grown_trans HW3.out hg4
  have HC64 := hide (pres_grown hg4 _ _ HC6.out)
  have HC94 := hide (pres_grown hg4 _ _ HC93.out)
  clear hg4 HC6 HC93
  go_upto_region 5 with fail
  obtain ⟨w5, hw5⟩ : ∃ w5, w5 = w4.alloc (.cells #[.slice none 0 0] 25) := ⟨_, rfl⟩
  have HG45 : Hid (w4.grownBy w5 none) := by unfold Hid; rw [hw5]; exact grown_alloc (grown_refl _ _)
  have hb5 : w5.heap[w4.heap.size]? = some (.cells #[.slice none 0 0] 25 (0, 0)) := by rw [hw5]; exact heap_alloc_new w4 _
  rw [← hw5]
  clear hw5
  have hl5 : w4.heap.size < w5.heap.size := (Array.getElem?_eq_some_iff.1 hb5).1
  obtain ⟨hx5, hf5⟩ := HX4.out.new HG45.out (g := w4.heap.size) (Nat.le_refl _) hl5
  have HW5 : Hid (W.grownBy w5 none) := grown_trans HW4.out HG45.out
  have HC65 := hide (pres_grown HG45.out _ _ HC64.out)
  have HC95 := hide (pres_grown HG45.out _ _ HC94.out)
  have HW65 : Hid (setW who3 w4.heap.size .lent w.heap.size = .other) := by
    unfold Hid; rw [setW_ne _ _ (by have := World.block_lt_of_cell? w4 _ HC64.out; simp only at this; omega)]; exact HWX3.out
  have HW95 : Hid (setW who3 w4.heap.size .lent w1.heap.size = .other) := by
    unfold Hid; rw [setW_ne _ _ (by have := World.block_lt_of_cell? w4 _ HC94.out; simp only at this; omega)]; exact HW93.out
  obtain ⟨who5, hwho5⟩ : ∃ who5, who5 = setW who3 w4.heap.size .lent := ⟨_, rfl⟩
  have H0 : Hid (AgI B w5 who5 w5 b who5 n f3 K [(gs, s, .slice so s.length sc)] LC1 [(g, p.length)] w4.heap.size (.slice none 0 0) p 0) := by
    refine ⟨by rw [hwho5]; exact hx5, Fr.refl _ _ _, by simpa using HLC.out, hb5, by rw [hwho5]; exact setW_at _ _ _, fun e => ?_, ⟨rfl, Or.inl ⟨rfl, rfl⟩⟩, fun q e => by cases e⟩
    have := (HX4.out.le.lt _ e).1
    omega
  rw [← hwho5] at HW65 HW95
  have HDM : Hid (∀ q, who5 q ≠ .other → B ≤ q) := fun q e => (H0.out.lx.hs.1.dom q e).1
  clear hx5 hf5 hb5 hwho5 HX4 HX3 HG45 HC64 HC94 HWX3 HW93 HW4 HW3 HW2 HW1 HLC
  go_wp2_with fail
  go_loopw [13] (fun iv w' => ∃ i : Nat, i ≤ p.length ∧ iv = .int .i64 i ∧ Hid (∃ who' LC qv, AgI B w5 who5 w' b who' n f3 K [(gs, s, .slice so s.length sc)] LC [(g, p.length)] w4.heap.size qv p i)) (fun iv _ => p.length - (intOf iv).toNat)
  case atStart => exact ⟨0, Nat.zero_le _, rfl, ⟨_, _, _, H0.out⟩⟩
  case round =>
    clear H0
    obtain ⟨i, hi, rfl, HIE⟩ := hrel
    obtain ⟨who', LC, qv, hAI⟩ := HIE.out
    clear HIE
    obtain ⟨w6, hw6⟩ : ∃ w6, w6 = wr := ⟨_, rfl⟩
    rw [← hw6] at hAI ⊢
    clear hw6
    have HAI := hide hAI
    have c6 : w6.cell? ⟨w.heap.size, 0, none⟩ = some (.slice ao p.length cap) := by
      rw [World.cell?_of_block (hAI.fr.oth w.heap.size (World.block_lt_of_cell? w5 _ HC65.out) HW65.out (fun e => e)).1]; exact HC65.out
    have HW6 : Hid (W.grownBy w6 none) := hAI.fr.base HW5.out hWB HDM.out (fun _ e => e.elim)
    clear hAI
    by_cases hlt : i < p.length
    · have t0 : (0 : Int) ≤ (i : Int) := by omega
      have t1 : (i : Int) < p.length := by omega
      obtain ⟨pg, po, hao, rv, hrv, hcv⟩ := (show ∃ g o, ao = some ⟨g, o, none⟩ ∧ ∃ rv, W.cell? ⟨g, o + i, none⟩ = some rv ∧ CodeAt W rv p[i] from by
        obtain ⟨ao', cap', e, hh⟩ := HP.out
        simp only [Value.agg.injEq, Array.mk.injEq, List.cons.injEq, Value.slice.injEq, and_true, true_and] at e
        obtain ⟨g, o, e1, rv, e2, e3⟩ := hh i hlt
        exact ⟨g, o, by rw [e.1]; exact e1, rv, e2, e3⟩)
      subst hao
      have hnr : nilA rv := HPN.out pg po p.length cap i rv rfl hlt hrv
      have hcl : p[i].length ≤ 4398046510976 := HPC.out _ (List.getElem_mem hlt)
      obtain ⟨c, hc⟩ : ∃ c, p[i] = c := ⟨_, rfl⟩
      rw [hc] at hcv hcl
      have HCE := hide hc
      clear hc
      have hcv0 := hcv
      obtain ⟨ca, cc, rfl, _⟩ := hcv
      have hcv6 : CodeAt w6 (.slice ca c.length cc) c := hcv0.pres (pres_grown HW6.out)
      have r6 := pres_grown HW6.out _ _ hrv
      have HSO : Hid (ca = none → c.length = 0 ∧ cc = 0) := fun e => hnr _ _ (by rw [e])
      have HNW : Hid (∀ ad, ca = some ad → ∀ j u, (codeL c)[j]? = some u → w6.cell? (ad.add j) = some u) := fun ad e => by
        subst e; exact codeL_cells hcv6
      have hil : (codeL c).length = c.length * 4 := codeL_len c
      have h63 : 0 + c.length ≤ maxLen := by unfold maxLen; omega
      have q0 : (c.length : Int) ≤ 4398046510976 := by omega
      clear hcv0 hcv6 hrv hnr
      go_upto_if 49 with (at_builtin; refine wpList_append_any rfl _ _ _ rfl w6.heap.size 28 i0 _ 4 32 Tryd.underlying29 hi0 hz0 hz1 hz2 rfl (by omega) (.slice none 0 0) 0 [] rfl ⟨rfl, Or.inl ⟨rfl, rfl⟩⟩ ca c.length cc (codeL c) rfl hil HSO.out HNW.out (codeL_one _) h63 (by omega) (Nat.le_refl _) ?_; intro ta tn tc w7 hown7 hg7)
      simp only [Nat.zero_add, List.nil_append] at hown7
      have htn := owns_lenq hown7
      subst htn
      have HG7 : Hid (w6.grownBy w7 none) := hg7
      have HO7 := hide hown7
      clear hown7 hg7 hil h63 HSO HNW r6 c6
      go_cut [14] (fun tv w' => Hid (∃ ta tc, tv = .slice ta c.length tc ∧ w'.ownsRow w6.heap.size 28 4 tv c.length (codeL (modC c)) ∧ w6.grownBy w' none))
      case first =>
        by_cases hs1 : 0 < c.length
        · have t2 : (0 : Int) < c.length := by omega
          obtain ⟨tg, hta, htg, hfz⟩ : ∃ tg, ta = some ⟨tg, 0, none⟩ ∧ w6.heap.size ≤ tg ∧ ∀ o, w7.frozen? ⟨tg, o, none⟩ = false := by
            rcases HO7.out.2 with ⟨_, e⟩ | ⟨g, cap, cur, hv, hb', hh, _⟩
            · omega
            · simp only [Value.slice.injEq] at hv
              exact ⟨g, hv.1, hb', fun o => by simp [World.frozen?, hh]⟩
          subst hta
          have cu : ∀ j, j < 4 → ∃ u, w7.cell? ⟨tg, j, none⟩ = some u := fun j hj => by
            obtain ⟨u, hu⟩ : ∃ u, (codeL c)[j]? = some u := ⟨_, List.getElem?_eq_getElem (by rw [codeL_len]; omega)⟩
            exact ⟨u, by rw [HO7.out.cellAt _ (by omega)]; exact hu⟩
          obtain ⟨v0, m0⟩ := cu 0 (by omega)
          obtain ⟨v1, m1⟩ := cu 1 (by omega)
          obtain ⟨v2, m2⟩ := cu 2 (by omega)
          obtain ⟨v3, m3⟩ := cu 3 (by omega)
          have f0 := hfz 0
          have f1' := hfz 1
          have f2 := hfz 2
          have f3' := hfz 3
          have HNX : Hid (((((w7.setCell ⟨tg, 0, none⟩ (.int .i64 11)).setCell ⟨tg, 1, none⟩ (.int .i64 1)).setCell ⟨tg, 2, none⟩ (.int .i64 0)).setCell ⟨tg, 3, none⟩ (.int .i64 0)).ownsRow w6.heap.size 28 4 (.slice (some ⟨tg, 0, none⟩) c.length tc) c.length (codeL (modC c))) := by
            unfold Hid; rw [← modC_set hs1]; exact owns_setCell (owns_setCell (owns_setCell (owns_setCell HO7.out 0 _) 1 _) 2 _) 3 _
          have HNG : Hid (w6.grownBy ((((w7.setCell ⟨tg, 0, none⟩ (.int .i64 11)).setCell ⟨tg, 1, none⟩ (.int .i64 1)).setCell ⟨tg, 2, none⟩ (.int .i64 0)).setCell ⟨tg, 3, none⟩ (.int .i64 0)) none) := grown_setNew (grown_setNew (grown_setNew (grown_setNew HG7.out htg) htg) htg) htg
          clear hfz cu
          go_wp2_with fail
          go_meet
          exact ⟨_, _, rfl, HNX.out, HNG.out⟩
        · have t2 : (c.length : Int) ≤ 0 := by omega
          have HE : Hid (modC c = c) := modC_nil hs1
          go_wp2_with fail
          go_meet
          exact ⟨_, _, rfl, by rw [HE.out]; exact HO7.out, HG7.out⟩
      case rest =>
      obtain ⟨ta2, tc2, rfl, ho8, hg8⟩ := hcut.out
      clear hcut HO7 HG7
      obtain ⟨w8, hw8⟩ : ∃ w8, w8 = wc := ⟨_, rfl⟩
      rw [← hw8] at ho8 hg8 ⊢
      clear hw8
      refine ‹∀ a w, Code.wp Tryd.prog _ (Exit.inBlock 1 _) a w → _› _ _ ?_
      refine agRound (HAI.out.grown hg8) hlt HCE hpl hcl hl5 ho8 (fun q e => ?_) ?_ ?_
      · have h1 := owns_block ho8 q e
        by_cases ho : who' q = .other
        · exact ho
        · exact absurd (HAI.out.lx.hs.1.dom q ho).2 (by omega)
      · exact fun _ _ _ _ _ h => h
      intro z15 z53 z54 z55 z56 z57 z58 z59 z60 z61 z62 z63 z64 z65 z66 z67 z68 z69 z70 z71 z72 z73 z74 z75 z76 z77 z78 z79 z80 z81 z82 z83 z84 who'' LC' qv' w' hA'
      have HA' := hide hA'
      clear hA'
      go_wp2_with fail
      go_roundw
      case rel => exact ⟨i + 1, by omega, by go_num, ⟨who'', LC', qv', HA'.out⟩⟩
      case measure => simp [intOf]; omega
    · have t1 : (p.length : Int) ≤ (i : Int) := by omega
      have hin : i = p.length := by omega
      have HIN := hide hin
      have hLL := HAI.out.len hi
      have HLN := hide hLL
      have hcod : LC.map (·.2.1) = p.map modC := by
        have := HAI.out.cod
        rw [hin] at this
        simpa using this
      have HCD := hide hcod
      clear hin hLL hcod
      go_upto_if 37 with fail
      refine wp_cond_false rfl ?_
      refine wp_exit ?_
      refine ‹∀ a w, Code.wp Tryd.prog _ _ a w → _› _ _ ?_
      obtain ⟨qa, qn, qc, hqv⟩ := owns_form HAI.out.row
      subst hqv
      have hqn := owns_lenq HAI.out.row
      have hqn2 : qn = (p.map modC).length := by rw [hqn, HIN.out]; simp
      subst hqn2
      have hpm : (p.map modC).length = p.length := by simp
      refine againTail (p := p.map modC) (g := g) (qa := qa) (qc := qc) (by rw [hpm]; exact HAI.out.lx) HW6.out hWB HS.out HI.out HNL.out hsl HCD.out (by rw [hpm]; exact hpl) (fun c hc => ?_) HA ?_ ?_ ?_
      · obtain ⟨c0, h0, rfl⟩ := List.mem_map.1 hc
        rw [modC_len]; exact HPC.out c0 h0
      · intro w' hsz hbl
        have wgs : who' gs = .lent := (HAI.out.lx.le.li (gs, s, .slice so s.length sc) (by simp)).2.1
        have ngs : ∀ q, q ∉ [(gs, s, Value.slice so s.length sc)].map (·.1) ++ (LC.map (·.1) ++ [(g, p.length)].map (·.1)) → q ≠ gs := fun q hq e => hq (by rw [e]; simp)
        refine ⟨?_, ?_, ?_⟩
        · refine ⟨qa, qc, rfl, fun t ht => ?_⟩
          have htp : t < p.length := by rw [hpm] at ht; exact ht
          have htL : t < LC.length := by have := HLN.out; omega
          obtain ⟨qg, hqa⟩ : ∃ qg, qa = some ⟨qg, 0, none⟩ := by
            rcases HAI.out.row.2 with ⟨_, e⟩ | ⟨g, cap, cur, hv, hb', hh, _⟩
            · have := HIN.out; omega
            · simp only [Value.slice.injEq] at hv
              exact ⟨g, hv.1⟩
          subst hqa
          obtain ⟨h1, h2, h3⟩ := HAI.out.wrw qg rfl
          have hrow := HAI.out.row
          rw [← hqn] at hrow
          refine ⟨qg, 0, rfl, LC[t].2.2, ?_, ?_⟩
          · rw [Nat.zero_add, World.cell?_of_block (hbl qg (owns_ltH HAI.out.row qg rfl) (ngs qg h2) (fun k e => by rw [h1] at e; cases e)), hrow.cellAt _ (by omega)]
            rw [List.take_of_length_le (by have := HLN.out; omega)]
            simp [htL]
          · obtain ⟨_, _, c3, c4, _⟩ := HAI.out.lx.le.lc _ (List.getElem_mem htL)
            have e1 : LC[t].2.1 = (p.map modC)[t] := by
              have : (LC.map (·.2.1))[t]? = (p.map modC)[t]? := by rw [HCD.out]
              simpa [htL, htp] using this
            rw [← e1]
            exact code_oth c3 c4 (fun q h1 h2 => hbl q h1 (fun e => by rw [e, wgs] at h2; cases h2) (fun k e => by rw [h2] at e; cases e))
        · rw [World.cell?_of_block (hbl w4.heap.size (Array.getElem?_eq_some_iff.1 HAI.out.box).1 (ngs _ HAI.out.nbx) (fun k e => by rw [HAI.out.wbx] at e; cases e))]
          simp [World.cell?, HAI.out.box]
        · obtain ⟨h1, h2⟩ := HAI.out.fr.oth w1.heap.size (World.block_lt_of_cell? w5 _ HC95.out) HW95.out (fun e => e)
          rw [World.cell?_of_block (hbl w1.heap.size (by have := World.block_lt_of_cell? w5 _ HC95.out; have := HAI.out.fr.size; simp only at *; omega) (fun e => by rw [e, wgs] at h2; cases h2) (fun k e => by rw [h2] at e; cases e)), World.cell?_of_block h1, hpm]
          exact HC95.out
      · exact fun _ _ _ _ _ h => h
      · intro z0 z1 z2 z3 z4 z5 z6 z7 z9 z10 z11 z12 z13 z14 z15 z16 z17 z18 z19 z20 z21 z22 z23 z24 z25 z26 z27 z28 z29 z30 z31 z32 z33 z34 z35 z36 z37 z38 z39 z40 z41 z42 z43 z44 z45 z46 z47 z48 z49 z50 z51 z52 z53 z54 z55 z56 z57 z58 z59 z60 z61 z62 z63 z64 z65 z66 z67 z68 z69 z70 z71 z72 z73 z74 z75 z76 z77 z78 z79 z80 z81 z82 z83 z84 z85 z86 z87 z88 z89 z90 z91 z92 z93 z94 z95 z96 z97 z98 z99 z100 z101 z102 z103 z104 z105 z106 z107 z108 z109 z110 z111 z112 z113 z114 z115 z116 z117 z118 z119 z120 z121 z122 z123 z124 z125 z126 z127 z128 z129 z130 z131 z132 z133 z134 z135 z136 z137 z138 z139 f' w' hz hw
        have HZ := hide hz
        have HWF := hide hw
        clear hz hw
        go_ret
        exact ⟨rfl, who', f', K, HZ.out, HWF.out, fun c _ => by omega⟩

end Go.Proofs.YtklenjmfalljgaaDoor

/- The laws' counter: the document's program P, made. -/
namespace Go.Proofs.YtklenjmfalljgaaDoor
open Go.RowKit
attribute [local go_sem] Go.World.cell?_alloc_some

def ctrC : List Ins := [⟨2, 0, 0, 0⟩, ⟨1, 1, 0, 1⟩, ⟨4, 0, 1, 0⟩, ⟨3, 0, 0, 0⟩]
def ctrP : List (List Ins) := [ctrC, ctrC]
def ctrV : Array Value := #[.int .i64 2, .int .i64 0, .int .i64 0, .int .i64 0, .int .i64 1, .int .i64 1, .int .i64 0, .int .i64 1, .int .i64 4, .int .i64 0, .int .i64 1, .int .i64 0, .int .i64 3, .int .i64 0, .int .i64 0, .int .i64 0]

theorem ctr_code {w : World} {g : Nat} {ty : TypeId} (h : w.heap[g]? = some (.cells ctrV ty (0, 0))) : CodeAt w (.slice (some ⟨g, 0, none⟩) 4 4) ctrC := by
  refine ⟨some ⟨g, 0, none⟩, 4, rfl, fun k hk => ⟨g, 0, rfl, ?_⟩⟩
  have hk4 : k = 0 ∨ k = 1 ∨ k = 2 ∨ k = 3 := by simp [ctrC] at hk; omega
  simp only [World.cell?, h]
  rcases hk4 with rfl | rfl | rfl | rfl <;> exact ⟨rfl, rfl, rfl, rfl⟩

theorem ctr_prog {w : World} {g g2 : Nat} {ty ty2 : TypeId} (h : w.heap[g]? = some (.cells ctrV ty (0, 0))) (h2 : w.heap[g2]? = some (.cells #[.slice (some ⟨g, 0, none⟩) 4 4, .slice (some ⟨g, 0, none⟩) 4 4] ty2 (0, 0))) :
    ProgAt w (.agg #[.slice (some ⟨g2, 0, none⟩) 2 2]) ctrP := by
  refine ⟨some ⟨g2, 0, none⟩, 2, rfl, fun t ht => ⟨g2, 0, rfl, .slice (some ⟨g, 0, none⟩) 4 4, ?_, ?_⟩⟩
  · have ht2 : t = 0 ∨ t = 1 := by simp [ctrP] at ht; omega
    simp only [World.cell?, h2]
    rcases ht2 with rfl | rfl <;> rfl
  · have ht2 : t = 0 ∨ t = 1 := by simp [ctrP] at ht; omega
    rcases ht2 with rfl | rfl <;> exact ctr_code h

set_option maxHeartbeats 1000000 in
theorem counter_m (w : World) : Calls Tryd.prog 17 #[] w fun e w' => ∃ pv, e = .returned pv ∧ ProgAt w' pv ctrP ∧ w.grownBy w' none := by
  go_enter Tryd.func17, Tryd.ntmps17
  go_wp2_with fail
  refine bodyPost_ret (v := .agg #[.slice (some ⟨w.heap.size + 1 + 1, 0, none⟩) 2 2]) ?_ rfl ⟨_, rfl, ctr_prog (g := w.heap.size + 1) (ty := 28) (ty2 := 29) ?_ ?_, grown_alloc (grown_alloc (grown_alloc (grown_refl _ _)))⟩
  · simp [results, Tryd.results17, go_sem]
  · rw [Below.heap_alloc _ _ _ (by simp)]
    have := heap_alloc_new (w.alloc (.cells #[.slice (some ⟨w.heap.size + 1 + 1, 0, none⟩) 2 2] 25)) (.cells ctrV 28)
    simp only [World.size_alloc] at this
    exact this
  · have := heap_alloc_new ((w.alloc (.cells #[.slice (some ⟨w.heap.size + 1 + 1, 0, none⟩) 2 2] 25)).alloc (.cells ctrV 28)) (.cells #[.slice (some ⟨w.heap.size + 1, 0, none⟩) 4 4, .slice (some ⟨w.heap.size + 1, 0, none⟩) 4 4] 29)
    simp only [World.size_alloc] at this
    exact this

end Go.Proofs.YtklenjmfalljgaaDoor

/- The reference's Check: pure, and its walk. -/
namespace Go.Proofs.YtklenjmfalljgaaDoor
open Go.RowKit
attribute [local go_sem] Go.World.cell?_alloc_some

def shapeR (op : Int) : Int × Int × Int :=
  if op = 1 then (4, 0, 1) else if 2 ≤ op ∧ op ≤ 7 then (4, 4, 0) else if op = 8 then (4, 0, 2) else if op = 9 ∨ op = 10 then (3, 0, 0) else if op = 11 then (4, 0, 0) else (-1, 0, 0)
def belowR (v n : Int) : Bool := v == 0 || (decide (0 < v) && decide (v < n))
def placeR (c v n : Int) : Bool := c == 1 || v == 0 || (c == 2 && decide (0 < v) && decide (v ≤ n))
def insR (i : Ins) (n : Int) : Bool := !decide ((shapeR i.op).1 < 0) && belowR i.a (shapeR i.op).1 && belowR i.b (shapeR i.op).2.1 && placeR (shapeR i.op).2.2 i.n n

theorem belowR_four (v : Int) : belowR v 4 = belowB v 4 := by
  unfold belowR belowB; rw [Bool.eq_iff_iff]; simp; omega
theorem belowR_three (v : Int) : belowR v 3 = belowB v 3 := by
  unfold belowR belowB; rw [Bool.eq_iff_iff]; simp; omega
theorem belowR_zero (v : Int) : belowR v 0 = (v == 0) := by
  unfold belowR; rw [Bool.eq_iff_iff]; simp; omega
theorem placeR_two (v n : Int) (hn : 0 ≤ n) : placeR 2 v n = belowB v (n + 1) := by
  unfold placeR belowB; rw [Bool.eq_iff_iff]; simp; omega
theorem insR_eq (i : Ins) (n : Int) (hn : 0 ≤ n) : insR i n = vIns i n := by
  obtain ⟨op, a, b, m⟩ := i
  by_cases h : 1 ≤ op ∧ op ≤ 11
  · have hc : op = 1 ∨ op = 2 ∨ op = 3 ∨ op = 4 ∨ op = 5 ∨ op = 6 ∨ op = 7 ∨ op = 8 ∨ op = 9 ∨ op = 10 ∨ op = 11 := by omega
    have z0 : placeR 0 m n = (m == 0) := by unfold placeR; simp
    have z1 : placeR 1 m n = true := by unfold placeR; simp
    have z2 := placeR_two m n hn
    rcases hc with rfl | rfl | rfl | rfl | rfl | rfl | rfl | rfl | rfl | rfl | rfl <;> simp [insR, vIns, shapeR, shp, fitsB, belowR_four, belowR_three, belowR_zero, z0, z1, z2, Bool.and_assoc]
  · have hs : shapeR op = (-1, 0, 0) := by
      unfold shapeR
      rw [if_neg (by omega), if_neg (by omega), if_neg (by omega), if_neg (by omega), if_neg (by omega)]
    have hv : vIns ⟨op, a, b, m⟩ n = false := by
      simp only [vIns]
      by_cases h1 : 1 ≤ op
      · have : ¬ op ≤ 11 := by omega
        simp [this]
      · simp [h1]
    rw [hv]
    simp [insR, hs]

set_option maxHeartbeats 400000 in
theorem rbelow_m (v n : Int) (w : World) : Calls Tryd.prog 84 #[.int .i64 v, .int .i64 n] w fun e w' => e = .returned (.bool (belowR v n)) ∧ w' = w := by
  by_cases h0 : v = 0
  · have HB : Hid (belowR v n = true) := by unfold Hid belowR; simp [h0]
    subst h0
    go_enter Tryd.func84, Tryd.ntmps84
    go_wp2_with fail
    go_ret
    exact ⟨by rw [HB.out]; rfl, rfl⟩
  · have h0' : (v == 0) = false := by simpa using h0
    by_cases h1 : 0 < v
    · by_cases h2 : v < n
      · have HB : Hid (belowR v n = true) := by unfold Hid belowR; simp [h1, h2]
        go_enter Tryd.func84, Tryd.ntmps84
        go_wp2_with fail
        go_ret
        exact ⟨by rw [HB.out]; rfl, rfl⟩
      · have HB : Hid (belowR v n = false) := by unfold Hid belowR; simp [h0, h2]
        have h3 : n ≤ v := by omega
        go_enter Tryd.func84, Tryd.ntmps84
        go_wp2_with fail
        go_ret
        exact ⟨by rw [HB.out]; rfl, rfl⟩
    · have HB : Hid (belowR v n = false) := by unfold Hid belowR; simp [h0, h1]
      have h3 : v ≤ 0 := by omega
      go_enter Tryd.func84, Tryd.ntmps84
      go_wp2_with fail
      go_ret
      exact ⟨by rw [HB.out]; rfl, rfl⟩

def shapeV (x : Int × Int × Int) : Value := .tuple #[.int .i64 x.1, .int .i64 x.2.1, .int .i64 x.2.2]
set_option maxHeartbeats 1000000 in
theorem shape_m (op : Int) (w : World) : Calls Tryd.prog 83 #[.int .i64 op] w fun e w' => e = .returned (shapeV (shapeR op)) ∧ w' = w := by
  by_cases h : 1 ≤ op ∧ op ≤ 11
  · have hc : op = 1 ∨ op = 2 ∨ op = 3 ∨ op = 4 ∨ op = 5 ∨ op = 6 ∨ op = 7 ∨ op = 8 ∨ op = 9 ∨ op = 10 ∨ op = 11 := by omega
    rcases hc with rfl | rfl | rfl | rfl | rfl | rfl | rfl | rfl | rfl | rfl | rfl
    all_goals
      go_enter Tryd.func83, Tryd.ntmps83
      go_wp2_with fail
      refine bodyPost_ret (v := shapeV (shapeR _)) (by simp [results, Tryd.results83, go_sem, shapeV, shapeR]) rfl ⟨rfl, rfl⟩
  · have hs : shapeR op = (-1, 0, 0) := by
      unfold shapeR
      rw [if_neg (by omega), if_neg (by omega), if_neg (by omega), if_neg (by omega), if_neg (by omega)]
    have n1 : (op == 1) = false := by simp; omega
    have n2 : (op == 2) = false := by simp; omega
    have n3 : (op == 3) = false := by simp; omega
    have n4 : (op == 4) = false := by simp; omega
    have n5 : (op == 5) = false := by simp; omega
    have n6 : (op == 6) = false := by simp; omega
    have n7 : (op == 7) = false := by simp; omega
    have n8 : (op == 8) = false := by simp; omega
    have n9 : (op == 9) = false := by simp; omega
    have n10 : (op == 10) = false := by simp; omega
    have n11 : (op == 11) = false := by simp; omega
    rw [hs]
    clear hs h
    go_enter Tryd.func83, Tryd.ntmps83
    go_wp2_with fail
    refine bodyPost_ret (v := shapeV (-1, 0, 0)) (by simp [results, Tryd.results83, go_sem, shapeV]) rfl ⟨rfl, rfl⟩

end Go.Proofs.YtklenjmfalljgaaDoor

/- The walk of the reference's Check. -/
namespace Go.Proofs.YtklenjmfalljgaaDoor
open Go.RowKit
attribute [local go_sem] Go.World.cell?_alloc_some

def chkR (p : List (List Ins)) : Bool := decide (1 ≤ p.length) && (decide (p.length ≤ 4) && p.all fun c => decide (c.length ≤ 16) && c.all fun i => insR i c.length)
theorem chkR_eq (p : List (List Ins)) : chkR p = vProg p := by
  unfold chkR vProg vCode
  congr 2
  congr 1
  funext c
  congr 2
  funext i
  exact insR_eq i _ (by omega)

theorem all_split {α : Type} (l : List α) (f : α → Bool) (k : Nat) (hk : k < l.length) (h : f l[k] = false) : l.all f = false := by
  rw [List.all_eq_false]
  exact ⟨_, List.getElem_mem hk, by simp [h]⟩
theorem take_all {α : Type} (l : List α) (f : α → Bool) (k : Nat) (hk : k < l.length) (h : (l.take k).all f = true) (h2 : f l[k] = true) : (l.take (k + 1)).all f = true := by
  rw [List.take_succ_eq_append_getElem hk, List.all_append, h]; simp [h2]

set_option maxRecDepth 100000 in
set_option maxHeartbeats 4000000 in
theorem refcheck_m (p : List (List Ins)) (pv : Value) (w : World) (hP : ProgAt w pv p) (hp : p.length ≤ 5864062014634) (hpc : ∀ c ∈ p, c.length ≤ 4398046510976) :
    Calls Tryd.prog 48 #[pv] w fun e w' => e = .returned (.int .i64 (checkN p)) ∧ w.grownBy w' none := by
  have HP := hide hP
  have HPC := hide hpc
  obtain ⟨ao, cap, rfl⟩ := hP.form
  clear hP hpc
  have q0 : (p.length : Int) ≤ 5864062014634 := by omega
  have HN1 : Hid (chkR p = false → checkN p = 1) := fun e => by rw [chkR_eq] at e; unfold checkN; simp [e]
  have HN0 : Hid (chkR p = true → checkN p = 0) := fun e => by rw [chkR_eq] at e; unfold checkN; simp [e]
  by_cases hlen : 1 ≤ p.length ∧ p.length ≤ 4
  · have g1 : (1 : Int) ≤ p.length := by omega
    have g4 : (p.length : Int) ≤ 4 := by omega
    have HCK : Hid (∀ r, (p.all fun c => decide (c.length ≤ 16) && c.all fun i => insR i c.length) = r → chkR p = r) := fun r e => by unfold chkR; rw [e]; simp [hlen.1, hlen.2]
    go_enter Tryd.func48, Tryd.ntmps48
    go_wp2_with fail
    have hg1 : w.grownBy (w.alloc (.cells #[.slice ao p.length cap] 25)) none := grown_alloc (grown_refl _ _)
    have hB1 := heap_alloc_new w (.cells #[.slice ao p.length cap] 25)
    generalize w.alloc (.cells #[.slice ao p.length cap] 25) = w1 at hg1 hB1 ⊢
    have HB1 := hide hB1
    have HG1 := hide hg1
    have hbx : w.heap.size < w1.heap.size := (Array.getElem?_eq_some_iff.1 hB1).1
    clear hg1 hB1
    go_loopw [3] (fun i w' => ∃ t : Nat, t ≤ p.length ∧ i = .int .i64 t ∧ Hid (w1.grownBy w' none) ∧ Hid ((p.take t).all (fun c => decide (c.length ≤ 16) && c.all fun i => insR i c.length) = true)) (fun i _ => p.length - (intOf i).toNat)
    case atStart => exact ⟨0, Nat.zero_le _, rfl, hide (grown_refl _ _), by simp [Hid]⟩
    case round =>
      obtain ⟨t, ht, rfl, HG, HA⟩ := hrel
      obtain ⟨w5, hw5⟩ : ∃ w5, w5 = wr := ⟨_, rfl⟩
      rw [← hw5] at HG ⊢
      clear hw5
      have c0 : w5.cell? ⟨w.heap.size, 0, none⟩ = some (.slice ao p.length cap) := pres_grown HG.out _ _ (by have := HB1.out; simp [World.cell?, this])
      by_cases hlt : t < p.length
      · obtain ⟨ao', cap', e1, hcell⟩ := HP.out
        obtain ⟨pg, po, e2, rv, r1, r2⟩ := hcell t hlt
        simp only [Value.agg.injEq, Array.mk.injEq, List.cons.injEq, Value.slice.injEq, and_true, true_and] at e1
        obtain ⟨e1, e1'⟩ := e1
        subst e1 e1' e2
        have hpl : p[t].length ≤ 4398046510976 := HPC.out _ (List.getElem_mem hlt)
        obtain ⟨ca, cc, rfl, hci⟩ := r2
        have d0 : w5.cell? ⟨pg, po + t, none⟩ = some (.slice ca p[t].length cc) := pres_grown (grown_trans HG1.out HG.out) _ _ r1
        have HF : Hid (∀ r, (decide (p[t].length ≤ 16) && p[t].all fun i => insR i p[t].length) = r → (r = false → (p.all fun c => decide (c.length ≤ 16) && c.all fun i => insR i c.length) = false) ∧ (r = true → (p.take (t + 1)).all (fun c => decide (c.length ≤ 16) && c.all fun i => insR i c.length) = true)) := fun r e =>
          ⟨fun e2 => all_split p _ t hlt (by rw [e, e2]), fun e2 => take_all p _ t hlt HA.out (by rw [e, e2])⟩
        have HD0 := hide r1
        have HCI := hide hci
        clear hcell r1 hci
        generalize p[t] = c at *
        have t0 : (0 : Int) ≤ (t : Int) := by omega
        have t1 : (t : Int) < p.length := by omega
        have t2 : (c.length : Int) ≤ 4398046510976 := by omega
        by_cases h16 : c.length ≤ 16
        · have t3 : (c.length : Int) ≤ 16 := by omega
          go_wp2_with fail
          go_loopw [5] (fun i w' => ∃ k : Nat, k ≤ c.length ∧ i = .int .i64 k ∧ Hid (w1.grownBy w' none) ∧ Hid ((c.take k).all (fun i => insR i c.length) = true)) (fun i _ => c.length - (intOf i).toNat)
          case atStart => exact ⟨0, Nat.zero_le _, rfl, HG, by simp [Hid]⟩
          case round =>
            clear c0 d0 HG
            obtain ⟨k, hk, rfl, HG, HA2⟩ := hrel
            obtain ⟨w7, hw7⟩ : ∃ w7, w7 = wr := ⟨_, rfl⟩
            rw [← hw7] at HG ⊢
            clear hw7
            by_cases hkl : k < c.length
            · obtain ⟨ig, io, rfl, x1, x2, x3, x4⟩ := HCI.out k hkl
              have hGW := grown_trans HG1.out HG.out
              have c0 : w7.cell? ⟨w.heap.size, 0, none⟩ = some (.slice (some ⟨pg, po, none⟩) p.length cap) := pres_grown HG.out _ _ (by have := HB1.out; simp [World.cell?, this])
              have d0 : w7.cell? ⟨pg, po + t, none⟩ = some (.slice (some ⟨ig, io, none⟩) c.length cc) := pres_grown hGW _ _ HD0.out
              have y1 := pres_grown hGW _ _ x1
              have y2 := pres_grown hGW _ _ x2
              have y3 := pres_grown hGW _ _ x3
              have y4 := pres_grown hGW _ _ x4
              have HF2 : Hid (∀ r, insR c[k] c.length = r → (r = false → (c.all fun i => insR i c.length) = false) ∧ (r = true → (c.take (k + 1)).all (fun i => insR i c.length) = true)) := fun r e =>
                ⟨fun e2 => all_split c _ k hkl (by rw [e, e2]), fun e2 => take_all c _ k hkl HA2.out (by rw [e, e2])⟩
              clear x1 x2 x3 x4 hGW
              generalize c[k] = ins at *
              obtain ⟨op, ia, ib, im⟩ := ins
              simp only at y1 y2 y3 y4
              have s0 : (0 : Int) ≤ (k : Int) := by omega
              have s1 : (k : Int) < c.length := by omega
              go_wp2_with fail
              have hg8 : w7.grownBy (w7.alloc (.cells #[.int .i64 op, .int .i64 ia, .int .i64 ib, .int .i64 im] 28)) none := grown_alloc (grown_refl _ _)
              have hb8 := heap_alloc_new w7 (.cells #[.int .i64 op, .int .i64 ia, .int .i64 ib, .int .i64 im] 28)
              generalize w7.alloc (.cells #[.int .i64 op, .int .i64 ia, .int .i64 ib, .int .i64 im] 28) = w8 at hg8 hb8 ⊢
              have z1 : w8.cell? ⟨w7.heap.size, 1, none⟩ = some (.int .i64 ia) := by simp [World.cell?, hb8]
              have z2 : w8.cell? ⟨w7.heap.size, 2, none⟩ = some (.int .i64 ib) := by simp [World.cell?, hb8]
              have z3 : w8.cell? ⟨w7.heap.size, 3, none⟩ = some (.int .i64 im) := by simp [World.cell?, hb8]
              have HG8 := hide (grown_trans HG.out hg8)
              clear hg8 hb8 y1 y2 y3 y4 d0 c0 HG
              refine (shape_m op w8).mono ?_
              rintro e w9 ⟨rfl, hw9⟩
              have hw9 := hw9.symm
              subst hw9
              have HIR : Hid (∀ r, (!decide ((shapeR op).1 < 0) && belowR ia (shapeR op).1 && belowR ib (shapeR op).2.1 && placeR (shapeR op).2.2 im c.length) = r → insR ⟨op, ia, ib, im⟩ c.length = r) := fun r e => e
              have hc3 : (shapeR op).2.2 = 0 ∨ (shapeR op).2.2 = 1 ∨ (shapeR op).2.2 = 2 := by
                unfold shapeR; repeat' split
                all_goals simp
              have ha0 : (shapeR op).1 = -1 ∨ 0 ≤ (shapeR op).1 := by
                unfold shapeR; repeat' split
                all_goals simp
              unfold shapeV
              generalize shapeR op = sr at *
              obtain ⟨sa, sb, sc⟩ := sr
              simp only at HIR hc3 ha0 ⊢
              go_wp2_with fail
              refine (rbelow_m ia sa w8).mono ?_
              rintro e w9 ⟨rfl, hw9⟩
              have hw9 := hw9.symm
              subst hw9
              go_wp2_with fail
              refine (rbelow_m ib sb w8).mono ?_
              rintro e w9 ⟨rfl, hw9⟩
              have hw9 := hw9.symm
              subst hw9
              generalize belowR ia sa = xb at *
              generalize belowR ib sb = yb at *
              have HPL : Hid (∀ r, placeR sc im c.length = r → insR ⟨op, ia, ib, im⟩ c.length = (!decide (sa < 0) && xb && yb && r)) := fun r e => HIR.out _ (by rw [e])
              clear HIR
              go_upto_region 16 with fail
              go_cut [12] (fun zv w' => zv = .bool (placeR sc im c.length) ∧ w' = w8)
              case first =>
                by_cases him : im = 0
                · have hpl2 : placeR sc im c.length = true := by unfold placeR; simp [him]
                  have him' : (im == 0) = true := by simpa using him
                  rcases hc3 with rfl | rfl | rfl
                  all_goals
                    go_wp2_with fail
                    go_meet
                    exact ⟨by rw [hpl2], rfl⟩
                · have him' : (im == 0) = false := by simpa using him
                  rcases hc3 with rfl | rfl | rfl
                  · have hpl2 : placeR 0 im c.length = false := by unfold placeR; simp [him]
                    go_wp2_with fail
                    go_meet
                    exact ⟨by rw [hpl2], rfl⟩
                  · have hpl2 : placeR 1 im c.length = true := by unfold placeR; simp
                    go_wp2_with fail
                    go_meet
                    exact ⟨by rw [hpl2], rfl⟩
                  · by_cases hip : 0 < im
                    · by_cases hic : im ≤ (c.length : Int)
                      · have hpl2 : placeR 2 im c.length = true := by unfold placeR; simp [hip, hic]
                        go_wp2_with fail
                        go_meet
                        exact ⟨by rw [hpl2], rfl⟩
                      · have hpl2 : placeR 2 im c.length = false := by unfold placeR; simp [him, hic]
                        have hic' : (c.length : Int) < im := by omega
                        go_wp2_with fail
                        go_meet
                        exact ⟨by rw [hpl2], rfl⟩
                    · have hpl2 : placeR 2 im c.length = false := by unfold placeR; simp [him, hip]
                      have hip' : im ≤ 0 := by omega
                      go_wp2_with fail
                      go_meet
                      exact ⟨by rw [hpl2], rfl⟩
              case rest =>
              obtain ⟨rfl, hwc⟩ := hcut
              have hwc2 := hwc.symm
              subst hwc2
              generalize placeR sc im c.length = zb at *
              have HIN := hide (HPL.out zb rfl)
              clear HPL z1 z2 z3 hc3
              go_upto_region 17 with fail
              go_cut [101] (fun bv w' => bv = .bool (!insR ⟨op, ia, ib, im⟩ c.length) ∧ w' = w8)
              case first =>
                rcases ha0 with rfl | ha0
                · have hin : insR ⟨op, ia, ib, im⟩ c.length = false := by rw [HIN.out]; simp
                  go_wp2_with fail
                  go_meet
                  exact ⟨by rw [hin]; rfl, rfl⟩
                · have hna : ¬ sa < 0 := by omega
                  have hin : insR ⟨op, ia, ib, im⟩ c.length = (xb && yb && zb) := by rw [HIN.out]; simp [hna]
                  cases xb <;> cases yb <;> cases zb
                  all_goals
                    go_wp2_with fail
                    go_meet
                    exact ⟨by rw [hin]; rfl, rfl⟩
              case rest =>
              obtain ⟨rfl, hwc⟩ := hcut
              have hwc2 := hwc.symm
              subst hwc2
              clear HIN ha0
              have HFx := hide (HF2.out (insR ⟨op, ia, ib, im⟩ c.length) rfl)
              clear HF2
              generalize insR ⟨op, ia, ib, im⟩ c.length = rb at *
              cases rb
              · have HE : Hid (checkN p = 1) := by
                  refine HN1.out (HCK.out _ ?_)
                  refine (HF.out _ rfl).1 ?_
                  rw [HFx.out.1 rfl]; simp
                go_wp2_with fail
                go_ret
                exact ⟨by rw [HE.out]; rfl, grown_trans HG1.out HG8.out⟩
              · have HA3 := hide (HFx.out.2 rfl)
                go_wp2_with fail
                go_roundw
                case rel => exact ⟨k + 1, by omega, by go_num, HG8, HA3⟩
                case measure => simp [intOf]; omega
            · have s1 : (c.length : Int) ≤ (k : Int) := by omega
              have HA4 : Hid ((p.take (t + 1)).all (fun c => decide (c.length ≤ 16) && c.all fun i => insR i c.length) = true) := by
                refine (HF.out _ rfl).2 ?_
                have := HA2.out
                rw [List.take_of_length_le (by omega)] at this
                rw [this]; simp [h16]
              go_wp2_with fail
              go_roundw
              case rel => exact ⟨t + 1, by omega, by go_num, HG, HA4⟩
              case measure => simp [intOf]; omega
        · have t3 : (16 : Int) < c.length := by omega
          have HE : Hid (checkN p = 1) := by
            refine HN1.out (HCK.out _ ?_)
            refine (HF.out _ rfl).1 ?_
            simp [h16]
          go_wp2_with fail
          go_ret
          exact ⟨by rw [HE.out]; rfl, grown_trans HG1.out HG.out⟩
      · have t1 : (p.length : Int) ≤ (t : Int) := by omega
        have HE : Hid (checkN p = 0) := by
          refine HN0.out (HCK.out _ ?_)
          have := HA.out
          rw [List.take_of_length_le (by omega)] at this
          exact this
        go_wp2_with fail
        go_ret
        exact ⟨by rw [HE.out]; rfl, grown_trans HG1.out HG.out⟩
  · have HE : Hid (checkN p = 1) := HN1.out (by
      unfold chkR
      by_cases h1 : 1 ≤ p.length
      · have h4 : ¬ p.length ≤ 4 := by omega
        simp [h4]
      · simp [h1])
    by_cases h1 : p.length < 1
    · have g1 : (p.length : Int) < 1 := by omega
      go_enter Tryd.func48, Tryd.ntmps48
      go_wp2_with fail
      go_ret
      exact ⟨by rw [HE.out]; rfl, grown_alloc (grown_refl _ _)⟩
    · have g1 : (1 : Int) ≤ p.length := by omega
      have g4 : (4 : Int) < p.length := by omega
      go_enter Tryd.func48, Tryd.ntmps48
      go_wp2_with fail
      go_ret
      exact ⟨by rw [HE.out]; rfl, grown_alloc (grown_refl _ _)⟩

end Go.Proofs.YtklenjmfalljgaaDoor

/- The reference's run: done, ready, reckon, said of cells. -/
namespace Go.Proofs.YtklenjmfalljgaaDoor
open Go.RowKit
attribute [local go_sem] Go.World.cell?_alloc_some

set_option maxHeartbeats 400000 in
theorem rdone_m (b ab n cap c2 g o t len c : Nat) (ao : Option Addr) (x : Int) (w : World) (ht : t < n) (ht4 : t < 4) (hlen : len ≤ 16)
    (hp : w.cell? ⟨b, 0, none⟩ = some (.slice (some ⟨g, o, none⟩) n cap)) (ha : w.cell? ⟨b, 1, none⟩ = some (.slice (some ⟨ab, 0, none⟩) n c2))
    (hr : w.cell? ⟨g, o + t, none⟩ = some (.slice ao len c)) (hx : w.cell? ⟨ab, t, none⟩ = some (.int .i64 x)) :
    Calls Tryd.prog 135 #[.pointer (some ⟨b, 0, none⟩), .int .i64 t] w fun e w' => e = .returned (.bool (decide ((len : Int) ≤ x))) ∧ Like w' w := by
  have h1 : (0 : Int) ≤ (t : Int) := by omega
  have h2 : (t : Int) < 4 := by omega
  have h3 : (t : Int) < n := by omega
  have h4 : (len : Int) ≤ 16 := by omega
  go_enter Tryd.func135, Tryd.ntmps135
  go_wp2
  go_region
  all_goals (go_wp2; go_ret; exact ⟨rfl, rfl, rfl, rfl, rfl⟩)

set_option maxHeartbeats 400000 in
theorem rready_done (b ab n cap c2 g o t len c : Nat) (ao : Option Addr) (x : Int) (w : World) (ht : t < n) (ht4 : t < 4) (hlen : len ≤ 16) (hd : (len : Int) ≤ x)
    (hp : w.cell? ⟨b, 0, none⟩ = some (.slice (some ⟨g, o, none⟩) n cap)) (ha : w.cell? ⟨b, 1, none⟩ = some (.slice (some ⟨ab, 0, none⟩) n c2))
    (hr : w.cell? ⟨g, o + t, none⟩ = some (.slice ao len c)) (hx : w.cell? ⟨ab, t, none⟩ = some (.int .i64 x)) :
    Calls Tryd.prog 133 #[.pointer (some ⟨b, 0, none⟩), .int .i64 t] w fun e w' => e = .returned (.bool false) ∧ w.grownBy w' none := by
  go_enter Tryd.func133, Tryd.ntmps133
  go_wp2_with fail
  refine (rdone_m b ab n cap c2 g o t len c ao x w ht ht4 hlen hp ha hr hx).mono ?_
  rintro e w' ⟨rfl, hl⟩
  simp only [hd, decide_true]
  go_wp2
  go_ret
  exact ⟨rfl, grown_like (grown_refl _ _) hl⟩

set_option maxHeartbeats 4000000 in
theorem rready_m (b ab n cap c2 g o t len c h ho k : Nat) (i : Ins) (ow : Int) (w : World) (ht : t < n) (ht4 : t < 4) (hlen : len ≤ 16) (hk : k < len)
    (ha0 : 0 ≤ i.a) (ha4 : i.op = 9 → i.a < 3)
    (hp : w.cell? ⟨b, 0, none⟩ = some (.slice (some ⟨g, o, none⟩) n cap)) (ha : w.cell? ⟨b, 1, none⟩ = some (.slice (some ⟨ab, 0, none⟩) n c2))
    (hr : w.cell? ⟨g, o + t, none⟩ = some (.slice (some ⟨h, ho, none⟩) len c)) (hx : w.cell? ⟨ab, t, none⟩ = some (.int .i64 k))
    (y1 : w.cell? ⟨h, ho + k * 4, none⟩ = some (.int .i64 i.op)) (y2 : w.cell? ⟨h, ho + k * 4 + 1, none⟩ = some (.int .i64 i.a))
    (y3 : w.cell? ⟨h, ho + k * 4 + 2, none⟩ = some (.int .i64 i.b)) (y4 : w.cell? ⟨h, ho + k * 4 + 3, none⟩ = some (.int .i64 i.n))
    (_hb : b < w.heap.size) (hown : i.op = 9 → w.cell? ⟨b, 7 + i.a.toNat, none⟩ = some (.int .i64 ow)) :
    Calls Tryd.prog 133 #[.pointer (some ⟨b, 0, none⟩), .int .i64 t] w fun e w' => e = .returned (.bool (!(i.op == 9) || decide (ow < 0))) ∧ w.grownBy w' none := by
  obtain ⟨op, a, ib, im⟩ := i
  simp only at *
  have h1 : (0 : Int) ≤ (t : Int) := by omega
  have h2 : (t : Int) < 4 := by omega
  have h3 : (t : Int) < n := by omega
  have h4 : (0 : Int) ≤ (k : Int) := by omega
  have h5 : (k : Int) < len := by omega
  have hne : decide ((len : Int) ≤ (k : Int)) = false := by simp; omega
  go_enter Tryd.func133, Tryd.ntmps133
  go_wp2_with fail
  refine (rdone_m b ab n cap c2 g o t len c _ k w ht ht4 hlen hp ha hr hx).mono ?_
  rintro e w1 ⟨rfl, hl⟩
  have hg1 : w.grownBy w1 none := grown_like (grown_refl _ _) hl
  have HG := hide hg1
  simp only [hne]
  replace hp := pres_grown hg1 _ _ hp
  replace ha := pres_grown hg1 _ _ ha
  replace hr := pres_grown hg1 _ _ hr
  replace hx := pres_grown hg1 _ _ hx
  replace y1 := pres_grown hg1 _ _ y1
  replace y2 := pres_grown hg1 _ _ y2
  replace y3 := pres_grown hg1 _ _ y3
  replace y4 := pres_grown hg1 _ _ y4
  replace hown : Hid (op = 9 → w1.cell? ⟨b, 7 + a.toNat, none⟩ = some (.int .i64 ow)) := fun e => pres_grown hg1 _ _ (hown e)
  clear hg1 hl
  have n1 := World.new_ne w1 _ hp
  have n2 := World.new_ne w1 _ hr
  have n3 := World.new_ne w1 _ hx
  have n4 := World.new_ne w1 _ y1
  simp only at n1 n2 n3 n4
  have m1 := Ne.symm n1
  have m2 := Ne.symm n2
  have m3 := Ne.symm n3
  have m4 := Ne.symm n4
  by_cases h9 : op = 9
  · subst h9
    have hown := hown.out rfl
    have ha3 := ha4 rfl
    obtain ⟨l, rfl⟩ : ∃ l : Nat, a = l := ⟨a.toNat, by omega⟩
    simp only [Int.toNat_natCast] at hown
    have h6 : (l : Int) < 3 := by omega
    clear ha4
    go_wp2
    go_region
    go_wp2
    go_quiet (fail)
    go_wp2
    go_ret
    exact ⟨by simp, grown_drewN _ (grown_drew (grown_alloc HG.out))⟩
  · have h9' : (op != 9) = true := by simpa using h9
    have h9'' : (op == 9) = false := by simpa using h9
    clear ha4 h9
    go_wp2
    go_region
    go_wp2
    go_quiet (fail)
    go_wp2
    go_ret
    exact ⟨by simp [h9''], grown_drewN _ (grown_drew (grown_alloc HG.out))⟩

def reckonR (op a b : Int) : Int × Bool :=
  if op = 4 then (wrap64 (a + b), true) else if op = 5 then (wrap64 (a - b), true) else if op = 6 then (wrap64 (a * b), true) else if b = 0 then (a, false) else (wrap64 (a.tdiv b), true)

set_option maxHeartbeats 4000000 in
theorem reckon_m (op a b : Int) (w : World) (h : op = 4 ∨ op = 5 ∨ op = 6 ∨ op = 7) :
    Calls Tryd.prog 170 #[.int .i64 op, .int .i64 a, .int .i64 b] w fun e w' => e = .returned (.tuple #[.int .i64 (reckonR op a b).1, .bool (reckonR op a b).2]) ∧ w' = w := by
  rcases h with rfl | rfl | rfl | rfl
  · go_enter Tryd.func170, Tryd.ntmps170
    go_wp2_with fail
    refine bodyPost_ret (v := .tuple #[.int .i64 (wrap64 (a + b)), .bool true]) (by simp [results, Tryd.results170, go_sem]) rfl ⟨rfl, rfl⟩
  · go_enter Tryd.func170, Tryd.ntmps170
    go_wp2_with fail
    refine bodyPost_ret (v := .tuple #[.int .i64 (wrap64 (a - b)), .bool true]) (by simp [results, Tryd.results170, go_sem]) rfl ⟨rfl, rfl⟩
  · go_enter Tryd.func170, Tryd.ntmps170
    go_wp2_with fail
    refine bodyPost_ret (v := .tuple #[.int .i64 (wrap64 (a * b)), .bool true]) (by simp [results, Tryd.results170, go_sem]) rfl ⟨rfl, rfl⟩
  · have HR : Hid (reckonR 7 a b = if b = 0 then (a, false) else (wrap64 (a.tdiv b), true)) := by unfold Hid reckonR; simp
    by_cases h0 : b = 0
    · subst h0
      go_enter Tryd.func170, Tryd.ntmps170
      go_wp2_with fail
      refine bodyPost_ret (v := .tuple #[.int .i64 a, .bool false]) (by simp [results, Tryd.results170, go_sem]) rfl ⟨by rw [HR.out]; rfl, rfl⟩
    · have h0' : (b == 0) = false := by simpa using h0
      by_cases hm : b = -1
      · subst hm
        have HT : Hid (a.tdiv (-1) = -a) := by unfold Hid; simp
        go_enter Tryd.func170, Tryd.ntmps170
        go_wp2_with fail
        refine bodyPost_ret (v := .tuple #[.int .i64 (wrap64 (-a)), .bool true]) (by simp [results, Tryd.results170, go_sem]) rfl ⟨by rw [HR.out, if_neg h0, HT.out], rfl⟩
      · have hm' : (b == -1) = false := by simpa using hm
        go_enter Tryd.func170, Tryd.ntmps170
        go_wp2_with fail
        refine bodyPost_ret (v := .tuple #[.int .i64 (wrap64 (a.tdiv b)), .bool true]) (by simp [results, Tryd.results170, go_sem]) rfl ⟨by rw [HR.out, if_neg h0], rfl⟩

end Go.Proofs.YtklenjmfalljgaaDoor
