/- The texts Agr Agv Asf Fms Ins. -/
import Derived.Test.YtklenjmfalljgaaGreatDoorM03
import Derived.Test.YtklenjmfalljgaaGreatDoorM16
import Derived.Test.YtklenjmfalljgaaGreatDoorM17
import Derived.Test.YtklenjmfalljgaaGreatDoorM19

/- The hands' again: the end of a round. -/
namespace Go.Proofs.YtklenjmfalljgaaGreatDoor
open Go.RowKit
attribute [local go_sem] Go.World.cell?_alloc_some

theorem AgI.grown {B : Nat} {w5 : World} {who5 : Nat → Role} {w w' : World} {b : Nat} {who' : Nat → Role} {n : Int} {f : Nat → Value} {K : Nat → List (Value × Int)} {LI : List (Nat × List Int × Value)} {LC : List (Nat × List Ins × Value)} {LR : List (Nat × Nat)} {n12 : Nat} {qv : Value} {p : List (List Ins)} {i : Nat}
    (h : AgI B w5 who5 w b who' n f K LI LC LR n12 qv p i) (hg : w.grownBy w' none) : AgI B w5 who5 w' b who' n f K LI LC LR n12 qv p i :=
  ⟨h.lx.grown hg, h.fr.trans (Fr.grown hg), h.cod, by rw [hg.block _ (Array.getElem?_eq_some_iff.1 h.box).1 (by simp)]; exact h.box, h.wbx, h.nbx, owns_grown h.row hg (fun _ e => by cases e), h.wrw⟩

theorem code_own {w : World} {base tc : Nat} {ta : Option Addr} {d : List Ins} {m : Nat} (h : w.ownsRow base 74 4 (.slice ta m tc) m (codeL d)) (hm : d.length = m) : CodeAt w (.slice ta m tc) d := by
  subst hm
  refine ⟨ta, tc, rfl, fun k hk => ?_⟩
  obtain ⟨tg, hta⟩ : ∃ tg, ta = some ⟨tg, 0, none⟩ := by
    rcases h.2 with ⟨_, e⟩ | ⟨g, cap, cur, hv, hb', hh, _⟩
    · omega
    · simp only [Value.slice.injEq] at hv
      exact ⟨g, hv.1⟩
  subst hta
  obtain ⟨l0, l1, l2, l3⟩ := codeL_get d k hk
  have ct : ∀ j v, (codeL d)[j]? = some v → w.cell? ⟨tg, j, none⟩ = some v := fun j v hj => by
    rw [h.cellAt _ (by have := (List.getElem?_eq_some_iff.1 hj).1; rw [codeL_len] at this; exact this)]
    exact hj
  refine ⟨tg, 0, rfl, ?_, ?_, ?_, ?_⟩
  · rw [Nat.zero_add]; exact ct _ _ l0
  · rw [Nat.zero_add]; exact ct _ _ l1
  · rw [Nat.zero_add]; exact ct _ _ l2
  · rw [Nat.zero_add]; exact ct _ _ l3

set_option maxHeartbeats 4000000 in
set_option maxRecDepth 100000 in
theorem agRound {B : Nat} {w5 : World} {who5 : Nat → Role} {w : World} {b : Nat} {who' : Nat → Role} {n : Int} {f : Nat → Value} {K0 : Nat → List (Value × Int)} {LI : List (Nat × List Int × Value)} {LC : List (Nat × List Ins × Value)} {LR : List (Nat × Nat)} {n12 : Nat} {qv : Value} {p : List (List Ins)} {i base tc : Nat} {ta : Option Addr} {c : List Ins}
    (hA : AgI B w5 who5 w b who' n f K0 LI LC LR n12 qv p i) (hi : i < p.length) (HCE : Hid (p[i] = c)) (hpl : p.length ≤ 5864062014634) (hcl : c.length ≤ 4398046510976) (hn12 : n12 < w5.heap.size) (hO : w.ownsRow base 74 4 (.slice ta c.length tc) c.length (codeL (modC c))) (hoth : ∀ q, (Value.slice ta c.length tc).ownBlock = some q → who' q = .other)
    {K : Act → World → Prop} {Q' : Exit → Act → World → Prop} {c1 c2 c3 c4 c5 c6 c7 c8 c9 c10 c11 c15 c16 c17 c18 c19 c20 c21 c22 c23 c24 c25 c26 c27 c28 c29 c30 c31 c32 c33 c34 c35 c36 c37 c38 c39 c40 c41 c42 c43 c44 c45 c46 c47 c48 c49 c50 c51 c52 c53 c54 c55 c56 c57 c58 c59 c60 c61 c62 c63 c64 c65 c66 c67 c68 c69 c70 c71 c72 c73 c74 c75 c76 c77 c78 c79 c80 c81 c82 c83 c84 c85 c86 c87 c88 c89 c90 c91 c92 c93 c94 c95 c96 c97 c98 c99 c100 c101 c102 c103 c104 c105 c106 c107 c108 c109 c110 c111 c112 c113 c114 c115 c116 c117 c118 c119 c120 c121 c122 c123 c124 c125 c126 c127 c128 c129 c130 c131 c132 c133 c134 c135 c136 c137 c138 c139 : Value} (HQP : Hid (∀ c a d v w, Q' (.panic c) (Act.put a (some d) v) w → Q' (.panic c) a w))
    (HK : Hid (∀ {z15 z53 z54 z55 z56 z57 z58 z59 z60 z61 z62 z63 z64 z65 z66 z67 z68 z69 z70 z71 z72 z73 z74 z75 z76 z77 z78 z79 z80 z81 z82 z83 z84 : Value} (who'' : Nat → Role) (LC' : List (Nat × List Ins × Value)) (qv' : Value) (w' : World), AgI B w5 who5 w' b who'' n f K0 LI LC' LR n12 qv' p (i + 1) → K ⟨#[.pointer (some ⟨b, 0, none⟩), c1, c2, c3, c4, c5, c6, c7, c8, c9, c10, c11, .pointer (some ⟨n12, 0, none⟩), .int .i64 (i : Int), .slice ta c.length tc, z15, c16, c17, c18, c19, c20, c21, c22, c23, c24, c25, c26, c27, c28, c29, c30, c31, c32, c33, c34, c35, c36, c37, c38, c39, c40, c41, c42, c43, c44, c45, c46, c47, c48, c49, c50, c51, c52, z53, z54, z55, z56, z57, z58, z59, z60, z61, z62, z63, z64, z65, z66, z67, z68, z69, z70, z71, z72, z73, z74, z75, z76, z77, z78, z79, z80, z81, z82, z83, z84, c85, c86, c87, c88, c89, c90, c91, c92, c93, c94, c95, c96, c97, c98, c99, c100, c101, c102, c103, c104, c105, c106, c107, c108, c109, c110, c111, c112, c113, c114, c115, c116, c117, c118, c119, c120, c121, c122, c123, c124, c125, c126, c127, c128, c129, c130, c131, c132, c133, c134, c135, c136, c137, c138, c139], []⟩ w')) :
    Code.wp Tryz.prog (tailOf Tryz.f9 12) (Exit.inBlock 1 (Exit.then K Q')) ⟨#[.pointer (some ⟨b, 0, none⟩), c1, c2, c3, c4, c5, c6, c7, c8, c9, c10, c11, .pointer (some ⟨n12, 0, none⟩), .int .i64 (i : Int), .slice ta c.length tc, c15, c16, c17, c18, c19, c20, c21, c22, c23, c24, c25, c26, c27, c28, c29, c30, c31, c32, c33, c34, c35, c36, c37, c38, c39, c40, c41, c42, c43, c44, c45, c46, c47, c48, c49, c50, c51, c52, c53, c54, c55, c56, c57, c58, c59, c60, c61, c62, c63, c64, c65, c66, c67, c68, c69, c70, c71, c72, c73, c74, c75, c76, c77, c78, c79, c80, c81, c82, c83, c84, c85, c86, c87, c88, c89, c90, c91, c92, c93, c94, c95, c96, c97, c98, c99, c100, c101, c102, c103, c104, c105, c106, c107, c108, c109, c110, c111, c112, c113, c114, c115, c116, c117, c118, c119, c120, c121, c122, c123, c124, c125, c126, c127, c128, c129, c130, c131, c132, c133, c134, c135, c136, c137, c138, c139], []⟩ w := by
  conv => arg 2; whnf
  obtain ⟨i1, hi1, hy0, hy1, hy2⟩ := info_parts info_codeH
  have HA := hide hA
  have hLL := hA.len (Nat.le_of_lt hi)
  have hiL : i < LC.length := by omega
  have hce : LC[i].2.1 = c := by rw [hA.at_ hi hiL]; exact HCE.out
  have wgx : who' LC[i].1 = .lent := (hA.lx.le.lc _ (List.getElem_mem hiL)).2.1
  have hgxb : w.heap[LC[i].1]? = some (.cells (lentCode c) 74 (0, 0)) := by rw [← hce]; exact (hA.lx.le.lc _ (List.getElem_mem hiL)).1
  obtain ⟨r2, rc, hr2, d1⟩ := row_cell (hA.lx.lr.r 2 (by omega)) (i := i) (by simpa [EL] using hiL)
  obtain ⟨g3, c3', hf3, d3⟩ := row_cell (hA.lx.lr.r 3 (by omega)) (i := i) (by simpa [EL] using hiL)
  have el2 : (EL LI LC LR 2).length = p.length := by simp [EL, hLL]
  have el3 : (EL LI LC LR 3).length = p.length := by simp [EL, hLL]
  have d1' : w.cell? ⟨r2, i, none⟩ = some (.slice (some ⟨LC[i].1, 0, none⟩) (c.length + 2) (c.length + 2)) := by rw [d1]; simp [EL, sl2, hce]
  obtain ⟨u3, d3'⟩ : ∃ u, w.cell? ⟨g3, i, none⟩ = some u := ⟨_, d3⟩
  rw [el2] at hr2
  rw [el3] at hf3
  have hr3 := hA.lx.lr.r 3 (by omega)
  rw [hf3, el3] at hr3
  have d0 : w.cell? ⟨b, 2, none⟩ = some (.slice (some ⟨r2, 0, none⟩) p.length rc) := by rw [← hr2]; exact hA.lx.cell (by omega)
  have d4 : w.cell? ⟨b, 3, none⟩ = some (.slice (some ⟨g3, 0, none⟩) p.length c3') := by rw [← hf3]; exact hA.lx.cell (by omega)
  have f3 : w.frozen? ⟨g3, i, none⟩ = false := free_at hr3
  have wr2 : who' r2 = .lrow 2 := hA.lx.lr.wr 2 (by omega) r2 (by rw [hr2]; rfl)
  have wg3 : who' g3 = .lrow 3 := hA.lx.lr.wr 3 (by omega) g3 (by rw [hf3]; rfl)
  have wb : who' b = .hands := hA.lx.hs.1.wb
  have hg3l : g3 < w.heap.size := (hA.lx.hs.1.dom g3 (by rw [wg3]; simp)).2
  obtain ⟨gx, hgx⟩ : ∃ gx, gx = LC[i].1 := ⟨_, rfl⟩
  rw [← hgx] at wgx hgxb d1'
  have nb : b ≠ gx := fun e => by rw [e, wgx] at wb; cases wb
  have nr2 : r2 ≠ gx := fun e => by rw [e, wgx] at wr2; cases wr2
  have ng3 : g3 ≠ gx := fun e => by rw [e, wgx] at wg3; cases wg3
  have HGX := hide hgx
  have HD0 := hide d0
  have HD1 := hide d1'
  have HD3 := hide d3'
  have HD4 := hide d4
  have HF3 := hide f3
  have HFV := hide hf3
  have HO := hide hO
  have HOT := hide hoth
  have HTL := hide (modC_len c)
  have H0 : Hid (Chg w w (fun g' => g' = gx) ∧ w.heap[gx]? = some (.cells (lentCode (mixC c (modC c) 0)) 74 (0, 0))) := ⟨Chg.refl _ _, by rw [mixC_zero]; exact hgxb⟩
  have q0 : (c.length : Int) ≤ 4398046510976 := by omega
  have q1 : (p.length : Int) ≤ 5864062014634 := by omega
  have q2 : (0 : Int) ≤ (i : Int) := by omega
  have q3 : (i : Int) < p.length := by omega
  have HCL := hide hce
  clear hA hgx hgxb d0 d1 d1' d3 d3' d4 f3 hf3 hr3 hO hoth hr2 el2 el3 hce
  go_wp2_with fail
  go_loopw [15] (fun kv w' => ∃ k : Nat, k ≤ c.length ∧ kv = .int .i64 k ∧ Hid (Chg w w' (fun g' => g' = gx) ∧ w'.heap[gx]? = some (.cells (lentCode (mixC c (modC c) k)) 74 (0, 0)))) (fun kv _ => c.length - (intOf kv).toNat)
  case atStart => exact ⟨0, Nat.zero_le _, rfl, H0⟩
  case round =>
    clear H0
    obtain ⟨k, hk, rfl, HKK⟩ := hrel
    obtain ⟨w3, hw3⟩ : ∃ w3, w3 = wr := ⟨_, rfl⟩
    rw [← hw3] at HKK ⊢
    clear hw3
    by_cases hlt : k < c.length
    · have t0 : (0 : Int) ≤ (k : Int) := by omega
      have t1 : (k : Int) < c.length := by omega
      have t2 : (k : Int) < (c.length : Int) + 2 := by omega
      have hkt : k < (modC c).length := by have := HTL.out; omega
      obtain ⟨tg, hta⟩ : ∃ tg, ta = some ⟨tg, 0, none⟩ := by
        rcases HO.out.2 with ⟨_, e⟩ | ⟨g, cap, cur, hv, hb', hh, _⟩
        · omega
        · simp only [Value.slice.injEq] at hv
          exact ⟨g, hv.1⟩
      subst hta
      have ngt : tg ≠ gx := fun e => by
        have := HOT.out tg rfl
        rw [e, wgx] at this; cases this
      have k0 := HKK.out.1.cell HD0.out (by simpa using nb)
      have k1 := HKK.out.1.cell HD1.out (by simpa using nr2)
      obtain ⟨l0, l1, l2, l3⟩ := codeL_get (modC c) k hkt
      have ct : ∀ j v, (codeL (modC c))[j]? = some v → w3.cell? ⟨tg, j, none⟩ = some v := fun j v hj => by
        refine HKK.out.1.cell ?_ (by simpa using ngt)
        rw [HO.out.cellAt _ (by have := (List.getElem?_eq_some_iff.1 hj).1; rw [codeL_len, HTL.out] at this; exact this)]
        exact hj
      have k2 := ct _ _ l0
      have k3 := ct _ _ l1
      have k4 := ct _ _ l2
      have k5 := ct _ _ l3
      have hsz : (lentCode (mixC c (modC c) k)).size = (c.length + 2) * 4 := by rw [lentCode_size, mixC_len HTL.out k hk]
      have cu : ∀ j, j < (c.length + 2) * 4 → ∃ u, w3.cell? ⟨gx, j, none⟩ = some u := fun j hj => ⟨_, by simp only [World.cell?, HKK.out.2]; exact Array.getElem?_eq_getElem (by omega)⟩
      obtain ⟨v0, m0⟩ := cu (k * 4) (by omega)
      obtain ⟨v1, m1⟩ := cu (k * 4 + 1) (by omega)
      obtain ⟨v2, m2⟩ := cu (k * 4 + 2) (by omega)
      obtain ⟨v3, m3⟩ := cu (k * 4 + 3) (by omega)
      have fz : ∀ j, w3.frozen? ⟨gx, j, none⟩ = false := fun j => by simp [World.frozen?, HKK.out.2]
      have z0 := fz (k * 4)
      have z1 := fz (k * 4 + 1)
      have z2 := fz (k * 4 + 2)
      have z3 := fz (k * 4 + 3)
      have HNX : Hid (Chg w ((((w3.setCell ⟨gx, k * 4, none⟩ (.int .i64 (modC c)[k].op)).setCell ⟨gx, k * 4 + 1, none⟩ (.int .i64 (modC c)[k].a)).setCell ⟨gx, k * 4 + 2, none⟩ (.int .i64 (modC c)[k].b)).setCell ⟨gx, k * 4 + 3, none⟩ (.int .i64 (modC c)[k].n)) (fun g' => g' = gx) ∧
          ((((w3.setCell ⟨gx, k * 4, none⟩ (.int .i64 (modC c)[k].op)).setCell ⟨gx, k * 4 + 1, none⟩ (.int .i64 (modC c)[k].a)).setCell ⟨gx, k * 4 + 2, none⟩ (.int .i64 (modC c)[k].b)).setCell ⟨gx, k * 4 + 3, none⟩ (.int .i64 (modC c)[k].n)).heap[gx]? = some (.cells (lentCode (mixC c (modC c) (k + 1))) 74 (0, 0))) := by
        refine ⟨(((HKK.out.1.set rfl).set rfl).set rfl).set rfl, ?_⟩
        rw [← mixC_next HTL.out k hlt]
        exact heap_setCell_same _ gx _ _ _ _ (heap_setCell_same _ gx _ _ _ _ (heap_setCell_same _ gx _ _ _ _ (heap_setCell_same w3 gx _ _ _ _ HKK.out.2)))
      generalize (modC c)[k].op = x0 at *
      generalize (modC c)[k].a = x1 at *
      generalize (modC c)[k].b = x2 at *
      generalize (modC c)[k].n = x3 at *
      clear l0 l1 l2 l3 ct cu fz hsz HKK
      go_upto_region 15 with fail
      refine wp_region_head (fun u => u.cell? ⟨b, 2, none⟩ = some (.slice (some ⟨r2, 0, none⟩) p.length rc) ∧ u.cell? ⟨r2, i, none⟩ = some (.slice (some ⟨gx, 0, none⟩) (c.length + 2) (c.length + 2)) ∧ u.cell? ⟨tg, k * 4, none⟩ = some (.int .i64 x0) ∧ u.cell? ⟨tg, k * 4 + 1, none⟩ = some (.int .i64 x1) ∧ u.cell? ⟨tg, k * 4 + 2, none⟩ = some (.int .i64 x2) ∧ u.cell? ⟨tg, k * 4 + 3, none⟩ = some (.int .i64 x3)) 13 (by kernel_rfl) (by kernel_rfl) ⟨k0, k1, k2, k3, k4, k5⟩ ?_
      intro hHeld
      refine wpHead_take (i := 0) (v := ?vva0) rfl (by kernel_rfl) (fun c _ _ h => HQP.out c _ _ _ _ h) (Or.inl ⟨by rfl, ?hya0⟩) hHeld ?resta0
      case hya0 => (rintro u ⟨hu0, hu1, hu2, hu3, hu4, hu5⟩; go_simp; try with_reducible rfl)
      simp only [Act.put, List.setIfInBounds_toArray]
      refine wpHead_take (i := 1) (v := ?vva1) rfl (by kernel_rfl) (fun c _ _ h => HQP.out c _ _ _ _ h) (Or.inl ⟨by rfl, ?hya1⟩) hHeld ?resta1
      case hya1 => (rintro u ⟨hu0, hu1, hu2, hu3, hu4, hu5⟩; go_simp; try with_reducible rfl)
      simp only [Act.put]
      refine wpHead_take (i := 2) (v := ?vva2) rfl (by kernel_rfl) (fun c _ _ h => HQP.out c _ _ _ _ h) (Or.inl ⟨by rfl, ?hya2⟩) hHeld ?resta2
      case hya2 => (rintro u ⟨hu0, hu1, hu2, hu3, hu4, hu5⟩; go_simp; try with_reducible rfl)
      simp only [Act.put]
      refine wpHead_take (i := 3) (v := ?vva3) rfl (by kernel_rfl) (fun c _ _ h => HQP.out c _ _ _ _ h) (Or.inl ⟨by rfl, ?hya3⟩) hHeld ?resta3
      case hya3 => (rintro u ⟨hu0, hu1, hu2, hu3, hu4, hu5⟩; go_simp; try with_reducible rfl)
      simp only [Act.put]
      refine wpHead_take (i := 4) (v := ?vva4) rfl (by kernel_rfl) (fun c _ _ h => HQP.out c _ _ _ _ h) (Or.inl ⟨by rfl, ?hya4⟩) hHeld ?resta4
      case hya4 => (rintro u ⟨hu0, hu1, hu2, hu3, hu4, hu5⟩; go_simp; try with_reducible rfl)
      simp only [Act.put]
      refine wpHead_take (i := 5) (v := ?vva5) rfl (by kernel_rfl) (fun c _ _ h => HQP.out c _ _ _ _ h) (Or.inl ⟨by rfl, ?hya5⟩) hHeld ?resta5
      case hya5 => (rintro u ⟨hu0, hu1, hu2, hu3, hu4, hu5⟩; go_simp; try with_reducible rfl)
      simp only [Act.put]
      refine wpHead_take (i := 6) (v := ?vva6) rfl (by kernel_rfl) (fun c _ _ h => HQP.out c _ _ _ _ h) (Or.inl ⟨by rfl, ?hya6⟩) hHeld ?resta6
      case hya6 => (rintro u ⟨hu0, hu1, hu2, hu3, hu4, hu5⟩; go_simp; try with_reducible rfl)
      simp only [Act.put]
      refine wpHead_take (i := 7) (v := ?vva7) rfl (by kernel_rfl) (fun c _ _ h => HQP.out c _ _ _ _ h) (Or.inl ⟨by rfl, ?hya7⟩) hHeld ?resta7
      case hya7 => (rintro u ⟨hu0, hu1, hu2, hu3, hu4, hu5⟩; go_simp; try with_reducible rfl)
      simp only [Act.put]
      refine wpHead_take (i := 8) (v := ?vva8) rfl (by kernel_rfl) (fun c _ _ h => HQP.out c _ _ _ _ h) (Or.inl ⟨by rfl, ?hya8⟩) hHeld ?resta8
      case hya8 => (rintro u ⟨hu0, hu1, hu2, hu3, hu4, hu5⟩; go_simp; try with_reducible rfl)
      simp only [Act.put]
      refine wpHead_take (i := 9) (v := ?vva9) rfl (by kernel_rfl) (fun c _ _ h => HQP.out c _ _ _ _ h) (Or.inl ⟨by rfl, ?hya9⟩) hHeld ?resta9
      case hya9 => (rintro u ⟨hu0, hu1, hu2, hu3, hu4, hu5⟩; go_simp; try with_reducible rfl)
      simp only [Act.put]
      refine wpHead_take (i := 10) (v := ?vva10) rfl (by kernel_rfl) (fun c _ _ h => HQP.out c _ _ _ _ h) (Or.inl ⟨by rfl, ?hya10⟩) hHeld ?resta10
      case hya10 => (rintro u ⟨hu0, hu1, hu2, hu3, hu4, hu5⟩; go_simp; try with_reducible rfl)
      simp only [Act.put]
      refine wpHead_take (i := 11) (v := ?vva11) rfl (by kernel_rfl) (fun c _ _ h => HQP.out c _ _ _ _ h) (Or.inl ⟨by rfl, ?hya11⟩) hHeld ?resta11
      case hya11 => (rintro u ⟨hu0, hu1, hu2, hu3, hu4, hu5⟩; go_simp; try with_reducible rfl)
      simp only [Act.put]
      refine wpHead_take (i := 12) (v := ?vva12) rfl (by kernel_rfl) (fun c _ _ h => HQP.out c _ _ _ _ h) (Or.inl ⟨by rfl, ?hya12⟩) hHeld ?resta12
      case hya12 => (rintro u ⟨hu0, hu1, hu2, hu3, hu4, hu5⟩; go_simp; try with_reducible rfl)
      simp only [Act.put]
      refine wpHead_last rfl (by kernel_rfl) (by kernel_rfl) (by rfl) ?_
      go_simp
      clear hHeld
      go_wp2_with fail
      go_roundw
      case rel => exact ⟨k + 1, by omega, by go_num, ⟨⟨HNX.out.1.os, HNX.out.1.tape, HNX.out.1.output, HNX.out.1.size, HNX.out.1.blk⟩, HNX.out.2⟩⟩
      case measure => simp [intOf]; omega
    · have t1 : (c.length : Int) ≤ (k : Int) := by omega
      have hb3 := HKK.out.2
      rw [mixC_end HTL.out k (by omega)] at hb3
      have e4 := HKK.out.1.cell HD4.out (by simpa using nb)
      have e3 := HKK.out.1.cell HD3.out (by simpa using ng3)
      have z3 : w3.frozen? ⟨g3, i, none⟩ = false := by
        have := HF3.out
        simp only [World.frozen?, HKK.out.1.blk g3 hg3l (by simpa using ng3)] at this ⊢
        exact this
      have hoo : w3.ownsRow base 74 4 (.slice ta c.length tc) c.length (codeL (modC c)) := owns_same HO.out (fun q e => by
        refine HKK.out.1.blk q (owns_ltH HO.out q e) (fun e2 => ?_)
        have h1 := HOT.out q e
        rw [e2, wgx] at h1; cases h1)
      have hvo : valOther who' (.slice ta c.length tc) := fun q o l cc e hl => by
        simp only [Value.slice.injEq] at e
        rcases hoo.2 with ⟨e3, _⟩ | ⟨g', cap', cur, hv, hb', _⟩
        · simp only [Value.slice.injEq] at e3
          rw [e3.1] at e; cases e.1
        · simp only [Value.slice.injEq] at hv
          rw [hv.1] at e
          simp only [Option.some.injEq, Addr.mk.injEq, and_true] at e
          rw [← e.1.1]
          exact HOT.out g' (by rw [hv.1]; rfl)
      have hcg : Chg w w3 (fun g' => g' = LC[i].1) := by rw [← HGX.out]; exact HKK.out.1
      obtain ⟨hx4, hf4⟩ := HA.out.lx.recode hiL hcg HFV.out (by rw [← HGX.out]; exact hb3) (by rw [HTL.out, HCL.out]) (code_own hoo HTL.out) hvo
      rw [← HGX.out] at hx4
      obtain ⟨w4, hw4⟩ : ∃ w4, w4 = w3.setCell ⟨g3, i, none⟩ (.slice ta c.length tc) := ⟨_, rfl⟩
      rw [← hw4] at hx4 hf4
      have hsame : ∀ q, q < w.heap.size → q ≠ gx → q ≠ g3 → w4.heap[q]? = w.heap[q]? := fun q h1 h2 h3 => by
        rw [hw4, Below.heap_setCell _ _ _ _ (by simpa using h3)]; exact HKK.out.1.blk q h1 h2
      have emap : (LC.set i (gx, modC c, Value.slice ta c.length tc)).map (·.1) = LC.map (·.1) := map_set_same _ _ _ _ hiL HGX.out
      have ngx : ∀ q, q ∉ LI.map (·.1) ++ (LC.map (·.1) ++ LR.map (·.1)) → q ≠ gx := fun q hq e => hq (List.mem_append.2 (Or.inr (List.mem_append.2 (Or.inl (List.mem_map.2 ⟨_, List.getElem_mem hiL, by rw [e, HGX.out]⟩)))))
      have n123 : n12 ≠ g3 := fun e => by have := HA.out.wbx; rw [e, wg3] at this; cases this
      have hbox4 : w4.heap[n12]? = some (.cells #[qv] 24 (0, 0)) := by
        rw [hsame n12 (Array.getElem?_eq_some_iff.1 HA.out.box).1 (ngx _ HA.out.nbx) n123]; exact HA.out.box
      have hrow4 : w4.ownsRow w5.heap.size 75 1 qv i ((LC.take i).map (·.2.2)) := owns_same HA.out.row (fun q e => by
        obtain ⟨h1, h2, _⟩ := HA.out.wrw q e
        exact hsame q (owns_ltH HA.out.row q e) (ngx q h2) (fun e2 => by rw [e2, wg3] at h1; cases h1))
      have hsz5 : w5.heap.size ≤ w4.heap.size := Nat.le_trans HA.out.fr.size hf4.size
      obtain ⟨qa, qn, qc, hqv⟩ := owns_form hrow4
      subst hqv
      have hqn := owns_lenq hrow4
      subst hqn
      have HX4 := hide hx4
      have HF4 := hide hf4
      have HR4 := hide hrow4
      have HB4 := hide hbox4
      have HEM := hide emap
      have HNG := hide ngx
      clear hx4 hf4 hrow4 hbox4 hsame hcg hoo hvo emap ngx hb3 HKK
      go_upto_region 17 with fail
      rw [← hw4]
      clear hw4 e3 e4 z3
      have c12 : w4.cell? ⟨n12, 0, none⟩ = some (.slice qa qn qc) := by simp [World.cell?, HB4.out]
      have h63 : qn + 1 ≤ maxLen := by unfold maxLen; omega
      go_wp2_with (at_builtin; refine wpList_append_lies _ rfl _ _ _ rfl w5.heap.size 75 i1 _ 1 24 Tryz.underlying22 hi1 hy0 hy1 hy2 rfl (by omega) (.slice qa qn qc) qn ((LC.take qn).map (·.2.2)) rfl (owns_alloc HR4.out) ⟨w4.heap.size, 0, none⟩ 1 1 [.slice ta c.length tc] rfl rfl (World.news_of_block (cs := #[.slice ta c.length tc]) (t := 75) (fr := (0, 0)) (heap_alloc_new w4 _)) (by simp [Value.oneCell']) (by omega) h63 (by omega) (by simp; omega) (w4.heap.size + 1) (by simp) ?_; intro g8 cap8 w8 hown8 hgrow8 hat8 hlt8; have b0 : w8.heap[n12]? = some (.cells #[.slice qa qn qc] 24 (0, 0)) := (by rw [hgrow8.block n12 (by have := (Array.getElem?_eq_some_iff.1 HB4.out).1; simp; omega) (fun e => (HA.out.wrw n12 e.symm).2.2 rfl), Below.heap_alloc _ _ _ (Array.getElem?_eq_some_iff.1 HB4.out).1]; exact HB4.out); have b1 : w8.cell? ⟨n12, 0, none⟩ = some (.slice qa qn qc) := (by simp [World.cell?, b0]); have b2 : w8.frozen? ⟨n12, 0, none⟩ = false := (by simp [World.frozen?, b0]); have HB8 := hide b0; have HO8 := hide hown8; have HG8 := hide hgrow8; have HT8 := hide hat8; clear b0 hown8 hgrow8 hat8 c12)
      obtain ⟨hx8, hf8⟩ := (HX4.out.grown (grown_alloc (o := .cells #[.slice ta c.length tc] 75) (grown_refl _ _))).outNew HG8.out (fun q e => ⟨(HA.out.wrw q e).1, by rw [HEM.out]; exact (HA.out.wrw q e).2.1⟩) (g8 := g8) (by
        rcases HT8.out with h1 | h1
        · exact Or.inl h1
        · exact Or.inr ⟨by simp; omega, hlt8⟩)
      have hg85 : w5.heap.size ≤ g8 := owns_block HO8.out g8 rfl
      have hw12 : setW who' g8 .lent n12 = .lent := by rw [setW_ne _ _ (by omega)]; exact HA.out.wbx
      refine HK.out (setW who' g8 .lent) (LC.set qn (gx, modC c, .slice ta c.length tc)) (.slice (some ⟨g8, 0, none⟩) (qn + 1) cap8) _ ⟨hx8.setOut hw12 (by rw [HEM.out]; exact HA.out.nbx), (((HA.out.fr.trans HF4.out).trans (Fr.grown (grown_alloc (grown_refl _ _)))).trans hf8).trans (Fr.set (Or.inl (by rw [hw12]; simp))), ?_, ?_, hw12, by rw [HEM.out]; exact HA.out.nbx, ?_, fun q e => ?_⟩
      · have := cod_next (g := gx) (v := Value.slice ta c.length tc) HA.out.cod hi
        rw [HCE.out] at this
        exact this
      · rw [heap_setCell_same w8 n12 0 _ _ _ HB8.out]; rfl
      · rw [row_nextA hiL]
        exact owns_setCell_ne HO8.out (by simp [Value.ownBlock]; omega)
      · simp only [Value.ownBlock, Option.some.injEq] at e
        subst e
        refine ⟨setW_at _ _ _, ?_, by omega⟩
        rw [HEM.out]
        rcases HT8.out with h1 | h1
        · exact (HA.out.wrw g8 h1).2.1
        · intro hm
          have := (HX4.out.le.lt g8 (by rw [HEM.out]; exact hm)).1
          omega

end Go.Proofs.YtklenjmfalljgaaGreatDoor

/- The walk of the hands' again. -/
namespace Go.Proofs.YtklenjmfalljgaaGreatDoor
open Go.RowKit
attribute [local go_sem] Go.World.cell?_alloc_some


set_option maxHeartbeats 4000000 in
set_option maxRecDepth 100000 in
theorem again_g (W : World) (B : Nat) (w : World) (b : Nat) (who : Nat → Role) (n : Int) (f : Nat → Value) (K : Nat → List (Value × Int)) (pv sv : Value) (p : List (List Ins)) (s : List Int) (wh : Int)
    (h : Hz B w b who n f K) (hW : W.grownBy w none) (hWB : W.heap.size ≤ B) (hS : ShpAt W) (hP : ProgAt W pv p) (hPN : ProgNil W pv) (hI : IntsAt W.heap.size W sv s) (hnil : nilA sv) (hpl : p.length ≤ 5864062014634) (hpc : ∀ c ∈ p, c.length ≤ 4398046510976) (hsl : s.length ≤ 17592186043904) (hA : AskC wh) :
    Calls Tryz.prog 9 #[pt b, .int .i64 wh, pv, sv] w (HzG W B b n K) := by
  obtain ⟨i0, hi0, hz0, hz1, hz2⟩ := info_parts info_insH
  obtain ⟨i1, hi1, hy0, hy1, hy2⟩ := info_parts info_codeH
  have HH := hide h
  have HW := hide hW
  have HS := hide hS
  have HP := hide hP
  have HI := hide hI
  have HPC := hide hpc
  have HPN := hide hPN
  have HNL := hide hnil
  have HA := hide hA
  obtain ⟨ao, cap, rfl⟩ := hP.form
  obtain ⟨so, sc, rfl⟩ := hI.form
  have hpt : pt b = .pointer (some ⟨b, 0, none⟩) := rfl
  have HPG := hide (program_g W B (w.alloc (.cells #[.slice ao p.length cap] 24)) b who n f K [] [] [] (.agg #[.slice ao p.length cap]) p (h.lx.grown (grown_alloc (grown_refl _ _))) (grown_alloc hW) hWB hP hpl hpc (by simpa using hpl) (by simp))
  clear h hW hS hP hI hpc hPN hnil hA
  rw [hpt] at HPG ⊢
  go_enter Tryz.func9, Tryz.ntmps9
  go_wp2_with fail
  refine HPG.out.mono ?_
  clear HPG
  rintro e w1 ⟨g, LC1, who1, f1, rfl, hx1, hlc, hf1, hb1⟩
  have hwo : who w.heap.size = .other := by
    by_cases e : who w.heap.size = .other
    · exact e
    · exact absurd (HH.out.1.1.dom _ e).2 (by omega)
  obtain ⟨hbx, hwx⟩ := hf1.oth w.heap.size (by simp) hwo (fun e => e)
  have HW1 : Hid (W.grownBy w1 none) := hf1.base (grown_alloc HW.out) hWB (fun g e => (HH.out.1.1.dom g e).1) (fun _ e => e.elim)
  have c1 : w1.cell? ⟨w.heap.size, 0, none⟩ = some (.slice ao p.length cap) := by
    simp only [World.cell?, hbx, heap_alloc_new]; rfl
  have hlt1 : w.heap.size < w1.heap.size := World.block_lt_of_cell? w1 _ c1
  have hll : LC1.length = p.length := by rw [← hlc]; simp
  simp only [List.nil_append] at hx1
  have hw9 : who1 w1.heap.size = .other := by
    by_cases e : who1 w1.heap.size = .other
    · exact e
    · exact absurd (hx1.hs.1.dom _ e).2 (by omega)
  have HX1 := hide hx1
  have HLC := hide hlc
  have HWX := hide hwx
  have HW9 := hide hw9
  have HLL := hide hll
  have HC1 := hide c1
  clear hx1 hlc hf1 hb1 hbx hwo hwx hll hw9 c1
  go_upto_region 2 with fail
  obtain ⟨w2, hw2⟩ : ∃ w2, w2 = w1.alloc (.cells #[.slice (some ⟨g, 0, none⟩) p.length (p.length + 2)] 24) := ⟨_, rfl⟩
  have HG12 : Hid (w1.grownBy w2 none) := by unfold Hid; rw [hw2]; exact grown_alloc (grown_refl _ _)
  have hb2 : w2.heap[w1.heap.size]? = some (.cells #[.slice (some ⟨g, 0, none⟩) p.length (p.length + 2)] 24 (0, 0)) := by rw [hw2]; exact heap_alloc_new w1 _
  rw [← hw2]
  clear hw2
  have HX2 := hide (HX1.out.grown HG12.out)
  have HW2 : Hid (W.grownBy w2 none) := grown_trans HW1.out HG12.out
  have c9 : w2.cell? ⟨w1.heap.size, 0, none⟩ = some (.slice (some ⟨g, 0, none⟩) p.length (p.length + 2)) := by simp [World.cell?, hb2]
  have HC9 := hide c9
  have HC2 := hide (pres_grown HG12.out _ _ HC1.out)
  have hl9 : w1.heap.size < w2.heap.size := World.block_lt_of_cell? w2 _ c9
  have HSG := hide (schedule_g B w2 b who1 n f1 K [] LC1 [(g, p.length)] 0 (.slice so s.length sc) s HX2.out ((HI.out.pres (pres_grown HW2.out)).mono HW2.out.size) (val_other HX2.out.hs hWB HI.out) hsl (by simp))
  clear hb2 c9 HC1 HG12 HX1
  rw [hpt] at HSG
  go_wp2_with fail
  refine HSG.out.mono ?_
  clear HSG
  rintro e w3 ⟨gs, who3, f3, rfl, hx3, hf3⟩
  simp only [List.nil_append] at hx3
  have HW3 : Hid (W.grownBy w3 none) := hf3.base HW2.out hWB (fun g e => (HX2.out.hs.1.dom g e).1) (fun _ e => e.elim)
  obtain ⟨hbx, hwx⟩ := hf3.oth w.heap.size (by omega) HWX.out (fun e => e)
  obtain ⟨hby, hwy⟩ := hf3.oth w1.heap.size hl9 HW9.out (fun e => e)
  have c6 : w3.cell? ⟨w.heap.size, 0, none⟩ = some (.slice ao p.length cap) := by rw [World.cell?_of_block hbx]; exact HC2.out
  have c9 : w3.cell? ⟨w1.heap.size, 0, none⟩ = some (.slice (some ⟨g, 0, none⟩) p.length (p.length + 2)) := by rw [World.cell?_of_block hby]; exact HC9.out
  have hgb : w3.heap[g]? = some (.cells (lentRows LC1) 75 (0, 0)) := by
    have := (hx3.le.lr 0 (by simp)).1
    simp only [List.getElem_cons_zero, List.take_zero, List.map_nil, List.sum_nil, List.drop_zero] at this
    rw [List.take_of_length_le (by rw [HLL.out]; omega)] at this
    exact this
  have hPx : ProgAt w3 (.agg #[.slice (some ⟨g, 0, none⟩) p.length (p.length + 2)]) p := lent_prog (LC0 := []) (by simpa using hx3.le) hgb HLC.out _
  have hIx : IntsAt w3.heap.size w3 (.slice (some ⟨gs, 0, none⟩) s.length (s.length + 2)) s := lent_ints (hx3.le.li (gs, s, .slice so s.length sc) (by simp)).1
  have HAS := hide (HA.out p s _ _ _ _ w3 (HS.out.pres (pres_grown HW3.out)) hPx hIx (fun _ _ e => by simp at e) (HP.out.pres (pres_grown HW3.out)) ((HI.out.pres (pres_grown HW3.out)).mono HW3.out.size) HNL.out hpl HPC.out)
  have HX3 := hide hx3
  have HWX3 := hide hwx
  have HW93 := hide hwy
  have HC6 := hide c6
  have HC93 := hide c9
  clear hx3 hf3 hbx hby hwx hwy hgb hPx hIx HWX HW9 HC2 HC9 HX2
  go_wp2_with fail
  refine HAS.out.mono ?_
  clear HAS c6 c9
  rintro e w4 ⟨rfl, hg4⟩
  have HX4 := hide (HX3.out.grown hg4)
  have HW4 : Hid (W.grownBy w4 none) := grown_trans HW3.out hg4
  have HC64 := hide (pres_grown hg4 _ _ HC6.out)
  have HC94 := hide (pres_grown hg4 _ _ HC93.out)
  clear hg4 HC6 HC93
  go_upto_region 5 with fail
  obtain ⟨w5, hw5⟩ : ∃ w5, w5 = w4.alloc (.cells #[.slice none 0 0] 24) := ⟨_, rfl⟩
  have HG45 : Hid (w4.grownBy w5 none) := by unfold Hid; rw [hw5]; exact grown_alloc (grown_refl _ _)
  have hb5 : w5.heap[w4.heap.size]? = some (.cells #[.slice none 0 0] 24 (0, 0)) := by rw [hw5]; exact heap_alloc_new w4 _
  rw [← hw5]
  clear hw5
  have hl5 : w4.heap.size < w5.heap.size := (Array.getElem?_eq_some_iff.1 hb5).1
  obtain ⟨hx5, hf5⟩ := HX4.out.new HG45.out (g := w4.heap.size) (Nat.le_refl _) hl5
  have HW5 : Hid (W.grownBy w5 none) := grown_trans HW4.out HG45.out
  have HC65 := hide (pres_grown HG45.out _ _ HC64.out)
  have HC95 := hide (pres_grown HG45.out _ _ HC94.out)
  have HW65 : Hid (setW who3 w4.heap.size .lent w.heap.size = .other) := by
    unfold Hid; rw [setW_ne _ _ (by have := World.block_lt_of_cell? w4 _ HC64.out; simp only at this; omega)]; exact HWX3.out
  have HW95 : Hid (setW who3 w4.heap.size .lent w1.heap.size = .other) := by
    unfold Hid; rw [setW_ne _ _ (by have := World.block_lt_of_cell? w4 _ HC94.out; simp only at this; omega)]; exact HW93.out
  obtain ⟨who5, hwho5⟩ : ∃ who5, who5 = setW who3 w4.heap.size .lent := ⟨_, rfl⟩
  have H0 : Hid (AgI B w5 who5 w5 b who5 n f3 K [(gs, s, .slice so s.length sc)] LC1 [(g, p.length)] w4.heap.size (.slice none 0 0) p 0) := by
    refine ⟨by rw [hwho5]; exact hx5, Fr.refl _ _ _, by simpa using HLC.out, hb5, by rw [hwho5]; exact setW_at _ _ _, fun e => ?_, ⟨rfl, Or.inl ⟨rfl, rfl⟩⟩, fun q e => by cases e⟩
    have := (HX4.out.le.lt _ e).1
    omega
  rw [← hwho5] at HW65 HW95
  have HDM : Hid (∀ q, who5 q ≠ .other → B ≤ q) := fun q e => (H0.out.lx.hs.1.dom q e).1
  clear hx5 hf5 hb5 hwho5 HX4 HX3 HG45 HC64 HC94 HWX3 HW93 HW4 HW3 HW2 HW1 HLC
  go_wp2_with fail
  go_loopw [13] (fun iv w' => ∃ i : Nat, i ≤ p.length ∧ iv = .int .i64 i ∧ Hid (∃ who' LC qv, AgI B w5 who5 w' b who' n f3 K [(gs, s, .slice so s.length sc)] LC [(g, p.length)] w4.heap.size qv p i)) (fun iv _ => p.length - (intOf iv).toNat)
  case atStart => exact ⟨0, Nat.zero_le _, rfl, ⟨_, _, _, H0.out⟩⟩
  case round =>
    clear H0
    obtain ⟨i, hi, rfl, HIE⟩ := hrel
    obtain ⟨who', LC, qv, hAI⟩ := HIE.out
    clear HIE
    obtain ⟨w6, hw6⟩ : ∃ w6, w6 = wr := ⟨_, rfl⟩
    rw [← hw6] at hAI ⊢
    clear hw6
    have HAI := hide hAI
    have c6 : w6.cell? ⟨w.heap.size, 0, none⟩ = some (.slice ao p.length cap) := by
      rw [World.cell?_of_block (hAI.fr.oth w.heap.size (World.block_lt_of_cell? w5 _ HC65.out) HW65.out (fun e => e)).1]; exact HC65.out
    have HW6 : Hid (W.grownBy w6 none) := hAI.fr.base HW5.out hWB HDM.out (fun _ e => e.elim)
    clear hAI
    by_cases hlt : i < p.length
    · have t0 : (0 : Int) ≤ (i : Int) := by omega
      have t1 : (i : Int) < p.length := by omega
      obtain ⟨pg, po, hao, rv, hrv, hcv⟩ := (show ∃ g o, ao = some ⟨g, o, none⟩ ∧ ∃ rv, W.cell? ⟨g, o + i, none⟩ = some rv ∧ CodeAt W rv p[i] from by
        obtain ⟨ao', cap', e, hh⟩ := HP.out
        simp only [Value.agg.injEq, Array.mk.injEq, List.cons.injEq, Value.slice.injEq, and_true, true_and] at e
        obtain ⟨g, o, e1, rv, e2, e3⟩ := hh i hlt
        exact ⟨g, o, by rw [e.1]; exact e1, rv, e2, e3⟩)
      subst hao
      have hnr : nilA rv := HPN.out pg po p.length cap i rv rfl hlt hrv
      have hcl : p[i].length ≤ 4398046510976 := HPC.out _ (List.getElem_mem hlt)
      obtain ⟨c, hc⟩ : ∃ c, p[i] = c := ⟨_, rfl⟩
      rw [hc] at hcv hcl
      have HCE := hide hc
      clear hc
      have hcv0 := hcv
      obtain ⟨ca, cc, rfl, _⟩ := hcv
      have hcv6 : CodeAt w6 (.slice ca c.length cc) c := hcv0.pres (pres_grown HW6.out)
      have r6 := pres_grown HW6.out _ _ hrv
      have HSO : Hid (ca = none → c.length = 0 ∧ cc = 0) := fun e => hnr _ _ (by rw [e])
      have HNW : Hid (∀ ad, ca = some ad → ∀ j u, (codeL c)[j]? = some u → w6.cell? (ad.add j) = some u) := fun ad e => by
        subst e; exact codeL_cells hcv6
      have hil : (codeL c).length = c.length * 4 := codeL_len c
      have h63 : 0 + c.length ≤ maxLen := by unfold maxLen; omega
      have q0 : (c.length : Int) ≤ 4398046510976 := by omega
      clear hcv0 hcv6 hrv hnr
      go_upto_if 49 with (at_builtin; refine wpList_append_any rfl _ _ _ rfl w6.heap.size 74 i0 _ 4 32 Tryz.underlying75 hi0 hz0 hz1 hz2 rfl (by omega) (.slice none 0 0) 0 [] rfl ⟨rfl, Or.inl ⟨rfl, rfl⟩⟩ ca c.length cc (codeL c) rfl hil HSO.out HNW.out (codeL_one _) h63 (by omega) (Nat.le_refl _) ?_; intro ta tn tc w7 hown7 hg7)
      simp only [Nat.zero_add, List.nil_append] at hown7
      have htn := owns_lenq hown7
      subst htn
      have HG7 : Hid (w6.grownBy w7 none) := hg7
      have HO7 := hide hown7
      clear hown7 hg7 hil h63 HSO HNW r6 c6
      go_cut [14] (fun tv w' => Hid (∃ ta tc, tv = .slice ta c.length tc ∧ w'.ownsRow w6.heap.size 74 4 tv c.length (codeL (modC c)) ∧ w6.grownBy w' none))
      case first =>
        by_cases hs1 : 0 < c.length
        · have t2 : (0 : Int) < c.length := by omega
          obtain ⟨tg, hta, htg, hfz⟩ : ∃ tg, ta = some ⟨tg, 0, none⟩ ∧ w6.heap.size ≤ tg ∧ ∀ o, w7.frozen? ⟨tg, o, none⟩ = false := by
            rcases HO7.out.2 with ⟨_, e⟩ | ⟨g, cap, cur, hv, hb', hh, _⟩
            · omega
            · simp only [Value.slice.injEq] at hv
              exact ⟨g, hv.1, hb', fun o => by simp [World.frozen?, hh]⟩
          subst hta
          have cu : ∀ j, j < 4 → ∃ u, w7.cell? ⟨tg, j, none⟩ = some u := fun j hj => by
            obtain ⟨u, hu⟩ : ∃ u, (codeL c)[j]? = some u := ⟨_, List.getElem?_eq_getElem (by rw [codeL_len]; omega)⟩
            exact ⟨u, by rw [HO7.out.cellAt _ (by omega)]; exact hu⟩
          obtain ⟨v0, m0⟩ := cu 0 (by omega)
          obtain ⟨v1, m1⟩ := cu 1 (by omega)
          obtain ⟨v2, m2⟩ := cu 2 (by omega)
          obtain ⟨v3, m3⟩ := cu 3 (by omega)
          have f0 := hfz 0
          have f1' := hfz 1
          have f2 := hfz 2
          have f3' := hfz 3
          have HNX : Hid (((((w7.setCell ⟨tg, 0, none⟩ (.int .i64 11)).setCell ⟨tg, 1, none⟩ (.int .i64 1)).setCell ⟨tg, 2, none⟩ (.int .i64 0)).setCell ⟨tg, 3, none⟩ (.int .i64 0)).ownsRow w6.heap.size 74 4 (.slice (some ⟨tg, 0, none⟩) c.length tc) c.length (codeL (modC c))) := by
            unfold Hid; rw [← modC_set hs1]; exact owns_setCell (owns_setCell (owns_setCell (owns_setCell HO7.out 0 _) 1 _) 2 _) 3 _
          have HNG : Hid (w6.grownBy ((((w7.setCell ⟨tg, 0, none⟩ (.int .i64 11)).setCell ⟨tg, 1, none⟩ (.int .i64 1)).setCell ⟨tg, 2, none⟩ (.int .i64 0)).setCell ⟨tg, 3, none⟩ (.int .i64 0)) none) := grown_setNew (grown_setNew (grown_setNew (grown_setNew HG7.out htg) htg) htg) htg
          clear hfz cu
          go_wp2_with fail
          go_meet
          exact ⟨_, _, rfl, HNX.out, HNG.out⟩
        · have t2 : (c.length : Int) ≤ 0 := by omega
          have HE : Hid (modC c = c) := modC_nil hs1
          go_wp2_with fail
          go_meet
          exact ⟨_, _, rfl, by rw [HE.out]; exact HO7.out, HG7.out⟩
      case rest =>
      obtain ⟨ta2, tc2, rfl, ho8, hg8⟩ := hcut.out
      clear hcut HO7 HG7
      obtain ⟨w8, hw8⟩ : ∃ w8, w8 = wc := ⟨_, rfl⟩
      rw [← hw8] at ho8 hg8 ⊢
      clear hw8
      refine ‹∀ a w, Code.wp Tryz.prog _ (Exit.inBlock 1 _) a w → _› _ _ ?_
      refine agRound (HAI.out.grown hg8) hlt HCE hpl hcl hl5 ho8 (fun q e => ?_) ?_ ?_
      · have h1 := owns_block ho8 q e
        by_cases ho : who' q = .other
        · exact ho
        · exact absurd (HAI.out.lx.hs.1.dom q ho).2 (by omega)
      · exact fun _ _ _ _ _ h => h
      intro z15 z53 z54 z55 z56 z57 z58 z59 z60 z61 z62 z63 z64 z65 z66 z67 z68 z69 z70 z71 z72 z73 z74 z75 z76 z77 z78 z79 z80 z81 z82 z83 z84 who'' LC' qv' w' hA'
      have HA' := hide hA'
      clear hA'
      go_wp2_with fail
      go_roundw
      case rel => exact ⟨i + 1, by omega, by go_num, ⟨who'', LC', qv', HA'.out⟩⟩
      case measure => simp [intOf]; omega
    · have t1 : (p.length : Int) ≤ (i : Int) := by omega
      have hin : i = p.length := by omega
      have HIN := hide hin
      have hLL := HAI.out.len hi
      have HLN := hide hLL
      have hcod : LC.map (·.2.1) = p.map modC := by
        have := HAI.out.cod
        rw [hin] at this
        simpa using this
      have HCD := hide hcod
      clear hin hLL hcod
      go_upto_if 37 with fail
      refine wp_cond_false rfl ?_
      refine wp_exit ?_
      refine ‹∀ a w, Code.wp Tryz.prog _ _ a w → _› _ _ ?_
      obtain ⟨qa, qn, qc, hqv⟩ := owns_form HAI.out.row
      subst hqv
      have hqn := owns_lenq HAI.out.row
      have hqn2 : qn = (p.map modC).length := by rw [hqn, HIN.out]; simp
      subst hqn2
      have hpm : (p.map modC).length = p.length := by simp
      refine againTail (p := p.map modC) (g := g) (qa := qa) (qc := qc) (by rw [hpm]; exact HAI.out.lx) HW6.out hWB HS.out HI.out HNL.out hsl HCD.out (by rw [hpm]; exact hpl) (fun c hc => ?_) HA ?_ ?_ ?_
      · obtain ⟨c0, h0, rfl⟩ := List.mem_map.1 hc
        rw [modC_len]; exact HPC.out c0 h0
      · intro w' hsz hbl
        have wgs : who' gs = .lent := (HAI.out.lx.le.li (gs, s, .slice so s.length sc) (by simp)).2.1
        have ngs : ∀ q, q ∉ [(gs, s, Value.slice so s.length sc)].map (·.1) ++ (LC.map (·.1) ++ [(g, p.length)].map (·.1)) → q ≠ gs := fun q hq e => hq (by rw [e]; simp)
        refine ⟨?_, ?_, ?_⟩
        · refine ⟨qa, qc, rfl, fun t ht => ?_⟩
          have htp : t < p.length := by rw [hpm] at ht; exact ht
          have htL : t < LC.length := by have := HLN.out; omega
          obtain ⟨qg, hqa⟩ : ∃ qg, qa = some ⟨qg, 0, none⟩ := by
            rcases HAI.out.row.2 with ⟨_, e⟩ | ⟨g, cap, cur, hv, hb', hh, _⟩
            · have := HIN.out; omega
            · simp only [Value.slice.injEq] at hv
              exact ⟨g, hv.1⟩
          subst hqa
          obtain ⟨h1, h2, h3⟩ := HAI.out.wrw qg rfl
          have hrow := HAI.out.row
          rw [← hqn] at hrow
          refine ⟨qg, 0, rfl, LC[t].2.2, ?_, ?_⟩
          · rw [Nat.zero_add, World.cell?_of_block (hbl qg (owns_ltH HAI.out.row qg rfl) (ngs qg h2) (fun k e => by rw [h1] at e; cases e)), hrow.cellAt _ (by omega)]
            rw [List.take_of_length_le (by have := HLN.out; omega)]
            simp [htL]
          · obtain ⟨_, _, c3, c4, _⟩ := HAI.out.lx.le.lc _ (List.getElem_mem htL)
            have e1 : LC[t].2.1 = (p.map modC)[t] := by
              have : (LC.map (·.2.1))[t]? = (p.map modC)[t]? := by rw [HCD.out]
              simpa [htL, htp] using this
            rw [← e1]
            exact code_oth c3 c4 (fun q h1 h2 => hbl q h1 (fun e => by rw [e, wgs] at h2; cases h2) (fun k e => by rw [h2] at e; cases e))
        · rw [World.cell?_of_block (hbl w4.heap.size (Array.getElem?_eq_some_iff.1 HAI.out.box).1 (ngs _ HAI.out.nbx) (fun k e => by rw [HAI.out.wbx] at e; cases e))]
          simp [World.cell?, HAI.out.box]
        · obtain ⟨h1, h2⟩ := HAI.out.fr.oth w1.heap.size (World.block_lt_of_cell? w5 _ HC95.out) HW95.out (fun e => e)
          rw [World.cell?_of_block (hbl w1.heap.size (by have := World.block_lt_of_cell? w5 _ HC95.out; have := HAI.out.fr.size; simp only at *; omega) (fun e => by rw [e, wgs] at h2; cases h2) (fun k e => by rw [h2] at e; cases e)), World.cell?_of_block h1, hpm]
          exact HC95.out
      · exact fun _ _ _ _ _ h => h
      · intro z0 z1 z2 z3 z4 z5 z6 z7 z9 z10 z11 z12 z13 z14 z15 z16 z17 z18 z19 z20 z21 z22 z23 z24 z25 z26 z27 z28 z29 z30 z31 z32 z33 z34 z35 z36 z37 z38 z39 z40 z41 z42 z43 z44 z45 z46 z47 z48 z49 z50 z51 z52 z53 z54 z55 z56 z57 z58 z59 z60 z61 z62 z63 z64 z65 z66 z67 z68 z69 z70 z71 z72 z73 z74 z75 z76 z77 z78 z79 z80 z81 z82 z83 z84 z85 z86 z87 z88 z89 z90 z91 z92 z93 z94 z95 z96 z97 z98 z99 z100 z101 z102 z103 z104 z105 z106 z107 z108 z109 z110 z111 z112 z113 z114 z115 z116 z117 z118 z119 z120 z121 z122 z123 z124 z125 z126 z127 z128 z129 z130 z131 z132 z133 z134 z135 z136 z137 z138 z139 f' w' hz hw
        have HZ := hide hz
        have HWF := hide hw
        clear hz hw
        go_ret
        exact ⟨rfl, who', f', K, HZ.out, HWF.out, fun c _ => by omega⟩

end Go.Proofs.YtklenjmfalljgaaGreatDoor

/- The walk of the law's asked: Form. -/
namespace Go.Proofs.YtklenjmfalljgaaGreatDoor
open Go.RowKit
attribute [local go_sem] Go.World.cell?_alloc_some

set_option maxHeartbeats 4000000 in
set_option maxRecDepth 100000 in
theorem askedF_m (p : List (List Ins)) (s : List Int) (xv lv pv sv : Value) (w : World) (hS : ShpAt w) (hX : ProgAt w xv p) (hL : IntsAt w.heap.size w lv s) (hP : ProgAt w pv p) (hI : IntsAt w.heap.size w sv s) (hpl : p.length ≤ 5864062014634) (hpc : ∀ c ∈ p, c.length ≤ 4398046510976) :
    Calls Tryz.prog 36 #[.int .i64 1, xv, lv, pv, sv] w fun e w' => e = .returned (.bool true) ∧ w.grownBy w' none := by
  have HS := hide hS
  have HX := hide hX
  have HL := hide hL
  have HP := hide hP
  have HI := hide hI
  have HPC := hide hpc
  obtain ⟨ao, cap, rfl⟩ := hX.form
  obtain ⟨ao2, cap2, rfl⟩ := hP.form
  obtain ⟨so, sc, rfl⟩ := hL.form
  obtain ⟨so2, sc2, rfl⟩ := hI.form
  clear hS hX hL hP hI hpc
  go_enter Tryz.func36, Tryz.ntmps36
  go_wp2_with fail
  have hg0 : w.grownBy ((w.alloc (.cells #[.slice ao p.length cap] 24)).alloc (.cells #[.slice ao2 p.length cap2] 24)) none := grown_alloc (grown_alloc (grown_refl _ _))
  have hb8 : ((w.alloc (.cells #[.slice ao p.length cap] 24)).alloc (.cells #[.slice ao2 p.length cap2] 24)).cell? ⟨w.heap.size + 1, 0, none⟩ = some (.slice ao2 p.length cap2) := by
    have := heap_alloc_new (w.alloc (.cells #[.slice ao p.length cap] 24)) (.cells #[.slice ao2 p.length cap2] 24)
    simp only [World.size_alloc] at this
    simp only [World.cell?, this]
    rfl
  generalize (w.alloc (.cells #[.slice ao p.length cap] 24)).alloc (.cells #[.slice ao2 p.length cap2] 24) = w1 at hg0 hb8 ⊢
  have HG1 := hide hg0
  clear hg0
  refine (form_m p s _ _ w1 (HS.out.pres (pres_grown HG1.out)) (HX.out.pres (pres_grown HG1.out)) ((HL.out.pres (pres_grown HG1.out)).mono HG1.out.size)).mono ?_
  intro e w2 hF
  obtain ⟨hg2, v, he, ho2⟩ := hF.form
  clear hF
  subst he
  obtain ⟨x1, x2, x3, rfl⟩ := owns_form ho2
  have HO2 := hide ho2
  have HG2 := hide (grown_trans HG1.out hg2)
  replace hb8 := pres_grown hg2 _ _ hb8
  clear ho2 hg2
  have HCR : Hid (∃ cr, cr = checkRunN p s) := ⟨_, rfl⟩
  obtain ⟨cr, hcr⟩ := HCR.out
  rw [← hcr]
  have HCQ := hide hcr
  clear hcr HCR
  go_wp2_with fail
  refine (refForm_m p s _ _ w2 (HP.out.pres (pres_grown HG2.out)) ((HI.out.pres (pres_grown HG2.out)).mono HG2.out.size) hpl HPC.out).mono ?_
  intro e w3 hF
  obtain ⟨hg3, v', he, ho3⟩ := hF.form
  clear hF
  subst he
  rw [← HCQ.out]
  obtain ⟨y1, y2, y3, rfl⟩ := owns_form ho3
  have HG3 := hide (grown_trans HG2.out hg3)
  have HSM := hide (same_m (formOut p s) (formOut p s) _ _ w3 (owns_ints (owns_grown HO2.out hg3 (fun _ e => by cases e))) (owns_ints ho3) (by have := formOut_le p s; omega))
  rw [show (formOut p s == formOut p s) = true by simp] at HSM
  clear hg3 ho3 hb8
  go_wp2_with fail
  refine HSM.out.mono ?_
  clear HSM
  rintro e w4 ⟨rfl, hl4⟩
  have HG4 : Hid (w.grownBy w4 none) := grown_trans HG3.out (grown_of_like hl4)
  clear hl4
  go_wp2_with (go_at_call 31; refine (num_mR _ _).mono ?_; rintro e w9 ⟨rfl, hw9⟩; have hw9' := hw9.symm; subst hw9')
  go_ret
  exact ⟨by simp, HG4.out⟩

end Go.Proofs.YtklenjmfalljgaaGreatDoor

/- The walk of Forms. -/
namespace Go.Proofs.YtklenjmfalljgaaGreatDoor
open Go.RowKit
attribute [local go_sem] Go.World.cell?_alloc_some

theorem ctr_check : checkRunN ctrP [0, 1, 0, 0, 0, 1, 1, 1] = 0 := by decide +kernel
theorem ctr_form : formS ctrP (runS ctrP [0, 1, 0, 0, 0, 1, 1, 1]) = [0, 1, 0, 1, 0, 1, 0, 1] := by decide +kernel
theorem ctr_out : formOut ctrP [0, 1, 0, 0, 0, 1, 1, 1] = [0, 1, 0, 1, 0, 1, 0, 1] := by unfold formOut; rw [if_pos ctr_check, ctr_form]
theorem ints_lit8 {w : World} {g : Nat} {ty : TypeId} (h : w.heap[g]? = some (.cells #[.int .i64 0, .int .i64 1, .int .i64 0, .int .i64 0, .int .i64 0, .int .i64 1, .int .i64 1, .int .i64 1] ty (0, 0))) : IntsAt w.heap.size w (.slice (some ⟨g, 0, none⟩) 8 8) [0, 1, 0, 0, 0, 1, 1, 1] := by
  refine ⟨some ⟨g, 0, none⟩, 8, rfl, Nat.le_refl _, fun k hk => ⟨g, 0, rfl, (Array.getElem?_eq_some_iff.1 h).1, ?_⟩⟩
  simp only [World.cell?, h]
  have hk' : k < 8 := hk
  rcases (by omega : k = 0 ∨ k = 1 ∨ k = 2 ∨ k = 3 ∨ k = 4 ∨ k = 5 ∨ k = 6 ∨ k = 7) with rfl | rfl | rfl | rfl | rfl | rfl | rfl | rfl <;> rfl

set_option maxHeartbeats 4000000 in
set_option maxRecDepth 100000 in
theorem forms_m (W : World) (pv av bv : Value) (p : List (List Ins)) (a b : List Int) (hS : ShpAt W) (hP : ProgAt W pv p) (hPN : ProgNil W pv) (hI : IntsAt W.heap.size W av a) (hnil : nilA av) (hJ : IntsAt W.heap.size W bv b) (hpl : p.length ≤ 5864062014634) (hpc : ∀ c ∈ p, c.length ≤ 4398046510976) (hal : a.length ≤ 17592186043904) (hbl : b.length ≤ 17592186043904) :
    Calls Tryz.prog 5 #[pv, av, bv] W fun e w' => e = .returned (.bool true) ∧ W.grownBy w' none := by
  have HS := hide hS
  have HP := hide hP
  have HPN := hide hPN
  have HI := hide hI
  have HNL := hide hnil
  have HJ := hide hJ
  have HPC := hide hpc
  obtain ⟨ao, cap, rfl⟩ := hP.form
  obtain ⟨so, sc, rfl⟩ := hI.form
  obtain ⟨ta, tc, rfl⟩ := hJ.form
  have hpt : ∀ q, pt q = .pointer (some ⟨q, 0, none⟩) := fun _ => rfl
  clear hS hP hPN hI hnil hJ hpc
  go_enter Tryz.func5, Tryz.ntmps5
  go_wp2_with fail
  refine (counter_m _).mono ?_
  rintro e w1 ⟨cv, rfl, hcp, hg1⟩
  have HG1 : Hid (W.grownBy w1 none) := grown_trans (grown_alloc (grown_refl _ _)) hg1
  have hb1 : w1.heap[W.heap.size]? = some (.cells #[.slice ao p.length cap] 24 (0, 0)) := by
    rw [hg1.block W.heap.size (by simp) (by simp)]; exact heap_alloc_new W _
  have c1 : w1.cell? ⟨W.heap.size, 0, none⟩ = some (.slice ao p.length cap) := by simp [World.cell?, hb1]
  have HC1 := hide c1
  have HCP := hide hcp
  obtain ⟨cao, ccp, hcv⟩ := hcp.form
  subst hcv
  clear hg1 hb1 hcp c1
  go_wp2_with fail
  obtain ⟨w2, hw2⟩ : ∃ w2, w2 = w1.alloc (.cells #[.int .i64 0, .int .i64 1, .int .i64 0, .int .i64 0, .int .i64 0, .int .i64 1, .int .i64 1, .int .i64 1] 3) := ⟨_, rfl⟩
  rw [← hw2]
  have HG12 : Hid (w1.grownBy w2 none) := by unfold Hid; rw [hw2]; exact grown_alloc (grown_refl _ _)
  have HL2 : Hid (IntsAt w2.heap.size w2 (.slice (some ⟨w1.heap.size, 0, none⟩) 8 8) [0, 1, 0, 0, 0, 1, 1, 1]) := by
    unfold Hid; rw [hw2]; exact ints_lit8 (heap_alloc_new w1 _)
  clear hw2
  refine (form_m ctrP [0, 1, 0, 0, 0, 1, 1, 1] _ _ w2 (HS.out.pres (pres_grown (grown_trans HG1.out HG12.out))) (HCP.out.pres (pres_grown HG12.out)) HL2.out).mono ?_
  intro e w3 hF
  obtain ⟨hg3, v, he, ho3⟩ := hF.form
  clear hF
  subst he
  rw [ctr_check]
  rw [ctr_out] at ho3
  obtain ⟨x1, x2, x3, rfl⟩ := owns_form ho3
  have hx2 := owns_lenq ho3
  subst hx2
  obtain ⟨vg, hvg⟩ : ∃ vg, x1 = some ⟨vg, 0, none⟩ := by
    rcases ho3.2 with ⟨_, e⟩ | ⟨g, cap, cur, hv, hb', hh, _⟩
    · simp at e
    · simp only [Value.slice.injEq] at hv
      exact ⟨g, hv.1⟩
  subst hvg
  have k1 : w3.cell? ⟨vg, 1, none⟩ = some (.int .i64 1) := by rw [ho3.cellAt _ (by simp)]; rfl
  have k2 : w3.cell? ⟨vg, 2, none⟩ = some (.int .i64 0) := by rw [ho3.cellAt _ (by simp)]; rfl
  have HG3 : Hid (W.grownBy w3 none) := grown_trans HG1.out (grown_trans HG12.out hg3)
  have HC3 := hide (pres_grown (grown_trans HG12.out hg3) _ _ HC1.out)
  clear ho3 hg3 HC1 HCP HL2 HG12 HG1
  go_upto_region 5 with fail
  clear k1 k2
  obtain ⟨w4, hw4⟩ : ∃ w4, w4 = w3.alloc (.cells (hcl f00) 43) := ⟨_, rfl⟩
  have hw4' : w3.alloc (.cells #[.slice none 0 0, .slice none 0 0, .slice none 0 0, .slice none 0 0, .slice none 0 0, .int .i64 0, .slice none 0 0, .slice none 0 0, .slice none 0 0, .slice none 0 0, .slice none 0 0, .slice none 0 0, .slice none 0 0, .slice none 0 0, .slice none 0 0, .slice none 0 0] 43) = w4 := by rw [hw4]; rfl
  rw [hw4']
  have HG34 : Hid (w3.grownBy w4 none) := by unfold Hid; rw [hw4]; exact grown_alloc (grown_refl _ _)
  have hz4 : Hz w3.heap.size w4 w3.heap.size (setW (fun _ => .other) w3.heap.size .hands) 0 f00 (fun _ => []) := Hz.start (by rw [hw4]; exact heap_alloc_new w3 _)
  have HS3 := hide (HS.out.pres (pres_grown HG3.out))
  have HP3 : Hid (ProgAt w3 (.agg #[.slice ao p.length cap]) p) := HP.out.pres (pres_grown HG3.out)
  have HI3 : Hid (IntsAt w3.heap.size w3 (.slice so a.length sc) a) := (HI.out.pres (pres_grown HG3.out)).mono HG3.out.size
  have HJ3 : Hid (IntsAt w3.heap.size w3 (.slice ta b.length tc) b) := (HJ.out.pres (pres_grown HG3.out)).mono HG3.out.size
  have HN3 : Hid (ProgNil w3 (.agg #[.slice ao p.length cap])) := fun g o n cp t rv e ht hc => by
    simp only [Value.agg.injEq, Array.mk.injEq, List.cons.injEq, Value.slice.injEq, and_true] at e
    obtain ⟨e1, e2, e3⟩ := e
    subst e1 e2 e3
    obtain ⟨ao', cap', e, hh⟩ := HP.out
    simp only [Value.agg.injEq, Array.mk.injEq, List.cons.injEq, Value.slice.injEq, and_true, true_and] at e
    obtain ⟨g', o', e1, rv', e2, _⟩ := hh t ht
    rw [← e.1] at e1
    simp only [Option.some.injEq, Addr.mk.injEq, and_true] at e1
    obtain ⟨rfl, rfl⟩ := e1
    have e3 := pres_grown HG3.out _ _ e2
    rw [e3] at hc
    simp only [Option.some.injEq] at hc
    rw [← hc]
    exact HPN.out g o p.length cap t rv' rfl ht e2
  have HF1 := hide (formed_g w3 w3.heap.size w4 w3.heap.size _ 0 f00 _ _ _ p a hz4 HG34.out (Nat.le_refl _) HS3.out HP3.out HI3.out hpl HPC.out hal (by omega) (by omega) (fun c _ => by simp))
  rw [hpt] at HF1
  clear hw4 hw4' hz4
  have c4 := pres_grown HG34.out _ _ HC3.out
  go_wp2_with fail
  refine HF1.out.mono ?_
  clear HF1 c4
  rintro e w5 ⟨rfl, who5, f5, K5, hz5, hg5, hk5⟩
  have c5 := pres_grown hg5 _ _ HC3.out
  have HF2 := hide (formed_g w3 w3.heap.size w5 w3.heap.size _ _ f5 K5 _ _ p b hz5 hg5 (Nat.le_refl _) HS3.out HP3.out HJ3.out hpl HPC.out hbl (by omega) (by omega) (fun c hc => by have := hk5 c hc; simp at this; omega))
  rw [hpt] at HF2
  have HK5 := hide hk5
  clear hz5 hg5 hk5
  go_wp2_with fail
  refine HF2.out.mono ?_
  clear HF2 c5
  rintro e w6 ⟨rfl, who6, f6, K6, hz6, hg6, hk6⟩
  have c6 := pres_grown hg6 _ _ HC3.out
  have HK6 : Hid (∀ c, c < 5 → (K6 c).length ≤ 8) := fun c hc => by have := hk6 c hc; have := HK5.out c hc; simp at this; omega
  have HF3 := hide (compared_g w3 w3.heap.size w6 w3.heap.size _ _ f6 K6 _ _ _ p a b hz6 hg6 (Nat.le_refl _) HS3.out HP3.out HI3.out ((HJ3.out.pres (pres_grown hg6)).mono hg6.size) (val_other hz6.1 (Nat.le_refl _) HJ3.out) hpl HPC.out hal hbl)
  rw [hpt] at HF3
  clear hz6 hg6 hk6 HK5
  go_wp2_with fail
  refine HF3.out.mono ?_
  clear HF3 c6
  rintro e w7 ⟨rfl, who7, f7, K7, hz7, hg7, hk7⟩
  have c7 := pres_grown hg7 _ _ HC3.out
  have HK7 : Hid (∀ c, c < 5 → (K7 c).length ≤ 12) := fun c hc => by have := hk7 c hc; have := HK6.out c hc; omega
  have HZ7 := hide hz7
  have HG7 := hide hg7
  have HRF := hide (refForm_m p a _ _ w7 (HP3.out.pres (pres_grown hg7)) ((HI3.out.pres (pres_grown hg7)).mono hg7.size) hpl HPC.out)
  clear hz7 hg7 hk7 HK6
  go_wp2_with fail
  refine HRF.out.mono ?_
  clear HRF c7
  intro e w8 hF
  obtain ⟨hg8, v8, he, ho8⟩ := hF.form
  clear hF
  subst he
  obtain ⟨y1, y2, y3, rfl⟩ := owns_form ho8
  have HG38 : Hid (w3.grownBy w8 none) := grown_trans HG7.out hg8
  have hvo : valOther who7 (.slice y1 y2 y3) := fun q o l c e hl => by
    simp only [Value.slice.injEq] at e
    have h1 : w7.heap.size ≤ q := by
      rcases ho8.2 with ⟨e3, _⟩ | ⟨g', cap', cur, hv, hb', _⟩
      · simp only [Value.slice.injEq] at e3
        rw [e3.1] at e; cases e.1
      · simp only [Value.slice.injEq] at hv
        rw [hv.1] at e
        simp only [Option.some.injEq, Addr.mk.injEq, and_true] at e
        omega
    by_cases ho : who7 q = .other
    · exact ho
    · exact absurd (HZ7.out.1.1.dom q ho).2 (by omega)
  have c8 := pres_grown HG38.out _ _ HC3.out
  have HF4 := hide (compared_g w3 w3.heap.size w8 w3.heap.size _ _ f7 K7 _ _ _ p a (formOut p a) ⟨HZ7.out.1.grown hg8, HZ7.out.2⟩ HG38.out (Nat.le_refl _) HS3.out HP3.out HI3.out (owns_ints ho8) hvo hpl HPC.out hal (by have := formOut_le p a; omega))
  rw [hpt] at HF4
  clear hvo ho8 hg8 HZ7 HG7
  go_wp2_with fail
  refine HF4.out.mono ?_
  clear HF4 c8
  rintro e w9 ⟨rfl, who9, f9, K9, hz9, hg9, hk9⟩
  have c9 := pres_grown hg9 _ _ HC3.out
  have HK9 : Hid (∀ c, c < 5 → (K9 c).length ≤ 16) := fun c hc => by have := hk9 c hc; have := HK7.out c hc; omega
  have HF5 := hide (formed_g w3 w3.heap.size w9 w3.heap.size _ _ f9 K9 _ _ p a hz9 hg9 (Nat.le_refl _) HS3.out HP3.out HI3.out hpl HPC.out hal (by omega) (by omega) (fun c hc => by have := HK9.out c hc; omega))
  rw [hpt] at HF5
  clear hz9 hg9 hk9 HK7
  go_wp2_with fail
  refine HF5.out.mono ?_
  clear HF5 c9
  rintro e w10 ⟨rfl, who10, f10, K10, hz10, hg10, hk10⟩
  have c10 := pres_grown hg10 _ _ HC3.out
  have HF6 := hide (again_g w3 w3.heap.size w10 w3.heap.size _ _ f10 K10 _ _ p a 1 hz10 hg10 (Nat.le_refl _) HS3.out HP3.out HN3.out HI3.out HNL.out hpl HPC.out hal (fun p s xv lv pv sv w h1 h2 h3 _ h4 h5 _ h6 h7 => askedF_m p s xv lv pv sv w h1 h2 h3 h4 h5 h6 h7))
  rw [hpt] at HF6
  clear hz10 hg10 hk10 HK9
  go_wp2_with fail
  refine HF6.out.mono ?_
  clear HF6 c10
  rintro e w11 ⟨rfl, who11, f11, K11, hz11, hg11, hk11⟩
  have HG11 : Hid (W.grownBy w11 none) := grown_trans HG3.out hg11
  clear hz11 hg11 hk11
  go_wp2_with fail
  go_ret
  exact ⟨rfl, HG11.out⟩

end Go.Proofs.YtklenjmfalljgaaGreatDoor

/- The walks of instruction and program. -/
namespace Go.Proofs.YtklenjmfalljgaaGreatDoor
open Go.RowKit
attribute [local go_sem] Go.World.cell?_alloc_some

end Go.Proofs.YtklenjmfalljgaaGreatDoor
