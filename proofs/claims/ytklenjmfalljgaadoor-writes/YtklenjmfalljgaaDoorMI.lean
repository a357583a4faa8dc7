/- The texts Rgg Rgi Rgj Prn2 RefA RefB RefC RefD RefE RefF RefG Rgd Rfa. -/
import Derived.Test.YtklenjmfalljgaaDoorMH
import Derived.Test.YtklenjmfalljgaaDoorShelf
import Derived.Lib.QuietBelow
import Derived.Lib.AppendIntMem

/- The reference's guess, from the schedule on. -/
namespace Go.Proofs.YtklenjmfalljgaaDoor
open Go.RowKit
attribute [local go_sem] Go.World.cell?_alloc_some

/-- The schedule and the verdict, and is it some's. -/
def schG (l : List Nat) (bad : Bool) : List Int × (Int × Int × Int) × Bool :=
  let k := numG 500 l
  let s := runsG k.1 [] k.2.1 (bad || k.2.2)
  let a := numG 5 s.2.1
  let b := numG 3 a.2.1
  let c := numG 500 b.2.1
  (s.1, (a.1, b.1, c.1), !(s.2.2 || a.2.2 || b.2.2 || c.2.2))
theorem fillG_full (n : Nat) (t : Int) (s : List Int) (h : ¬ s.length ≤ 500) : fillG n t s = s := by
  cases n with
  | zero => rfl
  | succ n => rw [fillG, if_neg h]
theorem runsG_bad (k : Nat) (s : List Int) (l : List Nat) : runsG k s l true = (s, l, true) := by cases k <;> rfl

set_option maxHeartbeats 2000000 in
set_option maxRecDepth 100000 in
theorem guEnd {W w : World} {b n5 n2 L : Nat} {s : ByteArray} {l : List Nat} {bad : Bool} {tv sv : Value} {p : List (List Ins)} {sc : List Int} (HS : Hid (GuS W w b n5 n2 L s l bad tv sv (0, 0, 0) p sc)) (hs : s.size ≤ 9223372036854775000)
    {Q : Exit → Act → World → Prop} {c0 c1 c3 c6 c7 c8 c9 c10 c11 c12 c13 c14 c15 c16 c17 c18 c19 c20 c21 c22 c23 c24 c25 c26 c27 c28 c29 c30 c31 c32 c33 c34 c35 c36 c37 c38 c39 c40 c41 c42 c43 c44 c45 c46 c47 c48 c49 c50 c51 c52 c53 c54 c55 c56 c57 c58 c59 c60 c61 c62 c63 c64 c65 c66 c67 c68 c69 c70 c71 c72 c73 c74 c75 c76 c77 c78 c79 c80 c81 c82 c83 c84 c85 c86 c87 c88 c89 c90 c91 c92 c93 c94 c95 c96 c97 c98 c99 c100 c101 c102 c103 c104 c105 c106 c107 c108 c109 c110 c111 c112 c113 c114 c115 c116 c117 c118 c119 c120 c121 c122 c123 c124 c125 c126 c127 c128 c129 c130 c131 c132 : Value} (HQP : Hid (∀ c a d v w, Q (.panic c) (Act.put a (some d) v) w → Q (.panic c) a w))
    (HQ : Hid (∀ {z0 z1 z4 z5 z6 z7 z8 z9 z10 z11 z12 z13 z14 z15 z16 z17 z18 z19 z20 z21 z22 z23 z24 z25 z26 z27 z28 z29 z30 z31 z32 z33 z34 z35 z36 z37 z38 z39 z40 z41 z42 z43 z44 z45 z46 z47 z48 z49 z50 z51 z52 z53 z54 z55 z56 z57 z58 z59 z60 z61 z62 z63 z64 z65 z66 z67 z68 z69 z70 z71 z72 z73 z74 z75 z76 z77 z78 z79 z80 z81 z82 z83 z84 z85 z86 z87 z88 z89 z90 z91 z92 z93 z94 z95 z96 z97 z98 z99 z100 z101 z102 z103 z104 z105 z106 z107 z108 z109 z110 z111 z112 z113 z114 z115 z116 z117 z118 z119 z120 z121 z122 z123 z124 z125 z126 z127 z128 z129 z130 z131 z132 : Value} (w' : World) (sv' : Value), w'.heap[n2]? = some (.cells #[tv, sv', .int .i64 ((numG 5 l).1 : Nat), .int .i64 ((numG 3 (numG 5 l).2.1).1 : Nat), .int .i64 ((numG 500 (numG 3 (numG 5 l).2.1).2.1).1 : Nat)] 51 (0, 0)) → ThrAt L w'.heap.size w' tv p → w'.ownsRow L 3 1 sv' sc.length (ints sc) → W.grownBy w' none → Q .ret ⟨#[z0, z1, .pointer (some ⟨n2, 0, none⟩), .bool (!(bad || (numG 5 l).2.2 || (numG 3 (numG 5 l).2.1).2.2 || (numG 500 (numG 3 (numG 5 l).2.1).2.1).2.2)), z4, z5, z6, z7, z8, z9, z10, z11, z12, z13, z14, z15, z16, z17, z18, z19, z20, z21, z22, z23, z24, z25, z26, z27, z28, z29, z30, z31, z32, z33, z34, z35, z36, z37, z38, z39, z40, z41, z42, z43, z44, z45, z46, z47, z48, z49, z50, z51, z52, z53, z54, z55, z56, z57, z58, z59, z60, z61, z62, z63, z64, z65, z66, z67, z68, z69, z70, z71, z72, z73, z74, z75, z76, z77, z78, z79, z80, z81, z82, z83, z84, z85, z86, z87, z88, z89, z90, z91, z92, z93, z94, z95, z96, z97, z98, z99, z100, z101, z102, z103, z104, z105, z106, z107, z108, z109, z110, z111, z112, z113, z114, z115, z116, z117, z118, z119, z120, z121, z122, z123, z124, z125, z126, z127, z128, z129, z130, z131, z132], []⟩ w')) :
    Code.wp Tryd.prog (tailOf Tryd.f85 28) Q ⟨#[c0, c1, .pointer (some ⟨n2, 0, none⟩), c3, .pointer (some ⟨b, 0, none⟩), .pointer (some ⟨n5, 0, none⟩), c6, c7, c8, c9, c10, c11, c12, c13, c14, c15, c16, c17, c18, c19, c20, c21, c22, c23, c24, c25, c26, c27, c28, c29, c30, c31, c32, c33, c34, c35, c36, c37, c38, c39, c40, c41, c42, c43, c44, c45, c46, c47, c48, c49, c50, c51, c52, c53, c54, c55, c56, c57, c58, c59, c60, c61, c62, c63, c64, c65, c66, c67, c68, c69, c70, c71, c72, c73, c74, c75, c76, c77, c78, c79, c80, c81, c82, c83, c84, c85, c86, c87, c88, c89, c90, c91, c92, c93, c94, c95, c96, c97, c98, c99, c100, c101, c102, c103, c104, c105, c106, c107, c108, c109, c110, c111, c112, c113, c114, c115, c116, c117, c118, c119, c120, c121, c122, c123, c124, c125, c126, c127, c128, c129, c130, c131, c132], []⟩ w := by
  conv => arg 2; whnf
  have hpt : ∀ q, pt q = .pointer (some ⟨q, 0, none⟩) := fun _ => rfl
  have HA1 := hide (numG_m w b s l bad 5 (by omega) HS.out.rd hs)
  rw [hpt] at HA1
  have qa1 := numG_le 5 l
  generalize numG 5 l = x at *
  obtain ⟨a0, l1, c1'⟩ := x
  simp only at HA1 HQ qa1
  have hka1 : (a0 : Int) ≤ 5 := by omega
  go_upto_region 29 with (go_at_call 120; refine HA1.out.mono ?_; clear HA1; rintro e v1 ⟨rfl, hr, hg⟩; have hc := HS.out.call hr hg; have p6 := hc.acell.2.2.1; have p7 := hc.acell.2.2.2.2.2 2; have HC1 := hide hc; clear hr hg hc)
  have hst := HC1.out.setA 2 (a0 : Int) ((a0 : Int), 0, 0) (Or.inl ⟨rfl, rfl⟩)
  generalize v1.setCell ⟨n5, 2, none⟩ (.int .i64 (a0 : Int)) = w1 at *
  have HS1 := hide hst
  clear hst p6 p7 HC1
  have HA2 := hide (numG_m w1 b s l1 (bad || c1') 3 (by omega) HS1.out.rd hs)
  rw [hpt] at HA2
  have qa2 := numG_le 3 l1
  generalize numG 3 l1 = x at *
  obtain ⟨a1, l2, c2'⟩ := x
  simp only at HA2 HQ qa2
  have hka2 : (a1 : Int) ≤ 3 := by omega
  go_upto_region 30 with (go_at_call 120; refine HA2.out.mono ?_; clear HA2; rintro e v2 ⟨rfl, hr, hg⟩; have hc := HS1.out.call hr hg; have p6 := hc.acell.2.2.2.1; have p7 := hc.acell.2.2.2.2.2 3; have HC2 := hide hc; clear hr hg hc)
  have hst := HC2.out.setA 3 (a1 : Int) ((a0 : Int), (a1 : Int), 0) (Or.inr (Or.inl ⟨rfl, rfl⟩))
  generalize v2.setCell ⟨n5, 3, none⟩ (.int .i64 (a1 : Int)) = w2 at *
  have HS2 := hide hst
  clear hst p6 p7 HC2
  have HA3 := hide (numG_m w2 b s l2 (bad || c1' || c2') 500 (by omega) HS2.out.rd hs)
  rw [hpt] at HA3
  have qa3 := numG_le 500 l2
  generalize numG 500 l2 = x at *
  obtain ⟨a2, l3, c3'⟩ := x
  simp only at HA3 HQ qa3
  have hka3 : (a2 : Int) ≤ 500 := by omega
  go_upto_region 31 with (go_at_call 120; refine HA3.out.mono ?_; clear HA3; rintro e v3 ⟨rfl, hr, hg⟩; have hc := HS2.out.call hr hg; have p6 := hc.acell.2.2.2.2.1; have p7 := hc.acell.2.2.2.2.2 4; have HC3 := hide hc; clear hr hg hc)
  have hst := HC3.out.setA 4 (a2 : Int) ((a0 : Int), (a1 : Int), (a2 : Int)) (Or.inr (Or.inr ⟨rfl, rfl⟩))
  generalize v3.setCell ⟨n5, 4, none⟩ (.int .i64 (a2 : Int)) = w3 at *
  have HS3 := hide hst
  clear hst p6 p7 HC3
  obtain ⟨x1, x2, x3, hx⟩ := owns_form HS3.out.thr.choose_spec.1
  obtain ⟨y1, y2, y3, hy⟩ := owns_form HS3.out.row
  subst hx hy
  generalize hBB : (bad || c1' || c2' || c3') = BB at *
  clear hBB
  have HST : Hid (∀ u : World, (∀ k, k ≠ n2 → u.heap[k]? = w3.heap[k]?) → u.cell? ⟨n5, 0, none⟩ = some (.slice x1 x2 x3) ∧ u.cell? ⟨n5, 1, none⟩ = some (.slice y1 y2 y3) ∧ u.cell? ⟨n5, 2, none⟩ = some (.int .i64 (a0 : Int)) ∧ u.cell? ⟨n5, 3, none⟩ = some (.int .i64 (a1 : Int)) ∧ u.cell? ⟨n5, 4, none⟩ = some (.int .i64 (a2 : Int)) ∧ u.cell? ⟨b, 2, none⟩ = some (.bool BB)) := fun u hu => by
    have h := HS3.out
    obtain ⟨o1, o2, o3, o4⟩ := h.ord
    obtain ⟨e0, e1, e2, e3, e4, _⟩ := h.acell
    have hn : u.heap[n5]? = w3.heap[n5]? := hu n5 (by omega)
    have hb : u.heap[b]? = w3.heap[b]? := hu b (by omega)
    exact ⟨by rw [World.cell?_of_block hn]; exact e0, by rw [World.cell?_of_block hn]; exact e1, by rw [World.cell?_of_block hn]; exact e2, by rw [World.cell?_of_block hn]; exact e3, by rw [World.cell?_of_block hn]; exact e4, by rw [World.cell?_of_block hb]; exact h.rd.bad⟩
  have hSt := HST.out w3.drew (fun k _ => rfl)
  refine wp_region_head (fun u => u.cell? ⟨n5, 0, none⟩ = some (.slice x1 x2 x3) ∧ u.cell? ⟨n5, 1, none⟩ = some (.slice y1 y2 y3) ∧ u.cell? ⟨n5, 2, none⟩ = some (.int .i64 (a0 : Int)) ∧ u.cell? ⟨n5, 3, none⟩ = some (.int .i64 (a1 : Int)) ∧ u.cell? ⟨n5, 4, none⟩ = some (.int .i64 (a2 : Int)) ∧ u.cell? ⟨b, 2, none⟩ = some (.bool BB)) 7 (by kernel_rfl) (by kernel_rfl) hSt ?_
  intro hHeld
  refine wpHead_take (i := 0) (v := ?vv0) rfl (by kernel_rfl) (fun c _ _ h => HQP.out c _ _ _ _ h) (Or.inl ⟨by kernel_rfl, ?hy0⟩) hHeld ?rest0
  case hy0 => (rintro u ⟨hu0, hu1, hu2, hu3, hu4, hu5⟩; go_simp; try with_reducible rfl)
  simp only [Act.put, List.setIfInBounds_toArray]
  refine wpHead_take (i := 1) (v := ?vv1) rfl (by kernel_rfl) (fun c _ _ h => HQP.out c _ _ _ _ h) (Or.inl ⟨by kernel_rfl, ?hy1⟩) hHeld ?rest1
  case hy1 => (rintro u ⟨hu0, hu1, hu2, hu3, hu4, hu5⟩; go_simp; try with_reducible rfl)
  simp only [Act.put]
  refine wpHead_take (i := 2) (v := ?vv2) rfl (by kernel_rfl) (fun c _ _ h => HQP.out c _ _ _ _ h) (Or.inl ⟨by kernel_rfl, ?hy2⟩) hHeld ?rest2
  case hy2 => (rintro u ⟨hu0, hu1, hu2, hu3, hu4, hu5⟩; go_simp; try with_reducible rfl)
  simp only [Act.put]
  refine wpHead_take (i := 3) (v := ?vv3) rfl (by kernel_rfl) (fun c _ _ h => HQP.out c _ _ _ _ h) (Or.inl ⟨by kernel_rfl, ?hy3⟩) hHeld ?rest3
  case hy3 => (rintro u ⟨hu0, hu1, hu2, hu3, hu4, hu5⟩; go_simp; try with_reducible rfl)
  simp only [Act.put]
  refine wpHead_take (i := 4) (v := ?vv4) rfl (by kernel_rfl) (fun c _ _ h => HQP.out c _ _ _ _ h) (Or.inl ⟨by kernel_rfl, ?hy4⟩) hHeld ?rest4
  case hy4 => (rintro u ⟨hu0, hu1, hu2, hu3, hu4, hu5⟩; go_simp; try with_reducible rfl)
  simp only [Act.put]
  refine wpHead_take (i := 5) (v := ?vv5) rfl (by kernel_rfl) (fun c _ _ h => HQP.out c _ _ _ _ h) (Or.inl ⟨by kernel_rfl, ?hy5⟩) hHeld ?rest5
  case hy5 => (rintro u ⟨hu0, hu1, hu2, hu3, hu4, hu5⟩; go_simp; try with_reducible rfl)
  simp only [Act.put]
  refine wpHead_alone (i := 6) rfl (by kernel_rfl) (by kernel_rfl) (by kernel_rfl) ?_
  intro K6 hK6
  have HK6 := hide hK6
  clear hK6
  have hres : w3.heap[n2]? = some (.cells #[.slice none 0 0, .slice none 0 0, .int .i64 0, .int .i64 0, .int .i64 0] 51 (0, 0)) := HS3.out.res
  have r0 : w3.cell? ⟨n2, 0, none⟩ = some (.slice none 0 0) := by simp only [World.cell?, hres]; rfl
  have r1 : w3.cell? ⟨n2, 1, none⟩ = some (.slice none 0 0) := by simp only [World.cell?, hres]; rfl
  have r2 : w3.cell? ⟨n2, 2, none⟩ = some (.int .i64 0) := by simp only [World.cell?, hres]; rfl
  have r3 : w3.cell? ⟨n2, 3, none⟩ = some (.int .i64 0) := by simp only [World.cell?, hres]; rfl
  have r4 : w3.cell? ⟨n2, 4, none⟩ = some (.int .i64 0) := by simp only [World.cell?, hres]; rfl
  have fz : ∀ o, w3.frozen? ⟨n2, o, none⟩ = false := fun o => by simp [World.frozen?, hres]
  have z0 := fz 0
  have z1 := fz 1
  have z2 := fz 2
  have z3 := fz 3
  have z4 := fz 4
  have HRS := hide hres
  clear hres fz
  go_simp
  have hb9 : (((((w3.setCell ⟨n2, 0, none⟩ (.slice x1 x2 x3)).setCell ⟨n2, 1, none⟩ (.slice y1 y2 y3)).setCell ⟨n2, 2, none⟩ (.int .i64 (a0 : Int))).setCell ⟨n2, 3, none⟩ (.int .i64 (a1 : Int))).setCell ⟨n2, 4, none⟩ (.int .i64 (a2 : Int))).heap[n2]? = some (.cells #[.slice x1 x2 x3, .slice y1 y2 y3, .int .i64 (a0 : Int), .int .i64 (a1 : Int), .int .i64 (a2 : Int)] 51 (0, 0)) := by
    have e1 := heap_setCell_same w3 n2 0 _ _ (.slice x1 x2 x3) HRS.out
    have e2 := heap_setCell_same _ n2 1 _ _ (.slice y1 y2 y3) e1
    have e3 := heap_setCell_same _ n2 2 _ _ (.int .i64 (a0 : Int)) e2
    have e4 := heap_setCell_same _ n2 3 _ _ (.int .i64 (a1 : Int)) e3
    exact heap_setCell_same _ n2 4 _ _ (.int .i64 (a2 : Int)) e4
  have hg9 : w3.grownBy (((((w3.setCell ⟨n2, 0, none⟩ (.slice x1 x2 x3)).setCell ⟨n2, 1, none⟩ (.slice y1 y2 y3)).setCell ⟨n2, 2, none⟩ (.int .i64 (a0 : Int))).setCell ⟨n2, 3, none⟩ (.int .i64 (a1 : Int))).setCell ⟨n2, 4, none⟩ (.int .i64 (a2 : Int))) (some n2) := grown_trans (grown_trans (grown_trans (grown_trans (grown_set1 _ _ _ _) (grown_set1 _ _ _ _)) (grown_set1 _ _ _ _)) (grown_set1 _ _ _ _)) (grown_set1 _ _ _ _)
  have ho9 : ∀ k, k ≠ n2 → (((((w3.setCell ⟨n2, 0, none⟩ (.slice x1 x2 x3)).setCell ⟨n2, 1, none⟩ (.slice y1 y2 y3)).setCell ⟨n2, 2, none⟩ (.int .i64 (a0 : Int))).setCell ⟨n2, 3, none⟩ (.int .i64 (a1 : Int))).setCell ⟨n2, 4, none⟩ (.int .i64 (a2 : Int))).heap[k]? = w3.heap[k]? := fun k hk => by
    rw [Below.heap_setCell _ _ _ _ (by simpa using hk), Below.heap_setCell _ _ _ _ (by simpa using hk), Below.heap_setCell _ _ _ _ (by simpa using hk), Below.heap_setCell _ _ _ _ (by simpa using hk), Below.heap_setCell _ _ _ _ (by simpa using hk)]
  generalize ((((w3.setCell ⟨n2, 0, none⟩ (.slice x1 x2 x3)).setCell ⟨n2, 1, none⟩ (.slice y1 y2 y3)).setCell ⟨n2, 2, none⟩ (.int .i64 (a0 : Int))).setCell ⟨n2, 3, none⟩ (.int .i64 (a1 : Int))).setCell ⟨n2, 4, none⟩ (.int .i64 (a2 : Int)) = w9 at *
  refine HK6.out _ _ (HST.out w9.drew ho9) ?_
  clear HK6 r0 r1 r2 r3 r4 z0 z1 z2 z3 z4
  try simp only [Act.put, List.setIfInBounds_toArray]
  refine wpHead_last rfl (by kernel_rfl) (by kernel_rfl) (by kernel_rfl) ?_
  go_simp
  have HF : Hid (ThrAt L w9.drew.heap.size w9.drew (.slice x1 x2 x3) p ∧ w9.drew.ownsRow L 3 1 (.slice y1 y2 y3) sc.length (ints sc) ∧ W.grownBy w9.drew none) := by
    have h := HS3.out
    obtain ⟨o1, o2, o3, o4⟩ := h.ord
    have hgd : w3.grownBy w9.drew (some n2) := grown_drew hg9
    refine ⟨(h.thr.step hgd (fun q e => by simp only [Option.some.injEq] at e; omega)).mono hgd.size, owns_step h.row hgd (fun k e e2 => by simp only [Option.some.injEq] at e; have := owns_block h.row k e2; omega), ?_⟩
    exact ⟨hgd.os.trans h.base.os, hgd.tape.trans h.base.tape, hgd.output.trans h.base.output, Nat.le_trans h.base.size hgd.size, fun k hk _ => by
      rw [hgd.block k (Nat.lt_of_lt_of_le hk h.base.size) (fun e => by simp only [Option.some.injEq] at e; omega)]; exact h.base.block k hk (by simp)⟩
  have HB9 := hide hb9
  clear hb9 hg9 ho9 hHeld hSt
  go_wp2_with fail
  exact HQ.out w9.drew _ HB9.out HF.out.1 HF.out.2.1 HF.out.2.2

set_option maxHeartbeats 2000000 in
set_option maxRecDepth 100000 in
theorem guTail {W w : World} {b n5 n2 L : Nat} {s : ByteArray} {l : List Nat} {bad : Bool} {tv : Value} {p : List (List Ins)} (HS : Hid (GuS W w b n5 n2 L s l bad tv (.slice none 0 0) (0, 0, 0) p [])) (hs : s.size ≤ 9223372036854775000)
    {Q : Exit → Act → World → Prop} {c0 c1 c3 c6 c7 c8 c9 c10 c11 c12 c13 c14 c15 c16 c17 c18 c19 c20 c21 c22 c23 c24 c25 c26 c27 c28 c29 c30 c31 c32 c33 c34 c35 c36 c37 c38 c39 c40 c41 c42 c43 c44 c45 c46 c47 c48 c49 c50 c51 c52 c53 c54 c55 c56 c57 c58 c59 c60 c61 c62 c63 c64 c65 c66 c67 c68 c69 c70 c71 c72 c73 c74 c75 c76 c77 c78 c79 c80 c81 c82 c83 c84 c85 c86 c87 c88 c89 c90 c91 c92 c93 c94 c95 c96 c97 c98 c99 c100 c101 c102 c103 c104 c105 c106 c107 c108 c109 c110 c111 c112 c113 c114 c115 c116 c117 c118 c119 c120 c121 c122 c123 c124 c125 c126 c127 c128 c129 c130 c131 c132 : Value} (HQP : Hid (∀ c a d v w, Q (.panic c) (Act.put a (some d) v) w → Q (.panic c) a w))
    (HQ : Hid (∀ {z0 z1 z4 z5 z6 z7 z8 z9 z10 z11 z12 z13 z14 z15 z16 z17 z18 z19 z20 z21 z22 z23 z24 z25 z26 z27 z28 z29 z30 z31 z32 z33 z34 z35 z36 z37 z38 z39 z40 z41 z42 z43 z44 z45 z46 z47 z48 z49 z50 z51 z52 z53 z54 z55 z56 z57 z58 z59 z60 z61 z62 z63 z64 z65 z66 z67 z68 z69 z70 z71 z72 z73 z74 z75 z76 z77 z78 z79 z80 z81 z82 z83 z84 z85 z86 z87 z88 z89 z90 z91 z92 z93 z94 z95 z96 z97 z98 z99 z100 z101 z102 z103 z104 z105 z106 z107 z108 z109 z110 z111 z112 z113 z114 z115 z116 z117 z118 z119 z120 z121 z122 z123 z124 z125 z126 z127 z128 z129 z130 z131 z132 : Value} (w' : World) (sv : Value), w'.heap[n2]? = some (.cells #[tv, sv, .int .i64 (schG l bad).2.1.1, .int .i64 (schG l bad).2.1.2.1, .int .i64 (schG l bad).2.1.2.2] 51 (0, 0)) → ThrAt L w'.heap.size w' tv p → w'.ownsRow L 3 1 sv (schG l bad).1.length (ints (schG l bad).1) → W.grownBy w' none → Q .ret ⟨#[z0, z1, .pointer (some ⟨n2, 0, none⟩), .bool (schG l bad).2.2, z4, z5, z6, z7, z8, z9, z10, z11, z12, z13, z14, z15, z16, z17, z18, z19, z20, z21, z22, z23, z24, z25, z26, z27, z28, z29, z30, z31, z32, z33, z34, z35, z36, z37, z38, z39, z40, z41, z42, z43, z44, z45, z46, z47, z48, z49, z50, z51, z52, z53, z54, z55, z56, z57, z58, z59, z60, z61, z62, z63, z64, z65, z66, z67, z68, z69, z70, z71, z72, z73, z74, z75, z76, z77, z78, z79, z80, z81, z82, z83, z84, z85, z86, z87, z88, z89, z90, z91, z92, z93, z94, z95, z96, z97, z98, z99, z100, z101, z102, z103, z104, z105, z106, z107, z108, z109, z110, z111, z112, z113, z114, z115, z116, z117, z118, z119, z120, z121, z122, z123, z124, z125, z126, z127, z128, z129, z130, z131, z132], []⟩ w')) :
    Code.wp Tryd.prog (tailOf Tryd.f85 20) Q ⟨#[c0, c1, .pointer (some ⟨n2, 0, none⟩), c3, .pointer (some ⟨b, 0, none⟩), .pointer (some ⟨n5, 0, none⟩), c6, c7, c8, c9, c10, c11, c12, c13, c14, c15, c16, c17, c18, c19, c20, c21, c22, c23, c24, c25, c26, c27, c28, c29, c30, c31, c32, c33, c34, c35, c36, c37, c38, c39, c40, c41, c42, c43, c44, c45, c46, c47, c48, c49, c50, c51, c52, c53, c54, c55, c56, c57, c58, c59, c60, c61, c62, c63, c64, c65, c66, c67, c68, c69, c70, c71, c72, c73, c74, c75, c76, c77, c78, c79, c80, c81, c82, c83, c84, c85, c86, c87, c88, c89, c90, c91, c92, c93, c94, c95, c96, c97, c98, c99, c100, c101, c102, c103, c104, c105, c106, c107, c108, c109, c110, c111, c112, c113, c114, c115, c116, c117, c118, c119, c120, c121, c122, c123, c124, c125, c126, c127, c128, c129, c130, c131, c132], []⟩ w := by
  conv => arg 2; whnf
  obtain ⟨i0, hi0, hz0, hz1, hz2⟩ := info_parts info_int
  have hpt : ∀ q, pt q = .pointer (some ⟨q, 0, none⟩) := fun _ => rfl
  have HK := hide (numG_m w b s l bad 500 (by omega) HS.out.rd hs)
  rw [hpt] at HK
  have hk5 := numG_le 500 l
  have HSG : Hid (schG l bad = (let s := runsG (numG 500 l).1 [] (numG 500 l).2.1 (bad || (numG 500 l).2.2); let a := numG 5 s.2.1; let b := numG 3 a.2.1; let c := numG 500 b.2.1; ((s.1, ((a.1 : Int), (b.1 : Int), (c.1 : Int)), !(s.2.2 || a.2.2 || b.2.2 || c.2.2)) : List Int × (Int × Int × Int) × Bool))) := rfl
  generalize schG l bad = SG at *
  generalize numG 500 l = x at *
  obtain ⟨k0, l0, b0⟩ := x
  simp only at hk5 HK HSG
  generalize hR : runsG k0 [] l0 (bad || b0) = R at *
  have HR := hide hR
  clear hR
  have qk0 : (k0 : Int) ≤ 500 := by omega
  go_wp2_with (go_at_call 120; refine HK.out.mono ?_; clear HK; rintro e w1 ⟨rfl, hr, hg⟩; have H1 := hide (HS.out.call hr hg); clear hr hg)
  go_loopw [11] (fun kv w' => ∃ (k : Nat) (sv : Value) (sc : List Int) (l' : List Nat) (bad' : Bool), k ≤ 500 ∧ kv = .int .i64 k ∧ Hid (sc.length ≤ 501) ∧ Hid (GuS W w' b n5 n2 L s l' bad' tv sv (0, 0, 0) p sc ∧ runsG k sc l' bad' = R)) (fun kv _ => (intOf kv).toNat)
  case atStart => exact ⟨k0, _, [], l0, bad || b0, hk5, rfl, hide (by simp), ⟨H1.out, HR.out⟩⟩
  case round =>
    clear H1 HR
    obtain ⟨k, sv, sc, l', bad', hk, rfl, HSC, HI⟩ := hrel
    obtain ⟨w2, hw2⟩ : ∃ w2, w2 = wr := ⟨_, rfl⟩
    rw [← hw2] at HI ⊢
    clear hw2
    have kb := HI.out.1.rd.bad
    by_cases hgo : 0 < k ∧ bad' = false
    · obtain ⟨hk0, rfl⟩ := hgo
      obtain ⟨k, rfl⟩ : ∃ j, k = j + 1 := ⟨k - 1, by omega⟩
      have t0 : (0 : Int) < ((k + 1 : Nat) : Int) := by omega
      have HT := hide (numG_m w2 b s l' false 63 (by omega) HI.out.1.rd hs)
      rw [hpt] at HT
      have ht6 := numG_le 63 l'
      have hn5 := numG_le 500 (numG 63 l').2.1
      have HRR : Hid (runsG (k + 1) sc l' false = runsG k (fillG (numG 500 (numG 63 l').2.1).1 (numG 63 l').1 sc) (numG 500 (numG 63 l').2.1).2.1 ((numG 63 l').2.2 || (numG 500 (numG 63 l').2.1).2.2)) := rfl
      generalize numG 63 l' = x at *
      obtain ⟨t, l1, b1⟩ := x
      simp only at ht6 hn5 HT HRR
      simp only [Bool.false_or] at HT
      have qt : (t : Int) ≤ 63 := by omega
      go_upto_region 24 with (go_at_call 120; refine HT.out.mono ?_; clear HT; rintro e w3 ⟨rfl, hr, hg⟩; have H3 := hide (HI.out.1.call hr hg); clear hr hg)
      have HN := hide (numG_m w3 b s l1 b1 500 (by omega) H3.out.rd hs)
      rw [hpt] at HN
      clear kb
      generalize numG 500 l1 = x at *
      obtain ⟨n, l2, b2⟩ := x
      simp only at hn5 HN HRR
      have qn : (n : Int) ≤ 500 := by omega
      go_wp2_with (go_at_call 120; refine HN.out.mono ?_; clear HN; rintro e w4 ⟨rfl, hr, hg⟩; have H4 := hide (H3.out.call hr hg); clear hr hg)
      go_loopw [13] (fun nv w' => ∃ (m : Nat) (sv' : Value) (sc' : List Int), m ≤ 500 ∧ nv = .int .i64 m ∧ Hid (sc'.length ≤ 501) ∧ Hid (GuS W w' b n5 n2 L s l2 (b1 || b2) tv sv' (0, 0, 0) p sc' ∧ fillG m t sc' = fillG n t sc)) (fun nv _ => (intOf nv).toNat)
      case atStart => exact ⟨n, sv, sc, hn5, rfl, HSC, ⟨H4.out, rfl⟩⟩
      case round =>
        clear H4 H3
        obtain ⟨m, sv', sc', hm, rfl, HSL, HJ⟩ := hrel
        obtain ⟨w5, hw5⟩ : ∃ w5, w5 = wr := ⟨_, rfl⟩
        rw [← hw5] at HJ ⊢
        clear hw5
        obtain ⟨_, a1, _, _, _, _⟩ := HJ.out.1.acell
        have hrow := HJ.out.1.row
        obtain ⟨y1, y2, y3, rfl⟩ := owns_form hrow
        have hy2 := owns_lenq hrow
        subst hy2
        have HRW := hide hrow
        clear hrow
        by_cases hgo : 0 < m ∧ sc'.length ≤ 500
        · obtain ⟨hm0, hl5⟩ := hgo
          obtain ⟨m, rfl⟩ : ∃ j, m = j + 1 := ⟨m - 1, by omega⟩
          have t1 : (0 : Int) < ((m + 1 : Nat) : Int) := by omega
          have t2 : (sc'.length : Int) ≤ 500 := by omega
          have HFL : Hid (fillG m t (sc' ++ [(t : Int)]) = fillG n t sc) := by
            have := HJ.out.2
            rw [fillG, if_pos hl5] at this
            exact this
          have HLN : Hid ((sc' ++ [(t : Int)]).length ≤ 501) := by unfold Hid; simp; omega
          have hbase : L ≤ w5.heap.size := by have := HJ.out.1.ord; have := HJ.out.1.lt; omega
          have h63 : sc'.length + 1 ≤ maxLen := by unfold maxLen; omega
          go_wp2_with (at_builtin; go_must (refine wpList_append_keeps rfl _ _ _ rfl L 3 i0 _ 1 8 Tryd.underlying22 hi0 hz0 hz1 hz2 rfl (by omega) (.slice y1 sc'.length y3) sc'.length (ints sc') rfl (owns_alloc HRW.out) ⟨w5.heap.size, 0, none⟩ 1 1 [.int .i64 (t : Int)] rfl rfl (World.news_of_block (cs := #[.int .i64 (t : Int)]) (t := 3) (fr := (0, 0)) (heap_alloc_new w5 _)) (by simp [Value.oneCell']) (by omega) h63 (by omega) (by simp; omega) (w5.heap.size + 1) (by simp) ?_); intro g8 cap8 w8 hown8 key8 hlt8; obtain ⟨⟨p6, p7⟩, hx8⟩ := HJ.out.1.push (t := (t : Int)) rfl hown8 key8; have HX8 := hide hx8; clear hx8 hown8 key8 hlt8)
          go_roundw
          case rel => exact ⟨m, _, sc' ++ [(t : Int)], by omega, by go_num, HLN, ⟨HX8.out, HFL.out⟩⟩
          case measure => simp [intOf] <;> omega
        · have HFE : Hid (runsG k sc' l2 (b1 || b2) = R) := by
            have h1 := HI.out.2
            have h2 := HJ.out.2
            rw [HRR.out] at h1
            have h3 : fillG m (t : Int) sc' = sc' := by
              by_cases e : sc'.length ≤ 500
              · have : m = 0 := by omega
                rw [this]; rfl
              · exact fillG_full _ _ _ e
            rw [h3] at h2
            rw [h2]; exact h1
          by_cases hm0 : 0 < m
          · have t1 : (0 : Int) < (m : Int) := by omega
            have t2 : (500 : Int) < (sc'.length : Int) := by omega
            go_wp2_with fail
            go_roundw
            case rel => exact ⟨k, _, sc', l2, b1 || b2, by omega, by go_num, HSL, ⟨HJ.out.1, HFE.out⟩⟩
            case measure => simp [intOf] <;> omega
          · have t1 : (m : Int) ≤ 0 := by omega
            go_wp2_with fail
            go_roundw
            case rel => exact ⟨k, _, sc', l2, b1 || b2, by omega, by go_num, HSL, ⟨HJ.out.1, HFE.out⟩⟩
            case measure => simp [intOf] <;> omega
    · have HRE : Hid (R = (sc, l', bad')) := by
        unfold Hid
        rw [← HI.out.2]
        by_cases e : k = 0
        · rw [e]; rfl
        · have : bad' = true := by
            cases bad' with
            | true => rfl
            | false => exact absurd ⟨by omega, rfl⟩ hgo
          rw [this]; exact runsG_bad _ _ _
      rw [HRE.out] at HSG
      simp only at HSG
      have HIE : Hid (GuS W w2 b n5 n2 L s l' bad' tv sv (0, 0, 0) p sc) := HI.out.1
      have hsg := HSG.out
      clear HSG
      subst hsg
      simp only at HQ
      clear HRE
      by_cases hk0 : 0 < k
      · have hbt : bad' = true := by
          cases bad' with
          | true => rfl
          | false => exact absurd ⟨hk0, rfl⟩ hgo
        subst hbt
        have t1 : (0 : Int) < (k : Int) := by omega
        go_upto_if 92 with fail
        refine wp_cond_false rfl ?_
        refine wp_exit ?_
        refine ‹∀ a w, Code.wp Tryd.prog _ _ a w → _› _ _ ?_
        exact guEnd HIE hs HQP HQ
      · have t1 : (k : Int) ≤ 0 := by omega
        go_upto_if 92 with fail
        refine wp_cond_false rfl ?_
        refine wp_exit ?_
        refine ‹∀ a w, Code.wp Tryd.prog _ _ a w → _› _ _ ?_
        exact guEnd HIE hs HQP HQ

end Go.Proofs.YtklenjmfalljgaaDoor

/- The reference's guess, while a thread is read: what lies where. -/
namespace Go.Proofs.YtklenjmfalljgaaDoor
open Go.RowKit

theorem ThrAt.upto {L B : Nat} {w w' : World} {tv : Value} {p : List (List Ins)} (h : ThrAt L B w tv p) (hb : ∀ k, L ≤ k → k < B → w'.heap[k]? = w.heap[k]?) : ThrAt L B w' tv p := by
  obtain ⟨rows, h1, h2, h3, h4⟩ := h
  refine ⟨rows, owns_same h1 (fun g e => hb g (owns_block h1 g e) (h2 g e)), h2, fun j hj => ?_, h4⟩
  obtain ⟨rv, e1, e2, e3⟩ := h3 j hj
  exact ⟨rv, e1, owns_same e2 (fun g e => hb g (owns_block e2 g e) (e3 g e)), e3⟩

/-- While a thread is read: its row lies behind B, the threads' before it. -/
structure GuB (W w : World) (b n5 n2 L B : Nat) (s : ByteArray) (l : List Nat) (bad : Bool) (tv : Value) (p : List (List Ins)) (lv : Value) (c : List Ins) : Prop where
  rd : RdG w b s l bad
  art : w.heap[n5]? = some (.cells #[tv, .slice none 0 0, .int .i64 0, .int .i64 0, .int .i64 0] 51 (0, 0))
  res : w.heap[n2]? = some (.cells #[.slice none 0 0, .slice none 0 0, .int .i64 0, .int .i64 0, .int .i64 0] 51 (0, 0))
  thr : ThrAt L B w tv p
  row : w.ownsRow B 28 4 lv c.length (insCells c)
  base : W.grownBy w none
  ord : W.heap.size ≤ n2 ∧ n2 < b ∧ b < n5 ∧ L = n5 + 1 ∧ L ≤ B ∧ B ≤ w.heap.size

section
variable {W w w' w6 : World} {b n5 n2 L B : Nat} {s : ByteArray} {l l' : List Nat} {bad bad' : Bool} {tv lv : Value} {p : List (List Ins)} {c : List Ins}

/-- All but one block (b, or one behind B that is not the row's) is as it was. -/
theorem GuB.step (h : GuB W w b n5 n2 L B s l bad tv p lv c) (hr : RdG w' b s l' bad') {q : Nat} (hg : w.grownBy w' (some q)) (hq : q = b ∨ (B ≤ q ∧ lv.ownBlock ≠ some q)) : GuB W w' b n5 n2 L B s l' bad' tv p lv c := by
  obtain ⟨o1, o2, o3, o4, o5, o6⟩ := h.ord
  have hn5 := (Array.getElem?_eq_some_iff.1 h.art).1
  have hn2 := (Array.getElem?_eq_some_iff.1 h.res).1
  have hlo : W.heap.size ≤ q := by rcases hq with e | e <;> omega
  refine ⟨hr, ?_, ?_, ?_, ?_, ?_, o1, o2, o3, o4, o5, Nat.le_trans o6 hg.size⟩
  · rw [hg.block n5 hn5 (by simp only [ne_eq, Option.some.injEq]; rcases hq with e | e <;> omega)]; exact h.art
  · rw [hg.block n2 hn2 (by simp only [ne_eq, Option.some.injEq]; rcases hq with e | e <;> omega)]; exact h.res
  · exact h.thr.upto (fun k h1 h2 => hg.block k (by omega) (by simp only [ne_eq, Option.some.injEq]; rcases hq with e | e <;> omega))
  · refine owns_same h.row (fun g e => hg.block g (owns_ltH h.row g e) ?_)
    simp only [ne_eq, Option.some.injEq]
    have := owns_block h.row g e
    rcases hq with e1 | e1
    · omega
    · intro e2; exact e1.2 (by rw [← e2]; exact e)
  · exact ⟨hg.os.trans h.base.os, hg.tape.trans h.base.tape, hg.output.trans h.base.output, Nat.le_trans h.base.size hg.size, fun k hk _ => by
      rw [hg.block k (Nat.lt_of_lt_of_le hk h.base.size) (fun e => by simp only [Option.some.injEq] at e; omega)]; exact h.base.block k hk (by simp)⟩
theorem GuB.call (h : GuB W w b n5 n2 L B s l bad tv p lv c) (hr : RdG w' b s l' bad') (hg : w.grownBy w' (some b)) : GuB W w' b n5 n2 L B s l' bad' tv p lv c := h.step hr hg (Or.inl rfl)
theorem GuB.made (h : GuB W w b n5 n2 L B s l bad tv p lv c) (o : Obj) : GuB W (w.alloc o) b n5 n2 L B s l bad tv p lv c := by
  obtain ⟨k, e, _⟩ := h.rd
  have hbl := (Array.getElem?_eq_some_iff.1 e).1
  exact h.call (h.rd.step (Below.heap_alloc _ _ _ hbl)) (grown_alloc (grown_refl _ _))
theorem GuB.put (h : GuB W w b n5 n2 L B s l bad tv p lv c) {n9 : Nat} (h9 : B ≤ n9) (hne : lv.ownBlock ≠ some n9) (j : Nat) (x : Value) : GuB W (w.setCell ⟨n9, j, none⟩ x) b n5 n2 L B s l bad tv p lv c := by
  obtain ⟨o1, o2, o3, o4, o5, o6⟩ := h.ord
  exact h.step (h.rd.step (Below.heap_setCell _ _ _ _ (by simp only; omega))) (grown_set1 w n9 j x) (Or.inr ⟨h9, hne⟩)
/-- The thread begins. -/
theorem GuS.begin (h : GuS W w b n5 n2 L s l bad tv (.slice none 0 0) (0, 0, 0) p []) : GuB W (w.alloc (.cells #[] 28)) b n5 n2 L w.heap.size s l bad tv p (.slice (some ⟨w.heap.size, 0, none⟩) 0 0) [] := by
  obtain ⟨o1, o2, o3, o4⟩ := h.ord
  obtain ⟨h1, h2, h3⟩ := h.lt
  refine ⟨h.rd.step (Below.heap_alloc _ _ _ h1), ?_, ?_, h.thr.upto (fun k _ hk => Below.heap_alloc _ _ _ hk), ⟨rfl, Or.inr ⟨w.heap.size, 0, #[], rfl, Nat.le_refl _, heap_alloc_new w _, Nat.le_refl _, by unfold maxLen; omega, rfl, rfl⟩⟩, grown_alloc h.base, o1, o2, o3, o4, by omega, by simp⟩
  · rw [Below.heap_alloc _ _ _ h2]; exact h.art
  · rw [Below.heap_alloc _ _ _ h3]; exact h.res
/-- l = append(l, i). -/
theorem GuB.push (h : GuB W w b n5 n2 L B s l bad tv p lv c) {i : Ins} {o : Obj} {g6 c6 N : Nat} (hN : N = c.length)
    (hown : w6.ownsRow B 28 4 (.slice (some ⟨g6, 0, none⟩) (N + 1) c6) (N + 1) (insCells c ++ [.int .i64 i.op, .int .i64 i.a, .int .i64 i.b, .int .i64 i.n]))
    (key : (lv.ownBlock = some g6 ∧ (w.alloc o).grownBy w6 (some g6)) ∨ (g6 = w.heap.size + 1 ∧ (w.alloc o).grownBy w6 none)) :
    GuB W w6 b n5 n2 L B s l bad tv p (.slice (some ⟨g6, 0, none⟩) (N + 1) c6) (c ++ [i]) := by
  subst hN
  obtain ⟨o1, o2, o3, o4, o5, o6⟩ := h.ord
  have hn5 := (Array.getElem?_eq_some_iff.1 h.art).1
  have hn2 := (Array.getElem?_eq_some_iff.1 h.res).1
  have hB6 : B ≤ g6 := owns_block hown g6 rfl
  have hgl : (w.alloc o).os = w.os ∧ (w.alloc o).tape = w.tape ∧ (w.alloc o).output = w.output := ⟨rfl, rfl, rfl⟩
  have hsz : w.heap.size ≤ w6.heap.size := by
    rcases key with ⟨_, hg⟩ | ⟨_, hg⟩ <;> (have := hg.size; simp at this; omega)
  have hold : ∀ k, k < w.heap.size → k < B → w6.heap[k]? = w.heap[k]? := fun k hk hne => by
    rcases key with ⟨_, hg⟩ | ⟨_, hg⟩
    · rw [hg.block k (by simp; omega) (by simp; omega), Below.heap_alloc _ _ _ hk]
    · rw [hg.block k (by simp; omega) (by simp), Below.heap_alloc _ _ _ hk]
  have hb6 : W.grownBy w6 none := by
    rcases key with ⟨_, hg⟩ | ⟨_, hg⟩ <;>
    exact ⟨hg.os.trans h.base.os, hg.tape.trans h.base.tape, hg.output.trans h.base.output, Nat.le_trans h.base.size hsz, fun k hk _ => by
        rw [hold k (Nat.lt_of_lt_of_le hk h.base.size) (by omega)]; exact h.base.block k hk (by simp)⟩
  refine ⟨h.rd.step (hold b (by omega) (by omega)), by rw [hold n5 hn5 (by omega)]; exact h.art, by rw [hold n2 hn2 (by omega)]; exact h.res, h.thr.upto (fun k _ hk => hold k (by omega) hk), ?_, hb6, o1, o2, o3, o4, o5, by omega⟩
  have e1 : (c ++ [i]).length = c.length + 1 := by simp
  have e2 : insCells (c ++ [i]) = insCells c ++ [.int .i64 i.op, .int .i64 i.a, .int .i64 i.b, .int .i64 i.n] := by rw [insCells_snoc]; rfl
  rw [e1, e2]; exact hown
/-- a.Program.Threads = append(a.Program.Threads, l). -/
theorem GuB.pushT (h : GuB W w b n5 n2 L B s l bad tv p lv c) {o : Obj} {rows : List Value} {g6 c6 N : Nat} (hN : N = p.length) (hrows : w.ownsRow L 29 1 tv N rows)
    (hown : w6.ownsRow L 29 1 (.slice (some ⟨g6, 0, none⟩) (N + 1) c6) (N + 1) (rows ++ [lv]))
    (key : (tv.ownBlock = some g6 ∧ (w.alloc o).grownBy w6 (some g6)) ∨ (g6 = w.heap.size + 1 ∧ (w.alloc o).grownBy w6 none)) :
    (w6.cell? ⟨n5, 0, none⟩ = some tv ∧ w6.frozen? ⟨n5, 0, none⟩ = false) ∧ GuS W (w6.setCell ⟨n5, 0, none⟩ (.slice (some ⟨g6, 0, none⟩) (N + 1) c6)) b n5 n2 L s l bad (.slice (some ⟨g6, 0, none⟩) (N + 1) c6) (.slice none 0 0) (0, 0, 0) (p ++ [c]) [] := by
  subst hN
  obtain ⟨o1, o2, o3, o4, o5, o6⟩ := h.ord
  have hn5 := (Array.getElem?_eq_some_iff.1 h.art).1
  have hn2 := (Array.getElem?_eq_some_iff.1 h.res).1
  have hL6 : L ≤ g6 := owns_block hown g6 rfl
  have hsz : w.heap.size ≤ w6.heap.size := by
    rcases key with ⟨_, hg⟩ | ⟨_, hg⟩ <;> (have := hg.size; simp at this; omega)
  have hold : ∀ k, k < w.heap.size → k < L → w6.heap[k]? = w.heap[k]? := fun k hk hne => by
    rcases key with ⟨_, hg⟩ | ⟨_, hg⟩
    · rw [hg.block k (by simp; omega) (by simp; omega), Below.heap_alloc _ _ _ hk]
    · rw [hg.block k (by simp; omega) (by simp), Below.heap_alloc _ _ _ hk]
  have hb6 : W.grownBy w6 none := by
    rcases key with ⟨_, hg⟩ | ⟨_, hg⟩ <;>
    exact ⟨hg.os.trans h.base.os, hg.tape.trans h.base.tape, hg.output.trans h.base.output, Nat.le_trans h.base.size hsz, fun k hk _ => by
        rw [hold k (Nat.lt_of_lt_of_le hk h.base.size) (by omega)]; exact h.base.block k hk (by simp)⟩
  have hg2 : (w.alloc o).grownBy w6 tv.ownBlock := by
    rcases key with ⟨e, hg⟩ | ⟨_, hg⟩
    · rw [e]; exact hg
    · exact ⟨hg.os, hg.tape, hg.output, hg.size, fun k hk _ => hg.block k hk (by simp)⟩
  have hthr : ThrAt L w6.heap.size w6 (.slice (some ⟨g6, 0, none⟩) (p.length + 1) c6) (p ++ [c]) :=
    ThrAt.snoc h.thr o6 (fun q e => owns_block h.row q e) hrows ⟨owns_mono h.row o5, fun q e => owns_ltH h.row q e⟩ (grown_alloc (grown_refl _ _)) hg2 hown hsz (fun q e => owns_ltH hown q e)
  have hart : w6.heap[n5]? = some (.cells #[tv, .slice none 0 0, .int .i64 0, .int .i64 0, .int .i64 0] 51 (0, 0)) := by rw [hold n5 hn5 (by omega)]; exact h.art
  have hset := grown_set1 w6 n5 0 (.slice (some ⟨g6, 0, none⟩) (p.length + 1) c6)
  refine ⟨⟨by simp [World.cell?, hart], by simp [World.frozen?, hart]⟩, ⟨?_, ?_, ?_, ?_, ⟨rfl, Or.inl ⟨rfl, rfl⟩⟩, grown_setNew hb6 (by omega), o1, o2, o3, o4⟩⟩
  · exact (h.rd.step (hold b (by omega) (by omega))).step (Below.heap_setCell _ _ _ _ (by simp only; omega))
  · rw [heap_setCell_same w6 n5 0 _ _ _ hart]; rfl
  · rw [Below.heap_setCell _ _ _ _ (by simp only; omega), hold n2 hn2 (by omega)]; exact h.res
  · exact (hthr.step hset (fun q e => by simp only [Option.some.injEq] at e; omega)).mono hset.size
end

end Go.Proofs.YtklenjmfalljgaaDoor

/- The reference's guess, whole. -/
namespace Go.Proofs.YtklenjmfalljgaaDoor
open Go.RowKit
attribute [local go_sem] Go.World.cell?_alloc_some

theorem info_rw : ((Tryd.prog.info? 29).map fun i => (i.zero, i.size, i.bytes)) = some (some (.slice none 0 0), 1, 24) := by kernel_rfl
theorem progG_bad (k : Nat) (p : List (List Ins)) (l : List Nat) : progG k p l true = (p, l, true) := by cases k <;> rfl
theorem codeG_bad (k : Nat) (c : List Ins) (l : List Nat) : codeG k c l true = (c, l, true) := by cases k <;> rfl
theorem four_of {w : World} {g : Nat} {x0 x1 x2 x3 : Value} {t : TypeId} (h : w.heap[g]? = some (.cells #[x0, x1, x2, x3] t (0, 0))) : w.cell? ⟨g, 0, none⟩ = some x0 ∧ w.cell? ⟨g, 1, none⟩ = some x1 ∧ w.cell? ⟨g, 2, none⟩ = some x2 ∧ w.cell? ⟨g, 3, none⟩ = some x3 ∧ ∀ o, w.frozen? ⟨g, o, none⟩ = false := by
  simp [World.cell?, World.frozen?, h]

set_option maxHeartbeats 4000000 in
set_option maxRecDepth 100000 in
theorem guess_m (s : ByteArray) (w : World) (hs : s.size ≤ 9223372036854775000) :
    Calls Tryd.prog 85 #[.string s] w fun e w' => ∃ tv sv, e = .returned (.tuple #[.agg #[tv, sv, .int .i64 (guessG (byt s)).1.ver.1, .int .i64 (guessG (byt s)).1.ver.2.1, .int .i64 (guessG (byt s)).1.ver.2.2], .bool (guessG (byt s)).2]) ∧ w.grownBy w' none ∧ ThrAt w.heap.size w'.heap.size w' tv (guessG (byt s)).1.prog ∧ w'.ownsRow w.heap.size 3 1 sv (guessG (byt s)).1.sch.length (ints (guessG (byt s)).1.sch) := by
  obtain ⟨i0, hi0, hz0, hz1, hz2⟩ := info_parts info_ins
  obtain ⟨i1, hi1, hy0, hy1, hy2⟩ := info_parts info_rw
  have hpt : ∀ q, pt q = .pointer (some ⟨q, 0, none⟩) := fun _ => rfl
  have HGG : Hid (guessG (byt s) = (⟨(progG (numG 4 ((byt s).drop 3)).1 [] (numG 4 ((byt s).drop 3)).2.1 (numG 4 ((byt s).drop 3)).2.2).1, (schG (progG (numG 4 ((byt s).drop 3)).1 [] (numG 4 ((byt s).drop 3)).2.1 (numG 4 ((byt s).drop 3)).2.2).2.1 (progG (numG 4 ((byt s).drop 3)).1 [] (numG 4 ((byt s).drop 3)).2.1 (numG 4 ((byt s).drop 3)).2.2).2.2).1, (schG (progG (numG 4 ((byt s).drop 3)).1 [] (numG 4 ((byt s).drop 3)).2.1 (numG 4 ((byt s).drop 3)).2.2).2.1 (progG (numG 4 ((byt s).drop 3)).1 [] (numG 4 ((byt s).drop 3)).2.1 (numG 4 ((byt s).drop 3)).2.2).2.2).2.1⟩, (schG (progG (numG 4 ((byt s).drop 3)).1 [] (numG 4 ((byt s).drop 3)).2.1 (numG 4 ((byt s).drop 3)).2.2).2.1 (progG (numG 4 ((byt s).drop 3)).1 [] (numG 4 ((byt s).drop 3)).2.1 (numG 4 ((byt s).drop 3)).2.2).2.2).2.2)) := rfl
  generalize guessG (byt s) = GG at *
  obtain ⟨l0, hl0⟩ : ∃ l, l = (byt s).drop 3 := ⟨_, rfl⟩
  rw [← hl0] at HGG
  go_enter Tryd.func85, Tryd.ntmps85
  go_upto_region 3 with fail
  obtain ⟨w1, hw1⟩ : ∃ w1, w1 = ((w.alloc (.cells #[.slice none 0 0, .slice none 0 0, .int .i64 0, .int .i64 0, .int .i64 0] 51)).alloc (.cells #[.string s, .int .i64 3, .bool false] 204)).alloc (.cells #[.slice none 0 0, .slice none 0 0, .int .i64 0, .int .i64 0, .int .i64 0] 51) := ⟨_, rfl⟩
  rw [← hw1]
  have HS : Hid (GuS w w1 (w.heap.size + 1) (w.heap.size + 1 + 1) w.heap.size (w.heap.size + 1 + 1 + 1) s l0 false (.slice none 0 0) (.slice none 0 0) (0, 0, 0) [] []) := by
    unfold Hid
    rw [hw1]
    have e0 := heap_alloc_new w (.cells #[.slice none 0 0, .slice none 0 0, .int .i64 0, .int .i64 0, .int .i64 0] 51)
    have e1 := heap_alloc_new (w.alloc (.cells #[.slice none 0 0, .slice none 0 0, .int .i64 0, .int .i64 0, .int .i64 0] 51)) (.cells #[.string s, .int .i64 3, .bool false] 204)
    have e2 := heap_alloc_new ((w.alloc (.cells #[.slice none 0 0, .slice none 0 0, .int .i64 0, .int .i64 0, .int .i64 0] 51)).alloc (.cells #[.string s, .int .i64 3, .bool false] 204)) (.cells #[.slice none 0 0, .slice none 0 0, .int .i64 0, .int .i64 0, .int .i64 0] 51)
    simp only [World.size_alloc] at e1 e2
    refine ⟨⟨3, ?_, hl0, by omega⟩, e2, ?_, ⟨[], ⟨rfl, Or.inl ⟨rfl, rfl⟩⟩, fun h e => (by cases e), fun j hj => absurd hj (Nat.not_lt_zero j), Apt.nil⟩, ⟨rfl, Or.inl ⟨rfl, rfl⟩⟩, grown_alloc (grown_alloc (grown_alloc (grown_refl _ _))), by omega, by omega, by omega, by omega⟩
    · rw [Below.heap_alloc _ _ _ (by simp)]; exact e1
    · rw [Below.heap_alloc _ _ _ (by simp; omega), Below.heap_alloc _ _ _ (by simp)]; exact e0
  clear hw1 hl0
  have HLW : Hid (w.heap.size ≤ w.heap.size + 1 + 1 + 1) := by unfold Hid; omega
  generalize hb : w.heap.size + 1 = b at *
  generalize hn5 : b + 1 = n5 at *
  generalize hL : n5 + 1 = L at *
  generalize hn2 : w.heap.size = n2 at *
  have HN2 := hide hn2
  clear hb hn5 hL hn2
  have HK := hide (numG_m w1 b s l0 false 4 (by omega) HS.out.rd hs)
  rw [hpt] at HK
  have hk4 := numG_le 4 l0
  generalize numG 4 l0 = x at *
  obtain ⟨k0, l1, b1⟩ := x
  simp only [Bool.false_or] at hk4 HK HGG
  generalize hP : progG k0 [] l1 b1 = PP at *
  have HP := hide hP
  clear hP
  have qk0 : (k0 : Int) ≤ 4 := by omega
  go_wp2_with (go_at_call 120; refine HK.out.mono ?_; clear HK; rintro e w2 ⟨rfl, hr, hg⟩; have H1 := hide (HS.out.call hr hg); clear hr hg)
  go_loopw [6] (fun kv w' => ∃ (k : Nat) (tv : Value) (p : List (List Ins)) (l' : List Nat) (bad' : Bool), k ≤ 4 ∧ kv = .int .i64 k ∧ Hid (p.length + k ≤ 4) ∧ Hid (GuS w w' b n5 n2 L s l' bad' tv (.slice none 0 0) (0, 0, 0) p [] ∧ progG k p l' bad' = PP)) (fun kv _ => (intOf kv).toNat)
  case atStart => exact ⟨k0, _, [], l1, b1, hk4, rfl, hide (by simpa using hk4), ⟨H1.out, HP.out⟩⟩
  case round =>
    clear H1 HP HS
    obtain ⟨k, tv, p, l', bad', hk, rfl, HPL, HI⟩ := hrel
    obtain ⟨w3, hw3⟩ : ∃ w3, w3 = wr := ⟨_, rfl⟩
    rw [← hw3] at HI ⊢
    clear hw3
    have kb := HI.out.1.rd.bad
    by_cases hgo : 0 < k ∧ bad' = false
    · obtain ⟨hk0, rfl⟩ := hgo
      obtain ⟨k, rfl⟩ : ∃ j, k = j + 1 := ⟨k - 1, by omega⟩
      have t0 : (0 : Int) < ((k + 1 : Nat) : Int) := by omega
      have HB0 := hide HI.out.1.begin
      have HRR : Hid (progG (k + 1) p l' false = progG k (p ++ [(codeG (numG 16 l').1 [] (numG 16 l').2.1 (numG 16 l').2.2).1]) (codeG (numG 16 l').1 [] (numG 16 l').2.1 (numG 16 l').2.2).2.1 (codeG (numG 16 l').1 [] (numG 16 l').2.1 (numG 16 l').2.2).2.2) := rfl
      go_upto_region 7 with fail
      obtain ⟨w4, hw4⟩ : ∃ w4, w4 = w3.alloc (.cells #[] 28) := ⟨_, rfl⟩
      rw [← hw4] at HB0 ⊢
      clear hw4 kb
      generalize hB : w3.heap.size = B at *
      clear hB
      have HN := hide (numG_m w4 b s l' false 16 (by omega) HB0.out.rd hs)
      rw [hpt] at HN
      have hn16 := numG_le 16 l'
      generalize numG 16 l' = x at *
      obtain ⟨n, l2, b2⟩ := x
      simp only [Bool.false_or] at hn16 HN HRR
      generalize hC : codeG n [] l2 b2 = CC at *
      have HC := hide hC
      clear hC
      have qn : (n : Int) ≤ 16 := by omega
      go_wp2_with (go_at_call 120; refine HN.out.mono ?_; clear HN; rintro e w5 ⟨rfl, hr, hg⟩; have H5 := hide (HB0.out.call hr hg); clear hr hg)
      go_loopw [7, 8] (fun lv mv w' => ∃ (m : Nat) (c : List Ins) (l3 : List Nat) (bd : Bool), m ≤ 16 ∧ mv = .int .i64 m ∧ Hid (c.length + m ≤ 16) ∧ Hid (GuB w w' b n5 n2 L B s l3 bd tv p lv c ∧ codeG m c l3 bd = CC)) (fun _ mv _ => (intOf mv).toNat)
      case atStart => exact ⟨n, [], l2, b2, hn16, rfl, hide (by simpa using hn16), ⟨H5.out, HC.out⟩⟩
      case round =>
        clear H5 HC HB0
        obtain ⟨m, c, l3, bd, hm, rfl, HCL, HJ⟩ := hrel
        obtain ⟨w6, hw6⟩ : ∃ w6, w6 = wr := ⟨_, rfl⟩
        rw [← hw6] at HJ ⊢
        clear hw6
        have kb := HJ.out.1.rd.bad
        have hrow := HJ.out.1.row
        obtain ⟨y1, y2, y3, rfl⟩ := owns_form hrow
        have hy2 := owns_lenq hrow
        subst hy2
        by_cases hgo2 : 0 < m ∧ bd = false
        · obtain ⟨hm0, rfl⟩ := hgo2
          obtain ⟨m, rfl⟩ : ∃ j, m = j + 1 := ⟨m - 1, by omega⟩
          have t1 : (0 : Int) < ((m + 1 : Nat) : Int) := by omega
          have HRC : Hid (codeG (m + 1) c l3 false = codeG m (c ++ [(insG l3).1]) (insG l3).2.1 (insG l3).2.2) := rfl
          have HIG : Hid (insG l3 = (⟨((numG 11 l3).1 : Nat), ((numG 3 (numG 11 l3).2.1).1 : Nat), ((numG 3 (numG 3 (numG 11 l3).2.1).2.1).1 : Nat), zag (bigG 10 1 0 (numG 3 (numG 3 (numG 11 l3).2.1).2.1).2.1).1⟩, (bigG 10 1 0 (numG 3 (numG 3 (numG 11 l3).2.1).2.1).2.1).2.1, (numG 11 l3).2.2 || (numG 3 (numG 11 l3).2.1).2.2 || (numG 3 (numG 3 (numG 11 l3).2.1).2.1).2.2 || (bigG 10 1 0 (numG 3 (numG 3 (numG 11 l3).2.1).2.1).2.1).2.2)) := rfl
          go_upto_region 11 with fail
          obtain ⟨w7, hw7⟩ : ∃ w7, w7 = w6.alloc (.cells #[.int .i64 0, .int .i64 0, .int .i64 0, .int .i64 0] 28) := ⟨_, rfl⟩
          have HS0 : Hid (GuB w w7 b n5 n2 L B s l3 false tv p (.slice y1 c.length y3) c) := by unfold Hid; rw [hw7]; exact HJ.out.1.made _
          have HI0 : Hid (w7.heap[w6.heap.size]? = some (.cells #[.int .i64 0, .int .i64 0, .int .i64 0, .int .i64 0] 28 (0, 0))) := by unfold Hid; rw [hw7]; exact heap_alloc_new w6 _
          have h9 : B ≤ w6.heap.size := HJ.out.1.ord.2.2.2.2.2
          have hne : (Value.slice y1 c.length y3).ownBlock ≠ some w6.heap.size := fun e => by have := owns_ltH hrow _ e; omega
          have h9b : w6.heap.size ≠ b := by have := HJ.out.1.ord; omega
          rw [← hw7]
          clear hw7 hrow kb
          generalize w6.heap.size = n9 at *
          have HN1 := hide (numG_m w7 b s l3 false 11 (by omega) HS0.out.rd hs)
          rw [hpt] at HN1
          have qn1 := numG_le 11 l3
          generalize numG 11 l3 = x at *
          obtain ⟨xo, l4, bo⟩ := x
          simp only [Bool.false_or] at HN1 HIG qn1
          have qv1 : (xo : Int) ≤ 11 := by omega
          go_upto_region 12 with (go_at_call 120; refine HN1.out.mono ?_; clear HN1; rintro e v1 ⟨rfl, hr, hg⟩; have hc := HS0.out.call hr hg; have hi : v1.heap[n9]? = some (.cells #[.int .i64 0, .int .i64 0, .int .i64 0, .int .i64 0] 28 (0, 0)) := (by rw [hg.block n9 (Array.getElem?_eq_some_iff.1 HI0.out).1 (by simp only [ne_eq, Option.some.injEq]; exact h9b)]; exact HI0.out); have p6 := (four_of hi).1; have p7 := (four_of hi).2.2.2.2 0; have HC1 := hide hc; have HD1 := hide hi; clear hr hg hc hi)
          have hst := HC1.out.put h9 hne 0 (.int .i64 (xo : Int))
          have hsi := heap_setCell_same v1 n9 0 _ _ (.int .i64 (xo : Int)) HD1.out
          generalize v1.setCell ⟨n9, 0, none⟩ (.int .i64 (xo : Int)) = x1 at *
          have HS1 := hide hst
          have HI1 : Hid (x1.heap[n9]? = some (.cells #[.int .i64 (xo : Int), .int .i64 0, .int .i64 0, .int .i64 0] 28 (0, 0))) := hsi
          clear hst hsi p6 p7 HC1 HD1
          have HN2 := hide (numG_m x1 b s l4 bo 3 (by omega) HS1.out.rd hs)
          rw [hpt] at HN2
          have qn2 := numG_le 3 l4
          generalize numG 3 l4 = x at *
          obtain ⟨xa, l5, ba⟩ := x
          simp only at HN2 HIG qn2
          have qv2 : (xa : Int) ≤ 3 := by omega
          go_upto_region 13 with (go_at_call 120; refine HN2.out.mono ?_; clear HN2; rintro e v2 ⟨rfl, hr, hg⟩; have hc := HS1.out.call hr hg; have hi : v2.heap[n9]? = some (.cells #[.int .i64 (xo : Int), .int .i64 0, .int .i64 0, .int .i64 0] 28 (0, 0)) := (by rw [hg.block n9 (Array.getElem?_eq_some_iff.1 HI1.out).1 (by simp only [ne_eq, Option.some.injEq]; exact h9b)]; exact HI1.out); have p6 := (four_of hi).2.1; have p7 := (four_of hi).2.2.2.2 1; have HC2 := hide hc; have HD2 := hide hi; clear hr hg hc hi)
          have hst := HC2.out.put h9 hne 1 (.int .i64 (xa : Int))
          have hsi := heap_setCell_same v2 n9 1 _ _ (.int .i64 (xa : Int)) HD2.out
          generalize v2.setCell ⟨n9, 1, none⟩ (.int .i64 (xa : Int)) = x2 at *
          have HS2 := hide hst
          have HI2 : Hid (x2.heap[n9]? = some (.cells #[.int .i64 (xo : Int), .int .i64 (xa : Int), .int .i64 0, .int .i64 0] 28 (0, 0))) := hsi
          clear hst hsi p6 p7 HC2 HD2
          have HN3 := hide (numG_m x2 b s l5 (bo || ba) 3 (by omega) HS2.out.rd hs)
          rw [hpt] at HN3
          have qn3 := numG_le 3 l5
          generalize numG 3 l5 = x at *
          obtain ⟨xb, l6, bb⟩ := x
          simp only at HN3 HIG qn3
          have qv3 : (xb : Int) ≤ 3 := by omega
          go_upto_region 14 with (go_at_call 120; refine HN3.out.mono ?_; clear HN3; rintro e v3 ⟨rfl, hr, hg⟩; have hc := HS2.out.call hr hg; have hi : v3.heap[n9]? = some (.cells #[.int .i64 (xo : Int), .int .i64 (xa : Int), .int .i64 0, .int .i64 0] 28 (0, 0)) := (by rw [hg.block n9 (Array.getElem?_eq_some_iff.1 HI2.out).1 (by simp only [ne_eq, Option.some.injEq]; exact h9b)]; exact HI2.out); have p6 := (four_of hi).2.2.1; have p7 := (four_of hi).2.2.2.2 2; have HC3 := hide hc; have HD3 := hide hi; clear hr hg hc hi)
          have hst := HC3.out.put h9 hne 2 (.int .i64 (xb : Int))
          have hsi := heap_setCell_same v3 n9 2 _ _ (.int .i64 (xb : Int)) HD3.out
          generalize v3.setCell ⟨n9, 2, none⟩ (.int .i64 (xb : Int)) = x3 at *
          have HS3 := hide hst
          have HI3 : Hid (x3.heap[n9]? = some (.cells #[.int .i64 (xo : Int), .int .i64 (xa : Int), .int .i64 (xb : Int), .int .i64 0] 28 (0, 0))) := hsi
          clear hst hsi p6 p7 HC3 HD3
          have HN4 := hide (big_m x3 b s l6 (bo || ba || bb) HS3.out.rd hs)
          rw [hpt] at HN4
          have hbl := bigG_lt 10 1 0 l6
          generalize bigG 10 1 0 l6 = x at *
          obtain ⟨xn, l7, bn⟩ := x
          simp only at HN4 HIG hbl
          have qn64 : (xn : Int) < 18446744073709551616 := by omega
          go_upto_region 15 with (go_at_call 121; refine HN4.out.mono ?_; clear HN4; rintro e v4 ⟨rfl, hr, hg⟩; have hc := HS3.out.call hr hg; have hi : v4.heap[n9]? = some (.cells #[.int .i64 (xo : Int), .int .i64 (xa : Int), .int .i64 (xb : Int), .int .i64 0] 28 (0, 0)) := (by rw [hg.block n9 (Array.getElem?_eq_some_iff.1 HI3.out).1 (by simp only [ne_eq, Option.some.injEq]; exact h9b)]; exact HI3.out); have HC4 := hide hc; have HD4 := hide hi; clear hr hg hc hi)
          obtain ⟨_, _, _, p6, p4⟩ := four_of HD4.out
          have p7 := p4 3
          clear p4
          go_upto_region 16 with fail
          have hst := HC4.out.put h9 hne 3 (.int .i64 ((xn : Int) / 2))
          have hsi := heap_setCell_same v4 n9 3 _ _ (.int .i64 ((xn : Int) / 2)) HD4.out
          generalize v4.setCell ⟨n9, 3, none⟩ (.int .i64 ((xn : Int) / 2)) = x4 at *
          have HS4 := hide hst
          have HI4 : Hid (x4.heap[n9]? = some (.cells #[.int .i64 (xo : Int), .int .i64 (xa : Int), .int .i64 (xb : Int), .int .i64 ((xn : Int) / 2)] 28 (0, 0))) := hsi
          clear hst hsi p6 p7 HC4 HD4
          by_cases ho : xn % 2 = 1
          · have hl : Int.tmod (xn : Int) 2 = 1 := by rw [Int.tmod_eq_emod_of_nonneg (by omega)]; omega
            have hl2 : (xn : Int) % 2 = 1 := by omega
            have HZG : Hid (zag xn = -((xn : Int) / 2) - 1) := by unfold Hid zag; rw [if_pos ho]; omega
            clear ho
            obtain ⟨_, _, _, p6, p4⟩ := four_of HI4.out
            have p7 := p4 3
            clear p4
            go_upto_region 18 with fail
            have hst := HS4.out.put h9 hne 3 (.int .i64 (-((xn : Int) / 2) - 1))
            have hsi := heap_setCell_same x4 n9 3 _ _ (.int .i64 (-((xn : Int) / 2) - 1)) HI4.out
            generalize x4.setCell ⟨n9, 3, none⟩ (.int .i64 (-((xn : Int) / 2) - 1)) = x5 at *
            have HS5 := hide hst
            have HI5 : Hid (x5.heap[n9]? = some (.cells #[.int .i64 (xo : Int), .int .i64 (xa : Int), .int .i64 (xb : Int), .int .i64 (-((xn : Int) / 2) - 1)] 28 (0, 0))) := hsi
            clear hst hsi p6 p7
            obtain ⟨r0, r1, r2, r3, _⟩ := four_of HI5.out
            have HRW := hide HS5.out.row
            have hbase : B ≤ x5.heap.size := HS5.out.ord.2.2.2.2.2
            have hcl : c.length ≤ 15 := by have := HCL.out; omega
            have h63 : c.length + 1 ≤ maxLen := by unfold maxLen; omega
            have HCC : Hid (codeG m (c ++ [⟨(xo : Int), (xa : Int), (xb : Int), -((xn : Int) / 2) - 1⟩]) l7 (bo || ba || bb || bn) = CC) := by
              have h1 := HJ.out.2
              rw [HRC.out, HIG.out, HZG.out] at h1
              exact h1
            go_wp2_with (at_builtin; go_must (refine wpList_append_keeps rfl _ _ _ rfl B 28 i0 _ 4 32 Tryd.underlying29 hi0 hz0 hz1 hz2 rfl (by omega) (.slice y1 c.length y3) c.length (insCells c) rfl (owns_alloc HRW.out) ⟨x5.heap.size, 0, none⟩ 1 1 [.int .i64 (xo : Int), .int .i64 (xa : Int), .int .i64 (xb : Int), .int .i64 (-((xn : Int) / 2) - 1)] rfl rfl (World.news_of_block (cs := #[.int .i64 (xo : Int), .int .i64 (xa : Int), .int .i64 (xb : Int), .int .i64 (-((xn : Int) / 2) - 1)]) (t := 28) (fr := (0, 0)) (heap_alloc_new x5 _)) (by simp [Value.oneCell']) (by omega) h63 (by omega) (by simp; omega) (x5.heap.size + 1) (by simp) ?_); intro g8 cap8 w10 hown8 key8 hlt8; have HX8 := hide (HS5.out.push (i := ⟨(xo : Int), (xa : Int), (xb : Int), -((xn : Int) / 2) - 1⟩) rfl hown8 key8); clear hown8 key8 hlt8)
            go_roundw
            case rel => exact ⟨m, _, l7, _, by omega, by go_num, hide (by have := HCL.out; simp; omega), ⟨HX8.out, HCC.out⟩⟩
            case measure => simp [intOf] <;> omega
          · have hl : Int.tmod (xn : Int) 2 = 0 := by rw [Int.tmod_eq_emod_of_nonneg (by omega)]; omega
            have hl2 : (xn : Int) % 2 = 0 := by omega
            have HZG : Hid (zag xn = (xn : Int) / 2) := by unfold Hid zag; rw [if_neg ho]; omega
            clear ho
            go_upto_region 18 with fail
            obtain ⟨r0, r1, r2, r3, _⟩ := four_of HI4.out
            have HRW := hide HS4.out.row
            have hbase : B ≤ x4.heap.size := HS4.out.ord.2.2.2.2.2
            have hcl : c.length ≤ 15 := by have := HCL.out; omega
            have h63 : c.length + 1 ≤ maxLen := by unfold maxLen; omega
            have HCC : Hid (codeG m (c ++ [⟨(xo : Int), (xa : Int), (xb : Int), (xn : Int) / 2⟩]) l7 (bo || ba || bb || bn) = CC) := by
              have h1 := HJ.out.2
              rw [HRC.out, HIG.out, HZG.out] at h1
              exact h1
            go_wp2_with (at_builtin; go_must (refine wpList_append_keeps rfl _ _ _ rfl B 28 i0 _ 4 32 Tryd.underlying29 hi0 hz0 hz1 hz2 rfl (by omega) (.slice y1 c.length y3) c.length (insCells c) rfl (owns_alloc HRW.out) ⟨x4.heap.size, 0, none⟩ 1 1 [.int .i64 (xo : Int), .int .i64 (xa : Int), .int .i64 (xb : Int), .int .i64 ((xn : Int) / 2)] rfl rfl (World.news_of_block (cs := #[.int .i64 (xo : Int), .int .i64 (xa : Int), .int .i64 (xb : Int), .int .i64 ((xn : Int) / 2)]) (t := 28) (fr := (0, 0)) (heap_alloc_new x4 _)) (by simp [Value.oneCell']) (by omega) h63 (by omega) (by simp; omega) (x4.heap.size + 1) (by simp) ?_); intro g8 cap8 w10 hown8 key8 hlt8; have HX8 := hide (HS4.out.push (i := ⟨(xo : Int), (xa : Int), (xb : Int), (xn : Int) / 2⟩) rfl hown8 key8); clear hown8 key8 hlt8)
            go_roundw
            case rel => exact ⟨m, _, l7, _, by omega, by go_num, hide (by have := HCL.out; simp; omega), ⟨HX8.out, HCC.out⟩⟩
            case measure => simp [intOf] <;> omega
        · have HCE : Hid (CC = (c, l3, bd)) := by
            unfold Hid
            rw [← HJ.out.2]
            by_cases e : m = 0
            · rw [e]; rfl
            · have : bd = true := by
                cases bd with
                | true => rfl
                | false => exact absurd ⟨by omega, rfl⟩ hgo2
              rw [this]; exact codeG_bad _ _ _
          have HPP : Hid (progG k (p ++ [c]) l3 bd = PP) := by
            have h1 := HI.out.2
            rw [HRR.out, HCE.out] at h1
            exact h1
          have HPL2 : Hid ((p ++ [c]).length + k ≤ 4) := by have := HPL.out; unfold Hid; simp; omega
          obtain ⟨rows, hr1, hr2, hr3⟩ := HJ.out.1.thr
          obtain ⟨q1, q2, q3, rfl⟩ := owns_form hr1
          have hq2 := owns_lenq hr1
          subst hq2
          have HRWS := hide hr1
          have a0 : w6.cell? ⟨n5, 0, none⟩ = some (.slice q1 p.length q3) := by simp [World.cell?, HJ.out.1.art]
          have hbase : L ≤ w6.heap.size := by have := HJ.out.1.ord; omega
          have hp4 : p.length ≤ 4 := by have := HPL.out; omega
          have h63 : p.length + 1 ≤ maxLen := by unfold maxLen; omega
          clear hrow hr1 hr2 hr3
          by_cases hm0 : 0 < m
          · have hbt : bd = true := by
              cases bd with
              | true => rfl
              | false => exact absurd ⟨hm0, rfl⟩ hgo2
            subst hbt
            have t1 : (0 : Int) < (m : Int) := by omega
            go_wp2_with (at_builtin; go_must (refine wpList_append_keeps rfl _ _ _ rfl L 29 i1 _ 1 24 Tryd.underlying23 hi1 hy0 hy1 hy2 rfl (by omega) (.slice q1 p.length q3) p.length rows rfl (owns_alloc HRWS.out) ⟨w6.heap.size, 0, none⟩ 1 1 [.slice y1 c.length y3] rfl rfl (World.news_of_block (cs := #[.slice y1 c.length y3]) (t := 29) (fr := (0, 0)) (heap_alloc_new w6 _)) (by simp [Value.oneCell']) (by omega) h63 (by omega) (by simp; omega) (w6.heap.size + 1) (by simp) ?_); intro g8 cap8 w10 hown8 key8 hlt8; obtain ⟨⟨p6, p7⟩, hx8⟩ := HJ.out.1.pushT rfl HRWS.out hown8 key8; have HX8 := hide hx8; clear hx8 hown8 key8 hlt8)
            go_roundw
            case rel => exact ⟨k, _, p ++ [c], l3, _, by omega, by go_num, HPL2, ⟨HX8.out, HPP.out⟩⟩
            case measure => simp [intOf] <;> omega
          · skip
            have t1 : (m : Int) ≤ 0 := by omega
            go_wp2_with (at_builtin; go_must (refine wpList_append_keeps rfl _ _ _ rfl L 29 i1 _ 1 24 Tryd.underlying23 hi1 hy0 hy1 hy2 rfl (by omega) (.slice q1 p.length q3) p.length rows rfl (owns_alloc HRWS.out) ⟨w6.heap.size, 0, none⟩ 1 1 [.slice y1 c.length y3] rfl rfl (World.news_of_block (cs := #[.slice y1 c.length y3]) (t := 29) (fr := (0, 0)) (heap_alloc_new w6 _)) (by simp [Value.oneCell']) (by omega) h63 (by omega) (by simp; omega) (w6.heap.size + 1) (by simp) ?_); intro g8 cap8 w10 hown8 key8 hlt8; obtain ⟨⟨p6, p7⟩, hx8⟩ := HJ.out.1.pushT rfl HRWS.out hown8 key8; have HX8 := hide hx8; clear hx8 hown8 key8 hlt8)
            go_roundw
            case rel => exact ⟨k, _, p ++ [c], l3, _, by omega, by go_num, HPL2, ⟨HX8.out, HPP.out⟩⟩
            case measure => simp [intOf] <;> omega
    · have HRE : Hid (PP = (p, l', bad')) := by
        unfold Hid
        rw [← HI.out.2]
        by_cases e : k = 0
        · rw [e]; rfl
        · have : bad' = true := by
            cases bad' with
            | true => rfl
            | false => exact absurd ⟨by omega, rfl⟩ hgo
          rw [this]; exact progG_bad _ _ _
      rw [HRE.out] at HGG
      simp only at HGG
      have HIE : Hid (GuS w w3 b n5 n2 L s l' bad' tv (.slice none 0 0) (0, 0, 0) p []) := HI.out.1
      have HEND : Hid (∀ (w' : World) (sv : Value), w'.heap[n2]? = some (.cells #[tv, sv, .int .i64 (schG l' bad').2.1.1, .int .i64 (schG l' bad').2.1.2.1, .int .i64 (schG l' bad').2.1.2.2] 51 (0, 0)) → ThrAt L w'.heap.size w' tv p → w'.ownsRow L 3 1 sv (schG l' bad').1.length (ints (schG l' bad').1) → w.grownBy w' none → ∀ a, a = Ending.returned (.tuple #[.agg #[tv, sv, .int .i64 (schG l' bad').2.1.1, .int .i64 (schG l' bad').2.1.2.1, .int .i64 (schG l' bad').2.1.2.2], .bool (schG l' bad').2.2]) → ∃ tv sv, a = .returned (.tuple #[.agg #[tv, sv, .int .i64 GG.1.ver.1, .int .i64 GG.1.ver.2.1, .int .i64 GG.1.ver.2.2], .bool GG.2]) ∧ w.grownBy w' none ∧ ThrAt w.heap.size w'.heap.size w' tv GG.1.prog ∧ w'.ownsRow w.heap.size 3 1 sv GG.1.sch.length (ints GG.1.sch)) := by
        intro w' sv g1 g2 g3 g4 a ha
        rw [HGG.out]
        exact ⟨tv, sv, ha, g4, g2.low (by rw [HN2.out]; exact HLW.out), owns_mono g3 (by rw [HN2.out]; exact HLW.out)⟩
      clear HGG HRE
      by_cases hk0 : 0 < k
      · have hbt : bad' = true := by
          cases bad' with
          | true => rfl
          | false => exact absurd ⟨hk0, rfl⟩ hgo
        subst hbt
        have t1 : (0 : Int) < (k : Int) := by omega
        go_upto_if 28 with fail
        refine wp_cond_false rfl ?_
        refine wp_exit ?_
        refine ‹∀ a w, Code.wp Tryd.prog _ _ a w → _› _ _ ?_
        refine guTail HIE hs ?_ ?_
        · exact fun _ _ _ _ _ h => h
        intro z0 z1 z4 z5 z6 z7 z8 z9 z10 z11 z12 z13 z14 z15 z16 z17 z18 z19 z20 z21 z22 z23 z24 z25 z26 z27 z28 z29 z30 z31 z32 z33 z34 z35 z36 z37 z38 z39 z40 z41 z42 z43 z44 z45 z46 z47 z48 z49 z50 z51 z52 z53 z54 z55 z56 z57 z58 z59 z60 z61 z62 z63 z64 z65 z66 z67 z68 z69 z70 z71 z72 z73 z74 z75 z76 z77 z78 z79 z80 z81 z82 z83 z84 z85 z86 z87 z88 z89 z90 z91 z92 z93 z94 z95 z96 z97 z98 z99 z100 z101 z102 z103 z104 z105 z106 z107 z108 z109 z110 z111 z112 z113 z114 z115 z116 z117 z118 z119 z120 z121 z122 z123 z124 z125 z126 z127 z128 z129 z130 z131 z132 w' sv g1 g2 g3 g4
        have e0 : w'.cell? ⟨n2, 0, none⟩ = some tv := by simp only [World.cell?, g1]; rfl
        have e1 : w'.cell? ⟨n2, 1, none⟩ = some sv := by simp only [World.cell?, g1]; rfl
        have e2 : w'.cell? ⟨n2, 2, none⟩ = some (.int .i64 (schG l' true).2.1.1) := by simp only [World.cell?, g1]; rfl
        have e3 : w'.cell? ⟨n2, 3, none⟩ = some (.int .i64 (schG l' true).2.1.2.1) := by simp only [World.cell?, g1]; rfl
        have e4 : w'.cell? ⟨n2, 4, none⟩ = some (.int .i64 (schG l' true).2.1.2.2) := by simp only [World.cell?, g1]; rfl
        have HF := hide (HEND.out w' sv g1 g2 g3 g4 _ rfl)
        clear g1 g2 g3 g4
        refine bodyPost_ret (v := .tuple #[.agg #[tv, sv, .int .i64 (schG l' true).2.1.1, .int .i64 (schG l' true).2.1.2.1, .int .i64 (schG l' true).2.1.2.2], .bool (schG l' true).2.2]) ?_ rfl HF.out
        simp [results, Tryd.results85, go_sem, e0, e1, e2, e3, e4]
      · have t1 : (k : Int) ≤ 0 := by omega
        go_upto_if 28 with fail
        refine wp_cond_false rfl ?_
        refine wp_exit ?_
        refine ‹∀ a w, Code.wp Tryd.prog _ _ a w → _› _ _ ?_
        refine guTail HIE hs ?_ ?_
        · exact fun _ _ _ _ _ h => h
        intro z0 z1 z4 z5 z6 z7 z8 z9 z10 z11 z12 z13 z14 z15 z16 z17 z18 z19 z20 z21 z22 z23 z24 z25 z26 z27 z28 z29 z30 z31 z32 z33 z34 z35 z36 z37 z38 z39 z40 z41 z42 z43 z44 z45 z46 z47 z48 z49 z50 z51 z52 z53 z54 z55 z56 z57 z58 z59 z60 z61 z62 z63 z64 z65 z66 z67 z68 z69 z70 z71 z72 z73 z74 z75 z76 z77 z78 z79 z80 z81 z82 z83 z84 z85 z86 z87 z88 z89 z90 z91 z92 z93 z94 z95 z96 z97 z98 z99 z100 z101 z102 z103 z104 z105 z106 z107 z108 z109 z110 z111 z112 z113 z114 z115 z116 z117 z118 z119 z120 z121 z122 z123 z124 z125 z126 z127 z128 z129 z130 z131 z132 w' sv g1 g2 g3 g4
        have e0 : w'.cell? ⟨n2, 0, none⟩ = some tv := by simp only [World.cell?, g1]; rfl
        have e1 : w'.cell? ⟨n2, 1, none⟩ = some sv := by simp only [World.cell?, g1]; rfl
        have e2 : w'.cell? ⟨n2, 2, none⟩ = some (.int .i64 (schG l' bad').2.1.1) := by simp only [World.cell?, g1]; rfl
        have e3 : w'.cell? ⟨n2, 3, none⟩ = some (.int .i64 (schG l' bad').2.1.2.1) := by simp only [World.cell?, g1]; rfl
        have e4 : w'.cell? ⟨n2, 4, none⟩ = some (.int .i64 (schG l' bad').2.1.2.2) := by simp only [World.cell?, g1]; rfl
        have HF := hide (HEND.out w' sv g1 g2 g3 g4 _ rfl)
        clear g1 g2 g3 g4
        refine bodyPost_ret (v := .tuple #[.agg #[tv, sv, .int .i64 (schG l' bad').2.1.1, .int .i64 (schG l' bad').2.1.2.1, .int .i64 (schG l' bad').2.1.2.2], .bool (schG l' bad').2.2]) ?_ rfl HF.out
        simp [results, Tryd.results85, go_sem, e0, e1, e2, e3, e4]

end Go.Proofs.YtklenjmfalljgaaDoor

/- The walks of word, Print and Parse. -/
namespace Go.Proofs.YtklenjmfalljgaaDoor
open Go.RowKit
attribute [local go_sem] Go.World.cell?_alloc_some

def Tab (w : World) : Prop := Lib.TabIs Tryd.prog w "internal/strconv.uint64pow10" .u64 Lib.pow10Tab

theorem Tab.grown {w w' : World} (h : Tab w) (hg : w.grownBy w' none) : Tab w' := by
  unfold Tab at *
  exact (Lib.tabBelow_of_tabIs h) w' ⟨hg.os, hg.tape, hg.output, hg.size, fun k hk => hg.block k hk (by simp)⟩

theorem flat_at (q : List (Int × Int)) (k : Nat) (hk : k < q.length) : (flatS q)[k * 2]? = some (.int .i64 q[k].1) ∧ (flatS q)[k * 2 + 1]? = some (.int .i64 q[k].2) := by
  induction q generalizing k with
  | nil => simp at hk
  | cons y q ih =>
    have e1 : flatS (y :: q) = .int .i64 y.1 :: .int .i64 y.2 :: flatS q := rfl
    cases k with
    | zero => rw [e1]; simp
    | succ k =>
      have := ih k (by simpa using hk)
      have e2 : (k + 1) * 2 = k * 2 + 1 + 1 := by omega
      rw [e1, e2]
      simpa using this

theorem grp_valid {l : List Int} (h : validS l = true) : ∀ x ∈ grp l, 0 ≤ x.1 ∧ x.1 ≤ 63 ∧ 1 ≤ x.2 ∧ x.2 ≤ 500 := by
  intro x hx
  simp only [validS, Bool.and_eq_true, decide_eq_true_eq, List.all_eq_true] at h
  have := grp_mem l x hx
  have h2 := h.2 x.1 this.1
  exact ⟨h2.1, h2.2, this.2.1, by omega⟩

end Go.Proofs.YtklenjmfalljgaaDoor

/- The walks of the reference's small functions on texts. -/
namespace Go.Proofs.YtklenjmfalljgaaDoor
open Go.RowKit
attribute [local go_sem] Go.World.cell?_alloc_some

end Go.Proofs.YtklenjmfalljgaaDoor

/- The walks of the reference's run and begins. -/
namespace Go.Proofs.YtklenjmfalljgaaDoor
open Go.RowKit
attribute [local go_sem] Go.World.cell?_alloc_some

end Go.Proofs.YtklenjmfalljgaaDoor

/- The walks of the reference's parts and whole. -/
namespace Go.Proofs.YtklenjmfalljgaaDoor
open Go.RowKit
attribute [local go_sem] Go.World.cell?_alloc_some

/-- In the midst of parts: those that are done, where the next one begins, where we are. -/
structure PtsIn (s : ByteArray) (D : List ByteArray) (f k : Nat) : Prop where
  le : k ≤ s.size
  fk : f ≤ k
  no : ∀ x ∈ ((byt s).drop f).take (k - f), x ≠ 32
  eq : partsR (byt s) = D.map byt ++ partsR ((byt s).drop f)
  sz : ∀ x ∈ D, x.size ≤ s.size
  ln : D.length ≤ f

theorem PtsIn.step {s : ByteArray} {D : List ByteArray} {f k : Nat} (h : PtsIn s D f k) (hlt : k < s.size) (hk : s[k].toNat ≠ 32) : PtsIn s D f (k + 1) := by
  have hf := h.fk
  refine ⟨by omega, by omega, ?_, h.eq, h.sz, h.ln⟩
  intro x hx
  have hl : k - f < ((byt s).drop f).length := by rw [List.length_drop, byt_len]; omega
  have e : k + 1 - f = (k - f) + 1 := by omega
  rw [e, List.take_succ_eq_append_getElem hl] at hx
  rcases List.mem_append.1 hx with hx | hx
  · exact h.no x hx
  · have e2 : ((byt s).drop f)[k - f]? = some s[k].toNat := by
      rw [List.getElem?_drop, show f + (k - f) = k by omega]; exact byt_get s k hlt
    rw [List.getElem?_eq_getElem hl] at e2
    rw [Option.some.inj e2] at hx
    simp at hx; rw [hx]; exact hk
end Go.Proofs.YtklenjmfalljgaaDoor

/- The walks of the reference's whole and Parse. -/
namespace Go.Proofs.YtklenjmfalljgaaDoor
open Go.RowKit
attribute [local go_sem] Go.World.cell?_alloc_some

/-- A slice of strings in memory. -/
def StrsAt (w : World) (v : Value) (L : List ByteArray) : Prop :=
  ∃ ao cap, v = .slice ao L.length cap ∧ ∀ k (hk : k < L.length), ∃ g o, ao = some ⟨g, o, none⟩ ∧ w.cell? ⟨g, o + k, none⟩ = some (.string L[k])
theorem StrsAt.pres {w w' : World} {v : Value} {L : List ByteArray} (h : StrsAt w v L) (hp : Pres w w') : StrsAt w' v L := by
  obtain ⟨ao, cap, e, hc⟩ := h
  exact ⟨ao, cap, e, fun k hk => by obtain ⟨g, o, e2, c⟩ := hc k hk; exact ⟨g, o, e2, hp _ _ c⟩⟩
end Go.Proofs.YtklenjmfalljgaaDoor

/- The walk of the reference's Parse. -/
namespace Go.Proofs.YtklenjmfalljgaaDoor
open Go.RowKit
attribute [local go_sem] Go.World.cell?_alloc_some

end Go.Proofs.YtklenjmfalljgaaDoor

/- The walks of the reference's scheduled, often and digits. -/
namespace Go.Proofs.YtklenjmfalljgaaDoor
open Go.RowKit
attribute [local go_sem] Go.World.cell?_alloc_some

set_option maxRecDepth 100000 in
set_option maxHeartbeats 1000000 in
theorem scheduled_m (l : List Int) (v : Value) (w : World) (hI : IntsAt w.heap.size w v l) :
    Calls Tryd.prog 49 #[v] w fun e w' => e = .returned (.bool (validS l)) ∧ w.grownBy w' none := by
  obtain ⟨ao, cap, rfl, hcap, hc⟩ := hI
  by_cases h5 : l.length ≤ 500
  · have g5 : (l.length : Int) ≤ 500 := by omega
    have HV : Hid (validS l = l.all okN) := by unfold Hid validS; rw [decide_eq_true h5]; rfl
    have HC := hide hc
    clear hc
    go_enter Tryd.func49, Tryd.ntmps49
    go_wp2
    go_loopw [3] (fun i w' => ∃ k : Nat, k ≤ l.length ∧ i = .int .i64 k ∧ w' = w ∧ Hid ((l.take k).all okN = true)) (fun i _ => l.length - (intOf i).toNat)
    case atStart => exact ⟨0, Nat.zero_le _, rfl, rfl, rfl⟩
    case round =>
      obtain ⟨k, hk, rfl, rfl, HA⟩ := hrel
      by_cases hlt : k < l.length
      · obtain ⟨g, o, rfl, hg, c0⟩ := HC.out k hlt
        have HAs := hide (all_take_succ l okN k hlt)
        have hk0 : (0 : Int) ≤ (k : Int) := by omega
        have hk1 : (k : Int) < l.length := by omega
        have HF : Hid (okN l[k] = false → validS l = false) := by
          intro h
          rw [HV.out]
          have : (l.take (k + 1)).all okN = false := by rw [HAs.out, h]; simp
          rw [← List.take_append_drop (k + 1) l, List.all_append, this]; rfl
        generalize l[k] = x at *
        by_cases h0 : 0 ≤ x
        · by_cases h63 : x ≤ 63
          · have HA1 : Hid ((l.take (k + 1)).all okN = true) := by unfold Hid; rw [HAs.out, HA.out]; simp [okN, h0, h63]
            have h0' : ¬ x < 0 := by omega
            have h63' : ¬ 63 < x := by omega
            go_wp2
            go_roundw
            case rel => exact ⟨k + 1, by omega, by go_num, trivial, HA1⟩
            case measure => simp [intOf]; omega
          · have HE := hide (HF.out (by simp [okN, h63]))
            have h63' : 63 < x := by omega
            go_wp2
            go_ret
            exact ⟨by rw [HE.out]; rfl, grown_refl _ _⟩
        · have HE := hide (HF.out (by simp [okN, h0]))
          have h0' : x < 0 := by omega
          go_wp2
          go_ret
          exact ⟨by rw [HE.out]; rfl, grown_refl _ _⟩
      · have HE : Hid (validS l = true) := by
          unfold Hid
          rw [HV.out]
          have := HA.out
          rw [List.take_of_length_le (by omega)] at this
          exact this
        go_wp2
        go_ret
        exact ⟨by rw [HE.out]; rfl, grown_refl _ _⟩
  · have g5 : 500 < (l.length : Int) := by omega
    have HV : Hid (validS l = false) := by unfold Hid validS; rw [decide_eq_false h5]; rfl
    clear hc
    go_enter Tryd.func49, Tryd.ntmps49
    go_wp2
    go_ret
    exact ⟨by rw [HV.out]; rfl, grown_refl _ _⟩

def oftS : List Int → Nat
  | [] => 0
  | t :: r => (r.takeWhile (· == t)).length + 1

theorem oft_cons (t : Int) (r : List Int) : oftS (t :: r) = (r.takeWhile (· == t)).length + 1 := rfl

theorem oft_at (t : Int) (r : List Int) (k : Nat) (hk : k < (t :: r).length) (ha : ∀ j (hj : j < (t :: r).length), j < k → (t :: r)[j] = t) (hne : (t :: r)[k] ≠ t) : oftS (t :: r) = k := by
  rw [oft_cons]
  cases k with
  | zero => exact absurd rfl hne
  | succ k =>
    have h1 : ∀ (q : List Int) (k : Nat) (hk : k < q.length), (∀ j (hj : j < q.length), j < k → q[j] = t) → q[k] ≠ t → (q.takeWhile (· == t)).length = k := by
      intro q
      induction q with
      | nil => intro k hk; simp at hk
      | cons b q ih =>
        intro k hk h1 h2
        cases k with
        | zero => rw [List.takeWhile_cons, if_neg (by simpa using h2)]; rfl
        | succ k =>
          have h0 := h1 0 (by simp) (by omega)
          simp at h0
          rw [List.takeWhile_cons, if_pos (by simpa using h0)]
          simp
          exact ih k (by simpa using hk) (fun j hj hjk => by have := h1 (j + 1) (by simpa using hj) (by omega); simpa using this) (by simpa using h2)
    rw [h1 r k (by simpa using hk) (fun j hj hjk => by have := ha (j + 1) (by simpa using hj) (by omega); simpa using this) (by simpa using hne)]
theorem oft_all (t : Int) (r : List Int) (ha : ∀ j (hj : j < (t :: r).length), (t :: r)[j] = t) : oftS (t :: r) = (t :: r).length := by
  rw [oft_cons]
  have : r.takeWhile (· == t) = r := by
    have h2 : ∀ x ∈ r, x = t := by
      intro x hx
      obtain ⟨j, hj, rfl⟩ := List.getElem_of_mem hx
      have := ha (j + 1) (by simpa using hj)
      simpa using this
    clear ha
    induction r with
    | nil => rfl
    | cons b q ih => rw [List.takeWhile_cons, if_pos (by simpa using h2 b (by simp)), ih (fun x hx => h2 x (by simp [hx]))]
  rw [this]; rfl

theorem grp_oft (t : Int) (r : List Int) : grp (t :: r) = (t, (oftS (t :: r) : Int)) :: grp ((t :: r).drop (oftS (t :: r))) := by
  induction r generalizing t with
  | nil => simp [grp, oftS]
  | cons b q ih =>
    have e := ih b
    by_cases h : t = b
    · subst h
      have e1 : oftS (t :: t :: q) = oftS (t :: q) + 1 := by simp [oftS]
      rw [grp, e, e1]
      simp
    · have e1 : oftS (t :: b :: q) = 1 := by
        rw [oft_cons, List.takeWhile_cons, if_neg (by simpa using fun e => h e.symm)]; rfl
      rw [grp, e1, e]
      simp [h]
      exact e.symm
theorem oft_le (l : List Int) : oftS l ≤ l.length := by
  cases l with
  | nil => simp [oftS]
  | cons t r =>
    rw [oft_cons]
    have := (List.takeWhile_sublist (· == t) (l := r)).length_le
    simpa using this

set_option maxRecDepth 100000 in
set_option maxHeartbeats 1000000 in
theorem often_m (t : Int) (r : List Int) (v : Value) (w : World) (hI : IntsAt w.heap.size w v (t :: r)) (hln : (t :: r).length ≤ 1000000) :
    Calls Tryd.prog 52 #[v] w fun e w' => e = .returned (.int .i64 (oftS (t :: r))) ∧ w.grownBy w' none := by
  obtain ⟨ao, cap, rfl, hcap, hc⟩ := hI
  obtain ⟨g, o, rfl, hg, c0⟩ := hc 0 (by simp)
  have HC : Hid (∀ k (hk : k < (t :: r).length), w.cell? ⟨g, o + k, none⟩ = some (.int .i64 (t :: r)[k])) := by
    intro k hk
    obtain ⟨g', o', e, _, c⟩ := hc k hk
    simp only [Option.some.injEq, Addr.mk.injEq, and_true] at e
    obtain ⟨rfl, rfl⟩ := e
    exact c
  simp only [List.getElem_cons_zero, Nat.add_zero] at c0
  clear hc
  have hpos : 0 < (t :: r).length := by simp
  generalize hl : t :: r = l at *
  have HLl := hide hl
  clear hl
  have hpos' : (0 : Int) < l.length := by omega
  go_enter Tryd.func52, Tryd.ntmps52
  go_wp2_with fail
  go_loopw [3] (fun i w' => ∃ k : Nat, k ≤ l.length ∧ i = .int .i64 k ∧ Hid (Like w' w) ∧ Hid (∀ j (hj : j < l.length), j < k → l[j] = t)) (fun i _ => l.length - (intOf i).toNat)
  case atStart => exact ⟨0, Nat.zero_le _, rfl, hide (like_refl _), hide (fun j _ h => by omega)⟩
  case round =>
    obtain ⟨k, hk, rfl, HK, HA⟩ := hrel
    obtain ⟨w5, hw5⟩ : ∃ w5, w5 = wr := ⟨_, rfl⟩
    subst hw5
    have cL : ∀ a, w5.cell? a = w.cell? a := fun a => by simp [World.cell?, HK.out.1]
    have c1 : w5.cell? ⟨g, o, none⟩ = some (.int .i64 t) := by rw [cL]; exact c0
    by_cases hlt : k < l.length
    · have c2 : w5.cell? ⟨g, o + k, none⟩ = some (.int .i64 l[k]) := by rw [cL]; exact HC.out k hlt
      have hk0 : (0 : Int) ≤ (k : Int) := by omega
      have hk1 : (k : Int) < l.length := by omega
      clear cL c0
      by_cases heq : l[k] = t
      · have hq : (l[k] == t) = true := by simpa using heq
        have HA1 : Hid (∀ j (hj : j < l.length), j < k + 1 → l[j] = t) := by
          intro j hj hjk
          by_cases e : j = k
          · subst e; exact heq
          · exact HA.out j hj (by omega)
        clear heq
        generalize l[k] = x at *
        go_wp2_with fail
        go_quiet (fail)
        go_wp2_with fail
        go_roundw
        case rel => exact ⟨k + 1, by omega, by go_num, hide (like_dn HK.out _), HA1⟩
        case measure => simp [intOf]; omega
      · have hq : (l[k] == t) = false := by simpa using heq
        have HE : Hid (oftS l = k) := by
          have h1 := HA.out
          have h2 := HLl.out
          subst h2
          exact oft_at t r k hlt h1 heq
        clear heq
        generalize l[k] = x at *
        go_wp2_with fail
        go_quiet (fail)
        go_wp2_with fail
        go_ret
        exact ⟨by rw [HE.out]; rfl, grown_drewN _ (grown_of_like HK.out)⟩
    · have HE : Hid (oftS l = k) := by
        have h1 := HA.out
        have h2 := HLl.out
        subst h2
        rw [oft_all t r (fun j hj => h1 j hj (Nat.lt_of_lt_of_le hj (Nat.le_of_not_lt hlt)))]; exact Nat.le_antisymm (Nat.le_of_not_lt hlt) hk
      have hk1 : decide ((k : Int) < l.length) = false := by simp; omega
      clear cL c0
      go_wp2_with fail
      go_quiet (fail)
      go_wp2_with fail
      go_ret
      exact ⟨by rw [HE.out]; rfl, grown_drewN _ (grown_of_like HK.out)⟩

end Go.Proofs.YtklenjmfalljgaaDoor

/- The walks of the reference's digits and Print. -/
namespace Go.Proofs.YtklenjmfalljgaaDoor
open Go.RowKit
attribute [local go_sem] Go.World.cell?_alloc_some

def lenOf : Value → Nat
  | .slice _ n _ => n
  | _ => 0

theorem IntsAt.tail {B : Nat} {w : World} {g o cap : Nat} {l : List Int} (h : IntsAt B w (.slice (some ⟨g, o, none⟩) l.length cap) l) (k : Nat) (hk : k ≤ l.length) (a : Option Addr) (ha : k < l.length → a = some ⟨g, o + k, none⟩) : IntsAt B w (.slice a (l.length - k) (cap - k)) (l.drop k) := by
  obtain ⟨ao, cap', e, hcap, hc⟩ := h
  simp only [Value.slice.injEq, true_and] at e
  obtain ⟨rfl, rfl⟩ := e
  refine ⟨a, cap - k, by simp, by simp; omega, fun j hj => ?_⟩
  have hj' : k + j < l.length := by simp at hj; omega
  obtain ⟨g', o', e, hb, c⟩ := hc (k + j) hj'
  simp only [Option.some.injEq, Addr.mk.injEq, and_true] at e
  obtain ⟨rfl, rfl⟩ := e
  refine ⟨g, o + k, ha (by omega), hb, ?_⟩
  rw [Nat.add_assoc, c]; simp

end Go.Proofs.YtklenjmfalljgaaDoor

/- The reference's Encode, from the schedule on. -/
namespace Go.Proofs.YtklenjmfalljgaaDoor
open Go.RowKit
attribute [local go_sem] Go.World.cell?_alloc_some

theorem wrap_id (n : Nat) (h : n < 18446744073709551616) : IntKind.u64.wrap (n : Int) = (n : Int) := by rw [IntKind.wrap_u64]; omega
theorem numB_le {n : Nat} (h : n < 18446744073709551616) : (numB n).length ≤ 10 := numB_ten h
theorem cat_to {l m k : List Nat} (hk : l ++ m = k) (h : l.length + m.length ≤ 9223372036854775807) : Op.stringOp .add (bs l) (bs m) = pure (.string (bs k)) := by rw [← hk]; exact cat_bs l m h
/-- Four bytes that lie in a block, as a string. -/
theorem four_str {w : World} {g : Nat} {x0 x1 x2 x3 : Nat} (h : w.heap[g]? = some (.cells #[.int .u8 (x0 : Int), .int .u8 (x1 : Int), .int .u8 (x2 : Int), .int .u8 (x3 : Int)] 5 (0, 0))) : (convert 105 9 (.slice (some ⟨g, 0, none⟩) 4 4)).run Tryd.prog w = .ok (.string (bs [x0, x1, x2, x3])) w :=
  run_convert_bytes_arg w _ _ Tryd.underlying105 Tryd.underlying5 g 0 4 4 _ (by simp) (fun i hi => by
    have hi' : i < 4 := by simpa using hi
    rcases (by omega : i = 0 ∨ i = 1 ∨ i = 2 ∨ i = 3) with rfl | rfl | rfl | rfl <;> simp [World.cell?, h]) _ Tryd.underlying9

set_option maxHeartbeats 1500000 in
set_option maxRecDepth 100000 in
theorem encTail {w : World} {n1 n6 : Nat} {X : List Nat} {s : List Int} {v : Int × Int × Int} {sv : Value} (hX : X.length ≤ 1000000) (hX6 : ∀ x ∈ X, x < 256) (HI : Hid (IntsAt w.heap.size w sv s)) (HV : Hid (validS s = true)) (HVO : Hid (verOk v = true))
    (H1 : Hid (w.cell? ⟨n1, 1, none⟩ = some sv)) (H6 : Hid (w.cell? ⟨n6, 0, none⟩ = some (.int .i64 v.1) ∧ w.cell? ⟨n6, 1, none⟩ = some (.int .i64 v.2.1) ∧ w.cell? ⟨n6, 2, none⟩ = some (.int .i64 v.2.2)))
    {Q : Exit → Act → World → Prop} {c0 c2 c3 c4 c5 c8 c9 c10 c11 c12 c13 c14 c15 c16 c17 c18 c19 c20 c21 c22 c23 c24 c25 c26 c27 c28 c29 c30 c31 c32 c33 c34 c35 c36 c37 c38 c39 c40 c41 c42 c43 c44 c45 c46 c47 c48 c49 c50 c51 c52 c53 c54 c55 c56 c57 c58 c59 c60 c61 c62 c63 c64 c65 c66 c67 c68 c69 c70 c71 c72 c73 c74 c75 c76 c77 c78 c79 c80 c81 c82 c83 c84 c85 c86 c87 c88 c89 c90 c91 c92 c93 c94 c95 c96 c97 c98 c99 c100 c101 c102 c103 c104 c105 c106 c107 c108 c109 c110 c111 c112 c113 c114 c115 c116 c117 c118 c119 c120 c121 c122 c123 c124 c125 c126 c127 c128 c129 c130 c131 c132 c133 c134 c135 c136 c137 c138 c139 c140 c141 c142 c143 c144 c145 c146 c147 c148 c149 c150 c151 c152 c153 c154 c155 c156 c157 c158 c159 c160 c161 c162 c163 c164 c165 c166 c167 c168 c169 c170 c171 c172 c173 c174 c175 c176 c177 c178 c179 c180 c181 c182 c183 c184 c185 c186 : Value} (HQP : Hid (∀ c a d v w, Q (.panic c) (Act.put a (some d) v) w → Q (.panic c) a w))
    (HQ : Hid (∀ {z0 z1 z4 z5 z6 z7 z8 z9 z10 z11 z12 z13 z14 z15 z16 z17 z18 z19 z20 z21 z22 z23 z24 z25 z26 z27 z28 z29 z30 z31 z32 z33 z34 z35 z36 z37 z38 z39 z40 z41 z42 z43 z44 z45 z46 z47 z48 z49 z50 z51 z52 z53 z54 z55 z56 z57 z58 z59 z60 z61 z62 z63 z64 z65 z66 z67 z68 z69 z70 z71 z72 z73 z74 z75 z76 z77 z78 z79 z80 z81 z82 z83 z84 z85 z86 z87 z88 z89 z90 z91 z92 z93 z94 z95 z96 z97 z98 z99 z100 z101 z102 z103 z104 z105 z106 z107 z108 z109 z110 z111 z112 z113 z114 z115 z116 z117 z118 z119 z120 z121 z122 z123 z124 z125 z126 z127 z128 z129 z130 z131 z132 z133 z134 z135 z136 z137 z138 z139 z140 z141 z142 z143 z144 z145 z146 z147 z148 z149 z150 z151 z152 z153 z154 z155 z156 z157 z158 z159 z160 z161 z162 z163 z164 z165 z166 z167 z168 z169 z170 z171 z172 z173 z174 z175 z176 z177 z178 z179 z180 z181 z182 z183 z184 z185 z186 : Value} (w' : World), w.grownBy w' none → Q .ret ⟨#[z0, z1, .string (bs (X ++ (schB s ++ verB v) ++ leB 4 (crcN (X ++ (schB s ++ verB v))))), .int .i64 0, z4, z5, z6, z7, z8, z9, z10, z11, z12, z13, z14, z15, z16, z17, z18, z19, z20, z21, z22, z23, z24, z25, z26, z27, z28, z29, z30, z31, z32, z33, z34, z35, z36, z37, z38, z39, z40, z41, z42, z43, z44, z45, z46, z47, z48, z49, z50, z51, z52, z53, z54, z55, z56, z57, z58, z59, z60, z61, z62, z63, z64, z65, z66, z67, z68, z69, z70, z71, z72, z73, z74, z75, z76, z77, z78, z79, z80, z81, z82, z83, z84, z85, z86, z87, z88, z89, z90, z91, z92, z93, z94, z95, z96, z97, z98, z99, z100, z101, z102, z103, z104, z105, z106, z107, z108, z109, z110, z111, z112, z113, z114, z115, z116, z117, z118, z119, z120, z121, z122, z123, z124, z125, z126, z127, z128, z129, z130, z131, z132, z133, z134, z135, z136, z137, z138, z139, z140, z141, z142, z143, z144, z145, z146, z147, z148, z149, z150, z151, z152, z153, z154, z155, z156, z157, z158, z159, z160, z161, z162, z163, z164, z165, z166, z167, z168, z169, z170, z171, z172, z173, z174, z175, z176, z177, z178, z179, z180, z181, z182, z183, z184, z185, z186], []⟩ w')) :
    Code.wp Tryd.prog (tailOf Tryd.f21 18) Q ⟨#[c0, .pointer (some ⟨n1, 0, none⟩), c2, c3, c4, c5, .pointer (some ⟨n6, 0, none⟩), .string (bs X), c8, c9, c10, c11, c12, c13, c14, c15, c16, c17, c18, c19, c20, c21, c22, c23, c24, c25, c26, c27, c28, c29, c30, c31, c32, c33, c34, c35, c36, c37, c38, c39, c40, c41, c42, c43, c44, c45, c46, c47, c48, c49, c50, c51, c52, c53, c54, c55, c56, c57, c58, c59, c60, c61, c62, c63, c64, c65, c66, c67, c68, c69, c70, c71, c72, c73, c74, c75, c76, c77, c78, c79, c80, c81, c82, c83, c84, c85, c86, c87, c88, c89, c90, c91, c92, c93, c94, c95, c96, c97, c98, c99, c100, c101, c102, c103, c104, c105, c106, c107, c108, c109, c110, c111, c112, c113, c114, c115, c116, c117, c118, c119, c120, c121, c122, c123, c124, c125, c126, c127, c128, c129, c130, c131, c132, c133, c134, c135, c136, c137, c138, c139, c140, c141, c142, c143, c144, c145, c146, c147, c148, c149, c150, c151, c152, c153, c154, c155, c156, c157, c158, c159, c160, c161, c162, c163, c164, c165, c166, c167, c168, c169, c170, c171, c172, c173, c174, c175, c176, c177, c178, c179, c180, c181, c182, c183, c184, c185, c186], []⟩ w := by
  conv => arg 2; whnf
  have hv' := HV.out
  simp only [validS, Bool.and_eq_true, decide_eq_true_eq, List.all_eq_true] at hv'
  obtain ⟨h500, hall⟩ := hv'
  have HALL := hide hall
  clear hall
  obtain ⟨so, sc, rfl⟩ := HI.out.form
  have c1 := H1.out
  have HST : Hid (∀ u, w.grownBy u none → u.cell? ⟨n6, 0, none⟩ = some (.int .i64 v.1) ∧ u.cell? ⟨n6, 1, none⟩ = some (.int .i64 v.2.1) ∧ u.cell? ⟨n6, 2, none⟩ = some (.int .i64 v.2.2)) := fun u hu => ⟨pres_grown hu _ _ H6.out.1, pres_grown hu _ _ H6.out.2.1, pres_grown hu _ _ H6.out.2.2⟩
  go_wp2_with fail
  clear c1
  go_loopw [11, 12, 13] (fun nv bv lv w' => ∃ (a : Option Addr) (c : Nat) (rest : List Int) (G : List (Int × Int)), nv = .int .i64 G.length ∧ bv = .string (bs (G.flatMap runB)) ∧ lv = .slice a rest.length c ∧ Hid (IntsAt w.heap.size w (.slice a rest.length c) rest) ∧ Hid (w.grownBy w' none) ∧ Hid (G ++ grp rest = grp s) ∧ Hid (∀ x ∈ rest, x ∈ s) ∧ G.length + rest.length ≤ 500 ∧ (G.flatMap runB).length ≤ 20 * G.length) (fun _ _ lv _ => lenOf lv)
  case atStart => exact ⟨so, sc, s, [], rfl, rfl, rfl, HI, hide (grown_refl _ _), hide rfl, hide (fun x hx => hx), by simpa using h500, by simp⟩
  case round =>
    obtain ⟨a, c, rest, G, rfl, rfl, rfl, HIR, HG, HGR, HM, hln, hgl⟩ := hrel
    obtain ⟨w5, hw5⟩ : ∃ w5, w5 = wr := ⟨_, rfl⟩
    rw [← hw5] at HG ⊢
    clear hw5
    cases rest with
    | nil =>
      simp only [List.length_nil]
      have hvo := HVO.out
      simp only [verOk, Bool.and_eq_true, decide_eq_true_eq] at hvo
      obtain ⟨v0, v1, v2⟩ := v
      simp only at hvo HST HQ
      obtain ⟨k0, rfl⟩ := Int.eq_ofNat_of_zero_le (show 0 ≤ v0 by omega)
      obtain ⟨k1, rfl⟩ := Int.eq_ofNat_of_zero_le hvo.1.2.1
      obtain ⟨k2, rfl⟩ := Int.eq_ofNat_of_zero_le hvo.2.1
      have h0 : k0 ≤ 5 := by omega
      have h1 : k1 ≤ 3 := by omega
      have h2 : k2 ≤ 500 := by omega
      clear hvo
      have hGl : G.length ≤ 500 := by omega
      have qG : (G.length : Int) ≤ 500 := by omega
      have q0 : (k0 : Int) ≤ 5 := by omega
      have q1 : (k1 : Int) ≤ 3 := by omega
      have q2 : (k2 : Int) ≤ 500 := by omega
      have eG := wrap_id G.length (by omega)
      have e0 := wrap_id k0 (by omega)
      have e1 := wrap_id k1 (by omega)
      have e2 := wrap_id k2 (by omega)
      have HNG := hide (fun u => refnumber_m G.length u (by omega))
      have HN0 := hide (fun u => refnumber_m k0 u (by omega))
      have HN1 := hide (fun u => refnumber_m k1 u (by omega))
      have HN2 := hide (fun u => refnumber_m k2 u (by omega))
      have HGE : Hid (grp s = G) := by have := HGR.out; simp only [grp, List.append_nil] at this; exact this.symm
      have b0 := numB_le (n := G.length) (by omega)
      have b1 := numB_le (n := k0) (by omega)
      have b2 := numB_le (n := k1) (by omega)
      have b3 := numB_le (n := k2) (by omega)
      obtain ⟨Y1, hY1⟩ : ∃ Y, X ++ numB G.length = Y := ⟨_, rfl⟩
      obtain ⟨Y2, hY2⟩ : ∃ Y, Y1 ++ G.flatMap runB = Y := ⟨_, rfl⟩
      obtain ⟨Y3, hY3⟩ : ∃ Y, Y2 ++ numB k0 = Y := ⟨_, rfl⟩
      obtain ⟨Y4, hY4⟩ : ∃ Y, Y3 ++ numB k1 = Y := ⟨_, rfl⟩
      obtain ⟨Y5, hY5⟩ : ∃ Y, Y4 ++ numB k2 = Y := ⟨_, rfl⟩
      have l1 : Y1.length ≤ X.length + 10 := by rw [← hY1, List.length_append]; omega
      have l2 : Y2.length ≤ X.length + 10010 := by rw [← hY2, List.length_append]; omega
      have l3 : Y3.length ≤ X.length + 10020 := by rw [← hY3, List.length_append]; omega
      have l4 : Y4.length ≤ X.length + 10030 := by rw [← hY4, List.length_append]; omega
      have l5 : Y5.length ≤ X.length + 10040 := by rw [← hY5, List.length_append]; omega
      have y1 := cat_to hY1 (by omega)
      have y2 := cat_to hY2 (by omega)
      have y3 := cat_to hY3 (by omega)
      have y4 := cat_to hY4 (by omega)
      have y5 := cat_to hY5 (by omega)
      have HY : Hid (X ++ (schB s ++ verB ((k0 : Int), (k1 : Int), (k2 : Int))) = Y5) := by
        unfold Hid schB verB wInt
        rw [HGE.out, ← hY5, ← hY4, ← hY3, ← hY2, ← hY1]
        simp
      rw [HY.out] at HQ
      have HYL : Hid (Y5.length ≤ 2000000) := by unfold Hid; omega
      have HY6 : Hid (∀ x ∈ Y5, x < 256) := by
        unfold Hid
        rw [← HY.out]
        intro x hx
        rcases List.mem_append.1 hx with hx | hx
        · exact hX6 x hx
        · unfold schB verB at hx
          simp only [List.mem_append, List.mem_flatMap] at hx
          rcases hx with (hx | ⟨y, _, hx⟩) | hx | hx | hx
          · exact numB_lt _ x hx
          · unfold runB at hx
            rcases List.mem_append.1 hx with hx | hx <;> exact numB_lt _ x hx
          · exact numB_lt _ x hx
          · exact numB_lt _ x hx
          · exact numB_lt _ x hx
      clear hY1 hY2 hY3 hY4 hY5 l1 l2 l3 l4 l5 HY
      have hSt := HST.out w5.drew (grown_drew HG.out)
      go_upto_region 26 with fail
      refine wp_region_head (fun u => u.cell? ⟨n6, 0, none⟩ = some (.int .i64 (k0 : Int)) ∧ u.cell? ⟨n6, 1, none⟩ = some (.int .i64 (k1 : Int)) ∧ u.cell? ⟨n6, 2, none⟩ = some (.int .i64 (k2 : Int))) 22 (by kernel_rfl) (by kernel_rfl) hSt ?_
      intro hHeld
      refine wpHead_take (i := 0) (v := ?vv1) rfl (by kernel_rfl) (fun c _ _ h => HQP.out c _ _ _ _ h) (Or.inl ⟨by kernel_rfl, ?hy1⟩) hHeld ?rest1
      case hy1 => (rintro u ⟨hu0, hu1, hu2⟩; go_simp; try with_reducible rfl)
      simp only [Act.put, List.setIfInBounds_toArray]
      refine wpHead_take (i := 1) (v := ?vv2) rfl (by kernel_rfl) (fun c _ _ h => HQP.out c _ _ _ _ h) (Or.inl ⟨by kernel_rfl, ?hy2⟩) hHeld ?rest2
      case hy2 => (rintro u ⟨hu0, hu1, hu2⟩; go_simp; try with_reducible rfl)
      simp only [Act.put]
      refine wpHead_take (i := 2) (v := ?vv3) rfl (by kernel_rfl) (fun c _ _ h => HQP.out c _ _ _ _ h) (Or.inl ⟨by kernel_rfl, ?hy3⟩) hHeld ?rest3
      case hy3 => (rintro u ⟨hu0, hu1, hu2⟩; go_simp; try with_reducible rfl)
      simp only [Act.put]
      refine wpHead_take (i := 5) (v := ?vv4) rfl (by kernel_rfl) (fun c _ _ h => HQP.out c _ _ _ _ h) (Or.inl ⟨by kernel_rfl, ?hy4⟩) hHeld ?rest4
      case hy4 => (rintro u ⟨hu0, hu1, hu2⟩; go_simp; try with_reducible rfl)
      simp only [Act.put]
      refine wpHead_take (i := 7) (v := ?vv5) rfl (by kernel_rfl) (fun c _ _ h => HQP.out c _ _ _ _ h) (Or.inl ⟨by kernel_rfl, ?hy5⟩) hHeld ?rest5
      case hy5 => (rintro u ⟨hu0, hu1, hu2⟩; go_simp; try with_reducible rfl)
      simp only [Act.put]
      refine wpHead_take (i := 8) (v := ?vv6) rfl (by kernel_rfl) (fun c _ _ h => HQP.out c _ _ _ _ h) (Or.inl ⟨by kernel_rfl, ?hy6⟩) hHeld ?rest6
      case hy6 => (rintro u ⟨hu0, hu1, hu2⟩; go_simp; try with_reducible rfl)
      simp only [Act.put]
      refine wpHead_take (i := 9) (v := ?vv7) rfl (by kernel_rfl) (fun c _ _ h => HQP.out c _ _ _ _ h) (Or.inl ⟨by kernel_rfl, ?hy7⟩) hHeld ?rest7
      case hy7 => (rintro u ⟨hu0, hu1, hu2⟩; go_simp; try with_reducible rfl)
      simp only [Act.put]
      refine wpHead_take (i := 12) (v := ?vv8) rfl (by kernel_rfl) (fun c _ _ h => HQP.out c _ _ _ _ h) (Or.inl ⟨by kernel_rfl, ?hy8⟩) hHeld ?rest8
      case hy8 => (rintro u ⟨hu0, hu1, hu2⟩; go_simp; try with_reducible rfl)
      simp only [Act.put]
      refine wpHead_take (i := 13) (v := ?vv9) rfl (by kernel_rfl) (fun c _ _ h => HQP.out c _ _ _ _ h) (Or.inl ⟨by kernel_rfl, ?hy9⟩) hHeld ?rest9
      case hy9 => (rintro u ⟨hu0, hu1, hu2⟩; go_simp; try with_reducible rfl)
      simp only [Act.put]
      refine wpHead_take (i := 14) (v := ?vv10) rfl (by kernel_rfl) (fun c _ _ h => HQP.out c _ _ _ _ h) (Or.inl ⟨by kernel_rfl, ?hy10⟩) hHeld ?rest10
      case hy10 => (rintro u ⟨hu0, hu1, hu2⟩; go_simp; try with_reducible rfl)
      simp only [Act.put]
      refine wpHead_take (i := 17) (v := ?vv11) rfl (by kernel_rfl) (fun c _ _ h => HQP.out c _ _ _ _ h) (Or.inl ⟨by kernel_rfl, ?hy11⟩) hHeld ?rest11
      case hy11 => (rintro u ⟨hu0, hu1, hu2⟩; go_simp; try with_reducible rfl)
      simp only [Act.put]
      refine wpHead_take (i := 18) (v := ?vv12) rfl (by kernel_rfl) (fun c _ _ h => HQP.out c _ _ _ _ h) (Or.inl ⟨by kernel_rfl, ?hy12⟩) hHeld ?rest12
      case hy12 => (rintro u ⟨hu0, hu1, hu2⟩; go_simp; try with_reducible rfl)
      simp only [Act.put]
      refine wpHead_take (i := 19) (v := ?vv13) rfl (by kernel_rfl) (fun c _ _ h => HQP.out c _ _ _ _ h) (Or.inl ⟨by kernel_rfl, ?hy13⟩) hHeld ?rest13
      case hy13 => (rintro u ⟨hu0, hu1, hu2⟩; go_simp; try with_reducible rfl)
      simp only [Act.put]
      refine wpHead_alone (i := 3) rfl (by kernel_rfl) (by kernel_rfl) (by kernel_rfl) ?_
      intro K3 hK3
      have HK3 := hide hK3
      clear hK3
      go_simp
      refine (HNG.out _).mono ?_
      rintro e u1 ⟨rfl, hu1⟩
      have HU1 : Hid (w5.grownBy u1 none) := grown_offDrew' hu1
      have hHeld1 := HST.out u1 (grown_trans HG.out HU1.out)
      clear hu1
      refine HK3.out _ _ hHeld1 ?_
      clear HK3
      try simp only [Act.put, List.setIfInBounds_toArray]
      refine wpHead_take (i := 4) (v := ?vv14) rfl (by kernel_rfl) (fun c _ _ h => HQP.out c _ _ _ _ h) (Or.inl ⟨by kernel_rfl, ?hy14⟩) hHeld1 ?rest14
      case hy14 => (rintro u ⟨hu0, hu1, hu2⟩; go_simp; try with_reducible rfl)
      simp only [Act.put, List.setIfInBounds_toArray]
      refine wpHead_take (i := 6) (v := ?vv15) rfl (by kernel_rfl) (fun c _ _ h => HQP.out c _ _ _ _ h) (Or.inl ⟨by kernel_rfl, ?hy15⟩) hHeld1 ?rest15
      case hy15 => (rintro u ⟨hu0, hu1, hu2⟩; go_simp; try with_reducible rfl)
      simp only [Act.put]
      refine wpHead_alone (i := 10) rfl (by kernel_rfl) (by kernel_rfl) (by kernel_rfl) ?_
      intro K10 hK10
      have HK10 := hide hK10
      clear hK10
      go_simp
      refine (HN0.out _).mono ?_
      rintro e u2 ⟨rfl, hu2⟩
      have HU2 : Hid (w5.grownBy u2 none) := grown_trans HU1.out hu2
      have hHeld2 := HST.out u2 (grown_trans HG.out HU2.out)
      clear hu2
      refine HK10.out _ _ hHeld2 ?_
      clear HK10
      try simp only [Act.put, List.setIfInBounds_toArray]
      refine wpHead_take (i := 11) (v := ?vv16) rfl (by kernel_rfl) (fun c _ _ h => HQP.out c _ _ _ _ h) (Or.inl ⟨by kernel_rfl, ?hy16⟩) hHeld2 ?rest16
      case hy16 => (rintro u ⟨hu0, hu1, hu2⟩; go_simp; try with_reducible rfl)
      simp only [Act.put, List.setIfInBounds_toArray]
      refine wpHead_alone (i := 15) rfl (by kernel_rfl) (by kernel_rfl) (by kernel_rfl) ?_
      intro K15 hK15
      have HK15 := hide hK15
      clear hK15
      go_simp
      refine (HN1.out _).mono ?_
      rintro e u3 ⟨rfl, hu3⟩
      have HU3 : Hid (w5.grownBy u3 none) := grown_trans HU2.out hu3
      have hHeld3 := HST.out u3 (grown_trans HG.out HU3.out)
      clear hu3
      refine HK15.out _ _ hHeld3 ?_
      clear HK15
      try simp only [Act.put, List.setIfInBounds_toArray]
      refine wpHead_take (i := 16) (v := ?vv17) rfl (by kernel_rfl) (fun c _ _ h => HQP.out c _ _ _ _ h) (Or.inl ⟨by kernel_rfl, ?hy17⟩) hHeld3 ?rest17
      case hy17 => (rintro u ⟨hu0, hu1, hu2⟩; go_simp; try with_reducible rfl)
      simp only [Act.put, List.setIfInBounds_toArray]
      refine wpHead_alone (i := 20) rfl (by kernel_rfl) (by kernel_rfl) (by kernel_rfl) ?_
      intro K20 hK20
      have HK20 := hide hK20
      clear hK20
      go_simp
      refine (HN2.out _).mono ?_
      rintro e u4 ⟨rfl, hu4⟩
      have HU4 : Hid (w5.grownBy u4 none) := grown_trans HU3.out hu4
      have hHeld4 := HST.out u4 (grown_trans HG.out HU4.out)
      clear hu4
      refine HK20.out _ _ hHeld4 ?_
      clear HK20
      try simp only [Act.put, List.setIfInBounds_toArray]
      refine wpHead_take (i := 21) (v := ?vv18) rfl (by kernel_rfl) (fun c _ _ h => HQP.out c _ _ _ _ h) (Or.inl ⟨by kernel_rfl, ?hy18⟩) hHeld4 ?rest18
      case hy18 => (rintro u ⟨hu0, hu1, hu2⟩; go_simp; try with_reducible rfl)
      simp only [Act.put, List.setIfInBounds_toArray]
      refine wpHead_last rfl (by kernel_rfl) (by kernel_rfl) (by kernel_rfl) ?_
      go_simp
      clear hHeld hHeld1 hHeld2 hHeld3 hHeld4 y1 y2 y3 y4 y5 hSt
      have HCR := hide (refcrc_m (bs Y5) u4 (by rw [bs_size]; have := HYL.out; omega))
      rw [byt_bs HY6.out] at HCR
      have hcl : crcN Y5 < 4294967296 := by
        unfold crcN
        exact Nat.xor_lt_two_pow (n := 32) (by omega) (crcF_lt _ _ (by omega) HY6.out)
      have HLE : Hid (leB 4 (crcN Y5) = [crcN Y5 % 256, crcN Y5 / 256 % 256, crcN Y5 / 65536 % 256, crcN Y5 / 16777216]) := by
        unfold Hid
        generalize crcN Y5 = C at hcl ⊢
        simp only [leB, List.cons.injEq, and_true, true_and]
        omega
      generalize crcN Y5 = C at *
      go_wp2_with fail
      refine HCR.out.mono ?_
      clear HCR
      rintro e u5 ⟨rfl, hu5⟩
      obtain rfl := hu5.symm
      have hcv : (convert 105 9 (.slice (some ⟨u4.heap.size, 0, none⟩) 4 4)).run Tryd.prog (u4.alloc (.cells #[.int .u8 ((C : Int) % 256), .int .u8 ((C : Int) / 256 % 256), .int .u8 ((C : Int) / 65536 % 256), .int .u8 ((C : Int) / 16777216)] 5)) = .ok (.string (bs (leB 4 C))) (u4.alloc (.cells #[.int .u8 ((C : Int) % 256), .int .u8 ((C : Int) / 256 % 256), .int .u8 ((C : Int) / 65536 % 256), .int .u8 ((C : Int) / 16777216)] 5)) := by
        rw [HLE.out]
        exact four_str (x0 := C % 256) (x1 := C / 256 % 256) (x2 := C / 65536 % 256) (x3 := C / 16777216) (heap_alloc_new u4 _)
      have HLL : Hid ((leB 4 C).length = 4) := leB_len 4 C
      obtain ⟨Y6, hY6⟩ : ∃ Y, Y5 ++ leB 4 C = Y := ⟨_, rfl⟩
      have y6 := cat_to hY6 (by have := HYL.out; have := HLL.out; omega)
      rw [hY6] at HQ
      clear hY6
      go_wp2_with fail
      exact HQ.out _ (grown_alloc (grown_trans HG.out HU4.out))
    | cons t r =>
      have hpos : 0 < (t :: r).length := by simp
      have hI := HIR.out
      obtain ⟨ao', cp', e', hcp, hc⟩ := hI
      simp only [Value.slice.injEq, true_and] at e'
      obtain ⟨rfl, rfl⟩ := e'
      obtain ⟨g, o, rfl, hgb, c0'⟩ := hc 0 hpos
      simp only [List.getElem_cons_zero, Nat.add_zero] at c0'
      have c0x := pres_grown HG.out _ _ c0'
      have ht := HALL.out t (HM.out t (by simp))
      have HOF := hide (often_m t r (.slice (some ⟨g, o, none⟩) (t :: r).length c) w5 ((HIR.out.pres (pres_grown HG.out)).mono HG.out.size) (by omega))
      have hnl := oft_le (t :: r)
      have hn1 : 1 ≤ oftS (t :: r) := by rw [oft_cons]; omega
      have hdl : ((t :: r).drop (oftS (t :: r))).length = (t :: r).length - oftS (t :: r) := by simp
      have HGO := hide (grp_oft t r)
      clear hc c0'
      obtain ⟨t, rfl⟩ := Int.eq_ofNat_of_zero_le ht.1
      generalize hoft : oftS ((t : Int) :: r) = n at *
      clear hoft
      generalize hL : (t : Int) :: r = RL at *
      clear hL
      have q0 : (0 : Int) < RL.length := by omega
      have q1 : (n : Int) ≤ RL.length := by omega
      have q2 : (0 : Int) ≤ (n : Int) := by omega
      have q3 : (n : Int) ≤ c := by omega
      have q4 : RL.length ≤ c := hcp
      have q5 : (t : Int) ≤ 63 := ht.2
      have q6 : (n : Int) ≤ 500 := by omega
      have q7 : (G.length : Int) ≤ 500 := by omega
      have HNT := hide (fun u => refnumber_m t u (by omega))
      have HNN := hide (fun u => refnumber_m n u (by omega))
      have eT := wrap_id t (by omega)
      have eN := wrap_id n (by omega)
      have bt := numB_le (n := t) (by omega)
      have bn := numB_le (n := n) (by omega)
      obtain ⟨Z1, hZ1⟩ : ∃ Y, G.flatMap runB ++ numB t = Y := ⟨_, rfl⟩
      obtain ⟨Z2, hZ2⟩ : ∃ Y, Z1 ++ numB n = Y := ⟨_, rfl⟩
      have l1 : Z1.length ≤ 20 * G.length + 10 := by rw [← hZ1, List.length_append]; omega
      have l2 : Z2.length ≤ 20 * G.length + 20 := by rw [← hZ2, List.length_append]; omega
      have z1 := cat_to hZ1 (by omega)
      have z2 := cat_to hZ2 (by omega)
      have HZ : Hid ((G ++ [((t : Int), (n : Int))]).flatMap runB = Z2) := by
        unfold Hid; rw [← hZ2, ← hZ1]; simp [runB, wInt]
      have HDL := hide hdl
      have END : Hid (∀ (w' : World), Hid (w.grownBy w' none) → ∃ (a : Option Addr) (c_1 : Nat) (rest : List Int) (G' : List (Int × Int)), Value.int .i64 ((G.length : Int) + 1) = .int .i64 G'.length ∧ Value.string (bs Z2) = .string (bs (G'.flatMap runB)) ∧ Value.slice (if c = n then some { block := g, off := o } else some { block := g, off := o + n }) (RL.length - n) (c - n) = .slice a rest.length c_1 ∧ Hid (IntsAt w.heap.size w (.slice a rest.length c_1) rest) ∧ Hid (w.grownBy w' none) ∧ Hid (G' ++ grp rest = grp s) ∧ Hid (∀ x ∈ rest, x ∈ s) ∧ G'.length + rest.length ≤ 500 ∧ (G'.flatMap runB).length ≤ 20 * G'.length) := by
        intro w' hg'
        have hd := HDL.out
        refine ⟨_, c - n, RL.drop n, G ++ [((t : Int), (n : Int))], by simp, by rw [HZ.out], by rw [hd], ?_, hg', ?_, ?_, by rw [hd, List.length_append]; simp; omega, by rw [HZ.out, List.length_append]; simp; omega⟩
        · rw [hd]
          exact hide (HIR.out.tail n hnl _ (fun h => by rw [if_neg (by omega)]))
        · unfold Hid; rw [← HGR.out, HGO.out]; simp
        · exact hide (fun x hx => HM.out x (List.mem_of_mem_drop hx))
      clear hZ1 hZ2 l1 l2 hdl HZ
      go_upto_region 23 with (go_at_call 52; refine HOF.out.mono ?_; rintro e w6 ⟨rfl, hg6⟩; have HG6 := hide (grown_trans HG.out hg6); have c6 := pres_grown hg6 _ _ c0x; clear hg6)
      go_upto_region 24 with (go_at_call 50; first | (refine (HNT.out _).mono ?_; clear HNT; rintro e w7 ⟨rfl, hg7⟩; have HG7 := hide (grown_trans HG6.out hg7); clear hg7) | (refine (HNN.out _).mono ?_; clear HNN; rintro e w8 ⟨rfl, hg8⟩; have HG8 := hide (grown_trans HG7.out hg8); clear hg8))
      go_wp2_with fail
      go_roundw
      case rel => exact END.out _ HG8
      case measure => simp [lenOf]; omega

end Go.Proofs.YtklenjmfalljgaaDoor

/- The reference's Check: pure, and its walk. -/
namespace Go.Proofs.YtklenjmfalljgaaDoor
open Go.RowKit
attribute [local go_sem] Go.World.cell?_alloc_some

def shapeR (op : Int) : Int × Int × Int :=
  if op = 1 then (4, 0, 1) else if 2 ≤ op ∧ op ≤ 7 then (4, 4, 0) else if op = 8 then (4, 0, 2) else if op = 9 ∨ op = 10 then (3, 0, 0) else if op = 11 then (4, 0, 0) else (-1, 0, 0)
def belowR (v n : Int) : Bool := v == 0 || (decide (0 < v) && decide (v < n))
def placeR (c v n : Int) : Bool := c == 1 || v == 0 || (c == 2 && decide (0 < v) && decide (v ≤ n))
def insR (i : Ins) (n : Int) : Bool := !decide ((shapeR i.op).1 < 0) && belowR i.a (shapeR i.op).1 && belowR i.b (shapeR i.op).2.1 && placeR (shapeR i.op).2.2 i.n n

theorem belowR_four (v : Int) : belowR v 4 = belowB v 4 := by
  unfold belowR belowB; rw [Bool.eq_iff_iff]; simp; omega
theorem belowR_three (v : Int) : belowR v 3 = belowB v 3 := by
  unfold belowR belowB; rw [Bool.eq_iff_iff]; simp; omega
theorem belowR_zero (v : Int) : belowR v 0 = (v == 0) := by
  unfold belowR; rw [Bool.eq_iff_iff]; simp; omega
theorem placeR_two (v n : Int) (hn : 0 ≤ n) : placeR 2 v n = belowB v (n + 1) := by
  unfold placeR belowB; rw [Bool.eq_iff_iff]; simp; omega
theorem insR_eq (i : Ins) (n : Int) (hn : 0 ≤ n) : insR i n = vIns i n := by
  obtain ⟨op, a, b, m⟩ := i
  by_cases h : 1 ≤ op ∧ op ≤ 11
  · have hc : op = 1 ∨ op = 2 ∨ op = 3 ∨ op = 4 ∨ op = 5 ∨ op = 6 ∨ op = 7 ∨ op = 8 ∨ op = 9 ∨ op = 10 ∨ op = 11 := by omega
    have z0 : placeR 0 m n = (m == 0) := by unfold placeR; simp
    have z1 : placeR 1 m n = true := by unfold placeR; simp
    have z2 := placeR_two m n hn
    rcases hc with rfl | rfl | rfl | rfl | rfl | rfl | rfl | rfl | rfl | rfl | rfl <;> simp [insR, vIns, shapeR, shp, fitsB, belowR_four, belowR_three, belowR_zero, z0, z1, z2, Bool.and_assoc]
  · have hs : shapeR op = (-1, 0, 0) := by
      unfold shapeR
      rw [if_neg (by omega), if_neg (by omega), if_neg (by omega), if_neg (by omega), if_neg (by omega)]
    have hv : vIns ⟨op, a, b, m⟩ n = false := by
      simp only [vIns]
      by_cases h1 : 1 ≤ op
      · have : ¬ op ≤ 11 := by omega
        simp [this]
      · simp [h1]
    rw [hv]
    simp [insR, hs]

set_option maxHeartbeats 400000 in
theorem rbelow_m (v n : Int) (w : World) : Calls Tryd.prog 84 #[.int .i64 v, .int .i64 n] w fun e w' => e = .returned (.bool (belowR v n)) ∧ w' = w := by
  by_cases h0 : v = 0
  · have HB : Hid (belowR v n = true) := by unfold Hid belowR; simp [h0]
    subst h0
    go_enter Tryd.func84, Tryd.ntmps84
    go_wp2_with fail
    go_ret
    exact ⟨by rw [HB.out]; rfl, rfl⟩
  · have h0' : (v == 0) = false := by simpa using h0
    by_cases h1 : 0 < v
    · by_cases h2 : v < n
      · have HB : Hid (belowR v n = true) := by unfold Hid belowR; simp [h1, h2]
        go_enter Tryd.func84, Tryd.ntmps84
        go_wp2_with fail
        go_ret
        exact ⟨by rw [HB.out]; rfl, rfl⟩
      · have HB : Hid (belowR v n = false) := by unfold Hid belowR; simp [h0, h2]
        have h3 : n ≤ v := by omega
        go_enter Tryd.func84, Tryd.ntmps84
        go_wp2_with fail
        go_ret
        exact ⟨by rw [HB.out]; rfl, rfl⟩
    · have HB : Hid (belowR v n = false) := by unfold Hid belowR; simp [h0, h1]
      have h3 : v ≤ 0 := by omega
      go_enter Tryd.func84, Tryd.ntmps84
      go_wp2_with fail
      go_ret
      exact ⟨by rw [HB.out]; rfl, rfl⟩

def shapeV (x : Int × Int × Int) : Value := .tuple #[.int .i64 x.1, .int .i64 x.2.1, .int .i64 x.2.2]
set_option maxHeartbeats 1000000 in
theorem shape_m (op : Int) (w : World) : Calls Tryd.prog 83 #[.int .i64 op] w fun e w' => e = .returned (shapeV (shapeR op)) ∧ w' = w := by
  by_cases h : 1 ≤ op ∧ op ≤ 11
  · have hc : op = 1 ∨ op = 2 ∨ op = 3 ∨ op = 4 ∨ op = 5 ∨ op = 6 ∨ op = 7 ∨ op = 8 ∨ op = 9 ∨ op = 10 ∨ op = 11 := by omega
    rcases hc with rfl | rfl | rfl | rfl | rfl | rfl | rfl | rfl | rfl | rfl | rfl
    all_goals
      go_enter Tryd.func83, Tryd.ntmps83
      go_wp2_with fail
      refine bodyPost_ret (v := shapeV (shapeR _)) (by simp [results, Tryd.results83, go_sem, shapeV, shapeR]) rfl ⟨rfl, rfl⟩
  · have hs : shapeR op = (-1, 0, 0) := by
      unfold shapeR
      rw [if_neg (by omega), if_neg (by omega), if_neg (by omega), if_neg (by omega), if_neg (by omega)]
    have n1 : (op == 1) = false := by simp; omega
    have n2 : (op == 2) = false := by simp; omega
    have n3 : (op == 3) = false := by simp; omega
    have n4 : (op == 4) = false := by simp; omega
    have n5 : (op == 5) = false := by simp; omega
    have n6 : (op == 6) = false := by simp; omega
    have n7 : (op == 7) = false := by simp; omega
    have n8 : (op == 8) = false := by simp; omega
    have n9 : (op == 9) = false := by simp; omega
    have n10 : (op == 10) = false := by simp; omega
    have n11 : (op == 11) = false := by simp; omega
    rw [hs]
    clear hs h
    go_enter Tryd.func83, Tryd.ntmps83
    go_wp2_with fail
    refine bodyPost_ret (v := shapeV (-1, 0, 0)) (by simp [results, Tryd.results83, go_sem, shapeV]) rfl ⟨rfl, rfl⟩

end Go.Proofs.YtklenjmfalljgaaDoor
