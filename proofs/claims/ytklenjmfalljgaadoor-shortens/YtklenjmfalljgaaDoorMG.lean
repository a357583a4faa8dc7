/- The texts Rfd Rfe Rff Rfg Rfh Eq4 Ask Ins Prg Prg2 PureC Cut Cct Frm Frn Fro Frq Svd Sho Fld. -/
import Derived.Test.YtklenjmfalljgaaDoorMF
import Derived.Deep.AppendLies
import Derived.ChangeKeysEq
import Derived.Deep.DeepCutAuto
import Derived.Lib.AppendZeros
import Derived.RowKit

/- The reference's run in memory; the beginning of its step. -/
namespace Go.Proofs.YtklenjmfalljgaaDoor
open Go.RowKit
attribute [local go_sem] Go.World.cell?_alloc_some

def ownR (s : St) (l : Nat) : Int := if s.held l = true then s.own l else -1
def atF (n : Nat) (s : St) : List Value := (List.range n).map fun t => .int .i64 (s.next t)

def runC (ps : Value) (ab rb n : Nat) (st : Value) (s : St) (k th a : Int) : Array Value :=
  #[ps, .slice (some ⟨ab, 0, none⟩) n n, .slice (some ⟨rb, 0, none⟩) n n, .int .i64 (s.vars 0), .int .i64 (s.vars 1), .int .i64 (s.vars 2), .int .i64 (s.vars 3),
    .int .i64 (ownR s 0), .int .i64 (ownR s 1), .int .i64 (ownR s 2), st, .int .i64 k, .int .i64 th, .int .i64 a]

/-- The reference's run, in memory. -/
structure RunAt (w0 w : World) (b ab rb n : Nat) (ps st : Value) (s : St) (acc : List (Int × Int)) (k th a : Int) : Prop where
  main : w.heap[b]? = some (.cells (runC ps ab rb n st s k th a) 179 (0, 0))
  ats : ∃ ty, w.heap[ab]? = some (.cells (atF n s).toArray ty (0, 0))
  regs : w.heap[rb]? = some (.cells (regsF n s).toArray 34 (0, 0))
  row : w.ownsRow (b + 1) 48 2 st acc.length (flatS acc)
  frame : w0.grownBy w none
  ab0 : w0.heap.size ≤ ab
  rb0 : w0.heap.size ≤ rb
  abb : ab < b
  rbb : rb < b
  ne : ab ≠ rb

theorem lt_n4 {n t : Nat} (hn : n ≤ 4) (h : t < n) : (n = 1 ∧ t = 0) ∨ (n = 2 ∧ t = 0) ∨ (n = 2 ∧ t = 1) ∨ (n = 3 ∧ t = 0) ∨ (n = 3 ∧ t = 1) ∨ (n = 3 ∧ t = 2) ∨ (n = 4 ∧ t = 0) ∨ (n = 4 ∧ t = 1) ∨ (n = 4 ∧ t = 2) ∨ (n = 4 ∧ t = 3) := by omega

theorem atF_set (s : St) {n t : Nat} (hn : n ≤ 4) (h : t < n) (v : Int) : (atF n s).toArray.setIfInBounds t (.int .i64 v) = (atF n (s.setNext t v)).toArray := by
  rcases lt_n4 hn h with ⟨rfl, rfl⟩ | ⟨rfl, rfl⟩ | ⟨rfl, rfl⟩ | ⟨rfl, rfl⟩ | ⟨rfl, rfl⟩ | ⟨rfl, rfl⟩ | ⟨rfl, rfl⟩ | ⟨rfl, rfl⟩ | ⟨rfl, rfl⟩ | ⟨rfl, rfl⟩ <;> rfl
theorem regsF_set (s : St) {n t r : Nat} (hn : n ≤ 4) (h : t < n) (hr : r < 4) (v : Int) : (regsF n s).toArray.setIfInBounds (t * 4 + r) (.int .i64 v) = (regsF n (s.setReg t r v)).toArray := by
  rcases lt_n4 hn h with ⟨rfl, rfl⟩ | ⟨rfl, rfl⟩ | ⟨rfl, rfl⟩ | ⟨rfl, rfl⟩ | ⟨rfl, rfl⟩ | ⟨rfl, rfl⟩ | ⟨rfl, rfl⟩ | ⟨rfl, rfl⟩ | ⟨rfl, rfl⟩ | ⟨rfl, rfl⟩ <;> rcases lt4 hr with rfl | rfl | rfl | rfl <;> rfl

theorem RunAt.cell {w0 w : World} {b ab rb n : Nat} {ps st : Value} {s : St} {acc : List (Int × Int)} {k th a : Int} (h : RunAt w0 w b ab rb n ps st s acc k th a) (j : Nat) :
    w.cell? ⟨b, j, none⟩ = (runC ps ab rb n st s k th a)[j]? ∧ w.frozen? ⟨b, j, none⟩ = false := by
  simp [World.cell?, World.frozen?, h.main]
theorem RunAt.at_ {w0 w : World} {b ab rb n : Nat} {ps st : Value} {s : St} {acc : List (Int × Int)} {k th a : Int} (h : RunAt w0 w b ab rb n ps st s acc k th a) {t : Nat} (ht : t < n) :
    w.cell? ⟨ab, t, none⟩ = some (.int .i64 (s.next t)) ∧ w.frozen? ⟨ab, t, none⟩ = false := by
  obtain ⟨ty, h⟩ := h.ats
  constructor
  · simp [World.cell?, h, atF, ht]
  · simp [World.frozen?, h]
theorem RunAt.reg {w0 w : World} {b ab rb n : Nat} {ps st : Value} {s : St} {acc : List (Int × Int)} {k th a : Int} (h : RunAt w0 w b ab rb n ps st s acc k th a) (hn : n ≤ 4) {t r : Nat} (ht : t < n) (hr : r < 4) :
    w.cell? ⟨rb, t * 4 + r, none⟩ = some (.int .i64 (s.regs t r)) ∧ w.frozen? ⟨rb, t * 4 + r, none⟩ = false := by
  have h := h.regs
  constructor
  · simp only [World.cell?, h]
    rcases lt_n4 hn ht with ⟨rfl, rfl⟩ | ⟨rfl, rfl⟩ | ⟨rfl, rfl⟩ | ⟨rfl, rfl⟩ | ⟨rfl, rfl⟩ | ⟨rfl, rfl⟩ | ⟨rfl, rfl⟩ | ⟨rfl, rfl⟩ | ⟨rfl, rfl⟩ | ⟨rfl, rfl⟩ <;> rcases lt4 hr with rfl | rfl | rfl | rfl <;> rfl
  · simp [World.frozen?, h]

/-- Growth that leaves the run's blocks. -/
theorem RunAt.grown {w0 w w' : World} {b ab rb n : Nat} {ps st : Value} {s : St} {acc : List (Int × Int)} {k th a : Int} (h : RunAt w0 w b ab rb n ps st s acc k th a) (hg : w.grownBy w' none) : RunAt w0 w' b ab rb n ps st s acc k th a := by
  obtain ⟨t1, h1⟩ := h.ats
  have h2 := h.regs
  have B : ∀ i o, w.heap[i]? = some o → w'.heap[i]? = some o := fun i o e => by rw [hg.block i (Array.getElem?_eq_some_iff.1 e).1 (by simp)]; exact e
  exact ⟨B _ _ h.main, ⟨t1, B _ _ h1⟩, B _ _ h2, owns_grown h.row hg (fun _ e => by cases e), grown_trans h.frame hg, h.ab0, h.rb0, h.abb, h.rbb, h.ne⟩

theorem RunAt.setNext {w0 w : World} {b ab rb n : Nat} {ps st : Value} {s : St} {acc : List (Int × Int)} {k th a : Int} (h : RunAt w0 w b ab rb n ps st s acc k th a) (hn : n ≤ 4) {t : Nat} (ht : t < n) (v : Int) :
    RunAt w0 (w.setCell ⟨ab, t, none⟩ (.int .i64 v)) b ab rb n ps st (s.setNext t v) acc k th a := by
  obtain ⟨t1, h1⟩ := h.ats
  have h2 := h.regs
  have := h.abb
  refine ⟨?_, ⟨t1, ?_⟩, ?_, ownsRow_setCell_below h.row (by simp; omega) _, grown_setNew h.frame h.ab0, h.ab0, h.rb0, h.abb, h.rbb, h.ne⟩
  · rw [Below.heap_setCell w _ _ b (by simp; omega)]; exact h.main
  · rw [heap_setCell_same w ab t _ _ _ h1, atF_set s hn ht]
  · rw [Below.heap_setCell w _ _ rb (by simp; exact fun e => h.ne e.symm)]; exact h2

theorem RunAt.setReg {w0 w : World} {b ab rb n : Nat} {ps st : Value} {s : St} {acc : List (Int × Int)} {k th a : Int} (h : RunAt w0 w b ab rb n ps st s acc k th a) (hn : n ≤ 4) {t r : Nat} (ht : t < n) (hr : r < 4) (v : Int) :
    RunAt w0 (w.setCell ⟨rb, t * 4 + r, none⟩ (.int .i64 v)) b ab rb n ps st (s.setReg t r v) acc k th a := by
  obtain ⟨t1, h1⟩ := h.ats
  have h2 := h.regs
  have := h.rbb
  refine ⟨?_, ⟨t1, ?_⟩, ?_, ownsRow_setCell_below h.row (by simp; omega) _, grown_setNew h.frame h.rb0, h.ab0, h.rb0, h.abb, h.rbb, h.ne⟩
  · rw [Below.heap_setCell w _ _ b (by simp; omega)]; exact h.main
  · rw [Below.heap_setCell w _ _ ab (by simp; exact h.ne)]; exact h1
  · rw [heap_setCell_same w rb _ _ _ _ h2, regsF_set s hn ht hr]

/-- A cell of the run's own block is set. -/
theorem RunAt.setMain {w0 w : World} {b ab rb n : Nat} {ps st st' : Value} {s s' : St} {acc acc' : List (Int × Int)} {k th a k' th' a' : Int} (h : RunAt w0 w b ab rb n ps st s acc k th a) {j : Nat} {v : Value}
    (e : (runC ps ab rb n st s k th a).setIfInBounds j v = runC ps ab rb n st' s' k' th' a') (e1 : s'.next = s.next) (e2 : s'.regs = s.regs) (hr : w.ownsRow (b + 1) 48 2 st' acc'.length (flatS acc')) :
    RunAt w0 (w.setCell ⟨b, j, none⟩ v) b ab rb n ps st' s' acc' k' th' a' := by
  obtain ⟨t1, h1⟩ := h.ats
  have h2 := h.regs
  have := h.abb
  have := h.rbb
  refine ⟨?_, ⟨t1, ?_⟩, ?_, ownsRow_setCell_below hr (by simp) _, grown_setNew h.frame (by have := h.ab0; omega), h.ab0, h.rb0, h.abb, h.rbb, h.ne⟩
  · rw [heap_setCell_same w b j _ _ _ h.main, e]
  · rw [Below.heap_setCell w _ _ ab (by simp; omega), h1]; simp [atF, e1]
  · rw [Below.heap_setCell w _ _ rb (by simp; omega), h2]; simp [regsF, e2]

theorem RunAt.setVar {w0 w : World} {b ab rb n : Nat} {ps st : Value} {s : St} {acc : List (Int × Int)} {k th a : Int} (h : RunAt w0 w b ab rb n ps st s acc k th a) {x : Nat} (hx : x < 4) (v : Int) :
    RunAt w0 (w.setCell ⟨b, 3 + x, none⟩ (.int .i64 v)) b ab rb n ps st (s.setVar x v) acc k th a := by
  refine h.setMain ?_ rfl rfl h.row
  rcases lt4 hx with rfl | rfl | rfl | rfl <;> rfl
theorem RunAt.setLock {w0 w : World} {b ab rb n : Nat} {ps st : Value} {s : St} {acc : List (Int × Int)} {k th a : Int} (h : RunAt w0 w b ab rb n ps st s acc k th a) {l : Nat} (hl : l < 3) (hd : Bool) (o : Int) :
    RunAt w0 (w.setCell ⟨b, 7 + l, none⟩ (.int .i64 (if hd = true then o else -1))) b ab rb n ps st (s.setLock l hd o) acc k th a := by
  refine h.setMain ?_ rfl rfl h.row
  rcases lt3 hl with rfl | rfl | rfl <;> rfl

theorem RunAt.like {w0 w w' : World} {b ab rb n : Nat} {ps st : Value} {s : St} {acc : List (Int × Int)} {k th a : Int} (h : RunAt w0 w b ab rb n ps st s acc k th a) (hl : Like w' w) : RunAt w0 w' b ab rb n ps st s acc k th a := h.grown (grown_like (grown_refl _ _) hl)
theorem RunAt.own {w0 w : World} {b ab rb n : Nat} {ps st : Value} {s : St} {acc : List (Int × Int)} {k th a : Int} (h : RunAt w0 w b ab rb n ps st s acc k th a) {l : Nat} (hl : l < 3) : w.cell? ⟨b, 7 + l, none⟩ = some (.int .i64 (ownR s l)) := by
  rw [(h.cell _).1]; rcases lt3 hl with rfl | rfl | rfl <;> rfl
theorem RunAt.var {w0 w : World} {b ab rb n : Nat} {ps st : Value} {s : St} {acc : List (Int × Int)} {k th a : Int} (h : RunAt w0 w b ab rb n ps st s acc k th a) {l : Nat} (hl : l < 4) : w.cell? ⟨b, 3 + l, none⟩ = some (.int .i64 (s.vars l)) := by
  rw [(h.cell _).1]; rcases lt4 hl with rfl | rfl | rfl | rfl <;> rfl
theorem setReg_self (s : St) (t r : Nat) : s.setReg t r (s.regs t r) = s := by
  obtain ⟨a, b, c, d, e⟩ := s
  simp only [St.setReg, St.mk.injEq, true_and, and_true]
  funext t' r'
  by_cases h : t' = t ∧ r' = r
  · simp [h.1, h.2]
  · simp [h]

theorem owns_lt_size {w : World} {base : Nat} {e : TypeId} {size : Nat} {v : Value} {n : Nat} {xs : List Value} (h : w.ownsRow base e size v n xs) : v.ownBlock ≠ some w.heap.size := by
  rcases h.2 with ⟨e1, _⟩ | ⟨g', cap', cur, hv, hb, hh, _⟩
  · rw [e1]; simp [Value.ownBlock]
  · rw [hv]
    have := (Array.getElem?_eq_some_iff.1 hh).1
    simp [Value.ownBlock]
    omega

theorem RunAt.push {w0 w w5 : World} {b ab rb n : Nat} {ps st nst : Value} {s : St} {acc : List (Int × Int)} {k th a : Int} {x : Int × Int} (h : RunAt w0 w b ab rb n ps st s acc k th a)
    (hg : w.grownBy w5 st.ownBlock) (hown : w5.ownsRow (b + 1) 48 2 nst (acc.length + 1) (flatS acc ++ [.int .i64 x.1, .int .i64 x.2])) :
    RunAt w0 (w5.setCell ⟨b, 10, none⟩ nst) b ab rb n ps nst s (acc ++ [x]) k th a := by
  obtain ⟨t1, h1⟩ := h.ats
  have h2 := h.regs
  have e1 := h.abb
  have e2 := h.rbb
  have e3 := h.ab0
  have hob := owns_block h.row
  have B : ∀ i o, i ≤ b → w.heap[i]? = some o → w5.heap[i]? = some o := fun i o hi e => by
    rw [hg.block i (Array.getElem?_eq_some_iff.1 e).1 (fun e => by have := hob _ e.symm; omega)]; exact e
  refine ⟨?_, ⟨t1, ?_⟩, ?_, ownsRow_setCell_below ?_ (by simp) _, grown_setNew (grown_row h.frame hg (fun q e => by have := hob q e; omega)) (by omega), h.ab0, h.rb0, h.abb, h.rbb, h.ne⟩
  · rw [heap_setCell_same w5 b 10 _ _ _ (B _ _ (Nat.le_refl _) h.main)]; rfl
  · rw [Below.heap_setCell w5 _ _ ab (by simp; omega)]; exact B _ _ (by omega) h1
  · rw [Below.heap_setCell w5 _ _ rb (by simp; omega)]; exact B _ _ (by omega) h2
  · rw [flatS_snoc, List.length_append]; exact hown

set_option maxHeartbeats 4000000 in
set_option maxRecDepth 100000 in
theorem rstep_m (w0 w : World) (b ab rb n cap g o t len c h ho kk : Nat) (st : Value) (s : St) (acc : List (Int × Int)) (k th a : Int) (i : Ins) (hn : n ≤ 4) (ht : t < n) (hlen : len ≤ 16) (hk : kk < len) (hacc : acc.length < 1048576)
    (hR : RunAt w0 w b ab rb n (.slice (some ⟨g, o, none⟩) n cap) st s acc k th a) (hnx : s.next t = kk)
    (hr : w.cell? ⟨g, o + t, none⟩ = some (.slice (some ⟨h, ho, none⟩) len c))
    (y1 : w.cell? ⟨h, ho + kk * 4, none⟩ = some (.int .i64 i.op)) (y2 : w.cell? ⟨h, ho + kk * 4 + 1, none⟩ = some (.int .i64 i.a))
    (y3 : w.cell? ⟨h, ho + kk * 4 + 2, none⟩ = some (.int .i64 i.b)) (y4 : w.cell? ⟨h, ho + kk * 4 + 3, none⟩ = some (.int .i64 i.n)) (hv : vIns i len = true) (s' : St) (hs' : s' = s.setNext t (kk + 1)) (acc' : List (Int × Int)) (ha' : acc' = acc ++ [((t : Int), (kk : Int))]) :
    Calls Tryd.prog 134 #[.pointer (some ⟨b, 0, none⟩), .int .i64 t] w fun e w' => ∃ st', e = .returned (.bool (act t i s').1) ∧
      RunAt w0 w' b ab rb n (.slice (some ⟨g, o, none⟩) n cap) st' (act t i s').2 acc' k th a := by
  have HS := hide hs'
  have HAC := hide ha'
  clear hs' ha'
  obtain ⟨i0, hi0, hz0, hz1, hz2⟩ := info_parts info_step
  have HV := hide (vIns_say hv)
  clear hv
  obtain ⟨op, ia, ib, im⟩ := i
  simp only at *
  have h1 : (0 : Int) ≤ (t : Int) := by omega
  have h3 : (t : Int) < n := by omega
  have h4 : (0 : Int) ≤ (kk : Int) := by omega
  have h5 : (kk : Int) < len := by omega
  have p0 : w.cell? ⟨b, 0, none⟩ = some (.slice (some ⟨g, o, none⟩) n cap) := (hR.cell 0).1
  have p1 : w.cell? ⟨b, 1, none⟩ = some (.slice (some ⟨ab, 0, none⟩) n n) := (hR.cell 1).1
  have a1 : w.cell? ⟨ab, t, none⟩ = some (.int .i64 kk) := by rw [(hR.at_ ht).1, hnx]
  have HR := hide hR
  have HNX := hide hnx
  clear hR hnx
  have n1 := World.new_ne w _ p0
  have n2 := World.new_ne w _ hr
  have n3 := World.new_ne w _ a1
  have n4 := World.new_ne w _ y1
  simp only at n1 n2 n3 n4
  have m1 := Ne.symm n1
  have m2 := Ne.symm n2
  have m3 := Ne.symm n3
  have m4 := Ne.symm n4
  go_enter Tryd.func134, Tryd.ntmps134
  go_wp2
  go_region
  go_upto_region 2 with fail
  have hgI : w.grownBy (w.alloc (.cells #[.int .i64 op, .int .i64 ia, .int .i64 ib, .int .i64 im] 28)).drew none := grown_drew (grown_alloc (grown_refl _ _))
  have hbI : (w.alloc (.cells #[.int .i64 op, .int .i64 ia, .int .i64 ib, .int .i64 im] 28)).drew.heap[w.heap.size]? = some (.cells #[.int .i64 op, .int .i64 ia, .int .i64 ib, .int .i64 im] 28 (0, 0)) := heap_alloc_new w _
  generalize (w.alloc (.cells #[.int .i64 op, .int .i64 ia, .int .i64 ib, .int .i64 im] 28)).drew = w2 at hgI hbI ⊢
  have HR2 := hide (HR.out.grown hgI)
  have hbw : b < w.heap.size := (Array.getElem?_eq_some_iff.1 HR.out.main).1
  have hw2 : w.heap.size < w2.heap.size := (Array.getElem?_eq_some_iff.1 hbI).1
  have HBI := hide hbI
  have HNB : Hid (st.ownBlock ≠ some w.heap.size) := owns_lt_size HR.out.row
  clear hgI hbI p0 p1 a1 hr y1 y2 y3 y4 n1 n2 n3 n4 m1 m2 m3 m4 HR
  obtain ⟨s1, s2, s3, rfl⟩ := owns_form HR2.out.row
  have q1 : w2.cell? ⟨b, 10, none⟩ = some (.slice s1 s2 s3) := (HR2.out.cell 10).1
  have q2 : w2.cell? ⟨b, 1, none⟩ = some (.slice (some ⟨ab, 0, none⟩) n n) := (HR2.out.cell 1).1
  have q3 : w2.cell? ⟨ab, t, none⟩ = some (.int .i64 kk) := by rw [(HR2.out.at_ ht).1, HNX.out]
  refine wp_region_head (fun u => u.cell? ⟨b, 10, none⟩ = some (.slice s1 s2 s3) ∧ u.cell? ⟨b, 1, none⟩ = some (.slice (some ⟨ab, 0, none⟩) n n) ∧ u.cell? ⟨ab, t, none⟩ = some (.int .i64 kk)) 18 (by kernel_rfl) (by kernel_rfl) ?_ ?_
  · exact ⟨q1, q2, q3⟩
  intro hHeld
  refine wpHead_take (i := 0) (v := ?vv0) rfl (by kernel_rfl) (fun _ _ _ h => h) (Or.inl ⟨by rfl, ?hy0⟩) (by assumption) ?rest0
  case hy0 => (intro u hu; obtain ⟨g1, g2, g3⟩ := hu; go_simp; try with_reducible rfl)
  simp only [Act.put, List.setIfInBounds_toArray]
  refine wpHead_take (i := 1) (v := ?vv1) rfl (by kernel_rfl) (fun _ _ _ h => h) (Or.inl ⟨by rfl, ?hy1⟩) (by assumption) ?rest1
  case hy1 => (intro u hu; obtain ⟨g1, g2, g3⟩ := hu; go_simp; try with_reducible rfl)
  simp only [Act.put]
  refine wpHead_take (i := 2) (v := ?vv2) rfl (by kernel_rfl) (fun _ _ _ h => h) (Or.inl ⟨by rfl, ?hy2⟩) (by assumption) ?rest2
  case hy2 => (intro u hu; obtain ⟨g1, g2, g3⟩ := hu; go_simp; try with_reducible rfl)
  simp only [Act.put]
  refine wpHead_take (i := 3) (v := ?vv3) rfl (by kernel_rfl) (fun _ _ _ h => h) (Or.inl ⟨by rfl, ?hy3⟩) (by assumption) ?rest3
  case hy3 => (intro u hu; obtain ⟨g1, g2, g3⟩ := hu; go_simp; try with_reducible rfl)
  simp only [Act.put]
  refine wpHead_take (i := 4) (v := ?vv4) rfl (by kernel_rfl) (fun _ _ _ h => h) (Or.inl ⟨by rfl, ?hy4⟩) (by assumption) ?rest4
  case hy4 => (intro u hu; obtain ⟨g1, g2, g3⟩ := hu; go_simp; try with_reducible rfl)
  simp only [Act.put]
  refine wpHead_take (i := 5) (v := ?vv5) rfl (by kernel_rfl) (fun _ _ _ h => h) (Or.inl ⟨by rfl, ?hy5⟩) (by assumption) ?rest5
  case hy5 => (intro u hu; obtain ⟨g1, g2, g3⟩ := hu; go_simp; try with_reducible rfl)
  simp only [Act.put]
  refine wpHead_take (i := 6) (v := ?vv6) rfl (by kernel_rfl) (fun _ _ _ h => h) (Or.inl ⟨by rfl, ?hy6⟩) (by assumption) ?rest6
  case hy6 => (intro u hu; obtain ⟨g1, g2, g3⟩ := hu; go_simp; try with_reducible rfl)
  simp only [Act.put]
  refine wpHead_take (i := 7) (v := ?vv7) rfl (by kernel_rfl) (fun _ _ _ h => h) (Or.inl ⟨by rfl, ?hy7⟩) (by assumption) ?rest7
  case hy7 => (intro u hu; obtain ⟨g1, g2, g3⟩ := hu; go_simp; try with_reducible rfl)
  simp only [Act.put]
  refine wpHead_take (i := 8) (v := ?vv8) rfl (by kernel_rfl) (fun _ _ _ h => h) (Or.inl ⟨by rfl, ?hy8⟩) (by assumption) ?rest8
  case hy8 => (intro u hu; obtain ⟨g1, g2, g3⟩ := hu; go_simp; try with_reducible rfl)
  simp only [Act.put]
  refine wpHead_take (i := 9) (v := ?vv9) rfl (by kernel_rfl) (fun _ _ _ h => h) (Or.inl ⟨by rfl, ?hy9⟩) (by assumption) ?rest9
  case hy9 => (intro u hu; obtain ⟨g1, g2, g3⟩ := hu; go_simp; try with_reducible rfl)
  simp only [Act.put]
  refine wpHead_take (i := 10) (v := ?vv10) rfl (by kernel_rfl) (fun _ _ _ h => h) (Or.inl ⟨by rfl, ?hy10⟩) (by assumption) ?rest10
  case hy10 => (intro u hu; obtain ⟨g1, g2, g3⟩ := hu; go_simp; try with_reducible rfl)
  simp only [Act.put]
  refine wpHead_take (i := 11) (v := ?vv11) rfl (by kernel_rfl) (fun _ _ _ h => h) (Or.inl ⟨by rfl, ?hy11⟩) (by assumption) ?rest11
  case hy11 => (intro u hu; obtain ⟨g1, g2, g3⟩ := hu; go_simp; try with_reducible rfl)
  simp only [Act.put]
  refine wpHead_take (i := 12) (v := ?vv12) rfl (by kernel_rfl) (fun _ _ _ h => h) (Or.inl ⟨by rfl, ?hy12⟩) (by assumption) ?rest12
  case hy12 => (intro u hu; obtain ⟨g1, g2, g3⟩ := hu; go_simp; try with_reducible rfl)
  simp only [Act.put]
  refine wpHead_take (i := 13) (v := ?vv13) rfl (by kernel_rfl) (fun _ _ _ h => h) (Or.inl ⟨by rfl, ?hy13⟩) (by assumption) ?rest13
  case hy13 => (intro u hu; obtain ⟨g1, g2, g3⟩ := hu; go_simp; try with_reducible rfl)
  simp only [Act.put]
  refine wpHead_alone (i := 14) rfl (by kernel_rfl) (by kernel_rfl) (by rfl) ?_
  intro K15 hK15
  have HK15 := hide hK15
  clear hK15
  go_simp
  have hgA : w2.grownBy ((w2.alloc (.cells #[.int .i64 t, .int .i64 kk] 48)).drew) none := grown_drew (grown_alloc (grown_refl _ _))
  have hS5 : (w2.alloc (.cells #[.int .i64 t, .int .i64 kk] 48)).drew.cell? ⟨b, 10, none⟩ = some (.slice s1 s2 s3) ∧ (w2.alloc (.cells #[.int .i64 t, .int .i64 kk] 48)).drew.cell? ⟨b, 1, none⟩ = some (.slice (some ⟨ab, 0, none⟩) n n) ∧ (w2.alloc (.cells #[.int .i64 t, .int .i64 kk] 48)).drew.cell? ⟨ab, t, none⟩ = some (.int .i64 kk) :=
    ⟨pres_grown hgA _ _ q1, pres_grown hgA _ _ q2, pres_grown hgA _ _ q3⟩
  refine HK15.out _ _ hS5 ?_
  clear HK15
  have HGA := hide hgA
  clear hgA
  have h63 : acc.length + 1 ≤ maxLen := by unfold maxLen; omega
  have hby : (acc.length + 1) * 16 ≤ 140737488355328 := by omega
  refine wpHead_alone (i := 15) rfl (by kernel_rfl) (by kernel_rfl) (by rfl) ?_
  intro K16 hK16
  have HK16 := hide hK16
  clear hK16
  refine wp_append_lies _ (.tmp 30) (.tmp 40) 33 (by rfl) (b + 1) 48 i0 _ 2 16 Tryd.underlying33 hi0 hz0 hz1 hz2 rfl (by omega) (.slice s1 s2 s3) acc.length (flatS acc) (by rfl) (owns_grown HR2.out.row HGA.out (fun _ e => by cases e)) ⟨w2.heap.size, 0, none⟩ 1 1 [.int .i64 t, .int .i64 kk] (by rfl) (by rfl) (World.news_of_block (cs := #[.int .i64 t, .int .i64 kk]) (t := 48) (fr := (0, 0)) (heap_alloc_new w2 _)) (by simp [Value.oneCell']) (by omega) h63 hby (by simp; omega) (w2.heap.size + 1) (by simp) ?_
  intro g2 cap2 w5 hown5 hgrow hat hlt5
  have hob : ∀ q, (Value.slice s1 s2 s3).ownBlock = some q → b + 1 ≤ q := fun q e => owns_block HR2.out.row q e
  have hS6 : w5.cell? ⟨b, 10, none⟩ = some (.slice s1 s2 s3) ∧ w5.cell? ⟨b, 1, none⟩ = some (.slice (some ⟨ab, 0, none⟩) n n) ∧ w5.cell? ⟨ab, t, none⟩ = some (.int .i64 kk) := by
    obtain ⟨z1, z2, z3⟩ := hS5
    have := HR2.out.abb
    refine ⟨?_, ?_, ?_⟩
    · rw [hgrow.cell_far _ (World.block_lt_of_cell? _ _ z1) (fun e => by have := hob _ e.symm; simp only at this; omega)]; exact z1
    · rw [hgrow.cell_far _ (World.block_lt_of_cell? _ _ z2) (fun e => by have := hob _ e.symm; simp only at this; omega)]; exact z2
    · rw [hgrow.cell_far _ (World.block_lt_of_cell? _ _ z3) (fun e => by have := hob _ e.symm; simp only at this; omega)]; exact z3
  have HR6 : Hid (RunAt w0 (w5.setCell ⟨b, 10, none⟩ (.slice (some ⟨g2, 0, none⟩) (acc.length + 1) cap2)) b ab rb n (.slice (some ⟨g, o, none⟩) n cap) (.slice (some ⟨g2, 0, none⟩) (acc.length + 1) cap2) s (acc ++ [((t : Int), (kk : Int))]) k th a) :=
    RunAt.push HR2.out (grown_trans (grown_none HGA.out) hgrow) hown5
  have HBI6 : Hid ((w5.setCell ⟨b, 10, none⟩ (.slice (some ⟨g2, 0, none⟩) (acc.length + 1) cap2)).heap[w.heap.size]? = some (.cells #[.int .i64 op, .int .i64 ia, .int .i64 ib, .int .i64 im] 28 (0, 0))) := by
    unfold Hid
    have hnb : (Value.slice s1 s2 s3).ownBlock ≠ some w.heap.size := HNB.out
    rw [Below.heap_setCell _ _ _ _ (by simp; omega), hgrow.block _ (by have := HGA.out.size; omega) (fun e => hnb e.symm), HGA.out.block _ (by omega) (by simp)]
    exact HBI.out
  have f10 : w5.frozen? ⟨b, 10, none⟩ = false := by
    have := HR2.out.main
    have := hgrow.block b (by have := HGA.out.size; omega) (fun e => by have := hob _ e.symm; omega)
    simp [World.frozen?, this, HGA.out.block b (by omega) (by simp), HR2.out.main]
  clear hown5 hgrow hat
  refine HK16.out _ _ hS6 ?_
  clear HK16
  simp only [Act.put, List.setIfInBounds_toArray]
  refine wpHead_take (i := 16) (v := ?vv16) rfl (by kernel_rfl) (fun _ _ _ h => h) (Or.inl ⟨by rfl, ?hy16⟩) (by assumption) ?rest16
  case hy16 => (intro u hu; obtain ⟨g1, g2, g3⟩ := hu; go_simp; try with_reducible rfl)
  simp only [Act.put]
  refine wpHead_take (i := 17) (v := ?vv17) rfl (by kernel_rfl) (fun _ _ _ h => h) (Or.inl ⟨by rfl, ?hy17⟩) (by assumption) ?rest17
  case hy17 => (intro u hu; obtain ⟨g1, g2, g3⟩ := hu; go_simp; try with_reducible rfl)
  simp only [Act.put]
  refine wpHead_last rfl (by kernel_rfl) (by kernel_rfl) (by rfl) ?_
  obtain ⟨z1, z2, z3⟩ := hS6
  clear hHeld hS5 q1 q2 q3 HR2 HBI HGA hob
  go_simp
  clear z1 z2 z3 f10
  generalize w5.setCell ⟨b, 10, none⟩ (.slice (some ⟨g2, 0, none⟩) (acc.length + 1) cap2) = w6 at HR6 HBI6 ⊢
  have b1 : w6.cell? ⟨b, 1, none⟩ = some (.slice (some ⟨ab, 0, none⟩) n n) := (HR6.out.cell 1).1
  have b2 : w6.cell? ⟨b, 2, none⟩ = some (.slice (some ⟨rb, 0, none⟩) n n) := (HR6.out.cell 2).1
  have a6 : w6.cell? ⟨ab, t, none⟩ = some (.int .i64 kk) := by rw [(HR6.out.at_ ht).1, HNX.out]
  have a6f := (HR6.out.at_ ht).2
  have e1 : ab ≠ b := by have := HR6.out.abb; omega
  have e2 : b ≠ ab := Ne.symm e1
  have k16 : (kk : Int) < 16 := by omega
  go_upto_region 5 with fail
  have hR7 := HR6.out.setNext hn ht ((kk : Int) + 1)
  rw [← HS.out, ← HAC.out] at hR7
  have HR7 := hide hR7
  clear hR7
  have hnb : w.heap.size ≠ ab := by have := HR6.out.abb; omega
  have HB7 : Hid ((w6.setCell ⟨ab, t, none⟩ (.int .i64 ((kk : Int) + 1))).heap[w.heap.size]? = some (.cells #[.int .i64 op, .int .i64 ia, .int .i64 ib, .int .i64 im] 28 (0, 0))) := by
    unfold Hid
    rw [Below.heap_setCell _ _ _ _ (by simp; exact hnb)]; exact HBI6.out
  generalize w6.setCell ⟨ab, t, none⟩ (.int .i64 ((kk : Int) + 1)) = w7 at HR7 HB7 ⊢
  generalize Value.slice (some ⟨g2, 0, none⟩) (acc.length + 1) cap2 = st7 at *
  clear HS HAC HR6 HBI6 b1 b2 a6 a6f h4 h5 k16 HNX HNB h63 hby
  have x0 : w7.cell? ⟨w.heap.size, 0, none⟩ = some (.int .i64 op) := by have := HB7.out; simp [World.cell?, this]
  have x1 : w7.cell? ⟨w.heap.size, 1, none⟩ = some (.int .i64 ia) := by have := HB7.out; simp [World.cell?, this]
  have x2 : w7.cell? ⟨w.heap.size, 2, none⟩ = some (.int .i64 ib) := by have := HB7.out; simp [World.cell?, this]
  have x3 : w7.cell? ⟨w.heap.size, 3, none⟩ = some (.int .i64 im) := by have := HB7.out; simp [World.cell?, this]
  have HVo := HV.out
  clear HV
  rcases HVo with H | H | H | H | H | H | H | H | H | H | H
  · obtain ⟨rfl, e3, e4⟩ := H
    obtain ⟨r, rfl⟩ : ∃ r : Nat, ia = r := ⟨ia.toNat, by omega⟩
    have hr4 : r < 4 := by omega
    obtain ⟨c1, c2⟩ := HR7.out.reg hn ht hr4
    have HA : Hid (act t ⟨1, r, ib, im⟩ s' = (true, s'.setReg t r im)) := by simp [Hid, act]
    go_wp2
    go_region
    go_wp2
    go_ret
    exact ⟨st7, by rw [HA.out]; rfl, by rw [HA.out]; exact (HR7.out.setReg hn ht hr4 im).like ⟨rfl, rfl, rfl, rfl⟩⟩
  · obtain ⟨rfl, e3, e4, e5, e6⟩ := H
    obtain ⟨r, rfl⟩ : ∃ r : Nat, ia = r := ⟨ia.toNat, by omega⟩
    obtain ⟨v, rfl⟩ : ∃ v : Nat, ib = v := ⟨ib.toNat, by omega⟩
    have hr4 : r < 4 := by omega
    have hv4 : v < 4 := by omega
    obtain ⟨c1, c2⟩ := HR7.out.reg hn ht hr4
    have c3 := HR7.out.var hv4
    have HA : Hid (act t ⟨2, r, v, im⟩ s' = (true, s'.setReg t r (s'.vars v))) := by simp [Hid, act]
    go_wp2
    go_region
    go_wp2
    go_ret
    exact ⟨st7, by rw [HA.out]; rfl, by rw [HA.out]; exact (HR7.out.setReg hn ht hr4 _).like ⟨rfl, rfl, rfl, rfl⟩⟩
  · obtain ⟨rfl, e3, e4, e5, e6⟩ := H
    obtain ⟨r, rfl⟩ : ∃ r : Nat, ia = r := ⟨ia.toNat, by omega⟩
    obtain ⟨v, rfl⟩ : ∃ v : Nat, ib = v := ⟨ib.toNat, by omega⟩
    have hr4 : r < 4 := by omega
    have hv4 : v < 4 := by omega
    obtain ⟨c1, c2⟩ := HR7.out.reg hn ht hv4
    have c3 := HR7.out.var hr4
    have c4 := (HR7.out.cell (3 + r)).2
    have HA : Hid (act t ⟨3, r, v, im⟩ s' = (true, s'.setVar r (s'.regs t v))) := by simp [Hid, act]
    go_wp2
    go_region
    go_wp2
    go_ret
    exact ⟨st7, by rw [HA.out]; rfl, by rw [HA.out]; exact (HR7.out.setVar hr4 _).like ⟨rfl, rfl, rfl, rfl⟩⟩
  · obtain ⟨rfl, e3, e4, e5, e6⟩ := H
    obtain ⟨r, rfl⟩ : ∃ r : Nat, ia = r := ⟨ia.toNat, by omega⟩
    obtain ⟨v, rfl⟩ : ∃ v : Nat, ib = v := ⟨ib.toNat, by omega⟩
    have hr4 : r < 4 := by omega
    have hv4 : v < 4 := by omega
    obtain ⟨c1, c2⟩ := HR7.out.reg hn ht hr4
    obtain ⟨c3, c4⟩ := HR7.out.reg hn ht hv4
    have HA : Hid (act t ⟨4, r, v, im⟩ s' = ((reckonR 4 (s'.regs t r) (s'.regs t v)).2, s'.setReg t r (reckonR 4 (s'.regs t r) (s'.regs t v)).1)) := by
      simp [Hid, act, reckonR]
    have HCK : Hid (∀ u, Calls Tryd.prog 170 #[.int .i64 4, .int .i64 (s'.regs t r), .int .i64 (s'.regs t v)] u fun e w' => e = .returned (.tuple #[.int .i64 (reckonR 4 (s'.regs t r) (s'.regs t v)).1, .bool (reckonR 4 (s'.regs t r) (s'.regs t v)).2]) ∧ w' = u) := fun u => reckon_m 4 _ _ u (by omega)
    generalize reckonR 4 (s'.regs t r) (s'.regs t v) = rk at *
    obtain ⟨rk1, rk2⟩ := rk
    simp only at HA HCK
    go_wp2_with fail
    go_quiet ((go_at_call 170; exact Calls.quiet_of_same (HCK.out _)))
    go_wp2
    go_region
    go_wp2
    go_ret
    exact ⟨st7, by rw [HA.out]; rfl, by rw [HA.out]; exact (HR7.out.setReg hn ht hr4 _).like ⟨rfl, rfl, rfl, rfl⟩⟩
  · obtain ⟨rfl, e3, e4, e5, e6⟩ := H
    obtain ⟨r, rfl⟩ : ∃ r : Nat, ia = r := ⟨ia.toNat, by omega⟩
    obtain ⟨v, rfl⟩ : ∃ v : Nat, ib = v := ⟨ib.toNat, by omega⟩
    have hr4 : r < 4 := by omega
    have hv4 : v < 4 := by omega
    obtain ⟨c1, c2⟩ := HR7.out.reg hn ht hr4
    obtain ⟨c3, c4⟩ := HR7.out.reg hn ht hv4
    have HA : Hid (act t ⟨5, r, v, im⟩ s' = ((reckonR 5 (s'.regs t r) (s'.regs t v)).2, s'.setReg t r (reckonR 5 (s'.regs t r) (s'.regs t v)).1)) := by
      simp [Hid, act, reckonR]
    have HCK : Hid (∀ u, Calls Tryd.prog 170 #[.int .i64 5, .int .i64 (s'.regs t r), .int .i64 (s'.regs t v)] u fun e w' => e = .returned (.tuple #[.int .i64 (reckonR 5 (s'.regs t r) (s'.regs t v)).1, .bool (reckonR 5 (s'.regs t r) (s'.regs t v)).2]) ∧ w' = u) := fun u => reckon_m 5 _ _ u (by omega)
    generalize reckonR 5 (s'.regs t r) (s'.regs t v) = rk at *
    obtain ⟨rk1, rk2⟩ := rk
    simp only at HA HCK
    go_wp2_with fail
    go_quiet ((go_at_call 170; exact Calls.quiet_of_same (HCK.out _)))
    go_wp2
    go_region
    go_wp2
    go_ret
    exact ⟨st7, by rw [HA.out]; rfl, by rw [HA.out]; exact (HR7.out.setReg hn ht hr4 _).like ⟨rfl, rfl, rfl, rfl⟩⟩
  · obtain ⟨rfl, e3, e4, e5, e6⟩ := H
    obtain ⟨r, rfl⟩ : ∃ r : Nat, ia = r := ⟨ia.toNat, by omega⟩
    obtain ⟨v, rfl⟩ : ∃ v : Nat, ib = v := ⟨ib.toNat, by omega⟩
    have hr4 : r < 4 := by omega
    have hv4 : v < 4 := by omega
    obtain ⟨c1, c2⟩ := HR7.out.reg hn ht hr4
    obtain ⟨c3, c4⟩ := HR7.out.reg hn ht hv4
    have HA : Hid (act t ⟨6, r, v, im⟩ s' = ((reckonR 6 (s'.regs t r) (s'.regs t v)).2, s'.setReg t r (reckonR 6 (s'.regs t r) (s'.regs t v)).1)) := by
      simp [Hid, act, reckonR]
    have HCK : Hid (∀ u, Calls Tryd.prog 170 #[.int .i64 6, .int .i64 (s'.regs t r), .int .i64 (s'.regs t v)] u fun e w' => e = .returned (.tuple #[.int .i64 (reckonR 6 (s'.regs t r) (s'.regs t v)).1, .bool (reckonR 6 (s'.regs t r) (s'.regs t v)).2]) ∧ w' = u) := fun u => reckon_m 6 _ _ u (by omega)
    generalize reckonR 6 (s'.regs t r) (s'.regs t v) = rk at *
    obtain ⟨rk1, rk2⟩ := rk
    simp only at HA HCK
    go_wp2_with fail
    go_quiet ((go_at_call 170; exact Calls.quiet_of_same (HCK.out _)))
    go_wp2
    go_region
    go_wp2
    go_ret
    exact ⟨st7, by rw [HA.out]; rfl, by rw [HA.out]; exact (HR7.out.setReg hn ht hr4 _).like ⟨rfl, rfl, rfl, rfl⟩⟩
  · obtain ⟨rfl, e3, e4, e5, e6⟩ := H
    obtain ⟨r, rfl⟩ : ∃ r : Nat, ia = r := ⟨ia.toNat, by omega⟩
    obtain ⟨v, rfl⟩ : ∃ v : Nat, ib = v := ⟨ib.toNat, by omega⟩
    have hr4 : r < 4 := by omega
    have hv4 : v < 4 := by omega
    obtain ⟨c1, c2⟩ := HR7.out.reg hn ht hr4
    obtain ⟨c3, c4⟩ := HR7.out.reg hn ht hv4
    have HA : Hid (act t ⟨7, r, v, im⟩ s' = ((reckonR 7 (s'.regs t r) (s'.regs t v)).2, s'.setReg t r (reckonR 7 (s'.regs t r) (s'.regs t v)).1)) := by
      unfold Hid
      by_cases hz : s'.regs t v = 0
      · simp [act, reckonR, hz, setReg_self]
      · simp [act, reckonR, hz]
    have HCK : Hid (∀ u, Calls Tryd.prog 170 #[.int .i64 7, .int .i64 (s'.regs t r), .int .i64 (s'.regs t v)] u fun e w' => e = .returned (.tuple #[.int .i64 (reckonR 7 (s'.regs t r) (s'.regs t v)).1, .bool (reckonR 7 (s'.regs t r) (s'.regs t v)).2]) ∧ w' = u) := fun u => reckon_m 7 _ _ u (by omega)
    generalize reckonR 7 (s'.regs t r) (s'.regs t v) = rk at *
    obtain ⟨rk1, rk2⟩ := rk
    simp only at HA HCK
    go_wp2_with fail
    go_quiet ((go_at_call 170; exact Calls.quiet_of_same (HCK.out _)))
    go_wp2
    go_region
    go_wp2
    go_ret
    exact ⟨st7, by rw [HA.out]; rfl, by rw [HA.out]; exact (HR7.out.setReg hn ht hr4 _).like ⟨rfl, rfl, rfl, rfl⟩⟩
  · obtain ⟨rfl, e3, e4, e5, e6⟩ := H
    obtain ⟨r, rfl⟩ : ∃ r : Nat, ia = r := ⟨ia.toNat, by omega⟩
    have hr4 : r < 4 := by omega
    obtain ⟨c1, c2⟩ := HR7.out.reg hn ht hr4
    have b1 : w7.cell? ⟨b, 1, none⟩ = some (.slice (some ⟨ab, 0, none⟩) n n) := (HR7.out.cell 1).1
    obtain ⟨c3, c4⟩ := HR7.out.at_ ht
    by_cases hz : s'.regs t r = 0
    · have HA : Hid (act t ⟨8, r, ib, im⟩ s' = (true, s'.setNext t im)) := by simp [Hid, act, hz]
      rw [hz] at c1
      clear hz
      go_wp2
      go_quiet (fail)
      go_wp2
      go_region
      go_wp2
      go_ret
      exact ⟨st7, by rw [HA.out]; rfl, by rw [HA.out]; exact (HR7.out.setNext hn ht _).like ⟨rfl, rfl, rfl, rfl⟩⟩
    · have HA : Hid (act t ⟨8, r, ib, im⟩ s' = (true, s')) := by simp [Hid, act, hz]
      have hz' : (s'.regs t r == 0) = false := by simpa using hz
      go_wp2
      go_quiet (fail)
      go_wp2
      go_ret
      exact ⟨st7, by rw [HA.out]; rfl, by rw [HA.out]; exact HR7.out.like ⟨rfl, rfl, rfl, rfl⟩⟩
  · obtain ⟨rfl, e3, e4⟩ := H
    obtain ⟨r, rfl⟩ : ∃ r : Nat, ia = r := ⟨ia.toNat, by omega⟩
    have hr3 : r < 3 := by omega
    have c1 := HR7.out.own hr3
    have c2 := (HR7.out.cell (7 + r)).2
    have HA : Hid (act t ⟨9, r, ib, im⟩ s' = (true, s'.setLock r true t)) := by simp [Hid, act]
    go_wp2
    go_region
    go_wp2
    go_ret
    exact ⟨st7, by rw [HA.out]; rfl, by rw [HA.out]; exact (HR7.out.setLock hr3 true t).like ⟨rfl, rfl, rfl, rfl⟩⟩
  · obtain ⟨rfl, e3, e4⟩ := H
    obtain ⟨r, rfl⟩ : ∃ r : Nat, ia = r := ⟨ia.toNat, by omega⟩
    have hr3 : r < 3 := by omega
    have c1 := HR7.out.own hr3
    have c2 := (HR7.out.cell (7 + r)).2
    by_cases hz : s'.held r = true ∧ s'.own r = t
    · have HA : Hid (act t ⟨10, r, ib, im⟩ s' = (true, s'.setLock r false 0)) := by simp [Hid, act, hz]
      have hq : ownR s' r = t := by simp [ownR, hz.1, hz.2]
      rw [hq] at c1
      clear hz hq
      go_wp2
      go_quiet (fail)
      go_wp2
      go_region
      go_wp2
      go_ret
      exact ⟨st7, by rw [HA.out]; rfl, by rw [HA.out]; exact (HR7.out.setLock hr3 false 0).like ⟨rfl, rfl, rfl, rfl⟩⟩
    · have HA : Hid (act t ⟨10, r, ib, im⟩ s' = (false, s')) := by
        unfold Hid
        simp only [act]
        simp [hz]
      have hz' : (ownR s' r != (t : Int)) = true := by
        unfold ownR
        by_cases hh : s'.held r = true
        · simp only [hh, if_true]
          have : ¬ s'.own r = t := fun e => hz ⟨hh, e⟩
          simpa using this
        · simp only [hh]
          simp <;> omega
      clear hz
      go_wp2
      go_quiet (fail)
      go_wp2
      go_ret
      exact ⟨st7, by rw [HA.out]; rfl, by rw [HA.out]; exact HR7.out.like ⟨rfl, rfl, rfl, rfl⟩⟩
  · obtain ⟨rfl, e3, e4⟩ := H
    obtain ⟨r, rfl⟩ : ∃ r : Nat, ia = r := ⟨ia.toNat, by omega⟩
    have hr4 : r < 4 := by omega
    obtain ⟨c1, c2⟩ := HR7.out.reg hn ht hr4
    have HA : Hid (act t ⟨11, r, ib, im⟩ s' = (s'.regs t r != 0, s')) := by simp [Hid, act]
    go_wp2
    go_quiet (fail)
    go_wp2
    go_ret
    exact ⟨st7, by rw [HA.out]; rfl, by rw [HA.out]; exact HR7.out.like ⟨rfl, rfl, rfl, rfl⟩⟩

end Go.Proofs.YtklenjmfalljgaaDoor

/- The reference's run against the pure machine: done, ready, step. -/
namespace Go.Proofs.YtklenjmfalljgaaDoor
open Go.RowKit

def LkOk (s : St) : Prop := ∀ l, s.held l = true → 0 ≤ s.own l
theorem LkOk.zero : LkOk St.zero := fun l h => by simp [St.zero] at h
theorem LkOk.setNext {s : St} (h : LkOk s) (t : Nat) (v : Int) : LkOk (s.setNext t v) := h
theorem LkOk.setLock {s : St} (h : LkOk s) (l : Nat) (hd : Bool) (o : Int) (ho : 0 ≤ o) : LkOk (s.setLock l hd o) := fun l' e => by
  simp only [St.setLock] at e ⊢
  by_cases hl : l' = l
  · simp [hl, ho]
  · simp only [hl, if_false] at e ⊢; exact h l' e
theorem LkOk.act {s : St} (h : LkOk s) (t : Nat) (i : Ins) : LkOk (act t i s).2 := by
  by_cases h9 : i.op = 9
  · have e : Go.Proofs.YtklenjmfalljgaaDoor.act t i s = (true, s.setLock i.a.toNat true t) := by simp [Go.Proofs.YtklenjmfalljgaaDoor.act, h9]
    rw [e]; exact h.setLock _ _ _ (by omega)
  · by_cases h10 : i.op = 10
    · by_cases hz : s.held i.a.toNat = true ∧ s.own i.a.toNat = t
      · have e : Go.Proofs.YtklenjmfalljgaaDoor.act t i s = (true, s.setLock i.a.toNat false 0) := by simp [Go.Proofs.YtklenjmfalljgaaDoor.act, h10, hz]
        rw [e]; exact h.setLock _ _ _ (by omega)
      · have e : Go.Proofs.YtklenjmfalljgaaDoor.act t i s = (false, s) := by
          simp only [Go.Proofs.YtklenjmfalljgaaDoor.act, h10]
          simp [hz]
        rw [e]; exact h
    · have e : (Go.Proofs.YtklenjmfalljgaaDoor.act t i s).2.held = s.held ∧ (Go.Proofs.YtklenjmfalljgaaDoor.act t i s).2.own = s.own := by
        unfold Go.Proofs.YtklenjmfalljgaaDoor.act
        rw [if_neg h9, if_neg h10]
        repeat' split
        all_goals exact ⟨rfl, rfl⟩
      intro l hl
      rw [e.1] at hl
      rw [e.2]
      exact h l hl
theorem LkOk.step {s : St} (h : LkOk s) (p : List (List Ins)) (t : Nat) : LkOk (stepS p s t).2 := LkOk.act (h.setNext _ _) _ _
theorem LkOk.own {s : St} (h : LkOk s) (l : Nat) : decide (ownR s l < 0) = !s.held l := by
  unfold ownR
  cases e : s.held l
  · simp
  · have := h l e; simp; omega

theorem rprog {w0 : World} {ao : Option Addr} {cap : Nat} {p : List (List Ins)} (hP : ProgAt w0 (.agg #[.slice ao p.length cap]) p) {t : Nat} (ht : t < p.length) :
    ∃ g o, ao = some ⟨g, o, none⟩ ∧ ∃ rv, w0.cell? ⟨g, o + t, none⟩ = some rv ∧ CodeAt w0 rv (codeOf p t) := by
  obtain ⟨ao', cap', e, h⟩ := hP
  simp only [Value.agg.injEq, Array.mk.injEq, List.cons.injEq, Value.slice.injEq, and_true, true_and] at e
  obtain ⟨rfl, rfl⟩ := e
  obtain ⟨g, o, e1, rv, e2, e3⟩ := h t ht
  exact ⟨g, o, e1, rv, e2, by rw [codeOf_get ht]; exact e3⟩

theorem rdoneS {w0 w : World} {ao : Option Addr} {cap : Nat} {p : List (List Ins)} (hp : vProg p = true) (hP : ProgAt w0 (.agg #[.slice ao p.length cap]) p) {b ab rb : Nat} {st : Value} {s : St} {acc : List (Int × Int)} {k th a : Int}
    (hR : RunAt w0 w b ab rb p.length (.slice ao p.length cap) st s acc k th a) (hI : Inv p s) {t : Nat} (ht : t < p.length) :
    Calls Tryd.prog 135 #[.pointer (some ⟨b, 0, none⟩), .int .i64 t] w fun e w' => e = .returned (.bool (doneB p s t)) ∧ w.grownBy w' none := by
  have hn := vProg_len hp
  obtain ⟨g, o, rfl, rv, h1, ca, cc, rfl, _⟩ := rprog hP ht
  refine (rdone_m b ab p.length cap p.length g o t _ cc ca (s.next t) w ht (by omega) (vCode_len (vProg_code hp ht)) (hR.cell 0).1 (hR.cell 1).1 (pres_grown hR.frame _ _ h1) (hR.at_ ht).1).mono ?_
  rintro e w' ⟨rfl, hl⟩
  refine ⟨?_, grown_like (grown_refl _ _) hl⟩
  have := hI t ht
  congr 2
  unfold doneB
  rw [Bool.eq_iff_iff]; simp; omega

theorem rreadyS {w0 w : World} {ao : Option Addr} {cap : Nat} {p : List (List Ins)} (hp : vProg p = true) (hP : ProgAt w0 (.agg #[.slice ao p.length cap]) p) {b ab rb : Nat} {st : Value} {s : St} {acc : List (Int × Int)} {k th a : Int}
    (hR : RunAt w0 w b ab rb p.length (.slice ao p.length cap) st s acc k th a) (hI : Inv p s) (hL : LkOk s) {t : Nat} (ht : t < p.length) :
    Calls Tryd.prog 133 #[.pointer (some ⟨b, 0, none⟩), .int .i64 t] w fun e w' => e = .returned (.bool (readyB p s t)) ∧ w.grownBy w' none := by
  have hn := vProg_len hp
  have hin := hI t ht
  obtain ⟨g, o, rfl, rv, h1, ca, cc, rfl, hc⟩ := rprog hP ht
  by_cases hd : s.next t = ((codeOf p t).length : Int)
  · refine (rready_done b ab p.length cap p.length g o t _ cc ca (s.next t) w ht (by omega) (vCode_len (vProg_code hp ht)) (by omega) (hR.cell 0).1 (hR.cell 1).1 (pres_grown hR.frame _ _ h1) (hR.at_ ht).1).mono ?_
    rintro e w' ⟨rfl, hg⟩
    exact ⟨by simp [readyB, doneB, hd], hg⟩
  · obtain ⟨kk, hkk⟩ : ∃ kk : Nat, s.next t = kk := ⟨(s.next t).toNat, by omega⟩
    have hkl : kk < (codeOf p t).length := by omega
    obtain ⟨h, ho, rfl, x1, x2, x3, x4⟩ := hc kk hkl
    have hv := vProg_ins hp ht (k := (kk : Int)) (by simpa using hkl)
    have hie : insAt p t (s.next t) = (codeOf p t)[kk] := by rw [hkk, insAt_get (by simpa using hkl)]; simp
    have hie2 : insAt p t (kk : Int) = (codeOf p t)[kk] := by rw [insAt_get (by simpa using hkl)]; simp
    rw [hie2] at hv
    have hF := pres_grown hR.frame
    have say := vIns_say hv
    refine (rready_m b ab p.length cap p.length g o t _ cc h ho kk (codeOf p t)[kk] (ownR s (codeOf p t)[kk].a.toNat) w ht (by omega) (vCode_len (vProg_code hp ht)) hkl (by omega) (by omega) (hR.cell 0).1 (hR.cell 1).1 (hF _ _ h1) (by rw [(hR.at_ ht).1, hkk]) (hF _ _ x1) (hF _ _ x2) (hF _ _ x3) (hF _ _ x4) (Array.getElem?_eq_some_iff.1 hR.main).1 (fun e => hR.own (by omega))).mono ?_
    rintro e w' ⟨rfl, hg⟩
    refine ⟨?_, hg⟩
    have hnd : doneB p s t = false := by simpa [doneB] using hd
    rw [hL.own, readyB, hnd, hie]; simp

theorem rstepS {w0 w : World} {ao : Option Addr} {cap : Nat} {p : List (List Ins)} (hp : vProg p = true) (hP : ProgAt w0 (.agg #[.slice ao p.length cap]) p) {b ab rb : Nat} {st : Value} {s : St} {acc : List (Int × Int)} {k th a : Int}
    (hR : RunAt w0 w b ab rb p.length (.slice ao p.length cap) st s acc k th a) (hI : Inv p s) {t : Nat} (ht : t < p.length) (hd : doneB p s t = false) (hacc : acc.length < 1048576) :
    Calls Tryd.prog 134 #[.pointer (some ⟨b, 0, none⟩), .int .i64 t] w fun e w' => ∃ st', e = .returned (.bool (stepS p s t).1) ∧
      RunAt w0 w' b ab rb p.length (.slice ao p.length cap) st' (stepS p s t).2 (acc ++ [((t : Int), s.next t)]) k th a := by
  have hn := vProg_len hp
  have hin := hI t ht
  obtain ⟨g, o, rfl, rv, h1, ca, cc, rfl, hc⟩ := rprog hP ht
  have hd' : ¬ s.next t = ((codeOf p t).length : Int) := by simpa [doneB] using hd
  obtain ⟨kk, hkk⟩ : ∃ kk : Nat, s.next t = kk := ⟨(s.next t).toNat, by omega⟩
  have hkl : kk < (codeOf p t).length := by omega
  obtain ⟨h, ho, rfl, x1, x2, x3, x4⟩ := hc kk hkl
  have hv := vProg_ins hp ht (k := (kk : Int)) (by simpa using hkl)
  have hie2 : insAt p t (kk : Int) = (codeOf p t)[kk] := by rw [insAt_get (by simpa using hkl)]; simp
  rw [hie2] at hv
  have hF := pres_grown hR.frame
  have hst : stepS p s t = act t (codeOf p t)[kk] (s.setNext t (kk + 1)) := by unfold stepS; rw [hkk, hie2]
  rw [hst, hkk]
  exact rstep_m w0 w b ab rb p.length cap g o t _ cc h ho kk st s acc k th a (codeOf p t)[kk] (by omega) ht (vCode_len (vProg_code hp ht)) hkl hacc hR hkk (hF _ _ h1) (hF _ _ x1) (hF _ _ x2) (hF _ _ x3) (hF _ _ x4) hv _ rfl _ rfl

end Go.Proofs.YtklenjmfalljgaaDoor

/- The reference's Play: what its beginning makes; the verdict's cells. -/
namespace Go.Proofs.YtklenjmfalljgaaDoor
open Go.RowKit
attribute [local go_sem] Go.World.cell?_alloc_some

theorem makes (n : Nat) (hN : n = 1 ∨ n = 2 ∨ n = 3 ∨ n = 4) :
    (∀ u : World, (Instr.makeSlice 22 (.int .i64 n) (.int .i64 n)).run Tryd.prog u = .ok (.slice (some ⟨u.heap.size, 0, none⟩) n n) (u.alloc (.cells (atF n St.zero).toArray 3))) ∧
    (∀ u : World, (Instr.makeSlice 35 (.int .i64 n) (.int .i64 n)).run Tryd.prog u = .ok (.slice (some ⟨u.heap.size, 0, none⟩) n n) (u.alloc (.cells (regsF n St.zero).toArray 34))) := by
  obtain ⟨i0, hi0, hz0, hz1, hz2⟩ := info_parts info_int
  obtain ⟨i1, hi1, hy0, hy1, hy2⟩ := info_parts info_arr
  constructor
  · intro u
    have := run_makeSlice (P := Tryd.prog) u 22 3 i0 _ Tryd.underlying22 hi0 hz0 .i64 .i64 n n (by omega) (Int.le_refl _) (by rw [hz1]; omega) (by rw [hz2]; omega) (by omega)
    rw [this, hz1]
    have e : madeCells (Value.int .i64 0).cells ((n : Int).toNat * 1) = (atF n St.zero).toArray := by
      rcases hN with rfl | rfl | rfl | rfl <;> first | kernel_rfl | simp [madeCells, atF, Value.cells, St.zero, Array.range, List.range_succ]
    rw [e]; rfl
  · intro u
    have := run_makeSlice (P := Tryd.prog) u 35 34 i1 _ Tryd.underlying35 hi1 hy0 .i64 .i64 n n (by omega) (Int.le_refl _) (by rw [hy1]; omega) (by rw [hy2]; omega) (by omega)
    rw [this, hy1]
    have e : madeCells (Value.agg #[.int .i64 0, .int .i64 0, .int .i64 0, .int .i64 0]).cells ((n : Int).toNat * 4) = (regsF n St.zero).toArray := by
      rcases hN with rfl | rfl | rfl | rfl <;> first | kernel_rfl | simp [madeCells, regsF, Value.cells, St.zero, Array.range, List.range_succ]
    rw [e]; rfl

theorem runAt_new1 (w : World) (X : Obj) (n : Nat) (ps : Value) (t1 : TypeId) : RunAt w ((((w.alloc X).alloc (.cells (atF n St.zero).toArray t1)).alloc (.cells (regsF n St.zero).toArray 34)).alloc (.cells (runC ps (w.heap.size + 1) (w.heap.size + 1 + 1) n (.slice none 0 0) St.zero 0 0 0) 179))
    (w.heap.size + 1 + 1 + 1) (w.heap.size + 1) (w.heap.size + 1 + 1) n ps (.slice none 0 0) St.zero [] 0 0 0 := by
  refine ⟨?_, ⟨t1, ?_⟩, ?_, ⟨rfl, Or.inl ⟨rfl, rfl⟩⟩, grown_alloc (grown_alloc (grown_alloc (grown_alloc (grown_refl _ _)))), by omega, by omega, by omega, by omega, by omega⟩
  · have := heap_alloc_new (((w.alloc X).alloc (.cells (atF n St.zero).toArray t1)).alloc (.cells (regsF n St.zero).toArray 34)) (.cells (runC ps (w.heap.size + 1) (w.heap.size + 1 + 1) n (.slice none 0 0) St.zero 0 0 0) 179)
    simpa using this
  · rw [Below.heap_alloc _ _ _ (by simp), Below.heap_alloc _ _ _ (by simp)]
    have := heap_alloc_new (w.alloc X) (.cells (atF n St.zero).toArray t1)
    simpa using this
  · rw [Below.heap_alloc _ _ _ (by simp)]
    have := heap_alloc_new ((w.alloc X).alloc (.cells (atF n St.zero).toArray t1)) (.cells (regsF n St.zero).toArray 34)
    simpa using this
theorem runAt_new2 (w : World) (X : Obj) (n : Nat) (ps : Value) (t1 : TypeId) : RunAt w ((((w.alloc X).alloc (.cells (regsF n St.zero).toArray 34)).alloc (.cells (atF n St.zero).toArray t1)).alloc (.cells (runC ps (w.heap.size + 1 + 1) (w.heap.size + 1) n (.slice none 0 0) St.zero 0 0 0) 179))
    (w.heap.size + 1 + 1 + 1) (w.heap.size + 1 + 1) (w.heap.size + 1) n ps (.slice none 0 0) St.zero [] 0 0 0 := by
  refine ⟨?_, ⟨t1, ?_⟩, ?_, ⟨rfl, Or.inl ⟨rfl, rfl⟩⟩, grown_alloc (grown_alloc (grown_alloc (grown_alloc (grown_refl _ _)))), by omega, by omega, by omega, by omega, by omega⟩
  · have := heap_alloc_new (((w.alloc X).alloc (.cells (regsF n St.zero).toArray 34)).alloc (.cells (atF n St.zero).toArray t1)) (.cells (runC ps (w.heap.size + 1 + 1) (w.heap.size + 1) n (.slice none 0 0) St.zero 0 0 0) 179)
    simpa using this
  · rw [Below.heap_alloc _ _ _ (by simp)]
    have := heap_alloc_new ((w.alloc X).alloc (.cells (regsF n St.zero).toArray 34)) (.cells (atF n St.zero).toArray t1)
    simpa using this
  · rw [Below.heap_alloc _ _ _ (by simp), Below.heap_alloc _ _ _ (by simp)]
    have := heap_alloc_new (w.alloc X) (.cells (regsF n St.zero).toArray 34)
    simpa using this


theorem RunAt.verdict {w0 w : World} {b ab rb n : Nat} {ps st : Value} {s : St} {acc : List (Int × Int)} {k th a : Int} (h : RunAt w0 w b ab rb n ps st s acc k th a) (k' th' a' : Int) :
    RunAt w0 (((w.setCell ⟨b, 11, none⟩ (.int .i64 k')).setCell ⟨b, 12, none⟩ (.int .i64 th')).setCell ⟨b, 13, none⟩ (.int .i64 a')) b ab rb n ps st s acc k' th' a' := by
  have h1 : RunAt w0 (w.setCell ⟨b, 11, none⟩ (.int .i64 k')) b ab rb n ps st s acc k' th a := h.setMain rfl rfl rfl h.row
  have h2 : RunAt w0 ((w.setCell ⟨b, 11, none⟩ (.int .i64 k')).setCell ⟨b, 12, none⟩ (.int .i64 th')) b ab rb n ps st s acc k' th' a := h1.setMain rfl rfl rfl h1.row
  exact h2.setMain rfl rfl rfl h2.row
theorem RunAt.vcells {w0 w : World} {b ab rb n : Nat} {ps st : Value} {s : St} {acc : List (Int × Int)} {k th a : Int} (h : RunAt w0 w b ab rb n ps st s acc k th a) :
    w.cell? ⟨b, 10, none⟩ = some st ∧ w.cell? ⟨b, 11, none⟩ = some (.int .i64 k) ∧ w.cell? ⟨b, 12, none⟩ = some (.int .i64 th) ∧ w.cell? ⟨b, 13, none⟩ = some (.int .i64 a) ∧ w.frozen? ⟨b, 11, none⟩ = false ∧ w.frozen? ⟨b, 12, none⟩ = false ∧ w.frozen? ⟨b, 13, none⟩ = false :=
  ⟨(h.cell 10).1, (h.cell 11).1, (h.cell 12).1, (h.cell 13).1, (h.cell 11).2, (h.cell 12).2, (h.cell 13).2⟩
theorem RunAt.kind {w0 w : World} {b ab rb n : Nat} {ps st : Value} {s : St} {acc : List (Int × Int)} {k th a : Int} (h : RunAt w0 w b ab rb n ps st s acc k th a) (k' : Int) :
    RunAt w0 (w.setCell ⟨b, 11, none⟩ (.int .i64 k')) b ab rb n ps st s acc k' th a := h.setMain rfl rfl rfl h.row

theorem RunAt.last {w0 w : World} {b ab rb n : Nat} {ps st : Value} {s : St} {acc : List (Int × Int)} {k th a : Int} {x : Int × Int} (h : RunAt w0 w b ab rb n ps st s (acc ++ [x]) k th a) :
    ∃ g cap, st = .slice (some ⟨g, 0, none⟩) (acc.length + 1) cap ∧ w.cell? ⟨g, acc.length * 2, none⟩ = some (.int .i64 x.1) ∧ w.cell? ⟨g, acc.length * 2 + 1, none⟩ = some (.int .i64 x.2) := by
  have hr := h.row
  rw [List.length_append] at hr
  have hl : ∀ q : List (Int × Int), (flatS q).length = q.length * 2 := fun q => by
    induction q with
    | nil => rfl
    | cons y q ih =>
      have : flatS (y :: q) = .int .i64 y.1 :: .int .i64 y.2 :: flatS q := rfl
      rw [this]; simp [ih]; omega
  rcases hr.2 with ⟨_, e2⟩ | ⟨g, cap, cur, hv, hb, hh, hx⟩
  · simp at e2
  · have key : ∀ j v, (flatS (acc ++ [x]))[j]? = some v → w.cell? ⟨g, j, none⟩ = some v := fun j v e => by
      rw [← hx.2.2.2, List.getElem?_take] at e
      by_cases hj : j < (acc.length + [x].length) * 2
      · rw [if_pos hj] at e
        simp only [World.cell?, hh]
        simpa using e
      · rw [if_neg hj] at e; cases e
    refine ⟨g, cap, hv, key _ _ ?_, key _ _ ?_⟩
    · rw [flatS_snoc, List.getElem?_append_right (by rw [hl]; omega), hl]; simp
    · rw [flatS_snoc, List.getElem?_append_right (by rw [hl]; omega), hl]; simp

end Go.Proofs.YtklenjmfalljgaaDoor

/- The reference's Play. -/
namespace Go.Proofs.YtklenjmfalljgaaDoor
open Go.RowKit
attribute [local go_sem] Go.World.cell?_alloc_some

/-- What Play answers. -/
def Played (w : World) (n : Nat) (ps : Value) (o : Out) (e : Ending) (w' : World) : Prop :=
  ∃ b ab rb st, e = .returned (.pointer (some ⟨b, 0, none⟩)) ∧ RunAt w w' b ab rb n ps st o.st o.steps o.kind o.thread o.at_

set_option maxHeartbeats 4000000 in
set_option maxRecDepth 100000 in
theorem play_m (w : World) (ao : Option Addr) (cap : Nat) (p : List (List Ins)) (sv : Value) (sch : List Int) (hp : vProg p = true) (hP : ProgAt w (.agg #[.slice ao p.length cap]) p) (hI : IntsAt w.heap.size w sv sch) (h500 : sch.length ≤ 1048576) :
    Calls Tryd.prog 98 #[.agg #[.slice ao p.length cap], sv] w (Played w p.length (.slice ao p.length cap) (runS p sch)) := by
  have hn := vProg_len hp
  have HP := hide hP
  have HV := hide hp
  have HI := hide hI
  clear hp hP hI
  go_enter Tryd.func98, Tryd.ntmps98
  go_upto_region 2 with fail
  go_cut [6] (fun pv w' => ∃ b ab rb st, pv = .pointer (some ⟨b, 0, none⟩) ∧ RunAt w w' b ab rb p.length (.slice ao p.length cap) st St.zero [] 0 0 0)
  case first =>
    have hN : p.length = 1 ∨ p.length = 2 ∨ p.length = 3 ∨ p.length = 4 := by omega
    clear HP HV
    generalize p.length = n at *
    obtain ⟨hmA, hmB⟩ := makes n hN
    have n4 : (n : Int) ≤ 4 := by omega
    clear hN
    go_region
    all_goals go_wp2
    all_goals go_meet
    · first | exact ⟨_, _, _, _, rfl, (runAt_new1 w _ n _ _).like ⟨rfl, rfl, rfl, rfl⟩⟩ | exact ⟨_, _, _, _, rfl, (runAt_new2 w _ n _ _).like ⟨rfl, rfl, rfl, rfl⟩⟩
    · first | exact ⟨_, _, _, _, rfl, (runAt_new1 w _ n _ _).like ⟨rfl, rfl, rfl, rfl⟩⟩ | exact ⟨_, _, _, _, rfl, (runAt_new2 w _ n _ _).like ⟨rfl, rfl, rfl, rfl⟩⟩
  case rest =>
    obtain ⟨b, ab, rb, st0, rfl, hR0⟩ := hcut
    have HR0 := hide hR0
    clear hR0
    obtain ⟨so, sc, rfl, hsz, hcell⟩ := HI.out
    have HC := hide hcell
    clear hcell HI
    have q1 : (sch.length : Int) ≤ 1048576 := by omega
    have q2 : (p.length : Int) ≤ 4 := by omega
    go_wp2_with fail
    go_loopw [7] (fun i w' => ∃ (k : Nat) (s : St) (acc : List (Int × Int)) (st : Value), k ≤ sch.length ∧ i = .int .i64 k ∧ Hid (acc.length = k) ∧ Hid (RunAt w w' b ab rb p.length (.slice ao p.length cap) st s acc 0 0 0) ∧ Hid (Inv p s) ∧ Hid (LkOk s) ∧
      Hid (runS p sch = follow p (sch.drop k) k s acc)) (fun i _ => sch.length - (intOf i).toNat)
    case atStart => exact ⟨0, St.zero, [], st0, Nat.zero_le _, rfl, rfl, HR0, Inv.zero p, LkOk.zero, rfl⟩
    case round =>
      obtain ⟨k, s, acc, st, hk, rfl, HAL, HR, HIN, HLK, HF⟩ := hrel
      obtain ⟨w5, hw5⟩ : ∃ w5, w5 = wr := ⟨_, rfl⟩
      rw [← hw5] at HR ⊢
      clear hw5
      by_cases hlt : k < sch.length
      · obtain ⟨gb, go, rfl, hgb, hc⟩ := HC.out k hlt
        have hcr := pres_grown HR.out.frame _ _ hc
        clear hc
        have HD : Hid (sch.drop k = sch[k] :: sch.drop (k + 1)) := List.drop_eq_getElem_cons hlt
        generalize sch[k] = t at *
        have hk0 : (0 : Int) ≤ (k : Int) := by omega
        have hk1 : (k : Int) < sch.length := by omega
        obtain ⟨_, c11, c12, c13, f11, f12, f13⟩ := HR.out.vcells
        by_cases hb0 : 0 ≤ t
        · by_cases hb1 : t < p.length
          · obtain ⟨t', rfl⟩ := Int.eq_ofNat_of_zero_le hb0
            have ht' : t' < p.length := by omega
            go_wp2_with fail
            refine (rreadyS HV.out HP.out HR.out HIN.out HLK.out ht').mono ?_
            rintro e w6 ⟨rfl, hg6⟩
            have HR6 := hide (HR.out.grown hg6)
            replace hcr := pres_grown hg6 _ _ hcr
            clear hg6 c11 c12 c13 f11 f12 f13 HR
            obtain ⟨_, c11, c12, c13, f11, f12, f13⟩ := HR6.out.vcells
            cases hrd : readyB p s t'
            · have HW : Hid (runS p sch = ⟨acc, 2, 0, k, s⟩) := by
                unfold Hid
                rw [HF.out, HD.out]; exact follow_wrong _ _ _ _ _ _ (by simp [okAt, hrd])
              clear hrd
              go_wp2_with fail
              go_ret
              rw [HW.out]
              exact ⟨b, ab, rb, st, rfl, HR6.out.verdict 2 0 k⟩
            · have HK : Hid (okAt p s t' = true) := by
                unfold Hid okAt belowB
                simp [hrd, ht']
              have HDn : Hid (doneB p s t' = false) := by
                unfold Hid
                cases hd : doneB p s t' with
                | false => rfl
                | true => simp [readyB, hd] at hrd
              clear hrd c11 c12 c13 f11 f12 f13
              go_wp2_with fail
              refine (rstepS HV.out HP.out HR6.out HIN.out ht' HDn.out (by rw [HAL.out]; omega)).mono ?_
              rintro e w7 ⟨st', rfl, hR7⟩
              have HR7 := hide hR7
              clear hR7 HR6 hcr
              cases hstp : (stepS p s t').1
              · have HW : Hid (runS p sch = ⟨acc ++ [((t' : Int), s.next t')], 1, t', s.next t', (stepS p s t').2⟩) := by
                  unfold Hid
                  rw [HF.out, HD.out]; exact follow_fail _ _ _ _ _ _ HK.out (by simpa using hstp)
                clear hstp
                obtain ⟨lg, lc, rfl, l1, l2⟩ := HR7.out.last
                obtain ⟨c10, c11, c12, c13, f11, f12, f13⟩ := HR7.out.vcells
                have HLL : Hid (acc.length < 1048576) := by unfold Hid; rw [HAL.out]; omega
                generalize hgl : acc.length = L at *
                have HGL := hide hgl
                clear hgl
                have hL : (L : Int) < 1048576 := by have := HLL.out; omega
                go_wp2_with fail
                go_region
                have hg8 : w7.grownBy (w7.alloc (.cells #[.int .i64 t', .int .i64 (s.next t')] 48)).drew none := grown_drew (grown_alloc (grown_refl _ _))
                have hb8 : (w7.alloc (.cells #[.int .i64 t', .int .i64 (s.next t')] 48)).drew.heap[w7.heap.size]? = some (.cells #[.int .i64 t', .int .i64 (s.next t')] 48 (0, 0)) := heap_alloc_new w7 _
                generalize (w7.alloc (.cells #[.int .i64 t', .int .i64 (s.next t')] 48)).drew = w8 at hg8 hb8 ⊢
                have HR8 := hide (HR7.out.grown hg8)
                have z0 : w8.cell? ⟨w7.heap.size, 0, none⟩ = some (.int .i64 t') := by simp [World.cell?, hb8]
                have z1 : w8.cell? ⟨w7.heap.size, 1, none⟩ = some (.int .i64 (s.next t')) := by simp [World.cell?, hb8]
                clear hg8 hb8 c10 c11 c12 c13 f11 f12 f13 l1 l2 HR7
                obtain ⟨_, c11, c12, c13, f11, f12, f13⟩ := HR8.out.vcells
                go_wp2
                go_ret
                rw [HW.out]
                exact ⟨b, ab, rb, _, rfl, HR8.out.verdict 1 t' (s.next t')⟩
              · have HF2 : Hid (runS p sch = follow p (sch.drop (k + 1)) ((k + 1 : Nat) : Int) (stepS p s t').2 (acc ++ [((t' : Int), s.next t')])) := by
                  unfold Hid
                  rw [HF.out, HD.out, follow_go _ _ _ _ _ _ HK.out (by simpa using hstp)]
                  simp
                have HI2 := hide (HIN.out.step HV.out ht' HDn.out)
                have HL2 := hide (HLK.out.step p t')
                have HA2 : Hid ((acc ++ [((t' : Int), s.next t')]).length = k + 1) := by unfold Hid; rw [List.length_append, HAL.out]; rfl
                clear hstp
                go_wp2_with fail
                go_roundw
                case rel => exact ⟨k + 1, _, _, st', by omega, by go_num, HA2, HR7, HI2, HL2, HF2⟩
                case measure => simp [intOf]; omega
          · have hb1' : (p.length : Int) ≤ t := by omega
            have HW : Hid (runS p sch = ⟨acc, 2, 0, k, s⟩) := by
              unfold Hid
              rw [HF.out, HD.out]; exact follow_wrong _ _ _ _ _ _ (by simp [okAt, belowB, hb1])
            go_wp2_with fail
            go_ret
            rw [HW.out]
            exact ⟨b, ab, rb, st, rfl, HR.out.verdict 2 0 k⟩
        · have hb0' : t < 0 := by omega
          have HW : Hid (runS p sch = ⟨acc, 2, 0, k, s⟩) := by
            unfold Hid
            rw [HF.out, HD.out]; exact follow_wrong _ _ _ _ _ _ (by simp [okAt, belowB, hb0])
          go_wp2_with fail
          go_ret
          rw [HW.out]
          exact ⟨b, ab, rb, st, rfl, HR.out.verdict 2 0 k⟩
      · have HW : Hid (runS p sch = ⟨acc, endingS p s, 0, 0, s⟩) := by
          unfold Hid
          rw [HF.out, List.drop_eq_nil_of_le (by omega)]; rfl
        have hk1 : (sch.length : Int) ≤ (k : Int) := by omega
        clear HF HAL HC
        go_wp2_with fail
        go_loopw [11, 12, 13] (fun dv rv tv w' => ∃ t d r : Nat, t ≤ p.length ∧ dv = .int .i64 d ∧ rv = .int .i64 r ∧ tv = .int .i64 t ∧ d ≤ t ∧ r ≤ t ∧ Hid (d = t ↔ ∀ j, j < t → doneB p s j = true) ∧ Hid (r = 0 ↔ ∀ j, j < t → readyB p s j = false) ∧
          Hid (RunAt w w' b ab rb p.length (.slice ao p.length cap) st s acc 0 0 0)) (fun _ _ tv _ => p.length - (intOf tv).toNat)
        case atStart => exact ⟨0, 0, 0, Nat.zero_le _, rfl, rfl, rfl, Nat.le_refl _, Nat.le_refl _, ⟨fun _ j h => absurd h (by omega), fun _ => rfl⟩, ⟨fun _ j h => absurd h (by omega), fun _ => rfl⟩, HR⟩
        case round =>
          clear HR
          obtain ⟨t, d, r, ht, rfl, rfl, rfl, hd, hr, HD, HRd, HR⟩ := hrel
          obtain ⟨w6, hw6⟩ : ∃ w6, w6 = wr := ⟨_, rfl⟩
          rw [← hw6] at HR ⊢
          clear hw6
          by_cases hlt : t < p.length
          · have t0 : (0 : Int) ≤ (t : Int) := by omega
            have t1 : (t : Int) < p.length := by omega
            have d1 : (d : Int) ≤ 4 := by omega
            have r1 : (r : Int) ≤ 4 := by omega
            go_wp2_with fail
            refine (rdoneS HV.out HP.out HR.out HIN.out hlt).mono ?_
            rintro e w7 ⟨rfl, hg7⟩
            have HR7 := hide (HR.out.grown hg7)
            clear hg7 HR
            go_wp2_with fail
            refine (rreadyS HV.out HP.out HR7.out HIN.out HLK.out hlt).mono ?_
            rintro e w8 ⟨rfl, hg8⟩
            have HR8 := hide (HR7.out.grown hg8)
            clear hg8 HR7
            have HD2 : Hid ((if doneB p s t = true then d + 1 else d) = t + 1 ↔ ∀ j, j < t + 1 → doneB p s j = true) := by
              unfold Hid
              cases e : doneB p s t
              · simp only [Bool.false_eq_true, if_false]
                constructor
                · intro h; omega
                · intro h; have := h t (by omega); rw [e] at this; cases this
              · simp only [if_true]
                constructor
                · intro h j hj
                  by_cases hjt : j = t
                  · rw [hjt]; exact e
                  · exact HD.out.1 (by omega) j (by omega)
                · intro h
                  have := HD.out.2 (fun j hj => h j (by omega))
                  omega
            have HR2 : Hid ((if readyB p s t = true then r + 1 else r) = 0 ↔ ∀ j, j < t + 1 → readyB p s j = false) := by
              unfold Hid
              cases e : readyB p s t
              · simp only [Bool.false_eq_true, if_false]
                constructor
                · intro h j hj
                  by_cases hjt : j = t
                  · rw [hjt]; exact e
                  · exact HRd.out.1 h j (by omega)
                · intro h; exact HRd.out.2 (fun j hj => h j (by omega))
              · simp only [if_true]
                constructor
                · intro h; omega
                · intro h; have := h t (by omega); rw [e] at this; cases this
            clear HD HRd
            generalize doneB p s t = db at *
            generalize readyB p s t = rb' at *
            cases db <;> cases rb'
            all_goals
              go_wp2_with fail
              go_roundw
              case rel => exact ⟨t + 1, _, _, by omega, by go_num, by go_num, by go_num, by simp <;> omega, by simp <;> omega, HD2, HR2, HR8⟩
              case measure => simp [intOf]; omega
          · have t1 : (p.length : Int) ≤ (t : Int) := by omega
            obtain ⟨_, c11, c12, c13, f11, f12, f13⟩ := HR.out.vcells
            obtain rfl : t = p.length := by omega
            by_cases hr0 : r = 0
            · have hnr := HRd.out.1 hr0
              have HE := hide (ending_end hnr)
              subst hr0
              by_cases hdn : d = p.length
              · have hda := HD.out.1 hdn
                have HE3 : Hid (endingS p s = 3) := by
                  unfold Hid
                  rw [HE.out, endTo, if_pos]
                  rw [List.all_eq_true]
                  intro j hj
                  exact hda j (by simpa using hj)
                have hdb : ((d : Int) == (p.length : Int)) = true := by simp; omega
                clear hnr hda HD HRd HE hdn t1
                go_wp2_with fail
                go_ret
                rw [HW.out, HE3.out]
                exact ⟨b, ab, rb, st, rfl, ((HR.out.kind 5).kind 4).kind 3⟩
              · have HE4 : Hid (endingS p s = 4) := by
                  unfold Hid
                  rw [HE.out, endTo, if_neg]
                  intro h
                  rw [List.all_eq_true] at h
                  exact hdn (HD.out.2 (fun j hj => h j (by simpa using hj)))
                have hdb : ((d : Int) == (p.length : Int)) = false := by simp; omega
                clear hnr HD HRd HE hdn t1
                go_wp2_with fail
                go_ret
                rw [HW.out, HE4.out]
                exact ⟨b, ab, rb, st, rfl, (HR.out.kind 5).kind 4⟩
            · obtain ⟨j, hj, hrj⟩ : ∃ j, j < p.length ∧ readyB p s j = true := by
                by_cases hex : ∃ j, j < p.length ∧ readyB p s j = true
                · exact hex
                · exfalso
                  refine hr0 (HRd.out.2 (fun j hj => ?_))
                  cases e : readyB p s j
                  · rfl
                  · exact absurd ⟨j, hj, e⟩ hex
              have HE5 := hide (ending_open hj hrj)
              have hdn : d ≠ p.length := fun e => by
                have := HD.out.1 e j hj
                simp [readyB, this] at hrj
              have hdb : ((d : Int) == (p.length : Int)) = false := by simp; omega
              have hrb : ((r : Int) == 0) = false := by simp; omega
              clear HD HRd hdn hr0 hj hrj t1
              go_wp2_with fail
              go_ret
              rw [HW.out, HE5.out]
              exact ⟨b, ab, rb, st, rfl, HR.out.kind 5⟩

end Go.Proofs.YtklenjmfalljgaaDoor

/- The reference's Replay. -/
namespace Go.Proofs.YtklenjmfalljgaaDoor
open Go.RowKit
attribute [local go_sem] Go.World.cell?_alloc_some

end Go.Proofs.YtklenjmfalljgaaDoor

/- Equality of two equal arrays of four ints. -/
namespace Go.Proofs.YtklenjmfalljgaaDoor
open Go.RowKit

theorem run_eq4 (a b c d : Int) (w : World) : (Op.equalIn 10000 34 (.agg #[.int .i64 a, .int .i64 b, .int .i64 c, .int .i64 d]) (.agg #[.int .i64 a, .int .i64 b, .int .i64 c, .int .i64 d])).run Tryd.prog w = .ok true w := by
  obtain ⟨i0, hi0, hz0, hz1, hz2⟩ := info_parts info_int
  have hc : Tryd.prog.cellsOf 3 = 1 := by simp [Program.cellsOf, hi0, hz1]
  have hk : Tryd.prog.plainKey 3 = true := by simp [Program.plainKey, Tryd.underlying3]
  rw [show (10000 : Nat) = 9999 + 1 from rfl, run_equalIn_array w 9999 _ _ (n := 4) (e := 3) (by first | exact Tryd.underlying34 | kernel_rfl) hi0, hc]
  have he : ∀ (d : Nat) (v : Int), (Op.equalIn (d + 1) 3 (.int .i64 v) (.int .i64 v)).run Tryd.prog w = .ok true w := fun d v => by
    rw [run_equalIn_int w d _ _ .i64 v v Tryd.underlying3]; simp
  have hq := he 9998
  simp only [Nat.reduceAdd] at hq
  have p0 := run_part_plain w hk (xs := #[.int .i64 a, .int .i64 b, .int .i64 c, .int .i64 d]) (off := 0) rfl
  have p1 := run_part_plain w hk (xs := #[.int .i64 a, .int .i64 b, .int .i64 c, .int .i64 d]) (off := 1) rfl
  have p2 := run_part_plain w hk (xs := #[.int .i64 a, .int .i64 b, .int .i64 c, .int .i64 d]) (off := 2) rfl
  have p3 := run_part_plain w hk (xs := #[.int .i64 a, .int .i64 b, .int .i64 c, .int .i64 d]) (off := 3) rfl
  simp [List.range, List.range.loop, Op.eqItems, Sem.run_bind, p0, p1, p2, p3, hq, Result.andThen_ok]

end Go.Proofs.YtklenjmfalljgaaDoor

/- The laws' asked, of Replay. -/
namespace Go.Proofs.YtklenjmfalljgaaDoor
open Go.RowKit
attribute [local go_sem] Go.World.cell?_alloc_some run_eq4

theorem num_mR (n : Int) (w : World) : Calls Tryd.prog 47 #[.int .i64 n] w fun e w' => e = .returned (.int .i64 n) ∧ w' = w := by
  go_enter Tryd.func47, Tryd.ntmps47
  go_wp2_with fail
  go_ret
  exact ⟨rfl, rfl⟩

/-- What Replay answers, under one name: an answer, its verdict, its variables, its lists. -/
def ResV (p : List (List Ins)) (s : List Int) (B : Nat) (w : World) (rv : Value) (c : Int) : Prop :=
  ∃ k t a v0 v1 v2 v3 x1 x3 y1 y3 m q, rv = .agg #[.int .i64 k, .int .i64 t, .int .i64 a, .slice x1 m x3, .int .i64 v0, .int .i64 v1, .int .i64 v2, .int .i64 v3, .slice y1 q y3] ∧ c = checkRunN p s ∧
    ((c = 0 ∧ k = (runS p s).kind ∧ t = (runS p s).thread ∧ a = (runS p s).at_ ∧ v0 = (runS p s).st.vars 0 ∧ v1 = (runS p s).st.vars 1 ∧ v2 = (runS p s).st.vars 2 ∧ v3 = (runS p s).st.vars 3 ∧ m = (runS p s).steps.length ∧ q = p.length ∧
      w.ownsRow B 48 2 (.slice x1 m x3) (runS p s).steps.length (flatS (runS p s).steps) ∧ w.ownsRow B 34 4 (.slice y1 q y3) p.length (regsF p.length (runS p s).st)) ∨
     (c ≠ 0 ∧ k = 0 ∧ t = 0 ∧ a = 0 ∧ v0 = 0 ∧ v1 = 0 ∧ v2 = 0 ∧ v3 = 0 ∧ m = 0 ∧ q = 0 ∧ x1 = none ∧ x3 = 0 ∧ y1 = none ∧ y3 = 0))

theorem owns_lenR {w : World} {base : Nat} {e : TypeId} {size : Nat} {ao : Option Addr} {m c n : Nat} {xs : List Value} (h : w.ownsRow base e size (.slice ao m c) n xs) : m = n := by
  rcases h.2 with ⟨e1, e2⟩ | ⟨g', cap', cur, hv, _⟩
  · simp only [Value.slice.injEq] at e1
    rw [e1.2.1]; first | exact e2.symm | omega
  · simp only [Value.slice.injEq] at hv; exact hv.2.1

theorem Replayed.form {p : List (List Ins)} {s : List Int} {w w' : World} {e : Ending} (h : Replayed p s w e w') : w.grownBy w' none ∧ ∃ rv c, e = .returned (.tuple #[rv, .int .i64 c]) ∧ ResV p s w.heap.size w' rv c := by
  obtain ⟨hg, h⟩ := h
  refine ⟨hg, ?_⟩
  rcases h with ⟨h0, rv, rfl, sv, gv, rfl, h1, h2⟩ | ⟨h0, rfl⟩
  · obtain ⟨x1, m, x3, rfl⟩ := owns_form h1
    obtain ⟨y1, q, y3, rfl⟩ := owns_form h2
    exact ⟨_, _, rfl, _, _, _, _, _, _, _, _, _, _, _, _, _, rfl, h0.symm, Or.inl ⟨rfl, rfl, rfl, rfl, rfl, rfl, rfl, rfl, owns_lenR h1, owns_lenR h2, h1, h2⟩⟩
  · exact ⟨_, _, rfl, _, _, _, _, _, _, _, _, _, _, _, _, _, rfl, rfl, Or.inr ⟨h0, rfl, rfl, rfl, rfl, rfl, rfl, rfl, rfl, rfl, rfl, rfl, rfl, rfl⟩⟩

/-- Two answers to one question are one, but for where their lists lie. -/
theorem ResV.same {p : List (List Ins)} {s : List Int} {B B' : Nat} {w w' : World} {rv rv' : Value} {c c' : Int} (h : ResV p s B w rv c) (h' : ResV p s B' w' rv' c') :
    c = c' ∧ ∃ k t a v0 v1 v2 v3 x1 x3 y1 y3 m q x1' x3' y1' y3', rv = .agg #[.int .i64 k, .int .i64 t, .int .i64 a, .slice x1 m x3, .int .i64 v0, .int .i64 v1, .int .i64 v2, .int .i64 v3, .slice y1 q y3] ∧
      rv' = .agg #[.int .i64 k, .int .i64 t, .int .i64 a, .slice x1' m x3', .int .i64 v0, .int .i64 v1, .int .i64 v2, .int .i64 v3, .slice y1' q y3'] := by
  obtain ⟨k, t, a, v0, v1, v2, v3, x1, x3, y1, y3, m, q, rfl, hc, h⟩ := h
  obtain ⟨k', t', a', v0', v1', v2', v3', x1', x3', y1', y3', m', q', rfl, hc', h'⟩ := h'
  refine ⟨hc.trans hc'.symm, ?_⟩
  rcases h with ⟨h0, rfl, rfl, rfl, rfl, rfl, rfl, rfl, rfl, rfl, _⟩ | ⟨h0, rfl, rfl, rfl, rfl, rfl, rfl, rfl, rfl, rfl, _⟩
  · rcases h' with ⟨h0', rfl, rfl, rfl, rfl, rfl, rfl, rfl, rfl, rfl, _⟩ | ⟨h0', _⟩
    · exact ⟨_, _, _, _, _, _, _, _, _, _, _, _, _, _, _, _, _, rfl, rfl⟩
    · exact absurd (hc'.trans (hc.symm.trans h0)) h0'
  · rcases h' with ⟨h0', _⟩ | ⟨h0', rfl, rfl, rfl, rfl, rfl, rfl, rfl, rfl, rfl, _⟩
    · exact absurd (hc.trans (hc'.symm.trans h0')) h0
    · exact ⟨_, _, _, _, _, _, _, _, _, _, _, _, _, _, _, _, _, rfl, rfl⟩


end Go.Proofs.YtklenjmfalljgaaDoor

/- The walks of instruction and program. -/
namespace Go.Proofs.YtklenjmfalljgaaDoor
open Go.RowKit
attribute [local go_sem] Go.World.cell?_alloc_some

end Go.Proofs.YtklenjmfalljgaaDoor

/- The walk of program. -/
namespace Go.Proofs.YtklenjmfalljgaaDoor
open Go.RowKit
attribute [local go_sem] Go.World.cell?_alloc_some

def insV (i : Ins) : List Value := [.int .i64 i.op, .int .i64 i.a, .int .i64 i.b, .int .i64 i.n]
def insCells (c : List Ins) : List Value := c.flatMap insV
/-- A thread's code in a row of the call's own. -/
def CodeRow (L B : Nat) (w : World) (v : Value) (c : List Ins) : Prop := w.ownsRow L 28 4 v c.length (insCells c) ∧ ∀ h, v.ownBlock = some h → h < B

theorem owns_step {w w' : World} {base : Nat} {e : TypeId} {size : Nat} {v : Value} {n : Nat} {xs : List Value} {r : Option Nat} (h : w.ownsRow base e size v n xs) (hg : w.grownBy w' r) (hr : ∀ k, r = some k → v.ownBlock ≠ some k) : w'.ownsRow base e size v n xs := by
  obtain ⟨h1, h2⟩ := h
  refine ⟨h1, ?_⟩
  rcases h2 with h2 | ⟨g, cap, cur, hv, hb, hh, rest⟩
  · exact Or.inl h2
  · have hlt : g < w.heap.size := (Array.getElem?_eq_some_iff.1 hh).1
    refine Or.inr ⟨g, cap, cur, hv, hb, ?_, rest⟩
    rw [hg.block g hlt (fun e => hr g e.symm (by rw [hv]; rfl))]; exact hh

theorem owns_types {w : World} {b1 b2 e1 e2 z1 z2 : Nat} {v1 v2 : Value} {n1 n2 : Nat} {x1 x2 : List Value} (h1 : w.ownsRow b1 e1 z1 v1 n1 x1) (h2 : w.ownsRow b2 e2 z2 v2 n2 x2) (he : e1 ≠ e2) : ∀ k, v1.ownBlock = some k → v2.ownBlock ≠ some k := by
  intro k hk hk2
  rcases h1.2 with ⟨e, _⟩ | ⟨g, _, c1, hv, _, hh, _⟩
  · rw [e] at hk; cases hk
  · rcases h2.2 with ⟨e, _⟩ | ⟨g', _, c2, hv', _, hh', _⟩
    · rw [e] at hk2; cases hk2
    · rw [hv] at hk
      rw [hv'] at hk2
      have e1 : g = k := by simpa [Value.ownBlock] using hk
      have e2 : g' = k := by simpa [Value.ownBlock] using hk2
      rw [e1] at hh
      rw [e2, hh] at hh'
      simp at hh'
      exact he hh'.2

/-- Rows that share no block. -/
def Apt (rows : List Value) : Prop := ∀ (i j : Nat) (ri rj : Value), i < j → rows[i]? = some ri → rows[j]? = some rj → ∀ g, ri.ownBlock = some g → rj.ownBlock ≠ some g
theorem Apt.nil : Apt [] := fun i j ri rj _ h => by simp at h

/-- The threads so far. -/
def ThrAt (L B : Nat) (w : World) (tv : Value) (p : List (List Ins)) : Prop :=
  ∃ rows, w.ownsRow L 29 1 tv p.length rows ∧ (∀ h, tv.ownBlock = some h → h < B) ∧ (∀ j (hj : j < p.length), (∃ rv, rows[j]? = some rv ∧ CodeRow L B w rv p[j])) ∧ Apt rows

theorem ThrAt.step {L B : Nat} {w w' : World} {tv : Value} {p : List (List Ins)} {r : Option Nat} (h : ThrAt L B w tv p) (hg : w.grownBy w' r) (hr : ∀ q, r = some q → q < L ∨ B ≤ q) : ThrAt L B w' tv p := by
  obtain ⟨rows, h1, h2, h3, h4⟩ := h
  refine ⟨rows, owns_step h1 hg (fun k e e2 => ?_), h2, fun j hj => ?_, h4⟩
  · have := h2 k e2; have := owns_block h1 k e2; rcases hr k e with q | q <;> omega
  · obtain ⟨rv, e1, e2, e3⟩ := h3 j hj
    refine ⟨rv, e1, owns_step e2 hg (fun k e e4 => ?_), e3⟩
    have := e3 k e4; have := owns_block e2 k e4; rcases hr k e with q | q <;> omega
theorem ThrAt.mono {L B B' : Nat} {w : World} {tv : Value} {p : List (List Ins)} (h : ThrAt L B w tv p) (hb : B ≤ B') : ThrAt L B' w tv p := by
  obtain ⟨rows, h1, h2, h3, h4⟩ := h
  refine ⟨rows, h1, fun q e => Nat.lt_of_lt_of_le (h2 q e) hb, fun j hj => ?_, h4⟩
  obtain ⟨rv, e1, e2, e3⟩ := h3 j hj
  exact ⟨rv, e1, e2, fun q e => Nat.lt_of_lt_of_le (e3 q e) hb⟩

/-- p.Threads = append(p.Threads, l): the worlds behind the append. -/
theorem ThrAt.snoc {L B0 B : Nat} {w w1 w2 : World} {tv tv' lv : Value} {p : List (List Ins)} {c : List Ins} {rows : List Value} (h : ThrAt L B0 w tv p) (hB0 : B0 ≤ B) (hnw : ∀ q, lv.ownBlock = some q → B0 ≤ q) (ho : w.ownsRow L 29 1 tv p.length rows) (hl : CodeRow L B w lv c) (hg1 : w.grownBy w1 none)
    (hg2 : w1.grownBy w2 tv.ownBlock) (ho2 : w2.ownsRow L 29 1 tv' (p.length + 1) (rows ++ [lv])) (hB : B ≤ w2.heap.size) (ht : ∀ q, tv'.ownBlock = some q → q < w2.heap.size) : ThrAt L w2.heap.size w2 tv' (p ++ [c]) := by
  obtain ⟨rows', h1, h2, h3, h4⟩ := h
  have hrows : rows' = rows := by
    rcases h1.2 with ⟨e, e0⟩ | ⟨g, cap, cur, hv, _, hh, _, _, _, ht1⟩
    · have a1 := h1.1; have a2 := ho.1
      rw [e0] at a1 a2
      rw [List.length_eq_zero_iff.1 (by omega : rows'.length = 0), List.length_eq_zero_iff.1 (by omega : rows.length = 0)]
    · rcases ho.2 with ⟨e, e0⟩ | ⟨g', cap', cur', hv', _, hh', _, _, _, ht2⟩
      · rw [e] at hv; cases hv
      · rw [hv] at hv'
        simp at hv'
        obtain ⟨e1, e2⟩ := hv'
        rw [← e1, hh] at hh'
        simp at hh'
        rw [← ht1, ← ht2, hh']
  subst hrows
  have hrow : ∀ {rv : Value} {c : List Ins}, CodeRow L B w rv c → CodeRow L w2.heap.size w2 rv c := fun {rv c} hc => by
    have a1 := owns_step hc.1 hg1 (fun k e => by cases e)
    have a2 := owns_step h1 hg1 (fun k e => by cases e)
    exact ⟨owns_step a1 hg2 (fun k e => owns_types a2 a1 (by decide) k e), fun q e => Nat.lt_of_lt_of_le (hc.2 q e) hB⟩
  have hlr : rows'.length = p.length := by have := h1.1; omega
  refine ⟨rows' ++ [lv], by simpa using ho2, ht, fun j hj => ?_, fun i j ri rj hij hi hj g e e' => ?_⟩
  · by_cases hlt : j < p.length
    · obtain ⟨rv, e1, e2, e3⟩ := h3 j hlt
      exact ⟨rv, by rw [List.getElem?_append_left (by omega)]; exact e1, by rw [List.getElem_append_left hlt]; exact hrow ⟨e2, fun q e => Nat.lt_of_lt_of_le (e3 q e) hB0⟩⟩
    · have ej : j = p.length := by simp at hj; omega
      subst ej
      exact ⟨lv, by rw [List.getElem?_append_right (by omega)]; simp [hlr], by simpa using hrow hl⟩
  · have hjl := (List.getElem?_eq_some_iff.1 hj).1
    simp only [List.length_append, List.length_singleton] at hjl
    rw [List.getElem?_append_left (by omega)] at hi
    by_cases hlt : j < rows'.length
    · rw [List.getElem?_append_left hlt] at hj
      exact h4 i j ri rj hij hi hj g e e'
    · have ej : j = rows'.length := by omega
      subst ej
      rw [List.getElem?_append_right (Nat.le_refl _)] at hj
      simp at hj
      subst hj
      obtain ⟨rv, e1, _, e3⟩ := h3 i (by omega)
      rw [hi] at e1
      cases e1
      have := e3 g e
      have := hnw g e'
      omega

end Go.Proofs.YtklenjmfalljgaaDoor

/- The walk of program. -/
namespace Go.Proofs.YtklenjmfalljgaaDoor
open Go.RowKit
attribute [local go_sem] Go.World.cell?_alloc_some

def isInt (c : Int) : Prop := -9223372036854775808 ≤ c ∧ c ≤ 9223372036854775807

end Go.Proofs.YtklenjmfalljgaaDoor

/- On beginnings of runs. -/
namespace Go.Proofs.YtklenjmfalljgaaDoor

theorem follow_fst (p : List (List Ins)) : ∀ (l : List Int) (i : Int) (s : St) (acc : List (Int × Int)), ∃ m, m ≤ l.length ∧ (follow p l i s acc).steps.map (·.1) = acc.map (·.1) ++ l.take m ∧ acc.length + m = (follow p l i s acc).steps.length ∧ ∃ more, (follow p l i s acc).steps = acc ++ more
  | [], i, s, acc => ⟨0, Nat.le_refl _, by simp [follow_nil], by simp [follow_nil], [], by simp [follow_nil]⟩
  | t :: r, i, s, acc => by
    by_cases h1 : okAt p s t = true
    · by_cases h2 : (stepS p s t.toNat).1 = true
      · rw [follow_go p t r i s acc h1 h2]
        obtain ⟨m, q1, q2, q3, more, q4⟩ := follow_fst p r (i + 1) (stepS p s t.toNat).2 (acc ++ [(t, s.next t.toNat)])
        refine ⟨m + 1, by simp; omega, by rw [q2]; simp, by rw [← q3]; simp; omega, (t, s.next t.toNat) :: more, by rw [q4]; simp⟩
      · have h3 : (stepS p s t.toNat).1 = false := by simpa using h2
        rw [follow_fail p t r i s acc h1 h3]
        exact ⟨1, by simp, by simp, by simp, _, rfl⟩
    · have h3 : okAt p s t = false := by simpa using h1
      rw [follow_wrong p t r i s acc h3]
      exact ⟨0, by simp, by simp, by simp, [], by simp⟩

end Go.Proofs.YtklenjmfalljgaaDoor

/- The walk of Cut. -/
namespace Go.Proofs.YtklenjmfalljgaaDoor
open Go.RowKit
attribute [local go_sem] Go.World.cell?_alloc_some run_eq4

end Go.Proofs.YtklenjmfalljgaaDoor

/- The walks of slices.Grow (of nothing) and slices.Concat, at lists of numbers. -/
namespace Go.Proofs.YtklenjmfalljgaaDoor
open Go.RowKit
attribute [local go_sem] Go.World.cell?_alloc_some

theorem info_intC : ((Tryd.prog.info? 3).map fun i => (i.zero, i.size, i.bytes)) = some (some (.int .i64 0), 1, 8) := by kernel_rfl

set_option maxHeartbeats 1000000 in
set_option maxRecDepth 100000 in
theorem grow_m (n : Nat) (w : World) (hn : n ≤ 1000000) :
    Calls Tryd.prog 132 #[.slice none 0 0, .int .i64 n] w fun e w' => ∃ v, e = .returned v ∧ w'.ownsRow w.heap.size 3 1 v 0 [] ∧ w.grownBy w' none := by
  obtain ⟨i0, hi0, hz0, hz1, hz2⟩ := info_parts info_intC
  rcases Nat.eq_zero_or_pos n with e | h0
  · subst e
    go_enter Tryd.func132, Tryd.ntmps132
    go_wp2
    go_ret
    exact ⟨_, rfl, ⟨rfl, Or.inl ⟨rfl, rfl⟩⟩, grown_refl _ _⟩
  · have hr : ∀ ty, (Builtin.append_ #[22, 3] ty #[.slice none 0 0, .int .i64 (n : Int)]).run Tryd.prog w = _ := fun ty => Lib.run_append_nil_zeros w 22 3 ty 3 i0 _ .i64 .i64 Tryd.underlying22 Tryd.underlying3 hi0 hz0 n h0 (by omega) (by omega) (by rw [hz2]; omega)
    have hGn : n ≤ grownCap w n 0 3 := grownCap_ge w _ _ _
    have hG63 : grownCap w n 0 3 ≤ maxLen := grownCap_le_maxLen w n 0 3 (by unfold maxLen; omega)
    generalize grownCap w n 0 3 = G at *
    have HF : Hid ((w.drew.alloc (.cells (Builtin.zeroCells (Value.int .i64 0).cells n ++ Builtin.zeroCells (Value.int .i64 0).cells (G - n)) 3)).ownsRow w.heap.size 3 1 (.slice (some ⟨w.heap.size, 0, none⟩) 0 G) 0 []) := by
      refine ⟨rfl, Or.inr ⟨w.heap.size, G, _, rfl, Nat.le_refl _, heap_alloc_new w.drew _, Nat.zero_le _, hG63, ?_, by simp⟩⟩
      simp [Builtin.zeroCells, Value.cells]; omega
    have HG : Hid (w.grownBy (w.drew.alloc (.cells (Builtin.zeroCells (Value.int .i64 0).cells n ++ Builtin.zeroCells (Value.int .i64 0).cells (G - n)) 3)) none) := ⟨rfl, rfl, rfl, by simp, fun k hk _ => heap_alloc_old w.drew _ hk⟩
    have h1 : (0 : Int) < (n : Int) := by omega
    have h2 : (n : Int) ≤ 1000000 := by omega
    have h3 : (0 : Int) ≤ (n : Int) := by omega
    generalize w.drew.alloc (.cells (Builtin.zeroCells (Value.int .i64 0).cells n ++ Builtin.zeroCells (Value.int .i64 0).cells (G - n)) 3) = w' at *
    have h5 : G ≤ 9223372036854775807 := by unfold maxLen at hG63; omega
    clear hG63
    go_enter Tryd.func132, Tryd.ntmps132
    go_wp2_with (at_builtin; refine Lib.wpList_append_run _ rfl _ _ _ _ rfl _ _ rfl rfl _ _ (hr _) ?_)
    go_ret
    exact ⟨_, rfl, HF.out, HG.out⟩

def nilOk (x : Value) : Prop := ∀ n c, x = .slice none n c → n = 0 ∧ c = 0
/-- Lists of numbers in a row. -/
def RowsAt (w : World) (v : Value) (ss : List (List Int)) : Prop :=
  ∃ g o cap, v = .slice (some ⟨g, o, none⟩) ss.length cap ∧ g < w.heap.size ∧ ∀ k (hk : k < ss.length), ∃ x, w.cell? ⟨g, o + k, none⟩ = some x ∧ IntsAt w.heap.size w x ss[k] ∧ nilOk x

theorem flat_step (ss : List (List Int)) (k : Nat) (hk : k < ss.length) : (ss.take (k + 1)).flatten = (ss.take k).flatten ++ ss[k] := by
  rw [List.take_succ_eq_append_getElem hk, List.flatten_append]; simp
theorem flat_le (ss : List (List Int)) (k : Nat) : (ss.take k).flatten.length ≤ ss.flatten.length := by
  conv => rhs; rw [← List.take_append_drop k ss, List.flatten_append, List.length_append]
  omega
theorem ints_news {w : World} {g o c : Nat} {l : List Int} (h : IntsAt w.heap.size w (.slice (some ⟨g, o, none⟩) l.length c) l) : ∀ j u, (ints l)[j]? = some u → w.cell? ((⟨g, o, none⟩ : Addr).add j) = some u := by
  intro j u hj
  obtain ⟨ao, cap, e, _, h2⟩ := h
  have hl := (List.getElem?_eq_some_iff.1 hj).1
  rw [ints_len] at hl
  obtain ⟨g', o', e1, e2, e3⟩ := h2 j hl
  simp only [Value.slice.injEq] at e
  rw [e1] at e
  simp only [Option.some.injEq, Addr.mk.injEq, and_true] at e
  obtain ⟨⟨rfl, rfl⟩, _⟩ := e
  have hadd : (⟨g, o, none⟩ : Addr).add j = ⟨g, o + j, none⟩ := by unfold Addr.add; split <;> simp_all
  rw [hadd, e3]
  have : (ints l)[j]? = some (.int .i64 l[j]) := by simp [ints, hl]
  rw [this] at hj; exact hj

set_option maxHeartbeats 2000000 in
set_option maxRecDepth 100000 in
theorem concat_m (ss : List (List Int)) (sv : Value) (w : World) (hR : RowsAt w sv ss) (hn : ss.length ≤ 1000) (ht : ss.flatten.length ≤ 1000000) :
    Calls Tryd.prog 96 #[sv] w fun e w' => ∃ v, e = .returned v ∧ w'.ownsRow w.heap.size 3 1 v ss.flatten.length (ints ss.flatten) ∧ w.grownBy w' none := by
  obtain ⟨i0, hi0, hz0, hz1, hz2⟩ := info_parts info_intC
  obtain ⟨g, o, cap, rfl, hg, hc⟩ := hR
  have HC := hide hc
  have hn' : (ss.length : Int) ≤ 1000 := by omega
  clear hc
  go_enter Tryd.func96, Tryd.ntmps96
  go_wp2_with fail
  go_loopw [3, 11] (fun z i w' => ∃ k n : Nat, k ≤ ss.length ∧ i = .int .i64 k ∧ z = .int .i64 n ∧ Hid (n = (ss.take k).flatten.length) ∧ Hid (w' = w)) (fun _ i _ => ss.length - (intOf i).toNat)
  case atStart => exact ⟨0, 0, Nat.zero_le _, rfl, rfl, rfl, rfl⟩
  case round =>
    obtain ⟨k, n, hk, rfl, rfl, HN, HW⟩ := hrel
    obtain rfl := HW.out.symm
    clear HW
    have hnb : n ≤ 1000000 := by have := HN.out; have := flat_le ss k; omega
    have hnb' : (n : Int) ≤ 1000000 := by omega
    have hn0 : (0 : Int) ≤ (n : Int) := by omega
    by_cases hlt : k < ss.length
    · obtain ⟨x, c0, hI, hno⟩ := HC.out k hlt
      obtain ⟨so, sc, rfl⟩ := hI.form
      have hle : n + ss[k].length ≤ 1000000 := by
        have h1 := flat_le ss (k + 1)
        rw [flat_step ss k hlt, List.length_append] at h1
        have := HN.out; omega
      have HNX : Hid (n + ss[k].length = (ss.take (k + 1)).flatten.length) := by
        unfold Hid; rw [flat_step ss k hlt, List.length_append, HN.out]
      clear hI hno
      generalize ss[k] = s at *
      have hs0 : (0 : Int) ≤ (s.length : Int) := by omega
      have hs1 : (n : Int) + (s.length : Int) ≤ 1000000 := by omega
      have hs2 : (0 : Int) ≤ (n : Int) + (s.length : Int) := by omega
      have hk0 : (0 : Int) ≤ (k : Int) := by omega
      have hk1 : (k : Int) < ss.length := by omega
      go_wp2_with fail
      go_roundw
      case rel => exact ⟨k + 1, n + s.length, by omega, by go_num, by go_num, HNX, (by first | exact trivial | rfl)⟩
      case measure => simp [intOf]; omega
    · have hk1 : (ss.length : Int) ≤ (k : Int) := by omega
      have HNE : Hid (n = ss.flatten.length) := by unfold Hid; rw [HN.out, List.take_of_length_le (by omega)]
      go_wp2_with (go_at_call 132; refine (grow_m n _ hnb).mono ?_; rintro e w1 ⟨v1, rfl, hown1, hg1⟩)
      obtain ⟨a1, a2, a3, rfl⟩ := owns_form hown1
      have HO1 := hide hown1
      have HG1 := hide hg1
      clear hown1 hg1 HN HNE hnb hnb' hn0 hk hlt hk1
      go_wp2_with fail
      go_loopw [6, 27] (fun v i w' => ∃ k : Nat, k ≤ ss.length ∧ i = .int .i64 k ∧ Hid (w'.ownsRow w.heap.size 3 1 v (ss.take k).flatten.length (ints (ss.take k).flatten)) ∧ Hid (w.grownBy w' none)) (fun _ i _ => ss.length - (intOf i).toNat)
      case atStart => exact ⟨0, Nat.zero_le _, rfl, HO1, HG1⟩
      case round =>
        clear HO1 HG1
        obtain ⟨k, hk, rfl, HO, HG⟩ := hrel
        obtain ⟨w5, hw5⟩ : ∃ w5, w5 = wr := ⟨_, rfl⟩
        rw [← hw5] at HO HG ⊢
        clear hw5
        by_cases hlt : k < ss.length
        · obtain ⟨x, c0, hI, hno⟩ := HC.out k hlt
          obtain ⟨so, sc, rfl⟩ := hI.form
          have d0 := pres_grown HG.out _ _ c0
          have hle : (ss.take k).flatten.length + ss[k].length ≤ 1000000 := by
            have h1 := flat_le ss (k + 1)
            rw [flat_step ss k hlt, List.length_append] at h1
            omega
          have HNX : Hid ((ss.take (k + 1)).flatten = (ss.take k).flatten ++ ss[k]) := flat_step ss k hlt
          have HI5 : Hid (IntsAt w5.heap.size w5 (.slice so ss[k].length sc) ss[k]) := (hI.pres (pres_grown HG.out)).mono HG.out.size
          have HSO : Hid (so = none → ss[k].length = 0 ∧ sc = 0) := fun e => hno _ _ (by rw [e])
          have HNW : Hid (∀ ad, so = some ad → ∀ j u, (ints ss[k])[j]? = some u → w5.cell? (ad.add j) = some u) := by
            rintro ad rfl j u hj
            have hl := (List.getElem?_eq_some_iff.1 hj).1
            rw [ints_len] at hl
            obtain ⟨ao, cp, e, _, h2⟩ := HI5.out
            obtain ⟨g', o', e1, _⟩ := h2 0 (by omega)
            simp only [Value.slice.injEq] at e
            rw [e1] at e
            simp only [Option.some.injEq] at e
            obtain ⟨rfl, _⟩ := e
            exact ints_news HI5.out j u hj
          clear c0 hI hno
          generalize ss[k] = s at *
          obtain ⟨b1, b2, b3, hv⟩ := owns_form HO.out
          have hk0 : (0 : Int) ≤ (k : Int) := by omega
          have hk1 : (k : Int) < ss.length := by omega
          have hil : (ints s).length = s.length * 1 := by rw [ints_len]; omega
          have h63 : (ss.take k).flatten.length + s.length ≤ maxLen := by unfold maxLen; omega
          have hbs : w.heap.size ≤ w5.heap.size := HG.out.size
          have HOB := hide (owns_block HO.out)
          go_wp2_with (at_builtin; refine wpList_append_any rfl _ _ _ rfl w.heap.size 3 i0 _ 1 8 Tryd.underlying22 hi0 hz0 hz1 hz2 rfl (by omega) u6 (ss.take k).flatten.length (ints (ss.take k).flatten) rfl HO.out so s.length sc (ints s) rfl hil HSO.out HNW.out (ints_one _) h63 (by omega) hbs ?_; intro ta tn tc w7 hown7 hg7)
          have HO7 : Hid (w7.ownsRow w.heap.size 3 1 (.slice ta tn tc) (ss.take (k + 1)).flatten.length (ints (ss.take (k + 1)).flatten)) := by
            unfold Hid; rw [HNX.out, List.length_append]
            have : ints ((ss.take k).flatten ++ s) = ints (ss.take k).flatten ++ ints s := by simp [ints]
            rw [this]; exact hown7
          have HG7 : Hid (w.grownBy w7 none) := grown_row HG.out hg7 HOB.out
          clear hown7 hg7 HO HG HNX HI5 HSO HNW
          go_wp2_with fail
          go_roundw
          case rel => exact ⟨k + 1, by omega, by go_num, HO7, HG7⟩
          case measure => simp [intOf]; omega
        · have hk1 : (ss.length : Int) ≤ (k : Int) := by omega
          have HOE : Hid (w5.ownsRow w.heap.size 3 1 u6 ss.flatten.length (ints ss.flatten)) := by
            have := HO.out
            rwa [List.take_of_length_le (by omega)] at this
          go_wp2_with fail
          go_ret
          exact ⟨_, rfl, HOE.out, HG.out⟩

end Go.Proofs.YtklenjmfalljgaaDoor

/- Rows of things of which some depend on one another: their layers, what may change places, the row by layers (no dump is named here). -/
namespace Go.Proofs.YtklenjmfalljgaaDoor

section
variable {α : Type} (d : α → α → Bool) (th : α → Nat)

/-- Rows that come of one another by neighbours that change places and do not depend on one another. -/
def Eqv (xs ys : List α) : Prop := ∀ R : List α → List α → Prop, (∀ a, R a a) → (∀ (a : List α) (x y : α) (b : List α), d x y = false → d y x = false → R (a ++ x :: y :: b) (a ++ y :: x :: b)) → (∀ a b c, R a b → R b c → R a c) → R xs ys

variable {d}
theorem Eqv.refl (xs : List α) : Eqv d xs xs := fun _ h _ _ => h xs
theorem Eqv.swap (a : List α) (x y : α) (b : List α) (h1 : d x y = false) (h2 : d y x = false) : Eqv d (a ++ x :: y :: b) (a ++ y :: x :: b) := fun _ _ h _ => h a x y b h1 h2
theorem Eqv.trans {xs ys zs : List α} (h : Eqv d xs ys) (h' : Eqv d ys zs) : Eqv d xs zs := fun R h1 h2 h3 => h3 xs ys zs (h R h1 h2 h3) (h' R h1 h2 h3)
theorem Eqv.snoc {xs ys : List α} (h : Eqv d xs ys) (z : α) : Eqv d (xs ++ [z]) (ys ++ [z]) := by
  refine h (fun xs ys => Eqv d (xs ++ [z]) (ys ++ [z])) (fun _ => Eqv.refl _) (fun a x y b h1 h2 => ?_) (fun _ _ _ i1 i2 => i1.trans i2)
  simpa using Eqv.swap a x y (b ++ [z]) h1 h2

end

end Go.Proofs.YtklenjmfalljgaaDoor

/- Steps that have nothing to do with one another change places: the machine comes to the same (no dump is named here). -/
namespace Go.Proofs.YtklenjmfalljgaaDoor
open Go.RowKit (wrap64)

/-- A step that was done, or failed. -/
structure Ev where
  t : Nat
  k : Int
  bad : Bool

def goes (p : List (List Ins)) (s : St) (x : Ev) : Prop := x.t < p.length ∧ readyB p s x.t = true ∧ s.next x.t = x.k ∧ (stepS p s x.t).1 = !x.bad
def RunE (p : List (List Ins)) : St → List Ev → St → Prop
  | s, [], s' => s' = s
  | s, x :: r, s' => goes p s x ∧ RunE p (stepS p s x.t).2 r s'

theorem St.eq_of {s s' : St} (h1 : s.vars = s'.vars) (h2 : s.held = s'.held) (h3 : s.own = s'.own) (h4 : s.regs = s'.regs) (h5 : s.next = s'.next) : s = s' := by
  cases s; cases s'; simp at *; exact ⟨h1, h2, h3, h4, h5⟩

theorem RunE.append {p : List (List Ins)} : ∀ {a b : List Ev} {s s' : St}, RunE p s (a ++ b) s' ↔ ∃ s1, RunE p s a s1 ∧ RunE p s1 b s'
  | [], b, s, s' => by simp [RunE]
  | x :: a, b, s, s' => by
    simp only [List.cons_append, RunE, RunE.append (a := a)]
    constructor
    · rintro ⟨h1, s1, h2, h3⟩; exact ⟨s1, ⟨h1, h2⟩, h3⟩
    · rintro ⟨s1, ⟨h1, h2⟩, h3⟩; exact ⟨h1, s1, h2, h3⟩

end Go.Proofs.YtklenjmfalljgaaDoor

/- A run's steps, and the form of a schedule: it runs to the same, and is its own (no dump is named here). -/
namespace Go.Proofs.YtklenjmfalljgaaDoor

def Ev.tI (e : Ev) : Int := (e.t : Int)
def Ev.pr (e : Ev) : Int × Int := ((e.t : Int), e.k)
def good (xs : List Ev) : Prop := ∀ e ∈ xs, e.bad = false

theorem goes_ok {p : List (List Ins)} {s : St} {x : Ev} (h : goes p s x) : okAt p s x.tI = true := by
  obtain ⟨h1, h2, _⟩ := h
  simp [okAt, belowB, Ev.tI, h1, h2]

/-- What a run is, by its steps. -/
theorem follow_cases (p : List (List Ins)) : ∀ (l : List Int) (i : Int) (s : St) (acc : List (Int × Int)), ∃ xs s', RunE p s xs s' ∧ (follow p l i s acc).steps = acc ++ xs.map Ev.pr ∧ (follow p l i s acc).st = s' ∧
    ((good xs ∧ xs.map Ev.tI = l ∧ (follow p l i s acc).kind = endingS p s' ∧ (follow p l i s acc).thread = 0 ∧ (follow p l i s acc).at_ = 0) ∨
     (good xs ∧ (∃ u r, l = xs.map Ev.tI ++ u :: r ∧ okAt p s' u = false) ∧ (follow p l i s acc).kind = 2 ∧ (follow p l i s acc).thread = 0 ∧ (follow p l i s acc).at_ = i + xs.length) ∨
     (∃ ys z r, xs = ys ++ [z] ∧ good ys ∧ z.bad = true ∧ l = xs.map Ev.tI ++ r ∧ (follow p l i s acc).kind = 1 ∧ (follow p l i s acc).thread = z.tI ∧ (follow p l i s acc).at_ = z.k))
  | [], i, s, acc => ⟨[], s, rfl, by simp [follow], rfl, Or.inl ⟨by simp [good], rfl, rfl, rfl, rfl⟩⟩
  | t :: r, i, s, acc => by
    by_cases h1 : okAt p s t = true
    · have hb : 0 ≤ t ∧ t < p.length ∧ readyB p s t.toNat = true := by
        simp [okAt, belowB] at h1; exact ⟨h1.1.1, h1.1.2, h1.2⟩
      obtain ⟨hb1, hb2, hb3⟩ := hb
      have ht : ((t.toNat : Nat) : Int) = t := by omega
      by_cases h2 : (stepS p s t.toNat).1 = true
      · obtain ⟨xs, s', hr, hs, hst, hc⟩ := follow_cases p r (i + 1) (stepS p s t.toNat).2 (acc ++ [(t, s.next t.toNat)])
        rw [follow_go p t r i s acc h1 h2]
        have hg : goes p s ⟨t.toNat, s.next t.toNat, false⟩ := ⟨by simp only; omega, hb3, rfl, by simpa using h2⟩
        refine ⟨⟨t.toNat, s.next t.toNat, false⟩ :: xs, s', ⟨hg, hr⟩, ?_, hst, ?_⟩
        · rw [hs]; simp [Ev.pr, ht]
        · have hgood : ∀ {zs : List Ev}, good zs → good (⟨t.toNat, s.next t.toNat, false⟩ :: zs) := fun h e he => by
            rcases List.mem_cons.1 he with he | he
            · rw [he]
            · exact h e he
          rcases hc with ⟨g1, g2, g3, g4, g5⟩ | ⟨g1, ⟨u, r', g2, g2'⟩, g3, g4, g5⟩ | ⟨ys, z, r', g1, g2, g3, g4, g5, g6, g7⟩
          · exact Or.inl ⟨hgood g1, by simp [Ev.tI, ht]; exact g2, g3, g4, g5⟩
          · exact Or.inr (Or.inl ⟨hgood g1, ⟨u, r', by simp [Ev.tI, ht]; exact g2, g2'⟩, g3, g4, by rw [g5]; simp; omega⟩)
          · exact Or.inr (Or.inr ⟨⟨t.toNat, s.next t.toNat, false⟩ :: ys, z, r', by rw [g1]; rfl, hgood g2, g3, by simp [Ev.tI, ht]; exact g4, g5, g6, g7⟩)
      · have h3 : (stepS p s t.toNat).1 = false := by simpa using h2
        rw [follow_fail p t r i s acc h1 h3]
        refine ⟨[⟨t.toNat, s.next t.toNat, true⟩], _, ⟨⟨by simp only; omega, hb3, rfl, by simpa using h3⟩, rfl⟩, by simp [Ev.pr, ht], rfl, Or.inr (Or.inr ⟨[], _, r, rfl, by simp [good], rfl, by simp [Ev.tI, ht], rfl, by simp [Ev.tI, ht], rfl⟩)⟩
    · have h3 : okAt p s t = false := by simpa using h1
      rw [follow_wrong p t r i s acc h3]
      exact ⟨[], s, rfl, by simp, rfl, Or.inr (Or.inl ⟨by simp [good], ⟨t, r, rfl, h3⟩, rfl, rfl, by simp⟩)⟩

theorem follow_of_good (p : List (List Ins)) : ∀ (xs : List Ev) (l : List Int) (i : Int) (s s' : St) (acc : List (Int × Int)), good xs → RunE p s xs s' → follow p (xs.map Ev.tI ++ l) i s acc = follow p l (i + xs.length) s' (acc ++ xs.map Ev.pr)
  | [], l, i, s, s', acc, _, h => by cases h; simp
  | x :: r, l, i, s, s', acc, hg, ⟨h1, h2⟩ => by
    have hb := hg x (List.mem_cons_self ..)
    have hok := goes_ok h1
    obtain ⟨g1, g2, g3, g4⟩ := h1
    have e1 : x.tI.toNat = x.t := by simp [Ev.tI]
    rw [List.map_cons, List.cons_append, follow_go p _ _ i s acc hok (by rw [e1, g4, hb]; rfl), e1, follow_of_good p r l (i + 1) _ s' _ (fun e he => hg e (List.mem_cons_of_mem _ he)) h2]
    congr 1
    · simp; omega
    · simp [Ev.pr, Ev.tI, g3]

theorem follow_bad {p : List (List Ins)} {ys : List Ev} {z : Ev} {i : Int} {s s' : St} {acc : List (Int × Int)} (hg : good ys) (hz : z.bad = true) (h : RunE p s (ys ++ [z]) s') : follow p ((ys ++ [z]).map Ev.tI) i s acc = ⟨acc ++ (ys ++ [z]).map Ev.pr, 1, z.tI, z.k, s'⟩ := by
  rw [RunE.append] at h
  obtain ⟨s1, h1, h2, h3⟩ := h
  have hok := goes_ok h2
  obtain ⟨g1, g2, g3, g4⟩ := h2
  have e1 : z.tI.toNat = z.t := by simp [Ev.tI]
  rw [List.map_append, follow_of_good p ys _ i s s1 acc hg h1, List.map_cons, List.map_nil, follow_fail p _ _ _ s1 _ hok (by rw [e1, g4, hz]; rfl), e1, g3]
  cases h3
  simp [Ev.pr, Ev.tI]

end Go.Proofs.YtklenjmfalljgaaDoor

/- Schedules made shorter, trial by trial (no dump is named here). -/
namespace Go.Proofs.YtklenjmfalljgaaDoor

/-- The same verdict (of a Wrong one the kind). -/
def likeV (a b : Out) : Bool := if a.kind = 2 then b.kind == 2 else (a.kind == b.kind && a.thread == b.thread && a.at_ == b.at_)
/-- One number left out. -/
def leftOut (l : List Int) (i : Nat) : List Int := l.take i ++ l.drop (i + 1)
/-- So many numbers of its schedule a run came to. -/
def cameTo (o : Out) : Nat := if o.kind = 2 then o.steps.length + 1 else o.steps.length

def shr (p : List (List Ins)) (V : Out) : Nat → List Int → Nat → Nat → List Int × Nat
  | 0, l, _, u => (l, u)
  | n + 1, l, i, u => if i < l.length then (if likeV (runS p (leftOut l i)) V = true then shr p V n (leftOut l i) 0 (u + 1) else shr p V n l (i + 1) (u + 1)) else (l, u)

def shortS (p : List (List Ins)) (s : List Int) (fuel : Nat) : List Int × Nat := shr p (runS p s) fuel (s.take (cameTo (runS p s))) 0 0

theorem leftOut_len {l : List Int} {i : Nat} (h : i < l.length) : (leftOut l i).length + 1 = l.length := by
  unfold leftOut; simp; omega

section
variable {p : List (List Ins)} {V : Out}
theorem shr_len : ∀ (n : Nat) (l : List Int) (i u : Nat), (shr p V n l i u).1.length ≤ l.length
  | 0, l, i, u => Nat.le_refl _
  | n + 1, l, i, u => by
    unfold shr
    split
    · rename_i hi
      have := leftOut_len hi
      split
      · have := shr_len n (leftOut l i) 0 (u + 1); omega
      · exact shr_len n l (i + 1) (u + 1)
    · exact Nat.le_refl _
end

/-- What was cut off was nothing to the run. -/
theorem run_cut (p : List (List Ins)) (s : List Int) : runS p (s.take (cameTo (runS p s))) = runS p s ∧ cameTo (runS p s) ≤ s.length := by
  have hc := follow_cases p s 0 St.zero []
  change ∃ xs s', RunE p St.zero xs s' ∧ (runS p s).steps = [] ++ xs.map Ev.pr ∧ (runS p s).st = s' ∧ ((good xs ∧ xs.map Ev.tI = s ∧ (runS p s).kind = endingS p s' ∧ (runS p s).thread = 0 ∧ (runS p s).at_ = 0) ∨ (good xs ∧ (∃ u r, s = xs.map Ev.tI ++ u :: r ∧ okAt p s' u = false) ∧ (runS p s).kind = 2 ∧ (runS p s).thread = 0 ∧ (runS p s).at_ = 0 + xs.length) ∨ (∃ ys z r, xs = ys ++ [z] ∧ good ys ∧ z.bad = true ∧ s = xs.map Ev.tI ++ r ∧ (runS p s).kind = 1 ∧ (runS p s).thread = z.tI ∧ (runS p s).at_ = z.k)) at hc
  obtain ⟨xs, s', hr, hs, hst, hc⟩ := hc
  rw [List.nil_append] at hs
  have hl : (runS p s).steps.length = xs.length := by rw [hs]; simp
  have eq_of : ∀ o : Out, o.steps = (runS p s).steps → o.kind = (runS p s).kind → o.thread = (runS p s).thread → o.at_ = (runS p s).at_ → o.st = (runS p s).st → o = runS p s := by
    intro o h1 h2 h3 h4 h5
    cases o
    generalize runS p s = q at *
    cases q
    simp at *; exact ⟨h1, h2, h3, h4, h5⟩
  rcases hc with ⟨g1, g2, g3, g4, g5⟩ | ⟨g1, ⟨u, r, g2, g2'⟩, g3, g4, g5⟩ | ⟨us, z, r, g1, g2, g3, g4, g5, g6, g7⟩
  · have hk : cameTo (runS p s) = s.length := by
      unfold cameTo
      rw [if_neg (by have := endingS_range p s'; omega), hl, ← g2]; simp
    rw [hk, List.take_length]
    exact ⟨rfl, Nat.le_refl _⟩
  · have hk : cameTo (runS p s) = xs.length + 1 := by unfold cameTo; rw [if_pos g3, hl]
    have ht : s.take (xs.length + 1) = xs.map Ev.tI ++ [u] := by
      rw [g2, List.take_append, List.take_of_length_le (by simp)]; simp
    rw [hk, ht]
    refine ⟨?_, by rw [g2]; simp⟩
    have e1 : runS p (xs.map Ev.tI ++ [u]) = ⟨xs.map Ev.pr, 2, 0, 0 + xs.length, s'⟩ := by
      unfold runS; rw [follow_of_good p xs [u] 0 St.zero s' [] g1 hr, follow_wrong p u [] _ _ _ g2']; simp
    rw [e1]
    exact eq_of _ hs.symm g3.symm g4.symm g5.symm hst.symm
  · have hk : cameTo (runS p s) = xs.length := by unfold cameTo; rw [if_neg (by omega), hl]
    have ht : s.take xs.length = xs.map Ev.tI := by
      rw [g4, List.take_append, List.take_of_length_le (by simp)]; simp
    rw [hk, ht]
    refine ⟨?_, by rw [g4]; simp⟩
    subst g1
    have e1 : runS p ((us ++ [z]).map Ev.tI) = ⟨(us ++ [z]).map Ev.pr, 1, z.tI, z.k, s'⟩ := by
      unfold runS; rw [follow_bad g2 g3 hr]; simp
    rw [e1]
    exact eq_of _ hs.symm g5.symm g6.symm g7.symm hst.symm

end Go.Proofs.YtklenjmfalljgaaDoor

/- The walk of SameVerdict. -/
namespace Go.Proofs.YtklenjmfalljgaaDoor
open Go.RowKit
attribute [local go_sem] Go.World.cell?_alloc_some

def verdV (o : Out) : Value := .agg #[.int .i64 o.kind, .int .i64 o.thread, .int .i64 o.at_]

set_option maxHeartbeats 1000000 in
set_option maxRecDepth 100000 in
theorem sameVerdict_m (a b : Out) (w : World) : Calls Tryd.prog 69 #[verdV a, verdV b] w fun e w' => e = .returned (.bool (likeV a b)) ∧ w.grownBy w' none := by
  obtain ⟨al, ak, av, aa, ast⟩ := a
  obtain ⟨bs, bk, bt, ba, bst⟩ := b
  unfold verdV
  simp only
  have HG : Hid (∀ x y, w.grownBy ((w.alloc x).alloc y) none) := fun x y => grown_alloc (grown_alloc (grown_refl _ _))
  by_cases h2 : ak = 2
  · by_cases h3 : bk = 2
    · have HE : Hid (likeV ⟨al, ak, av, aa, ast⟩ ⟨bs, bk, bt, ba, bst⟩ = true) := by unfold Hid likeV; simp [h2, h3]
      subst h2 h3
      go_enter Tryd.func69, Tryd.ntmps69
      go_wp2_with fail
      go_ret
      exact ⟨by rw [HE.out]; rfl, HG.out _ _⟩
    · have HE : Hid (likeV ⟨al, ak, av, aa, ast⟩ ⟨bs, bk, bt, ba, bst⟩ = false) := by unfold Hid likeV; simp [h2, h3]
      have hb : (bk == 2) = false := by simpa using h3
      subst h2
      clear h3
      go_enter Tryd.func69, Tryd.ntmps69
      go_wp2_with fail
      go_ret
      exact ⟨by rw [HE.out]; rfl, HG.out _ _⟩
  · have HE : Hid (likeV ⟨al, ak, av, aa, ast⟩ ⟨bs, bk, bt, ba, bst⟩ = (ak == bk && av == bt && aa == ba)) := by unfold Hid likeV; simp [h2]
    have ha : (ak == 2) = false := by simpa using h2
    clear h2
    go_enter Tryd.func69, Tryd.ntmps69
    go_wp2_with fail
    all_goals (go_ret; refine ⟨?_, HG.out _ _⟩; rw [HE.out]; simp [*])

end Go.Proofs.YtklenjmfalljgaaDoor

/- The walk of lengthOf. -/
namespace Go.Proofs.YtklenjmfalljgaaDoor
open Go.RowKit
attribute [local go_sem] Go.World.cell?_alloc_some

theorem rows_one {W : World} {x : Value} {l : List Int} {t : TypeId} {g : Nat} (hg : W.heap.size = g) (h : IntsAt W.heap.size W x l) (hn : nilOk x) : RowsAt (W.alloc (.cells #[x] t)) (.slice (some ⟨g, 0, none⟩) 1 1) [l] := by
  subst hg
  refine ⟨W.heap.size, 0, 1, rfl, by simp, fun k hk => ⟨x, ?_, ?_, hn⟩⟩
  · have hk0 : k = 0 := by simp at hk; omega
    subst hk0
    have h := heap_alloc_new W (.cells #[x] t)
    simp only [World.cell?, h]
    rfl
  · have hk0 : k = 0 := by simp at hk; omega
    subst hk0
    exact (h.pres (pres_grown (grown_alloc (grown_refl _ _)))).mono (by simp)
theorem rows_two {W : World} {x y : Value} {l m : List Int} {t : TypeId} {g : Nat} (hg : W.heap.size = g) (h : IntsAt W.heap.size W x l) (hn : nilOk x) (h' : IntsAt W.heap.size W y m) (hn' : nilOk y) : RowsAt (W.alloc (.cells #[x, y] t)) (.slice (some ⟨g, 0, none⟩) 2 2) [l, m] := by
  subst hg
  have hb := heap_alloc_new W (.cells #[x, y] t)
  have up : ∀ {v : Value} {l : List Int}, IntsAt W.heap.size W v l → IntsAt (W.alloc (.cells #[x, y] t)).heap.size (W.alloc (.cells #[x, y] t)) v l := fun h => (h.pres (pres_grown (grown_alloc (grown_refl _ _)))).mono (by simp)
  refine ⟨W.heap.size, 0, 2, rfl, by simp, fun k hk => ?_⟩
  have hk0 : k = 0 ∨ k = 1 := by simp at hk; omega
  rcases hk0 with rfl | rfl
  · exact ⟨x, by simp only [World.cell?, hb]; rfl, up h, hn⟩
  · exact ⟨y, by simp only [World.cell?, hb]; rfl, up h', hn'⟩

theorem MachAt.mono {B B' : Nat} {w : World} {m : Nat} {p : List (List Ins)} (H : MachAt B w m p) (hb : B ≤ B') : MachAt B' w m p := by
  obtain ⟨g, cap, h1, h2, h3, h4⟩ := H
  refine ⟨g, cap, by omega, by omega, h3, fun t ht => ?_⟩
  obtain ⟨v, k1, k2⟩ := h4 t ht
  exact ⟨v, k1, k2.mono hb⟩

theorem IntsAt.front {B : Nat} {w : World} {ao : Option Addr} {cap n : Nat} {l : List Int} (h : IntsAt B w (.slice ao l.length cap) l) (hn : n ≤ l.length) : IntsAt B w (.slice ao n cap) (l.take n) := by
  obtain ⟨a, c, e, h1, h2⟩ := h
  simp only [Value.slice.injEq, true_and] at e
  obtain ⟨rfl, rfl⟩ := e
  refine ⟨ao, cap, by simp [Nat.min_eq_left hn], by simp; omega, fun k hk => ?_⟩
  have hk' : k < l.length := by simp at hk; omega
  obtain ⟨g, o, e1, e2, e3⟩ := h2 k hk'
  exact ⟨g, o, e1, e2, by rw [List.getElem_take]; exact e3⟩

set_option maxHeartbeats 1000000 in
set_option maxRecDepth 100000 in
theorem lengthOf_m (o : Out) (w : World) (sao gao : Option Addr) (scp gl gc : Nat) (v0 v1 v2 v3 : Int) (hl : o.steps.length ≤ 1000) :
    Calls Tryd.prog 97 #[.agg #[.int .i64 o.kind, .int .i64 o.thread, .int .i64 o.at_, .slice sao o.steps.length scp, .int .i64 v0, .int .i64 v1, .int .i64 v2, .int .i64 v3, .slice gao gl gc]] w fun e w' => e = .returned (.int .i64 (cameTo o)) ∧ w.grownBy w' none := by
  have hl' : (o.steps.length : Int) ≤ 1000 := by omega
  by_cases h2 : o.kind = 2
  · have HE : Hid (((cameTo o : Nat) : Int) = o.steps.length + 1) := by unfold Hid cameTo; rw [if_pos h2]; simp
    rw [h2]
    go_enter Tryd.func97, Tryd.ntmps97
    go_wp2_with fail
    go_ret
    exact ⟨by rw [HE.out]; first | rfl | go_num, grown_alloc (grown_refl _ _)⟩
  · have HE : Hid (((cameTo o : Nat) : Int) = o.steps.length) := by unfold Hid cameTo; rw [if_neg h2]
    have hb : (o.kind == 2) = false := by simpa using h2
    clear h2
    go_enter Tryd.func97, Tryd.ntmps97
    go_wp2_with fail
    go_ret
    exact ⟨by rw [HE.out]; first | rfl | go_num, grown_alloc (grown_refl _ _)⟩

end Go.Proofs.YtklenjmfalljgaaDoor

/- A result's verdict, as a field of the value. -/
namespace Go.Proofs.YtklenjmfalljgaaDoor
open Go.RowKit

theorem run_field_verdict (k t a : Int) (sv gv : Value) (v0 v1 v2 v3 : Value) (w : World) : (Instr.field 37 (.agg #[.int .i64 k, .int .i64 t, .int .i64 a, sv, v0, v1, v2, v3, gv]) 0).run Tryd.prog w = .ok (.agg #[.int .i64 k, .int .i64 t, .int .i64 a]) w := by
  simp [Instr.field, run_underlying Tryd.underlying37, asAgg, part, Tryd.isAgg32, Tryd.sizeOf32]

end Go.Proofs.YtklenjmfalljgaaDoor
