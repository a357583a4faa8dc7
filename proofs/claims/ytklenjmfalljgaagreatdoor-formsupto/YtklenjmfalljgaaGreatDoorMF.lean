/- The texts Rfd Rfe Rff Rfg Rfh Ctr Eq4 Ask Frm. -/
import Derived.Test.YtklenjmfalljgaaGreatDoorME
import Derived.Deep.AppendLies
import Derived.ChangeKeysEq
import Derived.RowKit

/- The reference's run in memory; the beginning of its step. -/
namespace Go.Proofs.YtklenjmfalljgaaGreatDoor
open Go.RowKit
attribute [local go_sem] Go.World.cell?_alloc_some

def ownR (s : St) (l : Nat) : Int := if s.held l = true then s.own l else -1
def atF (n : Nat) (s : St) : List Value := (List.range n).map fun t => .int .i64 (s.next t)

def runC (ps : Value) (ab rb n : Nat) (st : Value) (s : St) (k th a : Int) : Array Value :=
  #[ps, .slice (some ⟨ab, 0, none⟩) n n, .slice (some ⟨rb, 0, none⟩) n n, .int .i64 (s.vars 0), .int .i64 (s.vars 1), .int .i64 (s.vars 2), .int .i64 (s.vars 3),
    .int .i64 (ownR s 0), .int .i64 (ownR s 1), .int .i64 (ownR s 2), st, .int .i64 k, .int .i64 th, .int .i64 a]

/-- The reference's run, in memory. -/
structure RunAt (w0 w : World) (b ab rb n : Nat) (ps st : Value) (s : St) (acc : List (Int × Int)) (k th a : Int) : Prop where
  main : w.heap[b]? = some (.cells (runC ps ab rb n st s k th a) 126 (0, 0))
  ats : ∃ ty, w.heap[ab]? = some (.cells (atF n s).toArray ty (0, 0))
  regs : w.heap[rb]? = some (.cells (regsF n s).toArray 29 (0, 0))
  row : w.ownsRow (b + 1) 84 2 st acc.length (flatS acc)
  frame : w0.grownBy w none
  ab0 : w0.heap.size ≤ ab
  rb0 : w0.heap.size ≤ rb
  abb : ab < b
  rbb : rb < b
  ne : ab ≠ rb

theorem lt_n4 {n t : Nat} (hn : n ≤ 4) (h : t < n) : (n = 1 ∧ t = 0) ∨ (n = 2 ∧ t = 0) ∨ (n = 2 ∧ t = 1) ∨ (n = 3 ∧ t = 0) ∨ (n = 3 ∧ t = 1) ∨ (n = 3 ∧ t = 2) ∨ (n = 4 ∧ t = 0) ∨ (n = 4 ∧ t = 1) ∨ (n = 4 ∧ t = 2) ∨ (n = 4 ∧ t = 3) := by omega

theorem atF_set (s : St) {n t : Nat} (hn : n ≤ 4) (h : t < n) (v : Int) : (atF n s).toArray.setIfInBounds t (.int .i64 v) = (atF n (s.setNext t v)).toArray := by
  rcases lt_n4 hn h with ⟨rfl, rfl⟩ | ⟨rfl, rfl⟩ | ⟨rfl, rfl⟩ | ⟨rfl, rfl⟩ | ⟨rfl, rfl⟩ | ⟨rfl, rfl⟩ | ⟨rfl, rfl⟩ | ⟨rfl, rfl⟩ | ⟨rfl, rfl⟩ | ⟨rfl, rfl⟩ <;> rfl
theorem regsF_set (s : St) {n t r : Nat} (hn : n ≤ 4) (h : t < n) (hr : r < 4) (v : Int) : (regsF n s).toArray.setIfInBounds (t * 4 + r) (.int .i64 v) = (regsF n (s.setReg t r v)).toArray := by
  rcases lt_n4 hn h with ⟨rfl, rfl⟩ | ⟨rfl, rfl⟩ | ⟨rfl, rfl⟩ | ⟨rfl, rfl⟩ | ⟨rfl, rfl⟩ | ⟨rfl, rfl⟩ | ⟨rfl, rfl⟩ | ⟨rfl, rfl⟩ | ⟨rfl, rfl⟩ | ⟨rfl, rfl⟩ <;> rcases lt4 hr with rfl | rfl | rfl | rfl <;> rfl

theorem RunAt.cell {w0 w : World} {b ab rb n : Nat} {ps st : Value} {s : St} {acc : List (Int × Int)} {k th a : Int} (h : RunAt w0 w b ab rb n ps st s acc k th a) (j : Nat) :
    w.cell? ⟨b, j, none⟩ = (runC ps ab rb n st s k th a)[j]? ∧ w.frozen? ⟨b, j, none⟩ = false := by
  simp [World.cell?, World.frozen?, h.main]
theorem RunAt.at_ {w0 w : World} {b ab rb n : Nat} {ps st : Value} {s : St} {acc : List (Int × Int)} {k th a : Int} (h : RunAt w0 w b ab rb n ps st s acc k th a) {t : Nat} (ht : t < n) :
    w.cell? ⟨ab, t, none⟩ = some (.int .i64 (s.next t)) ∧ w.frozen? ⟨ab, t, none⟩ = false := by
  obtain ⟨ty, h⟩ := h.ats
  constructor
  · simp [World.cell?, h, atF, ht]
  · simp [World.frozen?, h]
theorem RunAt.reg {w0 w : World} {b ab rb n : Nat} {ps st : Value} {s : St} {acc : List (Int × Int)} {k th a : Int} (h : RunAt w0 w b ab rb n ps st s acc k th a) (hn : n ≤ 4) {t r : Nat} (ht : t < n) (hr : r < 4) :
    w.cell? ⟨rb, t * 4 + r, none⟩ = some (.int .i64 (s.regs t r)) ∧ w.frozen? ⟨rb, t * 4 + r, none⟩ = false := by
  have h := h.regs
  constructor
  · simp only [World.cell?, h]
    rcases lt_n4 hn ht with ⟨rfl, rfl⟩ | ⟨rfl, rfl⟩ | ⟨rfl, rfl⟩ | ⟨rfl, rfl⟩ | ⟨rfl, rfl⟩ | ⟨rfl, rfl⟩ | ⟨rfl, rfl⟩ | ⟨rfl, rfl⟩ | ⟨rfl, rfl⟩ | ⟨rfl, rfl⟩ <;> rcases lt4 hr with rfl | rfl | rfl | rfl <;> rfl
  · simp [World.frozen?, h]

/-- Growth that leaves the run's blocks. -/
theorem RunAt.grown {w0 w w' : World} {b ab rb n : Nat} {ps st : Value} {s : St} {acc : List (Int × Int)} {k th a : Int} (h : RunAt w0 w b ab rb n ps st s acc k th a) (hg : w.grownBy w' none) : RunAt w0 w' b ab rb n ps st s acc k th a := by
  obtain ⟨t1, h1⟩ := h.ats
  have h2 := h.regs
  have B : ∀ i o, w.heap[i]? = some o → w'.heap[i]? = some o := fun i o e => by rw [hg.block i (Array.getElem?_eq_some_iff.1 e).1 (by simp)]; exact e
  exact ⟨B _ _ h.main, ⟨t1, B _ _ h1⟩, B _ _ h2, owns_grown h.row hg (fun _ e => by cases e), grown_trans h.frame hg, h.ab0, h.rb0, h.abb, h.rbb, h.ne⟩

theorem RunAt.setNext {w0 w : World} {b ab rb n : Nat} {ps st : Value} {s : St} {acc : List (Int × Int)} {k th a : Int} (h : RunAt w0 w b ab rb n ps st s acc k th a) (hn : n ≤ 4) {t : Nat} (ht : t < n) (v : Int) :
    RunAt w0 (w.setCell ⟨ab, t, none⟩ (.int .i64 v)) b ab rb n ps st (s.setNext t v) acc k th a := by
  obtain ⟨t1, h1⟩ := h.ats
  have h2 := h.regs
  have := h.abb
  refine ⟨?_, ⟨t1, ?_⟩, ?_, ownsRow_setCell_below h.row (by simp; omega) _, grown_setNew h.frame h.ab0, h.ab0, h.rb0, h.abb, h.rbb, h.ne⟩
  · rw [Below.heap_setCell w _ _ b (by simp; omega)]; exact h.main
  · rw [heap_setCell_same w ab t _ _ _ h1, atF_set s hn ht]
  · rw [Below.heap_setCell w _ _ rb (by simp; exact fun e => h.ne e.symm)]; exact h2

theorem RunAt.setReg {w0 w : World} {b ab rb n : Nat} {ps st : Value} {s : St} {acc : List (Int × Int)} {k th a : Int} (h : RunAt w0 w b ab rb n ps st s acc k th a) (hn : n ≤ 4) {t r : Nat} (ht : t < n) (hr : r < 4) (v : Int) :
    RunAt w0 (w.setCell ⟨rb, t * 4 + r, none⟩ (.int .i64 v)) b ab rb n ps st (s.setReg t r v) acc k th a := by
  obtain ⟨t1, h1⟩ := h.ats
  have h2 := h.regs
  have := h.rbb
  refine ⟨?_, ⟨t1, ?_⟩, ?_, ownsRow_setCell_below h.row (by simp; omega) _, grown_setNew h.frame h.rb0, h.ab0, h.rb0, h.abb, h.rbb, h.ne⟩
  · rw [Below.heap_setCell w _ _ b (by simp; omega)]; exact h.main
  · rw [Below.heap_setCell w _ _ ab (by simp; exact h.ne)]; exact h1
  · rw [heap_setCell_same w rb _ _ _ _ h2, regsF_set s hn ht hr]

/-- A cell of the run's own block is set. -/
theorem RunAt.setMain {w0 w : World} {b ab rb n : Nat} {ps st st' : Value} {s s' : St} {acc acc' : List (Int × Int)} {k th a k' th' a' : Int} (h : RunAt w0 w b ab rb n ps st s acc k th a) {j : Nat} {v : Value}
    (e : (runC ps ab rb n st s k th a).setIfInBounds j v = runC ps ab rb n st' s' k' th' a') (e1 : s'.next = s.next) (e2 : s'.regs = s.regs) (hr : w.ownsRow (b + 1) 84 2 st' acc'.length (flatS acc')) :
    RunAt w0 (w.setCell ⟨b, j, none⟩ v) b ab rb n ps st' s' acc' k' th' a' := by
  obtain ⟨t1, h1⟩ := h.ats
  have h2 := h.regs
  have := h.abb
  have := h.rbb
  refine ⟨?_, ⟨t1, ?_⟩, ?_, ownsRow_setCell_below hr (by simp) _, grown_setNew h.frame (by have := h.ab0; omega), h.ab0, h.rb0, h.abb, h.rbb, h.ne⟩
  · rw [heap_setCell_same w b j _ _ _ h.main, e]
  · rw [Below.heap_setCell w _ _ ab (by simp; omega), h1]; simp [atF, e1]
  · rw [Below.heap_setCell w _ _ rb (by simp; omega), h2]; simp [regsF, e2]

theorem RunAt.setVar {w0 w : World} {b ab rb n : Nat} {ps st : Value} {s : St} {acc : List (Int × Int)} {k th a : Int} (h : RunAt w0 w b ab rb n ps st s acc k th a) {x : Nat} (hx : x < 4) (v : Int) :
    RunAt w0 (w.setCell ⟨b, 3 + x, none⟩ (.int .i64 v)) b ab rb n ps st (s.setVar x v) acc k th a := by
  refine h.setMain ?_ rfl rfl h.row
  rcases lt4 hx with rfl | rfl | rfl | rfl <;> rfl
theorem RunAt.setLock {w0 w : World} {b ab rb n : Nat} {ps st : Value} {s : St} {acc : List (Int × Int)} {k th a : Int} (h : RunAt w0 w b ab rb n ps st s acc k th a) {l : Nat} (hl : l < 3) (hd : Bool) (o : Int) :
    RunAt w0 (w.setCell ⟨b, 7 + l, none⟩ (.int .i64 (if hd = true then o else -1))) b ab rb n ps st (s.setLock l hd o) acc k th a := by
  refine h.setMain ?_ rfl rfl h.row
  rcases lt3 hl with rfl | rfl | rfl <;> rfl

theorem RunAt.like {w0 w w' : World} {b ab rb n : Nat} {ps st : Value} {s : St} {acc : List (Int × Int)} {k th a : Int} (h : RunAt w0 w b ab rb n ps st s acc k th a) (hl : Like w' w) : RunAt w0 w' b ab rb n ps st s acc k th a := h.grown (grown_like (grown_refl _ _) hl)
theorem RunAt.own {w0 w : World} {b ab rb n : Nat} {ps st : Value} {s : St} {acc : List (Int × Int)} {k th a : Int} (h : RunAt w0 w b ab rb n ps st s acc k th a) {l : Nat} (hl : l < 3) : w.cell? ⟨b, 7 + l, none⟩ = some (.int .i64 (ownR s l)) := by
  rw [(h.cell _).1]; rcases lt3 hl with rfl | rfl | rfl <;> rfl
theorem RunAt.var {w0 w : World} {b ab rb n : Nat} {ps st : Value} {s : St} {acc : List (Int × Int)} {k th a : Int} (h : RunAt w0 w b ab rb n ps st s acc k th a) {l : Nat} (hl : l < 4) : w.cell? ⟨b, 3 + l, none⟩ = some (.int .i64 (s.vars l)) := by
  rw [(h.cell _).1]; rcases lt4 hl with rfl | rfl | rfl | rfl <;> rfl
theorem setReg_self (s : St) (t r : Nat) : s.setReg t r (s.regs t r) = s := by
  obtain ⟨a, b, c, d, e⟩ := s
  simp only [St.setReg, St.mk.injEq, true_and, and_true]
  funext t' r'
  by_cases h : t' = t ∧ r' = r
  · simp [h.1, h.2]
  · simp [h]

theorem owns_lt_size {w : World} {base : Nat} {e : TypeId} {size : Nat} {v : Value} {n : Nat} {xs : List Value} (h : w.ownsRow base e size v n xs) : v.ownBlock ≠ some w.heap.size := by
  rcases h.2 with ⟨e1, _⟩ | ⟨g', cap', cur, hv, hb, hh, _⟩
  · rw [e1]; simp [Value.ownBlock]
  · rw [hv]
    have := (Array.getElem?_eq_some_iff.1 hh).1
    simp [Value.ownBlock]
    omega

theorem RunAt.push {w0 w w5 : World} {b ab rb n : Nat} {ps st nst : Value} {s : St} {acc : List (Int × Int)} {k th a : Int} {x : Int × Int} (h : RunAt w0 w b ab rb n ps st s acc k th a)
    (hg : w.grownBy w5 st.ownBlock) (hown : w5.ownsRow (b + 1) 84 2 nst (acc.length + 1) (flatS acc ++ [.int .i64 x.1, .int .i64 x.2])) :
    RunAt w0 (w5.setCell ⟨b, 10, none⟩ nst) b ab rb n ps nst s (acc ++ [x]) k th a := by
  obtain ⟨t1, h1⟩ := h.ats
  have h2 := h.regs
  have e1 := h.abb
  have e2 := h.rbb
  have e3 := h.ab0
  have hob := owns_block h.row
  have B : ∀ i o, i ≤ b → w.heap[i]? = some o → w5.heap[i]? = some o := fun i o hi e => by
    rw [hg.block i (Array.getElem?_eq_some_iff.1 e).1 (fun e => by have := hob _ e.symm; omega)]; exact e
  refine ⟨?_, ⟨t1, ?_⟩, ?_, ownsRow_setCell_below ?_ (by simp) _, grown_setNew (grown_row h.frame hg (fun q e => by have := hob q e; omega)) (by omega), h.ab0, h.rb0, h.abb, h.rbb, h.ne⟩
  · rw [heap_setCell_same w5 b 10 _ _ _ (B _ _ (Nat.le_refl _) h.main)]; rfl
  · rw [Below.heap_setCell w5 _ _ ab (by simp; omega)]; exact B _ _ (by omega) h1
  · rw [Below.heap_setCell w5 _ _ rb (by simp; omega)]; exact B _ _ (by omega) h2
  · rw [flatS_snoc, List.length_append]; exact hown

set_option maxHeartbeats 4000000 in
set_option maxRecDepth 100000 in
theorem rstep_m (w0 w : World) (b ab rb n cap g o t len c h ho kk : Nat) (st : Value) (s : St) (acc : List (Int × Int)) (k th a : Int) (i : Ins) (hn : n ≤ 4) (ht : t < n) (hlen : len ≤ 16) (hk : kk < len) (hacc : acc.length < 500)
    (hR : RunAt w0 w b ab rb n (.slice (some ⟨g, o, none⟩) n cap) st s acc k th a) (hnx : s.next t = kk)
    (hr : w.cell? ⟨g, o + t, none⟩ = some (.slice (some ⟨h, ho, none⟩) len c))
    (y1 : w.cell? ⟨h, ho + kk * 4, none⟩ = some (.int .i64 i.op)) (y2 : w.cell? ⟨h, ho + kk * 4 + 1, none⟩ = some (.int .i64 i.a))
    (y3 : w.cell? ⟨h, ho + kk * 4 + 2, none⟩ = some (.int .i64 i.b)) (y4 : w.cell? ⟨h, ho + kk * 4 + 3, none⟩ = some (.int .i64 i.n)) (hv : vIns i len = true) (s' : St) (hs' : s' = s.setNext t (kk + 1)) (acc' : List (Int × Int)) (ha' : acc' = acc ++ [((t : Int), (kk : Int))]) :
    Calls Tryz.prog 81 #[.pointer (some ⟨b, 0, none⟩), .int .i64 t] w fun e w' => ∃ st', e = .returned (.bool (act t i s').1) ∧
      RunAt w0 w' b ab rb n (.slice (some ⟨g, o, none⟩) n cap) st' (act t i s').2 acc' k th a := by
  have HS := hide hs'
  have HAC := hide ha'
  clear hs' ha'
  obtain ⟨i0, hi0, hz0, hz1, hz2⟩ := info_parts info_step
  have HV := hide (vIns_say hv)
  clear hv
  obtain ⟨op, ia, ib, im⟩ := i
  simp only at *
  have h1 : (0 : Int) ≤ (t : Int) := by omega
  have h3 : (t : Int) < n := by omega
  have h4 : (0 : Int) ≤ (kk : Int) := by omega
  have h5 : (kk : Int) < len := by omega
  have p0 : w.cell? ⟨b, 0, none⟩ = some (.slice (some ⟨g, o, none⟩) n cap) := (hR.cell 0).1
  have p1 : w.cell? ⟨b, 1, none⟩ = some (.slice (some ⟨ab, 0, none⟩) n n) := (hR.cell 1).1
  have a1 : w.cell? ⟨ab, t, none⟩ = some (.int .i64 kk) := by rw [(hR.at_ ht).1, hnx]
  have HR := hide hR
  have HNX := hide hnx
  clear hR hnx
  have n1 := World.new_ne w _ p0
  have n2 := World.new_ne w _ hr
  have n3 := World.new_ne w _ a1
  have n4 := World.new_ne w _ y1
  simp only at n1 n2 n3 n4
  have m1 := Ne.symm n1
  have m2 := Ne.symm n2
  have m3 := Ne.symm n3
  have m4 := Ne.symm n4
  go_enter Tryz.func81, Tryz.ntmps81
  go_wp2
  go_region
  go_upto_region 2 with fail
  have hgI : w.grownBy (w.alloc (.cells #[.int .i64 op, .int .i64 ia, .int .i64 ib, .int .i64 im] 74)).drew none := grown_drew (grown_alloc (grown_refl _ _))
  have hbI : (w.alloc (.cells #[.int .i64 op, .int .i64 ia, .int .i64 ib, .int .i64 im] 74)).drew.heap[w.heap.size]? = some (.cells #[.int .i64 op, .int .i64 ia, .int .i64 ib, .int .i64 im] 74 (0, 0)) := heap_alloc_new w _
  generalize (w.alloc (.cells #[.int .i64 op, .int .i64 ia, .int .i64 ib, .int .i64 im] 74)).drew = w2 at hgI hbI ⊢
  have HR2 := hide (HR.out.grown hgI)
  have hbw : b < w.heap.size := (Array.getElem?_eq_some_iff.1 HR.out.main).1
  have hw2 : w.heap.size < w2.heap.size := (Array.getElem?_eq_some_iff.1 hbI).1
  have HBI := hide hbI
  have HNB : Hid (st.ownBlock ≠ some w.heap.size) := owns_lt_size HR.out.row
  clear hgI hbI p0 p1 a1 hr y1 y2 y3 y4 n1 n2 n3 n4 m1 m2 m3 m4 HR
  obtain ⟨s1, s2, s3, rfl⟩ := owns_form HR2.out.row
  have q1 : w2.cell? ⟨b, 10, none⟩ = some (.slice s1 s2 s3) := (HR2.out.cell 10).1
  have q2 : w2.cell? ⟨b, 1, none⟩ = some (.slice (some ⟨ab, 0, none⟩) n n) := (HR2.out.cell 1).1
  have q3 : w2.cell? ⟨ab, t, none⟩ = some (.int .i64 kk) := by rw [(HR2.out.at_ ht).1, HNX.out]
  refine wp_region_head (fun u => u.cell? ⟨b, 10, none⟩ = some (.slice s1 s2 s3) ∧ u.cell? ⟨b, 1, none⟩ = some (.slice (some ⟨ab, 0, none⟩) n n) ∧ u.cell? ⟨ab, t, none⟩ = some (.int .i64 kk)) 18 (by kernel_rfl) (by kernel_rfl) ?_ ?_
  · exact ⟨q1, q2, q3⟩
  intro hHeld
  refine wpHead_take (i := 0) (v := ?vv0) rfl (by kernel_rfl) (fun _ _ _ h => h) (Or.inl ⟨by rfl, ?hy0⟩) (by assumption) ?rest0
  case hy0 => (intro u hu; obtain ⟨g1, g2, g3⟩ := hu; go_simp; try with_reducible rfl)
  simp only [Act.put, List.setIfInBounds_toArray]
  refine wpHead_take (i := 1) (v := ?vv1) rfl (by kernel_rfl) (fun _ _ _ h => h) (Or.inl ⟨by rfl, ?hy1⟩) (by assumption) ?rest1
  case hy1 => (intro u hu; obtain ⟨g1, g2, g3⟩ := hu; go_simp; try with_reducible rfl)
  simp only [Act.put]
  refine wpHead_take (i := 2) (v := ?vv2) rfl (by kernel_rfl) (fun _ _ _ h => h) (Or.inl ⟨by rfl, ?hy2⟩) (by assumption) ?rest2
  case hy2 => (intro u hu; obtain ⟨g1, g2, g3⟩ := hu; go_simp; try with_reducible rfl)
  simp only [Act.put]
  refine wpHead_take (i := 3) (v := ?vv3) rfl (by kernel_rfl) (fun _ _ _ h => h) (Or.inl ⟨by rfl, ?hy3⟩) (by assumption) ?rest3
  case hy3 => (intro u hu; obtain ⟨g1, g2, g3⟩ := hu; go_simp; try with_reducible rfl)
  simp only [Act.put]
  refine wpHead_take (i := 4) (v := ?vv4) rfl (by kernel_rfl) (fun _ _ _ h => h) (Or.inl ⟨by rfl, ?hy4⟩) (by assumption) ?rest4
  case hy4 => (intro u hu; obtain ⟨g1, g2, g3⟩ := hu; go_simp; try with_reducible rfl)
  simp only [Act.put]
  refine wpHead_take (i := 5) (v := ?vv5) rfl (by kernel_rfl) (fun _ _ _ h => h) (Or.inl ⟨by rfl, ?hy5⟩) (by assumption) ?rest5
  case hy5 => (intro u hu; obtain ⟨g1, g2, g3⟩ := hu; go_simp; try with_reducible rfl)
  simp only [Act.put]
  refine wpHead_take (i := 6) (v := ?vv6) rfl (by kernel_rfl) (fun _ _ _ h => h) (Or.inl ⟨by rfl, ?hy6⟩) (by assumption) ?rest6
  case hy6 => (intro u hu; obtain ⟨g1, g2, g3⟩ := hu; go_simp; try with_reducible rfl)
  simp only [Act.put]
  refine wpHead_take (i := 7) (v := ?vv7) rfl (by kernel_rfl) (fun _ _ _ h => h) (Or.inl ⟨by rfl, ?hy7⟩) (by assumption) ?rest7
  case hy7 => (intro u hu; obtain ⟨g1, g2, g3⟩ := hu; go_simp; try with_reducible rfl)
  simp only [Act.put]
  refine wpHead_take (i := 8) (v := ?vv8) rfl (by kernel_rfl) (fun _ _ _ h => h) (Or.inl ⟨by rfl, ?hy8⟩) (by assumption) ?rest8
  case hy8 => (intro u hu; obtain ⟨g1, g2, g3⟩ := hu; go_simp; try with_reducible rfl)
  simp only [Act.put]
  refine wpHead_take (i := 9) (v := ?vv9) rfl (by kernel_rfl) (fun _ _ _ h => h) (Or.inl ⟨by rfl, ?hy9⟩) (by assumption) ?rest9
  case hy9 => (intro u hu; obtain ⟨g1, g2, g3⟩ := hu; go_simp; try with_reducible rfl)
  simp only [Act.put]
  refine wpHead_take (i := 10) (v := ?vv10) rfl (by kernel_rfl) (fun _ _ _ h => h) (Or.inl ⟨by rfl, ?hy10⟩) (by assumption) ?rest10
  case hy10 => (intro u hu; obtain ⟨g1, g2, g3⟩ := hu; go_simp; try with_reducible rfl)
  simp only [Act.put]
  refine wpHead_take (i := 11) (v := ?vv11) rfl (by kernel_rfl) (fun _ _ _ h => h) (Or.inl ⟨by rfl, ?hy11⟩) (by assumption) ?rest11
  case hy11 => (intro u hu; obtain ⟨g1, g2, g3⟩ := hu; go_simp; try with_reducible rfl)
  simp only [Act.put]
  refine wpHead_take (i := 12) (v := ?vv12) rfl (by kernel_rfl) (fun _ _ _ h => h) (Or.inl ⟨by rfl, ?hy12⟩) (by assumption) ?rest12
  case hy12 => (intro u hu; obtain ⟨g1, g2, g3⟩ := hu; go_simp; try with_reducible rfl)
  simp only [Act.put]
  refine wpHead_take (i := 13) (v := ?vv13) rfl (by kernel_rfl) (fun _ _ _ h => h) (Or.inl ⟨by rfl, ?hy13⟩) (by assumption) ?rest13
  case hy13 => (intro u hu; obtain ⟨g1, g2, g3⟩ := hu; go_simp; try with_reducible rfl)
  simp only [Act.put]
  refine wpHead_alone (i := 14) rfl (by kernel_rfl) (by kernel_rfl) (by rfl) ?_
  intro K15 hK15
  have HK15 := hide hK15
  clear hK15
  go_simp
  have hgA : w2.grownBy ((w2.alloc (.cells #[.int .i64 t, .int .i64 kk] 84)).drew) none := grown_drew (grown_alloc (grown_refl _ _))
  have hS5 : (w2.alloc (.cells #[.int .i64 t, .int .i64 kk] 84)).drew.cell? ⟨b, 10, none⟩ = some (.slice s1 s2 s3) ∧ (w2.alloc (.cells #[.int .i64 t, .int .i64 kk] 84)).drew.cell? ⟨b, 1, none⟩ = some (.slice (some ⟨ab, 0, none⟩) n n) ∧ (w2.alloc (.cells #[.int .i64 t, .int .i64 kk] 84)).drew.cell? ⟨ab, t, none⟩ = some (.int .i64 kk) :=
    ⟨pres_grown hgA _ _ q1, pres_grown hgA _ _ q2, pres_grown hgA _ _ q3⟩
  refine HK15.out _ _ hS5 ?_
  clear HK15
  have HGA := hide hgA
  clear hgA
  have h63 : acc.length + 1 ≤ maxLen := by unfold maxLen; omega
  have hby : (acc.length + 1) * 16 ≤ 140737488355328 := by omega
  refine wpHead_alone (i := 15) rfl (by kernel_rfl) (by kernel_rfl) (by rfl) ?_
  intro K16 hK16
  have HK16 := hide hK16
  clear hK16
  refine wp_append_lies _ (.tmp 30) (.tmp 40) 28 (by rfl) (b + 1) 84 i0 _ 2 16 Tryz.underlying28 hi0 hz0 hz1 hz2 rfl (by omega) (.slice s1 s2 s3) acc.length (flatS acc) (by rfl) (owns_grown HR2.out.row HGA.out (fun _ e => by cases e)) ⟨w2.heap.size, 0, none⟩ 1 1 [.int .i64 t, .int .i64 kk] (by rfl) (by rfl) (World.news_of_block (cs := #[.int .i64 t, .int .i64 kk]) (t := 84) (fr := (0, 0)) (heap_alloc_new w2 _)) (by simp [Value.oneCell']) (by omega) h63 hby (by simp; omega) (w2.heap.size + 1) (by simp) ?_
  intro g2 cap2 w5 hown5 hgrow hat hlt5
  have hob : ∀ q, (Value.slice s1 s2 s3).ownBlock = some q → b + 1 ≤ q := fun q e => owns_block HR2.out.row q e
  have hS6 : w5.cell? ⟨b, 10, none⟩ = some (.slice s1 s2 s3) ∧ w5.cell? ⟨b, 1, none⟩ = some (.slice (some ⟨ab, 0, none⟩) n n) ∧ w5.cell? ⟨ab, t, none⟩ = some (.int .i64 kk) := by
    obtain ⟨z1, z2, z3⟩ := hS5
    have := HR2.out.abb
    refine ⟨?_, ?_, ?_⟩
    · rw [hgrow.cell_far _ (World.block_lt_of_cell? _ _ z1) (fun e => by have := hob _ e.symm; simp only at this; omega)]; exact z1
    · rw [hgrow.cell_far _ (World.block_lt_of_cell? _ _ z2) (fun e => by have := hob _ e.symm; simp only at this; omega)]; exact z2
    · rw [hgrow.cell_far _ (World.block_lt_of_cell? _ _ z3) (fun e => by have := hob _ e.symm; simp only at this; omega)]; exact z3
  have HR6 : Hid (RunAt w0 (w5.setCell ⟨b, 10, none⟩ (.slice (some ⟨g2, 0, none⟩) (acc.length + 1) cap2)) b ab rb n (.slice (some ⟨g, o, none⟩) n cap) (.slice (some ⟨g2, 0, none⟩) (acc.length + 1) cap2) s (acc ++ [((t : Int), (kk : Int))]) k th a) :=
    RunAt.push HR2.out (grown_trans (grown_none HGA.out) hgrow) hown5
  have HBI6 : Hid ((w5.setCell ⟨b, 10, none⟩ (.slice (some ⟨g2, 0, none⟩) (acc.length + 1) cap2)).heap[w.heap.size]? = some (.cells #[.int .i64 op, .int .i64 ia, .int .i64 ib, .int .i64 im] 74 (0, 0))) := by
    unfold Hid
    have hnb : (Value.slice s1 s2 s3).ownBlock ≠ some w.heap.size := HNB.out
    rw [Below.heap_setCell _ _ _ _ (by simp; omega), hgrow.block _ (by have := HGA.out.size; omega) (fun e => hnb e.symm), HGA.out.block _ (by omega) (by simp)]
    exact HBI.out
  have f10 : w5.frozen? ⟨b, 10, none⟩ = false := by
    have := HR2.out.main
    have := hgrow.block b (by have := HGA.out.size; omega) (fun e => by have := hob _ e.symm; omega)
    simp [World.frozen?, this, HGA.out.block b (by omega) (by simp), HR2.out.main]
  clear hown5 hgrow hat
  refine HK16.out _ _ hS6 ?_
  clear HK16
  simp only [Act.put, List.setIfInBounds_toArray]
  refine wpHead_take (i := 16) (v := ?vv16) rfl (by kernel_rfl) (fun _ _ _ h => h) (Or.inl ⟨by rfl, ?hy16⟩) (by assumption) ?rest16
  case hy16 => (intro u hu; obtain ⟨g1, g2, g3⟩ := hu; go_simp; try with_reducible rfl)
  simp only [Act.put]
  refine wpHead_take (i := 17) (v := ?vv17) rfl (by kernel_rfl) (fun _ _ _ h => h) (Or.inl ⟨by rfl, ?hy17⟩) (by assumption) ?rest17
  case hy17 => (intro u hu; obtain ⟨g1, g2, g3⟩ := hu; go_simp; try with_reducible rfl)
  simp only [Act.put]
  refine wpHead_last rfl (by kernel_rfl) (by kernel_rfl) (by rfl) ?_
  obtain ⟨z1, z2, z3⟩ := hS6
  clear hHeld hS5 q1 q2 q3 HR2 HBI HGA hob
  go_simp
  clear z1 z2 z3 f10
  generalize w5.setCell ⟨b, 10, none⟩ (.slice (some ⟨g2, 0, none⟩) (acc.length + 1) cap2) = w6 at HR6 HBI6 ⊢
  have b1 : w6.cell? ⟨b, 1, none⟩ = some (.slice (some ⟨ab, 0, none⟩) n n) := (HR6.out.cell 1).1
  have b2 : w6.cell? ⟨b, 2, none⟩ = some (.slice (some ⟨rb, 0, none⟩) n n) := (HR6.out.cell 2).1
  have a6 : w6.cell? ⟨ab, t, none⟩ = some (.int .i64 kk) := by rw [(HR6.out.at_ ht).1, HNX.out]
  have a6f := (HR6.out.at_ ht).2
  have e1 : ab ≠ b := by have := HR6.out.abb; omega
  have e2 : b ≠ ab := Ne.symm e1
  have k16 : (kk : Int) < 16 := by omega
  go_upto_region 5 with fail
  have hR7 := HR6.out.setNext hn ht ((kk : Int) + 1)
  rw [← HS.out, ← HAC.out] at hR7
  have HR7 := hide hR7
  clear hR7
  have hnb : w.heap.size ≠ ab := by have := HR6.out.abb; omega
  have HB7 : Hid ((w6.setCell ⟨ab, t, none⟩ (.int .i64 ((kk : Int) + 1))).heap[w.heap.size]? = some (.cells #[.int .i64 op, .int .i64 ia, .int .i64 ib, .int .i64 im] 74 (0, 0))) := by
    unfold Hid
    rw [Below.heap_setCell _ _ _ _ (by simp; exact hnb)]; exact HBI6.out
  generalize w6.setCell ⟨ab, t, none⟩ (.int .i64 ((kk : Int) + 1)) = w7 at HR7 HB7 ⊢
  generalize Value.slice (some ⟨g2, 0, none⟩) (acc.length + 1) cap2 = st7 at *
  clear HS HAC HR6 HBI6 b1 b2 a6 a6f h4 h5 k16 HNX HNB h63 hby
  have x0 : w7.cell? ⟨w.heap.size, 0, none⟩ = some (.int .i64 op) := by have := HB7.out; simp [World.cell?, this]
  have x1 : w7.cell? ⟨w.heap.size, 1, none⟩ = some (.int .i64 ia) := by have := HB7.out; simp [World.cell?, this]
  have x2 : w7.cell? ⟨w.heap.size, 2, none⟩ = some (.int .i64 ib) := by have := HB7.out; simp [World.cell?, this]
  have x3 : w7.cell? ⟨w.heap.size, 3, none⟩ = some (.int .i64 im) := by have := HB7.out; simp [World.cell?, this]
  have HVo := HV.out
  clear HV
  rcases HVo with H | H | H | H | H | H | H | H | H | H | H
  · obtain ⟨rfl, e3, e4⟩ := H
    obtain ⟨r, rfl⟩ : ∃ r : Nat, ia = r := ⟨ia.toNat, by omega⟩
    have hr4 : r < 4 := by omega
    obtain ⟨c1, c2⟩ := HR7.out.reg hn ht hr4
    have HA : Hid (act t ⟨1, r, ib, im⟩ s' = (true, s'.setReg t r im)) := by simp [Hid, act]
    go_wp2
    go_region
    go_wp2
    go_ret
    exact ⟨st7, by rw [HA.out]; rfl, by rw [HA.out]; exact (HR7.out.setReg hn ht hr4 im).like ⟨rfl, rfl, rfl, rfl⟩⟩
  · obtain ⟨rfl, e3, e4, e5, e6⟩ := H
    obtain ⟨r, rfl⟩ : ∃ r : Nat, ia = r := ⟨ia.toNat, by omega⟩
    obtain ⟨v, rfl⟩ : ∃ v : Nat, ib = v := ⟨ib.toNat, by omega⟩
    have hr4 : r < 4 := by omega
    have hv4 : v < 4 := by omega
    obtain ⟨c1, c2⟩ := HR7.out.reg hn ht hr4
    have c3 := HR7.out.var hv4
    have HA : Hid (act t ⟨2, r, v, im⟩ s' = (true, s'.setReg t r (s'.vars v))) := by simp [Hid, act]
    go_wp2
    go_region
    go_wp2
    go_ret
    exact ⟨st7, by rw [HA.out]; rfl, by rw [HA.out]; exact (HR7.out.setReg hn ht hr4 _).like ⟨rfl, rfl, rfl, rfl⟩⟩
  · obtain ⟨rfl, e3, e4, e5, e6⟩ := H
    obtain ⟨r, rfl⟩ : ∃ r : Nat, ia = r := ⟨ia.toNat, by omega⟩
    obtain ⟨v, rfl⟩ : ∃ v : Nat, ib = v := ⟨ib.toNat, by omega⟩
    have hr4 : r < 4 := by omega
    have hv4 : v < 4 := by omega
    obtain ⟨c1, c2⟩ := HR7.out.reg hn ht hv4
    have c3 := HR7.out.var hr4
    have c4 := (HR7.out.cell (3 + r)).2
    have HA : Hid (act t ⟨3, r, v, im⟩ s' = (true, s'.setVar r (s'.regs t v))) := by simp [Hid, act]
    go_wp2
    go_region
    go_wp2
    go_ret
    exact ⟨st7, by rw [HA.out]; rfl, by rw [HA.out]; exact (HR7.out.setVar hr4 _).like ⟨rfl, rfl, rfl, rfl⟩⟩
  · obtain ⟨rfl, e3, e4, e5, e6⟩ := H
    obtain ⟨r, rfl⟩ : ∃ r : Nat, ia = r := ⟨ia.toNat, by omega⟩
    obtain ⟨v, rfl⟩ : ∃ v : Nat, ib = v := ⟨ib.toNat, by omega⟩
    have hr4 : r < 4 := by omega
    have hv4 : v < 4 := by omega
    obtain ⟨c1, c2⟩ := HR7.out.reg hn ht hr4
    obtain ⟨c3, c4⟩ := HR7.out.reg hn ht hv4
    have HA : Hid (act t ⟨4, r, v, im⟩ s' = ((reckonR 4 (s'.regs t r) (s'.regs t v)).2, s'.setReg t r (reckonR 4 (s'.regs t r) (s'.regs t v)).1)) := by
      simp [Hid, act, reckonR]
    have HCK : Hid (∀ u, Calls Tryz.prog 114 #[.int .i64 4, .int .i64 (s'.regs t r), .int .i64 (s'.regs t v)] u fun e w' => e = .returned (.tuple #[.int .i64 (reckonR 4 (s'.regs t r) (s'.regs t v)).1, .bool (reckonR 4 (s'.regs t r) (s'.regs t v)).2]) ∧ w' = u) := fun u => reckon_m 4 _ _ u (by omega)
    generalize reckonR 4 (s'.regs t r) (s'.regs t v) = rk at *
    obtain ⟨rk1, rk2⟩ := rk
    simp only at HA HCK
    go_wp2_with fail
    go_quiet ((go_at_call 114; exact Calls.quiet_of_same (HCK.out _)))
    go_wp2
    go_region
    go_wp2
    go_ret
    exact ⟨st7, by rw [HA.out]; rfl, by rw [HA.out]; exact (HR7.out.setReg hn ht hr4 _).like ⟨rfl, rfl, rfl, rfl⟩⟩
  · obtain ⟨rfl, e3, e4, e5, e6⟩ := H
    obtain ⟨r, rfl⟩ : ∃ r : Nat, ia = r := ⟨ia.toNat, by omega⟩
    obtain ⟨v, rfl⟩ : ∃ v : Nat, ib = v := ⟨ib.toNat, by omega⟩
    have hr4 : r < 4 := by omega
    have hv4 : v < 4 := by omega
    obtain ⟨c1, c2⟩ := HR7.out.reg hn ht hr4
    obtain ⟨c3, c4⟩ := HR7.out.reg hn ht hv4
    have HA : Hid (act t ⟨5, r, v, im⟩ s' = ((reckonR 5 (s'.regs t r) (s'.regs t v)).2, s'.setReg t r (reckonR 5 (s'.regs t r) (s'.regs t v)).1)) := by
      simp [Hid, act, reckonR]
    have HCK : Hid (∀ u, Calls Tryz.prog 114 #[.int .i64 5, .int .i64 (s'.regs t r), .int .i64 (s'.regs t v)] u fun e w' => e = .returned (.tuple #[.int .i64 (reckonR 5 (s'.regs t r) (s'.regs t v)).1, .bool (reckonR 5 (s'.regs t r) (s'.regs t v)).2]) ∧ w' = u) := fun u => reckon_m 5 _ _ u (by omega)
    generalize reckonR 5 (s'.regs t r) (s'.regs t v) = rk at *
    obtain ⟨rk1, rk2⟩ := rk
    simp only at HA HCK
    go_wp2_with fail
    go_quiet ((go_at_call 114; exact Calls.quiet_of_same (HCK.out _)))
    go_wp2
    go_region
    go_wp2
    go_ret
    exact ⟨st7, by rw [HA.out]; rfl, by rw [HA.out]; exact (HR7.out.setReg hn ht hr4 _).like ⟨rfl, rfl, rfl, rfl⟩⟩
  · obtain ⟨rfl, e3, e4, e5, e6⟩ := H
    obtain ⟨r, rfl⟩ : ∃ r : Nat, ia = r := ⟨ia.toNat, by omega⟩
    obtain ⟨v, rfl⟩ : ∃ v : Nat, ib = v := ⟨ib.toNat, by omega⟩
    have hr4 : r < 4 := by omega
    have hv4 : v < 4 := by omega
    obtain ⟨c1, c2⟩ := HR7.out.reg hn ht hr4
    obtain ⟨c3, c4⟩ := HR7.out.reg hn ht hv4
    have HA : Hid (act t ⟨6, r, v, im⟩ s' = ((reckonR 6 (s'.regs t r) (s'.regs t v)).2, s'.setReg t r (reckonR 6 (s'.regs t r) (s'.regs t v)).1)) := by
      simp [Hid, act, reckonR]
    have HCK : Hid (∀ u, Calls Tryz.prog 114 #[.int .i64 6, .int .i64 (s'.regs t r), .int .i64 (s'.regs t v)] u fun e w' => e = .returned (.tuple #[.int .i64 (reckonR 6 (s'.regs t r) (s'.regs t v)).1, .bool (reckonR 6 (s'.regs t r) (s'.regs t v)).2]) ∧ w' = u) := fun u => reckon_m 6 _ _ u (by omega)
    generalize reckonR 6 (s'.regs t r) (s'.regs t v) = rk at *
    obtain ⟨rk1, rk2⟩ := rk
    simp only at HA HCK
    go_wp2_with fail
    go_quiet ((go_at_call 114; exact Calls.quiet_of_same (HCK.out _)))
    go_wp2
    go_region
    go_wp2
    go_ret
    exact ⟨st7, by rw [HA.out]; rfl, by rw [HA.out]; exact (HR7.out.setReg hn ht hr4 _).like ⟨rfl, rfl, rfl, rfl⟩⟩
  · obtain ⟨rfl, e3, e4, e5, e6⟩ := H
    obtain ⟨r, rfl⟩ : ∃ r : Nat, ia = r := ⟨ia.toNat, by omega⟩
    obtain ⟨v, rfl⟩ : ∃ v : Nat, ib = v := ⟨ib.toNat, by omega⟩
    have hr4 : r < 4 := by omega
    have hv4 : v < 4 := by omega
    obtain ⟨c1, c2⟩ := HR7.out.reg hn ht hr4
    obtain ⟨c3, c4⟩ := HR7.out.reg hn ht hv4
    have HA : Hid (act t ⟨7, r, v, im⟩ s' = ((reckonR 7 (s'.regs t r) (s'.regs t v)).2, s'.setReg t r (reckonR 7 (s'.regs t r) (s'.regs t v)).1)) := by
      unfold Hid
      by_cases hz : s'.regs t v = 0
      · simp [act, reckonR, hz, setReg_self]
      · simp [act, reckonR, hz]
    have HCK : Hid (∀ u, Calls Tryz.prog 114 #[.int .i64 7, .int .i64 (s'.regs t r), .int .i64 (s'.regs t v)] u fun e w' => e = .returned (.tuple #[.int .i64 (reckonR 7 (s'.regs t r) (s'.regs t v)).1, .bool (reckonR 7 (s'.regs t r) (s'.regs t v)).2]) ∧ w' = u) := fun u => reckon_m 7 _ _ u (by omega)
    generalize reckonR 7 (s'.regs t r) (s'.regs t v) = rk at *
    obtain ⟨rk1, rk2⟩ := rk
    simp only at HA HCK
    go_wp2_with fail
    go_quiet ((go_at_call 114; exact Calls.quiet_of_same (HCK.out _)))
    go_wp2
    go_region
    go_wp2
    go_ret
    exact ⟨st7, by rw [HA.out]; rfl, by rw [HA.out]; exact (HR7.out.setReg hn ht hr4 _).like ⟨rfl, rfl, rfl, rfl⟩⟩
  · obtain ⟨rfl, e3, e4, e5, e6⟩ := H
    obtain ⟨r, rfl⟩ : ∃ r : Nat, ia = r := ⟨ia.toNat, by omega⟩
    have hr4 : r < 4 := by omega
    obtain ⟨c1, c2⟩ := HR7.out.reg hn ht hr4
    have b1 : w7.cell? ⟨b, 1, none⟩ = some (.slice (some ⟨ab, 0, none⟩) n n) := (HR7.out.cell 1).1
    obtain ⟨c3, c4⟩ := HR7.out.at_ ht
    by_cases hz : s'.regs t r = 0
    · have HA : Hid (act t ⟨8, r, ib, im⟩ s' = (true, s'.setNext t im)) := by simp [Hid, act, hz]
      rw [hz] at c1
      clear hz
      go_wp2
      go_quiet (fail)
      go_wp2
      go_region
      go_wp2
      go_ret
      exact ⟨st7, by rw [HA.out]; rfl, by rw [HA.out]; exact (HR7.out.setNext hn ht _).like ⟨rfl, rfl, rfl, rfl⟩⟩
    · have HA : Hid (act t ⟨8, r, ib, im⟩ s' = (true, s')) := by simp [Hid, act, hz]
      have hz' : (s'.regs t r == 0) = false := by simpa using hz
      go_wp2
      go_quiet (fail)
      go_wp2
      go_ret
      exact ⟨st7, by rw [HA.out]; rfl, by rw [HA.out]; exact HR7.out.like ⟨rfl, rfl, rfl, rfl⟩⟩
  · obtain ⟨rfl, e3, e4⟩ := H
    obtain ⟨r, rfl⟩ : ∃ r : Nat, ia = r := ⟨ia.toNat, by omega⟩
    have hr3 : r < 3 := by omega
    have c1 := HR7.out.own hr3
    have c2 := (HR7.out.cell (7 + r)).2
    have HA : Hid (act t ⟨9, r, ib, im⟩ s' = (true, s'.setLock r true t)) := by simp [Hid, act]
    go_wp2
    go_region
    go_wp2
    go_ret
    exact ⟨st7, by rw [HA.out]; rfl, by rw [HA.out]; exact (HR7.out.setLock hr3 true t).like ⟨rfl, rfl, rfl, rfl⟩⟩
  · obtain ⟨rfl, e3, e4⟩ := H
    obtain ⟨r, rfl⟩ : ∃ r : Nat, ia = r := ⟨ia.toNat, by omega⟩
    have hr3 : r < 3 := by omega
    have c1 := HR7.out.own hr3
    have c2 := (HR7.out.cell (7 + r)).2
    by_cases hz : s'.held r = true ∧ s'.own r = t
    · have HA : Hid (act t ⟨10, r, ib, im⟩ s' = (true, s'.setLock r false 0)) := by simp [Hid, act, hz]
      have hq : ownR s' r = t := by simp [ownR, hz.1, hz.2]
      rw [hq] at c1
      clear hz hq
      go_wp2
      go_quiet (fail)
      go_wp2
      go_region
      go_wp2
      go_ret
      exact ⟨st7, by rw [HA.out]; rfl, by rw [HA.out]; exact (HR7.out.setLock hr3 false 0).like ⟨rfl, rfl, rfl, rfl⟩⟩
    · have HA : Hid (act t ⟨10, r, ib, im⟩ s' = (false, s')) := by
        unfold Hid
        simp only [act]
        simp [hz]
      have hz' : (ownR s' r != (t : Int)) = true := by
        unfold ownR
        by_cases hh : s'.held r = true
        · simp only [hh, if_true]
          have : ¬ s'.own r = t := fun e => hz ⟨hh, e⟩
          simpa using this
        · simp only [hh]
          simp <;> omega
      clear hz
      go_wp2
      go_quiet (fail)
      go_wp2
      go_ret
      exact ⟨st7, by rw [HA.out]; rfl, by rw [HA.out]; exact HR7.out.like ⟨rfl, rfl, rfl, rfl⟩⟩
  · obtain ⟨rfl, e3, e4⟩ := H
    obtain ⟨r, rfl⟩ : ∃ r : Nat, ia = r := ⟨ia.toNat, by omega⟩
    have hr4 : r < 4 := by omega
    obtain ⟨c1, c2⟩ := HR7.out.reg hn ht hr4
    have HA : Hid (act t ⟨11, r, ib, im⟩ s' = (s'.regs t r != 0, s')) := by simp [Hid, act]
    go_wp2
    go_quiet (fail)
    go_wp2
    go_ret
    exact ⟨st7, by rw [HA.out]; rfl, by rw [HA.out]; exact HR7.out.like ⟨rfl, rfl, rfl, rfl⟩⟩

end Go.Proofs.YtklenjmfalljgaaGreatDoor

/- The reference's run against the pure machine: done, ready, step. -/
namespace Go.Proofs.YtklenjmfalljgaaGreatDoor
open Go.RowKit

def LkOk (s : St) : Prop := ∀ l, s.held l = true → 0 ≤ s.own l
theorem LkOk.zero : LkOk St.zero := fun l h => by simp [St.zero] at h
theorem LkOk.setNext {s : St} (h : LkOk s) (t : Nat) (v : Int) : LkOk (s.setNext t v) := h
theorem LkOk.setLock {s : St} (h : LkOk s) (l : Nat) (hd : Bool) (o : Int) (ho : 0 ≤ o) : LkOk (s.setLock l hd o) := fun l' e => by
  simp only [St.setLock] at e ⊢
  by_cases hl : l' = l
  · simp [hl, ho]
  · simp only [hl, if_false] at e ⊢; exact h l' e
theorem LkOk.act {s : St} (h : LkOk s) (t : Nat) (i : Ins) : LkOk (act t i s).2 := by
  by_cases h9 : i.op = 9
  · have e : Go.Proofs.YtklenjmfalljgaaGreatDoor.act t i s = (true, s.setLock i.a.toNat true t) := by simp [Go.Proofs.YtklenjmfalljgaaGreatDoor.act, h9]
    rw [e]; exact h.setLock _ _ _ (by omega)
  · by_cases h10 : i.op = 10
    · by_cases hz : s.held i.a.toNat = true ∧ s.own i.a.toNat = t
      · have e : Go.Proofs.YtklenjmfalljgaaGreatDoor.act t i s = (true, s.setLock i.a.toNat false 0) := by simp [Go.Proofs.YtklenjmfalljgaaGreatDoor.act, h10, hz]
        rw [e]; exact h.setLock _ _ _ (by omega)
      · have e : Go.Proofs.YtklenjmfalljgaaGreatDoor.act t i s = (false, s) := by
          simp only [Go.Proofs.YtklenjmfalljgaaGreatDoor.act, h10]
          simp [hz]
        rw [e]; exact h
    · have e : (Go.Proofs.YtklenjmfalljgaaGreatDoor.act t i s).2.held = s.held ∧ (Go.Proofs.YtklenjmfalljgaaGreatDoor.act t i s).2.own = s.own := by
        unfold Go.Proofs.YtklenjmfalljgaaGreatDoor.act
        rw [if_neg h9, if_neg h10]
        repeat' split
        all_goals exact ⟨rfl, rfl⟩
      intro l hl
      rw [e.1] at hl
      rw [e.2]
      exact h l hl
theorem LkOk.step {s : St} (h : LkOk s) (p : List (List Ins)) (t : Nat) : LkOk (stepS p s t).2 := LkOk.act (h.setNext _ _) _ _
theorem LkOk.own {s : St} (h : LkOk s) (l : Nat) : decide (ownR s l < 0) = !s.held l := by
  unfold ownR
  cases e : s.held l
  · simp
  · have := h l e; simp; omega

theorem rprog {w0 : World} {ao : Option Addr} {cap : Nat} {p : List (List Ins)} (hP : ProgAt w0 (.agg #[.slice ao p.length cap]) p) {t : Nat} (ht : t < p.length) :
    ∃ g o, ao = some ⟨g, o, none⟩ ∧ ∃ rv, w0.cell? ⟨g, o + t, none⟩ = some rv ∧ CodeAt w0 rv (codeOf p t) := by
  obtain ⟨ao', cap', e, h⟩ := hP
  simp only [Value.agg.injEq, Array.mk.injEq, List.cons.injEq, Value.slice.injEq, and_true, true_and] at e
  obtain ⟨rfl, rfl⟩ := e
  obtain ⟨g, o, e1, rv, e2, e3⟩ := h t ht
  exact ⟨g, o, e1, rv, e2, by rw [codeOf_get ht]; exact e3⟩

theorem rdoneS {w0 w : World} {ao : Option Addr} {cap : Nat} {p : List (List Ins)} (hp : vProg p = true) (hP : ProgAt w0 (.agg #[.slice ao p.length cap]) p) {b ab rb : Nat} {st : Value} {s : St} {acc : List (Int × Int)} {k th a : Int}
    (hR : RunAt w0 w b ab rb p.length (.slice ao p.length cap) st s acc k th a) (hI : Inv p s) {t : Nat} (ht : t < p.length) :
    Calls Tryz.prog 82 #[.pointer (some ⟨b, 0, none⟩), .int .i64 t] w fun e w' => e = .returned (.bool (doneB p s t)) ∧ w.grownBy w' none := by
  have hn := vProg_len hp
  obtain ⟨g, o, rfl, rv, h1, ca, cc, rfl, _⟩ := rprog hP ht
  refine (rdone_m b ab p.length cap p.length g o t _ cc ca (s.next t) w ht (by omega) (vCode_len (vProg_code hp ht)) (hR.cell 0).1 (hR.cell 1).1 (pres_grown hR.frame _ _ h1) (hR.at_ ht).1).mono ?_
  rintro e w' ⟨rfl, hl⟩
  refine ⟨?_, grown_like (grown_refl _ _) hl⟩
  have := hI t ht
  congr 2
  unfold doneB
  rw [Bool.eq_iff_iff]; simp; omega

theorem rreadyS {w0 w : World} {ao : Option Addr} {cap : Nat} {p : List (List Ins)} (hp : vProg p = true) (hP : ProgAt w0 (.agg #[.slice ao p.length cap]) p) {b ab rb : Nat} {st : Value} {s : St} {acc : List (Int × Int)} {k th a : Int}
    (hR : RunAt w0 w b ab rb p.length (.slice ao p.length cap) st s acc k th a) (hI : Inv p s) (hL : LkOk s) {t : Nat} (ht : t < p.length) :
    Calls Tryz.prog 80 #[.pointer (some ⟨b, 0, none⟩), .int .i64 t] w fun e w' => e = .returned (.bool (readyB p s t)) ∧ w.grownBy w' none := by
  have hn := vProg_len hp
  have hin := hI t ht
  obtain ⟨g, o, rfl, rv, h1, ca, cc, rfl, hc⟩ := rprog hP ht
  by_cases hd : s.next t = ((codeOf p t).length : Int)
  · refine (rready_done b ab p.length cap p.length g o t _ cc ca (s.next t) w ht (by omega) (vCode_len (vProg_code hp ht)) (by omega) (hR.cell 0).1 (hR.cell 1).1 (pres_grown hR.frame _ _ h1) (hR.at_ ht).1).mono ?_
    rintro e w' ⟨rfl, hg⟩
    exact ⟨by simp [readyB, doneB, hd], hg⟩
  · obtain ⟨kk, hkk⟩ : ∃ kk : Nat, s.next t = kk := ⟨(s.next t).toNat, by omega⟩
    have hkl : kk < (codeOf p t).length := by omega
    obtain ⟨h, ho, rfl, x1, x2, x3, x4⟩ := hc kk hkl
    have hv := vProg_ins hp ht (k := (kk : Int)) (by simpa using hkl)
    have hie : insAt p t (s.next t) = (codeOf p t)[kk] := by rw [hkk, insAt_get (by simpa using hkl)]; simp
    have hie2 : insAt p t (kk : Int) = (codeOf p t)[kk] := by rw [insAt_get (by simpa using hkl)]; simp
    rw [hie2] at hv
    have hF := pres_grown hR.frame
    have say := vIns_say hv
    refine (rready_m b ab p.length cap p.length g o t _ cc h ho kk (codeOf p t)[kk] (ownR s (codeOf p t)[kk].a.toNat) w ht (by omega) (vCode_len (vProg_code hp ht)) hkl (by omega) (by omega) (hR.cell 0).1 (hR.cell 1).1 (hF _ _ h1) (by rw [(hR.at_ ht).1, hkk]) (hF _ _ x1) (hF _ _ x2) (hF _ _ x3) (hF _ _ x4) (Array.getElem?_eq_some_iff.1 hR.main).1 (fun e => hR.own (by omega))).mono ?_
    rintro e w' ⟨rfl, hg⟩
    refine ⟨?_, hg⟩
    have hnd : doneB p s t = false := by simpa [doneB] using hd
    rw [hL.own, readyB, hnd, hie]; simp

theorem rstepS {w0 w : World} {ao : Option Addr} {cap : Nat} {p : List (List Ins)} (hp : vProg p = true) (hP : ProgAt w0 (.agg #[.slice ao p.length cap]) p) {b ab rb : Nat} {st : Value} {s : St} {acc : List (Int × Int)} {k th a : Int}
    (hR : RunAt w0 w b ab rb p.length (.slice ao p.length cap) st s acc k th a) (hI : Inv p s) {t : Nat} (ht : t < p.length) (hd : doneB p s t = false) (hacc : acc.length < 500) :
    Calls Tryz.prog 81 #[.pointer (some ⟨b, 0, none⟩), .int .i64 t] w fun e w' => ∃ st', e = .returned (.bool (stepS p s t).1) ∧
      RunAt w0 w' b ab rb p.length (.slice ao p.length cap) st' (stepS p s t).2 (acc ++ [((t : Int), s.next t)]) k th a := by
  have hn := vProg_len hp
  have hin := hI t ht
  obtain ⟨g, o, rfl, rv, h1, ca, cc, rfl, hc⟩ := rprog hP ht
  have hd' : ¬ s.next t = ((codeOf p t).length : Int) := by simpa [doneB] using hd
  obtain ⟨kk, hkk⟩ : ∃ kk : Nat, s.next t = kk := ⟨(s.next t).toNat, by omega⟩
  have hkl : kk < (codeOf p t).length := by omega
  obtain ⟨h, ho, rfl, x1, x2, x3, x4⟩ := hc kk hkl
  have hv := vProg_ins hp ht (k := (kk : Int)) (by simpa using hkl)
  have hie2 : insAt p t (kk : Int) = (codeOf p t)[kk] := by rw [insAt_get (by simpa using hkl)]; simp
  rw [hie2] at hv
  have hF := pres_grown hR.frame
  have hst : stepS p s t = act t (codeOf p t)[kk] (s.setNext t (kk + 1)) := by unfold stepS; rw [hkk, hie2]
  rw [hst, hkk]
  exact rstep_m w0 w b ab rb p.length cap g o t _ cc h ho kk st s acc k th a (codeOf p t)[kk] (by omega) ht (vCode_len (vProg_code hp ht)) hkl hacc hR hkk (hF _ _ h1) (hF _ _ x1) (hF _ _ x2) (hF _ _ x3) (hF _ _ x4) hv _ rfl _ rfl

end Go.Proofs.YtklenjmfalljgaaGreatDoor

/- The reference's Play: what its beginning makes; the verdict's cells. -/
namespace Go.Proofs.YtklenjmfalljgaaGreatDoor
open Go.RowKit
attribute [local go_sem] Go.World.cell?_alloc_some

theorem makes (n : Nat) (hN : n = 1 ∨ n = 2 ∨ n = 3 ∨ n = 4) :
    (∀ u : World, (Instr.makeSlice 25 (.int .i64 n) (.int .i64 n)).run Tryz.prog u = .ok (.slice (some ⟨u.heap.size, 0, none⟩) n n) (u.alloc (.cells (atF n St.zero).toArray 3))) ∧
    (∀ u : World, (Instr.makeSlice 30 (.int .i64 n) (.int .i64 n)).run Tryz.prog u = .ok (.slice (some ⟨u.heap.size, 0, none⟩) n n) (u.alloc (.cells (regsF n St.zero).toArray 29))) := by
  obtain ⟨i0, hi0, hz0, hz1, hz2⟩ := info_parts info_int
  obtain ⟨i1, hi1, hy0, hy1, hy2⟩ := info_parts info_arr
  constructor
  · intro u
    have := run_makeSlice (P := Tryz.prog) u 25 3 i0 _ Tryz.underlying25 hi0 hz0 .i64 .i64 n n (by omega) (Int.le_refl _) (by rw [hz1]; omega) (by rw [hz2]; omega) (by omega)
    rw [this, hz1]
    have e : madeCells (Value.int .i64 0).cells ((n : Int).toNat * 1) = (atF n St.zero).toArray := by
      rcases hN with rfl | rfl | rfl | rfl <;> first | kernel_rfl | simp [madeCells, atF, Value.cells, St.zero, Array.range, List.range_succ]
    rw [e]; rfl
  · intro u
    have := run_makeSlice (P := Tryz.prog) u 30 29 i1 _ Tryz.underlying30 hi1 hy0 .i64 .i64 n n (by omega) (Int.le_refl _) (by rw [hy1]; omega) (by rw [hy2]; omega) (by omega)
    rw [this, hy1]
    have e : madeCells (Value.agg #[.int .i64 0, .int .i64 0, .int .i64 0, .int .i64 0]).cells ((n : Int).toNat * 4) = (regsF n St.zero).toArray := by
      rcases hN with rfl | rfl | rfl | rfl <;> first | kernel_rfl | simp [madeCells, regsF, Value.cells, St.zero, Array.range, List.range_succ]
    rw [e]; rfl

theorem runAt_new1 (w : World) (X : Obj) (n : Nat) (ps : Value) (t1 : TypeId) : RunAt w ((((w.alloc X).alloc (.cells (atF n St.zero).toArray t1)).alloc (.cells (regsF n St.zero).toArray 29)).alloc (.cells (runC ps (w.heap.size + 1) (w.heap.size + 1 + 1) n (.slice none 0 0) St.zero 0 0 0) 126))
    (w.heap.size + 1 + 1 + 1) (w.heap.size + 1) (w.heap.size + 1 + 1) n ps (.slice none 0 0) St.zero [] 0 0 0 := by
  refine ⟨?_, ⟨t1, ?_⟩, ?_, ⟨rfl, Or.inl ⟨rfl, rfl⟩⟩, grown_alloc (grown_alloc (grown_alloc (grown_alloc (grown_refl _ _)))), by omega, by omega, by omega, by omega, by omega⟩
  · have := heap_alloc_new (((w.alloc X).alloc (.cells (atF n St.zero).toArray t1)).alloc (.cells (regsF n St.zero).toArray 29)) (.cells (runC ps (w.heap.size + 1) (w.heap.size + 1 + 1) n (.slice none 0 0) St.zero 0 0 0) 126)
    simpa using this
  · rw [Below.heap_alloc _ _ _ (by simp), Below.heap_alloc _ _ _ (by simp)]
    have := heap_alloc_new (w.alloc X) (.cells (atF n St.zero).toArray t1)
    simpa using this
  · rw [Below.heap_alloc _ _ _ (by simp)]
    have := heap_alloc_new ((w.alloc X).alloc (.cells (atF n St.zero).toArray t1)) (.cells (regsF n St.zero).toArray 29)
    simpa using this
theorem runAt_new2 (w : World) (X : Obj) (n : Nat) (ps : Value) (t1 : TypeId) : RunAt w ((((w.alloc X).alloc (.cells (regsF n St.zero).toArray 29)).alloc (.cells (atF n St.zero).toArray t1)).alloc (.cells (runC ps (w.heap.size + 1 + 1) (w.heap.size + 1) n (.slice none 0 0) St.zero 0 0 0) 126))
    (w.heap.size + 1 + 1 + 1) (w.heap.size + 1 + 1) (w.heap.size + 1) n ps (.slice none 0 0) St.zero [] 0 0 0 := by
  refine ⟨?_, ⟨t1, ?_⟩, ?_, ⟨rfl, Or.inl ⟨rfl, rfl⟩⟩, grown_alloc (grown_alloc (grown_alloc (grown_alloc (grown_refl _ _)))), by omega, by omega, by omega, by omega, by omega⟩
  · have := heap_alloc_new (((w.alloc X).alloc (.cells (regsF n St.zero).toArray 29)).alloc (.cells (atF n St.zero).toArray t1)) (.cells (runC ps (w.heap.size + 1 + 1) (w.heap.size + 1) n (.slice none 0 0) St.zero 0 0 0) 126)
    simpa using this
  · rw [Below.heap_alloc _ _ _ (by simp)]
    have := heap_alloc_new ((w.alloc X).alloc (.cells (regsF n St.zero).toArray 29)) (.cells (atF n St.zero).toArray t1)
    simpa using this
  · rw [Below.heap_alloc _ _ _ (by simp), Below.heap_alloc _ _ _ (by simp)]
    have := heap_alloc_new (w.alloc X) (.cells (regsF n St.zero).toArray 29)
    simpa using this


theorem RunAt.verdict {w0 w : World} {b ab rb n : Nat} {ps st : Value} {s : St} {acc : List (Int × Int)} {k th a : Int} (h : RunAt w0 w b ab rb n ps st s acc k th a) (k' th' a' : Int) :
    RunAt w0 (((w.setCell ⟨b, 11, none⟩ (.int .i64 k')).setCell ⟨b, 12, none⟩ (.int .i64 th')).setCell ⟨b, 13, none⟩ (.int .i64 a')) b ab rb n ps st s acc k' th' a' := by
  have h1 : RunAt w0 (w.setCell ⟨b, 11, none⟩ (.int .i64 k')) b ab rb n ps st s acc k' th a := h.setMain rfl rfl rfl h.row
  have h2 : RunAt w0 ((w.setCell ⟨b, 11, none⟩ (.int .i64 k')).setCell ⟨b, 12, none⟩ (.int .i64 th')) b ab rb n ps st s acc k' th' a := h1.setMain rfl rfl rfl h1.row
  exact h2.setMain rfl rfl rfl h2.row
theorem RunAt.vcells {w0 w : World} {b ab rb n : Nat} {ps st : Value} {s : St} {acc : List (Int × Int)} {k th a : Int} (h : RunAt w0 w b ab rb n ps st s acc k th a) :
    w.cell? ⟨b, 10, none⟩ = some st ∧ w.cell? ⟨b, 11, none⟩ = some (.int .i64 k) ∧ w.cell? ⟨b, 12, none⟩ = some (.int .i64 th) ∧ w.cell? ⟨b, 13, none⟩ = some (.int .i64 a) ∧ w.frozen? ⟨b, 11, none⟩ = false ∧ w.frozen? ⟨b, 12, none⟩ = false ∧ w.frozen? ⟨b, 13, none⟩ = false :=
  ⟨(h.cell 10).1, (h.cell 11).1, (h.cell 12).1, (h.cell 13).1, (h.cell 11).2, (h.cell 12).2, (h.cell 13).2⟩
theorem RunAt.kind {w0 w : World} {b ab rb n : Nat} {ps st : Value} {s : St} {acc : List (Int × Int)} {k th a : Int} (h : RunAt w0 w b ab rb n ps st s acc k th a) (k' : Int) :
    RunAt w0 (w.setCell ⟨b, 11, none⟩ (.int .i64 k')) b ab rb n ps st s acc k' th a := h.setMain rfl rfl rfl h.row

theorem RunAt.last {w0 w : World} {b ab rb n : Nat} {ps st : Value} {s : St} {acc : List (Int × Int)} {k th a : Int} {x : Int × Int} (h : RunAt w0 w b ab rb n ps st s (acc ++ [x]) k th a) :
    ∃ g cap, st = .slice (some ⟨g, 0, none⟩) (acc.length + 1) cap ∧ w.cell? ⟨g, acc.length * 2, none⟩ = some (.int .i64 x.1) ∧ w.cell? ⟨g, acc.length * 2 + 1, none⟩ = some (.int .i64 x.2) := by
  have hr := h.row
  rw [List.length_append] at hr
  have hl : ∀ q : List (Int × Int), (flatS q).length = q.length * 2 := fun q => by
    induction q with
    | nil => rfl
    | cons y q ih =>
      have : flatS (y :: q) = .int .i64 y.1 :: .int .i64 y.2 :: flatS q := rfl
      rw [this]; simp [ih]; omega
  rcases hr.2 with ⟨_, e2⟩ | ⟨g, cap, cur, hv, hb, hh, hx⟩
  · simp at e2
  · have key : ∀ j v, (flatS (acc ++ [x]))[j]? = some v → w.cell? ⟨g, j, none⟩ = some v := fun j v e => by
      rw [← hx.2.2.2, List.getElem?_take] at e
      by_cases hj : j < (acc.length + [x].length) * 2
      · rw [if_pos hj] at e
        simp only [World.cell?, hh]
        simpa using e
      · rw [if_neg hj] at e; cases e
    refine ⟨g, cap, hv, key _ _ ?_, key _ _ ?_⟩
    · rw [flatS_snoc, List.getElem?_append_right (by rw [hl]; omega), hl]; simp
    · rw [flatS_snoc, List.getElem?_append_right (by rw [hl]; omega), hl]; simp

end Go.Proofs.YtklenjmfalljgaaGreatDoor

/- The reference's Play. -/
namespace Go.Proofs.YtklenjmfalljgaaGreatDoor
open Go.RowKit
attribute [local go_sem] Go.World.cell?_alloc_some

/-- What Play answers. -/
def Played (w : World) (n : Nat) (ps : Value) (o : Out) (e : Ending) (w' : World) : Prop :=
  ∃ b ab rb st, e = .returned (.pointer (some ⟨b, 0, none⟩)) ∧ RunAt w w' b ab rb n ps st o.st o.steps o.kind o.thread o.at_

set_option maxHeartbeats 4000000 in
set_option maxRecDepth 100000 in
theorem play_m (w : World) (ao : Option Addr) (cap : Nat) (p : List (List Ins)) (sv : Value) (sch : List Int) (hp : vProg p = true) (hP : ProgAt w (.agg #[.slice ao p.length cap]) p) (hI : IntsAt w.heap.size w sv sch) (h500 : sch.length ≤ 500) :
    Calls Tryz.prog 49 #[.agg #[.slice ao p.length cap], sv] w (Played w p.length (.slice ao p.length cap) (runS p sch)) := by
  have hn := vProg_len hp
  have HP := hide hP
  have HV := hide hp
  have HI := hide hI
  clear hp hP hI
  go_enter Tryz.func49, Tryz.ntmps49
  go_upto_region 2 with fail
  go_cut [6] (fun pv w' => ∃ b ab rb st, pv = .pointer (some ⟨b, 0, none⟩) ∧ RunAt w w' b ab rb p.length (.slice ao p.length cap) st St.zero [] 0 0 0)
  case first =>
    have hN : p.length = 1 ∨ p.length = 2 ∨ p.length = 3 ∨ p.length = 4 := by omega
    clear HP HV
    generalize p.length = n at *
    obtain ⟨hmA, hmB⟩ := makes n hN
    have n4 : (n : Int) ≤ 4 := by omega
    clear hN
    go_region
    all_goals go_wp2
    all_goals go_meet
    · first | exact ⟨_, _, _, _, rfl, (runAt_new1 w _ n _ _).like ⟨rfl, rfl, rfl, rfl⟩⟩ | exact ⟨_, _, _, _, rfl, (runAt_new2 w _ n _ _).like ⟨rfl, rfl, rfl, rfl⟩⟩
    · first | exact ⟨_, _, _, _, rfl, (runAt_new1 w _ n _ _).like ⟨rfl, rfl, rfl, rfl⟩⟩ | exact ⟨_, _, _, _, rfl, (runAt_new2 w _ n _ _).like ⟨rfl, rfl, rfl, rfl⟩⟩
  case rest =>
    obtain ⟨b, ab, rb, st0, rfl, hR0⟩ := hcut
    have HR0 := hide hR0
    clear hR0
    obtain ⟨so, sc, rfl, hsz, hcell⟩ := HI.out
    have HC := hide hcell
    clear hcell HI
    have q1 : (sch.length : Int) ≤ 500 := by omega
    have q2 : (p.length : Int) ≤ 4 := by omega
    go_wp2_with fail
    go_loopw [7] (fun i w' => ∃ (k : Nat) (s : St) (acc : List (Int × Int)) (st : Value), k ≤ sch.length ∧ i = .int .i64 k ∧ Hid (acc.length = k) ∧ Hid (RunAt w w' b ab rb p.length (.slice ao p.length cap) st s acc 0 0 0) ∧ Hid (Inv p s) ∧ Hid (LkOk s) ∧
      Hid (runS p sch = follow p (sch.drop k) k s acc)) (fun i _ => sch.length - (intOf i).toNat)
    case atStart => exact ⟨0, St.zero, [], st0, Nat.zero_le _, rfl, rfl, HR0, Inv.zero p, LkOk.zero, rfl⟩
    case round =>
      obtain ⟨k, s, acc, st, hk, rfl, HAL, HR, HIN, HLK, HF⟩ := hrel
      obtain ⟨w5, hw5⟩ : ∃ w5, w5 = wr := ⟨_, rfl⟩
      rw [← hw5] at HR ⊢
      clear hw5
      by_cases hlt : k < sch.length
      · obtain ⟨gb, go, rfl, hgb, hc⟩ := HC.out k hlt
        have hcr := pres_grown HR.out.frame _ _ hc
        clear hc
        have HD : Hid (sch.drop k = sch[k] :: sch.drop (k + 1)) := List.drop_eq_getElem_cons hlt
        generalize sch[k] = t at *
        have hk0 : (0 : Int) ≤ (k : Int) := by omega
        have hk1 : (k : Int) < sch.length := by omega
        obtain ⟨_, c11, c12, c13, f11, f12, f13⟩ := HR.out.vcells
        by_cases hb0 : 0 ≤ t
        · by_cases hb1 : t < p.length
          · obtain ⟨t', rfl⟩ := Int.eq_ofNat_of_zero_le hb0
            have ht' : t' < p.length := by omega
            go_wp2_with fail
            refine (rreadyS HV.out HP.out HR.out HIN.out HLK.out ht').mono ?_
            rintro e w6 ⟨rfl, hg6⟩
            have HR6 := hide (HR.out.grown hg6)
            replace hcr := pres_grown hg6 _ _ hcr
            clear hg6 c11 c12 c13 f11 f12 f13 HR
            obtain ⟨_, c11, c12, c13, f11, f12, f13⟩ := HR6.out.vcells
            cases hrd : readyB p s t'
            · have HW : Hid (runS p sch = ⟨acc, 2, 0, k, s⟩) := by
                unfold Hid
                rw [HF.out, HD.out]; exact follow_wrong _ _ _ _ _ _ (by simp [okAt, hrd])
              clear hrd
              go_wp2_with fail
              go_ret
              rw [HW.out]
              exact ⟨b, ab, rb, st, rfl, HR6.out.verdict 2 0 k⟩
            · have HK : Hid (okAt p s t' = true) := by
                unfold Hid okAt belowB
                simp [hrd, ht']
              have HDn : Hid (doneB p s t' = false) := by
                unfold Hid
                cases hd : doneB p s t' with
                | false => rfl
                | true => simp [readyB, hd] at hrd
              clear hrd c11 c12 c13 f11 f12 f13
              go_wp2_with fail
              refine (rstepS HV.out HP.out HR6.out HIN.out ht' HDn.out (by rw [HAL.out]; omega)).mono ?_
              rintro e w7 ⟨st', rfl, hR7⟩
              have HR7 := hide hR7
              clear hR7 HR6 hcr
              cases hstp : (stepS p s t').1
              · have HW : Hid (runS p sch = ⟨acc ++ [((t' : Int), s.next t')], 1, t', s.next t', (stepS p s t').2⟩) := by
                  unfold Hid
                  rw [HF.out, HD.out]; exact follow_fail _ _ _ _ _ _ HK.out (by simpa using hstp)
                clear hstp
                obtain ⟨lg, lc, rfl, l1, l2⟩ := HR7.out.last
                obtain ⟨c10, c11, c12, c13, f11, f12, f13⟩ := HR7.out.vcells
                have HLL : Hid (acc.length < 500) := by unfold Hid; rw [HAL.out]; omega
                generalize hgl : acc.length = L at *
                have HGL := hide hgl
                clear hgl
                have hL : (L : Int) < 500 := by have := HLL.out; omega
                go_wp2_with fail
                go_region
                have hg8 : w7.grownBy (w7.alloc (.cells #[.int .i64 t', .int .i64 (s.next t')] 84)).drew none := grown_drew (grown_alloc (grown_refl _ _))
                have hb8 : (w7.alloc (.cells #[.int .i64 t', .int .i64 (s.next t')] 84)).drew.heap[w7.heap.size]? = some (.cells #[.int .i64 t', .int .i64 (s.next t')] 84 (0, 0)) := heap_alloc_new w7 _
                generalize (w7.alloc (.cells #[.int .i64 t', .int .i64 (s.next t')] 84)).drew = w8 at hg8 hb8 ⊢
                have HR8 := hide (HR7.out.grown hg8)
                have z0 : w8.cell? ⟨w7.heap.size, 0, none⟩ = some (.int .i64 t') := by simp [World.cell?, hb8]
                have z1 : w8.cell? ⟨w7.heap.size, 1, none⟩ = some (.int .i64 (s.next t')) := by simp [World.cell?, hb8]
                clear hg8 hb8 c10 c11 c12 c13 f11 f12 f13 l1 l2 HR7
                obtain ⟨_, c11, c12, c13, f11, f12, f13⟩ := HR8.out.vcells
                go_wp2
                go_ret
                rw [HW.out]
                exact ⟨b, ab, rb, _, rfl, HR8.out.verdict 1 t' (s.next t')⟩
              · have HF2 : Hid (runS p sch = follow p (sch.drop (k + 1)) ((k + 1 : Nat) : Int) (stepS p s t').2 (acc ++ [((t' : Int), s.next t')])) := by
                  unfold Hid
                  rw [HF.out, HD.out, follow_go _ _ _ _ _ _ HK.out (by simpa using hstp)]
                  simp
                have HI2 := hide (HIN.out.step HV.out ht' HDn.out)
                have HL2 := hide (HLK.out.step p t')
                have HA2 : Hid ((acc ++ [((t' : Int), s.next t')]).length = k + 1) := by unfold Hid; rw [List.length_append, HAL.out]; rfl
                clear hstp
                go_wp2_with fail
                go_roundw
                case rel => exact ⟨k + 1, _, _, st', by omega, by go_num, HA2, HR7, HI2, HL2, HF2⟩
                case measure => simp [intOf]; omega
          · have hb1' : (p.length : Int) ≤ t := by omega
            have HW : Hid (runS p sch = ⟨acc, 2, 0, k, s⟩) := by
              unfold Hid
              rw [HF.out, HD.out]; exact follow_wrong _ _ _ _ _ _ (by simp [okAt, belowB, hb1])
            go_wp2_with fail
            go_ret
            rw [HW.out]
            exact ⟨b, ab, rb, st, rfl, HR.out.verdict 2 0 k⟩
        · have hb0' : t < 0 := by omega
          have HW : Hid (runS p sch = ⟨acc, 2, 0, k, s⟩) := by
            unfold Hid
            rw [HF.out, HD.out]; exact follow_wrong _ _ _ _ _ _ (by simp [okAt, belowB, hb0])
          go_wp2_with fail
          go_ret
          rw [HW.out]
          exact ⟨b, ab, rb, st, rfl, HR.out.verdict 2 0 k⟩
      · have HW : Hid (runS p sch = ⟨acc, endingS p s, 0, 0, s⟩) := by
          unfold Hid
          rw [HF.out, List.drop_eq_nil_of_le (by omega)]; rfl
        have hk1 : (sch.length : Int) ≤ (k : Int) := by omega
        clear HF HAL HC
        go_wp2_with fail
        go_loopw [11, 12, 13] (fun dv rv tv w' => ∃ t d r : Nat, t ≤ p.length ∧ dv = .int .i64 d ∧ rv = .int .i64 r ∧ tv = .int .i64 t ∧ d ≤ t ∧ r ≤ t ∧ Hid (d = t ↔ ∀ j, j < t → doneB p s j = true) ∧ Hid (r = 0 ↔ ∀ j, j < t → readyB p s j = false) ∧
          Hid (RunAt w w' b ab rb p.length (.slice ao p.length cap) st s acc 0 0 0)) (fun _ _ tv _ => p.length - (intOf tv).toNat)
        case atStart => exact ⟨0, 0, 0, Nat.zero_le _, rfl, rfl, rfl, Nat.le_refl _, Nat.le_refl _, ⟨fun _ j h => absurd h (by omega), fun _ => rfl⟩, ⟨fun _ j h => absurd h (by omega), fun _ => rfl⟩, HR⟩
        case round =>
          clear HR
          obtain ⟨t, d, r, ht, rfl, rfl, rfl, hd, hr, HD, HRd, HR⟩ := hrel
          obtain ⟨w6, hw6⟩ : ∃ w6, w6 = wr := ⟨_, rfl⟩
          rw [← hw6] at HR ⊢
          clear hw6
          by_cases hlt : t < p.length
          · have t0 : (0 : Int) ≤ (t : Int) := by omega
            have t1 : (t : Int) < p.length := by omega
            have d1 : (d : Int) ≤ 4 := by omega
            have r1 : (r : Int) ≤ 4 := by omega
            go_wp2_with fail
            refine (rdoneS HV.out HP.out HR.out HIN.out hlt).mono ?_
            rintro e w7 ⟨rfl, hg7⟩
            have HR7 := hide (HR.out.grown hg7)
            clear hg7 HR
            go_wp2_with fail
            refine (rreadyS HV.out HP.out HR7.out HIN.out HLK.out hlt).mono ?_
            rintro e w8 ⟨rfl, hg8⟩
            have HR8 := hide (HR7.out.grown hg8)
            clear hg8 HR7
            have HD2 : Hid ((if doneB p s t = true then d + 1 else d) = t + 1 ↔ ∀ j, j < t + 1 → doneB p s j = true) := by
              unfold Hid
              cases e : doneB p s t
              · simp only [Bool.false_eq_true, if_false]
                constructor
                · intro h; omega
                · intro h; have := h t (by omega); rw [e] at this; cases this
              · simp only [if_true]
                constructor
                · intro h j hj
                  by_cases hjt : j = t
                  · rw [hjt]; exact e
                  · exact HD.out.1 (by omega) j (by omega)
                · intro h
                  have := HD.out.2 (fun j hj => h j (by omega))
                  omega
            have HR2 : Hid ((if readyB p s t = true then r + 1 else r) = 0 ↔ ∀ j, j < t + 1 → readyB p s j = false) := by
              unfold Hid
              cases e : readyB p s t
              · simp only [Bool.false_eq_true, if_false]
                constructor
                · intro h j hj
                  by_cases hjt : j = t
                  · rw [hjt]; exact e
                  · exact HRd.out.1 h j (by omega)
                · intro h; exact HRd.out.2 (fun j hj => h j (by omega))
              · simp only [if_true]
                constructor
                · intro h; omega
                · intro h; have := h t (by omega); rw [e] at this; cases this
            clear HD HRd
            generalize doneB p s t = db at *
            generalize readyB p s t = rb' at *
            cases db <;> cases rb'
            all_goals
              go_wp2_with fail
              go_roundw
              case rel => exact ⟨t + 1, _, _, by omega, by go_num, by go_num, by go_num, by simp <;> omega, by simp <;> omega, HD2, HR2, HR8⟩
              case measure => simp [intOf]; omega
          · have t1 : (p.length : Int) ≤ (t : Int) := by omega
            obtain ⟨_, c11, c12, c13, f11, f12, f13⟩ := HR.out.vcells
            obtain rfl : t = p.length := by omega
            by_cases hr0 : r = 0
            · have hnr := HRd.out.1 hr0
              have HE := hide (ending_end hnr)
              subst hr0
              by_cases hdn : d = p.length
              · have hda := HD.out.1 hdn
                have HE3 : Hid (endingS p s = 3) := by
                  unfold Hid
                  rw [HE.out, endTo, if_pos]
                  rw [List.all_eq_true]
                  intro j hj
                  exact hda j (by simpa using hj)
                have hdb : ((d : Int) == (p.length : Int)) = true := by simp; omega
                clear hnr hda HD HRd HE hdn t1
                go_wp2_with fail
                go_ret
                rw [HW.out, HE3.out]
                exact ⟨b, ab, rb, st, rfl, ((HR.out.kind 5).kind 4).kind 3⟩
              · have HE4 : Hid (endingS p s = 4) := by
                  unfold Hid
                  rw [HE.out, endTo, if_neg]
                  intro h
                  rw [List.all_eq_true] at h
                  exact hdn (HD.out.2 (fun j hj => h j (by simpa using hj)))
                have hdb : ((d : Int) == (p.length : Int)) = false := by simp; omega
                clear hnr HD HRd HE hdn t1
                go_wp2_with fail
                go_ret
                rw [HW.out, HE4.out]
                exact ⟨b, ab, rb, st, rfl, (HR.out.kind 5).kind 4⟩
            · obtain ⟨j, hj, hrj⟩ : ∃ j, j < p.length ∧ readyB p s j = true := by
                by_cases hex : ∃ j, j < p.length ∧ readyB p s j = true
                · exact hex
                · exfalso
                  refine hr0 (HRd.out.2 (fun j hj => ?_))
                  cases e : readyB p s j
                  · rfl
                  · exact absurd ⟨j, hj, e⟩ hex
              have HE5 := hide (ending_open hj hrj)
              have hdn : d ≠ p.length := fun e => by
                have := HD.out.1 e j hj
                simp [readyB, this] at hrj
              have hdb : ((d : Int) == (p.length : Int)) = false := by simp; omega
              have hrb : ((r : Int) == 0) = false := by simp; omega
              clear HD HRd hdn hr0 hj hrj t1
              go_wp2_with fail
              go_ret
              rw [HW.out, HE5.out]
              exact ⟨b, ab, rb, st, rfl, HR.out.kind 5⟩

end Go.Proofs.YtklenjmfalljgaaGreatDoor

/- The reference's Replay. -/
namespace Go.Proofs.YtklenjmfalljgaaGreatDoor
open Go.RowKit
attribute [local go_sem] Go.World.cell?_alloc_some

/-- The run's registers, as a row of the call's own. -/
theorem RunAt.regRow {w0 w : World} {b ab rb n : Nat} {ps st : Value} {s : St} {acc : List (Int × Int)} {k th a : Int} (h : RunAt w0 w b ab rb n ps st s acc k th a) (hn : n ≤ 4) :
    w.ownsRow w0.heap.size 29 4 (.slice (some ⟨rb, 0, none⟩) n n) n (regsF n s) :=
  ⟨regsF_len n s, Or.inr ⟨rb, n, (regsF n s).toArray, rfl, h.rb0, h.regs, Nat.le_refl _, by unfold maxLen; omega, by simp [regsF_len], by rw [← regsF_len n s]; simp⟩⟩

set_option maxHeartbeats 4000000 in
set_option maxRecDepth 100000 in
theorem refreplay_m (p : List (List Ins)) (s : List Int) (pv sv : Value) (w : World) (hP : ProgAt w pv p) (hI : IntsAt w.heap.size w sv s) (hpl : p.length ≤ 1048576) (hpc : ∀ c ∈ p, c.length ≤ 1048576) :
    Calls Tryz.prog 30 #[pv, sv] w (Replayed p s w) := by
  have HP := hide hP
  have HI := hide hI
  have HPC := hide hpc
  obtain ⟨ao, cap, rfl⟩ := hP.form
  obtain ⟨so, sc, rfl⟩ := hI.form
  clear hP hI hpc
  go_enter Tryz.func30, Tryz.ntmps30
  go_wp2_with fail
  have hg0 : ∀ a b, w.grownBy ((w.alloc a).alloc b) none := fun a b => grown_alloc (grown_alloc (grown_refl _ _))
  refine (refcheck_m p _ _ (HP.out.pres (pres_grown (hg0 _ _))) hpl HPC.out).mono ?_
  rintro e w1 ⟨rfl, hg1⟩
  have HG1 : Hid (w.grownBy w1 none) := grown_trans (hg0 _ _) hg1
  have hsz1 : w.heap.size + 2 ≤ w1.heap.size := by have := hg1.size; simpa using this
  have hb0 : w1.heap[w.heap.size]? = some (.cells #[.slice ao p.length cap] 24 (0, 0)) := by
    rw [hg1.block w.heap.size (by simp; omega) (by simp), Below.heap_alloc _ _ _ (by simp)]; exact heap_alloc_new w _
  have hb1 : w1.heap[w.heap.size + 1]? = some (.cells #[.int .i64 0, .int .i64 0, .int .i64 0, .slice none 0 0, .int .i64 0, .int .i64 0, .int .i64 0, .int .i64 0, .slice none 0 0] 32 (0, 0)) := by
    rw [hg1.block (w.heap.size + 1) (by simp) (by simp)]
    have := heap_alloc_new (w.alloc (.cells #[.slice ao p.length cap] 24)) (.cells #[.int .i64 0, .int .i64 0, .int .i64 0, .slice none 0 0, .int .i64 0, .int .i64 0, .int .i64 0, .int .i64 0, .slice none 0 0] 32)
    simpa using this
  have HB1 := hide hb1
  have c0 : w1.cell? ⟨w.heap.size, 0, none⟩ = some (.slice ao p.length cap) := by simp [World.cell?, hb0]
  clear hb0 hg1
  obtain ⟨r0, r1, r2, r3, r4, r5, r6, r7, r8, rf⟩ := nine_cells hb1
  have f0 := rf 0
  have f1 := rf 1
  have f2 := rf 2
  have f3 := rf 3
  have f4 := rf 4
  have f5 := rf 5
  have f6 := rf 6
  have f7 := rf 7
  have f8 := rf 8
  clear rf hb1
  by_cases hv : vProg p = true
  · have e0 : checkN p = 0 := by simp [checkN, hv]
    have HV := hide hv
    have hlen := vProg_len hv
    rw [e0]
    clear e0 hv
    by_cases h5 : s.length ≤ 500
    · have h5' : (s.length : Int) ≤ 500 := by omega
      have H0 : Hid (checkRunN p s = 0) := by unfold Hid checkRunN; simp [HV.out, h5]
      go_wp2_with fail
      have HPl := hide (play_m w1 ao cap p _ s HV.out (HP.out.pres (pres_grown HG1.out)) ((HI.out.pres (pres_grown HG1.out)).mono HG1.out.size) h5)
      refine (unhide HPl).mono ?_
      clear HPl r0 r1 r2 r3 r4 r5 r6 r7 r8 f0 f1 f2 f3 f4 f5 f6 f7 f8
      rintro e w2 ⟨b, ab, rb, st, rfl, hR⟩
      obtain ⟨x1, x2, x3, rfl⟩ := owns_form hR.row
      have HR := hide hR
      have HG2 : Hid (w.grownBy w2 none) := grown_trans HG1.out hR.frame
      have hrb : w2.heap[w.heap.size + 1]? = some (.cells #[.int .i64 0, .int .i64 0, .int .i64 0, .slice none 0 0, .int .i64 0, .int .i64 0, .int .i64 0, .int .i64 0, .slice none 0 0] 32 (0, 0)) := by
        rw [hR.frame.block _ (by omega) (by simp)]; exact HB1.out
      obtain ⟨c10, c11, c12, c13, _, _, _⟩ := hR.vcells
      have v0 := hR.var (l := 0) (by omega)
      have v1 := hR.var (l := 1) (by omega)
      have v2 := hR.var (l := 2) (by omega)
      have v3 := hR.var (l := 3) (by omega)
      have c2 : w2.cell? ⟨b, 2, none⟩ = some (.slice (some ⟨rb, 0, none⟩) p.length p.length) := (hR.cell 2).1
      obtain ⟨r0, r1, r2, r3, r4, r5, r6, r7, r8, rf⟩ := nine_cells hrb
      have f0 := rf 0
      have f1 := rf 1
      have f2 := rf 2
      have f3 := rf 3
      have f4 := rf 4
      have f5 := rf 5
      have f6 := rf 6
      have f7 := rf 7
      have f8 := rf 8
      have hab := hR.ab0
      have habb := hR.abb
      have hbw : b ≠ w.heap.size + 1 := by omega
      have hbw' : w.heap.size + 1 ≠ b := by omega
      clear rf hrb hR c0
      generalize hO : runS p s = o at *
      have HOe := hide hO
      clear hO
      go_wp2_with fail
      go_region
      go_wp2
      refine bodyPost_ret (v := .tuple #[.agg #[.int .i64 o.kind, .int .i64 o.thread, .int .i64 o.at_, .slice x1 x2 x3, .int .i64 (o.st.vars 0), .int .i64 (o.st.vars 1), .int .i64 (o.st.vars 2), .int .i64 (o.st.vars 3), .slice (some ⟨rb, 0, none⟩) p.length p.length], .int .i64 0]) ?_ rfl ⟨?_, Or.inl ⟨H0.out, _, rfl, ?_⟩⟩
      · simp [results, Tryz.results30, go_sem, r0, r1, r2, r3, r4, r5, r6, r7, r8]
      · refine grown_drew ?_
        iterate 9 refine grown_setNew ?_ (by omega)
        exact HG2.out
      · rw [HOe.out]
        refine ⟨_, _, rfl, ?_, ?_⟩
        · refine owns_mono (base := b + 1) ?_ (by omega)
          refine owns_grown (r := none) ?_ (grown_drew (grown_refl _ _)) (fun _ e => by cases e)
          iterate 9 refine ownsRow_setCell_below ?_ (by simp; omega) _
          exact HR.out.row
        · refine owns_mono (base := w1.heap.size) ?_ (by omega)
          refine owns_grown (r := none) ?_ (grown_drew (grown_refl _ _)) (fun _ e => by cases e)
          iterate 9 refine ownsRow_setCell_below ?_ (by simp; omega) _
          exact HR.out.regRow (by omega)
    · have h5' : (500 : Int) < s.length := by omega
      have H0 : Hid (checkRunN p s = 2) := by unfold Hid checkRunN; simp [HV.out, h5]
      go_wp2_with fail
      refine bodyPost_ret (v := .tuple #[.agg #[.int .i64 0, .int .i64 0, .int .i64 0, .slice none 0 0, .int .i64 0, .int .i64 0, .int .i64 0, .int .i64 0, .slice none 0 0], .int .i64 2]) ?_ rfl ⟨?_, Or.inr ⟨by rw [H0.out]; decide, by rw [H0.out]⟩⟩
      · simp [results, Tryz.results30, go_sem, r0, r1, r2, r3, r4, r5, r6, r7, r8]
      · iterate 9 refine grown_setNew ?_ (by omega)
        exact HG1.out
  · have e0 : checkN p = 1 := by simp [checkN, hv]
    have H0 : Hid (checkRunN p s = 1) := by unfold Hid checkRunN; simp [hv]
    rw [e0]
    clear e0 hv
    go_wp2_with fail
    refine bodyPost_ret (v := .tuple #[.agg #[.int .i64 0, .int .i64 0, .int .i64 0, .slice none 0 0, .int .i64 0, .int .i64 0, .int .i64 0, .int .i64 0, .slice none 0 0], .int .i64 1]) ?_ rfl ⟨?_, Or.inr ⟨by rw [H0.out]; decide, by rw [H0.out]⟩⟩
    · simp [results, Tryz.results30, go_sem, r0, r1, r2, r3, r4, r5, r6, r7, r8]
    · iterate 9 refine grown_setNew ?_ (by omega)
      exact HG1.out

end Go.Proofs.YtklenjmfalljgaaGreatDoor

/- The laws' counter: the document's program P, made. -/
namespace Go.Proofs.YtklenjmfalljgaaGreatDoor
open Go.RowKit
attribute [local go_sem] Go.World.cell?_alloc_some

def ctrC : List Ins := [⟨2, 0, 0, 0⟩, ⟨1, 1, 0, 1⟩, ⟨4, 0, 1, 0⟩, ⟨3, 0, 0, 0⟩]
def ctrP : List (List Ins) := [ctrC, ctrC]
def ctrV : Array Value := #[.int .i64 2, .int .i64 0, .int .i64 0, .int .i64 0, .int .i64 1, .int .i64 1, .int .i64 0, .int .i64 1, .int .i64 4, .int .i64 0, .int .i64 1, .int .i64 0, .int .i64 3, .int .i64 0, .int .i64 0, .int .i64 0]

theorem ctr_code {w : World} {g : Nat} {ty : TypeId} (h : w.heap[g]? = some (.cells ctrV ty (0, 0))) : CodeAt w (.slice (some ⟨g, 0, none⟩) 4 4) ctrC := by
  refine ⟨some ⟨g, 0, none⟩, 4, rfl, fun k hk => ⟨g, 0, rfl, ?_⟩⟩
  have hk4 : k = 0 ∨ k = 1 ∨ k = 2 ∨ k = 3 := by simp [ctrC] at hk; omega
  simp only [World.cell?, h]
  rcases hk4 with rfl | rfl | rfl | rfl <;> exact ⟨rfl, rfl, rfl, rfl⟩

theorem ctr_prog {w : World} {g g2 : Nat} {ty ty2 : TypeId} (h : w.heap[g]? = some (.cells ctrV ty (0, 0))) (h2 : w.heap[g2]? = some (.cells #[.slice (some ⟨g, 0, none⟩) 4 4, .slice (some ⟨g, 0, none⟩) 4 4] ty2 (0, 0))) :
    ProgAt w (.agg #[.slice (some ⟨g2, 0, none⟩) 2 2]) ctrP := by
  refine ⟨some ⟨g2, 0, none⟩, 2, rfl, fun t ht => ⟨g2, 0, rfl, .slice (some ⟨g, 0, none⟩) 4 4, ?_, ?_⟩⟩
  · have ht2 : t = 0 ∨ t = 1 := by simp [ctrP] at ht; omega
    simp only [World.cell?, h2]
    rcases ht2 with rfl | rfl <;> rfl
  · have ht2 : t = 0 ∨ t = 1 := by simp [ctrP] at ht; omega
    rcases ht2 with rfl | rfl <;> exact ctr_code h

set_option maxHeartbeats 1000000 in
theorem counter_m (w : World) : Calls Tryz.prog 7 #[] w fun e w' => ∃ pv, e = .returned pv ∧ ProgAt w' pv ctrP ∧ w.grownBy w' none := by
  go_enter Tryz.func7, Tryz.ntmps7
  go_wp2_with fail
  refine bodyPost_ret (v := .agg #[.slice (some ⟨w.heap.size + 1 + 1, 0, none⟩) 2 2]) ?_ rfl ⟨_, rfl, ctr_prog (g := w.heap.size + 1) (ty := 74) (ty2 := 75) ?_ ?_, grown_alloc (grown_alloc (grown_alloc (grown_refl _ _)))⟩
  · simp [results, Tryz.results7, go_sem]
  · rw [Below.heap_alloc _ _ _ (by simp)]
    have := heap_alloc_new (w.alloc (.cells #[.slice (some ⟨w.heap.size + 1 + 1, 0, none⟩) 2 2] 24)) (.cells ctrV 74)
    simp only [World.size_alloc] at this
    exact this
  · have := heap_alloc_new ((w.alloc (.cells #[.slice (some ⟨w.heap.size + 1 + 1, 0, none⟩) 2 2] 24)).alloc (.cells ctrV 74)) (.cells #[.slice (some ⟨w.heap.size + 1, 0, none⟩) 4 4, .slice (some ⟨w.heap.size + 1, 0, none⟩) 4 4] 75)
    simp only [World.size_alloc] at this
    exact this

end Go.Proofs.YtklenjmfalljgaaGreatDoor

/- Equality of two equal arrays of four ints. -/
namespace Go.Proofs.YtklenjmfalljgaaGreatDoor
open Go.RowKit

theorem run_eq4 (a b c d : Int) (w : World) : (Op.equalIn 10000 29 (.agg #[.int .i64 a, .int .i64 b, .int .i64 c, .int .i64 d]) (.agg #[.int .i64 a, .int .i64 b, .int .i64 c, .int .i64 d])).run Tryz.prog w = .ok true w := by
  obtain ⟨i0, hi0, hz0, hz1, hz2⟩ := info_parts info_int
  have hc : Tryz.prog.cellsOf 3 = 1 := by simp [Program.cellsOf, hi0, hz1]
  have hk : Tryz.prog.plainKey 3 = true := by simp [Program.plainKey, Tryz.underlying3]
  rw [show (10000 : Nat) = 9999 + 1 from rfl, run_equalIn_array w 9999 _ _ (n := 4) (e := 3) (by first | exact Tryz.underlying29 | kernel_rfl) hi0, hc]
  have he : ∀ (d : Nat) (v : Int), (Op.equalIn (d + 1) 3 (.int .i64 v) (.int .i64 v)).run Tryz.prog w = .ok true w := fun d v => by
    rw [run_equalIn_int w d _ _ .i64 v v Tryz.underlying3]; simp
  have hq := he 9998
  simp only [Nat.reduceAdd] at hq
  have p0 := run_part_plain w hk (xs := #[.int .i64 a, .int .i64 b, .int .i64 c, .int .i64 d]) (off := 0) rfl
  have p1 := run_part_plain w hk (xs := #[.int .i64 a, .int .i64 b, .int .i64 c, .int .i64 d]) (off := 1) rfl
  have p2 := run_part_plain w hk (xs := #[.int .i64 a, .int .i64 b, .int .i64 c, .int .i64 d]) (off := 2) rfl
  have p3 := run_part_plain w hk (xs := #[.int .i64 a, .int .i64 b, .int .i64 c, .int .i64 d]) (off := 3) rfl
  simp [List.range, List.range.loop, Op.eqItems, Sem.run_bind, p0, p1, p2, p3, hq, Result.andThen_ok]

end Go.Proofs.YtklenjmfalljgaaGreatDoor

/- The laws' asked, of Replay. -/
namespace Go.Proofs.YtklenjmfalljgaaGreatDoor
open Go.RowKit
attribute [local go_sem] Go.World.cell?_alloc_some run_eq4

theorem num_mR (n : Int) (w : World) : Calls Tryz.prog 31 #[.int .i64 n] w fun e w' => e = .returned (.int .i64 n) ∧ w' = w := by
  go_enter Tryz.func31, Tryz.ntmps31
  go_wp2_with fail
  go_ret
  exact ⟨rfl, rfl⟩

/-- What Replay answers, under one name: an answer, its verdict, its variables, its lists. -/
def ResV (p : List (List Ins)) (s : List Int) (B : Nat) (w : World) (rv : Value) (c : Int) : Prop :=
  ∃ k t a v0 v1 v2 v3 x1 x3 y1 y3 m q, rv = .agg #[.int .i64 k, .int .i64 t, .int .i64 a, .slice x1 m x3, .int .i64 v0, .int .i64 v1, .int .i64 v2, .int .i64 v3, .slice y1 q y3] ∧ c = checkRunN p s ∧
    ((c = 0 ∧ k = (runS p s).kind ∧ t = (runS p s).thread ∧ a = (runS p s).at_ ∧ v0 = (runS p s).st.vars 0 ∧ v1 = (runS p s).st.vars 1 ∧ v2 = (runS p s).st.vars 2 ∧ v3 = (runS p s).st.vars 3 ∧ m = (runS p s).steps.length ∧ q = p.length ∧
      w.ownsRow B 84 2 (.slice x1 m x3) (runS p s).steps.length (flatS (runS p s).steps) ∧ w.ownsRow B 29 4 (.slice y1 q y3) p.length (regsF p.length (runS p s).st)) ∨
     (c ≠ 0 ∧ k = 0 ∧ t = 0 ∧ a = 0 ∧ v0 = 0 ∧ v1 = 0 ∧ v2 = 0 ∧ v3 = 0 ∧ m = 0 ∧ q = 0 ∧ x1 = none ∧ x3 = 0 ∧ y1 = none ∧ y3 = 0))

theorem owns_lenR {w : World} {base : Nat} {e : TypeId} {size : Nat} {ao : Option Addr} {m c n : Nat} {xs : List Value} (h : w.ownsRow base e size (.slice ao m c) n xs) : m = n := by
  rcases h.2 with ⟨e1, e2⟩ | ⟨g', cap', cur, hv, _⟩
  · simp only [Value.slice.injEq] at e1
    rw [e1.2.1]; first | exact e2.symm | omega
  · simp only [Value.slice.injEq] at hv; exact hv.2.1

theorem Replayed.form {p : List (List Ins)} {s : List Int} {w w' : World} {e : Ending} (h : Replayed p s w e w') : w.grownBy w' none ∧ ∃ rv c, e = .returned (.tuple #[rv, .int .i64 c]) ∧ ResV p s w.heap.size w' rv c := by
  obtain ⟨hg, h⟩ := h
  refine ⟨hg, ?_⟩
  rcases h with ⟨h0, rv, rfl, sv, gv, rfl, h1, h2⟩ | ⟨h0, rfl⟩
  · obtain ⟨x1, m, x3, rfl⟩ := owns_form h1
    obtain ⟨y1, q, y3, rfl⟩ := owns_form h2
    exact ⟨_, _, rfl, _, _, _, _, _, _, _, _, _, _, _, _, _, rfl, h0.symm, Or.inl ⟨rfl, rfl, rfl, rfl, rfl, rfl, rfl, rfl, owns_lenR h1, owns_lenR h2, h1, h2⟩⟩
  · exact ⟨_, _, rfl, _, _, _, _, _, _, _, _, _, _, _, _, _, rfl, rfl, Or.inr ⟨h0, rfl, rfl, rfl, rfl, rfl, rfl, rfl, rfl, rfl, rfl, rfl, rfl, rfl⟩⟩

/-- Two answers to one question are one, but for where their lists lie. -/
theorem ResV.same {p : List (List Ins)} {s : List Int} {B B' : Nat} {w w' : World} {rv rv' : Value} {c c' : Int} (h : ResV p s B w rv c) (h' : ResV p s B' w' rv' c') :
    c = c' ∧ ∃ k t a v0 v1 v2 v3 x1 x3 y1 y3 m q x1' x3' y1' y3', rv = .agg #[.int .i64 k, .int .i64 t, .int .i64 a, .slice x1 m x3, .int .i64 v0, .int .i64 v1, .int .i64 v2, .int .i64 v3, .slice y1 q y3] ∧
      rv' = .agg #[.int .i64 k, .int .i64 t, .int .i64 a, .slice x1' m x3', .int .i64 v0, .int .i64 v1, .int .i64 v2, .int .i64 v3, .slice y1' q y3'] := by
  obtain ⟨k, t, a, v0, v1, v2, v3, x1, x3, y1, y3, m, q, rfl, hc, h⟩ := h
  obtain ⟨k', t', a', v0', v1', v2', v3', x1', x3', y1', y3', m', q', rfl, hc', h'⟩ := h'
  refine ⟨hc.trans hc'.symm, ?_⟩
  rcases h with ⟨h0, rfl, rfl, rfl, rfl, rfl, rfl, rfl, rfl, rfl, _⟩ | ⟨h0, rfl, rfl, rfl, rfl, rfl, rfl, rfl, rfl, rfl, _⟩
  · rcases h' with ⟨h0', rfl, rfl, rfl, rfl, rfl, rfl, rfl, rfl, rfl, _⟩ | ⟨h0', _⟩
    · exact ⟨_, _, _, _, _, _, _, _, _, _, _, _, _, _, _, _, _, rfl, rfl⟩
    · exact absurd (hc'.trans (hc.symm.trans h0)) h0'
  · rcases h' with ⟨h0', _⟩ | ⟨h0', rfl, rfl, rfl, rfl, rfl, rfl, rfl, rfl, rfl, _⟩
    · exact absurd (hc.trans (hc'.symm.trans h0')) h0
    · exact ⟨_, _, _, _, _, _, _, _, _, _, _, _, _, _, _, _, _, rfl, rfl⟩

set_option maxHeartbeats 4000000 in
set_option maxRecDepth 100000 in
theorem asked_m (p : List (List Ins)) (s : List Int) (xv lv pv sv : Value) (w : World) (hS : ShpAt w) (hX : ProgAt w xv p) (hL : IntsAt w.heap.size w lv s) (hP : ProgAt w pv p) (hI : IntsAt w.heap.size w sv s) (hpl : p.length ≤ 1048576) (hpc : ∀ c ∈ p, c.length ≤ 1048576) :
    Calls Tryz.prog 36 #[.int .i64 0, xv, lv, pv, sv] w fun e w' => e = .returned (.bool true) ∧ w.grownBy w' none := by
  have HS := hide hS
  have HX := hide hX
  have HL := hide hL
  have HP := hide hP
  have HI := hide hI
  have HPC := hide hpc
  obtain ⟨ao, cap, rfl⟩ := hX.form
  obtain ⟨ao2, cap2, rfl⟩ := hP.form
  obtain ⟨so, sc, rfl⟩ := hL.form
  obtain ⟨so2, sc2, rfl⟩ := hI.form
  clear hS hX hL hP hI hpc
  go_enter Tryz.func36, Tryz.ntmps36
  go_wp2_with fail
  have hg0 : w.grownBy ((w.alloc (.cells #[.slice ao p.length cap] 24)).alloc (.cells #[.slice ao2 p.length cap2] 24)) none := grown_alloc (grown_alloc (grown_refl _ _))
  have hb8 : ((w.alloc (.cells #[.slice ao p.length cap] 24)).alloc (.cells #[.slice ao2 p.length cap2] 24)).cell? ⟨w.heap.size + 1, 0, none⟩ = some (.slice ao2 p.length cap2) := by
    have := heap_alloc_new (w.alloc (.cells #[.slice ao p.length cap] 24)) (.cells #[.slice ao2 p.length cap2] 24)
    simp only [World.size_alloc] at this
    simp only [World.cell?, this]
    rfl
  generalize (w.alloc (.cells #[.slice ao p.length cap] 24)).alloc (.cells #[.slice ao2 p.length cap2] 24) = w1 at hg0 hb8 ⊢
  have HG1 := hide hg0
  clear hg0
  refine (replay_m p s _ _ w1 (HS.out.pres (pres_grown HG1.out)) (HX.out.pres (pres_grown HG1.out)) ((HL.out.pres (pres_grown HG1.out)).mono HG1.out.size)).mono ?_
  intro e w2 hR
  obtain ⟨hg2, rv, c, he, hV⟩ := hR.form
  clear hR
  subst he
  have HR := hide hV
  have HG2 := hide (grown_trans HG1.out hg2)
  replace hb8 := pres_grown hg2 _ _ hb8
  obtain ⟨k, t, a, v0, v1, v2, v3, x1, x3, y1, y3, m, q, hrv, hx⟩ := hV
  clear hx
  subst hrv
  clear hg2
  go_wp2_with fail
  have hg3 : w2.grownBy (w2.alloc (.cells #[.int .i64 k, .int .i64 t, .int .i64 a, .slice x1 m x3, .int .i64 v0, .int .i64 v1, .int .i64 v2, .int .i64 v3, .slice y1 q y3] 32)) none := grown_alloc (grown_refl _ _)
  have hb3 := heap_alloc_new w2 (.cells #[.int .i64 k, .int .i64 t, .int .i64 a, .slice x1 m x3, .int .i64 v0, .int .i64 v1, .int .i64 v2, .int .i64 v3, .slice y1 q y3] 32)
  generalize w2.alloc (.cells #[.int .i64 k, .int .i64 t, .int .i64 a, .slice x1 m x3, .int .i64 v0, .int .i64 v1, .int .i64 v2, .int .i64 v3, .slice y1 q y3] 32) = w3 at hg3 hb3 ⊢
  have HG3 := hide (grown_trans HG2.out hg3)
  have HB3 := hide hb3
  have hz2 : w2.heap.size < w3.heap.size := (Array.getElem?_eq_some_iff.1 hb3).1
  clear hg3 hb3 hb8
  refine (refreplay_m p s _ _ w3 (HP.out.pres (pres_grown HG3.out)) ((HI.out.pres (pres_grown HG3.out)).mono HG3.out.size) hpl HPC.out).mono ?_
  intro e w4 hR
  obtain ⟨hg4, rv, c', he, hV⟩ := hR.form
  clear hR
  subst he
  obtain ⟨hcc, k2, t2, a2, u0, u1, u2, u3, z1, z3, z4, z5, m2, q2, z6, z7, z8, z9, e1, e2⟩ := HR.out.same hV
  clear hV
  simp only [Value.agg.injEq, Array.mk.injEq, List.cons.injEq, Value.int.injEq, Value.slice.injEq, true_and, and_true] at e1
  obtain ⟨rfl, rfl, rfl, ⟨rfl, rfl, rfl⟩, rfl, rfl, rfl, rfl, rfl, rfl, rfl⟩ := e1
  subst e2 hcc
  have HG4 := hide (grown_trans HG3.out hg4)
  have hb4 : w4.heap[w2.heap.size]? = some (.cells #[.int .i64 k, .int .i64 t, .int .i64 a, .slice x1 m x3, .int .i64 v0, .int .i64 v1, .int .i64 v2, .int .i64 v3, .slice y1 q y3] 32 (0, 0)) := by
    rw [hg4.block _ hz2 (by simp)]; exact HB3.out
  have hz4 : w2.heap.size < w4.heap.size := (Array.getElem?_eq_some_iff.1 hb4).1
  obtain ⟨r0, r1, r2, r3, r4, r5, r6, r7, r8, _⟩ := nine_cells hb4
  clear hb4 hg4 HR HB3
  have hne : w2.heap.size ≠ w4.heap.size := by omega
  go_wp2_with (go_at_call 31; refine (num_mR _ _).mono ?_; rintro e w5 ⟨rfl, hw5⟩; have hw5 := hw5.symm; subst hw5)
  go_ret
  exact ⟨rfl, grown_alloc HG4.out⟩

end Go.Proofs.YtklenjmfalljgaaGreatDoor

/- Rows of things of which some depend on one another: their layers, what may change places, the row by layers (no dump is named here). -/
namespace Go.Proofs.YtklenjmfalljgaaGreatDoor

section
variable {α : Type} (d : α → α → Bool) (th : α → Nat)

/-- The layer of x behind a past of things with their layers. -/
def layIn : List (α × Nat) → α → Nat
  | [], _ => 0
  | y :: r, x => if d y.1 x = true then max (y.2 + 1) (layIn r x) else layIn r x

/-- A row's things with their layers, behind a past. -/
def tl : List (α × Nat) → List α → List (α × Nat)
  | _, [] => []
  | past, x :: r => (x, layIn d past x) :: tl ((x, layIn d past x) :: past) r

theorem layIn_append (a b : List (α × Nat)) (x : α) : layIn d (a ++ b) x = max (layIn d a x) (layIn d b x) := by
  induction a with
  | nil => simp [layIn]
  | cons y r ih =>
    simp only [List.cons_append, layIn, ih]
    split <;> omega
theorem layIn_perm {a b : List (α × Nat)} (h : a.Perm b) (x : α) : layIn d a x = layIn d b x := by
  induction h with
  | nil => rfl
  | cons y _ ih => simp only [layIn, ih]
  | swap y z l =>
    simp only [layIn]
    split <;> split <;> omega
  | trans _ _ ih1 ih2 => rw [ih1, ih2]
theorem tl_perm {a b : List (α × Nat)} (h : a.Perm b) (xs : List α) : tl d a xs = tl d b xs := by
  induction xs generalizing a b with
  | nil => rfl
  | cons x r ih =>
    simp only [tl]
    rw [layIn_perm d h x, ih (h.cons _)]
theorem tl_append (past : List (α × Nat)) (xs ys : List α) : tl d past (xs ++ ys) = tl d past xs ++ tl d (tl d past xs ++ past) ys := by
  induction xs generalizing past with
  | nil => simp [tl]
  | cons x r ih =>
    simp only [List.cons_append, tl]
    rw [ih]
    congr 2
    exact tl_perm d (by simp) ys
theorem tl_fst (past : List (α × Nat)) (xs : List α) : (tl d past xs).map (·.1) = xs := by
  induction xs generalizing past with
  | nil => rfl
  | cons x r ih => simp only [tl, List.map_cons, ih]
theorem tl_length (past : List (α × Nat)) (xs : List α) : (tl d past xs).length = xs.length := by
  have := congrArg List.length (tl_fst d past xs); simpa using this
theorem tl_snoc (xs : List α) (x : α) : tl d [] (xs ++ [x]) = tl d [] xs ++ [(x, layIn d (tl d [] xs) x)] := by
  rw [tl_append]; simp [tl]
theorem layIn_ge {past : List (α × Nat)} {y : α × Nat} {x : α} (h : y ∈ past) (hd : d y.1 x = true) : y.2 + 1 ≤ layIn d past x := by
  induction past with
  | nil => cases h
  | cons z r ih =>
    simp only [layIn]
    rcases List.mem_cons.1 h with h | h
    · subst h; rw [if_pos hd]; omega
    · have := ih h
      split <;> omega
theorem layIn_le {past : List (α × Nat)} {x : α} {n : Nat} (h : ∀ y ∈ past, d y.1 x = true → y.2 + 1 ≤ n) : layIn d past x ≤ n := by
  induction past with
  | nil => simp [layIn]
  | cons z r ih =>
    simp only [layIn]
    have h1 := ih (fun y hy => h y (List.mem_cons_of_mem _ hy))
    split
    · have := h z (List.mem_cons_self ..) ‹_›; omega
    · exact h1

/-- Rows that come of one another by neighbours that change places and do not depend on one another. -/
def Eqv (xs ys : List α) : Prop := ∀ R : List α → List α → Prop, (∀ a, R a a) → (∀ (a : List α) (x y : α) (b : List α), d x y = false → d y x = false → R (a ++ x :: y :: b) (a ++ y :: x :: b)) → (∀ a b c, R a b → R b c → R a c) → R xs ys

variable {d}
theorem Eqv.refl (xs : List α) : Eqv d xs xs := fun _ h _ _ => h xs
theorem Eqv.swap (a : List α) (x y : α) (b : List α) (h1 : d x y = false) (h2 : d y x = false) : Eqv d (a ++ x :: y :: b) (a ++ y :: x :: b) := fun _ _ h _ => h a x y b h1 h2
theorem Eqv.trans {xs ys zs : List α} (h : Eqv d xs ys) (h' : Eqv d ys zs) : Eqv d xs zs := fun R h1 h2 h3 => h3 xs ys zs (h R h1 h2 h3) (h' R h1 h2 h3)
theorem Eqv.snoc {xs ys : List α} (h : Eqv d xs ys) (z : α) : Eqv d (xs ++ [z]) (ys ++ [z]) := by
  refine h (fun xs ys => Eqv d (xs ++ [z]) (ys ++ [z])) (fun _ => Eqv.refl _) (fun a x y b h1 h2 => ?_) (fun _ _ _ i1 i2 => i1.trans i2)
  simpa using Eqv.swap a x y (b ++ [z]) h1 h2

theorem tl_swap (a : List α) (x y : α) (b : List α) (h1 : d x y = false) (h2 : d y x = false) :
    ∃ la lx ly lb, tl d [] (a ++ x :: y :: b) = la ++ (x, lx) :: (y, ly) :: lb ∧ tl d [] (a ++ y :: x :: b) = la ++ (y, ly) :: (x, lx) :: lb ∧ la.length = a.length ∧ lb.length = b.length := by
  refine ⟨tl d [] a, layIn d (tl d [] a ++ []) x, layIn d (tl d [] a ++ []) y, tl d ((y, layIn d (tl d [] a ++ []) y) :: (x, layIn d (tl d [] a ++ []) x) :: (tl d [] a ++ [])) b, ?_, ?_, tl_length _ _ _, tl_length _ _ _⟩
  · have e : layIn d ((x, layIn d (tl d [] a ++ []) x) :: (tl d [] a ++ [])) y = layIn d (tl d [] a ++ []) y := by simp [layIn, h1]
    rw [tl_append]
    simp only [tl]
    rw [e]
  · have e : layIn d ((y, layIn d (tl d [] a ++ []) y) :: (tl d [] a ++ [])) x = layIn d (tl d [] a ++ []) x := by simp [layIn, h2]
    rw [tl_append]
    simp only [tl]
    rw [e, tl_perm d (List.Perm.swap _ _ _) b]
theorem Eqv.labels {xs ys : List α} (h : Eqv d xs ys) : (tl d [] xs).Perm (tl d [] ys) := by
  refine h (fun xs ys => (tl d [] xs).Perm (tl d [] ys)) (fun _ => List.Perm.refl _) (fun a x y b h1 h2 => ?_) (fun _ _ _ i1 i2 => i1.trans i2)
  obtain ⟨la, lx, ly, lb, e1, e2, _⟩ := tl_swap a x y b h1 h2
  show (tl d [] (a ++ x :: y :: b)).Perm (tl d [] (a ++ y :: x :: b))
  rw [e1, e2]
  exact (List.Perm.swap _ _ _).append_left la

/-- By layers, in a layer by rising threads. -/
def leK (x y : α × Nat) : Prop := x.2 < y.2 ∨ (x.2 = y.2 ∧ th x.1 ≤ th y.1)
theorem leK_trans {x y z : α × Nat} (h1 : leK th x y) (h2 : leK th y z) : leK th x z := by unfold leK at *; omega
theorem leK_total (x y : α × Nat) : leK th x y ∨ leK th y x := by unfold leK; omega

/-- Every row comes to one by layers. -/
theorem sorted_of (hs : ∀ x y, d x y = d y x) (xs : List α) : ∃ ys, Eqv d xs ys ∧ (tl d [] ys).Pairwise (leK th) := by
  have ins : ∀ (n : Nat) (ys : List α) (x : α), ys.length = n → (tl d [] ys).Pairwise (leK th) → ∃ us, Eqv d (ys ++ [x]) us ∧ (tl d [] us).Pairwise (leK th) := by
    intro n
    induction n with
    | zero =>
      intro ys x hl _
      have : ys = [] := List.length_eq_zero_iff.1 hl
      subst this
      exact ⟨[x], Eqv.refl _, by simp [tl]⟩
    | succ n ih =>
      intro ys x hl hp
      obtain ⟨zs, z, rfl⟩ : ∃ zs z, ys = zs ++ [z] := ⟨ys.dropLast, ys.getLast (by intro e; simp [e] at hl), (List.dropLast_concat_getLast _).symm⟩
      have hp1 := hp
      rw [tl_snoc, List.pairwise_append] at hp1
      obtain ⟨hz, _, hlast⟩ := hp1
      by_cases hk : leK th (z, layIn d (tl d [] zs) z) (x, layIn d (tl d [] (zs ++ [z])) x)
      · refine ⟨_, Eqv.refl _, ?_⟩
        rw [tl_snoc, List.pairwise_append]
        refine ⟨hp, by simp, fun u hu v hv => ?_⟩
        simp only [List.mem_singleton] at hv
        subst hv
        rw [tl_snoc] at hu
        rcases List.mem_append.1 hu with hu | hu
        · exact leK_trans th (hlast u hu _ (by simp)) hk
        · simp only [List.mem_singleton] at hu
          subst hu
          exact hk
      · have hdx : d z x = false := by
          cases hd : d z x with
          | false => rfl
          | true =>
            exfalso
            apply hk
            left
            have := layIn_ge d (past := tl d [] (zs ++ [z])) (y := (z, layIn d (tl d [] zs) z)) (x := x) (by rw [tl_snoc]; simp) hd
            simp only at this ⊢
            omega
        have hxd : d x z = false := by rw [hs]; exact hdx
        obtain ⟨us, hu1, hu2⟩ := ih zs x (by simpa using hl) hz
        have hle : layIn d (tl d [] (zs ++ [z])) x = layIn d (tl d [] zs) x := by
          rw [tl_snoc, layIn_append]; simp [layIn, hdx]
        have hzu : layIn d (tl d [] us) z = layIn d (tl d [] zs) z := by
          rw [← layIn_perm d hu1.labels, tl_snoc, layIn_append]; simp [layIn, hxd]
        refine ⟨us ++ [z], ?_, ?_⟩
        · have e1 : Eqv d (zs ++ [z] ++ [x]) (zs ++ [x] ++ [z]) := by simpa using Eqv.swap zs z x [] hdx hxd
          exact e1.trans (hu1.snoc z)
        · rw [tl_snoc, hzu, List.pairwise_append]
          refine ⟨hu2, by simp, fun u hu v hv => ?_⟩
          simp only [List.mem_singleton] at hv
          subst hv
          have hm := hu1.labels.mem_iff.2 hu
          rw [tl_snoc] at hm
          rcases List.mem_append.1 hm with hm | hm
          · exact hlast u hm _ (by simp)
          · simp only [List.mem_singleton] at hm
            subst hm
            rw [hle] at hk
            exact (leK_total th _ _).resolve_left hk
  induction hn : xs.length generalizing xs with
  | zero =>
    have : xs = [] := List.length_eq_zero_iff.1 hn
    subst this
    exact ⟨[], Eqv.refl _, by simp [tl]⟩
  | succ n ih =>
    obtain ⟨zs, z, rfl⟩ : ∃ zs z, xs = zs ++ [z] := ⟨xs.dropLast, xs.getLast (by intro e; simp [e] at hn), (List.dropLast_concat_getLast _).symm⟩
    obtain ⟨ys, h1, h2⟩ := ih zs (by simpa using hn)
    obtain ⟨us, h3, h4⟩ := ins ys.length ys z rfl h2
    exact ⟨us, (h1.snoc z).trans h3, h4⟩
end

/-- Two sorted rows of the same pairs are one. -/
theorem sorted_one : ∀ {a b : List (Nat × Nat)}, a.Perm b → a.Pairwise (fun x y => x.1 < y.1 ∨ (x.1 = y.1 ∧ x.2 ≤ y.2)) → b.Pairwise (fun x y => x.1 < y.1 ∨ (x.1 = y.1 ∧ x.2 ≤ y.2)) → a = b
  | [], b, h, _, _ => (List.nil_perm.1 h).symm
  | x :: a, [], h, _, _ => absurd h.length_eq (by simp)
  | x :: a, y :: b, h, h1, h2 => by
    rw [List.pairwise_cons] at h1 h2
    have e : x = y := by
      have hx : x ∈ y :: b := h.mem_iff.1 (List.mem_cons_self ..)
      have hy : y ∈ x :: a := h.mem_iff.2 (List.mem_cons_self ..)
      rcases List.mem_cons.1 hx with hx | hx
      · exact hx
      · rcases List.mem_cons.1 hy with hy | hy
        · exact hy.symm
        · have k1 := h1.1 y hy
          have k2 := h2.1 x hx
          obtain ⟨x1, x2⟩ := x
          obtain ⟨y1, y2⟩ := y
          simp only at k1 k2
          have e1 : x1 = y1 := by omega
          have e2 : x2 = y2 := by omega
          rw [e1, e2]
    subst e
    rw [sorted_one (List.perm_cons _ |>.1 h) h1.2 h2.2]

end Go.Proofs.YtklenjmfalljgaaGreatDoor
