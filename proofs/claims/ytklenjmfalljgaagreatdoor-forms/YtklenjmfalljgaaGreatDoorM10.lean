/- The texts Rfd Rfe Rff. -/
import Derived.Test.YtklenjmfalljgaaGreatDoorM03
import Derived.Test.YtklenjmfalljgaaGreatDoorM09
import Derived.Deep.AppendLies

/- The reference's run in memory; the beginning of its step. -/
namespace Go.Proofs.YtklenjmfalljgaaGreatDoor
open Go.RowKit
attribute [local go_sem] Go.World.cell?_alloc_some

def ownR (s : St) (l : Nat) : Int := if s.held l = true then s.own l else -1
def atF (n : Nat) (s : St) : List Value := (List.range n).map fun t => .int .i64 (s.next t)

def runC (ps : Value) (ab rb n : Nat) (st : Value) (s : St) (k th a : Int) : Array Value :=
  #[ps, .slice (some ⟨ab, 0, none⟩) n n, .slice (some ⟨rb, 0, none⟩) n n, .int .i64 (s.vars 0), .int .i64 (s.vars 1), .int .i64 (s.vars 2), .int .i64 (s.vars 3),
    .int .i64 (ownR s 0), .int .i64 (ownR s 1), .int .i64 (ownR s 2), st, .int .i64 k, .int .i64 th, .int .i64 a]

/-- The reference's run, in memory. -/
structure RunAt (w0 w : World) (b ab rb n : Nat) (ps st : Value) (s : St) (acc : List (Int × Int)) (k th a : Int) : Prop where
  main : w.heap[b]? = some (.cells (runC ps ab rb n st s k th a) 126 (0, 0))
  ats : ∃ ty, w.heap[ab]? = some (.cells (atF n s).toArray ty (0, 0))
  regs : w.heap[rb]? = some (.cells (regsF n s).toArray 29 (0, 0))
  row : w.ownsRow (b + 1) 84 2 st acc.length (flatS acc)
  frame : w0.grownBy w none
  ab0 : w0.heap.size ≤ ab
  rb0 : w0.heap.size ≤ rb
  abb : ab < b
  rbb : rb < b
  ne : ab ≠ rb

theorem lt_n4 {n t : Nat} (hn : n ≤ 4) (h : t < n) : (n = 1 ∧ t = 0) ∨ (n = 2 ∧ t = 0) ∨ (n = 2 ∧ t = 1) ∨ (n = 3 ∧ t = 0) ∨ (n = 3 ∧ t = 1) ∨ (n = 3 ∧ t = 2) ∨ (n = 4 ∧ t = 0) ∨ (n = 4 ∧ t = 1) ∨ (n = 4 ∧ t = 2) ∨ (n = 4 ∧ t = 3) := by omega

theorem atF_set (s : St) {n t : Nat} (hn : n ≤ 4) (h : t < n) (v : Int) : (atF n s).toArray.setIfInBounds t (.int .i64 v) = (atF n (s.setNext t v)).toArray := by
  rcases lt_n4 hn h with ⟨rfl, rfl⟩ | ⟨rfl, rfl⟩ | ⟨rfl, rfl⟩ | ⟨rfl, rfl⟩ | ⟨rfl, rfl⟩ | ⟨rfl, rfl⟩ | ⟨rfl, rfl⟩ | ⟨rfl, rfl⟩ | ⟨rfl, rfl⟩ | ⟨rfl, rfl⟩ <;> rfl
theorem regsF_set (s : St) {n t r : Nat} (hn : n ≤ 4) (h : t < n) (hr : r < 4) (v : Int) : (regsF n s).toArray.setIfInBounds (t * 4 + r) (.int .i64 v) = (regsF n (s.setReg t r v)).toArray := by
  rcases lt_n4 hn h with ⟨rfl, rfl⟩ | ⟨rfl, rfl⟩ | ⟨rfl, rfl⟩ | ⟨rfl, rfl⟩ | ⟨rfl, rfl⟩ | ⟨rfl, rfl⟩ | ⟨rfl, rfl⟩ | ⟨rfl, rfl⟩ | ⟨rfl, rfl⟩ | ⟨rfl, rfl⟩ <;> rcases lt4 hr with rfl | rfl | rfl | rfl <;> rfl

theorem RunAt.cell {w0 w : World} {b ab rb n : Nat} {ps st : Value} {s : St} {acc : List (Int × Int)} {k th a : Int} (h : RunAt w0 w b ab rb n ps st s acc k th a) (j : Nat) :
    w.cell? ⟨b, j, none⟩ = (runC ps ab rb n st s k th a)[j]? ∧ w.frozen? ⟨b, j, none⟩ = false := by
  simp [World.cell?, World.frozen?, h.main]
theorem RunAt.at_ {w0 w : World} {b ab rb n : Nat} {ps st : Value} {s : St} {acc : List (Int × Int)} {k th a : Int} (h : RunAt w0 w b ab rb n ps st s acc k th a) {t : Nat} (ht : t < n) :
    w.cell? ⟨ab, t, none⟩ = some (.int .i64 (s.next t)) ∧ w.frozen? ⟨ab, t, none⟩ = false := by
  obtain ⟨ty, h⟩ := h.ats
  constructor
  · simp [World.cell?, h, atF, ht]
  · simp [World.frozen?, h]
theorem RunAt.reg {w0 w : World} {b ab rb n : Nat} {ps st : Value} {s : St} {acc : List (Int × Int)} {k th a : Int} (h : RunAt w0 w b ab rb n ps st s acc k th a) (hn : n ≤ 4) {t r : Nat} (ht : t < n) (hr : r < 4) :
    w.cell? ⟨rb, t * 4 + r, none⟩ = some (.int .i64 (s.regs t r)) ∧ w.frozen? ⟨rb, t * 4 + r, none⟩ = false := by
  have h := h.regs
  constructor
  · simp only [World.cell?, h]
    rcases lt_n4 hn ht with ⟨rfl, rfl⟩ | ⟨rfl, rfl⟩ | ⟨rfl, rfl⟩ | ⟨rfl, rfl⟩ | ⟨rfl, rfl⟩ | ⟨rfl, rfl⟩ | ⟨rfl, rfl⟩ | ⟨rfl, rfl⟩ | ⟨rfl, rfl⟩ | ⟨rfl, rfl⟩ <;> rcases lt4 hr with rfl | rfl | rfl | rfl <;> rfl
  · simp [World.frozen?, h]

/-- Growth that leaves the run's blocks. -/
theorem RunAt.grown {w0 w w' : World} {b ab rb n : Nat} {ps st : Value} {s : St} {acc : List (Int × Int)} {k th a : Int} (h : RunAt w0 w b ab rb n ps st s acc k th a) (hg : w.grownBy w' none) : RunAt w0 w' b ab rb n ps st s acc k th a := by
  obtain ⟨t1, h1⟩ := h.ats
  have h2 := h.regs
  have B : ∀ i o, w.heap[i]? = some o → w'.heap[i]? = some o := fun i o e => by rw [hg.block i (Array.getElem?_eq_some_iff.1 e).1 (by simp)]; exact e
  exact ⟨B _ _ h.main, ⟨t1, B _ _ h1⟩, B _ _ h2, owns_grown h.row hg (fun _ e => by cases e), grown_trans h.frame hg, h.ab0, h.rb0, h.abb, h.rbb, h.ne⟩

theorem RunAt.setNext {w0 w : World} {b ab rb n : Nat} {ps st : Value} {s : St} {acc : List (Int × Int)} {k th a : Int} (h : RunAt w0 w b ab rb n ps st s acc k th a) (hn : n ≤ 4) {t : Nat} (ht : t < n) (v : Int) :
    RunAt w0 (w.setCell ⟨ab, t, none⟩ (.int .i64 v)) b ab rb n ps st (s.setNext t v) acc k th a := by
  obtain ⟨t1, h1⟩ := h.ats
  have h2 := h.regs
  have := h.abb
  refine ⟨?_, ⟨t1, ?_⟩, ?_, ownsRow_setCell_below h.row (by simp; omega) _, grown_setNew h.frame h.ab0, h.ab0, h.rb0, h.abb, h.rbb, h.ne⟩
  · rw [Below.heap_setCell w _ _ b (by simp; omega)]; exact h.main
  · rw [heap_setCell_same w ab t _ _ _ h1, atF_set s hn ht]
  · rw [Below.heap_setCell w _ _ rb (by simp; exact fun e => h.ne e.symm)]; exact h2

theorem RunAt.setReg {w0 w : World} {b ab rb n : Nat} {ps st : Value} {s : St} {acc : List (Int × Int)} {k th a : Int} (h : RunAt w0 w b ab rb n ps st s acc k th a) (hn : n ≤ 4) {t r : Nat} (ht : t < n) (hr : r < 4) (v : Int) :
    RunAt w0 (w.setCell ⟨rb, t * 4 + r, none⟩ (.int .i64 v)) b ab rb n ps st (s.setReg t r v) acc k th a := by
  obtain ⟨t1, h1⟩ := h.ats
  have h2 := h.regs
  have := h.rbb
  refine ⟨?_, ⟨t1, ?_⟩, ?_, ownsRow_setCell_below h.row (by simp; omega) _, grown_setNew h.frame h.rb0, h.ab0, h.rb0, h.abb, h.rbb, h.ne⟩
  · rw [Below.heap_setCell w _ _ b (by simp; omega)]; exact h.main
  · rw [Below.heap_setCell w _ _ ab (by simp; exact h.ne)]; exact h1
  · rw [heap_setCell_same w rb _ _ _ _ h2, regsF_set s hn ht hr]

/-- A cell of the run's own block is set. -/
theorem RunAt.setMain {w0 w : World} {b ab rb n : Nat} {ps st st' : Value} {s s' : St} {acc acc' : List (Int × Int)} {k th a k' th' a' : Int} (h : RunAt w0 w b ab rb n ps st s acc k th a) {j : Nat} {v : Value}
    (e : (runC ps ab rb n st s k th a).setIfInBounds j v = runC ps ab rb n st' s' k' th' a') (e1 : s'.next = s.next) (e2 : s'.regs = s.regs) (hr : w.ownsRow (b + 1) 84 2 st' acc'.length (flatS acc')) :
    RunAt w0 (w.setCell ⟨b, j, none⟩ v) b ab rb n ps st' s' acc' k' th' a' := by
  obtain ⟨t1, h1⟩ := h.ats
  have h2 := h.regs
  have := h.abb
  have := h.rbb
  refine ⟨?_, ⟨t1, ?_⟩, ?_, ownsRow_setCell_below hr (by simp) _, grown_setNew h.frame (by have := h.ab0; omega), h.ab0, h.rb0, h.abb, h.rbb, h.ne⟩
  · rw [heap_setCell_same w b j _ _ _ h.main, e]
  · rw [Below.heap_setCell w _ _ ab (by simp; omega), h1]; simp [atF, e1]
  · rw [Below.heap_setCell w _ _ rb (by simp; omega), h2]; simp [regsF, e2]

theorem RunAt.setVar {w0 w : World} {b ab rb n : Nat} {ps st : Value} {s : St} {acc : List (Int × Int)} {k th a : Int} (h : RunAt w0 w b ab rb n ps st s acc k th a) {x : Nat} (hx : x < 4) (v : Int) :
    RunAt w0 (w.setCell ⟨b, 3 + x, none⟩ (.int .i64 v)) b ab rb n ps st (s.setVar x v) acc k th a := by
  refine h.setMain ?_ rfl rfl h.row
  rcases lt4 hx with rfl | rfl | rfl | rfl <;> rfl
theorem RunAt.setLock {w0 w : World} {b ab rb n : Nat} {ps st : Value} {s : St} {acc : List (Int × Int)} {k th a : Int} (h : RunAt w0 w b ab rb n ps st s acc k th a) {l : Nat} (hl : l < 3) (hd : Bool) (o : Int) :
    RunAt w0 (w.setCell ⟨b, 7 + l, none⟩ (.int .i64 (if hd = true then o else -1))) b ab rb n ps st (s.setLock l hd o) acc k th a := by
  refine h.setMain ?_ rfl rfl h.row
  rcases lt3 hl with rfl | rfl | rfl <;> rfl

theorem RunAt.like {w0 w w' : World} {b ab rb n : Nat} {ps st : Value} {s : St} {acc : List (Int × Int)} {k th a : Int} (h : RunAt w0 w b ab rb n ps st s acc k th a) (hl : Like w' w) : RunAt w0 w' b ab rb n ps st s acc k th a := h.grown (grown_like (grown_refl _ _) hl)
theorem RunAt.own {w0 w : World} {b ab rb n : Nat} {ps st : Value} {s : St} {acc : List (Int × Int)} {k th a : Int} (h : RunAt w0 w b ab rb n ps st s acc k th a) {l : Nat} (hl : l < 3) : w.cell? ⟨b, 7 + l, none⟩ = some (.int .i64 (ownR s l)) := by
  rw [(h.cell _).1]; rcases lt3 hl with rfl | rfl | rfl <;> rfl
theorem RunAt.var {w0 w : World} {b ab rb n : Nat} {ps st : Value} {s : St} {acc : List (Int × Int)} {k th a : Int} (h : RunAt w0 w b ab rb n ps st s acc k th a) {l : Nat} (hl : l < 4) : w.cell? ⟨b, 3 + l, none⟩ = some (.int .i64 (s.vars l)) := by
  rw [(h.cell _).1]; rcases lt4 hl with rfl | rfl | rfl | rfl <;> rfl
theorem setReg_self (s : St) (t r : Nat) : s.setReg t r (s.regs t r) = s := by
  obtain ⟨a, b, c, d, e⟩ := s
  simp only [St.setReg, St.mk.injEq, true_and, and_true]
  funext t' r'
  by_cases h : t' = t ∧ r' = r
  · simp [h.1, h.2]
  · simp [h]

theorem owns_lt_size {w : World} {base : Nat} {e : TypeId} {size : Nat} {v : Value} {n : Nat} {xs : List Value} (h : w.ownsRow base e size v n xs) : v.ownBlock ≠ some w.heap.size := by
  rcases h.2 with ⟨e1, _⟩ | ⟨g', cap', cur, hv, hb, hh, _⟩
  · rw [e1]; simp [Value.ownBlock]
  · rw [hv]
    have := (Array.getElem?_eq_some_iff.1 hh).1
    simp [Value.ownBlock]
    omega

theorem RunAt.push {w0 w w5 : World} {b ab rb n : Nat} {ps st nst : Value} {s : St} {acc : List (Int × Int)} {k th a : Int} {x : Int × Int} (h : RunAt w0 w b ab rb n ps st s acc k th a)
    (hg : w.grownBy w5 st.ownBlock) (hown : w5.ownsRow (b + 1) 84 2 nst (acc.length + 1) (flatS acc ++ [.int .i64 x.1, .int .i64 x.2])) :
    RunAt w0 (w5.setCell ⟨b, 10, none⟩ nst) b ab rb n ps nst s (acc ++ [x]) k th a := by
  obtain ⟨t1, h1⟩ := h.ats
  have h2 := h.regs
  have e1 := h.abb
  have e2 := h.rbb
  have e3 := h.ab0
  have hob := owns_block h.row
  have B : ∀ i o, i ≤ b → w.heap[i]? = some o → w5.heap[i]? = some o := fun i o hi e => by
    rw [hg.block i (Array.getElem?_eq_some_iff.1 e).1 (fun e => by have := hob _ e.symm; omega)]; exact e
  refine ⟨?_, ⟨t1, ?_⟩, ?_, ownsRow_setCell_below ?_ (by simp) _, grown_setNew (grown_row h.frame hg (fun q e => by have := hob q e; omega)) (by omega), h.ab0, h.rb0, h.abb, h.rbb, h.ne⟩
  · rw [heap_setCell_same w5 b 10 _ _ _ (B _ _ (Nat.le_refl _) h.main)]; rfl
  · rw [Below.heap_setCell w5 _ _ ab (by simp; omega)]; exact B _ _ (by omega) h1
  · rw [Below.heap_setCell w5 _ _ rb (by simp; omega)]; exact B _ _ (by omega) h2
  · rw [flatS_snoc, List.length_append]; exact hown

set_option maxHeartbeats 4000000 in
set_option maxRecDepth 100000 in
theorem rstep_m (w0 w : World) (b ab rb n cap g o t len c h ho kk : Nat) (st : Value) (s : St) (acc : List (Int × Int)) (k th a : Int) (i : Ins) (hn : n ≤ 4) (ht : t < n) (hlen : len ≤ 16) (hk : kk < len) (hacc : acc.length < 1048576)
    (hR : RunAt w0 w b ab rb n (.slice (some ⟨g, o, none⟩) n cap) st s acc k th a) (hnx : s.next t = kk)
    (hr : w.cell? ⟨g, o + t, none⟩ = some (.slice (some ⟨h, ho, none⟩) len c))
    (y1 : w.cell? ⟨h, ho + kk * 4, none⟩ = some (.int .i64 i.op)) (y2 : w.cell? ⟨h, ho + kk * 4 + 1, none⟩ = some (.int .i64 i.a))
    (y3 : w.cell? ⟨h, ho + kk * 4 + 2, none⟩ = some (.int .i64 i.b)) (y4 : w.cell? ⟨h, ho + kk * 4 + 3, none⟩ = some (.int .i64 i.n)) (hv : vIns i len = true) (s' : St) (hs' : s' = s.setNext t (kk + 1)) (acc' : List (Int × Int)) (ha' : acc' = acc ++ [((t : Int), (kk : Int))]) :
    Calls Tryz.prog 81 #[.pointer (some ⟨b, 0, none⟩), .int .i64 t] w fun e w' => ∃ st', e = .returned (.bool (act t i s').1) ∧
      RunAt w0 w' b ab rb n (.slice (some ⟨g, o, none⟩) n cap) st' (act t i s').2 acc' k th a := by
  have HS := hide hs'
  have HAC := hide ha'
  clear hs' ha'
  obtain ⟨i0, hi0, hz0, hz1, hz2⟩ := info_parts info_step
  have HV := hide (vIns_say hv)
  clear hv
  obtain ⟨op, ia, ib, im⟩ := i
  simp only at *
  have h1 : (0 : Int) ≤ (t : Int) := by omega
  have h3 : (t : Int) < n := by omega
  have h4 : (0 : Int) ≤ (kk : Int) := by omega
  have h5 : (kk : Int) < len := by omega
  have p0 : w.cell? ⟨b, 0, none⟩ = some (.slice (some ⟨g, o, none⟩) n cap) := (hR.cell 0).1
  have p1 : w.cell? ⟨b, 1, none⟩ = some (.slice (some ⟨ab, 0, none⟩) n n) := (hR.cell 1).1
  have a1 : w.cell? ⟨ab, t, none⟩ = some (.int .i64 kk) := by rw [(hR.at_ ht).1, hnx]
  have HR := hide hR
  have HNX := hide hnx
  clear hR hnx
  have n1 := World.new_ne w _ p0
  have n2 := World.new_ne w _ hr
  have n3 := World.new_ne w _ a1
  have n4 := World.new_ne w _ y1
  simp only at n1 n2 n3 n4
  have m1 := Ne.symm n1
  have m2 := Ne.symm n2
  have m3 := Ne.symm n3
  have m4 := Ne.symm n4
  go_enter Tryz.func81, Tryz.ntmps81
  go_wp2
  go_region
  go_upto_region 2 with fail
  have hgI : w.grownBy (w.alloc (.cells #[.int .i64 op, .int .i64 ia, .int .i64 ib, .int .i64 im] 74)).drew none := grown_drew (grown_alloc (grown_refl _ _))
  have hbI : (w.alloc (.cells #[.int .i64 op, .int .i64 ia, .int .i64 ib, .int .i64 im] 74)).drew.heap[w.heap.size]? = some (.cells #[.int .i64 op, .int .i64 ia, .int .i64 ib, .int .i64 im] 74 (0, 0)) := heap_alloc_new w _
  generalize (w.alloc (.cells #[.int .i64 op, .int .i64 ia, .int .i64 ib, .int .i64 im] 74)).drew = w2 at hgI hbI ⊢
  have HR2 := hide (HR.out.grown hgI)
  have hbw : b < w.heap.size := (Array.getElem?_eq_some_iff.1 HR.out.main).1
  have hw2 : w.heap.size < w2.heap.size := (Array.getElem?_eq_some_iff.1 hbI).1
  have HBI := hide hbI
  have HNB : Hid (st.ownBlock ≠ some w.heap.size) := owns_lt_size HR.out.row
  clear hgI hbI p0 p1 a1 hr y1 y2 y3 y4 n1 n2 n3 n4 m1 m2 m3 m4 HR
  obtain ⟨s1, s2, s3, rfl⟩ := owns_form HR2.out.row
  have q1 : w2.cell? ⟨b, 10, none⟩ = some (.slice s1 s2 s3) := (HR2.out.cell 10).1
  have q2 : w2.cell? ⟨b, 1, none⟩ = some (.slice (some ⟨ab, 0, none⟩) n n) := (HR2.out.cell 1).1
  have q3 : w2.cell? ⟨ab, t, none⟩ = some (.int .i64 kk) := by rw [(HR2.out.at_ ht).1, HNX.out]
  refine wp_region_head (fun u => u.cell? ⟨b, 10, none⟩ = some (.slice s1 s2 s3) ∧ u.cell? ⟨b, 1, none⟩ = some (.slice (some ⟨ab, 0, none⟩) n n) ∧ u.cell? ⟨ab, t, none⟩ = some (.int .i64 kk)) 18 (by kernel_rfl) (by kernel_rfl) ?_ ?_
  · exact ⟨q1, q2, q3⟩
  intro hHeld
  refine wpHead_take (i := 0) (v := ?vv0) rfl (by kernel_rfl) (fun _ _ _ h => h) (Or.inl ⟨by rfl, ?hy0⟩) (by assumption) ?rest0
  case hy0 => (intro u hu; obtain ⟨g1, g2, g3⟩ := hu; go_simp; try with_reducible rfl)
  simp only [Act.put, List.setIfInBounds_toArray]
  refine wpHead_take (i := 1) (v := ?vv1) rfl (by kernel_rfl) (fun _ _ _ h => h) (Or.inl ⟨by rfl, ?hy1⟩) (by assumption) ?rest1
  case hy1 => (intro u hu; obtain ⟨g1, g2, g3⟩ := hu; go_simp; try with_reducible rfl)
  simp only [Act.put]
  refine wpHead_take (i := 2) (v := ?vv2) rfl (by kernel_rfl) (fun _ _ _ h => h) (Or.inl ⟨by rfl, ?hy2⟩) (by assumption) ?rest2
  case hy2 => (intro u hu; obtain ⟨g1, g2, g3⟩ := hu; go_simp; try with_reducible rfl)
  simp only [Act.put]
  refine wpHead_take (i := 3) (v := ?vv3) rfl (by kernel_rfl) (fun _ _ _ h => h) (Or.inl ⟨by rfl, ?hy3⟩) (by assumption) ?rest3
  case hy3 => (intro u hu; obtain ⟨g1, g2, g3⟩ := hu; go_simp; try with_reducible rfl)
  simp only [Act.put]
  refine wpHead_take (i := 4) (v := ?vv4) rfl (by kernel_rfl) (fun _ _ _ h => h) (Or.inl ⟨by rfl, ?hy4⟩) (by assumption) ?rest4
  case hy4 => (intro u hu; obtain ⟨g1, g2, g3⟩ := hu; go_simp; try with_reducible rfl)
  simp only [Act.put]
  refine wpHead_take (i := 5) (v := ?vv5) rfl (by kernel_rfl) (fun _ _ _ h => h) (Or.inl ⟨by rfl, ?hy5⟩) (by assumption) ?rest5
  case hy5 => (intro u hu; obtain ⟨g1, g2, g3⟩ := hu; go_simp; try with_reducible rfl)
  simp only [Act.put]
  refine wpHead_take (i := 6) (v := ?vv6) rfl (by kernel_rfl) (fun _ _ _ h => h) (Or.inl ⟨by rfl, ?hy6⟩) (by assumption) ?rest6
  case hy6 => (intro u hu; obtain ⟨g1, g2, g3⟩ := hu; go_simp; try with_reducible rfl)
  simp only [Act.put]
  refine wpHead_take (i := 7) (v := ?vv7) rfl (by kernel_rfl) (fun _ _ _ h => h) (Or.inl ⟨by rfl, ?hy7⟩) (by assumption) ?rest7
  case hy7 => (intro u hu; obtain ⟨g1, g2, g3⟩ := hu; go_simp; try with_reducible rfl)
  simp only [Act.put]
  refine wpHead_take (i := 8) (v := ?vv8) rfl (by kernel_rfl) (fun _ _ _ h => h) (Or.inl ⟨by rfl, ?hy8⟩) (by assumption) ?rest8
  case hy8 => (intro u hu; obtain ⟨g1, g2, g3⟩ := hu; go_simp; try with_reducible rfl)
  simp only [Act.put]
  refine wpHead_take (i := 9) (v := ?vv9) rfl (by kernel_rfl) (fun _ _ _ h => h) (Or.inl ⟨by rfl, ?hy9⟩) (by assumption) ?rest9
  case hy9 => (intro u hu; obtain ⟨g1, g2, g3⟩ := hu; go_simp; try with_reducible rfl)
  simp only [Act.put]
  refine wpHead_take (i := 10) (v := ?vv10) rfl (by kernel_rfl) (fun _ _ _ h => h) (Or.inl ⟨by rfl, ?hy10⟩) (by assumption) ?rest10
  case hy10 => (intro u hu; obtain ⟨g1, g2, g3⟩ := hu; go_simp; try with_reducible rfl)
  simp only [Act.put]
  refine wpHead_take (i := 11) (v := ?vv11) rfl (by kernel_rfl) (fun _ _ _ h => h) (Or.inl ⟨by rfl, ?hy11⟩) (by assumption) ?rest11
  case hy11 => (intro u hu; obtain ⟨g1, g2, g3⟩ := hu; go_simp; try with_reducible rfl)
  simp only [Act.put]
  refine wpHead_take (i := 12) (v := ?vv12) rfl (by kernel_rfl) (fun _ _ _ h => h) (Or.inl ⟨by rfl, ?hy12⟩) (by assumption) ?rest12
  case hy12 => (intro u hu; obtain ⟨g1, g2, g3⟩ := hu; go_simp; try with_reducible rfl)
  simp only [Act.put]
  refine wpHead_take (i := 13) (v := ?vv13) rfl (by kernel_rfl) (fun _ _ _ h => h) (Or.inl ⟨by rfl, ?hy13⟩) (by assumption) ?rest13
  case hy13 => (intro u hu; obtain ⟨g1, g2, g3⟩ := hu; go_simp; try with_reducible rfl)
  simp only [Act.put]
  refine wpHead_alone (i := 14) rfl (by kernel_rfl) (by kernel_rfl) (by rfl) ?_
  intro K15 hK15
  have HK15 := hide hK15
  clear hK15
  go_simp
  have hgA : w2.grownBy ((w2.alloc (.cells #[.int .i64 t, .int .i64 kk] 84)).drew) none := grown_drew (grown_alloc (grown_refl _ _))
  have hS5 : (w2.alloc (.cells #[.int .i64 t, .int .i64 kk] 84)).drew.cell? ⟨b, 10, none⟩ = some (.slice s1 s2 s3) ∧ (w2.alloc (.cells #[.int .i64 t, .int .i64 kk] 84)).drew.cell? ⟨b, 1, none⟩ = some (.slice (some ⟨ab, 0, none⟩) n n) ∧ (w2.alloc (.cells #[.int .i64 t, .int .i64 kk] 84)).drew.cell? ⟨ab, t, none⟩ = some (.int .i64 kk) :=
    ⟨pres_grown hgA _ _ q1, pres_grown hgA _ _ q2, pres_grown hgA _ _ q3⟩
  refine HK15.out _ _ hS5 ?_
  clear HK15
  have HGA := hide hgA
  clear hgA
  have h63 : acc.length + 1 ≤ maxLen := by unfold maxLen; omega
  have hby : (acc.length + 1) * 16 ≤ 140737488355328 := by omega
  refine wpHead_alone (i := 15) rfl (by kernel_rfl) (by kernel_rfl) (by rfl) ?_
  intro K16 hK16
  have HK16 := hide hK16
  clear hK16
  refine wp_append_lies _ (.tmp 30) (.tmp 40) 28 (by rfl) (b + 1) 84 i0 _ 2 16 Tryz.underlying28 hi0 hz0 hz1 hz2 rfl (by omega) (.slice s1 s2 s3) acc.length (flatS acc) (by rfl) (owns_grown HR2.out.row HGA.out (fun _ e => by cases e)) ⟨w2.heap.size, 0, none⟩ 1 1 [.int .i64 t, .int .i64 kk] (by rfl) (by rfl) (World.news_of_block (cs := #[.int .i64 t, .int .i64 kk]) (t := 84) (fr := (0, 0)) (heap_alloc_new w2 _)) (by simp [Value.oneCell']) (by omega) h63 hby (by simp; omega) (w2.heap.size + 1) (by simp) ?_
  intro g2 cap2 w5 hown5 hgrow hat hlt5
  have hob : ∀ q, (Value.slice s1 s2 s3).ownBlock = some q → b + 1 ≤ q := fun q e => owns_block HR2.out.row q e
  have hS6 : w5.cell? ⟨b, 10, none⟩ = some (.slice s1 s2 s3) ∧ w5.cell? ⟨b, 1, none⟩ = some (.slice (some ⟨ab, 0, none⟩) n n) ∧ w5.cell? ⟨ab, t, none⟩ = some (.int .i64 kk) := by
    obtain ⟨z1, z2, z3⟩ := hS5
    have := HR2.out.abb
    refine ⟨?_, ?_, ?_⟩
    · rw [hgrow.cell_far _ (World.block_lt_of_cell? _ _ z1) (fun e => by have := hob _ e.symm; simp only at this; omega)]; exact z1
    · rw [hgrow.cell_far _ (World.block_lt_of_cell? _ _ z2) (fun e => by have := hob _ e.symm; simp only at this; omega)]; exact z2
    · rw [hgrow.cell_far _ (World.block_lt_of_cell? _ _ z3) (fun e => by have := hob _ e.symm; simp only at this; omega)]; exact z3
  have HR6 : Hid (RunAt w0 (w5.setCell ⟨b, 10, none⟩ (.slice (some ⟨g2, 0, none⟩) (acc.length + 1) cap2)) b ab rb n (.slice (some ⟨g, o, none⟩) n cap) (.slice (some ⟨g2, 0, none⟩) (acc.length + 1) cap2) s (acc ++ [((t : Int), (kk : Int))]) k th a) :=
    RunAt.push HR2.out (grown_trans (grown_none HGA.out) hgrow) hown5
  have HBI6 : Hid ((w5.setCell ⟨b, 10, none⟩ (.slice (some ⟨g2, 0, none⟩) (acc.length + 1) cap2)).heap[w.heap.size]? = some (.cells #[.int .i64 op, .int .i64 ia, .int .i64 ib, .int .i64 im] 74 (0, 0))) := by
    unfold Hid
    have hnb : (Value.slice s1 s2 s3).ownBlock ≠ some w.heap.size := HNB.out
    rw [Below.heap_setCell _ _ _ _ (by simp; omega), hgrow.block _ (by have := HGA.out.size; omega) (fun e => hnb e.symm), HGA.out.block _ (by omega) (by simp)]
    exact HBI.out
  have f10 : w5.frozen? ⟨b, 10, none⟩ = false := by
    have := HR2.out.main
    have := hgrow.block b (by have := HGA.out.size; omega) (fun e => by have := hob _ e.symm; omega)
    simp [World.frozen?, this, HGA.out.block b (by omega) (by simp), HR2.out.main]
  clear hown5 hgrow hat
  refine HK16.out _ _ hS6 ?_
  clear HK16
  simp only [Act.put, List.setIfInBounds_toArray]
  refine wpHead_take (i := 16) (v := ?vv16) rfl (by kernel_rfl) (fun _ _ _ h => h) (Or.inl ⟨by rfl, ?hy16⟩) (by assumption) ?rest16
  case hy16 => (intro u hu; obtain ⟨g1, g2, g3⟩ := hu; go_simp; try with_reducible rfl)
  simp only [Act.put]
  refine wpHead_take (i := 17) (v := ?vv17) rfl (by kernel_rfl) (fun _ _ _ h => h) (Or.inl ⟨by rfl, ?hy17⟩) (by assumption) ?rest17
  case hy17 => (intro u hu; obtain ⟨g1, g2, g3⟩ := hu; go_simp; try with_reducible rfl)
  simp only [Act.put]
  refine wpHead_last rfl (by kernel_rfl) (by kernel_rfl) (by rfl) ?_
  obtain ⟨z1, z2, z3⟩ := hS6
  clear hHeld hS5 q1 q2 q3 HR2 HBI HGA hob
  go_simp
  clear z1 z2 z3 f10
  generalize w5.setCell ⟨b, 10, none⟩ (.slice (some ⟨g2, 0, none⟩) (acc.length + 1) cap2) = w6 at HR6 HBI6 ⊢
  have b1 : w6.cell? ⟨b, 1, none⟩ = some (.slice (some ⟨ab, 0, none⟩) n n) := (HR6.out.cell 1).1
  have b2 : w6.cell? ⟨b, 2, none⟩ = some (.slice (some ⟨rb, 0, none⟩) n n) := (HR6.out.cell 2).1
  have a6 : w6.cell? ⟨ab, t, none⟩ = some (.int .i64 kk) := by rw [(HR6.out.at_ ht).1, HNX.out]
  have a6f := (HR6.out.at_ ht).2
  have e1 : ab ≠ b := by have := HR6.out.abb; omega
  have e2 : b ≠ ab := Ne.symm e1
  have k16 : (kk : Int) < 16 := by omega
  go_upto_region 5 with fail
  have hR7 := HR6.out.setNext hn ht ((kk : Int) + 1)
  rw [← HS.out, ← HAC.out] at hR7
  have HR7 := hide hR7
  clear hR7
  have hnb : w.heap.size ≠ ab := by have := HR6.out.abb; omega
  have HB7 : Hid ((w6.setCell ⟨ab, t, none⟩ (.int .i64 ((kk : Int) + 1))).heap[w.heap.size]? = some (.cells #[.int .i64 op, .int .i64 ia, .int .i64 ib, .int .i64 im] 74 (0, 0))) := by
    unfold Hid
    rw [Below.heap_setCell _ _ _ _ (by simp; exact hnb)]; exact HBI6.out
  generalize w6.setCell ⟨ab, t, none⟩ (.int .i64 ((kk : Int) + 1)) = w7 at HR7 HB7 ⊢
  generalize Value.slice (some ⟨g2, 0, none⟩) (acc.length + 1) cap2 = st7 at *
  clear HS HAC HR6 HBI6 b1 b2 a6 a6f h4 h5 k16 HNX HNB h63 hby
  have x0 : w7.cell? ⟨w.heap.size, 0, none⟩ = some (.int .i64 op) := by have := HB7.out; simp [World.cell?, this]
  have x1 : w7.cell? ⟨w.heap.size, 1, none⟩ = some (.int .i64 ia) := by have := HB7.out; simp [World.cell?, this]
  have x2 : w7.cell? ⟨w.heap.size, 2, none⟩ = some (.int .i64 ib) := by have := HB7.out; simp [World.cell?, this]
  have x3 : w7.cell? ⟨w.heap.size, 3, none⟩ = some (.int .i64 im) := by have := HB7.out; simp [World.cell?, this]
  have HVo := HV.out
  clear HV
  rcases HVo with H | H | H | H | H | H | H | H | H | H | H
  · obtain ⟨rfl, e3, e4⟩ := H
    obtain ⟨r, rfl⟩ : ∃ r : Nat, ia = r := ⟨ia.toNat, by omega⟩
    have hr4 : r < 4 := by omega
    obtain ⟨c1, c2⟩ := HR7.out.reg hn ht hr4
    have HA : Hid (act t ⟨1, r, ib, im⟩ s' = (true, s'.setReg t r im)) := by simp [Hid, act]
    go_wp2
    go_region
    go_wp2
    go_ret
    exact ⟨st7, by rw [HA.out]; rfl, by rw [HA.out]; exact (HR7.out.setReg hn ht hr4 im).like ⟨rfl, rfl, rfl, rfl⟩⟩
  · obtain ⟨rfl, e3, e4, e5, e6⟩ := H
    obtain ⟨r, rfl⟩ : ∃ r : Nat, ia = r := ⟨ia.toNat, by omega⟩
    obtain ⟨v, rfl⟩ : ∃ v : Nat, ib = v := ⟨ib.toNat, by omega⟩
    have hr4 : r < 4 := by omega
    have hv4 : v < 4 := by omega
    obtain ⟨c1, c2⟩ := HR7.out.reg hn ht hr4
    have c3 := HR7.out.var hv4
    have HA : Hid (act t ⟨2, r, v, im⟩ s' = (true, s'.setReg t r (s'.vars v))) := by simp [Hid, act]
    go_wp2
    go_region
    go_wp2
    go_ret
    exact ⟨st7, by rw [HA.out]; rfl, by rw [HA.out]; exact (HR7.out.setReg hn ht hr4 _).like ⟨rfl, rfl, rfl, rfl⟩⟩
  · obtain ⟨rfl, e3, e4, e5, e6⟩ := H
    obtain ⟨r, rfl⟩ : ∃ r : Nat, ia = r := ⟨ia.toNat, by omega⟩
    obtain ⟨v, rfl⟩ : ∃ v : Nat, ib = v := ⟨ib.toNat, by omega⟩
    have hr4 : r < 4 := by omega
    have hv4 : v < 4 := by omega
    obtain ⟨c1, c2⟩ := HR7.out.reg hn ht hv4
    have c3 := HR7.out.var hr4
    have c4 := (HR7.out.cell (3 + r)).2
    have HA : Hid (act t ⟨3, r, v, im⟩ s' = (true, s'.setVar r (s'.regs t v))) := by simp [Hid, act]
    go_wp2
    go_region
    go_wp2
    go_ret
    exact ⟨st7, by rw [HA.out]; rfl, by rw [HA.out]; exact (HR7.out.setVar hr4 _).like ⟨rfl, rfl, rfl, rfl⟩⟩
  · obtain ⟨rfl, e3, e4, e5, e6⟩ := H
    obtain ⟨r, rfl⟩ : ∃ r : Nat, ia = r := ⟨ia.toNat, by omega⟩
    obtain ⟨v, rfl⟩ : ∃ v : Nat, ib = v := ⟨ib.toNat, by omega⟩
    have hr4 : r < 4 := by omega
    have hv4 : v < 4 := by omega
    obtain ⟨c1, c2⟩ := HR7.out.reg hn ht hr4
    obtain ⟨c3, c4⟩ := HR7.out.reg hn ht hv4
    have HA : Hid (act t ⟨4, r, v, im⟩ s' = ((reckonR 4 (s'.regs t r) (s'.regs t v)).2, s'.setReg t r (reckonR 4 (s'.regs t r) (s'.regs t v)).1)) := by
      simp [Hid, act, reckonR]
    have HCK : Hid (∀ u, Calls Tryz.prog 114 #[.int .i64 4, .int .i64 (s'.regs t r), .int .i64 (s'.regs t v)] u fun e w' => e = .returned (.tuple #[.int .i64 (reckonR 4 (s'.regs t r) (s'.regs t v)).1, .bool (reckonR 4 (s'.regs t r) (s'.regs t v)).2]) ∧ w' = u) := fun u => reckon_m 4 _ _ u (by omega)
    generalize reckonR 4 (s'.regs t r) (s'.regs t v) = rk at *
    obtain ⟨rk1, rk2⟩ := rk
    simp only at HA HCK
    go_wp2_with fail
    go_quiet ((go_at_call 114; exact Calls.quiet_of_same (HCK.out _)))
    go_wp2
    go_region
    go_wp2
    go_ret
    exact ⟨st7, by rw [HA.out]; rfl, by rw [HA.out]; exact (HR7.out.setReg hn ht hr4 _).like ⟨rfl, rfl, rfl, rfl⟩⟩
  · obtain ⟨rfl, e3, e4, e5, e6⟩ := H
    obtain ⟨r, rfl⟩ : ∃ r : Nat, ia = r := ⟨ia.toNat, by omega⟩
    obtain ⟨v, rfl⟩ : ∃ v : Nat, ib = v := ⟨ib.toNat, by omega⟩
    have hr4 : r < 4 := by omega
    have hv4 : v < 4 := by omega
    obtain ⟨c1, c2⟩ := HR7.out.reg hn ht hr4
    obtain ⟨c3, c4⟩ := HR7.out.reg hn ht hv4
    have HA : Hid (act t ⟨5, r, v, im⟩ s' = ((reckonR 5 (s'.regs t r) (s'.regs t v)).2, s'.setReg t r (reckonR 5 (s'.regs t r) (s'.regs t v)).1)) := by
      simp [Hid, act, reckonR]
    have HCK : Hid (∀ u, Calls Tryz.prog 114 #[.int .i64 5, .int .i64 (s'.regs t r), .int .i64 (s'.regs t v)] u fun e w' => e = .returned (.tuple #[.int .i64 (reckonR 5 (s'.regs t r) (s'.regs t v)).1, .bool (reckonR 5 (s'.regs t r) (s'.regs t v)).2]) ∧ w' = u) := fun u => reckon_m 5 _ _ u (by omega)
    generalize reckonR 5 (s'.regs t r) (s'.regs t v) = rk at *
    obtain ⟨rk1, rk2⟩ := rk
    simp only at HA HCK
    go_wp2_with fail
    go_quiet ((go_at_call 114; exact Calls.quiet_of_same (HCK.out _)))
    go_wp2
    go_region
    go_wp2
    go_ret
    exact ⟨st7, by rw [HA.out]; rfl, by rw [HA.out]; exact (HR7.out.setReg hn ht hr4 _).like ⟨rfl, rfl, rfl, rfl⟩⟩
  · obtain ⟨rfl, e3, e4, e5, e6⟩ := H
    obtain ⟨r, rfl⟩ : ∃ r : Nat, ia = r := ⟨ia.toNat, by omega⟩
    obtain ⟨v, rfl⟩ : ∃ v : Nat, ib = v := ⟨ib.toNat, by omega⟩
    have hr4 : r < 4 := by omega
    have hv4 : v < 4 := by omega
    obtain ⟨c1, c2⟩ := HR7.out.reg hn ht hr4
    obtain ⟨c3, c4⟩ := HR7.out.reg hn ht hv4
    have HA : Hid (act t ⟨6, r, v, im⟩ s' = ((reckonR 6 (s'.regs t r) (s'.regs t v)).2, s'.setReg t r (reckonR 6 (s'.regs t r) (s'.regs t v)).1)) := by
      simp [Hid, act, reckonR]
    have HCK : Hid (∀ u, Calls Tryz.prog 114 #[.int .i64 6, .int .i64 (s'.regs t r), .int .i64 (s'.regs t v)] u fun e w' => e = .returned (.tuple #[.int .i64 (reckonR 6 (s'.regs t r) (s'.regs t v)).1, .bool (reckonR 6 (s'.regs t r) (s'.regs t v)).2]) ∧ w' = u) := fun u => reckon_m 6 _ _ u (by omega)
    generalize reckonR 6 (s'.regs t r) (s'.regs t v) = rk at *
    obtain ⟨rk1, rk2⟩ := rk
    simp only at HA HCK
    go_wp2_with fail
    go_quiet ((go_at_call 114; exact Calls.quiet_of_same (HCK.out _)))
    go_wp2
    go_region
    go_wp2
    go_ret
    exact ⟨st7, by rw [HA.out]; rfl, by rw [HA.out]; exact (HR7.out.setReg hn ht hr4 _).like ⟨rfl, rfl, rfl, rfl⟩⟩
  · obtain ⟨rfl, e3, e4, e5, e6⟩ := H
    obtain ⟨r, rfl⟩ : ∃ r : Nat, ia = r := ⟨ia.toNat, by omega⟩
    obtain ⟨v, rfl⟩ : ∃ v : Nat, ib = v := ⟨ib.toNat, by omega⟩
    have hr4 : r < 4 := by omega
    have hv4 : v < 4 := by omega
    obtain ⟨c1, c2⟩ := HR7.out.reg hn ht hr4
    obtain ⟨c3, c4⟩ := HR7.out.reg hn ht hv4
    have HA : Hid (act t ⟨7, r, v, im⟩ s' = ((reckonR 7 (s'.regs t r) (s'.regs t v)).2, s'.setReg t r (reckonR 7 (s'.regs t r) (s'.regs t v)).1)) := by
      unfold Hid
      by_cases hz : s'.regs t v = 0
      · simp [act, reckonR, hz, setReg_self]
      · simp [act, reckonR, hz]
    have HCK : Hid (∀ u, Calls Tryz.prog 114 #[.int .i64 7, .int .i64 (s'.regs t r), .int .i64 (s'.regs t v)] u fun e w' => e = .returned (.tuple #[.int .i64 (reckonR 7 (s'.regs t r) (s'.regs t v)).1, .bool (reckonR 7 (s'.regs t r) (s'.regs t v)).2]) ∧ w' = u) := fun u => reckon_m 7 _ _ u (by omega)
    generalize reckonR 7 (s'.regs t r) (s'.regs t v) = rk at *
    obtain ⟨rk1, rk2⟩ := rk
    simp only at HA HCK
    go_wp2_with fail
    go_quiet ((go_at_call 114; exact Calls.quiet_of_same (HCK.out _)))
    go_wp2
    go_region
    go_wp2
    go_ret
    exact ⟨st7, by rw [HA.out]; rfl, by rw [HA.out]; exact (HR7.out.setReg hn ht hr4 _).like ⟨rfl, rfl, rfl, rfl⟩⟩
  · obtain ⟨rfl, e3, e4, e5, e6⟩ := H
    obtain ⟨r, rfl⟩ : ∃ r : Nat, ia = r := ⟨ia.toNat, by omega⟩
    have hr4 : r < 4 := by omega
    obtain ⟨c1, c2⟩ := HR7.out.reg hn ht hr4
    have b1 : w7.cell? ⟨b, 1, none⟩ = some (.slice (some ⟨ab, 0, none⟩) n n) := (HR7.out.cell 1).1
    obtain ⟨c3, c4⟩ := HR7.out.at_ ht
    by_cases hz : s'.regs t r = 0
    · have HA : Hid (act t ⟨8, r, ib, im⟩ s' = (true, s'.setNext t im)) := by simp [Hid, act, hz]
      rw [hz] at c1
      clear hz
      go_wp2
      go_quiet (fail)
      go_wp2
      go_region
      go_wp2
      go_ret
      exact ⟨st7, by rw [HA.out]; rfl, by rw [HA.out]; exact (HR7.out.setNext hn ht _).like ⟨rfl, rfl, rfl, rfl⟩⟩
    · have HA : Hid (act t ⟨8, r, ib, im⟩ s' = (true, s')) := by simp [Hid, act, hz]
      have hz' : (s'.regs t r == 0) = false := by simpa using hz
      go_wp2
      go_quiet (fail)
      go_wp2
      go_ret
      exact ⟨st7, by rw [HA.out]; rfl, by rw [HA.out]; exact HR7.out.like ⟨rfl, rfl, rfl, rfl⟩⟩
  · obtain ⟨rfl, e3, e4⟩ := H
    obtain ⟨r, rfl⟩ : ∃ r : Nat, ia = r := ⟨ia.toNat, by omega⟩
    have hr3 : r < 3 := by omega
    have c1 := HR7.out.own hr3
    have c2 := (HR7.out.cell (7 + r)).2
    have HA : Hid (act t ⟨9, r, ib, im⟩ s' = (true, s'.setLock r true t)) := by simp [Hid, act]
    go_wp2
    go_region
    go_wp2
    go_ret
    exact ⟨st7, by rw [HA.out]; rfl, by rw [HA.out]; exact (HR7.out.setLock hr3 true t).like ⟨rfl, rfl, rfl, rfl⟩⟩
  · obtain ⟨rfl, e3, e4⟩ := H
    obtain ⟨r, rfl⟩ : ∃ r : Nat, ia = r := ⟨ia.toNat, by omega⟩
    have hr3 : r < 3 := by omega
    have c1 := HR7.out.own hr3
    have c2 := (HR7.out.cell (7 + r)).2
    by_cases hz : s'.held r = true ∧ s'.own r = t
    · have HA : Hid (act t ⟨10, r, ib, im⟩ s' = (true, s'.setLock r false 0)) := by simp [Hid, act, hz]
      have hq : ownR s' r = t := by simp [ownR, hz.1, hz.2]
      rw [hq] at c1
      clear hz hq
      go_wp2
      go_quiet (fail)
      go_wp2
      go_region
      go_wp2
      go_ret
      exact ⟨st7, by rw [HA.out]; rfl, by rw [HA.out]; exact (HR7.out.setLock hr3 false 0).like ⟨rfl, rfl, rfl, rfl⟩⟩
    · have HA : Hid (act t ⟨10, r, ib, im⟩ s' = (false, s')) := by
        unfold Hid
        simp only [act]
        simp [hz]
      have hz' : (ownR s' r != (t : Int)) = true := by
        unfold ownR
        by_cases hh : s'.held r = true
        · simp only [hh, if_true]
          have : ¬ s'.own r = t := fun e => hz ⟨hh, e⟩
          simpa using this
        · simp only [hh]
          simp <;> omega
      clear hz
      go_wp2
      go_quiet (fail)
      go_wp2
      go_ret
      exact ⟨st7, by rw [HA.out]; rfl, by rw [HA.out]; exact HR7.out.like ⟨rfl, rfl, rfl, rfl⟩⟩
  · obtain ⟨rfl, e3, e4⟩ := H
    obtain ⟨r, rfl⟩ : ∃ r : Nat, ia = r := ⟨ia.toNat, by omega⟩
    have hr4 : r < 4 := by omega
    obtain ⟨c1, c2⟩ := HR7.out.reg hn ht hr4
    have HA : Hid (act t ⟨11, r, ib, im⟩ s' = (s'.regs t r != 0, s')) := by simp [Hid, act]
    go_wp2
    go_quiet (fail)
    go_wp2
    go_ret
    exact ⟨st7, by rw [HA.out]; rfl, by rw [HA.out]; exact HR7.out.like ⟨rfl, rfl, rfl, rfl⟩⟩

end Go.Proofs.YtklenjmfalljgaaGreatDoor

/- The reference's run against the pure machine: done, ready, step. -/
namespace Go.Proofs.YtklenjmfalljgaaGreatDoor
open Go.RowKit

def LkOk (s : St) : Prop := ∀ l, s.held l = true → 0 ≤ s.own l
theorem LkOk.zero : LkOk St.zero := fun l h => by simp [St.zero] at h
theorem LkOk.setNext {s : St} (h : LkOk s) (t : Nat) (v : Int) : LkOk (s.setNext t v) := h
theorem LkOk.setLock {s : St} (h : LkOk s) (l : Nat) (hd : Bool) (o : Int) (ho : 0 ≤ o) : LkOk (s.setLock l hd o) := fun l' e => by
  simp only [St.setLock] at e ⊢
  by_cases hl : l' = l
  · simp [hl, ho]
  · simp only [hl, if_false] at e ⊢; exact h l' e
theorem LkOk.act {s : St} (h : LkOk s) (t : Nat) (i : Ins) : LkOk (act t i s).2 := by
  by_cases h9 : i.op = 9
  · have e : Go.Proofs.YtklenjmfalljgaaGreatDoor.act t i s = (true, s.setLock i.a.toNat true t) := by simp [Go.Proofs.YtklenjmfalljgaaGreatDoor.act, h9]
    rw [e]; exact h.setLock _ _ _ (by omega)
  · by_cases h10 : i.op = 10
    · by_cases hz : s.held i.a.toNat = true ∧ s.own i.a.toNat = t
      · have e : Go.Proofs.YtklenjmfalljgaaGreatDoor.act t i s = (true, s.setLock i.a.toNat false 0) := by simp [Go.Proofs.YtklenjmfalljgaaGreatDoor.act, h10, hz]
        rw [e]; exact h.setLock _ _ _ (by omega)
      · have e : Go.Proofs.YtklenjmfalljgaaGreatDoor.act t i s = (false, s) := by
          simp only [Go.Proofs.YtklenjmfalljgaaGreatDoor.act, h10]
          simp [hz]
        rw [e]; exact h
    · have e : (Go.Proofs.YtklenjmfalljgaaGreatDoor.act t i s).2.held = s.held ∧ (Go.Proofs.YtklenjmfalljgaaGreatDoor.act t i s).2.own = s.own := by
        unfold Go.Proofs.YtklenjmfalljgaaGreatDoor.act
        rw [if_neg h9, if_neg h10]
        repeat' split
        all_goals exact ⟨rfl, rfl⟩
      intro l hl
      rw [e.1] at hl
      rw [e.2]
      exact h l hl
theorem LkOk.step {s : St} (h : LkOk s) (p : List (List Ins)) (t : Nat) : LkOk (stepS p s t).2 := LkOk.act (h.setNext _ _) _ _
theorem LkOk.own {s : St} (h : LkOk s) (l : Nat) : decide (ownR s l < 0) = !s.held l := by
  unfold ownR
  cases e : s.held l
  · simp
  · have := h l e; simp; omega

theorem rprog {w0 : World} {ao : Option Addr} {cap : Nat} {p : List (List Ins)} (hP : ProgAt w0 (.agg #[.slice ao p.length cap]) p) {t : Nat} (ht : t < p.length) :
    ∃ g o, ao = some ⟨g, o, none⟩ ∧ ∃ rv, w0.cell? ⟨g, o + t, none⟩ = some rv ∧ CodeAt w0 rv (codeOf p t) := by
  obtain ⟨ao', cap', e, h⟩ := hP
  simp only [Value.agg.injEq, Array.mk.injEq, List.cons.injEq, Value.slice.injEq, and_true, true_and] at e
  obtain ⟨rfl, rfl⟩ := e
  obtain ⟨g, o, e1, rv, e2, e3⟩ := h t ht
  exact ⟨g, o, e1, rv, e2, by rw [codeOf_get ht]; exact e3⟩

theorem rdoneS {w0 w : World} {ao : Option Addr} {cap : Nat} {p : List (List Ins)} (hp : vProg p = true) (hP : ProgAt w0 (.agg #[.slice ao p.length cap]) p) {b ab rb : Nat} {st : Value} {s : St} {acc : List (Int × Int)} {k th a : Int}
    (hR : RunAt w0 w b ab rb p.length (.slice ao p.length cap) st s acc k th a) (hI : Inv p s) {t : Nat} (ht : t < p.length) :
    Calls Tryz.prog 82 #[.pointer (some ⟨b, 0, none⟩), .int .i64 t] w fun e w' => e = .returned (.bool (doneB p s t)) ∧ w.grownBy w' none := by
  have hn := vProg_len hp
  obtain ⟨g, o, rfl, rv, h1, ca, cc, rfl, _⟩ := rprog hP ht
  refine (rdone_m b ab p.length cap p.length g o t _ cc ca (s.next t) w ht (by omega) (vCode_len (vProg_code hp ht)) (hR.cell 0).1 (hR.cell 1).1 (pres_grown hR.frame _ _ h1) (hR.at_ ht).1).mono ?_
  rintro e w' ⟨rfl, hl⟩
  refine ⟨?_, grown_like (grown_refl _ _) hl⟩
  have := hI t ht
  congr 2
  unfold doneB
  rw [Bool.eq_iff_iff]; simp; omega

theorem rreadyS {w0 w : World} {ao : Option Addr} {cap : Nat} {p : List (List Ins)} (hp : vProg p = true) (hP : ProgAt w0 (.agg #[.slice ao p.length cap]) p) {b ab rb : Nat} {st : Value} {s : St} {acc : List (Int × Int)} {k th a : Int}
    (hR : RunAt w0 w b ab rb p.length (.slice ao p.length cap) st s acc k th a) (hI : Inv p s) (hL : LkOk s) {t : Nat} (ht : t < p.length) :
    Calls Tryz.prog 80 #[.pointer (some ⟨b, 0, none⟩), .int .i64 t] w fun e w' => e = .returned (.bool (readyB p s t)) ∧ w.grownBy w' none := by
  have hn := vProg_len hp
  have hin := hI t ht
  obtain ⟨g, o, rfl, rv, h1, ca, cc, rfl, hc⟩ := rprog hP ht
  by_cases hd : s.next t = ((codeOf p t).length : Int)
  · refine (rready_done b ab p.length cap p.length g o t _ cc ca (s.next t) w ht (by omega) (vCode_len (vProg_code hp ht)) (by omega) (hR.cell 0).1 (hR.cell 1).1 (pres_grown hR.frame _ _ h1) (hR.at_ ht).1).mono ?_
    rintro e w' ⟨rfl, hg⟩
    exact ⟨by simp [readyB, doneB, hd], hg⟩
  · obtain ⟨kk, hkk⟩ : ∃ kk : Nat, s.next t = kk := ⟨(s.next t).toNat, by omega⟩
    have hkl : kk < (codeOf p t).length := by omega
    obtain ⟨h, ho, rfl, x1, x2, x3, x4⟩ := hc kk hkl
    have hv := vProg_ins hp ht (k := (kk : Int)) (by simpa using hkl)
    have hie : insAt p t (s.next t) = (codeOf p t)[kk] := by rw [hkk, insAt_get (by simpa using hkl)]; simp
    have hie2 : insAt p t (kk : Int) = (codeOf p t)[kk] := by rw [insAt_get (by simpa using hkl)]; simp
    rw [hie2] at hv
    have hF := pres_grown hR.frame
    have say := vIns_say hv
    refine (rready_m b ab p.length cap p.length g o t _ cc h ho kk (codeOf p t)[kk] (ownR s (codeOf p t)[kk].a.toNat) w ht (by omega) (vCode_len (vProg_code hp ht)) hkl (by omega) (by omega) (hR.cell 0).1 (hR.cell 1).1 (hF _ _ h1) (by rw [(hR.at_ ht).1, hkk]) (hF _ _ x1) (hF _ _ x2) (hF _ _ x3) (hF _ _ x4) (Array.getElem?_eq_some_iff.1 hR.main).1 (fun e => hR.own (by omega))).mono ?_
    rintro e w' ⟨rfl, hg⟩
    refine ⟨?_, hg⟩
    have hnd : doneB p s t = false := by simpa [doneB] using hd
    rw [hL.own, readyB, hnd, hie]; simp

theorem rstepS {w0 w : World} {ao : Option Addr} {cap : Nat} {p : List (List Ins)} (hp : vProg p = true) (hP : ProgAt w0 (.agg #[.slice ao p.length cap]) p) {b ab rb : Nat} {st : Value} {s : St} {acc : List (Int × Int)} {k th a : Int}
    (hR : RunAt w0 w b ab rb p.length (.slice ao p.length cap) st s acc k th a) (hI : Inv p s) {t : Nat} (ht : t < p.length) (hd : doneB p s t = false) (hacc : acc.length < 1048576) :
    Calls Tryz.prog 81 #[.pointer (some ⟨b, 0, none⟩), .int .i64 t] w fun e w' => ∃ st', e = .returned (.bool (stepS p s t).1) ∧
      RunAt w0 w' b ab rb p.length (.slice ao p.length cap) st' (stepS p s t).2 (acc ++ [((t : Int), s.next t)]) k th a := by
  have hn := vProg_len hp
  have hin := hI t ht
  obtain ⟨g, o, rfl, rv, h1, ca, cc, rfl, hc⟩ := rprog hP ht
  have hd' : ¬ s.next t = ((codeOf p t).length : Int) := by simpa [doneB] using hd
  obtain ⟨kk, hkk⟩ : ∃ kk : Nat, s.next t = kk := ⟨(s.next t).toNat, by omega⟩
  have hkl : kk < (codeOf p t).length := by omega
  obtain ⟨h, ho, rfl, x1, x2, x3, x4⟩ := hc kk hkl
  have hv := vProg_ins hp ht (k := (kk : Int)) (by simpa using hkl)
  have hie2 : insAt p t (kk : Int) = (codeOf p t)[kk] := by rw [insAt_get (by simpa using hkl)]; simp
  rw [hie2] at hv
  have hF := pres_grown hR.frame
  have hst : stepS p s t = act t (codeOf p t)[kk] (s.setNext t (kk + 1)) := by unfold stepS; rw [hkk, hie2]
  rw [hst, hkk]
  exact rstep_m w0 w b ab rb p.length cap g o t _ cc h ho kk st s acc k th a (codeOf p t)[kk] (by omega) ht (vCode_len (vProg_code hp ht)) hkl hacc hR hkk (hF _ _ h1) (hF _ _ x1) (hF _ _ x2) (hF _ _ x3) (hF _ _ x4) hv _ rfl _ rfl

end Go.Proofs.YtklenjmfalljgaaGreatDoor

/- The reference's Play: what its beginning makes; the verdict's cells. -/
namespace Go.Proofs.YtklenjmfalljgaaGreatDoor
open Go.RowKit
attribute [local go_sem] Go.World.cell?_alloc_some

theorem makes (n : Nat) (hN : n = 1 ∨ n = 2 ∨ n = 3 ∨ n = 4) :
    (∀ u : World, (Instr.makeSlice 25 (.int .i64 n) (.int .i64 n)).run Tryz.prog u = .ok (.slice (some ⟨u.heap.size, 0, none⟩) n n) (u.alloc (.cells (atF n St.zero).toArray 3))) ∧
    (∀ u : World, (Instr.makeSlice 30 (.int .i64 n) (.int .i64 n)).run Tryz.prog u = .ok (.slice (some ⟨u.heap.size, 0, none⟩) n n) (u.alloc (.cells (regsF n St.zero).toArray 29))) := by
  obtain ⟨i0, hi0, hz0, hz1, hz2⟩ := info_parts info_int
  obtain ⟨i1, hi1, hy0, hy1, hy2⟩ := info_parts info_arr
  constructor
  · intro u
    have := run_makeSlice (P := Tryz.prog) u 25 3 i0 _ Tryz.underlying25 hi0 hz0 .i64 .i64 n n (by omega) (Int.le_refl _) (by rw [hz1]; omega) (by rw [hz2]; omega) (by omega)
    rw [this, hz1]
    have e : madeCells (Value.int .i64 0).cells ((n : Int).toNat * 1) = (atF n St.zero).toArray := by
      rcases hN with rfl | rfl | rfl | rfl <;> first | kernel_rfl | simp [madeCells, atF, Value.cells, St.zero, Array.range, List.range_succ]
    rw [e]; rfl
  · intro u
    have := run_makeSlice (P := Tryz.prog) u 30 29 i1 _ Tryz.underlying30 hi1 hy0 .i64 .i64 n n (by omega) (Int.le_refl _) (by rw [hy1]; omega) (by rw [hy2]; omega) (by omega)
    rw [this, hy1]
    have e : madeCells (Value.agg #[.int .i64 0, .int .i64 0, .int .i64 0, .int .i64 0]).cells ((n : Int).toNat * 4) = (regsF n St.zero).toArray := by
      rcases hN with rfl | rfl | rfl | rfl <;> first | kernel_rfl | simp [madeCells, regsF, Value.cells, St.zero, Array.range, List.range_succ]
    rw [e]; rfl

theorem runAt_new1 (w : World) (X : Obj) (n : Nat) (ps : Value) (t1 : TypeId) : RunAt w ((((w.alloc X).alloc (.cells (atF n St.zero).toArray t1)).alloc (.cells (regsF n St.zero).toArray 29)).alloc (.cells (runC ps (w.heap.size + 1) (w.heap.size + 1 + 1) n (.slice none 0 0) St.zero 0 0 0) 126))
    (w.heap.size + 1 + 1 + 1) (w.heap.size + 1) (w.heap.size + 1 + 1) n ps (.slice none 0 0) St.zero [] 0 0 0 := by
  refine ⟨?_, ⟨t1, ?_⟩, ?_, ⟨rfl, Or.inl ⟨rfl, rfl⟩⟩, grown_alloc (grown_alloc (grown_alloc (grown_alloc (grown_refl _ _)))), by omega, by omega, by omega, by omega, by omega⟩
  · have := heap_alloc_new (((w.alloc X).alloc (.cells (atF n St.zero).toArray t1)).alloc (.cells (regsF n St.zero).toArray 29)) (.cells (runC ps (w.heap.size + 1) (w.heap.size + 1 + 1) n (.slice none 0 0) St.zero 0 0 0) 126)
    simpa using this
  · rw [Below.heap_alloc _ _ _ (by simp), Below.heap_alloc _ _ _ (by simp)]
    have := heap_alloc_new (w.alloc X) (.cells (atF n St.zero).toArray t1)
    simpa using this
  · rw [Below.heap_alloc _ _ _ (by simp)]
    have := heap_alloc_new ((w.alloc X).alloc (.cells (atF n St.zero).toArray t1)) (.cells (regsF n St.zero).toArray 29)
    simpa using this
theorem runAt_new2 (w : World) (X : Obj) (n : Nat) (ps : Value) (t1 : TypeId) : RunAt w ((((w.alloc X).alloc (.cells (regsF n St.zero).toArray 29)).alloc (.cells (atF n St.zero).toArray t1)).alloc (.cells (runC ps (w.heap.size + 1 + 1) (w.heap.size + 1) n (.slice none 0 0) St.zero 0 0 0) 126))
    (w.heap.size + 1 + 1 + 1) (w.heap.size + 1 + 1) (w.heap.size + 1) n ps (.slice none 0 0) St.zero [] 0 0 0 := by
  refine ⟨?_, ⟨t1, ?_⟩, ?_, ⟨rfl, Or.inl ⟨rfl, rfl⟩⟩, grown_alloc (grown_alloc (grown_alloc (grown_alloc (grown_refl _ _)))), by omega, by omega, by omega, by omega, by omega⟩
  · have := heap_alloc_new (((w.alloc X).alloc (.cells (regsF n St.zero).toArray 29)).alloc (.cells (atF n St.zero).toArray t1)) (.cells (runC ps (w.heap.size + 1 + 1) (w.heap.size + 1) n (.slice none 0 0) St.zero 0 0 0) 126)
    simpa using this
  · rw [Below.heap_alloc _ _ _ (by simp)]
    have := heap_alloc_new ((w.alloc X).alloc (.cells (regsF n St.zero).toArray 29)) (.cells (atF n St.zero).toArray t1)
    simpa using this
  · rw [Below.heap_alloc _ _ _ (by simp), Below.heap_alloc _ _ _ (by simp)]
    have := heap_alloc_new (w.alloc X) (.cells (regsF n St.zero).toArray 29)
    simpa using this


theorem RunAt.verdict {w0 w : World} {b ab rb n : Nat} {ps st : Value} {s : St} {acc : List (Int × Int)} {k th a : Int} (h : RunAt w0 w b ab rb n ps st s acc k th a) (k' th' a' : Int) :
    RunAt w0 (((w.setCell ⟨b, 11, none⟩ (.int .i64 k')).setCell ⟨b, 12, none⟩ (.int .i64 th')).setCell ⟨b, 13, none⟩ (.int .i64 a')) b ab rb n ps st s acc k' th' a' := by
  have h1 : RunAt w0 (w.setCell ⟨b, 11, none⟩ (.int .i64 k')) b ab rb n ps st s acc k' th a := h.setMain rfl rfl rfl h.row
  have h2 : RunAt w0 ((w.setCell ⟨b, 11, none⟩ (.int .i64 k')).setCell ⟨b, 12, none⟩ (.int .i64 th')) b ab rb n ps st s acc k' th' a := h1.setMain rfl rfl rfl h1.row
  exact h2.setMain rfl rfl rfl h2.row
theorem RunAt.vcells {w0 w : World} {b ab rb n : Nat} {ps st : Value} {s : St} {acc : List (Int × Int)} {k th a : Int} (h : RunAt w0 w b ab rb n ps st s acc k th a) :
    w.cell? ⟨b, 10, none⟩ = some st ∧ w.cell? ⟨b, 11, none⟩ = some (.int .i64 k) ∧ w.cell? ⟨b, 12, none⟩ = some (.int .i64 th) ∧ w.cell? ⟨b, 13, none⟩ = some (.int .i64 a) ∧ w.frozen? ⟨b, 11, none⟩ = false ∧ w.frozen? ⟨b, 12, none⟩ = false ∧ w.frozen? ⟨b, 13, none⟩ = false :=
  ⟨(h.cell 10).1, (h.cell 11).1, (h.cell 12).1, (h.cell 13).1, (h.cell 11).2, (h.cell 12).2, (h.cell 13).2⟩
theorem RunAt.kind {w0 w : World} {b ab rb n : Nat} {ps st : Value} {s : St} {acc : List (Int × Int)} {k th a : Int} (h : RunAt w0 w b ab rb n ps st s acc k th a) (k' : Int) :
    RunAt w0 (w.setCell ⟨b, 11, none⟩ (.int .i64 k')) b ab rb n ps st s acc k' th a := h.setMain rfl rfl rfl h.row

theorem RunAt.last {w0 w : World} {b ab rb n : Nat} {ps st : Value} {s : St} {acc : List (Int × Int)} {k th a : Int} {x : Int × Int} (h : RunAt w0 w b ab rb n ps st s (acc ++ [x]) k th a) :
    ∃ g cap, st = .slice (some ⟨g, 0, none⟩) (acc.length + 1) cap ∧ w.cell? ⟨g, acc.length * 2, none⟩ = some (.int .i64 x.1) ∧ w.cell? ⟨g, acc.length * 2 + 1, none⟩ = some (.int .i64 x.2) := by
  have hr := h.row
  rw [List.length_append] at hr
  have hl : ∀ q : List (Int × Int), (flatS q).length = q.length * 2 := fun q => by
    induction q with
    | nil => rfl
    | cons y q ih =>
      have : flatS (y :: q) = .int .i64 y.1 :: .int .i64 y.2 :: flatS q := rfl
      rw [this]; simp [ih]; omega
  rcases hr.2 with ⟨_, e2⟩ | ⟨g, cap, cur, hv, hb, hh, hx⟩
  · simp at e2
  · have key : ∀ j v, (flatS (acc ++ [x]))[j]? = some v → w.cell? ⟨g, j, none⟩ = some v := fun j v e => by
      rw [← hx.2.2.2, List.getElem?_take] at e
      by_cases hj : j < (acc.length + [x].length) * 2
      · rw [if_pos hj] at e
        simp only [World.cell?, hh]
        simpa using e
      · rw [if_neg hj] at e; cases e
    refine ⟨g, cap, hv, key _ _ ?_, key _ _ ?_⟩
    · rw [flatS_snoc, List.getElem?_append_right (by rw [hl]; omega), hl]; simp
    · rw [flatS_snoc, List.getElem?_append_right (by rw [hl]; omega), hl]; simp

end Go.Proofs.YtklenjmfalljgaaGreatDoor
