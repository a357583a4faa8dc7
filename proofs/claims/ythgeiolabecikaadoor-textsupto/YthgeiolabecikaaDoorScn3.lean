/- The walk of the scanner's run. -/
import Derived.Test.YthgeiolabecikaaDoorScn2
namespace Go.Proofs.YthgeiolabecikaaDoor
open Go.RowKit
attribute [local go_sem] Go.World.cell?_alloc_some

def runT (s : ByteArray) (a : Nat) (last : Int) : RunP := runP last ((byt s).drop a)

theorem runT_no {s : ByteArray} {a : Nat} {last : Int} (h : (thrOk last (thr last (-1) ((byt s).drop a)).1 && hitB s (a + (thr last (-1) ((byt s).drop a)).2) 42) = false) :
    runT s a last = ⟨(thr last (-1) ((byt s).drop a)).1, 1, thrOk last (thr last (-1) ((byt s).drop a)).1, (thr last (-1) ((byt s).drop a)).2⟩ := by
  unfold runT runP
  rw [if_neg]
  unfold hitB at h
  rw [List.getElem?_drop, h]; simp
theorem runT_yes {s : ByteArray} {a : Nat} {last : Int} (h1 : thrOk last (thr last (-1) ((byt s).drop a)).1 = true) (h2 : hitB s (a + (thr last (-1) ((byt s).drop a)).2) 42 = true) :
    runT s a last = ⟨(thr last (-1) ((byt s).drop a)).1, (cnt 0 ((byt s).drop (a + (thr last (-1) ((byt s).drop a)).2 + 1))).1, decide (1 < (cnt 0 ((byt s).drop (a + (thr last (-1) ((byt s).drop a)).2 + 1))).1),
      (thr last (-1) ((byt s).drop a)).2 + 1 + (cnt 0 ((byt s).drop (a + (thr last (-1) ((byt s).drop a)).2 + 1))).2⟩ := by
  unfold runT runP
  unfold hitB at h2
  rw [if_pos (by rw [List.getElem?_drop, h1, h2]; rfl), List.drop_drop]
  simp only [Nat.add_assoc]

def RunAt (s : ByteArray) (b a : Nat) (last : Int) (w : World) (e : Ending) (w' : World) : Prop :=
  w.grownBy w' (some b) ∧ e = .returned (.tuple #[.agg #[.int .i64 (runT s a last).thread, .int .i64 (runT s a last).count], .bool (runT s a last).ok]) ∧ ScAt w' b s (a + (runT s a last).len) ∧
    0 ≤ (runT s a last).count ∧ (runT s a last).count ≤ 501 ∧ -1 ≤ (runT s a last).thread ∧ (runT s a last).thread ≤ 63

theorem ScAt.grown {w w' : World} {b : Nat} {s : ByteArray} {a : Nat} (h : ScAt w b s a) (hg : w.grownBy w' none) : ScAt w' b s a := by
  have hl := h.lt
  unfold ScAt at *; rw [hg.block b hl (by simp)]; exact h
theorem ScAt.setOther {w : World} {b g o : Nat} {v : Value} {s : ByteArray} {a : Nat} (h : ScAt w b s a) (hg : b ≠ g) : ScAt (w.setCell ⟨g, o, none⟩ v) b s a := by
  unfold ScAt at *; rw [Below.heap_setCell _ _ _ _ (by simpa using hg)]; exact h

set_option maxRecDepth 100000 in
set_option maxHeartbeats 4000000 in
theorem run_sc (s : ByteArray) (b a : Nat) (last : Int) (w : World) (h : ScAt w b s a) (ha : a ≤ s.size) (hs : s.size ≤ 9223372036854775806) :
    Calls Tryd.prog 84 #[pt b, .int .i64 last] w (RunAt s b a last w) := by
  have hb := h.lt
  have HH := hide h
  clear h
  have hpt : pt b = .pointer (some ⟨b, 0, none⟩) := rfl
  rw [hpt]
  go_enter Tryd.func84, Tryd.ntmps84
  go_wp2_with fail
  refine (thread_m s b a last _ (HH.out.grown (grown_alloc (grown_refl _ _))) ha hs).mono ?_
  rintro e w1 ⟨hg1, rfl, hs1, hlo, hhi⟩
  have hw1 : w.grownBy w1 (some b) := grown_trans (grown_alloc (grown_refl _ _)) hg1
  have hsz1 : w.heap.size < w1.heap.size := by have := hg1.size; simp at this; omega
  have hr1 : w1.heap[w.heap.size]? = some (.cells #[.int .i64 0, .int .i64 0] 162 (0, 0)) := by
    rw [hg1.block w.heap.size (by simp) (by simp; omega)]; exact heap_alloc_new w _
  have HW1 := hide hw1
  have HS1 := hide hs1
  have HR1 := hide hr1
  have hle1 : a + (thr last (-1) ((byt s).drop a)).2 ≤ s.size := by
    have := thr_len last (-1) ((byt s).drop a)
    rw [List.length_drop, byt_len] at this; omega
  have NO := @runT_no s a last
  have YES := @runT_yes s a last
  clear hg1 hw1 hs1 hr1
  generalize thr last (-1) ((byt s).drop a) = T at *
  obtain ⟨n, k⟩ := T
  simp only at *
  have fin : ∀ (w2 : World) (x y : Int) (z : Bool) (l : Nat), runT s a last = ⟨x, y, z, l⟩ → w.grownBy w2 (some b) → ScAt w2 b s (a + l) → w2.heap[w.heap.size]? = some (.cells #[.int .i64 0, .int .i64 0] 162 (0, 0)) → 0 ≤ y → y ≤ 501 → -1 ≤ x → x ≤ 63 →
      RunAt s b a last w (.returned (.tuple #[.agg #[.int .i64 x, .int .i64 y], .bool z])) ((w2.setCell ⟨w.heap.size, 0, none⟩ (.int .i64 x)).setCell ⟨w.heap.size, 1, none⟩ (.int .i64 y)) ∧
      ((w2.setCell ⟨w.heap.size, 0, none⟩ (.int .i64 x)).setCell ⟨w.heap.size, 1, none⟩ (.int .i64 y)).heap[w.heap.size]? = some (.cells #[.int .i64 x, .int .i64 y] 162 (0, 0)) := by
    intro w2 x y z l hr hg hsc hrb h1 h2 h3 h4
    refine ⟨?_, ?_⟩
    · unfold RunAt
      rw [hr]
      exact ⟨grown_setNew (grown_setNew hg (Nat.le_refl _)) (Nat.le_refl _), rfl, (hsc.setOther (by omega)).setOther (by omega), h1, h2, h3, h4⟩
    · rw [heap_setCell_same _ _ 1 _ _ _ (heap_setCell_same _ _ 0 _ _ _ hrb)]; rfl
  have FIN := hide fin
  have hne : w.heap.size ≠ b := by omega
  have z1 : w1.cell? ⟨w.heap.size, 0, none⟩ = some (.int .i64 0) := by have := HR1.out; simp [World.cell?, this]
  have z2 : w1.cell? ⟨w.heap.size, 1, none⟩ = some (.int .i64 0) := by have := HR1.out; simp [World.cell?, this]
  have z3 : w1.frozen? ⟨w.heap.size, 0, none⟩ = false := by have := HR1.out; simp [World.frozen?, this]
  have z4 : w1.frozen? ⟨w.heap.size, 1, none⟩ = false := by have := HR1.out; simp [World.frozen?, this]
  clear fin
  cases hok : thrOk last n with
  | false =>
    have hR := NO (by rw [hok]; rfl)
    rw [hok] at hR
    go_wp2_with fail
    obtain ⟨f1, f2⟩ := FIN.out w1 n 1 false k hR HW1.out HS1.out HR1.out (by omega) (by omega) hlo hhi
    refine bodyPost_ret (v := .tuple #[.agg #[.int .i64 n, .int .i64 1], .bool false]) ?_ rfl f1
    have y1 := cell_of_row _ _ 0 _ _ _ f2
    have y2 := cell_of_row _ _ 1 _ _ _ f2
    simp at y1 y2
    simp [results, Tryd.results84, go_sem, y1, y2]
  | true =>
    go_wp2_with (go_at_call 83; refine (skip_m s b _ 42 _ HS1.out hle1 hs).mono ?_)
    rintro e w2 ⟨hg2, rfl, hs2⟩
    have HW2 : Hid (w.grownBy w2 (some b)) := grown_trans HW1.out hg2
    have hr2 : w2.heap[w.heap.size]? = some (.cells #[.int .i64 0, .int .i64 0] 162 (0, 0)) := by
      rw [hg2.block w.heap.size hsz1 (by simp; omega)]; exact HR1.out
    have hsz2 : w.heap.size < w2.heap.size := by have := hg2.size; omega
    have y1 : w2.cell? ⟨w.heap.size, 0, none⟩ = some (.int .i64 0) := by simp [World.cell?, hr2]
    have y2 : w2.cell? ⟨w.heap.size, 1, none⟩ = some (.int .i64 0) := by simp [World.cell?, hr2]
    have y3 : w2.frozen? ⟨w.heap.size, 0, none⟩ = false := by simp [World.frozen?, hr2]
    have y4 : w2.frozen? ⟨w.heap.size, 1, none⟩ = false := by simp [World.frozen?, hr2]
    have HR2 := hide hr2
    clear hg2 hr2 z1 z2 z3 z4
    unfold skAt at hs2
    cases hit : hitB s (a + k) 42 with
    | false =>
      have hR := NO (by rw [hit]; simp)
      rw [hok] at hR
      rw [hit, if_neg (by simp)] at hs2
      have HS2 := hide hs2
      clear hs2
      go_wp2_with fail
      obtain ⟨f1, f2⟩ := FIN.out w2 n 1 true k hR HW2.out HS2.out HR2.out (by omega) (by omega) hlo hhi
      refine bodyPost_ret (v := .tuple #[.agg #[.int .i64 n, .int .i64 1], .bool true]) ?_ rfl f1
      have x1 := cell_of_row _ _ 0 _ _ _ f2
      have x2 := cell_of_row _ _ 1 _ _ _ f2
      simp at x1 x2
      simp [results, Tryd.results84, go_sem, x1, x2]
    | true =>
      have hR := YES hok hit
      rw [hit, if_pos rfl] at hs2
      have HS2 := hide hs2
      have hlt : a + k < s.size := by
        unfold hitB at hit
        have : (byt s)[a + k]? = some 42 := by simpa using hit
        have := hi_lt_of_get this
        rwa [byt_len] at this
      clear hs2 NO YES
      have e1 : a + k + 1 = a + (k + 1) := by omega
      have hC := count_m s b (a + k + 1) w2 HS2.out (by omega) hs
      generalize cnt 0 ((byt s).drop (a + k + 1)) = C at *
      obtain ⟨c, l⟩ := C
      simp only at hC hR
      have HC := hide hC
      clear hC
      go_wp2_with (go_at_call 116; refine HC.out.mono ?_)
      rintro e w3 ⟨hg3, rfl, hs3, hc0, hc1⟩
      have HW3 : Hid (w.grownBy w3 (some b)) := grown_trans HW2.out hg3
      have hr3 : w3.heap[w.heap.size]? = some (.cells #[.int .i64 0, .int .i64 0] 162 (0, 0)) := by
        rw [hg3.block w.heap.size hsz2 (by simp; omega)]; exact HR2.out
      have x1 : w3.cell? ⟨w.heap.size, 0, none⟩ = some (.int .i64 0) := by simp [World.cell?, hr3]
      have x2 : w3.cell? ⟨w.heap.size, 1, none⟩ = some (.int .i64 0) := by simp [World.cell?, hr3]
      have x3 : w3.frozen? ⟨w.heap.size, 0, none⟩ = false := by simp [World.frozen?, hr3]
      have x4 : w3.frozen? ⟨w.heap.size, 1, none⟩ = false := by simp [World.frozen?, hr3]
      have HR3 := hide hr3
      have HS3 := hide hs3
      clear hg3 hr3 hs3 y1 y2 y3 y4
      go_wp2_with fail
      all_goals
        obtain ⟨f1, f2⟩ := FIN.out w3 n c (decide (1 < c)) (k + 1 + l) (by rw [hR]) HW3.out (by have := HS3.out; rwa [show a + k + 1 + l = a + (k + 1 + l) by omega] at this) HR3.out hc0 hc1 hlo hhi
        refine bodyPost_ret (v := .tuple #[.agg #[.int .i64 n, .int .i64 c], .bool (decide (1 < c))]) ?_ rfl f1
        have x1 := cell_of_row _ _ 0 _ _ _ f2
        have x2 := cell_of_row _ _ 1 _ _ _ f2
        simp at x1 x2
        simp [results, Tryd.results84, go_sem, x1, x2]

end Go.Proofs.YthgeiolabecikaaDoor
