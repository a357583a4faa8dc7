/- The texts Rdn Rdo Kpa Kpb Bst Wrt3 Wrt5 Wrt4. -/
import Derived.Test.YtklenjmfalljgaaGreatDoorMF
import Derived.BigQuiet

/- The walks of Read, who recovers, and of Decode. -/
namespace Go.Proofs.YtklenjmfalljgaaGreatDoor
open Go.RowKit
attribute [local go_sem] Go.World.cell?_alloc_some

set_option maxRecDepth 100000 in
set_option maxHeartbeats 1000000 in
theorem catch_idle (pa pe : Addr) (w : World) :
    CallsD Tryz.prog 66 #[.pointer (some pa), .pointer (some pe)] .returning w fun e u' w' => e = .returned (.tuple #[]) ∧ u' = .returning ∧ w' = w := by
  refine callsD_of_wpS Tryz.func66 rfl fun c₀ cs hu => ?_
  apply wpS_seq
  apply wpS_region
  simp [wpOpsS, go_sem, recoverD, hu, Tryz.ntmps66, Exit.thenS]
  refine wpS_of_wp ?_
  have hrep : Array.replicate 11 undef = #[undef, undef, undef, undef, undef, undef, undef, undef, undef, undef, undef] := rfl
  simp only [hrep, List.append_toArray, List.setIfInBounds_toArray, List.set_cons_succ, List.set_cons_zero, List.cons_append, List.nil_append]
  go_wp2_with fail
  cases c₀
  simp_all [bodyPostS, results, Tryz.results66]

set_option maxRecDepth 100000 in
set_option maxHeartbeats 1000000 in
theorem catch_refused (ba be : Nat) (older : List PanicEntry) (a0 a1 a2 a3 a4 a5 : Value) (w : World) (hA : w.heap[ba]? = some (.cells #[a0, a1, a2, a3, a4] 49 (0, 0))) (hE : w.heap[be]? = some (.cells #[a5] 33 (0, 0))) (hab : ba ≠ be) :
    CallsD Tryz.prog 66 #[pt ba, pt be] (.panicking ({ v := .iface 140 (.int .i64 3), recovered := false } :: older)) w fun e u' w' => e = .returned (.tuple #[]) ∧ u' = .panicking ({ v := .iface 140 (.int .i64 3), recovered := true } :: older) ∧
      w' = ((((((w.setCell ⟨ba, 0, none⟩ (.slice none 0 0)).setCell ⟨ba, 1, none⟩ (.slice none 0 0)).setCell ⟨ba, 2, none⟩ (.int .i64 0)).setCell ⟨ba, 3, none⟩ (.int .i64 0)).setCell ⟨ba, 4, none⟩ (.int .i64 0)).setCell ⟨be, 0, none⟩ (.int .i64 3)) := by
  unfold pt
  refine callsD_of_wpS Tryz.func66 rfl fun c₀ cs hu => ?_
  apply wpS_seq
  apply wpS_region
  simp [wpOpsS, go_sem, recoverD, hu, Tryz.ntmps66, Exit.thenS]
  refine wpS_of_wp ?_
  have hrep : Array.replicate 11 undef = #[undef, undef, undef, undef, undef, undef, undef, undef, undef, undef, undef] := rfl
  simp only [hrep, List.append_toArray, List.setIfInBounds_toArray, List.set_cons_succ, List.set_cons_zero, List.cons_append, List.nil_append]
  have d0 : w.cell? ⟨ba, 0, none⟩ = some a0 := by simp [World.cell?, hA]
  have d1 : w.cell? ⟨ba, 1, none⟩ = some a1 := by simp [World.cell?, hA]
  have d2 : w.cell? ⟨ba, 2, none⟩ = some a2 := by simp [World.cell?, hA]
  have d3 : w.cell? ⟨ba, 3, none⟩ = some a3 := by simp [World.cell?, hA]
  have d4 : w.cell? ⟨ba, 4, none⟩ = some a4 := by simp [World.cell?, hA]
  have d5 : w.cell? ⟨be, 0, none⟩ = some a5 := by simp [World.cell?, hE]
  have z0 : w.frozen? ⟨ba, 0, none⟩ = false := by simp [World.frozen?, hA]
  have z1 : w.frozen? ⟨ba, 1, none⟩ = false := by simp [World.frozen?, hA]
  have z2 : w.frozen? ⟨ba, 2, none⟩ = false := by simp [World.frozen?, hA]
  have z3 : w.frozen? ⟨ba, 3, none⟩ = false := by simp [World.frozen?, hA]
  have z4 : w.frozen? ⟨ba, 4, none⟩ = false := by simp [World.frozen?, hA]
  have z5 : w.frozen? ⟨be, 0, none⟩ = false := by simp [World.frozen?, hE]
  have hba : ¬ be = ba := fun e => hab e.symm
  have hab' : ¬ ba = be := hab
  clear hA hE
  have hta : ∀ w : World, (Instr.typeAssert (.iface 140 (.int .i64 3)) 20 140 true).run Tryz.prog w = .ok (.tuple #[.int .i64 3, .bool true]) w := fun _ => by kernel_rfl
  go_wp2_with fail
  simp [bodyPostS, results, Tryz.results66]

/-- How bytes are read: who reads them has what he gets for himself alone. -/
def DecS (w : World) (L : Nat) (s : ByteArray) (e : Ending) (w' : World) : Prop := w.grownBy w' none ∧
  ((decB (byt s) = none ∧ e = .returned (.tuple #[artA (.slice none 0 0) (.slice none 0 0) (0, 0, 0), .int .i64 3])) ∨
  ∃ a tv sv, decB (byt s) = some a ∧ e = .returned (.tuple #[artA tv sv a.ver, .int .i64 0]) ∧ ThrAt L w'.heap.size w' tv a.prog ∧ w'.ownsRow L 3 1 sv a.sch.length (ints a.sch))

theorem two_set (w : World) (ba be : Nat) (a0 a1 a2 a3 a4 a5 : Value) (hA : w.heap[ba]? = some (.cells #[a0, a1, a2, a3, a4] 49 (0, 0))) (hE : w.heap[be]? = some (.cells #[a5] 33 (0, 0))) (hab : ba ≠ be) (b0 b1 b2 b3 b4 b5 : Value) :
    let w' := (((((w.setCell ⟨ba, 0, none⟩ b0).setCell ⟨ba, 1, none⟩ b1).setCell ⟨ba, 2, none⟩ b2).setCell ⟨ba, 3, none⟩ b3).setCell ⟨ba, 4, none⟩ b4).setCell ⟨be, 0, none⟩ b5
    w'.cell? ⟨ba, 0, none⟩ = some b0 ∧ w'.cell? ⟨ba, 1, none⟩ = some b1 ∧ w'.cell? ⟨ba, 2, none⟩ = some b2 ∧ w'.cell? ⟨ba, 3, none⟩ = some b3 ∧ w'.cell? ⟨ba, 4, none⟩ = some b4 ∧ w'.cell? ⟨be, 0, none⟩ = some b5 ∧
      (w'.os = w.os ∧ w'.tape = w.tape ∧ w'.output = w.output ∧ w'.heap.size = w.heap.size ∧ ∀ k, k ≠ ba → k ≠ be → w'.heap[k]? = w.heap[k]?) := by
  have h1 := heap_setCell_same w ba 0 _ _ b0 hA
  have h2 := heap_setCell_same _ ba 1 _ _ b1 h1
  have h3 := heap_setCell_same _ ba 2 _ _ b2 h2
  have h4 := heap_setCell_same _ ba 3 _ _ b3 h3
  have h5 := heap_setCell_same _ ba 4 _ _ b4 h4
  have g5 : ((((((w.setCell ⟨ba, 0, none⟩ b0).setCell ⟨ba, 1, none⟩ b1).setCell ⟨ba, 2, none⟩ b2).setCell ⟨ba, 3, none⟩ b3).setCell ⟨ba, 4, none⟩ b4)).heap[be]? = some (.cells #[a5] 33 (0, 0)) := by
    rw [heap_setCell_other _ _ _ _ (Ne.symm hab), heap_setCell_other _ _ _ _ (Ne.symm hab), heap_setCell_other _ _ _ _ (Ne.symm hab), heap_setCell_other _ _ _ _ (Ne.symm hab), heap_setCell_other _ _ _ _ (Ne.symm hab)]; exact hE
  have h6 := heap_setCell_same _ be 0 _ _ b5 g5
  have g6 : (((((((w.setCell ⟨ba, 0, none⟩ b0).setCell ⟨ba, 1, none⟩ b1).setCell ⟨ba, 2, none⟩ b2).setCell ⟨ba, 3, none⟩ b3).setCell ⟨ba, 4, none⟩ b4)).setCell ⟨be, 0, none⟩ b5).heap[ba]? = some (.cells #[b0, b1, b2, b3, b4] 49 (0, 0)) := by
    rw [heap_setCell_other _ _ _ _ hab]; exact h5
  refine ⟨?_, ?_, ?_, ?_, ?_, ?_, ?_⟩
  · simp [World.cell?, g6]
  · simp [World.cell?, g6]
  · simp [World.cell?, g6]
  · simp [World.cell?, g6]
  · simp [World.cell?, g6]
  · simp [World.cell?, h6]
  · have hg : w.grownBy (((((w.setCell ⟨ba, 0, none⟩ b0).setCell ⟨ba, 1, none⟩ b1).setCell ⟨ba, 2, none⟩ b2).setCell ⟨ba, 3, none⟩ b3).setCell ⟨ba, 4, none⟩ b4) (some ba) := grown_trans (grown_trans (grown_trans (grown_trans grown_set grown_set) grown_set) grown_set) grown_set
    have hg2 : (((((w.setCell ⟨ba, 0, none⟩ b0).setCell ⟨ba, 1, none⟩ b1).setCell ⟨ba, 2, none⟩ b2).setCell ⟨ba, 3, none⟩ b3).setCell ⟨ba, 4, none⟩ b4).grownBy ((((((w.setCell ⟨ba, 0, none⟩ b0).setCell ⟨ba, 1, none⟩ b1).setCell ⟨ba, 2, none⟩ b2).setCell ⟨ba, 3, none⟩ b3).setCell ⟨ba, 4, none⟩ b4).setCell ⟨be, 0, none⟩ b5) (some be) := grown_set
    refine ⟨hg2.os.trans hg.os, hg2.tape.trans hg.tape, hg2.output.trans hg.output, by simp, fun k h1 h2 => ?_⟩
    rw [heap_setCell_other _ _ _ _ h2, heap_setCell_other _ _ _ _ h1, heap_setCell_other _ _ _ _ h1, heap_setCell_other _ _ _ _ h1, heap_setCell_other _ _ _ _ h1, heap_setCell_other _ _ _ _ h1]

theorem grown_two {w w3 w4 wz : World} {b ba be : Nat} (h : w.grownBy w3 none) (h' : w3.grownBy w4 (some b)) (hz : wz.os = w4.os ∧ wz.tape = w4.tape ∧ wz.output = w4.output ∧ wz.heap.size = w4.heap.size ∧ ∀ k, k ≠ ba → k ≠ be → wz.heap[k]? = w4.heap[k]?)
    (hb : w.heap.size ≤ b) (ha : w.heap.size ≤ ba) (he : w.heap.size ≤ be) : w.grownBy wz none :=
  ⟨hz.1.trans (h'.os.trans h.os), hz.2.1.trans (h'.tape.trans h.tape), hz.2.2.1.trans (h'.output.trans h.output), by rw [hz.2.2.2.1]; exact Nat.le_trans h.size h'.size, fun k hk _ => by
    rw [hz.2.2.2.2 k (by omega) (by omega), h'.block k (Nat.lt_of_lt_of_le hk h.size) (fun e => by simp only [Option.some.injEq] at e; omega)]; exact h.block k hk (by simp)⟩

theorem grown_rd {w w3 w4 : World} {b : Nat} (h : w.grownBy w3 none) (h' : w3.grownBy w4 (some b)) (hb : w.heap.size ≤ b) : w.grownBy w4 none :=
  ⟨h'.os.trans h.os, h'.tape.trans h.tape, h'.output.trans h.output, Nat.le_trans h.size h'.size, fun k hk _ => by
    rw [h'.block k (Nat.lt_of_lt_of_le hk h.size) (fun e => by simp only [Option.some.injEq] at e; omega)]; exact h.block k hk (by simp)⟩

set_option maxRecDepth 100000 in
set_option maxHeartbeats 1000000 in
theorem read_m (s : ByteArray) (w : World) (hSh : ShpAt w) (hs : s.size ≤ 9223372036854775806) :
    Calls Tryz.prog 40 #[.string s] w (DecS w (w.heap.size + 5) s) := by
  have hmf : ∀ (fn : Fn) (first cap : Array Value) (w : World), (Instr.makeFunc fn first cap).run Tryz.prog w = .ok (.func fn first cap) w := fun _ _ _ _ => rfl
  have HSh := hide hSh
  clear hSh
  go_enter_defers Tryz.func40, Tryz.ntmps40
  go_wp2_with fail
  have hg3 : w.grownBy (((w.alloc (.cells #[.slice none 0 0, .slice none 0 0, .int .i64 0, .int .i64 0, .int .i64 0] 49)).alloc (.cells #[.int .i64 0] 33)).alloc (.cells #[.string s, .int .i64 0] 142)) none := grown_alloc (grown_alloc (grown_alloc (grown_refl _ _)))
  have hA3 : (((w.alloc (.cells #[.slice none 0 0, .slice none 0 0, .int .i64 0, .int .i64 0, .int .i64 0] 49)).alloc (.cells #[.int .i64 0] 33)).alloc (.cells #[.string s, .int .i64 0] 142)).heap[w.heap.size]? = some (.cells #[.slice none 0 0, .slice none 0 0, .int .i64 0, .int .i64 0, .int .i64 0] 49 (0, 0)) := by
    rw [Below.heap_alloc _ _ _ (by simp; omega), Below.heap_alloc _ _ _ (by simp)]; exact heap_alloc_new _ _
  have hE3 : (((w.alloc (.cells #[.slice none 0 0, .slice none 0 0, .int .i64 0, .int .i64 0, .int .i64 0] 49)).alloc (.cells #[.int .i64 0] 33)).alloc (.cells #[.string s, .int .i64 0] 142)).heap[w.heap.size + 1]? = some (.cells #[.int .i64 0] 33 (0, 0)) := by
    rw [Below.heap_alloc _ _ _ (by simp)]
    have := heap_alloc_new (w.alloc (.cells #[.slice none 0 0, .slice none 0 0, .int .i64 0, .int .i64 0, .int .i64 0] 49)) (.cells #[.int .i64 0] 33)
    simpa using this
  have hR3 : (((w.alloc (.cells #[.slice none 0 0, .slice none 0 0, .int .i64 0, .int .i64 0, .int .i64 0] 49)).alloc (.cells #[.int .i64 0] 33)).alloc (.cells #[.string s, .int .i64 0] 142)).heap[w.heap.size + 1 + 1]? = some (.cells #[.string s, .int .i64 0] 142 (0, 0)) := by
    have := heap_alloc_new ((w.alloc (.cells #[.slice none 0 0, .slice none 0 0, .int .i64 0, .int .i64 0, .int .i64 0] 49)).alloc (.cells #[.int .i64 0] 33)) (.cells #[.string s, .int .i64 0] 142)
    simpa using this
  have hz3 : (((w.alloc (.cells #[.slice none 0 0, .slice none 0 0, .int .i64 0, .int .i64 0, .int .i64 0] 49)).alloc (.cells #[.int .i64 0] 33)).alloc (.cells #[.string s, .int .i64 0] 142)).heap.size = w.heap.size + 3 := by simp
  generalize (((w.alloc (.cells #[.slice none 0 0, .slice none 0 0, .int .i64 0, .int .i64 0, .int .i64 0] 49)).alloc (.cells #[.int .i64 0] 33)).alloc (.cells #[.string s, .int .i64 0] 142)) = w3 at hg3 hA3 hE3 hR3 hz3 ⊢
  have HAR := hide (artifact_r w3 (w.heap.size + 1 + 1) s (ShpAt.pres HSh.out (pres_grown hg3)) (by omega) ⟨hR3, grown_refl _ _, Nat.zero_le _⟩ hs)
  have HL : Hid (w3.heap.size + 2 = w.heap.size + 5) := by unfold Hid; omega
  have HG3 := hide hg3
  have hblk : ∀ w4, w3.grownBy w4 (some (w.heap.size + 1 + 1)) → w4.heap[w.heap.size]? = some (.cells #[.slice none 0 0, .slice none 0 0, .int .i64 0, .int .i64 0, .int .i64 0] 49 (0, 0)) ∧ w4.heap[w.heap.size + 1]? = some (.cells #[.int .i64 0] 33 (0, 0)) := fun w4 hg =>
    ⟨by rw [hg.block _ (by omega) (by simp only [ne_eq, Option.some.injEq]; omega)]; exact hA3, by rw [hg.block _ (by omega) (by simp only [ne_eq, Option.some.injEq]; omega)]; exact hE3⟩
  have HBK := hide hblk
  clear hg3 hA3 hE3 hR3 hz3 hblk
  refine HAR.out.mono ?_
  rintro e w4 (⟨hr, rfl, hg⟩ | ⟨a, tv, sv, hr, rfl, ht, ho, hg⟩)
  · have HR := hide hr
    obtain ⟨hA4, hE4⟩ := HBK.out w4 hg
    have HG := hide hg
    clear hr hg
    go_wp2_with fail
    refine leaves_cons (f := 66) (args := #[pt w.heap.size, pt (w.heap.size + 1)]) (by simp) (by simp [go_sem, pt]) ?_
    refine (catch_refused w.heap.size (w.heap.size + 1) [] _ _ _ _ _ _ w4 hA4 hE4 (by omega)).mono ?_
    rintro e u' w5 ⟨rfl, rfl, rfl⟩
    have J := two_set w4 w.heap.size (w.heap.size + 1) _ _ _ _ _ _ hA4 hE4 (by omega) (.slice none 0 0) (.slice none 0 0) (.int .i64 0) (.int .i64 0) (.int .i64 0) (.int .i64 3)
    generalize ((((((w4.setCell ⟨w.heap.size, 0, none⟩ (.slice none 0 0)).setCell ⟨w.heap.size, 1, none⟩ (.slice none 0 0)).setCell ⟨w.heap.size, 2, none⟩ (.int .i64 0)).setCell ⟨w.heap.size, 3, none⟩ (.int .i64 0)).setCell ⟨w.heap.size, 4, none⟩ (.int .i64 0)).setCell ⟨w.heap.size + 1, 0, none⟩ (.int .i64 3)) = wz at J ⊢
    obtain ⟨e0, e1, e2, e3, e4, e5, hz⟩ := J
    simp [Leaves, settle, results, Tryz.results40, go_sem, e0, e1, e2, e3, e4, e5]
    refine ⟨grown_two HG3.out HG.out hz (by omega) (by omega) (by omega), Or.inl ⟨HR.out, rfl⟩⟩
  · have HR := hide hr
    obtain ⟨hA4, hE4⟩ := HBK.out w4 hg
    have HG := hide hg
    obtain ⟨t1, t2, t3, rfl⟩ := owns_form ht.choose_spec.1
    obtain ⟨s1, s2, s3, rfl⟩ := owns_form ho
    obtain ⟨p, l, x1, x2, x3⟩ := a
    have HT := hide ht
    have HO := hide ho
    have d0 : w4.cell? ⟨w.heap.size, 0, none⟩ = some (.slice none 0 0) := by simp [World.cell?, hA4]
    have z0 : w4.frozen? ⟨w.heap.size, 0, none⟩ = false := by simp [World.frozen?, hA4]
    have d1 : w4.cell? ⟨w.heap.size, 1, none⟩ = some (.slice none 0 0) := by simp [World.cell?, hA4]
    have z1 : w4.frozen? ⟨w.heap.size, 1, none⟩ = false := by simp [World.frozen?, hA4]
    have d2 : w4.cell? ⟨w.heap.size, 2, none⟩ = some (.int .i64 0) := by simp [World.cell?, hA4]
    have z2 : w4.frozen? ⟨w.heap.size, 2, none⟩ = false := by simp [World.frozen?, hA4]
    have d3 : w4.cell? ⟨w.heap.size, 3, none⟩ = some (.int .i64 0) := by simp [World.cell?, hA4]
    have z3 : w4.frozen? ⟨w.heap.size, 3, none⟩ = false := by simp [World.frozen?, hA4]
    have d4 : w4.cell? ⟨w.heap.size, 4, none⟩ = some (.int .i64 0) := by simp [World.cell?, hA4]
    have z4 : w4.frozen? ⟨w.heap.size, 4, none⟩ = false := by simp [World.frozen?, hA4]
    have d5 : w4.cell? ⟨w.heap.size + 1, 0, none⟩ = some (.int .i64 0) := by simp [World.cell?, hE4]
    have z5 : w4.frozen? ⟨w.heap.size + 1, 0, none⟩ = false := by simp [World.frozen?, hE4]
    clear hr hg ht ho
    unfold artA
    simp only at HT HO ⊢
    go_wp2_with fail
    refine leaves_cons (f := 66) (args := #[pt w.heap.size, pt (w.heap.size + 1)]) (by simp) (by simp [go_sem, pt]) ?_
    refine (catch_idle ⟨w.heap.size, 0, none⟩ ⟨w.heap.size + 1, 0, none⟩ _).mono ?_
    rintro e u' w5 ⟨rfl, rfl, rfl⟩
    have J := two_set w4 w.heap.size (w.heap.size + 1) _ _ _ _ _ _ hA4 hE4 (by omega) (.slice t1 t2 t3) (.slice s1 s2 s3) (.int .i64 x1) (.int .i64 x2) (.int .i64 x3) (.int .i64 0)
    have HT5 := hide (thr_below (g := w.heap.size + 1) (o := 0) (u := .int .i64 0) (thr_below (g := w.heap.size) (o := 4) (u := .int .i64 x3) (thr_below (g := w.heap.size) (o := 3) (u := .int .i64 x2) (thr_below (g := w.heap.size) (o := 2) (u := .int .i64 x1) (thr_below (g := w.heap.size) (o := 1) (u := .slice s1 s2 s3) (thr_below (g := w.heap.size) (o := 0) (u := .slice t1 t2 t3) HT.out (by have := HL.out; omega)) (by have := HL.out; omega)) (by have := HL.out; omega)) (by have := HL.out; omega)) (by have := HL.out; omega)) (by have := HL.out; omega))
    have HO5 := hide (owns_below (g := w.heap.size + 1) (o := 0) (u := .int .i64 0) (owns_below (g := w.heap.size) (o := 4) (u := .int .i64 x3) (owns_below (g := w.heap.size) (o := 3) (u := .int .i64 x2) (owns_below (g := w.heap.size) (o := 2) (u := .int .i64 x1) (owns_below (g := w.heap.size) (o := 1) (u := .slice s1 s2 s3) (owns_below (g := w.heap.size) (o := 0) (u := .slice t1 t2 t3) HO.out (by have := HL.out; omega)) (by have := HL.out; omega)) (by have := HL.out; omega)) (by have := HL.out; omega)) (by have := HL.out; omega)) (by have := HL.out; omega))
    generalize ((((((w4.setCell ⟨w.heap.size, 0, none⟩ (.slice t1 t2 t3)).setCell ⟨w.heap.size, 1, none⟩ (.slice s1 s2 s3)).setCell ⟨w.heap.size, 2, none⟩ (.int .i64 x1)).setCell ⟨w.heap.size, 3, none⟩ (.int .i64 x2)).setCell ⟨w.heap.size, 4, none⟩ (.int .i64 x3)).setCell ⟨w.heap.size + 1, 0, none⟩ (.int .i64 0)) = wz at J HT5 HO5 ⊢
    obtain ⟨e0, e1, e2, e3, e4, e5, hz⟩ := J
    simp [Leaves, settle, results, Tryz.results40, go_sem, e0, e1, e2, e3, e4, e5]
    have HT6 := HT5.out
    have HO6 := HO5.out
    rw [HL.out] at HT6 HO6
    exact ⟨grown_two HG3.out HG.out hz (by omega) (by omega) (by omega), Or.inr ⟨_, _, _, HR.out, rfl, HT6, HO6⟩⟩

end Go.Proofs.YtklenjmfalljgaaGreatDoor

/- The walk of Decode. -/
namespace Go.Proofs.YtklenjmfalljgaaGreatDoor
open Go.RowKit
attribute [local go_sem] Go.World.cell?_alloc_some

theorem one_set (w : World) (ba : Nat) (a0 a1 a2 a3 a4 : Value) (hA : w.heap[ba]? = some (.cells #[a0, a1, a2, a3, a4] 49 (0, 0))) (b0 b1 b2 b3 b4 : Value) :
    let w' := ((((w.setCell ⟨ba, 0, none⟩ b0).setCell ⟨ba, 1, none⟩ b1).setCell ⟨ba, 2, none⟩ b2).setCell ⟨ba, 3, none⟩ b3).setCell ⟨ba, 4, none⟩ b4
    w'.cell? ⟨ba, 0, none⟩ = some b0 ∧ w'.cell? ⟨ba, 1, none⟩ = some b1 ∧ w'.cell? ⟨ba, 2, none⟩ = some b2 ∧ w'.cell? ⟨ba, 3, none⟩ = some b3 ∧ w'.cell? ⟨ba, 4, none⟩ = some b4 ∧ w.grownBy w' (some ba) := by
  have h1 := heap_setCell_same w ba 0 _ _ b0 hA
  have h2 := heap_setCell_same _ ba 1 _ _ b1 h1
  have h3 := heap_setCell_same _ ba 2 _ _ b2 h2
  have h4 := heap_setCell_same _ ba 3 _ _ b3 h3
  have h5 := heap_setCell_same _ ba 4 _ _ b4 h4
  refine ⟨?_, ?_, ?_, ?_, ?_, grown_trans (grown_trans (grown_trans (grown_trans grown_set grown_set) grown_set) grown_set) grown_set⟩
  · simp [World.cell?, h5]
  · simp [World.cell?, h5]
  · simp [World.cell?, h5]
  · simp [World.cell?, h5]
  · simp [World.cell?, h5]

set_option maxRecDepth 100000 in
set_option maxHeartbeats 1000000 in
theorem decode_m (s : ByteArray) (w : World) (hSh : ShpAt w) (hs : s.size ≤ 9223372036854775806) :
    Calls Tryz.prog 13 #[.string s] w (DecS w (w.heap.size + 6) s) := by
  have HSh := hide hSh
  clear hSh
  go_enter Tryz.func13, Tryz.ntmps13
  go_wp2_with fail
  have hg1 : w.grownBy (w.alloc (.cells #[.slice none 0 0, .slice none 0 0, .int .i64 0, .int .i64 0, .int .i64 0] 49)) none := grown_alloc (grown_refl _ _)
  have hA1 := heap_alloc_new w (.cells #[.slice none 0 0, .slice none 0 0, .int .i64 0, .int .i64 0, .int .i64 0] 49)
  have hz1 : (w.alloc (.cells #[.slice none 0 0, .slice none 0 0, .int .i64 0, .int .i64 0, .int .i64 0] 49)).heap.size = w.heap.size + 1 := by simp
  generalize w.alloc (.cells #[.slice none 0 0, .slice none 0 0, .int .i64 0, .int .i64 0, .int .i64 0] 49) = w1 at hg1 hA1 hz1 ⊢
  have HRD := hide (read_m s w1 (ShpAt.pres HSh.out (pres_grown hg1)) hs)
  have HL : Hid (w1.heap.size + 5 = w.heap.size + 6) := by unfold Hid; omega
  rw [HL.out] at HRD
  have HG1 := hide hg1
  refine HRD.out.mono ?_
  rintro e w2 ⟨hg2, hr⟩
  have hA2 : w2.heap[w.heap.size]? = some (.cells #[.slice none 0 0, .slice none 0 0, .int .i64 0, .int .i64 0, .int .i64 0] 49 (0, 0)) := by
    rw [hg2.block _ (by omega) (by simp)]; exact hA1
  have HG2 := hide (grown_trans HG1.out hg2)
  clear hg1 hA1 hg2 hz1
  rcases hr with ⟨hr, rfl⟩ | ⟨a, tv, sv, hr, rfl, ht, ho⟩
  · have HR := hide hr
    have d0 : w2.cell? ⟨w.heap.size, 0, none⟩ = some (.slice none 0 0) := by simp [World.cell?, hA2]
    have z0 : w2.frozen? ⟨w.heap.size, 0, none⟩ = false := by simp [World.frozen?, hA2]
    have d1 : w2.cell? ⟨w.heap.size, 1, none⟩ = some (.slice none 0 0) := by simp [World.cell?, hA2]
    have z1 : w2.frozen? ⟨w.heap.size, 1, none⟩ = false := by simp [World.frozen?, hA2]
    have d2 : w2.cell? ⟨w.heap.size, 2, none⟩ = some (.int .i64 0) := by simp [World.cell?, hA2]
    have z2 : w2.frozen? ⟨w.heap.size, 2, none⟩ = false := by simp [World.frozen?, hA2]
    have d3 : w2.cell? ⟨w.heap.size, 3, none⟩ = some (.int .i64 0) := by simp [World.cell?, hA2]
    have z3 : w2.frozen? ⟨w.heap.size, 3, none⟩ = false := by simp [World.frozen?, hA2]
    have d4 : w2.cell? ⟨w.heap.size, 4, none⟩ = some (.int .i64 0) := by simp [World.cell?, hA2]
    have z4 : w2.frozen? ⟨w.heap.size, 4, none⟩ = false := by simp [World.frozen?, hA2]
    clear hr
    unfold artA
    simp only
    go_wp2_with fail
    have J := one_set w2 w.heap.size _ _ _ _ _ hA2 (.slice none 0 0) (.slice none 0 0) (.int .i64 0) (.int .i64 0) (.int .i64 0)
    clear d0 d1 d2 d3 d4 z0 z1 z2 z3 z4
    generalize (((((w2.setCell ⟨w.heap.size, 0, none⟩ (.slice none 0 0)).setCell ⟨w.heap.size, 1, none⟩ (.slice none 0 0)).setCell ⟨w.heap.size, 2, none⟩ (.int .i64 0)).setCell ⟨w.heap.size, 3, none⟩ (.int .i64 0)).setCell ⟨w.heap.size, 4, none⟩ (.int .i64 0)) = wz at J ⊢
    obtain ⟨e0, e1, e2, e3, e4, hz⟩ := J
    refine bodyPost_ret (v := .tuple #[.agg #[.slice none 0 0, .slice none 0 0, .int .i64 0, .int .i64 0, .int .i64 0], .int .i64 3]) ?_ rfl ?_
    · simp [results, Tryz.results13, go_sem, e0, e1, e2, e3, e4]
    · exact ⟨grown_rd HG2.out hz (Nat.le_refl _), Or.inl ⟨HR.out, rfl⟩⟩
  · have HR := hide hr
    obtain ⟨t1, t2, t3, rfl⟩ := owns_form ht.choose_spec.1
    obtain ⟨s1, s2, s3, rfl⟩ := owns_form ho
    obtain ⟨p, l, x1, x2, x3⟩ := a
    have HT := hide ht
    have HO := hide ho
    have d0 : w2.cell? ⟨w.heap.size, 0, none⟩ = some (.slice none 0 0) := by simp [World.cell?, hA2]
    have z0 : w2.frozen? ⟨w.heap.size, 0, none⟩ = false := by simp [World.frozen?, hA2]
    have d1 : w2.cell? ⟨w.heap.size, 1, none⟩ = some (.slice none 0 0) := by simp [World.cell?, hA2]
    have z1 : w2.frozen? ⟨w.heap.size, 1, none⟩ = false := by simp [World.frozen?, hA2]
    have d2 : w2.cell? ⟨w.heap.size, 2, none⟩ = some (.int .i64 0) := by simp [World.cell?, hA2]
    have z2 : w2.frozen? ⟨w.heap.size, 2, none⟩ = false := by simp [World.frozen?, hA2]
    have d3 : w2.cell? ⟨w.heap.size, 3, none⟩ = some (.int .i64 0) := by simp [World.cell?, hA2]
    have z3 : w2.frozen? ⟨w.heap.size, 3, none⟩ = false := by simp [World.frozen?, hA2]
    have d4 : w2.cell? ⟨w.heap.size, 4, none⟩ = some (.int .i64 0) := by simp [World.cell?, hA2]
    have z4 : w2.frozen? ⟨w.heap.size, 4, none⟩ = false := by simp [World.frozen?, hA2]
    clear hr ht ho
    unfold artA
    simp only at HT HO ⊢
    go_wp2_with fail
    have J := one_set w2 w.heap.size _ _ _ _ _ hA2 (.slice t1 t2 t3) (.slice s1 s2 s3) (.int .i64 x1) (.int .i64 x2) (.int .i64 x3)
    have HT5 := hide (thr_below (g := w.heap.size) (o := 4) (u := .int .i64 x3) (thr_below (g := w.heap.size) (o := 3) (u := .int .i64 x2) (thr_below (g := w.heap.size) (o := 2) (u := .int .i64 x1) (thr_below (g := w.heap.size) (o := 1) (u := .slice s1 s2 s3) (thr_below (g := w.heap.size) (o := 0) (u := .slice t1 t2 t3) HT.out (by omega)) (by omega)) (by omega)) (by omega)) (by omega))
    have HO5 := hide (owns_below (g := w.heap.size) (o := 4) (u := .int .i64 x3) (owns_below (g := w.heap.size) (o := 3) (u := .int .i64 x2) (owns_below (g := w.heap.size) (o := 2) (u := .int .i64 x1) (owns_below (g := w.heap.size) (o := 1) (u := .slice s1 s2 s3) (owns_below (g := w.heap.size) (o := 0) (u := .slice t1 t2 t3) HO.out (by omega)) (by omega)) (by omega)) (by omega)) (by omega))
    clear d0 d1 d2 d3 d4 z0 z1 z2 z3 z4
    generalize (((((w2.setCell ⟨w.heap.size, 0, none⟩ (.slice t1 t2 t3)).setCell ⟨w.heap.size, 1, none⟩ (.slice s1 s2 s3)).setCell ⟨w.heap.size, 2, none⟩ (.int .i64 x1)).setCell ⟨w.heap.size, 3, none⟩ (.int .i64 x2)).setCell ⟨w.heap.size, 4, none⟩ (.int .i64 x3)) = wz at J HT5 HO5 ⊢
    obtain ⟨e0, e1, e2, e3, e4, hz⟩ := J
    refine bodyPost_ret (v := .tuple #[.agg #[.slice t1 t2 t3, .slice s1 s2 s3, .int .i64 x1, .int .i64 x2, .int .i64 x3], .int .i64 0]) ?_ rfl ?_
    · simp [results, Tryz.results13, go_sem, e0, e1, e2, e3, e4]
    · exact ⟨grown_rd HG2.out hz (Nat.le_refl _), Or.inr ⟨_, _, _, HR.out, rfl, HT5.out, HO5.out⟩⟩

end Go.Proofs.YtklenjmfalljgaaGreatDoor

/- The walks of the keep's same and artifact. -/
namespace Go.Proofs.YtklenjmfalljgaaGreatDoor
open Go.RowKit
attribute [local go_sem] Go.World.cell?_alloc_some

set_option maxRecDepth 100000 in
set_option maxHeartbeats 1000000 in
theorem same_k (l : List Int) (v u : Value) (w : World) (hI : IntsAt w.heap.size w v l) (hJ : IntsAt w.heap.size w u l) (hln : l.length ≤ 9223372036854775806) :
    Calls Tryz.prog 17 #[v, u] w fun e w' => e = .returned (.bool true) ∧ Like w' w := by
  obtain ⟨ao, cap, rfl, hcap, hc⟩ := hI
  obtain ⟨bo, dap, rfl, hdap, hd⟩ := hJ
  have HC := hide hc
  have HD := hide hd
  clear hc hd
  go_enter Tryz.func17, Tryz.ntmps17
  go_wp2_with fail
  go_loopw [5] (fun i w' => ∃ k : Nat, k ≤ l.length ∧ i = .int .i64 k ∧ Hid (Like w' w)) (fun i _ => l.length - (intOf i).toNat)
  case atStart => exact ⟨0, Nat.zero_le _, rfl, hide (like_refl _)⟩
  case round =>
    obtain ⟨k, hk, rfl, HK⟩ := hrel
    obtain ⟨w5, hw5⟩ : ∃ w5, w5 = wr := ⟨_, rfl⟩
    subst hw5
    by_cases hlt : k < l.length
    · obtain ⟨g, o, rfl, _, c0⟩ := HC.out k hlt
      obtain ⟨g2, o2, rfl, _, c1⟩ := HD.out k hlt
      have cL : ∀ a, w5.cell? a = w.cell? a := fun a => by simp [World.cell?, HK.out.1]
      have d0 : w5.cell? ⟨g, o + k, none⟩ = some (.int .i64 l[k]) := by rw [cL]; exact c0
      have d1 : w5.cell? ⟨g2, o2 + k, none⟩ = some (.int .i64 l[k]) := by rw [cL]; exact c1
      have hk0 : (0 : Int) ≤ (k : Int) := by omega
      have hk1 : (k : Int) < l.length := by omega
      clear cL c0 c1
      generalize l[k] = x at *
      go_wp2_with fail
      go_quiet (fail)
      go_wp2_with fail
      go_roundw
      case rel => exact ⟨k + 1, by omega, by go_num, hide (like_dn HK.out _)⟩
      case measure => simp [intOf]; omega
    · have hk1 : ¬ (k : Int) < l.length := by omega
      go_wp2_with fail
      go_ret
      exact ⟨rfl, HK.out⟩

theorem RawAt.grown {w w' : World} {v : Value} {l : List (List Int)} (h : RawAt w v l) (hg : w.grownBy w' none) : RawAt w' v l := by
  obtain ⟨ao, cap, e, h⟩ := h
  refine ⟨ao, cap, e, fun t ht => ?_⟩
  obtain ⟨g, o, e1, rv, e2, e3⟩ := h t ht
  exact ⟨g, o, e1, rv, pres_grown hg _ _ e2, (e3.pres (pres_grown hg)).mono hg.size⟩

def schN (s : List Int) : List Int := (s.take 500).map fun c => pickN c 64
def verM (m : Int) : Int × Int × Int := (1 + m % 5, m / 5 % 4, m / 20)
def verN (n : Int) : Int × Int × Int := verM (pickN n 10020)
theorem verM_ok {m : Int} (h0 : 0 ≤ m) (h1 : m < 10020) : verOk (verM m) = true := by
  unfold verOk verM
  simp only [Bool.and_eq_true, decide_eq_true_eq]
  omega
theorem schN_valid (s : List Int) : validS (schN s) = true := by
  unfold validS schN
  simp only [Bool.and_eq_true, decide_eq_true_eq, List.all_eq_true, List.length_map, List.length_take, List.mem_map]
  refine ⟨by omega, ?_⟩
  rintro x ⟨c, _, rfl⟩
  have := pickN_range c 64 (by omega)
  exact ⟨this.1, by omega⟩

/-- In the midst of artifact: k numbers of the schedule are there. -/
structure ArtO (w1 w : World) (tv : Value) (sv : Value) (s : List Int) : Prop where
  blk : w.heap[w1.heap.size]? = some (.cells #[tv, sv, .int .i64 0, .int .i64 0, .int .i64 0] 49 (0, 0))
  row : w.ownsRow (w1.heap.size + 1) 3 1 sv s.length (ints s)
  base : w1.grownBy w none

theorem ints_snoc' (L : List Int) (y : Int) : ints (L ++ [y]) = ints L ++ [.int .i64 y] := by simp [ints]
theorem ArtO.push {w1 w w6 : World} {tv sv nv : Value} {L : List Int} {y : Int} {o : Obj} (h : ArtO w1 w tv sv L) (hown : w6.ownsRow (w1.heap.size + 1) 3 1 nv (L.length + 1) (ints L ++ [.int .i64 y])) (hg : (w.drew.alloc o).grownBy w6 sv.ownBlock) :
    ArtO w1 (w6.setCell ⟨w1.heap.size, 1, none⟩ nv) tv nv (L ++ [y]) ∧ w6.cell? ⟨w1.heap.size, 1, none⟩ = some sv ∧ w6.frozen? ⟨w1.heap.size, 1, none⟩ = false ∧ w1.grownBy w6 none := by
  have hlt := (Array.getElem?_eq_some_iff.1 h.blk).1
  have hob : ∀ q, sv.ownBlock = some q → w1.heap.size + 1 ≤ q := fun q e => owns_block h.row q e
  have hb6 : w6.heap[w1.heap.size]? = some (.cells #[tv, sv, .int .i64 0, .int .i64 0, .int .i64 0] 49 (0, 0)) := by
    rw [hg.block _ (by show _ < (w.heap.push o).size; simp; omega) (fun e => by have := hob _ e.symm; omega), Below.heap_alloc w.drew _ _ hlt]
    exact h.blk
  have hg6 : w1.grownBy w6 none := grown_row (grown_alloc (grown_drew h.base)) hg (fun q e => by have := hob q e; omega)
  refine ⟨⟨?_, ?_, grown_setNew hg6 (Nat.le_refl _)⟩, by simp [World.cell?, hb6], by simp [World.frozen?, hb6], hg6⟩
  · rw [heap_setCell_same _ _ 1 _ _ _ hb6]; rfl
  · rw [ints_snoc', List.length_append]
    exact owns_below hown (by omega)

theorem three_set (w : World) (ba : Nat) (a0 a1 a2 a3 a4 : Value) (hA : w.heap[ba]? = some (.cells #[a0, a1, a2, a3, a4] 49 (0, 0))) (b2 b3 b4 : Value) :
    let w' := ((w.setCell ⟨ba, 2, none⟩ b2).setCell ⟨ba, 3, none⟩ b3).setCell ⟨ba, 4, none⟩ b4
    w'.heap[ba]? = some (.cells #[a0, a1, b2, b3, b4] 49 (0, 0)) ∧ w.grownBy w' (some ba) := by
  have h3 := heap_setCell_same w ba 2 _ _ b2 hA
  have h4 := heap_setCell_same _ ba 3 _ _ b3 h3
  have h5 := heap_setCell_same _ ba 4 _ _ b4 h4
  exact ⟨h5, grown_trans (grown_trans grown_set grown_set) grown_set⟩

theorem artifact_end {w w1 w6 wz : World} {tv sv : Value} {p : List (List Ins)} {s : List Int} {m : Int} {L : Nat} (hP : ThrAt L w1.heap.size w1 tv p) (hL : w.heap.size < L) (hR : w6.ownsRow (w1.heap.size + 1) 3 1 sv s.length (ints s))
    (hG6 : w1.grownBy w6 none) (hG2 : w.grownBy w1 none) (hz : w6.grownBy wz (some w.heap.size)) (hw : w.heap.size < w1.heap.size) :
    ∃ tv' sv', Ending.returned (.agg #[tv, sv, .int .i64 (1 + m % 5), .int .i64 (m / 5 % 4), .int .i64 (m / 20)]) = .returned (artA tv' sv' (verM m)) ∧ ProgAt wz (.agg #[tv']) p ∧ IntsAt wz.heap.size wz sv' s ∧ w.grownBy wz none :=
  ⟨tv, sv, rfl, ((hP.step hG6 (fun q e => by cases e)).step hz (fun q e => by cases e; exact Or.inl hL)).progAt, owns_ints (owns_grown hR hz (fun q e => by cases e; omega)), grown_rd (grown_trans hG2 hG6) hz (Nat.le_refl _)⟩

set_option maxRecDepth 100000 in
set_option maxHeartbeats 4000000 in
theorem artifact_k (raw : List (List Int)) (rv : Value) (sch : List Int) (cv : Value) (n : Int) (w : World) (hR : RawAt w rv raw) (hb : ∀ t (ht : t < raw.length) k (hk : k < raw[t].length), isInt raw[t][k])
    (hI : IntsAt w.heap.size w cv sch) (hbs : ∀ k (hk : k < sch.length), isInt sch[k]) (hn : isInt n) :
    Calls Tryz.prog 11 #[rv, cv, .int .i64 n] w fun e w' => ∃ tv sv, e = .returned (artA tv sv (verN n)) ∧ ProgAt w' (.agg #[tv]) (progN raw) ∧ IntsAt w'.heap.size w' sv (schN sch) ∧ w.grownBy w' none := by
  obtain ⟨i0, hi0, hz0, hz1, hz2⟩ := info_parts info_int
  have HPG := hide (fun (w' : World) (hg : w.grownBy w' none) => program_t raw rv w' (hR.grown hg) hb)
  obtain ⟨ra, rc, hre⟩ : ∃ ra rc, rv = .slice ra raw.length rc := ⟨_, _, hR.choose_spec.choose_spec.1⟩
  obtain ⟨ca, cc, rfl, hcap, hc⟩ := hI
  have HC := hide hc
  have HB := hide hbs
  subst hre
  have HPK := hide (pick_m n 10020 (by omega) (by omega) hn.1 hn.2)
  have hpr := pickN_range n 10020 (by omega)
  unfold verN
  generalize pickN n 10020 = m at *
  clear hR hb hc hbs
  go_enter Tryz.func11, Tryz.ntmps11
  go_wp2_with fail
  have hg1 : w.grownBy (w.alloc (.cells #[.slice none 0 0, .slice none 0 0, .int .i64 0, .int .i64 0, .int .i64 0] 49)) none := grown_alloc (grown_refl _ _)
  have hA1 := heap_alloc_new w (.cells #[.slice none 0 0, .slice none 0 0, .int .i64 0, .int .i64 0, .int .i64 0] 49)
  generalize w.alloc (.cells #[.slice none 0 0, .slice none 0 0, .int .i64 0, .int .i64 0, .int .i64 0] 49) = w0 at hg1 hA1 ⊢
  refine (HPG.out w0 hg1).mono ?_
  rintro e w1 ⟨tv, rfl, hT, hg2⟩
  have HPB := hide hT
  have hL0 : w.heap.size < w0.heap.size + 2 := by have := (Array.getElem?_eq_some_iff.1 hA1).1; omega
  obtain ⟨ta, tc, e1⟩ := hT.progAt.form
  simp only [Value.agg.injEq, Array.mk.injEq, List.cons.injEq, and_true] at e1
  subst e1
  have hA2 : w1.heap[w.heap.size]? = some (.cells #[.slice none 0 0, .slice none 0 0, .int .i64 0, .int .i64 0, .int .i64 0] 49 (0, 0)) := by
    rw [hg2.block _ (Array.getElem?_eq_some_iff.1 hA1).1 (by simp)]; exact hA1
  have HG2 := hide (grown_trans hg1 hg2)
  have hw01 : w.heap.size < w1.heap.size := (Array.getElem?_eq_some_iff.1 hA2).1
  have HA2 := hide hA2
  clear hg1 hA1 hg2 hT hA2 HPG
  go_wp2_with fail
  have HST : Hid (ArtO w1 (w1.alloc (.cells #[.slice ta (progN raw).length tc, .slice none 0 0, .int .i64 0, .int .i64 0, .int .i64 0] 49)) (.slice ta (progN raw).length tc) (.slice none 0 0) []) :=
    ⟨heap_alloc_new _ _, ⟨rfl, Or.inl ⟨rfl, rfl⟩⟩, grown_alloc (grown_refl _ _)⟩
  generalize w1.alloc (.cells #[.slice ta (progN raw).length tc, .slice none 0 0, .int .i64 0, .int .i64 0, .int .i64 0] 49) = w2 at HST ⊢
  go_loopw [8] (fun i w' => ∃ (k : Nat) (sv : Value), k ≤ sch.length ∧ k ≤ 500 ∧ i = .int .i64 k ∧ Hid (ArtO w1 w' (.slice ta (progN raw).length tc) sv ((sch.take k).map fun c => pickN c 64))) (fun i _ => sch.length - (intOf i).toNat)
  case atStart => exact ⟨0, _, Nat.zero_le _, by omega, rfl, HST⟩
  case round =>
    clear HST
    obtain ⟨k, sv, hk, hk5, rfl, HO⟩ := hrel
    obtain ⟨w5, hw5⟩ : ∃ w5, w5 = wr := ⟨_, rfl⟩
    rw [← hw5] at HO ⊢
    clear hw5
    by_cases hgo : k < sch.length ∧ k < 500
    · obtain ⟨hlt, hlt5⟩ := hgo
      obtain ⟨g, o, rfl, hgw, c0⟩ := HC.out k hlt
      have d0 : w5.cell? ⟨g, o + k, none⟩ = some (.int .i64 sch[k]) := pres_grown HO.out.base _ _ (pres_grown HG2.out _ _ c0)
      have hx := HB.out k hlt
      have HTK : Hid ((sch.take (k + 1)).map (fun c => pickN c 64) = (sch.take k).map (fun c => pickN c 64) ++ [pickN sch[k] 64]) := by
        unfold Hid; rw [List.take_succ_eq_append_getElem hlt, List.map_append]; rfl
      have HLN : Hid (((sch.take k).map fun c => pickN c 64).length = k) := by unfold Hid; rw [List.length_map, List.length_take]; omega
      have HPK2 := hide (pick_m sch[k] 64 (by omega) (by omega) hx.1 hx.2)
      have q0 : (0 : Int) ≤ (k : Int) := by omega
      have q1 : (k : Int) < sch.length := by omega
      have q2 : (k : Int) < 500 := by omega
      generalize (sch.take k).map (fun c => pickN c 64) = L at *
      generalize sch[k] = x at *
      have HCK := hide c0
      generalize pickN x 64 = y at *
      obtain ⟨s1, s2, s3, rfl⟩ := owns_form HO.out.row
      have hs2 := owns_lenq HO.out.row
      subst hs2
      have cq : w5.cell? ⟨w1.heap.size, 1, none⟩ = some (.slice s1 L.length s3) := by have := HO.out.blk; simp [World.cell?, this]
      clear c0
      go_wp2_with fail
      refine wp_region_head (fun u => u.cell? ⟨w1.heap.size, 1, none⟩ = some (.slice s1 L.length s3) ∧ u.cell? ⟨g, o + k, none⟩ = some (.int .i64 x)) 10 (by kernel_rfl) (by kernel_rfl) ⟨by simp [go_sem, cq], by simp [go_sem, d0]⟩ ?_
      intro hHeld
      have hHeld1 := hHeld.1
      have hHeld2 := hHeld.2
      refine wpHead_take (i := 0) (v := ?vv0) rfl (by kernel_rfl) (fun _ _ _ h => h) (Or.inl ⟨by rfl, ?hy0⟩) hHeld ?rest0
      case hy0 => (rintro u ⟨hu1, hu2⟩; go_simp; try with_reducible rfl)
      simp only [Act.put, List.setIfInBounds_toArray]
      refine wpHead_take (i := 1) (v := ?vv1) rfl (by kernel_rfl) (fun _ _ _ h => h) (Or.inl ⟨by rfl, ?hy1⟩) hHeld ?rest1
      case hy1 => (rintro u ⟨hu1, hu2⟩; go_simp; try with_reducible rfl)
      simp only [Act.put]
      refine wpHead_take (i := 2) (v := ?vv2) rfl (by kernel_rfl) (fun _ _ _ h => h) (Or.inl ⟨by rfl, ?hy2⟩) hHeld ?rest2
      case hy2 => (rintro u ⟨hu1, hu2⟩; go_simp; try with_reducible rfl)
      simp only [Act.put]
      refine wpHead_take (i := 3) (v := ?vv3) rfl (by kernel_rfl) (fun _ _ _ h => h) (Or.inl ⟨by rfl, ?hy3⟩) hHeld ?rest3
      case hy3 => (rintro u ⟨hu1, hu2⟩; go_simp; try with_reducible rfl)
      simp only [Act.put]
      refine wpHead_take (i := 4) (v := ?vv4) rfl (by kernel_rfl) (fun _ _ _ h => h) (Or.inl ⟨by rfl, ?hy4⟩) hHeld ?rest4
      case hy4 => (rintro u ⟨hu1, hu2⟩; go_simp; try with_reducible rfl)
      simp only [Act.put]
      refine wpHead_take (i := 5) (v := ?vv5) rfl (by kernel_rfl) (fun _ _ _ h => h) (Or.inl ⟨by rfl, ?hy5⟩) hHeld ?rest5
      case hy5 => (rintro u ⟨hu1, hu2⟩; go_simp; try with_reducible rfl)
      simp only [Act.put]
      refine wpHead_alone (i := 6) rfl (by kernel_rfl) (by kernel_rfl) (by rfl) ?_
      intro K6 hK6
      have HK6 := hide hK6
      clear hK6
      go_simp
      refine (HPK2.out _).mono ?_
      rintro e w6 ⟨rfl, rfl⟩
      refine HK6.out _ _ hHeld ?_
      clear HK6
      try simp only [Act.put, List.setIfInBounds_toArray]
      refine wpHead_alone (i := 7) rfl (by kernel_rfl) (by kernel_rfl) (by rfl) ?_
      intro K7 hK7
      have HK7 := hide hK7
      clear hK7
      go_simp
      refine HK7.out _ _ ⟨pres_grown (grown_alloc (grown_refl _ _)) _ _ hHeld.1, pres_grown (grown_alloc (grown_refl _ _)) _ _ hHeld.2⟩ ?_
      clear HK7
      try simp only [Act.put, List.setIfInBounds_toArray]
      refine wpHead_alone (i := 8) rfl (by kernel_rfl) (by kernel_rfl) (by rfl) ?_
      intro K8 hK8
      have HK8 := hide hK8
      clear hK8
      have h63 : L.length + 1 ≤ maxLen := by have := HLN.out; unfold maxLen; omega
      have hby : (L.length + 1) * 8 ≤ 140737488355328 := by have := HLN.out; omega
      have hw5s : w1.heap.size + 1 ≤ w5.heap.size := (Array.getElem?_eq_some_iff.1 HO.out.blk).1
      refine wp_append_lies _ (.tmp 24) (.tmp 30) 25 (by rfl) (w1.heap.size + 1) 3 i0 _ 1 8 Tryz.underlying25 hi0 hz0 hz1 hz2 rfl (by omega) (.slice s1 L.length s3) L.length (ints L) (by rfl) (owns_alloc (w := w5.drew) (show w5.drew.ownsRow _ _ _ _ _ _ from HO.out.row)) ⟨w5.heap.size, 0, none⟩ 1 1 [.int .i64 y] (by rfl) (by rfl) (World.news_of_block (cs := #[.int .i64 y]) (t := 3) (fr := (0, 0)) (heap_alloc_new w5.drew _)) (by simp [Value.oneCell']) (by omega) h63 hby (by simp; omega) (w5.heap.size + 1) (by simp) ?_
      intro g2 cap2 w7 hown7 hgrow hat hlt7
      obtain ⟨p1, p2, p3, p4⟩ := HO.out.push hown7 hgrow
      have P1 : Hid (ArtO w1 (w7.setCell ⟨w1.heap.size, 1, none⟩ (.slice (some ⟨g2, 0, none⟩) (L.length + 1) cap2)) (.slice ta (progN raw).length tc) (.slice (some ⟨g2, 0, none⟩) (L.length + 1) cap2) ((sch.take (k + 1)).map fun c => pickN c 64)) := by
        unfold Hid; rw [HTK.out]; exact p1
      have p5 : w7.cell? ⟨g, o + k, none⟩ = some (.int .i64 x) := by
        exact pres_grown p4 _ _ (pres_grown HG2.out _ _ HCK.out)
      clear p1 p4 hown7 hgrow hat hlt7
      refine HK8.out _ _ ⟨p2, p5⟩ ?_
      clear HK8
      try simp only [Act.put, List.setIfInBounds_toArray]
      refine wpHead_take (i := 9) (v := ?vv9) rfl (by kernel_rfl) (fun _ _ _ h => h) (Or.inl ⟨by rfl, ?hy9⟩) ⟨p2, p5⟩ ?rest9
      case hy9 => (rintro u ⟨hu1, hu2⟩; go_simp; try with_reducible rfl)
      simp only [Act.put]
      refine wpHead_last rfl (by kernel_rfl) (by kernel_rfl) (by rfl) ?_
      go_simp
      go_wp2
      go_roundw
      case rel => exact ⟨k + 1, _, by omega, by omega, by first | rfl | go_num, P1⟩
      case measure => simp [intOf]; omega
    · have HSN : Hid (schN sch = (sch.take k).map fun c => pickN c 64) := by
        unfold Hid schN
        by_cases hkk : k = 500
        · rw [hkk]
        · rw [List.take_of_length_le (by omega), List.take_of_length_le (by omega)]
      obtain ⟨s1, s2, s3, rfl⟩ := owns_form HO.out.row
      have hblk := HO.out.blk
      have z0 : w5.cell? ⟨w1.heap.size, 0, none⟩ = some (.slice ta (progN raw).length tc) := by simp [World.cell?, hblk]
      have z1 : w5.cell? ⟨w1.heap.size, 1, none⟩ = some (.slice s1 s2 s3) := by simp [World.cell?, hblk]
      have z2 : w5.cell? ⟨w1.heap.size, 2, none⟩ = some (.int .i64 0) := by simp [World.cell?, hblk]
      have z3 : w5.cell? ⟨w1.heap.size, 3, none⟩ = some (.int .i64 0) := by simp [World.cell?, hblk]
      have z4 : w5.cell? ⟨w1.heap.size, 4, none⟩ = some (.int .i64 0) := by simp [World.cell?, hblk]
      have f2 : w5.frozen? ⟨w1.heap.size, 2, none⟩ = false := by simp [World.frozen?, hblk]
      have f3 : w5.frozen? ⟨w1.heap.size, 3, none⟩ = false := by simp [World.frozen?, hblk]
      have f4 : w5.frozen? ⟨w1.heap.size, 4, none⟩ = false := by simp [World.frozen?, hblk]
      clear hblk
      have hpm := hpr.1
      by_cases hkl : k < sch.length
      · have q1 : (k : Int) < sch.length := by omega
        have q2 : ¬ (k : Int) < 500 := by omega
        go_upto_region 8 with (go_at_call 18; refine (HPK.out _).mono ?_; rintro e w6 ⟨rfl, hw6⟩; have hw6 := hw6.symm; subst hw6)
        have hw5 : w5.heap[w.heap.size]? = some (.cells #[.slice none 0 0, .slice none 0 0, .int .i64 0, .int .i64 0, .int .i64 0] 49 (0, 0)) := by
          rw [HO.out.base.block _ hw01 (by simp)]; exact HA2.out
        have J := three_set w5 w1.heap.size _ _ _ _ _ HO.out.blk (.int .i64 (1 + m % 5)) (.int .i64 (m / 5 % 4)) (.int .i64 (m / 20))
        have hw6 : (((w5.setCell ⟨w1.heap.size, 2, none⟩ (.int .i64 (1 + m % 5))).setCell ⟨w1.heap.size, 3, none⟩ (.int .i64 (m / 5 % 4))).setCell ⟨w1.heap.size, 4, none⟩ (.int .i64 (m / 20))).heap[w.heap.size]? = some (.cells #[.slice none 0 0, .slice none 0 0, .int .i64 0, .int .i64 0, .int .i64 0] 49 (0, 0)) := by
          rw [J.2.block _ (by have := HO.out.base.size; omega) (by simp; omega)]; exact hw5
        have HR6 : Hid ((((w5.setCell ⟨w1.heap.size, 2, none⟩ (.int .i64 (1 + m % 5))).setCell ⟨w1.heap.size, 3, none⟩ (.int .i64 (m / 5 % 4))).setCell ⟨w1.heap.size, 4, none⟩ (.int .i64 (m / 20))).ownsRow (w1.heap.size + 1) 3 1 (.slice s1 s2 s3) (schN sch).length (ints (schN sch))) := by
          unfold Hid
          rw [HSN.out]
          exact owns_grown HO.out.row J.2 (fun q e => by simp only [Option.some.injEq] at e; omega)
        have HG6 : Hid (w1.grownBy (((w5.setCell ⟨w1.heap.size, 2, none⟩ (.int .i64 (1 + m % 5))).setCell ⟨w1.heap.size, 3, none⟩ (.int .i64 (m / 5 % 4))).setCell ⟨w1.heap.size, 4, none⟩ (.int .i64 (m / 20))) none) :=
          grown_setNew (grown_setNew (grown_setNew HO.out.base (Nat.le_refl _)) (Nat.le_refl _)) (Nat.le_refl _)
        clear z0 z1 z2 z3 z4 f2 f3 f4 HO HSN
        generalize ((w5.setCell ⟨w1.heap.size, 2, none⟩ (.int .i64 (1 + m % 5))).setCell ⟨w1.heap.size, 3, none⟩ (.int .i64 (m / 5 % 4))).setCell ⟨w1.heap.size, 4, none⟩ (.int .i64 (m / 20)) = w6 at J hw6 HR6 HG6 ⊢
        have hblk := J.1
        have z0 : w6.cell? ⟨w1.heap.size, 0, none⟩ = some (.slice ta (progN raw).length tc) := by simp [World.cell?, hblk]
        have z1 : w6.cell? ⟨w1.heap.size, 1, none⟩ = some (.slice s1 s2 s3) := by simp [World.cell?, hblk]
        have z2 : w6.cell? ⟨w1.heap.size, 2, none⟩ = some (.int .i64 (1 + m % 5)) := by simp [World.cell?, hblk]
        have z3 : w6.cell? ⟨w1.heap.size, 3, none⟩ = some (.int .i64 (m / 5 % 4)) := by simp [World.cell?, hblk]
        have z4 : w6.cell? ⟨w1.heap.size, 4, none⟩ = some (.int .i64 (m / 20)) := by simp [World.cell?, hblk]
        have r0 : w6.cell? ⟨w.heap.size, 0, none⟩ = some (.slice none 0 0) := by simp [World.cell?, hw6]
        have r1 : w6.cell? ⟨w.heap.size, 1, none⟩ = some (.slice none 0 0) := by simp [World.cell?, hw6]
        have r2 : w6.cell? ⟨w.heap.size, 2, none⟩ = some (.int .i64 0) := by simp [World.cell?, hw6]
        have r3 : w6.cell? ⟨w.heap.size, 3, none⟩ = some (.int .i64 0) := by simp [World.cell?, hw6]
        have r4 : w6.cell? ⟨w.heap.size, 4, none⟩ = some (.int .i64 0) := by simp [World.cell?, hw6]
        have f0 : w6.frozen? ⟨w.heap.size, 0, none⟩ = false := by simp [World.frozen?, hw6]
        have f1 : w6.frozen? ⟨w.heap.size, 1, none⟩ = false := by simp [World.frozen?, hw6]
        have f2 : w6.frozen? ⟨w.heap.size, 2, none⟩ = false := by simp [World.frozen?, hw6]
        have f3 : w6.frozen? ⟨w.heap.size, 3, none⟩ = false := by simp [World.frozen?, hw6]
        have f4 : w6.frozen? ⟨w.heap.size, 4, none⟩ = false := by simp [World.frozen?, hw6]
        have HJ6 := hide hw6
        clear J hblk hw6 hw5
        go_wp2_with fail
        have J := one_set w6 w.heap.size _ _ _ _ _ HJ6.out (.slice ta (progN raw).length tc) (.slice s1 s2 s3) (.int .i64 (1 + m % 5)) (.int .i64 (m / 5 % 4)) (.int .i64 (m / 20))
        clear z0 z1 z2 z3 z4 r0 r1 r2 r3 r4 f0 f1 f2 f3 f4
        generalize (((((w6.setCell ⟨w.heap.size, 0, none⟩ (.slice ta (progN raw).length tc)).setCell ⟨w.heap.size, 1, none⟩ (.slice s1 s2 s3)).setCell ⟨w.heap.size, 2, none⟩ (.int .i64 (1 + m % 5))).setCell ⟨w.heap.size, 3, none⟩ (.int .i64 (m / 5 % 4))).setCell ⟨w.heap.size, 4, none⟩ (.int .i64 (m / 20))) = wz at J ⊢
        obtain ⟨e0, e1, e2, e3, e4, hz⟩ := J
        refine bodyPost_ret (v := .agg #[.slice ta (progN raw).length tc, .slice s1 s2 s3, .int .i64 (1 + m % 5), .int .i64 (m / 5 % 4), .int .i64 (m / 20)]) ?_ rfl ?_
        · simp [results, Tryz.results11, go_sem, e0, e1, e2, e3, e4]
        · exact artifact_end HPB.out hL0 HR6.out HG6.out HG2.out hz hw01
      · have q1 : ¬ (k : Int) < sch.length := by omega
        go_upto_region 8 with (go_at_call 18; refine (HPK.out _).mono ?_; rintro e w6 ⟨rfl, hw6⟩; have hw6 := hw6.symm; subst hw6)
        have hw5 : w5.heap[w.heap.size]? = some (.cells #[.slice none 0 0, .slice none 0 0, .int .i64 0, .int .i64 0, .int .i64 0] 49 (0, 0)) := by
          rw [HO.out.base.block _ hw01 (by simp)]; exact HA2.out
        have J := three_set w5 w1.heap.size _ _ _ _ _ HO.out.blk (.int .i64 (1 + m % 5)) (.int .i64 (m / 5 % 4)) (.int .i64 (m / 20))
        have hw6 : (((w5.setCell ⟨w1.heap.size, 2, none⟩ (.int .i64 (1 + m % 5))).setCell ⟨w1.heap.size, 3, none⟩ (.int .i64 (m / 5 % 4))).setCell ⟨w1.heap.size, 4, none⟩ (.int .i64 (m / 20))).heap[w.heap.size]? = some (.cells #[.slice none 0 0, .slice none 0 0, .int .i64 0, .int .i64 0, .int .i64 0] 49 (0, 0)) := by
          rw [J.2.block _ (by have := HO.out.base.size; omega) (by simp; omega)]; exact hw5
        have HR6 : Hid ((((w5.setCell ⟨w1.heap.size, 2, none⟩ (.int .i64 (1 + m % 5))).setCell ⟨w1.heap.size, 3, none⟩ (.int .i64 (m / 5 % 4))).setCell ⟨w1.heap.size, 4, none⟩ (.int .i64 (m / 20))).ownsRow (w1.heap.size + 1) 3 1 (.slice s1 s2 s3) (schN sch).length (ints (schN sch))) := by
          unfold Hid
          rw [HSN.out]
          exact owns_grown HO.out.row J.2 (fun q e => by simp only [Option.some.injEq] at e; omega)
        have HG6 : Hid (w1.grownBy (((w5.setCell ⟨w1.heap.size, 2, none⟩ (.int .i64 (1 + m % 5))).setCell ⟨w1.heap.size, 3, none⟩ (.int .i64 (m / 5 % 4))).setCell ⟨w1.heap.size, 4, none⟩ (.int .i64 (m / 20))) none) :=
          grown_setNew (grown_setNew (grown_setNew HO.out.base (Nat.le_refl _)) (Nat.le_refl _)) (Nat.le_refl _)
        clear z0 z1 z2 z3 z4 f2 f3 f4 HO HSN
        generalize ((w5.setCell ⟨w1.heap.size, 2, none⟩ (.int .i64 (1 + m % 5))).setCell ⟨w1.heap.size, 3, none⟩ (.int .i64 (m / 5 % 4))).setCell ⟨w1.heap.size, 4, none⟩ (.int .i64 (m / 20)) = w6 at J hw6 HR6 HG6 ⊢
        have hblk := J.1
        have z0 : w6.cell? ⟨w1.heap.size, 0, none⟩ = some (.slice ta (progN raw).length tc) := by simp [World.cell?, hblk]
        have z1 : w6.cell? ⟨w1.heap.size, 1, none⟩ = some (.slice s1 s2 s3) := by simp [World.cell?, hblk]
        have z2 : w6.cell? ⟨w1.heap.size, 2, none⟩ = some (.int .i64 (1 + m % 5)) := by simp [World.cell?, hblk]
        have z3 : w6.cell? ⟨w1.heap.size, 3, none⟩ = some (.int .i64 (m / 5 % 4)) := by simp [World.cell?, hblk]
        have z4 : w6.cell? ⟨w1.heap.size, 4, none⟩ = some (.int .i64 (m / 20)) := by simp [World.cell?, hblk]
        have r0 : w6.cell? ⟨w.heap.size, 0, none⟩ = some (.slice none 0 0) := by simp [World.cell?, hw6]
        have r1 : w6.cell? ⟨w.heap.size, 1, none⟩ = some (.slice none 0 0) := by simp [World.cell?, hw6]
        have r2 : w6.cell? ⟨w.heap.size, 2, none⟩ = some (.int .i64 0) := by simp [World.cell?, hw6]
        have r3 : w6.cell? ⟨w.heap.size, 3, none⟩ = some (.int .i64 0) := by simp [World.cell?, hw6]
        have r4 : w6.cell? ⟨w.heap.size, 4, none⟩ = some (.int .i64 0) := by simp [World.cell?, hw6]
        have f0 : w6.frozen? ⟨w.heap.size, 0, none⟩ = false := by simp [World.frozen?, hw6]
        have f1 : w6.frozen? ⟨w.heap.size, 1, none⟩ = false := by simp [World.frozen?, hw6]
        have f2 : w6.frozen? ⟨w.heap.size, 2, none⟩ = false := by simp [World.frozen?, hw6]
        have f3 : w6.frozen? ⟨w.heap.size, 3, none⟩ = false := by simp [World.frozen?, hw6]
        have f4 : w6.frozen? ⟨w.heap.size, 4, none⟩ = false := by simp [World.frozen?, hw6]
        have HJ6 := hide hw6
        clear J hblk hw6 hw5
        go_wp2_with fail
        have J := one_set w6 w.heap.size _ _ _ _ _ HJ6.out (.slice ta (progN raw).length tc) (.slice s1 s2 s3) (.int .i64 (1 + m % 5)) (.int .i64 (m / 5 % 4)) (.int .i64 (m / 20))
        clear z0 z1 z2 z3 z4 r0 r1 r2 r3 r4 f0 f1 f2 f3 f4
        generalize (((((w6.setCell ⟨w.heap.size, 0, none⟩ (.slice ta (progN raw).length tc)).setCell ⟨w.heap.size, 1, none⟩ (.slice s1 s2 s3)).setCell ⟨w.heap.size, 2, none⟩ (.int .i64 (1 + m % 5))).setCell ⟨w.heap.size, 3, none⟩ (.int .i64 (m / 5 % 4))).setCell ⟨w.heap.size, 4, none⟩ (.int .i64 (m / 20))) = wz at J ⊢
        obtain ⟨e0, e1, e2, e3, e4, hz⟩ := J
        refine bodyPost_ret (v := .agg #[.slice ta (progN raw).length tc, .slice s1 s2 s3, .int .i64 (1 + m % 5), .int .i64 (m / 5 % 4), .int .i64 (m / 20)]) ?_ rfl ?_
        · simp [results, Tryz.results11, go_sem, e0, e1, e2, e3, e4]
        · exact artifact_end HPB.out hL0 HR6.out HG6.out HG2.out hz hw01

end Go.Proofs.YtklenjmfalljgaaGreatDoor

/- The walk of the keep's sameArtifact. -/
namespace Go.Proofs.YtklenjmfalljgaaGreatDoor
open Go.RowKit
attribute [local go_sem] Go.World.cell?_alloc_some

set_option maxRecDepth 100000 in
set_option maxHeartbeats 4000000 in
theorem sameArtifact_k (p : List (List Ins)) (l : List Int) (v1 v2 v3 : Int) (tv sv tv' sv' : Value) (w : World) (hP : ProgAt w (.agg #[tv]) p) (hS : IntsAt w.heap.size w sv l) (hP' : ProgAt w (.agg #[tv']) p) (hS' : IntsAt w.heap.size w sv' l)
    (hl : l.length ≤ 500) (hp : p.length ≤ 4) (hc : ∀ c ∈ p, c.length ≤ 16) :
    Calls Tryz.prog 14 #[artA tv sv (v1, v2, v3), artA tv' sv' (v1, v2, v3)] w fun e w' => e = .returned (.bool true) ∧ w.grownBy w' none := by
  have HP := hide hP
  have HP' := hide hP'
  have HS := hide hS
  have HS' := hide hS'
  have HC := hide hc
  obtain ⟨ta, tc, e1⟩ := hP.form
  simp only [Value.agg.injEq, Array.mk.injEq, List.cons.injEq, and_true] at e1
  subst e1
  obtain ⟨ta', tc', e1⟩ := hP'.form
  simp only [Value.agg.injEq, Array.mk.injEq, List.cons.injEq, and_true] at e1
  subst e1
  obtain ⟨sa, sc, rfl⟩ := hS.form
  obtain ⟨sa', sc', rfl⟩ := hS'.form
  clear hP hP' hS hS' hc
  unfold artA
  simp only
  go_enter Tryz.func14, Tryz.ntmps14
  go_wp2_with fail
  have hg2 : w.grownBy ((w.alloc (.cells #[.slice ta p.length tc, .slice sa l.length sc, .int .i64 v1, .int .i64 v2, .int .i64 v3] 49)).alloc (.cells #[.slice ta' p.length tc', .slice sa' l.length sc', .int .i64 v1, .int .i64 v2, .int .i64 v3] 49)) none := grown_alloc (grown_alloc (grown_refl _ _))
  have hA : ((w.alloc (.cells #[.slice ta p.length tc, .slice sa l.length sc, .int .i64 v1, .int .i64 v2, .int .i64 v3] 49)).alloc (.cells #[.slice ta' p.length tc', .slice sa' l.length sc', .int .i64 v1, .int .i64 v2, .int .i64 v3] 49)).heap[w.heap.size]? = some (.cells #[.slice ta p.length tc, .slice sa l.length sc, .int .i64 v1, .int .i64 v2, .int .i64 v3] 49 (0, 0)) := by
    rw [Below.heap_alloc _ _ _ (by simp)]; exact heap_alloc_new _ _
  have hB := heap_alloc_new2 w (.cells #[.slice ta p.length tc, .slice sa l.length sc, .int .i64 v1, .int .i64 v2, .int .i64 v3] 49) (.cells #[.slice ta' p.length tc', .slice sa' l.length sc', .int .i64 v1, .int .i64 v2, .int .i64 v3] 49)
  generalize (w.alloc (.cells #[.slice ta p.length tc, .slice sa l.length sc, .int .i64 v1, .int .i64 v2, .int .i64 v3] 49)).alloc (.cells #[.slice ta' p.length tc', .slice sa' l.length sc', .int .i64 v1, .int .i64 v2, .int .i64 v3] 49) = w2 at hg2 hA hB ⊢
  have HG2 := hide hg2
  refine (same_k l _ _ w2 ((HS.out.pres (pres_grown hg2)).mono hg2.size) ((HS'.out.pres (pres_grown hg2)).mono hg2.size) (by omega)).mono ?_
  rintro e w3 ⟨rfl, hl3⟩
  have cL : ∀ a, w3.cell? a = w2.cell? a := fun a => by simp [World.cell?, hl3.1]
  have a0 : w3.cell? ⟨w.heap.size, 0, none⟩ = some (.slice ta p.length tc) := by rw [cL]; simp [World.cell?, hA]
  have a2 : w3.cell? ⟨w.heap.size, 2, none⟩ = some (.int .i64 v1) := by rw [cL]; simp [World.cell?, hA]
  have a3 : w3.cell? ⟨w.heap.size, 3, none⟩ = some (.int .i64 v2) := by rw [cL]; simp [World.cell?, hA]
  have a4 : w3.cell? ⟨w.heap.size, 4, none⟩ = some (.int .i64 v3) := by rw [cL]; simp [World.cell?, hA]
  have b0 : w3.cell? ⟨w.heap.size + 1, 0, none⟩ = some (.slice ta' p.length tc') := by rw [cL]; simp [World.cell?, hB]
  have b2 : w3.cell? ⟨w.heap.size + 1, 2, none⟩ = some (.int .i64 v1) := by rw [cL]; simp [World.cell?, hB]
  have b3 : w3.cell? ⟨w.heap.size + 1, 3, none⟩ = some (.int .i64 v2) := by rw [cL]; simp [World.cell?, hB]
  have b4 : w3.cell? ⟨w.heap.size + 1, 4, none⟩ = some (.int .i64 v3) := by rw [cL]; simp [World.cell?, hB]
  have HL3 := hide hl3
  have HP3 := hide (HP.out.pres (pres_grown (grown_like hg2 hl3)))
  have HP3' := hide (HP'.out.pres (pres_grown (grown_like hg2 hl3)))
  clear hg2 hA hB cL hl3 HP HP' HS HS'
  go_wp2_with fail
  go_loopw [6] (fun i w' => ∃ t : Nat, t ≤ p.length ∧ i = .int .i64 t ∧ Hid (Like w' w3)) (fun i _ => p.length - (intOf i).toNat)
  case atStart => exact ⟨0, Nat.zero_le _, rfl, hide (like_refl _)⟩
  case round =>
    obtain ⟨t, ht, rfl, HK⟩ := hrel
    obtain ⟨w5, hw5⟩ : ∃ w5, w5 = wr := ⟨_, rfl⟩
    rw [← hw5] at HK ⊢
    clear hw5
    have cL : ∀ a, w5.cell? a = w3.cell? a := fun a => by simp [World.cell?, HK.out.1]
    have c0 : w5.cell? ⟨w.heap.size, 0, none⟩ = some (.slice ta p.length tc) := by rw [cL]; exact a0
    have d0 : w5.cell? ⟨w.heap.size + 1, 0, none⟩ = some (.slice ta' p.length tc') := by rw [cL]; exact b0
    by_cases hlt : t < p.length
    · obtain ⟨ao, cap, e1, h1⟩ := HP3.out
      obtain ⟨g, o, e2, rv, r1, r2⟩ := h1 t hlt
      simp only [Value.agg.injEq, Array.mk.injEq, List.cons.injEq, Value.slice.injEq, and_true, true_and] at e1
      obtain ⟨e1, e1'⟩ := e1
      subst e1 e1' e2
      obtain ⟨ao, cap, e1, h1⟩ := HP3'.out
      obtain ⟨g', o', e2, rv', r1', r2'⟩ := h1 t hlt
      simp only [Value.agg.injEq, Array.mk.injEq, List.cons.injEq, Value.slice.injEq, and_true, true_and] at e1
      obtain ⟨e1, e1'⟩ := e1
      subst e1 e1' e2
      obtain ⟨x1, x3, rfl, hx⟩ := r2
      obtain ⟨y1, y3, rfl, hy⟩ := r2'
      have hcl : p[t].length ≤ 16 := HC.out _ (List.getElem_mem hlt)
      have k0 : w5.cell? ⟨g, o + t, none⟩ = some (.slice x1 p[t].length x3) := by rw [cL]; exact r1
      have k1 : w5.cell? ⟨g', o' + t, none⟩ = some (.slice y1 p[t].length y3) := by rw [cL]; exact r1'
      have HX := hide hx
      have HY := hide hy
      have q0 : (0 : Int) ≤ (t : Int) := by omega
      have q1 : (t : Int) < p.length := by omega
      clear r1 r1' hx hy cL h1
      generalize p[t] = c at *
      clear a0 a2 a3 a4 b0 b2 b3 b4
      go_wp2_with fail
      go_loopw [9] (fun i w' => ∃ k : Nat, k ≤ c.length ∧ i = .int .i64 k ∧ Hid (Like w' w3)) (fun i _ => c.length - (intOf i).toNat)
      case atStart => exact ⟨0, Nat.zero_le _, rfl, HK⟩
      case round =>
        obtain ⟨k, hk, rfl, HK7⟩ := hrel
        obtain ⟨w7, hw7⟩ : ∃ w7, w7 = wr := ⟨_, rfl⟩
        rw [← hw7] at HK7 ⊢
        clear hw7 c0 d0 k0 k1
        have cL : ∀ a, w7.cell? a = w3.cell? a := fun a => by simp [World.cell?, HK7.out.1]
        by_cases hkl : k < c.length
        · obtain ⟨xg, xo, rfl, x5, x6, x7, x8⟩ := HX.out k hkl
          obtain ⟨yg, yo, rfl, y5, y6, y7, y8⟩ := HY.out k hkl
          rw [← cL] at x5 x6 x7 x8 y5 y6 y7 y8
          have q2 : (0 : Int) ≤ (k : Int) := by omega
          have q3 : (k : Int) < c.length := by omega
          clear cL
          generalize c[k] = i at *
          obtain ⟨i1, i2, i3, i4⟩ := i
          simp only at x5 x6 x7 x8 y5 y6 y7 y8
          go_wp2_with fail
          go_quiet (fail)
          go_wp2_with fail
          go_roundw
          case rel => exact ⟨k + 1, by omega, by go_num, hide (like_dn HK7.out _)⟩
          case measure => simp [intOf]; omega
        · have q3 : (c.length : Int) ≤ (k : Int) := by omega
          go_wp2_with fail
          go_roundw
          case rel => exact ⟨t + 1, by omega, by go_num, HK7⟩
          case measure => simp [intOf]; omega
    · have q1 : (p.length : Int) ≤ (t : Int) := by omega
      clear a0 a2 a3 a4 b0 b2 b3 b4 cL
      go_wp2_with fail
      go_ret
      exact ⟨rfl, grown_like (grown_like HG2.out HL3.out) HK.out⟩

end Go.Proofs.YtklenjmfalljgaaGreatDoor

/- Bits that are turned, one by one: the bytes xor one number. -/
namespace Go.Proofs.YtklenjmfalljgaaGreatDoor

theorem leB_get (n : Nat) : ∀ (x j : Nat) (h : j < (leB n x).length), (leB n x)[j] = x / 256 ^ j % 256 := by
  induction n with
  | zero => intro x j h; simp [leB] at h
  | succ n ih =>
    intro x j h
    cases j with
    | zero => simp [leB]
    | succ j =>
      have h2 : j < (leB n (x / 256)).length := by simp only [leB, List.length_cons] at h; omega
      have := ih (x / 256) j h2
      simp only [leB, List.getElem_cons_succ]
      rw [this, Nat.div_div_eq_div_mul, Nat.pow_succ, Nat.mul_comm 256]

/-- The bytes l, with the bits of y turned. -/
def xorB (l : List Nat) (y : Nat) : List Nat := List.zipWith (· ^^^ ·) l (leB l.length y)
theorem xorB_len (l : List Nat) (y : Nat) : (xorB l y).length = l.length := by simp [xorB, leB_len]
theorem xorB_get (l : List Nat) (y j : Nat) (h : j < l.length) : (xorB l y)[j]'(by rw [xorB_len]; exact h) = l[j] ^^^ (y / 256 ^ j % 256) := by
  simp only [xorB, List.getElem_zipWith, leB_get]
theorem xorB_zero (l : List Nat) : xorB l 0 = l := by
  apply List.ext_getElem (xorB_len l 0)
  intro j h1 h2
  rw [xorB_get l 0 j h2]; simp
theorem byte_xor (a b j : Nat) : (a ^^^ b) / 256 ^ j % 256 = (a / 256 ^ j % 256) ^^^ (b / 256 ^ j % 256) := by
  have e : (256 : Nat) ^ j = 2 ^ (8 * j) := by rw [Nat.pow_mul]
  have e2 : (256 : Nat) = 2 ^ 8 := rfl
  rw [e]
  conv => lhs; rw [e2]
  conv => rhs; rw [e2]
  apply Nat.eq_of_testBit_eq
  intro i
  simp only [Nat.testBit_mod_two_pow, Nat.testBit_div_two_pow, Nat.testBit_xor]
  cases decide (i < 8) <;> simp
theorem byte_pow (p j : Nat) : 2 ^ p / 256 ^ j % 256 = if j = p / 8 then 2 ^ (p % 8) else 0 := by
  have e : (256 : Nat) ^ j = 2 ^ (8 * j) := by rw [Nat.pow_mul]
  have e2 : (256 : Nat) = 2 ^ 8 := rfl
  rw [e]
  conv => lhs; rw [e2]
  apply Nat.eq_of_testBit_eq
  intro i
  rw [Nat.testBit_mod_two_pow, Nat.testBit_div_two_pow, Nat.testBit_two_pow]
  split
  · rw [Nat.testBit_two_pow]
    rcases Nat.lt_or_ge i 8 with h | h
    · simp only [h, decide_true, Bool.true_and, decide_eq_decide]; omega
    · have : ¬ i < 8 := by omega
      simp only [this, decide_false, Bool.false_and]
      symm; simp only [decide_eq_false_iff_not]; omega
  · rw [Nat.zero_testBit]
    rcases Nat.lt_or_ge i 8 with h | h
    · simp only [h, decide_true, Bool.true_and, decide_eq_false_iff_not]; omega
    · have : ¬ i < 8 := by omega
      simp only [this, decide_false, Bool.false_and]
theorem xorB_lt (l : List Nat) (y : Nat) (h : ∀ x ∈ l, x < 256) : ∀ x ∈ xorB l y, x < 256 := by
  intro x hx
  obtain ⟨j, hj, rfl⟩ := List.getElem_of_mem hx
  rw [xorB_len] at hj
  rw [xorB_get l y j hj]
  exact Nat.xor_lt_two_pow (n := 8) (h _ (List.getElem_mem hj)) (Nat.mod_lt _ (by decide))
theorem xorB_flip (l : List Nat) (y p : Nat) (hp : p / 8 < l.length) : xorB l (y ^^^ 2 ^ p) = (xorB l y).set (p / 8) ((xorB l y)[p / 8]'(by rw [xorB_len]; exact hp) ^^^ 2 ^ (p % 8)) := by
  apply List.ext_getElem (by simp [xorB_len])
  intro j h1 h2
  rw [xorB_len] at h1
  rw [xorB_get l _ j h1, byte_xor, byte_pow]
  by_cases hj : j = p / 8
  · subst hj
    rw [List.getElem_set_self, if_pos rfl, xorB_get l y _ h1, Nat.xor_assoc]
  · rw [List.getElem_set_ne (Ne.symm hj), if_neg hj, xorB_get l y _ h1, Nat.xor_zero]

/-- The first i bits of x, from the bit k on. -/
def lowB (k x i : Nat) : Nat := 2 ^ k * (x % 2 ^ i)
theorem lowB_zero (k x : Nat) : lowB k x 0 = 0 := by simp [lowB, Nat.mod_one]
theorem lowB_all (k x i : Nat) (h : x < 2 ^ i) : lowB k x i = 2 ^ k * x := by unfold lowB; rw [Nat.mod_eq_of_lt h]
theorem lowB_step (k x i : Nat) : lowB k x (i + 1) = if x.testBit i = true then lowB k x i ^^^ 2 ^ (k + i) else lowB k x i := by
  apply Nat.eq_of_testBit_eq
  intro t
  have e : ∀ m, (lowB k x m).testBit t = (decide (k ≤ t) && (decide (t - k < m) && x.testBit (t - k))) := by
    intro m
    unfold lowB
    rw [Nat.testBit_two_pow_mul, Nat.testBit_mod_two_pow]
  rw [e]
  by_cases hx : x.testBit i = true
  · rw [if_pos hx, Nat.testBit_xor, e, Nat.testBit_two_pow]
    by_cases hkt : k + i = t
    · have h1 : t - k = i := by omega
      have h2 : k ≤ t := by omega
      simp [h1, h2, hkt, hx]
    · simp only [hkt, decide_false, Bool.xor_false]
      by_cases h2 : k ≤ t
      · have : decide (t - k < i + 1) = decide (t - k < i) := by rw [decide_eq_decide]; omega
        rw [this]
      · simp [h2]
  · rw [if_neg hx, e]
    by_cases h2 : k ≤ t
    · by_cases h3 : t - k = i
      · rw [h3]
        simp only [Bool.not_eq_true] at hx
        simp [hx]
      · have : decide (t - k < i + 1) = decide (t - k < i) := by rw [decide_eq_decide]; omega
        rw [this]
    · simp [h2]

theorem burst_none {l : List Nat} {a : Art} (hl : decB l = some a) (hlb : ∀ x ∈ l, x < 256) (k x : Nat) (hx : x < 4294967296) (hx0 : 0 < x) (hk : k + 32 ≤ 8 * l.length) : decB (xorB l (2 ^ k * x)) = none := by
  cases h : decB (xorB l (2 ^ k * x)) with
  | none => rfl
  | some b =>
    have hlt : 2 ^ k * x < 256 ^ l.length := by
      have e : (256 : Nat) ^ l.length = 2 ^ (8 * l.length) := by rw [Nat.pow_mul]
      rw [e]
      have h1 : 2 ^ k * x < 2 ^ k * 2 ^ 32 := Nat.mul_lt_mul_of_pos_left hx (Nat.pow_pos (by decide))
      rw [← Nat.pow_add] at h1
      exact Nat.lt_of_lt_of_le h1 (Nat.pow_le_pow_right (by decide) hk)
    have := dec_burst hl h hlb (xorB_lt l _ hlb) 0 l.length k 0 x hx (by omega) hlt (by omega) (by simp [xorB])
    omega

end Go.Proofs.YtklenjmfalljgaaGreatDoor

/- The walks of the writer's program, schedule, verdict and check. -/
namespace Go.Proofs.YtklenjmfalljgaaGreatDoor
open Go.RowKit
attribute [local go_sem] Go.World.cell?_alloc_some

/-- The writer, and a variable of the call's own at c. -/
structure WrL (W w : World) (b : Nat) (bv : Value) (l : List Nat) (T c : Nat) (vs : Array Value) : Prop where
  wr : WrS W w b bv l
  var : w.heap[c]? = some (.cells vs T (0, 0))
  cb : c ≠ b
  co : bv.ownBlock ≠ some c
theorem WrL.call {W w w' : World} {b T c : Nat} {bv bv' : Value} {l l' : List Nat} {vs : Array Value} (h : WrL W w b bv l T c vs) (h1 : WrS W w' b bv' l') (h2 : WrT w w' b bv bv') : WrL W w' b bv' l' T c vs := by
  have hc := (Array.getElem?_eq_some_iff.1 h.var).1
  refine ⟨h1, by rw [h2.keep c hc h.cb h.co]; exact h.var, h.cb, fun e => ?_⟩
  rcases h2.own c e with e | e
  · exact h.co e
  · omega
theorem WrL.cell {W w : World} {b T c : Nat} {bv : Value} {l : List Nat} {vs : Array Value} (h : WrL W w b bv l T c vs) (o : Nat) : w.cell? ⟨c, o, none⟩ = vs[o]? := by
  have := h.var
  simp [World.cell?, this]
theorem WrL.start {W w : World} {b : Nat} {bv : Value} {l : List Nat} (h : WrS W w b bv l) (T : Nat) (vs : Array Value) : WrL W (w.alloc (.cells vs T)) b bv l T w.heap.size vs := by
  have hb := h.lt
  refine ⟨h.grown (grown_alloc (grown_refl _ _)), heap_alloc_new _ _, by omega, fun e => ?_⟩
  have := h.row.lt _ e
  omega

set_option maxRecDepth 100000 in
set_option maxHeartbeats 1000000 in
theorem verdict_w (W : World) (b : Nat) (v : Int × Int × Int) (h1 : 0 ≤ v.1 ∧ v.1 ≤ 9223372036854775807) (h2 : 0 ≤ v.2.1 ∧ v.2.1 ≤ 9223372036854775807) (h3 : 0 ≤ v.2.2 ∧ v.2.2 ≤ 9223372036854775807)
    (w : World) (bv : Value) (l : List Nat) (h : WrS W w b bv l) (hl : l.length ≤ 900000) :
    Calls Tryz.prog 64 #[pt b, .agg #[.int .i64 v.1, .int .i64 v.2.1, .int .i64 v.2.2]] w (Wrote W w b bv (l ++ verB v)) := by
  obtain ⟨x, y, z⟩ := v
  simp only at h1 h2 h3 ⊢
  have HH := hide h
  have hpt : pt b = .pointer (some ⟨b, 0, none⟩) := rfl
  rw [hpt] at *
  clear h
  go_enter Tryz.func64, Tryz.ntmps64
  go_wp2_with fail
  have L0 := WrL.start HH.out 27 #[.int .i64 x, .int .i64 y, .int .i64 z]
  have T0 : WrT w (w.alloc (.cells #[.int .i64 x, .int .i64 y, .int .i64 z] 27)) b bv bv := (WrT.refl _ _ _).grown (grown_alloc (grown_refl _ _))
  generalize w.alloc (.cells #[.int .i64 x, .int .i64 y, .int .i64 z] 27) = w1 at L0 T0 ⊢
  refine (whole_w W b x h1.1 h1.2 w1 bv (l) L0.wr (by omega)).mono ?_
  rintro e x1 ⟨⟨v1, rfl⟩, bv1, hs1, ht1⟩
  have L1 := L0.call hs1 ht1
  have T1 := T0.trans ht1
  have c1 : x1.cell? ⟨w.heap.size, 1, none⟩ = some (.int .i64 y) := by simpa using L1.cell 1
  have HL := hide L1
  have HT := hide T1
  clear L1 T1 L0 T0 hs1 ht1
  go_wp2_with fail
  have L1 := HL.out
  have T1 := HT.out
  clear HL HT c1
  refine (whole_w W b y h2.1 h2.2 x1 bv1 (l ++ wInt x) L1.wr (by simp [wInt]; have := numB_ten (n := x.toNat) (by omega); omega)).mono ?_
  rintro e x2 ⟨⟨v2, rfl⟩, bv2, hs2, ht2⟩
  have L2 := L1.call hs2 ht2
  have T2 := T1.trans ht2
  have c2 : x2.cell? ⟨w.heap.size, 2, none⟩ = some (.int .i64 z) := by simpa using L2.cell 2
  have HL := hide L2
  have HT := hide T2
  clear L2 T2 L1 T1 hs2 ht2
  go_wp2_with fail
  have L2 := HL.out
  have T2 := HT.out
  clear HL HT c2
  refine (whole_w W b z h3.1 h3.2 x2 bv2 (l ++ wInt x ++ wInt y) L2.wr (by simp [wInt]; have := numB_ten (n := x.toNat) (by omega); have := numB_ten (n := y.toNat) (by omega); omega)).mono ?_
  rintro e x3 ⟨⟨v3, rfl⟩, bv3, hs3, ht3⟩
  have L3 := L2.call hs3 ht3
  have T3 := T2.trans ht3
  have HL := hide L3.wr
  have HT := hide T3
  clear L3 T3 L2 T2 hs3 ht3
  go_wp2_with fail
  go_end0
  refine ⟨⟨_, rfl⟩, bv3, ?_, HT.out⟩
  have := HL.out
  unfold verB
  simpa using this

end Go.Proofs.YtklenjmfalljgaaGreatDoor

/- The walk of the writer's check. -/
namespace Go.Proofs.YtklenjmfalljgaaGreatDoor
open Go.RowKit
attribute [local go_sem] Go.World.cell?_alloc_some

set_option maxRecDepth 100000 in
set_option maxHeartbeats 2000000 in
theorem check_w (W : World) (b : Nat) (w : World) (bv : Value) (l : List Nat) (h : WrS W w b bv l) (hl : l.length ≤ 900000) (h256 : ∀ x ∈ l, x < 256) :
    Calls Tryz.prog 65 #[pt b] w (Wrote W w b bv (l ++ leB 4 (crcN l))) := by
  have HH := hide h
  have hpt : pt b = .pointer (some ⟨b, 0, none⟩) := rfl
  rw [hpt] at *
  have c0 := h.cell
  have cv := h.row.str
  have HCK := hide (checkOf_m (bs l) w (by rw [bs_size]; omega))
  rw [byt_bs h256] at HCK
  have hC := crcN_lt l h256
  generalize crcN l = C at *
  obtain ⟨x1, x3, rfl⟩ := h.row.form
  clear h h256 hpt
  go_enter Tryz.func65, Tryz.ntmps65
  go_wp2_with (go_at_call 94; refine HCK.out.mono ?_; rintro e w2 ⟨rfl, hl2⟩; have HS2 := hide (HH.out.grown (grown_of_like hl2)); have HT2 := hide ((WrT.refl w b (.slice x1 l.length x3)).grown (grown_of_like hl2)); clear hl2)
  clear c0 cv
  go_loopw [10] (fun i w' => ∃ (j : Nat) (bv' : Value), j ≤ 4 ∧ i = .int .i64 j ∧ Hid (WrS W w' b bv' (l ++ (leB 4 C).take j)) ∧ Hid (WrT w w' b (.slice x1 l.length x3) bv')) (fun i _ => 4 - (intOf i).toNat)
  case atStart => exact ⟨0, _, by omega, rfl, hide (by simpa using HS2.out), HT2⟩
  case round =>
    clear HH HS2 HT2 HCK
    obtain ⟨j, bv3, hj, rfl, HS, HT⟩ := hrel
    obtain ⟨w5, hw5'⟩ : ∃ w5, w5 = wr := ⟨_, rfl⟩
    rw [← hw5'] at HS HT ⊢
    clear hw5'
    have hcs : j = 0 ∨ j = 1 ∨ j = 2 ∨ j = 3 ∨ j = 4 := by omega
    rcases hcs with rfl | rfl | rfl | rfl | rfl
    · have HX : Hid ((leB 4 C).take 1 = (leB 4 C).take 0 ++ [C % 256]) := by unfold Hid; simp [leB, Nat.div_div_eq_div_mul]
      have qw : IntKind.i64.wrap 0 = 0 := by decide
      have qx : IntKind.u8.wrap ((C : Int)) = ((C % 256 : Nat) : Int) := by rw [IntKind.wrap_u8']; omega
      have hll : (l ++ (leB 4 C).take 0).length ≤ 1000000 := by simp; omega
      generalize C % 256 = y at *
      generalize hL : l ++ (leB 4 C).take 0 = L at *
      have HL := hide hL
      clear hL
      obtain ⟨y1, y3, rfl⟩ := HS.out.row.form
      have cq : w5.cell? ⟨b, 0, none⟩ = some (.slice y1 L.length y3) := HS.out.cell
      go_wp2_with fail
      refine wp_region_head (fun u => u.cell? ⟨b, 0, none⟩ = some (.slice y1 L.length y3)) 14 (by kernel_rfl) (by kernel_rfl) ?_ ?_
      · simp [go_sem, cq]
      intro hHeld
      refine wpHead_take (i := 0) (v := ?vv0_1) rfl (by kernel_rfl) (fun _ _ _ h => h) (Or.inl ⟨by rfl, ?hy0_1⟩) (by assumption) ?rest0_1
      case hy0_1 => (intro u hu; go_simp; try with_reducible rfl)
      simp only [Act.put, List.setIfInBounds_toArray]
      refine wpHead_take (i := 1) (v := ?vv1_2) rfl (by kernel_rfl) (fun _ _ _ h => h) (Or.inl ⟨by rfl, ?hy1_2⟩) (by assumption) ?rest1_2
      case hy1_2 => (intro u hu; go_simp; try with_reducible rfl)
      simp only [Act.put]
      refine wpHead_take (i := 2) (v := ?vv2_3) rfl (by kernel_rfl) (fun _ _ _ h => h) (Or.inl ⟨by rfl, ?hy2_3⟩) (by assumption) ?rest2_3
      case hy2_3 => (intro u hu; go_simp; try with_reducible rfl)
      simp only [Act.put]
      refine wpHead_take (i := 3) (v := ?vv3_4) rfl (by kernel_rfl) (fun _ _ _ h => h) (Or.inl ⟨by rfl, ?hy3_4⟩) (by assumption) ?rest3_4
      case hy3_4 => (intro u hu; go_simp; try with_reducible rfl)
      simp only [Act.put]
      refine wpHead_take (i := 4) (v := ?vv4_5) rfl (by kernel_rfl) (fun _ _ _ h => h) (Or.inl ⟨by rfl, ?hy4_5⟩) (by assumption) ?rest4_5
      case hy4_5 => (intro u hu; go_simp; try with_reducible rfl)
      simp only [Act.put]
      refine wpHead_take (i := 5) (v := ?vv5_6) rfl (by kernel_rfl) (fun _ _ _ h => h) (Or.inl ⟨by rfl, ?hy5_6⟩) (by assumption) ?rest5_6
      case hy5_6 => (intro u hu; go_simp; try with_reducible rfl)
      simp only [Act.put]
      refine wpHead_take (i := 6) (v := ?vv6_7) rfl (by kernel_rfl) (fun _ _ _ h => h) (Or.inl ⟨by rfl, ?hy6_7⟩) (by assumption) ?rest6_7
      case hy6_7 => (intro u hu; go_simp; try with_reducible rfl)
      simp only [Act.put]
      refine wpHead_take (i := 7) (v := ?vv7_8) rfl (by kernel_rfl) (fun _ _ _ h => h) (Or.inl ⟨by rfl, ?hy7_8⟩) (by assumption) ?rest7_8
      case hy7_8 => (intro u hu; go_simp; try with_reducible rfl)
      simp only [Act.put]
      refine wpHead_take (i := 8) (v := ?vv8_9) rfl (by kernel_rfl) (fun _ _ _ h => h) (Or.inl ⟨by rfl, ?hy8_9⟩) (by assumption) ?rest8_9
      case hy8_9 => (intro u hu; go_simp; try with_reducible rfl)
      simp only [Act.put]
      refine wpHead_take (i := 9) (v := ?vv9_10) rfl (by kernel_rfl) (fun _ _ _ h => h) (Or.inl ⟨by rfl, ?hy9_10⟩) (by assumption) ?rest9_10
      case hy9_10 => (intro u hu; go_simp; try with_reducible rfl)
      simp only [Act.put]
      have HSd : Hid (WrS W w5.drew b (.slice y1 L.length y3) L) := HS.out.grown (grown_drew (grown_refl _ _))
      have HTd : Hid (WrT w w5.drew b (.slice x1 l.length x3) (.slice y1 L.length y3)) := HT.out.grown (grown_drew (grown_refl _ _))
      have hWd : W.heap.size ≤ w5.heap.size := HS.out.base.size
      refine wpHead_alone (i := 10) rfl (by kernel_rfl) (by kernel_rfl) (by rfl) ?_
      intro K10 hK10
      have HK10 := hide hK10
      clear hK10
      go_simp
      refine HK10.out _ _ (pres_grown (grown_alloc (grown_refl _ _)) _ _ HSd.out.cell) ?_
      clear HK10
      try simp only [Act.put, List.setIfInBounds_toArray]
      refine wpHead_alone (i := 11) rfl (by kernel_rfl) (by kernel_rfl) (by rfl) ?_
      intro K11 hK11
      have HK11 := hide hK11
      clear hK11
      refine wp_append_m _ (.tmp 17) (.tmp 23) (by rfl) W.heap.size (.slice y1 L.length y3) L.length (u8s L) (by rfl) HSd.out.row.alloc w5.heap.size (.int .u8 (y : Int)) (by rfl) (heap_alloc_new w5.drew _) rfl (by omega) (by simp; omega) (w5.heap.size + 1) (by simp) ?_
      intro g6 cap6 w6 hown6 hgrow6 hat6 hlt6
      obtain ⟨p1, p2, p3, p4⟩ := HSd.out.push hown6 hgrow6 hat6
      have P1 : Hid (WrS W (w6.setCell ⟨b, 0, none⟩ (.slice (some ⟨g6, 0, none⟩) (L.length + 1) cap6)) b (.slice (some ⟨g6, 0, none⟩) (L.length + 1) cap6) (l ++ (leB 4 C).take 1)) := by
        unfold Hid
        rw [HX.out, ← List.append_assoc, HL.out]
        exact p1
      have P4 := hide (HTd.out.trans p4)
      clear p1 p4 hown6 hgrow6 hat6 hlt6
      refine HK11.out _ _ p2 ?_
      clear HK11
      try simp only [Act.put, List.setIfInBounds_toArray]
      refine wpHead_take (i := 12) (v := ?vv12_0b) rfl (by kernel_rfl) (fun _ _ _ h => h) (Or.inl ⟨by rfl, ?hy12_0b⟩) (by assumption) ?rest12_0b
      case hy12_0b => (intro u hu; go_simp; try with_reducible rfl)
      simp only [Act.put]
      refine wpHead_take (i := 13) (v := ?vv13_0b) rfl (by kernel_rfl) (fun _ _ _ h => h) (Or.inl ⟨by rfl, ?hy13_0b⟩) (by assumption) ?rest13_0b
      case hy13_0b => (intro u hu; go_simp; try with_reducible rfl)
      simp only [Act.put]
      refine wpHead_last rfl (by kernel_rfl) (by kernel_rfl) (by rfl) ?_
      go_simp
      go_wp2
      go_roundw
      case rel => exact ⟨1, _, by omega, by first | rfl | go_num, P1, P4⟩
      case measure => simp [intOf]
    · have HX : Hid ((leB 4 C).take 2 = (leB 4 C).take 1 ++ [C / 256 % 256]) := by unfold Hid; simp [leB, Nat.div_div_eq_div_mul]
      have qw : IntKind.i64.wrap 8 = 8 := by decide
      have qx : IntKind.u8.wrap ((C : Int) / 256) = ((C / 256 % 256 : Nat) : Int) := by rw [IntKind.wrap_u8']; omega
      have hll : (l ++ (leB 4 C).take 1).length ≤ 1000000 := by simp [leB_len]; omega
      generalize C / 256 % 256 = y at *
      generalize hL : l ++ (leB 4 C).take 1 = L at *
      have HL := hide hL
      clear hL
      obtain ⟨y1, y3, rfl⟩ := HS.out.row.form
      have cq : w5.cell? ⟨b, 0, none⟩ = some (.slice y1 L.length y3) := HS.out.cell
      go_wp2_with fail
      refine wp_region_head (fun u => u.cell? ⟨b, 0, none⟩ = some (.slice y1 L.length y3)) 14 (by kernel_rfl) (by kernel_rfl) ?_ ?_
      · simp [go_sem, cq]
      intro hHeld
      refine wpHead_take (i := 0) (v := ?vv0_11) rfl (by kernel_rfl) (fun _ _ _ h => h) (Or.inl ⟨by rfl, ?hy0_11⟩) (by assumption) ?rest0_11
      case hy0_11 => (intro u hu; go_simp; try with_reducible rfl)
      simp only [Act.put, List.setIfInBounds_toArray]
      refine wpHead_take (i := 1) (v := ?vv1_12) rfl (by kernel_rfl) (fun _ _ _ h => h) (Or.inl ⟨by rfl, ?hy1_12⟩) (by assumption) ?rest1_12
      case hy1_12 => (intro u hu; go_simp; try with_reducible rfl)
      simp only [Act.put]
      refine wpHead_take (i := 2) (v := ?vv2_13) rfl (by kernel_rfl) (fun _ _ _ h => h) (Or.inl ⟨by rfl, ?hy2_13⟩) (by assumption) ?rest2_13
      case hy2_13 => (intro u hu; go_simp; try with_reducible rfl)
      simp only [Act.put]
      refine wpHead_take (i := 3) (v := ?vv3_14) rfl (by kernel_rfl) (fun _ _ _ h => h) (Or.inl ⟨by rfl, ?hy3_14⟩) (by assumption) ?rest3_14
      case hy3_14 => (intro u hu; go_simp; try with_reducible rfl)
      simp only [Act.put]
      refine wpHead_take (i := 4) (v := ?vv4_15) rfl (by kernel_rfl) (fun _ _ _ h => h) (Or.inl ⟨by rfl, ?hy4_15⟩) (by assumption) ?rest4_15
      case hy4_15 => (intro u hu; go_simp; try with_reducible rfl)
      simp only [Act.put]
      refine wpHead_take (i := 5) (v := ?vv5_16) rfl (by kernel_rfl) (fun _ _ _ h => h) (Or.inl ⟨by rfl, ?hy5_16⟩) (by assumption) ?rest5_16
      case hy5_16 => (intro u hu; go_simp; try with_reducible rfl)
      simp only [Act.put]
      refine wpHead_take (i := 6) (v := ?vv6_17) rfl (by kernel_rfl) (fun _ _ _ h => h) (Or.inl ⟨by rfl, ?hy6_17⟩) (by assumption) ?rest6_17
      case hy6_17 => (intro u hu; go_simp; try with_reducible rfl)
      simp only [Act.put]
      refine wpHead_take (i := 7) (v := ?vv7_18) rfl (by kernel_rfl) (fun _ _ _ h => h) (Or.inl ⟨by rfl, ?hy7_18⟩) (by assumption) ?rest7_18
      case hy7_18 => (intro u hu; go_simp; try with_reducible rfl)
      simp only [Act.put]
      refine wpHead_take (i := 8) (v := ?vv8_19) rfl (by kernel_rfl) (fun _ _ _ h => h) (Or.inl ⟨by rfl, ?hy8_19⟩) (by assumption) ?rest8_19
      case hy8_19 => (intro u hu; go_simp; try with_reducible rfl)
      simp only [Act.put]
      refine wpHead_take (i := 9) (v := ?vv9_20) rfl (by kernel_rfl) (fun _ _ _ h => h) (Or.inl ⟨by rfl, ?hy9_20⟩) (by assumption) ?rest9_20
      case hy9_20 => (intro u hu; go_simp; try with_reducible rfl)
      simp only [Act.put]
      have HSd : Hid (WrS W w5.drew b (.slice y1 L.length y3) L) := HS.out.grown (grown_drew (grown_refl _ _))
      have HTd : Hid (WrT w w5.drew b (.slice x1 l.length x3) (.slice y1 L.length y3)) := HT.out.grown (grown_drew (grown_refl _ _))
      have hWd : W.heap.size ≤ w5.heap.size := HS.out.base.size
      refine wpHead_alone (i := 10) rfl (by kernel_rfl) (by kernel_rfl) (by rfl) ?_
      intro K10 hK10
      have HK10 := hide hK10
      clear hK10
      go_simp
      refine HK10.out _ _ (pres_grown (grown_alloc (grown_refl _ _)) _ _ HSd.out.cell) ?_
      clear HK10
      try simp only [Act.put, List.setIfInBounds_toArray]
      refine wpHead_alone (i := 11) rfl (by kernel_rfl) (by kernel_rfl) (by rfl) ?_
      intro K11 hK11
      have HK11 := hide hK11
      clear hK11
      refine wp_append_m _ (.tmp 17) (.tmp 23) (by rfl) W.heap.size (.slice y1 L.length y3) L.length (u8s L) (by rfl) HSd.out.row.alloc w5.heap.size (.int .u8 (y : Int)) (by rfl) (heap_alloc_new w5.drew _) rfl (by omega) (by simp; omega) (w5.heap.size + 1) (by simp) ?_
      intro g6 cap6 w6 hown6 hgrow6 hat6 hlt6
      obtain ⟨p1, p2, p3, p4⟩ := HSd.out.push hown6 hgrow6 hat6
      have P1 : Hid (WrS W (w6.setCell ⟨b, 0, none⟩ (.slice (some ⟨g6, 0, none⟩) (L.length + 1) cap6)) b (.slice (some ⟨g6, 0, none⟩) (L.length + 1) cap6) (l ++ (leB 4 C).take 2)) := by
        unfold Hid
        rw [HX.out, ← List.append_assoc, HL.out]
        exact p1
      have P4 := hide (HTd.out.trans p4)
      clear p1 p4 hown6 hgrow6 hat6 hlt6
      refine HK11.out _ _ p2 ?_
      clear HK11
      try simp only [Act.put, List.setIfInBounds_toArray]
      refine wpHead_take (i := 12) (v := ?vv12_1b) rfl (by kernel_rfl) (fun _ _ _ h => h) (Or.inl ⟨by rfl, ?hy12_1b⟩) (by assumption) ?rest12_1b
      case hy12_1b => (intro u hu; go_simp; try with_reducible rfl)
      simp only [Act.put]
      refine wpHead_take (i := 13) (v := ?vv13_1b) rfl (by kernel_rfl) (fun _ _ _ h => h) (Or.inl ⟨by rfl, ?hy13_1b⟩) (by assumption) ?rest13_1b
      case hy13_1b => (intro u hu; go_simp; try with_reducible rfl)
      simp only [Act.put]
      refine wpHead_last rfl (by kernel_rfl) (by kernel_rfl) (by rfl) ?_
      go_simp
      go_wp2
      go_roundw
      case rel => exact ⟨2, _, by omega, by first | rfl | go_num, P1, P4⟩
      case measure => simp [intOf]
    · have HX : Hid ((leB 4 C).take 3 = (leB 4 C).take 2 ++ [C / 65536 % 256]) := by unfold Hid; simp [leB, Nat.div_div_eq_div_mul]
      have qw : IntKind.i64.wrap 16 = 16 := by decide
      have qx : IntKind.u8.wrap ((C : Int) / 65536) = ((C / 65536 % 256 : Nat) : Int) := by rw [IntKind.wrap_u8']; omega
      have hll : (l ++ (leB 4 C).take 2).length ≤ 1000000 := by simp [leB_len]; omega
      generalize C / 65536 % 256 = y at *
      generalize hL : l ++ (leB 4 C).take 2 = L at *
      have HL := hide hL
      clear hL
      obtain ⟨y1, y3, rfl⟩ := HS.out.row.form
      have cq : w5.cell? ⟨b, 0, none⟩ = some (.slice y1 L.length y3) := HS.out.cell
      go_wp2_with fail
      refine wp_region_head (fun u => u.cell? ⟨b, 0, none⟩ = some (.slice y1 L.length y3)) 14 (by kernel_rfl) (by kernel_rfl) ?_ ?_
      · simp [go_sem, cq]
      intro hHeld
      refine wpHead_take (i := 0) (v := ?vv0_21) rfl (by kernel_rfl) (fun _ _ _ h => h) (Or.inl ⟨by rfl, ?hy0_21⟩) (by assumption) ?rest0_21
      case hy0_21 => (intro u hu; go_simp; try with_reducible rfl)
      simp only [Act.put, List.setIfInBounds_toArray]
      refine wpHead_take (i := 1) (v := ?vv1_22) rfl (by kernel_rfl) (fun _ _ _ h => h) (Or.inl ⟨by rfl, ?hy1_22⟩) (by assumption) ?rest1_22
      case hy1_22 => (intro u hu; go_simp; try with_reducible rfl)
      simp only [Act.put]
      refine wpHead_take (i := 2) (v := ?vv2_23) rfl (by kernel_rfl) (fun _ _ _ h => h) (Or.inl ⟨by rfl, ?hy2_23⟩) (by assumption) ?rest2_23
      case hy2_23 => (intro u hu; go_simp; try with_reducible rfl)
      simp only [Act.put]
      refine wpHead_take (i := 3) (v := ?vv3_24) rfl (by kernel_rfl) (fun _ _ _ h => h) (Or.inl ⟨by rfl, ?hy3_24⟩) (by assumption) ?rest3_24
      case hy3_24 => (intro u hu; go_simp; try with_reducible rfl)
      simp only [Act.put]
      refine wpHead_take (i := 4) (v := ?vv4_25) rfl (by kernel_rfl) (fun _ _ _ h => h) (Or.inl ⟨by rfl, ?hy4_25⟩) (by assumption) ?rest4_25
      case hy4_25 => (intro u hu; go_simp; try with_reducible rfl)
      simp only [Act.put]
      refine wpHead_take (i := 5) (v := ?vv5_26) rfl (by kernel_rfl) (fun _ _ _ h => h) (Or.inl ⟨by rfl, ?hy5_26⟩) (by assumption) ?rest5_26
      case hy5_26 => (intro u hu; go_simp; try with_reducible rfl)
      simp only [Act.put]
      refine wpHead_take (i := 6) (v := ?vv6_27) rfl (by kernel_rfl) (fun _ _ _ h => h) (Or.inl ⟨by rfl, ?hy6_27⟩) (by assumption) ?rest6_27
      case hy6_27 => (intro u hu; go_simp; try with_reducible rfl)
      simp only [Act.put]
      refine wpHead_take (i := 7) (v := ?vv7_28) rfl (by kernel_rfl) (fun _ _ _ h => h) (Or.inl ⟨by rfl, ?hy7_28⟩) (by assumption) ?rest7_28
      case hy7_28 => (intro u hu; go_simp; try with_reducible rfl)
      simp only [Act.put]
      refine wpHead_take (i := 8) (v := ?vv8_29) rfl (by kernel_rfl) (fun _ _ _ h => h) (Or.inl ⟨by rfl, ?hy8_29⟩) (by assumption) ?rest8_29
      case hy8_29 => (intro u hu; go_simp; try with_reducible rfl)
      simp only [Act.put]
      refine wpHead_take (i := 9) (v := ?vv9_30) rfl (by kernel_rfl) (fun _ _ _ h => h) (Or.inl ⟨by rfl, ?hy9_30⟩) (by assumption) ?rest9_30
      case hy9_30 => (intro u hu; go_simp; try with_reducible rfl)
      simp only [Act.put]
      have HSd : Hid (WrS W w5.drew b (.slice y1 L.length y3) L) := HS.out.grown (grown_drew (grown_refl _ _))
      have HTd : Hid (WrT w w5.drew b (.slice x1 l.length x3) (.slice y1 L.length y3)) := HT.out.grown (grown_drew (grown_refl _ _))
      have hWd : W.heap.size ≤ w5.heap.size := HS.out.base.size
      refine wpHead_alone (i := 10) rfl (by kernel_rfl) (by kernel_rfl) (by rfl) ?_
      intro K10 hK10
      have HK10 := hide hK10
      clear hK10
      go_simp
      refine HK10.out _ _ (pres_grown (grown_alloc (grown_refl _ _)) _ _ HSd.out.cell) ?_
      clear HK10
      try simp only [Act.put, List.setIfInBounds_toArray]
      refine wpHead_alone (i := 11) rfl (by kernel_rfl) (by kernel_rfl) (by rfl) ?_
      intro K11 hK11
      have HK11 := hide hK11
      clear hK11
      refine wp_append_m _ (.tmp 17) (.tmp 23) (by rfl) W.heap.size (.slice y1 L.length y3) L.length (u8s L) (by rfl) HSd.out.row.alloc w5.heap.size (.int .u8 (y : Int)) (by rfl) (heap_alloc_new w5.drew _) rfl (by omega) (by simp; omega) (w5.heap.size + 1) (by simp) ?_
      intro g6 cap6 w6 hown6 hgrow6 hat6 hlt6
      obtain ⟨p1, p2, p3, p4⟩ := HSd.out.push hown6 hgrow6 hat6
      have P1 : Hid (WrS W (w6.setCell ⟨b, 0, none⟩ (.slice (some ⟨g6, 0, none⟩) (L.length + 1) cap6)) b (.slice (some ⟨g6, 0, none⟩) (L.length + 1) cap6) (l ++ (leB 4 C).take 3)) := by
        unfold Hid
        rw [HX.out, ← List.append_assoc, HL.out]
        exact p1
      have P4 := hide (HTd.out.trans p4)
      clear p1 p4 hown6 hgrow6 hat6 hlt6
      refine HK11.out _ _ p2 ?_
      clear HK11
      try simp only [Act.put, List.setIfInBounds_toArray]
      refine wpHead_take (i := 12) (v := ?vv12_2b) rfl (by kernel_rfl) (fun _ _ _ h => h) (Or.inl ⟨by rfl, ?hy12_2b⟩) (by assumption) ?rest12_2b
      case hy12_2b => (intro u hu; go_simp; try with_reducible rfl)
      simp only [Act.put]
      refine wpHead_take (i := 13) (v := ?vv13_2b) rfl (by kernel_rfl) (fun _ _ _ h => h) (Or.inl ⟨by rfl, ?hy13_2b⟩) (by assumption) ?rest13_2b
      case hy13_2b => (intro u hu; go_simp; try with_reducible rfl)
      simp only [Act.put]
      refine wpHead_last rfl (by kernel_rfl) (by kernel_rfl) (by rfl) ?_
      go_simp
      go_wp2
      go_roundw
      case rel => exact ⟨3, _, by omega, by first | rfl | go_num, P1, P4⟩
      case measure => simp [intOf]
    · have HX : Hid ((leB 4 C).take 4 = (leB 4 C).take 3 ++ [C / 16777216 % 256]) := by unfold Hid; simp [leB, Nat.div_div_eq_div_mul]
      have qw : IntKind.i64.wrap 24 = 24 := by decide
      have qx : IntKind.u8.wrap ((C : Int) / 16777216) = ((C / 16777216 % 256 : Nat) : Int) := by rw [IntKind.wrap_u8']; omega
      have hll : (l ++ (leB 4 C).take 3).length ≤ 1000000 := by simp [leB_len]; omega
      generalize C / 16777216 % 256 = y at *
      generalize hL : l ++ (leB 4 C).take 3 = L at *
      have HL := hide hL
      clear hL
      obtain ⟨y1, y3, rfl⟩ := HS.out.row.form
      have cq : w5.cell? ⟨b, 0, none⟩ = some (.slice y1 L.length y3) := HS.out.cell
      go_wp2_with fail
      refine wp_region_head (fun u => u.cell? ⟨b, 0, none⟩ = some (.slice y1 L.length y3)) 14 (by kernel_rfl) (by kernel_rfl) ?_ ?_
      · simp [go_sem, cq]
      intro hHeld
      refine wpHead_take (i := 0) (v := ?vv0_31) rfl (by kernel_rfl) (fun _ _ _ h => h) (Or.inl ⟨by rfl, ?hy0_31⟩) (by assumption) ?rest0_31
      case hy0_31 => (intro u hu; go_simp; try with_reducible rfl)
      simp only [Act.put, List.setIfInBounds_toArray]
      refine wpHead_take (i := 1) (v := ?vv1_32) rfl (by kernel_rfl) (fun _ _ _ h => h) (Or.inl ⟨by rfl, ?hy1_32⟩) (by assumption) ?rest1_32
      case hy1_32 => (intro u hu; go_simp; try with_reducible rfl)
      simp only [Act.put]
      refine wpHead_take (i := 2) (v := ?vv2_33) rfl (by kernel_rfl) (fun _ _ _ h => h) (Or.inl ⟨by rfl, ?hy2_33⟩) (by assumption) ?rest2_33
      case hy2_33 => (intro u hu; go_simp; try with_reducible rfl)
      simp only [Act.put]
      refine wpHead_take (i := 3) (v := ?vv3_34) rfl (by kernel_rfl) (fun _ _ _ h => h) (Or.inl ⟨by rfl, ?hy3_34⟩) (by assumption) ?rest3_34
      case hy3_34 => (intro u hu; go_simp; try with_reducible rfl)
      simp only [Act.put]
      refine wpHead_take (i := 4) (v := ?vv4_35) rfl (by kernel_rfl) (fun _ _ _ h => h) (Or.inl ⟨by rfl, ?hy4_35⟩) (by assumption) ?rest4_35
      case hy4_35 => (intro u hu; go_simp; try with_reducible rfl)
      simp only [Act.put]
      refine wpHead_take (i := 5) (v := ?vv5_36) rfl (by kernel_rfl) (fun _ _ _ h => h) (Or.inl ⟨by rfl, ?hy5_36⟩) (by assumption) ?rest5_36
      case hy5_36 => (intro u hu; go_simp; try with_reducible rfl)
      simp only [Act.put]
      refine wpHead_take (i := 6) (v := ?vv6_37) rfl (by kernel_rfl) (fun _ _ _ h => h) (Or.inl ⟨by rfl, ?hy6_37⟩) (by assumption) ?rest6_37
      case hy6_37 => (intro u hu; go_simp; try with_reducible rfl)
      simp only [Act.put]
      refine wpHead_take (i := 7) (v := ?vv7_38) rfl (by kernel_rfl) (fun _ _ _ h => h) (Or.inl ⟨by rfl, ?hy7_38⟩) (by assumption) ?rest7_38
      case hy7_38 => (intro u hu; go_simp; try with_reducible rfl)
      simp only [Act.put]
      refine wpHead_take (i := 8) (v := ?vv8_39) rfl (by kernel_rfl) (fun _ _ _ h => h) (Or.inl ⟨by rfl, ?hy8_39⟩) (by assumption) ?rest8_39
      case hy8_39 => (intro u hu; go_simp; try with_reducible rfl)
      simp only [Act.put]
      refine wpHead_take (i := 9) (v := ?vv9_40) rfl (by kernel_rfl) (fun _ _ _ h => h) (Or.inl ⟨by rfl, ?hy9_40⟩) (by assumption) ?rest9_40
      case hy9_40 => (intro u hu; go_simp; try with_reducible rfl)
      simp only [Act.put]
      have HSd : Hid (WrS W w5.drew b (.slice y1 L.length y3) L) := HS.out.grown (grown_drew (grown_refl _ _))
      have HTd : Hid (WrT w w5.drew b (.slice x1 l.length x3) (.slice y1 L.length y3)) := HT.out.grown (grown_drew (grown_refl _ _))
      have hWd : W.heap.size ≤ w5.heap.size := HS.out.base.size
      refine wpHead_alone (i := 10) rfl (by kernel_rfl) (by kernel_rfl) (by rfl) ?_
      intro K10 hK10
      have HK10 := hide hK10
      clear hK10
      go_simp
      refine HK10.out _ _ (pres_grown (grown_alloc (grown_refl _ _)) _ _ HSd.out.cell) ?_
      clear HK10
      try simp only [Act.put, List.setIfInBounds_toArray]
      refine wpHead_alone (i := 11) rfl (by kernel_rfl) (by kernel_rfl) (by rfl) ?_
      intro K11 hK11
      have HK11 := hide hK11
      clear hK11
      refine wp_append_m _ (.tmp 17) (.tmp 23) (by rfl) W.heap.size (.slice y1 L.length y3) L.length (u8s L) (by rfl) HSd.out.row.alloc w5.heap.size (.int .u8 (y : Int)) (by rfl) (heap_alloc_new w5.drew _) rfl (by omega) (by simp; omega) (w5.heap.size + 1) (by simp) ?_
      intro g6 cap6 w6 hown6 hgrow6 hat6 hlt6
      obtain ⟨p1, p2, p3, p4⟩ := HSd.out.push hown6 hgrow6 hat6
      have P1 : Hid (WrS W (w6.setCell ⟨b, 0, none⟩ (.slice (some ⟨g6, 0, none⟩) (L.length + 1) cap6)) b (.slice (some ⟨g6, 0, none⟩) (L.length + 1) cap6) (l ++ (leB 4 C).take 4)) := by
        unfold Hid
        rw [HX.out, ← List.append_assoc, HL.out]
        exact p1
      have P4 := hide (HTd.out.trans p4)
      clear p1 p4 hown6 hgrow6 hat6 hlt6
      refine HK11.out _ _ p2 ?_
      clear HK11
      try simp only [Act.put, List.setIfInBounds_toArray]
      refine wpHead_take (i := 12) (v := ?vv12_3b) rfl (by kernel_rfl) (fun _ _ _ h => h) (Or.inl ⟨by rfl, ?hy12_3b⟩) (by assumption) ?rest12_3b
      case hy12_3b => (intro u hu; go_simp; try with_reducible rfl)
      simp only [Act.put]
      refine wpHead_take (i := 13) (v := ?vv13_3b) rfl (by kernel_rfl) (fun _ _ _ h => h) (Or.inl ⟨by rfl, ?hy13_3b⟩) (by assumption) ?rest13_3b
      case hy13_3b => (intro u hu; go_simp; try with_reducible rfl)
      simp only [Act.put]
      refine wpHead_last rfl (by kernel_rfl) (by kernel_rfl) (by rfl) ?_
      go_simp
      go_wp2
      go_roundw
      case rel => exact ⟨4, _, by omega, by first | rfl | go_num, P1, P4⟩
      case measure => simp [intOf]
    · go_wp2_with fail
      go_end0
      refine ⟨⟨_, rfl⟩, bv3, ?_, HT.out⟩
      have := HS.out
      rwa [List.take_of_length_le (by rw [leB_len]; exact Nat.le_refl _)] at this

end Go.Proofs.YtklenjmfalljgaaGreatDoor

/- The walk of the writer's program. -/
namespace Go.Proofs.YtklenjmfalljgaaGreatDoor
open Go.RowKit
attribute [local go_sem] Go.World.cell?_alloc_some

theorem vProg_len16 {p : List (List Ins)} (h : vProg p = true) : p.length ≤ 4 ∧ ∀ c ∈ p, c.length ≤ 16 := by
  simp only [vProg, Bool.and_eq_true, decide_eq_true_eq, List.all_eq_true] at h
  refine ⟨h.2.1, fun c hc => ?_⟩
  have := h.2.2 c hc
  simp only [vCode, Bool.and_eq_true, decide_eq_true_eq] at this
  exact this.1
theorem flat_len {α : Type} (f : α → List Nat) (B : Nat) (q : List α) (h : ∀ x ∈ q, (f x).length ≤ B) : (q.flatMap f).length ≤ B * q.length := by
  induction q with
  | nil => simp
  | cons x q ih =>
    have h1 := h x (by simp)
    have h2 := ih (fun y hy => h y (by simp [hy]))
    rw [List.flatMap_cons, List.length_append, List.length_cons, Nat.mul_succ]
    omega
theorem take_flat {α : Type} (f : α → List Nat) (q : List α) (k : Nat) (h : k < q.length) : (q.take (k + 1)).flatMap f = (q.take k).flatMap f ++ f q[k] := by
  rw [List.take_succ_eq_append_getElem h, List.flatMap_append]; simp
theorem wInt_len {n : Int} (h : n ≤ 9223372036854775807) : (wInt n).length ≤ 10 := numB_ten (by omega)
theorem insB_len {i : Ins} (h : insInt i) : (insB i).length ≤ 40 := by
  obtain ⟨⟨a1, a2⟩, ⟨b1, b2⟩, ⟨c1, c2⟩, ⟨d1, d2⟩⟩ := h
  unfold insB
  have h1 := wInt_len a2
  have h2 := wInt_len b2
  have h3 := wInt_len c2
  have h4 : (numB (zig i.n)).length ≤ 10 := numB_ten (by unfold zig; split <;> omega)
  simp only [List.length_append]
  omega
theorem codeB_len {c : List Ins} (h : c.length ≤ 16) (hi : ∀ i ∈ c, insInt i) : (codeB c).length ≤ 650 := by
  unfold codeB
  have h1 := wInt_len (n := c.length) (by omega)
  have h2 := flat_len insB 40 c (fun i h => insB_len (hi i h))
  simp only [List.length_append]
  omega
theorem progB_len {p : List (List Ins)} (hv : vProg p = true) (hi : ∀ c ∈ p, ∀ i ∈ c, insInt i) : (progB p).length ≤ 2610 := by
  obtain ⟨h4, h16⟩ := vProg_len16 hv
  unfold progB
  have h1 := wInt_len (n := p.length) (by omega)
  have h2 := flat_len codeB 650 p (fun c h => codeB_len (h16 c h) (hi c h))
  simp only [List.length_append]
  omega

set_option maxRecDepth 100000 in
set_option maxHeartbeats 1000000 in
theorem program_w (W : World) (b : Nat) (p : List (List Ins)) (pv : Value) (w : World) (bv : Value) (l : List Nat) (h : WrS W w b bv l) (hl : l.length ≤ 900) (hP : ProgAt W pv p) (hv : vProg p = true) (hi : ∀ c ∈ p, ∀ i ∈ c, insInt i) :
    Calls Tryz.prog 62 #[pt b, pv] w (Wrote W w b bv (l ++ progB p)) := by
  obtain ⟨ao, cap, rfl, hPc⟩ := hP
  have HH := hide h
  have HP := hide hPc
  have hpt : pt b = .pointer (some ⟨b, 0, none⟩) := rfl
  rw [hpt] at *
  clear h hPc
  go_enter Tryz.func62, Tryz.ntmps62
  go_wp2_with fail
  have L0 := WrL.start HH.out 24 #[.slice ao p.length cap]
  have T0 : WrT w (w.alloc (.cells #[.slice ao p.length cap] 24)) b bv bv := (WrT.refl _ _ _).grown (grown_alloc (grown_refl _ _))
  generalize w.alloc (.cells #[.slice ao p.length cap] 24) = w1 at L0 T0 ⊢
  have hp4 : p.length ≤ 4 := (vProg_len16 hv).1
  refine (whole_w W b p.length (by omega) (by omega) w1 bv l L0.wr (by omega)).mono ?_
  rintro e w2 ⟨⟨v2, rfl⟩, bv2, hs2, ht2⟩
  have L2 := L0.call hs2 ht2
  have T2 := T0.trans ht2
  have c2 : w2.cell? ⟨w.heap.size, 0, none⟩ = some (.slice ao p.length cap) := by simpa using L2.cell 0
  have HL := hide L2.wr
  have HT := hide T2
  have HV := hide (vProg_len16 hv).2
  have HI := hide hi
  clear L2 T2 L0 T0 hs2 ht2 hv hi
  go_wp2_with fail
  clear c2
  go_loopw [16] (fun i w' => ∃ (t : Nat) (bv' : Value), t ≤ p.length ∧ i = .int .i64 t ∧ Hid (WrS W w' b bv' (l ++ wInt p.length ++ (p.take t).flatMap codeB)) ∧ Hid (WrT w w' b bv bv')) (fun i _ => p.length - (intOf i).toNat)
  case atStart => exact ⟨0, bv2, Nat.zero_le _, rfl, hide (by simpa using HL.out), HT⟩
  case round =>
    clear HL HT
    obtain ⟨t, bv3, ht, rfl, HW, HT3⟩ := hrel
    obtain ⟨w5, hw5⟩ : ∃ w5, w5 = wr := ⟨_, rfl⟩
    rw [← hw5] at HW HT3 ⊢
    clear hw5
    by_cases hlt : t < p.length
    · obtain ⟨g, o, rfl, rv, c0, hcode⟩ := HP.out t hlt
      obtain ⟨ca, cc, rfl, hC⟩ := hcode
      have d0 := pres_grown HW.out.base _ _ c0
      have HC := hide hC
      have q0 : (0 : Int) ≤ (t : Int) := by omega
      have q1 : (t : Int) < p.length := by omega
      have hc16 : p[t].length ≤ 16 := HV.out _ (List.getElem_mem hlt)
      have HIc := hide (HI.out p[t] (List.getElem_mem hlt))
      have HTk := hide (take_flat codeB p t hlt)
      have HLen : Hid ((l ++ wInt p.length ++ (p.take t).flatMap codeB).length ≤ 4000) := by
        unfold Hid
        have h1 := wInt_len (n := p.length) (by omega)
        have h2 := flat_len codeB 650 (p.take t) (fun c h => codeB_len (HV.out c (List.mem_of_mem_take h)) (HI.out c (List.mem_of_mem_take h)))
        simp only [List.length_append, List.length_take] at h2 ⊢
        have h3 : 650 * min t p.length ≤ 650 * 4 := Nat.mul_le_mul_left _ (by omega)
        omega
      generalize hl1 : l ++ wInt p.length ++ (p.take t).flatMap codeB = l1 at HW HLen ⊢
      have HL1 := hide hl1
      clear hl1
      generalize p[t] = c at *
      clear c0 hC
      go_wp2_with fail
      refine (whole_w W b c.length (by omega) (by omega) w5 bv3 l1 HW.out (by have := HLen.out; omega)).mono ?_
      rintro e w6 ⟨⟨v6, rfl⟩, bv6, hs6, ht6⟩
      have H6 := hide hs6
      have T6 := hide (HT3.out.trans ht6)
      clear hs6 ht6 HW HT3 d0
      go_wp2_with fail
      go_loopw [26] (fun i w' => ∃ (k : Nat) (bv' : Value), k ≤ c.length ∧ i = .int .i64 k ∧ Hid (WrS W w' b bv' (l1 ++ wInt c.length ++ (c.take k).flatMap insB)) ∧ Hid (WrT w w' b bv bv')) (fun i _ => c.length - (intOf i).toNat)
      case atStart => exact ⟨0, bv6, Nat.zero_le _, rfl, hide (by simpa using H6.out), T6⟩
      case round =>
        clear H6 T6
        obtain ⟨k, bv7, hk, rfl, HW, HT3⟩ := hrel
        obtain ⟨w7, hw7⟩ : ∃ w7, w7 = wr := ⟨_, rfl⟩
        rw [← hw7] at HW HT3 ⊢
        clear hw7
        by_cases hkl : k < c.length
        · obtain ⟨g', o', rfl, c0, c1, c2, c3⟩ := HC.out k hkl
          have hpr := pres_grown HW.out.base
          have d0 := hpr _ _ c0
          have d1 := hpr _ _ c1
          have d2 := hpr _ _ c2
          have d3 := hpr _ _ c3
          have k0 : (0 : Int) ≤ (k : Int) := by omega
          have k1 : (k : Int) < c.length := by omega
          obtain ⟨⟨a1, a2⟩, ⟨b1, b2⟩, ⟨e1, e2⟩, ⟨n1, n2⟩⟩ := HIc.out c[k] (List.getElem_mem hkl)
          have HTi := hide (take_flat insB c k hkl)
          have HLi : Hid ((l1 ++ wInt c.length ++ (c.take k).flatMap insB).length ≤ 5000) := by
            unfold Hid
            have h1 := wInt_len (n := c.length) (by omega)
            have h2 := flat_len insB 40 (c.take k) (fun i h => insB_len (HIc.out i (List.mem_of_mem_take h)))
            simp only [List.length_append, List.length_take] at h2 ⊢
            have h3 : 40 * min k c.length ≤ 40 * 16 := Nat.mul_le_mul_left _ (by omega)
            have := HLen.out
            omega
          generalize hl2 : l1 ++ wInt c.length ++ (c.take k).flatMap insB = l2 at HW HLi ⊢
          have HL2 := hide hl2
          clear hl2
          clear c0 c1 c2 c3 hpr
          have hz : (c[k] : Ins) = ⟨c[k].op, c[k].a, c[k].b, c[k].n⟩ := rfl
          have HZ : Hid (insB c[k] = wInt c[k].op ++ (wInt c[k].a ++ (wInt c[k].b ++ numB (zig c[k].n)))) := rfl
          clear hz
          generalize c[k].op = x0 at *
          generalize c[k].a = x1 at *
          generalize c[k].b = x2 at *
          generalize c[k].n = x3 at *
          have y0 := wInt_len a2
          have y1 := wInt_len b2
          have y2 := wInt_len e2
          go_wp2_with fail
          have L0 := WrL.start HW.out 74 #[.int .i64 x0, .int .i64 x1, .int .i64 x2, .int .i64 x3]
          have T0 : WrT w (w7.alloc (.cells #[.int .i64 x0, .int .i64 x1, .int .i64 x2, .int .i64 x3] 74)) b bv bv7 := HT3.out.grown (grown_alloc (grown_refl _ _))
          clear d0 d1 d2 d3
          generalize w7.alloc (.cells #[.int .i64 x0, .int .i64 x1, .int .i64 x2, .int .i64 x3] 74) = u0 at L0 T0 ⊢
          refine (whole_w W b x0 a1 a2 u0 bv7 l2 L0.wr (by have := HLi.out; omega)).mono ?_
          rintro e u1 ⟨⟨v1, rfl⟩, bw1, hs1, ht1⟩
          have L1 := L0.call hs1 ht1
          have T1 := T0.trans ht1
          have m1 : u1.cell? ⟨w7.heap.size, 1, none⟩ = some (.int .i64 x1) := by simpa using L1.cell 1
          have HL := hide L1
          have HT := hide T1
          clear L1 T1 L0 T0 hs1 ht1 HW HT3
          go_wp2_with fail
          have L1 := HL.out
          have T1 := HT.out
          clear HL HT m1
          refine (whole_w W b x1 b1 b2 u1 bw1 (l2 ++ wInt x0) L1.wr (by have := HLi.out; simp only [List.length_append]; omega)).mono ?_
          rintro e u2 ⟨⟨v2, rfl⟩, bw2, hs2, ht2⟩
          have L2 := L1.call hs2 ht2
          have T2 := T1.trans ht2
          have m2 : u2.cell? ⟨w7.heap.size, 2, none⟩ = some (.int .i64 x2) := by simpa using L2.cell 2
          have HL := hide L2
          have HT := hide T2
          clear L2 T2 L1 T1 hs2 ht2
          go_wp2_with fail
          have L2 := HL.out
          have T2 := HT.out
          clear HL HT m2
          refine (whole_w W b x2 e1 e2 u2 bw2 (l2 ++ wInt x0 ++ wInt x1) L2.wr (by have := HLi.out; simp only [List.length_append]; omega)).mono ?_
          rintro e u3 ⟨⟨v3, rfl⟩, bw3, hs3, ht3⟩
          have L3 := L2.call hs3 ht3
          have T3 := T2.trans ht3
          have m3 : u3.cell? ⟨w7.heap.size, 3, none⟩ = some (.int .i64 x3) := by simpa using L3.cell 3
          have HL := hide L3
          have HT := hide T3
          clear L3 T3 L2 T2 hs3 ht3
          go_wp2_with fail
          have L3 := HL.out
          have T3 := HT.out
          clear HL HT m3
          refine (signed_w W b x3 n1 n2 u3 bw3 (l2 ++ wInt x0 ++ wInt x1 ++ wInt x2) L3.wr (by have := HLi.out; simp only [List.length_append]; omega)).mono ?_
          rintro e u4 ⟨⟨v4, rfl⟩, bw4, hs4, ht4⟩
          have T4 := hide (T3.trans ht4)
          have S4 : Hid (WrS W u4 b bw4 (l1 ++ wInt c.length ++ (c.take (k + 1)).flatMap insB)) := by
            unfold Hid
            rw [HTi.out, HZ.out, ← List.append_assoc (l1 ++ wInt c.length), HL2.out]
            simpa [List.append_assoc] using hs4
          clear L3 T3 hs4 ht4
          go_wp2_with fail
          go_roundw
          case rel => exact ⟨k + 1, bw4, by omega, by first | rfl | go_num, S4, T4⟩
          case measure => simp [intOf]; omega
        · have k1 : ¬ (k : Int) < c.length := by omega
          have hkc : k = c.length := by omega
          have S5 : Hid (WrS W w7 b bv7 (l ++ wInt p.length ++ (p.take (t + 1)).flatMap codeB)) := by
            unfold Hid
            rw [HTk.out, ← List.append_assoc (l ++ wInt p.length), HL1.out]
            have := HW.out
            rw [hkc, List.take_length] at this
            simpa [codeB, List.append_assoc] using this
          clear hkc
          go_wp2_with fail
          go_roundw
          case rel => exact ⟨t + 1, bv7, by omega, by first | rfl | go_num, S5, HT3⟩
          case measure => simp [intOf]; omega
    · have q1 : ¬ (t : Int) < p.length := by omega
      have htp : t = p.length := by omega
      have S5 : Hid (WrS W w5 b bv3 (l ++ progB p)) := by
        unfold Hid progB
        have := HW.out
        rw [htp, List.take_length] at this
        simpa [List.append_assoc] using this
      clear htp
      go_wp2_with fail
      go_end0
      exact ⟨⟨_, rfl⟩, bv3, S5.out, HT3.out⟩

end Go.Proofs.YtklenjmfalljgaaGreatDoor
