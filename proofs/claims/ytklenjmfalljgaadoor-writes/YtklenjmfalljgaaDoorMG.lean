/- The texts Rdc Rdd Rde Rdf Rdg Wrt2 Rdh. -/
import Derived.Test.YtklenjmfalljgaaDoorMF
import Derived.Deep.DeepMust
import Derived.Deep.RegionHeld3

/- The walks of the reader's wholes, signed numbers, bounded numbers, instructions, runs and verdicts. -/
namespace Go.Proofs.YtklenjmfalljgaaDoor
open Go.RowKit
attribute [local go_sem] Go.World.cell?_alloc_some

theorem rdN_lt (l : List Nat) : ∀ (place acc x : Nat) (r : List Nat), acc < 2 ^ place → rdN place acc l = some (x, r) → x < 18446744073709551616 := by
  induction l with
  | nil => intro place acc x r _ h; cases h
  | cons b l ih =>
    intro place acc x r ha h
    rw [rdN] at h
    split at h
    · rename_i h1
      have hf := fits_sum acc b place ha h1.2 h1.1
      split at h
      · split at h
        · simp only [Option.some.injEq, Prod.mk.injEq] at h
          rw [← h.1]; exact hf.1
        · cases h
      · exact ih _ _ _ _ hf.2 h
    · cases h

set_option maxRecDepth 100000 in
set_option maxHeartbeats 1000000 in
theorem whole_r (W w : World) (b k : Nat) (s : ByteArray) (h : RdS W w b s k) (hs : s.size ≤ 9223372036854775806) :
    Calls Tryd.prog 164 #[pt b] w (Rd W b s (fun _ x v => v = .int .i64 x) (rdWhole ((byt s).drop k))) := by
  have HN := hide (number_r W w b k s h hs)
  have hpt : pt b = .pointer (some ⟨b, 0, none⟩) := rfl
  rw [hpt] at *
  clear h
  go_enter Tryd.func164, Tryd.ntmps164
  go_wp2_with fail
  refine HN.out.mono ?_
  rintro e w1 (⟨hr, rfl, hg⟩ | ⟨n, r, v, k1, hr, rfl, rfl, hS, hd⟩)
  · have HR : Hid (rdWhole ((byt s).drop k) = none) := by unfold Hid rdWhole; rw [hr]
    clear hr
    go_wp2_with fail
    exact ⟨rfl, Or.inl ⟨HR.out, rfl, hg⟩⟩
  · have HS := hide hS
    have HD := hide hd
    by_cases hm : n ≤ 9223372036854775807
    · have HR : Hid (rdWhole ((byt s).drop k) = some ((n : Int), r)) := by unfold Hid rdWhole; rw [hr]; simp only; rw [if_pos hm]
      have q1 : (n : Int) ≤ 9223372036854775807 := by omega
      clear hr hS hd
      go_wp2_with (go_at_call 119; refine (must_ok _).mono ?_; rintro e w7 ⟨⟨v7, rfl⟩, rfl⟩)
      go_ret
      exact Or.inr ⟨(n : Int), r, _, k1, HR.out, rfl, rfl, HS.out, HD.out⟩
    · have HR : Hid (rdWhole ((byt s).drop k) = none) := by unfold Hid rdWhole; rw [hr]; simp only; rw [if_neg hm]
      have qd : decide ((n : Int) ≤ 9223372036854775807) = false := by simp; omega
      clear hr hS hd
      go_wp2_with (go_at_call 119; refine (must_not _).mono ?_; rintro e w7 ⟨rfl, rfl⟩)
      exact ⟨rfl, Or.inl ⟨HR.out, rfl, HS.out.base⟩⟩

theorem zag_odd (n : Nat) (hn : n < 18446744073709551616) (h : n % 2 = 1) : wrap64 (bits .xor .u64 IntKind.u64.max ((n : Int) / 2)) = zag n := by
  have hm : IntKind.u64.max = ((18446744073709551615 : Nat) : Int) := rfl
  have e : ((n : Int) / 2) = ((n / 2 : Nat) : Int) := by omega
  rw [e, hm, u64_xor_nat _ _ (by decide) (by omega)]
  have := not_bits 64 (n / 2) (by omega)
  have e3 : (2 : Nat) ^ 64 - 1 = 18446744073709551615 := by decide
  rw [e3] at this
  rw [this]
  unfold zag
  rw [if_pos h]
  simp only [wrap64]
  omega

set_option maxRecDepth 100000 in
set_option maxHeartbeats 1000000 in
theorem signed_r (W w : World) (b k : Nat) (s : ByteArray) (h : RdS W w b s k) (hs : s.size ≤ 9223372036854775806) :
    Calls Tryd.prog 204 #[pt b] w (Rd W b s (fun _ x v => v = .int .i64 x) (rdSigned ((byt s).drop k))) := by
  have HN := hide (number_r W w b k s h hs)
  have hpt : pt b = .pointer (some ⟨b, 0, none⟩) := rfl
  rw [hpt] at *
  clear h
  go_enter Tryd.func204, Tryd.ntmps204
  go_wp2_with fail
  refine HN.out.mono ?_
  rintro e w1 (⟨hr, rfl, hg⟩ | ⟨n, r, v, k1, hr, rfl, rfl, hS, hd⟩)
  · have HR : Hid (rdSigned ((byt s).drop k) = none) := by unfold Hid rdSigned; rw [hr]
    clear hr
    go_wp2_with fail
    exact ⟨rfl, Or.inl ⟨HR.out, rfl, hg⟩⟩
  · have HS := hide hS
    have HD := hide hd
    have hn := rdN_lt _ 0 0 n r (by simp) hr
    have HR : Hid (rdSigned ((byt s).drop k) = some (zag n, r)) := by unfold Hid rdSigned; rw [hr]
    clear hr hS hd
    have hand : bits .and .u64 (n : Int) 1 = ((n % 2 : Nat) : Int) := by
      have := u64_and_nat n 1 hn (by decide)
      rw [nat_mask1] at this
      exact this
    by_cases h2 : n % 2 = 1
    · rw [h2] at hand
      have hz := zag_odd n hn h2
      go_wp2_with fail
      go_ret
      exact Or.inr ⟨zag n, r, _, k1, HR.out, rfl, by first | rfl | (rw [← hz]; rfl), HS.out, HD.out⟩
    · have h0 : n % 2 = 0 := by omega
      rw [h0] at hand
      have HZ : Hid (zag n = ((n / 2 : Nat) : Int)) := by unfold Hid zag; rw [if_neg h2]
      go_wp2_with fail
      go_ret
      exact Or.inr ⟨zag n, r, _, k1, HR.out, rfl, by rw [HZ.out]; rfl, HS.out, HD.out⟩

set_option maxRecDepth 100000 in
set_option maxHeartbeats 1000000 in
theorem most_r (W w : World) (b k : Nat) (s : ByteArray) (h : RdS W w b s k) (hs : s.size ≤ 9223372036854775806) (m : Int) :
    Calls Tryd.prog 161 #[pt b, .int .i64 m] w (Rd W b s (fun _ x v => v = .int .i64 x) (rdMost m ((byt s).drop k))) := by
  have HN := hide (whole_r W w b k s h hs)
  have hpt : pt b = .pointer (some ⟨b, 0, none⟩) := rfl
  rw [hpt] at *
  clear h
  go_enter Tryd.func161, Tryd.ntmps161
  go_wp2_with fail
  refine HN.out.mono ?_
  rintro e w1 (⟨hr, rfl, hg⟩ | ⟨n, r, v, k1, hr, rfl, rfl, hS, hd⟩)
  · have HR : Hid (rdMost m ((byt s).drop k) = none) := by unfold Hid rdMost; rw [hr]
    clear hr
    go_wp2_with fail
    exact ⟨rfl, Or.inl ⟨HR.out, rfl, hg⟩⟩
  · have HS := hide hS
    have HD := hide hd
    by_cases hm : n ≤ m
    · have HR : Hid (rdMost m ((byt s).drop k) = some (n, r)) := by unfold Hid rdMost; rw [hr]; simp only; rw [if_pos hm]
      clear hr hS hd
      go_wp2_with (go_at_call 119; refine (must_ok _).mono ?_; rintro e w7 ⟨⟨v7, rfl⟩, rfl⟩)
      go_ret
      exact Or.inr ⟨n, r, _, k1, HR.out, rfl, rfl, HS.out, HD.out⟩
    · have HR : Hid (rdMost m ((byt s).drop k) = none) := by unfold Hid rdMost; rw [hr]; simp only; rw [if_neg hm]
      have qd : decide (n ≤ m) = false := by simp; omega
      clear hr hS hd
      go_wp2_with (go_at_call 119; refine (must_not _).mono ?_; rintro e w7 ⟨rfl, rfl⟩)
      exact ⟨rfl, Or.inl ⟨HR.out, rfl, HS.out.base⟩⟩

/-- The reader, a variable of the call's own at c, and the call's result at d. -/
structure InS (W w : World) (b : Nat) (s : ByteArray) (k T c d : Nat) (vs us : Array Value) : Prop where
  rd : RdS W w b s k
  var : w.heap[c]? = some (.cells vs T (0, 0))
  res : w.heap[d]? = some (.cells us T (0, 0))
  cb : c ≠ b
  db : d ≠ b
  cd : c ≠ d
  lc : W.heap.size ≤ c
  ld : W.heap.size ≤ d

theorem InS.call {W w w' : World} {b k k' T c d : Nat} {s : ByteArray} {vs us : Array Value} (h : InS W w b s k T c d vs us) (h' : RdS w w' b s k') : InS W w' b s k' T c d vs us :=
  ⟨h.rd.trans h', by rw [h'.base.block c (Array.getElem?_eq_some_iff.1 h.var).1 (by simpa using h.cb)]; exact h.var,
    by rw [h'.base.block d (Array.getElem?_eq_some_iff.1 h.res).1 (by simpa using h.db)]; exact h.res, h.cb, h.db, h.cd, h.lc, h.ld⟩
theorem InS.cell {W w : World} {b k T c d : Nat} {s : ByteArray} {vs us : Array Value} (h : InS W w b s k T c d vs us) (o : Nat) : w.cell? ⟨c, o, none⟩ = vs[o]? := by
  have := h.var
  simp [World.cell?, this]
theorem InS.free {W w : World} {b k T c d : Nat} {s : ByteArray} {vs us : Array Value} (h : InS W w b s k T c d vs us) (o : Nat) : w.frozen? ⟨c, o, none⟩ = false := by
  have := h.var
  simp [World.frozen?, this]
theorem InS.rcell {W w : World} {b k T c d : Nat} {s : ByteArray} {vs us : Array Value} (h : InS W w b s k T c d vs us) (o : Nat) : w.cell? ⟨d, o, none⟩ = us[o]? := by
  have := h.res
  simp [World.cell?, this]
theorem InS.rfree {W w : World} {b k T c d : Nat} {s : ByteArray} {vs us : Array Value} (h : InS W w b s k T c d vs us) (o : Nat) : w.frozen? ⟨d, o, none⟩ = false := by
  have := h.res
  simp [World.frozen?, this]
theorem InS.set {W w : World} {b k T c d : Nat} {s : ByteArray} {vs us : Array Value} (h : InS W w b s k T c d vs us) (o : Nat) (v : Value) : InS W (w.setCell ⟨c, o, none⟩ v) b s k T c d (vs.setIfInBounds o v) us := by
  refine ⟨⟨?_, grown_setNew h.rd.base h.lc, h.rd.le⟩, ?_, ?_, h.cb, h.db, h.cd, h.lc, h.ld⟩
  · rw [heap_setCell_other _ _ _ _ (Ne.symm h.cb)]; exact h.rd.blk
  · rw [heap_setCell_same _ c o _ _ _ h.var]
  · rw [heap_setCell_other _ _ _ _ (Ne.symm h.cd)]; exact h.res

theorem InS.rset {W w : World} {b k T c d : Nat} {s : ByteArray} {vs us : Array Value} (h : InS W w b s k T c d vs us) (o : Nat) (v : Value) : InS W (w.setCell ⟨d, o, none⟩ v) b s k T c d vs (us.setIfInBounds o v) := by
  refine ⟨⟨?_, grown_setNew h.rd.base h.ld, h.rd.le⟩, ?_, ?_, h.cb, h.db, h.cd, h.lc, h.ld⟩
  · rw [heap_setCell_other _ _ _ _ (Ne.symm h.db)]; exact h.rd.blk
  · rw [heap_setCell_other _ _ _ _ h.cd]; exact h.var
  · rw [heap_setCell_same _ d o _ _ _ h.res]
theorem InS.start {W w : World} {b k T : Nat} {s : ByteArray} (h : RdS W w b s k) (us vs : Array Value) : InS W ((w.alloc (.cells us T)).alloc (.cells vs T)) b s k T (w.heap.size + 1) w.heap.size vs us := by
  have hb := h.lt
  have hW := h.base.size
  refine ⟨h.grown (grown_alloc (grown_alloc (grown_refl _ _))), ?_, ?_, by omega, by omega, by omega, by omega, hW⟩
  · have := heap_alloc_new (w.alloc (.cells us T)) (.cells vs T)
    simpa using this
  · rw [Below.heap_alloc _ _ _ (by simp)]
    exact heap_alloc_new _ _

def insA (i : Ins) : Value := .agg #[.int .i64 i.op, .int .i64 i.a, .int .i64 i.b, .int .i64 i.n]

set_option maxRecDepth 100000 in
set_option maxHeartbeats 1000000 in
theorem ins_r (W w : World) (b k : Nat) (s : ByteArray) (h : RdS W w b s k) (hs : s.size ≤ 9223372036854775806) :
    Calls Tryd.prog 193 #[pt b] w (Rd W b s (fun _ x v => v = insA x) (rdIns ((byt s).drop k))) := by
  have HH := hide h
  have hpt : pt b = .pointer (some ⟨b, 0, none⟩) := rfl
  rw [hpt] at *
  clear h
  go_enter Tryd.func193, Tryd.ntmps193
  go_wp2_with fail
  have I0 := InS.start (T := 28) HH.out #[.int .i64 0, .int .i64 0, .int .i64 0, .int .i64 0] #[.int .i64 0, .int .i64 0, .int .i64 0, .int .i64 0]
  generalize (w.alloc (.cells #[.int .i64 0, .int .i64 0, .int .i64 0, .int .i64 0] 28)).alloc (.cells #[.int .i64 0, .int .i64 0, .int .i64 0, .int .i64 0] 28) = w1 at I0 ⊢
  refine (whole_r w1 w1 b k s I0.rd.self hs).mono ?_
  rintro e x1 (⟨hr, rfl, hg⟩ | ⟨o, r1, v, k1, hr, rfl, rfl, hS, rfl⟩)
  · have HR : Hid (rdIns ((byt s).drop k) = none) := by unfold Hid rdIns; rw [hr]
    have HG := hide (grown_trans I0.rd.base hg)
    clear hr hg I0
    go_wp2_with fail
    exact ⟨rfl, Or.inl ⟨HR.out, rfl, HG.out⟩⟩
  have HR1 := hide hr
  have I := I0.call hS
  have HI := hide I
  have c1 : x1.cell? ⟨w.heap.size + 1, 0, none⟩ = some (.int .i64 0) := by simpa using I.cell 0
  have f1 := I.free 0
  clear I0 I hS hr
  go_wp2_with fail
  have I1 := HI.out.set 0 (.int .i64 o)
  generalize x1.setCell ⟨w.heap.size + 1, 0, none⟩ (.int .i64 o) = y1 at I1 ⊢
  clear HI c1 f1
  refine (whole_r y1 y1 b k1 s I1.rd.self hs).mono ?_
  rintro e x2 (⟨hr, rfl, hg⟩ | ⟨a, r1, v, k2, hr, rfl, rfl, hS, rfl⟩)
  · have HR : Hid (rdIns ((byt s).drop k) = none) := by unfold Hid rdIns; rw [HR1.out]; simp only; rw [hr]
    have HG := hide (grown_trans I1.rd.base hg)
    clear hr hg I1
    go_wp2_with fail
    exact ⟨rfl, Or.inl ⟨HR.out, rfl, HG.out⟩⟩
  have HR2 := hide hr
  have I := I1.call hS
  have HI := hide I
  have c1 : x2.cell? ⟨w.heap.size + 1, 1, none⟩ = some (.int .i64 0) := by simpa using I.cell 1
  have f1 := I.free 1
  clear I1 I hS hr
  go_wp2_with fail
  have I2 := HI.out.set 1 (.int .i64 a)
  generalize x2.setCell ⟨w.heap.size + 1, 1, none⟩ (.int .i64 a) = y2 at I2 ⊢
  clear HI c1 f1
  refine (whole_r y2 y2 b k2 s I2.rd.self hs).mono ?_
  rintro e x3 (⟨hr, rfl, hg⟩ | ⟨c, r1, v, k3, hr, rfl, rfl, hS, rfl⟩)
  · have HR : Hid (rdIns ((byt s).drop k) = none) := by unfold Hid rdIns; rw [HR1.out]; simp only; rw [HR2.out]; simp only; rw [hr]
    have HG := hide (grown_trans I2.rd.base hg)
    clear hr hg I2
    go_wp2_with fail
    exact ⟨rfl, Or.inl ⟨HR.out, rfl, HG.out⟩⟩
  have HR3 := hide hr
  have I := I2.call hS
  have HI := hide I
  have c1 : x3.cell? ⟨w.heap.size + 1, 2, none⟩ = some (.int .i64 0) := by simpa using I.cell 2
  have f1 := I.free 2
  clear I2 I hS hr
  go_wp2_with fail
  have I3 := HI.out.set 2 (.int .i64 c)
  generalize x3.setCell ⟨w.heap.size + 1, 2, none⟩ (.int .i64 c) = y3 at I3 ⊢
  clear HI c1 f1
  refine (signed_r y3 y3 b k3 s I3.rd.self hs).mono ?_
  rintro e x4 (⟨hr, rfl, hg⟩ | ⟨n, r1, v, k4, hr, rfl, rfl, hS, rfl⟩)
  · have HR : Hid (rdIns ((byt s).drop k) = none) := by unfold Hid rdIns; rw [HR1.out]; simp only; rw [HR2.out]; simp only; rw [HR3.out]; simp only; rw [hr]
    have HG := hide (grown_trans I3.rd.base hg)
    clear hr hg I3
    go_wp2_with fail
    exact ⟨rfl, Or.inl ⟨HR.out, rfl, HG.out⟩⟩
  have HR4 := hide hr
  have I := I3.call hS
  have HI := hide I
  have c1 : x4.cell? ⟨w.heap.size + 1, 3, none⟩ = some (.int .i64 0) := by simpa using I.cell 3
  have f1 := I.free 3
  clear I3 I hS hr
  have I := HI.out.set 3 (.int .i64 n)
  have d0 : (x4.setCell ⟨w.heap.size + 1, 3, none⟩ (.int .i64 n)).cell? ⟨w.heap.size + 1, 0, none⟩ = some (.int .i64 o) := by simpa using I.cell 0
  have g0 : x4.frozen? ⟨w.heap.size, 0, none⟩ = false := HI.out.rfree 0
  have r0 : (x4.setCell ⟨w.heap.size + 1, 3, none⟩ (.int .i64 n)).cell? ⟨w.heap.size, 0, none⟩ = some (.int .i64 0) := by simpa using I.rcell 0
  have d1 : (x4.setCell ⟨w.heap.size + 1, 3, none⟩ (.int .i64 n)).cell? ⟨w.heap.size + 1, 1, none⟩ = some (.int .i64 a) := by simpa using I.cell 1
  have g1 : x4.frozen? ⟨w.heap.size, 1, none⟩ = false := HI.out.rfree 1
  have r1 : (x4.setCell ⟨w.heap.size + 1, 3, none⟩ (.int .i64 n)).cell? ⟨w.heap.size, 1, none⟩ = some (.int .i64 0) := by simpa using I.rcell 1
  have d2 : (x4.setCell ⟨w.heap.size + 1, 3, none⟩ (.int .i64 n)).cell? ⟨w.heap.size + 1, 2, none⟩ = some (.int .i64 c) := by simpa using I.cell 2
  have g2 : x4.frozen? ⟨w.heap.size, 2, none⟩ = false := HI.out.rfree 2
  have r2 : (x4.setCell ⟨w.heap.size + 1, 3, none⟩ (.int .i64 n)).cell? ⟨w.heap.size, 2, none⟩ = some (.int .i64 0) := by simpa using I.rcell 2
  have d3 : (x4.setCell ⟨w.heap.size + 1, 3, none⟩ (.int .i64 n)).cell? ⟨w.heap.size + 1, 3, none⟩ = some (.int .i64 n) := by simpa using I.cell 3
  have g3 : x4.frozen? ⟨w.heap.size, 3, none⟩ = false := HI.out.rfree 3
  have r3 : (x4.setCell ⟨w.heap.size + 1, 3, none⟩ (.int .i64 n)).cell? ⟨w.heap.size, 3, none⟩ = some (.int .i64 0) := by simpa using I.rcell 3
  have HI2 := hide I
  clear I
  go_wp2_with fail
  have J := ((((HI2.out.rset 0 (.int .i64 o)).rset 1 (.int .i64 a)).rset 2 (.int .i64 c)).rset 3 (.int .i64 n))
  clear c1 f1 HI HI2 d0 g0 r0 d1 g1 r1 d2 g2 r2 d3 g3 r3
  generalize (((((x4.setCell ⟨w.heap.size + 1, 3, none⟩ (.int .i64 n)).setCell ⟨w.heap.size, 0, none⟩ (.int .i64 o)).setCell ⟨w.heap.size, 1, none⟩ (.int .i64 a)).setCell ⟨w.heap.size, 2, none⟩ (.int .i64 c)).setCell ⟨w.heap.size, 3, none⟩ (.int .i64 n)) = wz at J ⊢
  have e0 : wz.cell? ⟨w.heap.size, 0, none⟩ = some (.int .i64 o) := by simpa using J.rcell 0
  have e1 : wz.cell? ⟨w.heap.size, 1, none⟩ = some (.int .i64 a) := by simpa using J.rcell 1
  have e2 : wz.cell? ⟨w.heap.size, 2, none⟩ = some (.int .i64 c) := by simpa using J.rcell 2
  have e3 : wz.cell? ⟨w.heap.size, 3, none⟩ = some (.int .i64 n) := by simpa using J.rcell 3
  refine bodyPost_ret (v := .agg #[.int .i64 o, .int .i64 a, .int .i64 c, .int .i64 n]) ?_ rfl ?_
  · simp [results, Tryd.results193, go_sem, e0, e1, e2, e3]
  · refine Or.inr ⟨⟨o, a, c, n⟩, _, _, k4, ?_, rfl, rfl, J.rd, rfl⟩
    unfold rdIns
    rw [HR1.out]
    simp only
    rw [HR2.out]
    simp only
    rw [HR3.out]
    simp only
    rw [HR4.out]

def verA (v : Int × Int × Int) : Value := .agg #[.int .i64 v.1, .int .i64 v.2.1, .int .i64 v.2.2]

set_option maxRecDepth 100000 in
set_option maxHeartbeats 1000000 in
theorem ver_r (W w : World) (b k : Nat) (s : ByteArray) (h : RdS W w b s k) (hs : s.size ≤ 9223372036854775806) :
    Calls Tryd.prog 117 #[pt b] w (Rd W b s (fun _ x v => v = verA x) (rdVer ((byt s).drop k))) := by
  have HH := hide h
  have hpt : pt b = .pointer (some ⟨b, 0, none⟩) := rfl
  rw [hpt] at *
  clear h
  go_enter Tryd.func117, Tryd.ntmps117
  go_wp2_with fail
  have I0 := InS.start (T := 32) HH.out #[.int .i64 0, .int .i64 0, .int .i64 0] #[.int .i64 0, .int .i64 0, .int .i64 0]
  generalize (w.alloc (.cells #[.int .i64 0, .int .i64 0, .int .i64 0] 32)).alloc (.cells #[.int .i64 0, .int .i64 0, .int .i64 0] 32) = w1 at I0 ⊢
  refine (whole_r w1 w1 b k s I0.rd.self hs).mono ?_
  rintro e x1 (⟨hr, rfl, hg⟩ | ⟨o, r1, v, k1, hr, rfl, rfl, hS, rfl⟩)
  · have HR : Hid (rdVer ((byt s).drop k) = none) := by unfold Hid rdVer; rw [hr]
    have HG := hide (grown_trans I0.rd.base hg)
    clear hr hg I0
    go_wp2_with fail
    exact ⟨rfl, Or.inl ⟨HR.out, rfl, HG.out⟩⟩
  have HR1 := hide hr
  have I := I0.call hS
  have HI := hide I
  have c1 : x1.cell? ⟨w.heap.size + 1, 0, none⟩ = some (.int .i64 0) := by simpa using I.cell 0
  have f1 := I.free 0
  clear I0 I hS hr
  go_wp2_with fail
  have I1 := HI.out.set 0 (.int .i64 o)
  generalize x1.setCell ⟨w.heap.size + 1, 0, none⟩ (.int .i64 o) = y1 at I1 ⊢
  clear HI c1 f1
  refine (whole_r y1 y1 b k1 s I1.rd.self hs).mono ?_
  rintro e x2 (⟨hr, rfl, hg⟩ | ⟨a, r1, v, k2, hr, rfl, rfl, hS, rfl⟩)
  · have HR : Hid (rdVer ((byt s).drop k) = none) := by unfold Hid rdVer; rw [HR1.out]; simp only; rw [hr]
    have HG := hide (grown_trans I1.rd.base hg)
    clear hr hg I1
    go_wp2_with fail
    exact ⟨rfl, Or.inl ⟨HR.out, rfl, HG.out⟩⟩
  have HR2 := hide hr
  have I := I1.call hS
  have HI := hide I
  have c1 : x2.cell? ⟨w.heap.size + 1, 1, none⟩ = some (.int .i64 0) := by simpa using I.cell 1
  have f1 := I.free 1
  clear I1 I hS hr
  go_wp2_with fail
  have I2 := HI.out.set 1 (.int .i64 a)
  generalize x2.setCell ⟨w.heap.size + 1, 1, none⟩ (.int .i64 a) = y2 at I2 ⊢
  clear HI c1 f1
  refine (whole_r y2 y2 b k2 s I2.rd.self hs).mono ?_
  rintro e x3 (⟨hr, rfl, hg⟩ | ⟨c, r1, v, k3, hr, rfl, rfl, hS, rfl⟩)
  · have HR : Hid (rdVer ((byt s).drop k) = none) := by unfold Hid rdVer; rw [HR1.out]; simp only; rw [HR2.out]; simp only; rw [hr]
    have HG := hide (grown_trans I2.rd.base hg)
    clear hr hg I2
    go_wp2_with fail
    exact ⟨rfl, Or.inl ⟨HR.out, rfl, HG.out⟩⟩
  have HR3 := hide hr
  have I := I2.call hS
  have HI := hide I
  have c1 : x3.cell? ⟨w.heap.size + 1, 2, none⟩ = some (.int .i64 0) := by simpa using I.cell 2
  have f1 := I.free 2
  clear I2 I hS hr
  have I := HI.out.set 2 (.int .i64 c)
  have d0 : (x3.setCell ⟨w.heap.size + 1, 2, none⟩ (.int .i64 c)).cell? ⟨w.heap.size + 1, 0, none⟩ = some (.int .i64 o) := by simpa using I.cell 0
  have g0 : x3.frozen? ⟨w.heap.size, 0, none⟩ = false := HI.out.rfree 0
  have r0 : (x3.setCell ⟨w.heap.size + 1, 2, none⟩ (.int .i64 c)).cell? ⟨w.heap.size, 0, none⟩ = some (.int .i64 0) := by simpa using I.rcell 0
  have d1 : (x3.setCell ⟨w.heap.size + 1, 2, none⟩ (.int .i64 c)).cell? ⟨w.heap.size + 1, 1, none⟩ = some (.int .i64 a) := by simpa using I.cell 1
  have g1 : x3.frozen? ⟨w.heap.size, 1, none⟩ = false := HI.out.rfree 1
  have r1 : (x3.setCell ⟨w.heap.size + 1, 2, none⟩ (.int .i64 c)).cell? ⟨w.heap.size, 1, none⟩ = some (.int .i64 0) := by simpa using I.rcell 1
  have d2 : (x3.setCell ⟨w.heap.size + 1, 2, none⟩ (.int .i64 c)).cell? ⟨w.heap.size + 1, 2, none⟩ = some (.int .i64 c) := by simpa using I.cell 2
  have g2 : x3.frozen? ⟨w.heap.size, 2, none⟩ = false := HI.out.rfree 2
  have r2 : (x3.setCell ⟨w.heap.size + 1, 2, none⟩ (.int .i64 c)).cell? ⟨w.heap.size, 2, none⟩ = some (.int .i64 0) := by simpa using I.rcell 2
  have HI2 := hide I
  clear I
  go_wp2_with fail
  have J := (((HI2.out.rset 0 (.int .i64 o)).rset 1 (.int .i64 a)).rset 2 (.int .i64 c))
  clear c1 f1 HI HI2 d0 g0 r0 d1 g1 r1 d2 g2 r2
  generalize ((((x3.setCell ⟨w.heap.size + 1, 2, none⟩ (.int .i64 c)).setCell ⟨w.heap.size, 0, none⟩ (.int .i64 o)).setCell ⟨w.heap.size, 1, none⟩ (.int .i64 a)).setCell ⟨w.heap.size, 2, none⟩ (.int .i64 c)) = wz at J ⊢
  have e0 : wz.cell? ⟨w.heap.size, 0, none⟩ = some (.int .i64 o) := by simpa using J.rcell 0
  have e1 : wz.cell? ⟨w.heap.size, 1, none⟩ = some (.int .i64 a) := by simpa using J.rcell 1
  have e2 : wz.cell? ⟨w.heap.size, 2, none⟩ = some (.int .i64 c) := by simpa using J.rcell 2
  refine bodyPost_ret (v := .agg #[.int .i64 o, .int .i64 a, .int .i64 c]) ?_ rfl ?_
  · simp [results, Tryd.results117, go_sem, e0, e1, e2]
  · refine Or.inr ⟨(o, a, c), _, _, k3, ?_, rfl, rfl, J.rd, rfl⟩
    unfold rdVer
    rw [HR1.out]
    simp only
    rw [HR2.out]
    simp only
    rw [HR3.out]

end Go.Proofs.YtklenjmfalljgaaDoor

/- The walk of a run that is read. -/
namespace Go.Proofs.YtklenjmfalljgaaDoor
open Go.RowKit
attribute [local go_sem] Go.World.cell?_alloc_some

def rdRun (room : Int) (l : List Nat) : Option ((Int × Int) × List Nat) := match rdWhole l with
  | none => none
  | some (t, r) => match rdMost room r with
    | none => none
    | some (c, r') => if 0 < c then some ((t, c), r') else none
def runA (x : Int × Int) : Value := .agg #[.int .i64 x.1, .int .i64 x.2]

set_option maxRecDepth 100000 in
set_option maxHeartbeats 1000000 in
theorem run_r (W w : World) (b k : Nat) (s : ByteArray) (room : Int) (h : RdS W w b s k) (hs : s.size ≤ 9223372036854775806) :
    Calls Tryd.prog 163 #[pt b, .int .i64 room] w (Rd W b s (fun _ x v => v = runA x) (rdRun room ((byt s).drop k))) := by
  have HH := hide h
  have hpt : pt b = .pointer (some ⟨b, 0, none⟩) := rfl
  rw [hpt] at *
  clear h
  go_enter Tryd.func163, Tryd.ntmps163
  go_wp2_with fail
  have I0 := InS.start (T := 161) HH.out #[.int .i64 0, .int .i64 0] #[.int .i64 0, .int .i64 0]
  generalize (w.alloc (.cells #[.int .i64 0, .int .i64 0] 161)).alloc (.cells #[.int .i64 0, .int .i64 0] 161) = w1 at I0 ⊢
  refine (whole_r w1 w1 b k s I0.rd.self hs).mono ?_
  rintro e x1 (⟨hr, rfl, hg⟩ | ⟨t, r1, v, k1, hr, rfl, rfl, hS, rfl⟩)
  · have HR : Hid (rdRun room ((byt s).drop k) = none) := by unfold Hid rdRun; rw [hr]
    have HG := hide (grown_trans I0.rd.base hg)
    clear hr hg I0
    go_wp2_with fail
    exact ⟨rfl, Or.inl ⟨HR.out, rfl, HG.out⟩⟩
  have HR1 := hide hr
  have I := I0.call hS
  have HI := hide I
  have c1 : x1.cell? ⟨w.heap.size + 1, 0, none⟩ = some (.int .i64 0) := by simpa using I.cell 0
  have f1 := I.free 0
  clear I0 I hS hr
  go_wp2_with fail
  have I1 := HI.out.set 0 (.int .i64 t)
  generalize x1.setCell ⟨w.heap.size + 1, 0, none⟩ (.int .i64 t) = y1 at I1 ⊢
  clear HI c1 f1
  refine (most_r y1 y1 b k1 s I1.rd.self hs room).mono ?_
  rintro e x2 (⟨hr, rfl, hg⟩ | ⟨c, r1, v, k2, hr, rfl, rfl, hS, rfl⟩)
  · have HR : Hid (rdRun room ((byt s).drop k) = none) := by unfold Hid rdRun; rw [HR1.out]; simp only; rw [hr]
    have HG := hide (grown_trans I1.rd.base hg)
    clear hr hg I1
    go_wp2_with fail
    exact ⟨rfl, Or.inl ⟨HR.out, rfl, HG.out⟩⟩
  have HR2 := hide hr
  have I := I1.call hS
  have HI := hide I
  have c1 : x2.cell? ⟨w.heap.size + 1, 1, none⟩ = some (.int .i64 0) := by simpa using I.cell 1
  have f1 := I.free 1
  clear I1 I hS hr
  have I := HI.out.set 1 (.int .i64 c)
  have d0 : (x2.setCell ⟨w.heap.size + 1, 1, none⟩ (.int .i64 c)).cell? ⟨w.heap.size + 1, 0, none⟩ = some (.int .i64 t) := by simpa using I.cell 0
  have d1 : (x2.setCell ⟨w.heap.size + 1, 1, none⟩ (.int .i64 c)).cell? ⟨w.heap.size + 1, 1, none⟩ = some (.int .i64 c) := by simpa using I.cell 1
  have g0 : x2.frozen? ⟨w.heap.size, 0, none⟩ = false := HI.out.rfree 0
  have g1 : x2.frozen? ⟨w.heap.size, 1, none⟩ = false := HI.out.rfree 1
  have r0 : (x2.setCell ⟨w.heap.size + 1, 1, none⟩ (.int .i64 c)).cell? ⟨w.heap.size, 0, none⟩ = some (.int .i64 0) := by simpa using I.rcell 0
  have r1 : (x2.setCell ⟨w.heap.size + 1, 1, none⟩ (.int .i64 c)).cell? ⟨w.heap.size, 1, none⟩ = some (.int .i64 0) := by simpa using I.rcell 1
  have HI2 := hide I
  clear I
  by_cases hc : 0 < c
  · go_wp2_with (go_at_call 119; refine (must_ok _).mono ?_; rintro e w7 ⟨⟨v7, rfl⟩, rfl⟩)
    have J := (HI2.out.rset 0 (.int .i64 t)).rset 1 (.int .i64 c)
    clear c1 f1 HI HI2 d0 d1 g0 g1 r0 r1
    generalize (((x2.setCell ⟨w.heap.size + 1, 1, none⟩ (.int .i64 c)).setCell ⟨w.heap.size, 0, none⟩ (.int .i64 t)).setCell ⟨w.heap.size, 1, none⟩ (.int .i64 c)) = wz at J ⊢
    have e0 : wz.cell? ⟨w.heap.size, 0, none⟩ = some (.int .i64 t) := by simpa using J.rcell 0
    have e1 : wz.cell? ⟨w.heap.size, 1, none⟩ = some (.int .i64 c) := by simpa using J.rcell 1
    refine bodyPost_ret (v := .agg #[.int .i64 t, .int .i64 c]) ?_ rfl ?_
    · simp [results, Tryd.results163, go_sem, e0, e1]
    · refine Or.inr ⟨(t, c), _, _, k2, ?_, rfl, rfl, J.rd, rfl⟩
      unfold rdRun
      rw [HR1.out]
      simp only
      rw [HR2.out]
      simp only
      rw [if_pos hc]
  · have qd : decide (0 < c) = false := by simp; omega
    go_wp2_with (go_at_call 119; refine (must_not _).mono ?_; rintro e w7 ⟨rfl, rfl⟩)
    refine ⟨rfl, Or.inl ⟨?_, rfl, HI2.out.rd.base⟩⟩
    unfold rdRun
    rw [HR1.out]
    simp only
    rw [HR2.out]
    simp only
    rw [if_neg (by omega)]

end Go.Proofs.YtklenjmfalljgaaDoor

/- The walks of the reader's threads. -/
namespace Go.Proofs.YtklenjmfalljgaaDoor
open Go.RowKit
attribute [local go_sem] Go.World.cell?_alloc_some

def conts {α : Type} (c : List α) (res : Option (List α × List Nat)) : Option (List α × List Nat) := match res with
  | some (xs, r) => some (c ++ xs, r)
  | none => none
theorem conts_nil {α : Type} (res : Option (List α × List Nat)) : conts [] res = res := by
  unfold conts
  cases res with
  | none => rfl
  | some x => rfl
theorem conts_zero {α : Type} (P : List Nat → Option (α × List Nat)) (c : List α) (l : List Nat) : conts c (rdMany P 0 l) = some (c, l) := by simp [conts, rdMany]
theorem conts_some {α : Type} {P : List Nat → Option (α × List Nat)} {l r : List Nat} {x : α} (h : P l = some (x, r)) (c : List α) (m : Nat) : conts c (rdMany P (m + 1) l) = conts (c ++ [x]) (rdMany P m r) := by
  rw [rdMany, h]
  simp only
  cases rdMany P m r with
  | none => rfl
  | some y => simp [conts]
theorem conts_none {α : Type} {P : List Nat → Option (α × List Nat)} {l : List Nat} (h : P l = none) (c : List α) (m : Nat) : conts c (rdMany P (m + 1) l) = none := by rw [rdMany, h]; rfl

theorem owns_rd {w w' : World} {base : Nat} {e : TypeId} {size : Nat} {v : Value} {n b : Nat} {xs : List Value} (h : w.ownsRow base e size v n xs) (hg : w.grownBy w' (some b)) (hb : b < base) : w'.ownsRow base e size v n xs :=
  owns_grown h hg (fun k e => by simp only [Option.some.injEq] at e; omega)

theorem rdWhole_nonneg {l r : List Nat} {x : Int} (h : rdWhole l = some (x, r)) : 0 ≤ x := by
  unfold rdWhole at h
  split at h
  · split at h
    · simp only [Option.some.injEq, Prod.mk.injEq] at h; omega
    · cases h
  · cases h
theorem rdMost_range {b x : Int} {l r : List Nat} (h : rdMost b l = some (x, r)) : 0 ≤ x ∧ x ≤ b := by
  unfold rdMost at h
  split at h
  · rename_i hw
    split at h
    · simp only [Option.some.injEq, Prod.mk.injEq] at h
      have := rdWhole_nonneg hw
      omega
    · cases h
  · cases h

set_option maxRecDepth 100000 in
set_option maxHeartbeats 2000000 in
theorem thread_r (W w : World) (b k : Nat) (s : ByteArray) (h : RdS W w b s k) (hs : s.size ≤ 9223372036854775806) :
    Calls Tryd.prog 162 #[pt b] w (Rd W b s (fun w' c v => c.length ≤ 16 ∧ CodeRow w.heap.size w'.heap.size w' v c) (rdThread ((byt s).drop k))) := by
  obtain ⟨i0, hi0, hz0, hz1, hz2⟩ := info_parts info_ins
  have HM := hide (most_r w w b k s h.self hs 16)
  have HH := hide h
  have hbw := h.lt
  have hpt : pt b = .pointer (some ⟨b, 0, none⟩) := rfl
  rw [hpt] at *
  clear h
  go_enter Tryd.func162, Tryd.ntmps162
  go_wp2_with fail
  refine HM.out.mono ?_
  rintro e w1 (⟨hr, rfl, hg⟩ | ⟨n, r1, v, k1, hr, rfl, rfl, hS, rfl⟩)
  · have HR : Hid (rdThread ((byt s).drop k) = none) := by unfold Hid rdThread; rw [hr]
    have HG := hide (grown_trans HH.out.base hg)
    clear hr hg
    go_wp2_with fail
    exact ⟨rfl, Or.inl ⟨HR.out, rfl, HG.out⟩⟩
  obtain ⟨h0, h16⟩ := rdMost_range hr
  obtain ⟨m, rfl⟩ := Int.eq_ofNat_of_zero_le h0
  have HR : Hid (rdThread ((byt s).drop k) = rdMany rdIns m ((byt s).drop k1)) := by unfold Hid rdThread; rw [hr]; rfl
  have HS := hide hS
  clear hr hS h0 HM
  go_wp2_with fail
  go_loopw [3, 6] (fun lv i w' => ∃ (j : Nat) (c : List Ins) (k' : Nat), j ≤ m ∧ i = .int .i64 j ∧ Hid (c.length = j) ∧ Hid (RdS w w' b s k') ∧ Hid (w'.ownsRow w.heap.size 28 4 lv c.length (insCells c)) ∧ Hid (conts c (rdMany rdIns (m - j) ((byt s).drop k')) = rdThread ((byt s).drop k))) (fun _ i _ => m - (intOf i).toNat)
  case atStart => exact ⟨0, [], k1, Nat.zero_le _, rfl, hide rfl, HS, hide ⟨rfl, Or.inl ⟨rfl, rfl⟩⟩, hide (by rw [HR.out, conts_nil]; rfl)⟩
  case round =>
    obtain ⟨j, c, k', hj, rfl, HC, HJ, HO, HE⟩ := hrel
    obtain ⟨w5, hw5⟩ : ∃ w5, w5 = wr := ⟨_, rfl⟩
    subst hw5
    have hw5 : w.heap.size ≤ w5.heap.size := HJ.out.base.size
    by_cases hjm : j < m
    · have q1 : (j : Int) < m := by omega
      have HI := hide (ins_r w5 w5 b k' s HJ.out.self hs)
      have em : m - j = (m - (j + 1)) + 1 := by omega
      go_wp2_with fail
      refine HI.out.mono ?_
      rintro e w6 (⟨hr, rfl, hg⟩ | ⟨x, r1, v, k2, hr, rfl, rfl, hS, rfl⟩)
      · have HR2 : Hid (rdThread ((byt s).drop k) = none) := by unfold Hid; rw [← HE.out, em, conts_none hr]
        have HG := hide (grown_trans HH.out.base (grown_trans HJ.out.base hg))
        clear hr hg em
        go_wp2_with fail
        exact ⟨rfl, Or.inl ⟨HR2.out, rfl, HG.out⟩⟩
      have HE2 : Hid (conts (c ++ [x]) (rdMany rdIns (m - (j + 1)) ((byt s).drop k2)) = rdThread ((byt s).drop k)) := by unfold Hid; rw [← HE.out, em, conts_some hr]
      have HS6 := hide hS
      have HO6 := hide (owns_rd HO.out hS.base hbw)
      have hw6 : w.heap.size ≤ w6.heap.size := Nat.le_trans hw5 hS.base.size
      obtain ⟨x1, x2, x3, rfl⟩ := owns_form HO6.out
      have hx2 := owns_lenq HO6.out
      subst hx2
      have hcl : c.length ≤ 16 := by have := HC.out; omega
      have h63 : c.length + 1 ≤ maxLen := by unfold maxLen; omega
      clear hr hS em HI
      unfold insA
      go_wp2_with (at_builtin; go_must (refine wpList_append_lies _ rfl _ _ _ rfl w.heap.size 28 i0 _ 4 32 Tryd.underlying29 hi0 hz0 hz1 hz2 rfl (by omega) (.slice x1 c.length x3) c.length (insCells c) rfl (owns_alloc HO6.out) ⟨w6.heap.size, 0, none⟩ 1 1 (insV x) rfl rfl (World.news_of_block (cs := #[.int .i64 x.op, .int .i64 x.a, .int .i64 x.b, .int .i64 x.n]) (t := 28) (fr := (0, 0)) (heap_alloc_new w6 _)) (insV_one x) (by omega) h63 (by omega) (by simp; omega) (w6.heap.size + 1) (by simp) ?_); intro g6 cap6 w7 hown7 hgrow7 hat7 hlt7)
      have HN : Hid (RdS w w7 b s k2 ∧ w7.ownsRow w.heap.size 28 4 (.slice (some ⟨g6, 0, none⟩) (c.length + 1) cap6) (c ++ [x]).length (insCells (c ++ [x]))) := by
        have hob := owns_block HO6.out
        have hR6 := (HJ.out.trans HS6.out)
        refine ⟨⟨?_, ?_, hR6.le⟩, ?_⟩
        · rw [hgrow7.block b (by simp; omega) (fun e => by have := hob b e.symm; omega), Below.heap_alloc _ _ _ (by omega)]
          exact hR6.blk
        · exact grown_row (grown_alloc hR6.base) hgrow7 (fun q e => hob q e)
        · rw [insCells_snoc]; simpa using hown7
      clear hown7 hgrow7 hat7 hlt7
      go_wp2_with fail
      go_roundw
      case rel => exact ⟨j + 1, c ++ [x], k2, by omega, by first | rfl | go_num, hide (by simpa using HC.out), hide HN.out.1, hide HN.out.2, HE2⟩
      case measure => simp [intOf]; omega
    · have q1 : ¬ (j : Int) < m := by omega
      have ej : m - j = 0 := by omega
      have HR2 : Hid (rdThread ((byt s).drop k) = some (c, (byt s).drop k')) := by unfold Hid; rw [← HE.out, ej, conts_zero]
      have h16' : Hid (c.length ≤ 16) := by unfold Hid; have := HC.out; omega
      clear ej
      go_wp2_with fail
      go_ret
      exact Or.inr ⟨c, _, _, k', HR2.out, rfl, ⟨h16'.out, HO.out, owns_lt HO.out⟩, HH.out.trans HJ.out, rfl⟩

end Go.Proofs.YtklenjmfalljgaaDoor

/- The walk of the reader's program. -/
namespace Go.Proofs.YtklenjmfalljgaaDoor
open Go.RowKit
attribute [local go_sem] Go.World.cell?_alloc_some

set_option maxRecDepth 100000 in
set_option maxHeartbeats 2000000 in
theorem program_r (W w : World) (b k : Nat) (s : ByteArray) (h : RdS W w b s k) (hs : s.size ≤ 9223372036854775806) :
    Calls Tryd.prog 115 #[pt b] w (Rd W b s (fun w' p v => p.length ≤ 4 ∧ ∃ tv, v = .agg #[tv] ∧ ThrAt (w.heap.size + 2) w'.heap.size w' tv p) (rdProg ((byt s).drop k))) := by
  obtain ⟨i1, hi1, hy0, hy1, hy2⟩ := info_parts info_code
  have HH := hide h
  have hbw := h.lt
  have hpt : pt b = .pointer (some ⟨b, 0, none⟩) := rfl
  rw [hpt] at *
  clear h
  go_enter Tryd.func115, Tryd.ntmps115
  go_wp2_with fail
  have I0 := InS.start (T := 25) HH.out.self #[.slice none 0 0] #[.slice none 0 0]
  generalize hw1 : (w.alloc (.cells #[.slice none 0 0] 25)).alloc (.cells #[.slice none 0 0] 25) = w1 at I0 ⊢
  have hz1 : w.heap.size + 2 ≤ w1.heap.size := by rw [← hw1]; simp
  clear hw1
  refine (most_r w1 w1 b k s I0.rd.self hs 4).mono ?_
  rintro e w2 (⟨hr, rfl, hg⟩ | ⟨n, r1, v, k1, hr, rfl, rfl, hS, rfl⟩)
  · have HR : Hid (rdProg ((byt s).drop k) = none) := by unfold Hid rdProg; rw [hr]
    have HG := hide (grown_trans HH.out.base (grown_trans I0.rd.base hg))
    clear hr hg I0
    go_wp2_with fail
    exact ⟨rfl, Or.inl ⟨HR.out, rfl, HG.out⟩⟩
  obtain ⟨h0, h4⟩ := rdMost_range hr
  obtain ⟨m, rfl⟩ := Int.eq_ofNat_of_zero_le h0
  have HR : Hid (rdProg ((byt s).drop k) = rdMany rdThread m ((byt s).drop k1)) := by unfold Hid rdProg; rw [hr]; rfl
  have HI := hide (I0.call hS)
  have hz2 : w.heap.size + 2 ≤ w2.heap.size := Nat.le_trans hz1 hS.base.size
  clear hr hS h0 I0
  go_wp2_with fail
  go_loopw [6] (fun i w' => ∃ (j : Nat) (p : List (List Ins)) (tv : Value) (k' : Nat), j ≤ m ∧ i = .int .i64 j ∧ Hid (p.length = j) ∧ Hid (InS w w' b s k' 25 (w.heap.size + 1) w.heap.size #[tv] #[.slice none 0 0]) ∧ Hid (ThrAt (w.heap.size + 2) w'.heap.size w' tv p) ∧ w.heap.size + 2 ≤ w'.heap.size ∧ Hid (conts p (rdMany rdThread (m - j) ((byt s).drop k')) = rdProg ((byt s).drop k))) (fun i _ => m - (intOf i).toNat)
  case atStart => exact ⟨0, [], .slice none 0 0, k1, Nat.zero_le _, rfl, hide rfl, HI, hide ⟨[], ⟨rfl, Or.inl ⟨rfl, rfl⟩⟩, fun h e => (by cases e), fun j hj => (by simp at hj), Apt.nil⟩, hz2, hide (by rw [HR.out, conts_nil]; rfl)⟩
  case round =>
    obtain ⟨j, p, tv, k', hj, rfl, HC, HJ, HO, hw5, HE⟩ := hrel
    obtain ⟨w5, hw5'⟩ : ∃ w5, w5 = wr := ⟨_, rfl⟩
    rw [← hw5'] at HJ HO hw5 ⊢
    clear hw5'
    by_cases hjm : j < m
    · have q1 : (j : Int) < m := by omega
      have em : m - j = (m - (j + 1)) + 1 := by omega
      have HT := hide (thread_r w5.drew w5.drew b k' s (HJ.out.rd.grown (grown_drew (grown_refl _ _))).self hs)
      have cq : w5.cell? ⟨w.heap.size + 1, 0, none⟩ = some tv := by simpa using HJ.out.cell 0
      go_wp2_with fail
      refine wp_region_head (fun u => u.cell? ⟨w.heap.size + 1, 0, none⟩ = some tv) 7 (by kernel_rfl) (by kernel_rfl) ?_ ?_
      · simp [go_sem, cq]
      intro hHeld
      refine wpHead_take (i := 0) (v := ?vv0) rfl (by kernel_rfl) (fun _ _ _ h => h) (Or.inl ⟨by rfl, ?hy0⟩) (by assumption) ?rest0
      case hy0 => (intro u hu; go_simp; try with_reducible rfl)
      simp only [Act.put, List.setIfInBounds_toArray]
      refine wpHead_take (i := 1) (v := ?vv1) rfl (by kernel_rfl) (fun _ _ _ h => h) (Or.inl ⟨by rfl, ?hy1⟩) (by assumption) ?rest1
      case hy1 => (intro u hu; go_simp; try with_reducible rfl)
      simp only [Act.put]
      refine wpHead_take (i := 2) (v := ?vv2) rfl (by kernel_rfl) (fun _ _ _ h => h) (Or.inl ⟨by rfl, ?hy2⟩) (by assumption) ?rest2
      case hy2 => (intro u hu; go_simp; try with_reducible rfl)
      simp only [Act.put]
      refine wpHead_alone (i := 3) rfl (by kernel_rfl) (by kernel_rfl) (by rfl) ?_
      intro K3 hK3
      have HK3 := hide hK3
      clear hK3
      go_simp
      refine HT.out.mono ?_
      rintro e w6 (⟨hr, rfl, hg⟩ | ⟨x, r1, v, k2, hr, rfl, hv, hS, rfl⟩)
      · have HR2 : Hid (rdProg ((byt s).drop k) = none) := by unfold Hid; rw [← HE.out, em, conts_none hr]
        have HG := hide (grown_trans HH.out.base (grown_trans HJ.out.rd.base (grown_trans (grown_drew (grown_refl _ _)) hg)))
        clear hr hg em
        exact ⟨rfl, Or.inl ⟨HR2.out, rfl, HG.out⟩⟩
      have HE2 : Hid (conts (p ++ [x]) (rdMany rdThread (m - (j + 1)) ((byt s).drop k2)) = rdProg ((byt s).drop k)) := by unfold Hid; rw [← HE.out, em, conts_some hr]
      have hb5 : w.heap.size + 2 ≤ w5.drew.heap.size := hw5
      have hg5 : w5.grownBy w6 (some b) := grown_trans (grown_drew (grown_refl _ _)) hS.base
      have hw6 : w.heap.size + 2 ≤ w6.heap.size := Nat.le_trans hb5 hS.base.size
      have HJ6 := hide (HJ.out.call (RdS.trans (HJ.out.rd.self.grown (grown_drew (grown_refl _ _))) hS))
      have HT6 : Hid (ThrAt (w.heap.size + 2) w5.heap.size w6 tv p) := HO.out.step hg5 (fun q e => by simp only [Option.some.injEq] at e; omega)
      have HB6 : Hid (w5.heap.size ≤ w6.heap.size) := hg5.size
      have HV6 : Hid (∀ q, v.ownBlock = some q → w5.heap.size ≤ q) := fun q e => owns_block hv.2.1 q e
      have HC6 : Hid (CodeRow (w.heap.size + 2) w6.heap.size w6 v x) := ⟨owns_mono hv.2.1 hb5, hv.2.2⟩
      obtain ⟨v1, v2, v3, rfl⟩ := owns_form HC6.out.1
      obtain ⟨t1, t2, t3, rfl⟩ := owns_form HT6.out.choose_spec.1
      obtain ⟨rows, HRW⟩ : ∃ rows, Hid (w6.ownsRow (w.heap.size + 2) 29 1 (.slice t1 t2 t3) p.length rows) := ⟨_, HT6.out.choose_spec.1⟩
      have ht2 := owns_lenq HRW.out
      subst ht2
      have hpl : p.length ≤ 4 := by have := HC.out; omega
      have hS6 : w6.cell? ⟨w.heap.size + 1, 0, none⟩ = some (.slice t1 p.length t3) := by simpa using HJ6.out.cell 0
      clear hr hS hg5 em HT hv HO HJ
      refine HK3.out _ _ hS6 ?_
      clear HK3
      try simp only [Act.put, List.setIfInBounds_toArray]
      refine wpHead_alone (i := 4) rfl (by kernel_rfl) (by kernel_rfl) (by rfl) ?_
      intro K4 hK4
      have HK4 := hide hK4
      clear hK4
      go_simp
      have hgA : w6.grownBy (w6.alloc (.cells #[.slice v1 v2 v3] 29)) none := grown_alloc (grown_refl _ _)
      refine HK4.out _ _ (pres_grown hgA _ _ hS6) ?_
      clear HK4
      have h63 : p.length + 1 ≤ maxLen := by unfold maxLen; omega
      have hby : (p.length + 1) * 24 ≤ 140737488355328 := by omega
      refine wpHead_alone (i := 5) rfl (by kernel_rfl) (by kernel_rfl) (by rfl) ?_
      intro K5 hK5
      have HK5 := hide hK5
      clear hK5
      refine wp_append_lies _ (.tmp 9) (.tmp 12) 23 (by rfl) (w.heap.size + 2) 29 i1 _ 1 24 Tryd.underlying23 hi1 hy0 hy1 hy2 rfl (by omega) (.slice t1 p.length t3) p.length rows (by rfl) (owns_alloc HRW.out) ⟨w6.heap.size, 0, none⟩ 1 1 [.slice v1 v2 v3] (by rfl) (by rfl) (World.news_of_block (cs := #[.slice v1 v2 v3]) (t := 29) (fr := (0, 0)) (heap_alloc_new w6 _)) (by simp [Value.oneCell']) (by omega) h63 hby (by simp; omega) (w6.heap.size + 1) (by simp) ?_
      intro g2 cap2 w7 hown7 hgrow hat hlt7
      have hob : ∀ q, (Value.slice t1 p.length t3).ownBlock = some q → w.heap.size + 2 ≤ q := fun q e => owns_block HRW.out q e
      have hb7 : ∀ q, q < w.heap.size + 2 → w7.heap[q]? = w6.heap[q]? := fun q hq => by
        rw [hgrow.block q (by simp; omega) (fun e => by have := hob q e.symm; omega), hgA.block q (by omega) (by simp)]
      have HI7 : Hid (InS w w7 b s k2 25 (w.heap.size + 1) w.heap.size #[.slice t1 p.length t3] #[.slice none 0 0]) := by
        have I := HJ6.out
        exact ⟨⟨by rw [hb7 _ (by omega)]; exact I.rd.blk, grown_row (grown_trans I.rd.base (grown_none hgA)) hgrow (fun q e => by have := hob q e; omega), I.rd.le⟩, by rw [hb7 _ (by omega)]; exact I.var, by rw [hb7 _ (by omega)]; exact I.res, I.cb, I.db, I.cd, I.lc, I.ld⟩
      have hS7 : w7.cell? ⟨w.heap.size + 1, 0, none⟩ = some (.slice t1 p.length t3) := by simpa using HI7.out.cell 0
      have hsz7 : w6.heap.size + 1 ≤ w7.heap.size := by have := hgrow.size; simpa using this
      have HT7 : Hid (ThrAt (w.heap.size + 2) w7.heap.size w7 (.slice (some ⟨g2, 0, none⟩) (p.length + 1) cap2) (p ++ [x])) :=
        ThrAt.snoc HT6.out HB6.out HV6.out HRW.out HC6.out hgA hgrow hown7 (by omega) (owns_lt hown7)
      clear hown7 hgrow hat hlt7 hb7 hgA HT6 HRW HC6 HJ6
      refine HK5.out _ _ hS7 ?_
      clear HK5
      try simp only [Act.put, List.setIfInBounds_toArray]
      refine wpHead_take (i := 6) (v := ?vv6) rfl (by kernel_rfl) (fun _ _ _ h => h) (Or.inl ⟨by rfl, ?hy6⟩) (by assumption) ?rest6
      case hy6 => (intro u hu; go_simp; try with_reducible rfl)
      simp only [Act.put]
      refine wpHead_last rfl (by kernel_rfl) (by kernel_rfl) (by rfl) ?_
      have s7f : w7.frozen? ⟨w.heap.size + 1, 0, none⟩ = false := HI7.out.free 0
      have HI8 := hide (HI7.out.set 0 (.slice (some ⟨g2, 0, none⟩) (p.length + 1) cap2))
      have HT8 : Hid (ThrAt (w.heap.size + 2) (w7.setCell ⟨w.heap.size + 1, 0, none⟩ (.slice (some ⟨g2, 0, none⟩) (p.length + 1) cap2)).heap.size (w7.setCell ⟨w.heap.size + 1, 0, none⟩ (.slice (some ⟨g2, 0, none⟩) (p.length + 1) cap2)) (.slice (some ⟨g2, 0, none⟩) (p.length + 1) cap2) (p ++ [x])) := by
        have := HT7.out.step (grown_set (w := w7) (b := w.heap.size + 1) (o := 0) (v := .slice (some ⟨g2, 0, none⟩) (p.length + 1) cap2)) (fun q e => by simp only [Option.some.injEq] at e; omega)
        exact this.mono (by simp)
      have hw8 : w.heap.size + 2 ≤ (w7.setCell ⟨w.heap.size + 1, 0, none⟩ (.slice (some ⟨g2, 0, none⟩) (p.length + 1) cap2)).heap.size := by simp; omega
      clear HI7 HT7
      go_simp
      go_wp2
      go_roundw
      case rel => exact ⟨j + 1, p ++ [x], _, k2, by omega, by first | rfl | go_num, hide (by simpa using HC.out), HI8, HT8, hw8, HE2⟩
      case measure => simp [intOf]; omega
    · have q1 : ¬ (j : Int) < m := by omega
      have ej : m - j = 0 := by omega
      have HR2 : Hid (rdProg ((byt s).drop k) = some (p, (byt s).drop k')) := by unfold Hid; rw [← HE.out, ej, conts_zero]
      have h4' : Hid (p.length ≤ 4) := by unfold Hid; have := HC.out; omega
      obtain ⟨t1, t2, t3, rfl⟩ := owns_form HO.out.choose_spec.1
      have cq : w5.cell? ⟨w.heap.size + 1, 0, none⟩ = some (.slice t1 t2 t3) := by simpa using HJ.out.cell 0
      have cr : w5.cell? ⟨w.heap.size, 0, none⟩ = some (.slice none 0 0) := by simpa using HJ.out.rcell 0
      have fr := HJ.out.rfree 0
      clear ej
      go_wp2_with fail
      have J := HJ.out.rset 0 (.slice t1 t2 t3)
      have HT8 : ThrAt (w.heap.size + 2) (w5.setCell ⟨w.heap.size, 0, none⟩ (.slice t1 t2 t3)).heap.size (w5.setCell ⟨w.heap.size, 0, none⟩ (.slice t1 t2 t3)) (.slice t1 t2 t3) p := by
        have := HO.out.step (grown_set (w := w5) (b := w.heap.size) (o := 0) (v := .slice t1 t2 t3)) (fun q e => by simp only [Option.some.injEq] at e; omega)
        exact this.mono (by simp)
      clear cq cr fr HJ HO
      generalize w5.setCell ⟨w.heap.size, 0, none⟩ (.slice t1 t2 t3) = wz at J HT8 ⊢
      have e0 : wz.cell? ⟨w.heap.size, 0, none⟩ = some (.slice t1 t2 t3) := by simpa using J.rcell 0
      refine bodyPost_ret (v := .agg #[.slice t1 t2 t3]) ?_ rfl ?_
      · simp [results, Tryd.results115, go_sem, e0]
      · exact Or.inr ⟨p, _, _, k', HR2.out, rfl, ⟨h4'.out, _, rfl, HT8⟩, HH.out.trans J.rd, rfl⟩

end Go.Proofs.YtklenjmfalljgaaDoor

/- The walk of the reader's schedule. -/
namespace Go.Proofs.YtklenjmfalljgaaDoor
open Go.RowKit
attribute [local go_sem] Go.World.cell?_alloc_some

theorem rdRuns_run (m : Nat) (sch : List Int) (l : List Nat) : rdRuns (m + 1) sch l = match rdRun (500 - sch.length) l with
    | none => none
    | some ((t, c), r) => if sch.getLast? ≠ some t then rdRuns m (sch ++ List.replicate c.toNat t) r else none := by
  rw [rdRuns, rdRun]
  cases rdWhole l with
  | none => rfl
  | some x =>
    obtain ⟨t, r⟩ := x
    simp only
    cases rdMost (500 - sch.length) r with
    | none => rfl
    | some y =>
      obtain ⟨c, r'⟩ := y
      simp only
      by_cases hc : 0 < c
      · simp [hc]
      · simp [hc]
theorem rdRun_range {room : Int} {l r : List Nat} {t c : Int} (h : rdRun room l = some ((t, c), r)) : 0 ≤ t ∧ t ≤ 9223372036854775807 ∧ 0 < c ∧ c ≤ room := by
  unfold rdRun at h
  split at h
  · cases h
  · rename_i t' r' hw
    split at h
    · cases h
    · rename_i c' r'' hm
      split at h
      · simp only [Option.some.injEq, Prod.mk.injEq] at h
        obtain ⟨⟨rfl, rfl⟩, rfl⟩ := h
        have h1 := rdWhole_nonneg hw
        have h2 := rdMost_range hm
        have h3 : t' ≤ 9223372036854775807 := by
          unfold rdWhole at hw
          split at hw
          · split at hw
            · simp only [Option.some.injEq, Prod.mk.injEq] at hw; omega
            · cases hw
          · cases hw
        exact ⟨h1, h3, by assumption, h2.2⟩
      · cases h

/-- A goal that Lean's elaborator shall not lay open (whnf of a walk whose operations are guarded runs away). -/
structure Box (p : Prop) : Prop where
  out : p
section
variable {P : Program} {ops : Array Oper} {w : World} {Q : Act → Prop} {a : Act} {o : Oper} {rest : List Oper}
theorem box_skip (hw : Region.wanted o (yielded ops a.tmps) = false) (h : Box (wpStill P ops w Q rest (a.put o.dst undef))) : Box (wpStill P ops w Q (o :: rest) a) := by
  refine ⟨?_⟩
  unfold wpStill; rw [if_neg (by rw [hw]; simp)]; exact h.out
theorem box_want (hw : Region.wanted o (yielded ops a.tmps) = true) (h : ∀ K : Act → Prop, (∀ a, Box (wpStill P ops w Q rest a) → K a) → o.still P a w K) : Box (wpStill P ops w Q (o :: rest) a) := by
  refine ⟨?_⟩
  unfold wpStill; rw [if_pos hw]; exact h _ (fun _ h => h.out)
theorem box_nil (h : Q a) : Box (wpStill P ops w Q [] a) := ⟨h⟩
theorem box_region {id : Nat} {Q : Exit → Act → World → Prop} {a : Act} {w : World} {l : List Oper} (n : Nat) (hm : P.follows .mixedOrders = true) (hB : Region.lexTailB .any l.toArray n = true)
    (h : Box (wpStill P l.toArray w.drew (fun a' => wpList P l.toArray Q (l.drop n) a' w.drew) (l.take n) a)) : (Code.region id l.toArray true).wp P Q a w := wp_region_still_tail n hm hB h.out
end

set_option maxRecDepth 100000 in
set_option maxHeartbeats 1000000 in
theorem schedule_r (W w : World) (b k : Nat) (s : ByteArray) (h : RdS W w b s k) (hs : s.size ≤ 9223372036854775806) :
    Calls Tryd.prog 116 #[pt b] w (Rd W b s (fun w' l v => l.length ≤ 500 ∧ w'.ownsRow w.heap.size 3 1 v l.length (ints l)) (rdSched ((byt s).drop k))) := by
  have HM := hide (most_r w w b k s h.self hs 500)
  have HH := hide h
  have hbw := h.lt
  have hpt : pt b = .pointer (some ⟨b, 0, none⟩) := rfl
  rw [hpt] at *
  clear h
  go_enter Tryd.func116, Tryd.ntmps116
  go_wp2_with fail
  refine HM.out.mono ?_
  rintro e w1 (⟨hr, rfl, hg⟩ | ⟨n, r1, v, k1, hr, rfl, rfl, hS, rfl⟩)
  · have HR : Hid (rdSched ((byt s).drop k) = none) := by unfold Hid rdSched; rw [hr]
    have HG := hide (grown_trans HH.out.base hg)
    clear hr hg
    go_wp2_with fail
    exact ⟨rfl, Or.inl ⟨HR.out, rfl, HG.out⟩⟩
  obtain ⟨h0, h500⟩ := rdMost_range hr
  obtain ⟨m, rfl⟩ := Int.eq_ofNat_of_zero_le h0
  have HR : Hid (rdSched ((byt s).drop k) = rdRuns m [] ((byt s).drop k1)) := by unfold Hid rdSched; rw [hr]; rfl
  have HS := hide hS
  clear hr hS h0 HM
  go_wp2_with fail
  go_loopw [3, 8] (fun lv i w' => ∃ (j : Nat) (l : List Int) (k' : Nat), j ≤ m ∧ i = .int .i64 j ∧ l.length ≤ 500 ∧ Hid (j = 0 ↔ l = []) ∧ Hid (RdS w w' b s k') ∧ Hid (w'.ownsRow w.heap.size 3 1 lv l.length (ints l)) ∧ Hid (rdRuns (m - j) l ((byt s).drop k') = rdSched ((byt s).drop k))) (fun _ i _ => m - (intOf i).toNat)
  case atStart => exact ⟨0, [], k1, Nat.zero_le _, rfl, Nat.zero_le _, hide ⟨fun _ => rfl, fun _ => rfl⟩, HS, hide ⟨rfl, Or.inl ⟨rfl, rfl⟩⟩, hide (by rw [HR.out]; rfl)⟩
  case round =>
    obtain ⟨j, l, k', hj, rfl, hl5, HC, HJ, HO, HE⟩ := hrel
    obtain ⟨w5, hw5'⟩ : ∃ w5, w5 = wr := ⟨_, rfl⟩
    rw [← hw5'] at HJ HO ⊢
    clear hw5'
    have hw5 : w.heap.size ≤ w5.heap.size := HJ.out.base.size
    obtain ⟨s1, s2, s3, rfl⟩ := owns_form HO.out
    have hs2 := owns_lenq HO.out
    subst hs2
    by_cases hjm : j < m
    · have q1 : (j : Int) < m := by omega
      have em : m - j = (m - (j + 1)) + 1 := by omega
      have HT := hide (run_r w5 w5 b k' s (500 - (l.length : Int)) HJ.out.self hs)
      go_wp2_with fail
      refine HT.out.mono ?_
      rintro e w6 (⟨hr, rfl, hg⟩ | ⟨x, r1, v, k2, hr, rfl, rfl, hS, rfl⟩)
      · have HR2 : Hid (rdSched ((byt s).drop k) = none) := by unfold Hid; rw [← HE.out, em, rdRuns_run, hr]
        have HG := hide (grown_trans HH.out.base (grown_trans HJ.out.base hg))
        clear hr hg em
        go_wp2_with fail
        exact ⟨rfl, Or.inl ⟨HR2.out, rfl, HG.out⟩⟩
      obtain ⟨t, c⟩ := x
      obtain ⟨t0, t1, c0, c1⟩ := rdRun_range hr
      have HE2 : Hid (rdSched ((byt s).drop k) = if l.getLast? ≠ some t then rdRuns (m - (j + 1)) (l ++ List.replicate c.toNat t) ((byt s).drop k2) else none) := by unfold Hid; rw [← HE.out, em, rdRuns_run, hr]
      have HS6 := hide (HJ.out.trans hS)
      have HO6 := hide (owns_rd HO.out hS.base hbw)
      have hw6 : w.heap.size ≤ w6.heap.size := Nat.le_trans hw5 hS.base.size
      clear hr hS em HT HE HJ HO
      obtain ⟨c', rfl⟩ := Int.eq_ofNat_of_zero_le (show 0 ≤ c by omega)
      have hc501 : c' ≤ 501 := by omega
      unfold runA
      go_wp2_with fail
      have HSA : Hid (RdS w (w6.alloc (.cells #[.int .i64 t, .int .i64 (c' : Int)] 161)) b s k2) := HS6.out.grown (grown_alloc (grown_refl _ _))
      have HOA : Hid ((w6.alloc (.cells #[.int .i64 t, .int .i64 (c' : Int)] 161)).ownsRow w.heap.size 3 1 (.slice s1 l.length s3) l.length (ints l)) := owns_alloc HO6.out
      have a0 : (w6.alloc (.cells #[.int .i64 t, .int .i64 (c' : Int)] 161)).cell? ⟨w6.heap.size, 0, none⟩ = some (.int .i64 t) := by
        have := heap_alloc_new w6 (.cells #[.int .i64 t, .int .i64 (c' : Int)] 161)
        simp only [World.cell?, this]; rfl
      have a1 : (w6.alloc (.cells #[.int .i64 t, .int .i64 (c' : Int)] 161)).cell? ⟨w6.heap.size, 1, none⟩ = some (.int .i64 (c' : Int)) := by
        have := heap_alloc_new w6 (.cells #[.int .i64 t, .int .i64 (c' : Int)] 161)
        simp only [World.cell?, this]; rfl
      generalize w6.alloc (.cells #[.int .i64 t, .int .i64 (c' : Int)] 161) = wA at HSA HOA a0 a1 ⊢
      have HAP := hide (append_m w wA.drew (some b) (.slice s1 l.length s3) l t c' (owns_grown HOA.out (grown_drew (grown_refl _ none)) (fun _ e => by cases e)) (grown_drew HSA.out.base) hc501 (by omega))
      have HNEXT : ∀ (w8 : World) (sv : Value), w8.ownsRow w.heap.size 3 1 sv (l ++ List.replicate c' t).length (ints (l ++ List.replicate c' t)) → w.grownBy w8 (some b) → wA.drew.grownBy w8 (Value.slice s1 l.length s3).ownBlock → RdS w w8 b s k2 := by
        intro w8 sv h1 h2 h3
        refine ⟨?_, h2, HSA.out.le⟩
        have hob := owns_block HOA.out
        rw [h3.block b (by have := HSA.out.lt; exact this) (fun e => by have := hob b e.symm; omega)]
        exact HSA.out.blk
      have HNX := hide HNEXT
      have hlen : (l ++ List.replicate c' t).length ≤ 500 := by simp; omega
      have HLEN := hide hlen
      have HNIL : Hid (j + 1 = 0 ↔ l ++ List.replicate c' t = []) := by
        unfold Hid
        refine ⟨fun e => by omega, fun e => ?_⟩
        have := congrArg List.length e
        simp at this
        omega
      clear HNEXT hlen HS6 HO6
      by_cases hj0 : j = 0
      · have qz : ((j : Int) == 0) = true := by simp; omega
        have hl0 : l = [] := HC.out.1 hj0
        have HE3 : Hid (rdRuns (m - (j + 1)) (l ++ List.replicate c' t) ((byt s).drop k2) = rdSched ((byt s).drop k)) := by
          unfold Hid; rw [HE2.out, if_pos (by rw [hl0]; simp)]; rfl
        clear hl0 hj0 HE2 HC
        refine box_region 13 (by kernel_rfl) (by kernel_rfl) ?_
        simp only [List.take_succ_cons, List.take_zero, List.drop_succ_cons, List.drop_zero]
        iterate 3 (refine box_want (by rfl) (fun K hK => ?_); go_simp; refine hK _ ?_; clear hK K)
        iterate 9 (refine box_skip (by rfl) ?_; simp only [Act.put, List.setIfInBounds_toArray, List.set_cons_succ, List.set_cons_zero])
        refine box_want (by rfl) (fun K hK => ?_); go_simp; refine hK _ ?_; clear hK K
        refine box_nil ?_
        go_wp2_with (first | (go_at_call 119; refine (must_ok _).mono ?_; rintro e w7 ⟨⟨v7, rfl⟩, rfl⟩) | (go_at_call 92; refine HAP.out.mono ?_; rintro e w8 ⟨sv, rfl, hz1, hz2, hz3, ⟨z1, z2, z3, rfl⟩⟩))
        have HZ1 := hide hz1
        have HZ2 := hide (HNX.out _ _ hz1 hz2 hz3)
        clear hz1 hz2 hz3
        go_wp2_with fail
        go_roundw
        case rel => exact ⟨j + 1, l ++ List.replicate c' t, k2, by omega, by first | rfl | go_num, HLEN.out, HNIL, HZ2, HZ1, HE3⟩
        case measure => simp [intOf]; omega
      · have qz : ((j : Int) == 0) = false := by simp; omega
        have hlne : l ≠ [] := fun e => hj0 (HC.out.2 e)
        have hlp : 0 < l.length := List.length_pos_iff.2 hlne
        obtain ⟨g, cap, eg, _, _⟩ := HOA.out.form (by omega)
        simp only [Value.slice.injEq] at eg
        obtain ⟨rfl, _, rfl⟩ := eg
        have hcell : wA.cell? ⟨g, l.length - 1, none⟩ = some (.int .i64 (l.getLast hlne)) := by
          rw [HOA.out.cellAt _ (by omega)]
          have : l.length - 1 < l.length := by omega
          simp [ints, List.getLast_eq_getElem]
        have HLA : Hid (l.getLast? = some (l.getLast hlne)) := List.getLast?_eq_some_getLast hlne
        generalize l.getLast hlne = y at *
        have q3 : (0 : Int) ≤ (l.length : Int) - 1 := by omega
        have q7 : (1 : Int) ≤ (l.length : Int) := by omega
        have q4 : (l.length : Int) - 1 < l.length := by omega
        have q5 : ((l.length : Int) - 1).toNat = l.length - 1 := by omega
        have q6 : IntKind.i64.wrap ((l.length : Int) - 1) = (l.length : Int) - 1 := by rw [IntKind.wrap_i64]; omega
        clear hlne
        by_cases hty : t = y
        · have qn : (t != y) = false := by simp [hty]
          have HE3 : Hid (rdSched ((byt s).drop k) = none) := by
            unfold Hid; rw [HE2.out, HLA.out, if_neg (by simp [hty])]
          clear hty HE2 HC HLA
          refine box_region 13 (by kernel_rfl) (by kernel_rfl) ?_
          simp only [List.take_succ_cons, List.take_zero, List.drop_succ_cons, List.drop_zero]
          iterate 3 (refine box_want (by rfl) (fun K hK => ?_); go_simp; refine hK _ ?_; clear hK K)
          iterate 9 (refine box_want (by rfl) (fun K hK => ?_); go_simp; refine hK _ ?_; clear hK K)
          refine box_want (by rfl) (fun K hK => ?_); go_simp; refine hK _ ?_; clear hK K
          refine box_nil ?_
          go_wp2_with (go_at_call 119; refine (must_not _).mono ?_; rintro e w7 ⟨rfl, rfl⟩)
          exact ⟨rfl, Or.inl ⟨HE3.out, rfl, grown_trans HH.out.base (grown_drew HSA.out.base)⟩⟩
        · have qn : (t != y) = true := by simp [hty]
          have HE3 : Hid (rdRuns (m - (j + 1)) (l ++ List.replicate c' t) ((byt s).drop k2) = rdSched ((byt s).drop k)) := by
            unfold Hid; rw [HE2.out, HLA.out, if_pos (by simp; exact fun e => hty e.symm)]; rfl
          clear hty HE2 HC HLA
          refine box_region 13 (by kernel_rfl) (by kernel_rfl) ?_
          simp only [List.take_succ_cons, List.take_zero, List.drop_succ_cons, List.drop_zero]
          iterate 3 (refine box_want (by rfl) (fun K hK => ?_); go_simp; refine hK _ ?_; clear hK K)
          iterate 9 (refine box_want (by rfl) (fun K hK => ?_); go_simp; refine hK _ ?_; clear hK K)
          refine box_want (by rfl) (fun K hK => ?_); go_simp; refine hK _ ?_; clear hK K
          refine box_nil ?_
          go_wp2_with (first | (go_at_call 119; refine (must_ok _).mono ?_; rintro e w7 ⟨⟨v7, rfl⟩, rfl⟩) | (go_at_call 92; refine HAP.out.mono ?_; rintro e w8 ⟨sv, rfl, hz1, hz2, hz3, ⟨z1, z2, z3, rfl⟩⟩))
          have HZ1 := hide hz1
          have HZ2 := hide (HNX.out _ _ hz1 hz2 hz3)
          clear hz1 hz2 hz3
          go_wp2_with fail
          go_roundw
          case rel => exact ⟨j + 1, l ++ List.replicate c' t, k2, by omega, by first | rfl | go_num, HLEN.out, HNIL, HZ2, HZ1, HE3⟩
          case measure => simp [intOf]; omega
    · have q1 : ¬ (j : Int) < m := by omega
      have ej : m - j = 0 := by omega
      have HR2 : Hid (rdSched ((byt s).drop k) = some (l, (byt s).drop k')) := by unfold Hid; rw [← HE.out, ej, rdRuns]
      clear ej
      go_wp2_with fail
      go_ret
      exact Or.inr ⟨l, _, _, k', HR2.out, rfl, ⟨hl5, HO.out⟩, HH.out.trans HJ.out, rfl⟩

end Go.Proofs.YtklenjmfalljgaaDoor

/- The walks of the check and of the writer's other methods. -/
namespace Go.Proofs.YtklenjmfalljgaaDoor
open Go.RowKit
attribute [local go_sem] Go.World.cell?_alloc_some

theorem and1_32 (c : Nat) (hc : c < 4294967296) : bits .and .u32 (c : Int) 1 = ((c % 2 : Nat) : Int) := by
  have := u32_and_nat c 1 hc (by decide)
  rw [nat_mask1] at this
  exact this
theorem xorP_32 (c : Nat) (hc : c < 4294967296) : bits .xor .u32 (c : Int) 3988292384 = ((c ^^^ 3988292384 : Nat) : Int) := u32_xor_nat c 3988292384 hc (by decide)

set_option maxRecDepth 100000 in
set_option maxHeartbeats 400000 in
theorem shift_m (c : Nat) (hc : c < 4294967296) (w : World) : Calls Tryd.prog 159 #[.int .u32 c] w fun e w' => e = .returned (.int .u32 (shN c)) ∧ w' = w := by
  have h1 := and1_32 c hc
  have h2 := xorP_32 (c / 2) (by omega)
  by_cases h : c % 2 = 1
  · have HS : Hid (shN c = (c / 2) ^^^ 3988292384) := by unfold Hid shN; rw [if_pos h]
    rw [h] at h1
    go_enter Tryd.func159, Tryd.ntmps159
    go_wp2_with fail
    go_ret
    refine ⟨?_, rfl⟩
    have e : ((c : Int) / 2) = ((c / 2 : Nat) : Int) := by omega
    rw [HS.out, e, h2]
    rfl
  · have HS : Hid (shN c = c / 2) := by unfold Hid shN; rw [if_neg h]
    have h0 : c % 2 = 0 := by omega
    rw [h0] at h1
    go_enter Tryd.func159, Tryd.ntmps159
    go_wp2_with fail
    go_ret
    refine ⟨?_, rfl⟩
    rw [HS.out]
    have e : ((c : Int) / 2) = ((c / 2 : Nat) : Int) := by omega
    rw [e]
    rfl

set_option maxRecDepth 100000 in
set_option maxHeartbeats 1000000 in
theorem checkOf_m (s : ByteArray) (w : World) (hs : s.size ≤ 9223372036854775806) : Calls Tryd.prog 113 #[.string s] w fun e w' => e = .returned (.int .u32 (crcN (byt s))) ∧ Like w' w := by
  go_enter Tryd.func113, Tryd.ntmps113
  go_wp2_with fail
  go_loopw [3, 7] (fun cv i w' => ∃ (k : Nat) (c : Nat), k ≤ s.size ∧ cv = .int .u32 c ∧ i = .int .i64 k ∧ c < 4294967296 ∧ Hid (c = crcF 4294967295 ((byt s).take k)) ∧ Hid (Like w' w)) (fun _ i _ => s.size - (intOf i).toNat)
  case atStart => exact ⟨0, 4294967295, Nat.zero_le _, rfl, rfl, by decide, hide rfl, hide (like_refl _)⟩
  case round =>
    obtain ⟨k, c, hk, rfl, rfl, hc, HC, HL⟩ := hrel
    obtain ⟨w5, hw5⟩ : ∃ w5, w5 = wr := ⟨_, rfl⟩
    subst hw5
    by_cases hks : k < s.size
    · have q1 : (k : Int) < s.size := by omega
      have hb := s[k].toNat_lt
      have hx := u32_xor_nat c s[k].toNat hc (by omega)
      have hcx : c ^^^ s[k].toNat < 4294967296 := Nat.xor_lt_two_pow (n := 32) hc (by omega)
      have HX : Hid (crcF 4294967295 ((byt s).take (k + 1)) = shK 8 (c ^^^ s[k].toNat)) := by
        unfold Hid
        have hl : k < (byt s).length := by rw [byt_len]; exact hks
        have h2 := byt_get s k hks
        rw [List.getElem?_eq_getElem hl] at h2
        rw [← List.take_append_getElem hl, crcF_append, ← HC.out, Option.some.inj h2]
        rfl
      generalize c ^^^ s[k].toNat = d at *
      clear HC
      have HLW := HL
      clear HL
      go_wp2_with fail
      go_loopw [3, 16] (fun cv i w' => ∃ (j : Nat) (c' : Nat), j ≤ 8 ∧ cv = .int .u32 c' ∧ i = .int .i64 j ∧ c' < 4294967296 ∧ Hid (c' = shK j d) ∧ Hid (w' = w5)) (fun _ i _ => 8 - (intOf i).toNat)
      case atStart => exact ⟨0, d, Nat.zero_le _, rfl, rfl, hcx, hide rfl, hide rfl⟩
      case round =>
        obtain ⟨j, c', hj, rfl, rfl, hc', HJ, HW5⟩ := hrel
        rw [HW5.out]
        clear HW5
        by_cases hj8 : j < 8
        · have q2 : (j : Int) < 8 := by omega
          have HN : Hid (shN c' = shK (j + 1) d) := by
            unfold Hid
            rw [HJ.out, shK_add]; rfl
          have HLT := hide (shN_lt hc')
          have HSH := hide (shift_m c' hc' w5)
          go_wp2_with (go_at_call 159; refine HSH.out.mono ?_; rintro e w6 ⟨rfl, rfl⟩)
          go_roundw
          case rel => exact ⟨j + 1, shN c', by omega, rfl, by first | rfl | (congr 1), HLT.out, HN, by first | exact hide rfl | exact hide trivial⟩
          case measure => simp [intOf]; omega
        · have q2 : ¬ (j : Int) < 8 := by omega
          have hj8' : j = 8 := by omega
          subst hj8'
          go_wp2_with fail
          go_roundw
          case rel => exact ⟨k + 1, c', by omega, rfl, by first | rfl | (congr 1), hc', hide (by rw [HX.out]; exact HJ.out), HLW⟩
          case measure => simp [intOf]; omega
    · have q1 : ¬ (k : Int) < s.size := by omega
      have hx := u32_xor_nat 4294967295 c (by decide) hc
      have hk2 : k = s.size := by omega
      have HR : Hid (crcN (byt s) = 4294967295 ^^^ c) := by
        unfold Hid crcN
        rw [HC.out, hk2, ← byt_len, List.take_length]
      clear hk2
      go_wp2_with fail
      go_ret
      refine ⟨?_, HL.out⟩
      rw [HR.out, ← hx]
      rfl

end Go.Proofs.YtklenjmfalljgaaDoor

/- The walks of the reader's head and check. -/
namespace Go.Proofs.YtklenjmfalljgaaDoor
open Go.RowKit
attribute [local go_sem] Go.World.cell?_alloc_some

def rdLit : List Nat → List Nat → Option (Unit × List Nat)
  | [], l => some ((), l)
  | _ :: _, [] => none
  | x :: xs, y :: l => if y = x then rdLit xs l else none

theorem rdLit_ok (xs l r : List Nat) : rdLit xs l = some ((), r) ↔ l = xs ++ r := by
  induction xs generalizing l with
  | nil => simp [rdLit]
  | cons x xs ih =>
    cases l with
    | nil => simp [rdLit]
    | cons y l =>
      simp only [rdLit]
      by_cases h : y = x
      · rw [if_pos h, ih, h]; simp
      · rw [if_neg h]; simp [h]

set_option maxRecDepth 100000 in
set_option maxHeartbeats 1000000 in
theorem head_r (W w : World) (b k : Nat) (s : ByteArray) (h : RdS W w b s k) (hs : s.size ≤ 9223372036854775806) :
    Calls Tryd.prog 114 #[pt b] w (Rd W b s (fun _ _ _ => True) (rdLit [82, 82, 1] ((byt s).drop k))) := by
  have HH := hide h
  have hpt : pt b = .pointer (some ⟨b, 0, none⟩) := rfl
  rw [hpt]
  clear h hpt
  go_enter Tryd.func114, Tryd.ntmps114
  go_wp2_with fail
  go_loopw [3] (fun i w' => ∃ (j k' : Nat), j ≤ 3 ∧ i = .int .i64 j ∧ Hid (RdS W w' b s k') ∧ Hid (rdLit ([82, 82, 1].drop j) ((byt s).drop k') = rdLit [82, 82, 1] ((byt s).drop k))) (fun i _ => 3 - (intOf i).toNat)
  case atStart => exact ⟨0, k, by omega, rfl, HH, hide rfl⟩
  case round =>
    obtain ⟨j, k', hj, rfl, HS, HE⟩ := hrel
    obtain ⟨w5, hw5'⟩ : ∃ w5, w5 = wr := ⟨_, rfl⟩
    rw [← hw5'] at HS ⊢
    clear hw5'
    have hcs : j = 0 ∨ j = 1 ∨ j = 2 ∨ j = 3 := by omega
    rcases hcs with rfl | rfl | rfl | rfl
    · have HX : Hid (([82, 82, 1] : List Nat).drop 0 = 82 :: [82, 82, 1].drop 1) := rfl
      have qb : (({ data := #[82, 82, 1] } : ByteArray)[0]).toNat = 82 := rfl
      by_cases hk : k' < s.size
      · have HB := hide (byt_cons s k' hk)
        have HNX := hide (next_ok W w5.drew b k' s (HS.out.grown (grown_drew (grown_refl _ _))) hs hk)
        generalize s[k'].toNat = y at *
        by_cases hy : y = 82
        · have qy : ((y : Int) == 82) = true := by simp; omega
          have HE2 : Hid (rdLit (([82, 82, 1]).drop (1)) ((byt s).drop (k' + 1)) = rdLit ([82, 82, 1]) ((byt s).drop k)) := by
            unfold Hid; rw [← HE.out, HB.out, HX.out, rdLit, if_pos hy]
          clear hy
          go_wp2_with fail
          refine wp_region_head (fun _ => True) 5 (by kernel_rfl) (by kernel_rfl) trivial ?_
          intro hHeld
          refine wpHead_take (i := 0) (v := ?vv0_1) rfl (by kernel_rfl) (fun _ _ _ h => h) (Or.inl ⟨by rfl, ?hy0_1⟩) trivial ?rest0_1
          case hy0_1 => (intro u hu; go_simp; try with_reducible rfl)
          simp only [Act.put, List.setIfInBounds_toArray]
          refine wpHead_take (i := 2) (v := ?vv2_2) rfl (by kernel_rfl) (fun _ _ _ h => h) (Or.inl ⟨by rfl, ?hy2_2⟩) trivial ?rest2_2
          case hy2_2 => (intro u hu; go_simp; try with_reducible rfl)
          simp only [Act.put]
          refine wpHead_take (i := 3) (v := ?vv3_3) rfl (by kernel_rfl) (fun _ _ _ h => h) (Or.inl ⟨by rfl, ?hy3_3⟩) trivial ?rest3_3
          case hy3_3 => (intro u hu; go_simp; try with_reducible rfl)
          simp only [Act.put]
          refine wpHead_alone (i := 1) rfl (by kernel_rfl) (by kernel_rfl) (by rfl) ?_
          intro K1 hK1
          have HK1 := hide hK1
          clear hK1
          go_simp
          refine HNX.out.mono ?_
          rintro e w6 ⟨rfl, hS6⟩
          have HS6 := hide hS6
          clear hS6
          refine HK1.out _ _ trivial ?_
          clear HK1
          try simp only [Act.put, List.setIfInBounds_toArray]
          refine wpHead_take (i := 4) (v := ?vv4_4) rfl (by kernel_rfl) (fun _ _ _ h => h) (Or.inl ⟨by rfl, ?hy4_4⟩) trivial ?rest4_4
          case hy4_4 => (intro u hu; go_simp; try with_reducible rfl)
          simp only [Act.put]
          refine wpHead_last rfl (by kernel_rfl) (by kernel_rfl) (by rfl) ?_
          go_simp
          refine (must_ok _).mono ?_
          rintro e w7 ⟨⟨v7, rfl⟩, rfl⟩
          go_wp2_with fail
          go_roundw
          case rel => exact ⟨1, k' + 1, by omega, by first | rfl | go_num, HS6, HE2⟩
          case measure => simp [intOf]
        · have qy : ((y : Int) == 82) = false := by simp; omega
          have HE2 : Hid (rdLit ([82, 82, 1]) ((byt s).drop k) = none) := by
            unfold Hid; rw [← HE.out, HB.out, HX.out, rdLit, if_neg hy]
          clear hy
          go_wp2_with fail
          refine wp_region_head (fun _ => True) 5 (by kernel_rfl) (by kernel_rfl) trivial ?_
          intro hHeld
          refine wpHead_take (i := 0) (v := ?vv0_5) rfl (by kernel_rfl) (fun _ _ _ h => h) (Or.inl ⟨by rfl, ?hy0_5⟩) trivial ?rest0_5
          case hy0_5 => (intro u hu; go_simp; try with_reducible rfl)
          simp only [Act.put, List.setIfInBounds_toArray]
          refine wpHead_take (i := 2) (v := ?vv2_6) rfl (by kernel_rfl) (fun _ _ _ h => h) (Or.inl ⟨by rfl, ?hy2_6⟩) trivial ?rest2_6
          case hy2_6 => (intro u hu; go_simp; try with_reducible rfl)
          simp only [Act.put]
          refine wpHead_take (i := 3) (v := ?vv3_7) rfl (by kernel_rfl) (fun _ _ _ h => h) (Or.inl ⟨by rfl, ?hy3_7⟩) trivial ?rest3_7
          case hy3_7 => (intro u hu; go_simp; try with_reducible rfl)
          simp only [Act.put]
          refine wpHead_alone (i := 1) rfl (by kernel_rfl) (by kernel_rfl) (by rfl) ?_
          intro K1 hK1
          have HK1 := hide hK1
          clear hK1
          go_simp
          refine HNX.out.mono ?_
          rintro e w6 ⟨rfl, hS6⟩
          have HS6 := hide hS6
          clear hS6
          refine HK1.out _ _ trivial ?_
          clear HK1
          try simp only [Act.put, List.setIfInBounds_toArray]
          refine wpHead_take (i := 4) (v := ?vv4_8) rfl (by kernel_rfl) (fun _ _ _ h => h) (Or.inl ⟨by rfl, ?hy4_8⟩) trivial ?rest4_8
          case hy4_8 => (intro u hu; go_simp; try with_reducible rfl)
          simp only [Act.put]
          refine wpHead_last rfl (by kernel_rfl) (by kernel_rfl) (by rfl) ?_
          go_simp
          refine (must_not _).mono ?_
          rintro e w7 ⟨rfl, rfl⟩
          exact ⟨rfl, Or.inl ⟨HE2.out, rfl, HS6.out.base⟩⟩
      · have e0 : Hid ((byt s).drop k' = []) := List.drop_eq_nil_iff.2 (by rw [byt_len]; omega)
        have HNX := hide (next_no W w5.drew b k' s (HS.out.grown (grown_drew (grown_refl _ _))) hs hk)
        have HE2 : Hid (rdLit ([82, 82, 1]) ((byt s).drop k) = none) := by
          unfold Hid; rw [← HE.out, e0.out, HX.out, rdLit]
        go_wp2_with fail
        refine wp_region_head (fun _ => True) 5 (by kernel_rfl) (by kernel_rfl) trivial ?_
        intro hHeld
        refine wpHead_take (i := 0) (v := ?vv0_9) rfl (by kernel_rfl) (fun _ _ _ h => h) (Or.inl ⟨by rfl, ?hy0_9⟩) trivial ?rest0_9
        case hy0_9 => (intro u hu; go_simp; try with_reducible rfl)
        simp only [Act.put, List.setIfInBounds_toArray]
        refine wpHead_take (i := 2) (v := ?vv2_10) rfl (by kernel_rfl) (fun _ _ _ h => h) (Or.inl ⟨by rfl, ?hy2_10⟩) trivial ?rest2_10
        case hy2_10 => (intro u hu; go_simp; try with_reducible rfl)
        simp only [Act.put]
        refine wpHead_take (i := 3) (v := ?vv3_11) rfl (by kernel_rfl) (fun _ _ _ h => h) (Or.inl ⟨by rfl, ?hy3_11⟩) trivial ?rest3_11
        case hy3_11 => (intro u hu; go_simp; try with_reducible rfl)
        simp only [Act.put]
        refine wpHead_alone (i := 1) rfl (by kernel_rfl) (by kernel_rfl) (by rfl) ?_
        intro K1 hK1
        have HK1 := hide hK1
        clear hK1
        go_simp
        refine HNX.out.mono ?_
        rintro e w6 ⟨rfl, hS6⟩
        exact ⟨rfl, Or.inl ⟨HE2.out, rfl, hS6⟩⟩
    · have HX : Hid (([82, 82, 1] : List Nat).drop 1 = 82 :: [82, 82, 1].drop 2) := rfl
      have qb : (({ data := #[82, 82, 1] } : ByteArray)[1]).toNat = 82 := rfl
      by_cases hk : k' < s.size
      · have HB := hide (byt_cons s k' hk)
        have HNX := hide (next_ok W w5.drew b k' s (HS.out.grown (grown_drew (grown_refl _ _))) hs hk)
        generalize s[k'].toNat = y at *
        by_cases hy : y = 82
        · have qy : ((y : Int) == 82) = true := by simp; omega
          have HE2 : Hid (rdLit (([82, 82, 1]).drop (2)) ((byt s).drop (k' + 1)) = rdLit ([82, 82, 1]) ((byt s).drop k)) := by
            unfold Hid; rw [← HE.out, HB.out, HX.out, rdLit, if_pos hy]
          clear hy
          go_wp2_with fail
          refine wp_region_head (fun _ => True) 5 (by kernel_rfl) (by kernel_rfl) trivial ?_
          intro hHeld
          refine wpHead_take (i := 0) (v := ?vv0_12) rfl (by kernel_rfl) (fun _ _ _ h => h) (Or.inl ⟨by rfl, ?hy0_12⟩) trivial ?rest0_12
          case hy0_12 => (intro u hu; go_simp; try with_reducible rfl)
          simp only [Act.put, List.setIfInBounds_toArray]
          refine wpHead_take (i := 2) (v := ?vv2_13) rfl (by kernel_rfl) (fun _ _ _ h => h) (Or.inl ⟨by rfl, ?hy2_13⟩) trivial ?rest2_13
          case hy2_13 => (intro u hu; go_simp; try with_reducible rfl)
          simp only [Act.put]
          refine wpHead_take (i := 3) (v := ?vv3_14) rfl (by kernel_rfl) (fun _ _ _ h => h) (Or.inl ⟨by rfl, ?hy3_14⟩) trivial ?rest3_14
          case hy3_14 => (intro u hu; go_simp; try with_reducible rfl)
          simp only [Act.put]
          refine wpHead_alone (i := 1) rfl (by kernel_rfl) (by kernel_rfl) (by rfl) ?_
          intro K1 hK1
          have HK1 := hide hK1
          clear hK1
          go_simp
          refine HNX.out.mono ?_
          rintro e w6 ⟨rfl, hS6⟩
          have HS6 := hide hS6
          clear hS6
          refine HK1.out _ _ trivial ?_
          clear HK1
          try simp only [Act.put, List.setIfInBounds_toArray]
          refine wpHead_take (i := 4) (v := ?vv4_15) rfl (by kernel_rfl) (fun _ _ _ h => h) (Or.inl ⟨by rfl, ?hy4_15⟩) trivial ?rest4_15
          case hy4_15 => (intro u hu; go_simp; try with_reducible rfl)
          simp only [Act.put]
          refine wpHead_last rfl (by kernel_rfl) (by kernel_rfl) (by rfl) ?_
          go_simp
          refine (must_ok _).mono ?_
          rintro e w7 ⟨⟨v7, rfl⟩, rfl⟩
          go_wp2_with fail
          go_roundw
          case rel => exact ⟨2, k' + 1, by omega, by first | rfl | go_num, HS6, HE2⟩
          case measure => simp [intOf]
        · have qy : ((y : Int) == 82) = false := by simp; omega
          have HE2 : Hid (rdLit ([82, 82, 1]) ((byt s).drop k) = none) := by
            unfold Hid; rw [← HE.out, HB.out, HX.out, rdLit, if_neg hy]
          clear hy
          go_wp2_with fail
          refine wp_region_head (fun _ => True) 5 (by kernel_rfl) (by kernel_rfl) trivial ?_
          intro hHeld
          refine wpHead_take (i := 0) (v := ?vv0_16) rfl (by kernel_rfl) (fun _ _ _ h => h) (Or.inl ⟨by rfl, ?hy0_16⟩) trivial ?rest0_16
          case hy0_16 => (intro u hu; go_simp; try with_reducible rfl)
          simp only [Act.put, List.setIfInBounds_toArray]
          refine wpHead_take (i := 2) (v := ?vv2_17) rfl (by kernel_rfl) (fun _ _ _ h => h) (Or.inl ⟨by rfl, ?hy2_17⟩) trivial ?rest2_17
          case hy2_17 => (intro u hu; go_simp; try with_reducible rfl)
          simp only [Act.put]
          refine wpHead_take (i := 3) (v := ?vv3_18) rfl (by kernel_rfl) (fun _ _ _ h => h) (Or.inl ⟨by rfl, ?hy3_18⟩) trivial ?rest3_18
          case hy3_18 => (intro u hu; go_simp; try with_reducible rfl)
          simp only [Act.put]
          refine wpHead_alone (i := 1) rfl (by kernel_rfl) (by kernel_rfl) (by rfl) ?_
          intro K1 hK1
          have HK1 := hide hK1
          clear hK1
          go_simp
          refine HNX.out.mono ?_
          rintro e w6 ⟨rfl, hS6⟩
          have HS6 := hide hS6
          clear hS6
          refine HK1.out _ _ trivial ?_
          clear HK1
          try simp only [Act.put, List.setIfInBounds_toArray]
          refine wpHead_take (i := 4) (v := ?vv4_19) rfl (by kernel_rfl) (fun _ _ _ h => h) (Or.inl ⟨by rfl, ?hy4_19⟩) trivial ?rest4_19
          case hy4_19 => (intro u hu; go_simp; try with_reducible rfl)
          simp only [Act.put]
          refine wpHead_last rfl (by kernel_rfl) (by kernel_rfl) (by rfl) ?_
          go_simp
          refine (must_not _).mono ?_
          rintro e w7 ⟨rfl, rfl⟩
          exact ⟨rfl, Or.inl ⟨HE2.out, rfl, HS6.out.base⟩⟩
      · have e0 : Hid ((byt s).drop k' = []) := List.drop_eq_nil_iff.2 (by rw [byt_len]; omega)
        have HNX := hide (next_no W w5.drew b k' s (HS.out.grown (grown_drew (grown_refl _ _))) hs hk)
        have HE2 : Hid (rdLit ([82, 82, 1]) ((byt s).drop k) = none) := by
          unfold Hid; rw [← HE.out, e0.out, HX.out, rdLit]
        go_wp2_with fail
        refine wp_region_head (fun _ => True) 5 (by kernel_rfl) (by kernel_rfl) trivial ?_
        intro hHeld
        refine wpHead_take (i := 0) (v := ?vv0_20) rfl (by kernel_rfl) (fun _ _ _ h => h) (Or.inl ⟨by rfl, ?hy0_20⟩) trivial ?rest0_20
        case hy0_20 => (intro u hu; go_simp; try with_reducible rfl)
        simp only [Act.put, List.setIfInBounds_toArray]
        refine wpHead_take (i := 2) (v := ?vv2_21) rfl (by kernel_rfl) (fun _ _ _ h => h) (Or.inl ⟨by rfl, ?hy2_21⟩) trivial ?rest2_21
        case hy2_21 => (intro u hu; go_simp; try with_reducible rfl)
        simp only [Act.put]
        refine wpHead_take (i := 3) (v := ?vv3_22) rfl (by kernel_rfl) (fun _ _ _ h => h) (Or.inl ⟨by rfl, ?hy3_22⟩) trivial ?rest3_22
        case hy3_22 => (intro u hu; go_simp; try with_reducible rfl)
        simp only [Act.put]
        refine wpHead_alone (i := 1) rfl (by kernel_rfl) (by kernel_rfl) (by rfl) ?_
        intro K1 hK1
        have HK1 := hide hK1
        clear hK1
        go_simp
        refine HNX.out.mono ?_
        rintro e w6 ⟨rfl, hS6⟩
        exact ⟨rfl, Or.inl ⟨HE2.out, rfl, hS6⟩⟩
    · have HX : Hid (([82, 82, 1] : List Nat).drop 2 = 1 :: [82, 82, 1].drop 3) := rfl
      have qb : (({ data := #[82, 82, 1] } : ByteArray)[2]).toNat = 1 := rfl
      by_cases hk : k' < s.size
      · have HB := hide (byt_cons s k' hk)
        have HNX := hide (next_ok W w5.drew b k' s (HS.out.grown (grown_drew (grown_refl _ _))) hs hk)
        generalize s[k'].toNat = y at *
        by_cases hy : y = 1
        · have qy : ((y : Int) == 1) = true := by simp; omega
          have HE2 : Hid (rdLit (([82, 82, 1]).drop (3)) ((byt s).drop (k' + 1)) = rdLit ([82, 82, 1]) ((byt s).drop k)) := by
            unfold Hid; rw [← HE.out, HB.out, HX.out, rdLit, if_pos hy]
          clear hy
          go_wp2_with fail
          refine wp_region_head (fun _ => True) 5 (by kernel_rfl) (by kernel_rfl) trivial ?_
          intro hHeld
          refine wpHead_take (i := 0) (v := ?vv0_23) rfl (by kernel_rfl) (fun _ _ _ h => h) (Or.inl ⟨by rfl, ?hy0_23⟩) trivial ?rest0_23
          case hy0_23 => (intro u hu; go_simp; try with_reducible rfl)
          simp only [Act.put, List.setIfInBounds_toArray]
          refine wpHead_take (i := 2) (v := ?vv2_24) rfl (by kernel_rfl) (fun _ _ _ h => h) (Or.inl ⟨by rfl, ?hy2_24⟩) trivial ?rest2_24
          case hy2_24 => (intro u hu; go_simp; try with_reducible rfl)
          simp only [Act.put]
          refine wpHead_take (i := 3) (v := ?vv3_25) rfl (by kernel_rfl) (fun _ _ _ h => h) (Or.inl ⟨by rfl, ?hy3_25⟩) trivial ?rest3_25
          case hy3_25 => (intro u hu; go_simp; try with_reducible rfl)
          simp only [Act.put]
          refine wpHead_alone (i := 1) rfl (by kernel_rfl) (by kernel_rfl) (by rfl) ?_
          intro K1 hK1
          have HK1 := hide hK1
          clear hK1
          go_simp
          refine HNX.out.mono ?_
          rintro e w6 ⟨rfl, hS6⟩
          have HS6 := hide hS6
          clear hS6
          refine HK1.out _ _ trivial ?_
          clear HK1
          try simp only [Act.put, List.setIfInBounds_toArray]
          refine wpHead_take (i := 4) (v := ?vv4_26) rfl (by kernel_rfl) (fun _ _ _ h => h) (Or.inl ⟨by rfl, ?hy4_26⟩) trivial ?rest4_26
          case hy4_26 => (intro u hu; go_simp; try with_reducible rfl)
          simp only [Act.put]
          refine wpHead_last rfl (by kernel_rfl) (by kernel_rfl) (by rfl) ?_
          go_simp
          refine (must_ok _).mono ?_
          rintro e w7 ⟨⟨v7, rfl⟩, rfl⟩
          go_wp2_with fail
          go_roundw
          case rel => exact ⟨3, k' + 1, by omega, by first | rfl | go_num, HS6, HE2⟩
          case measure => simp [intOf]
        · have qy : ((y : Int) == 1) = false := by simp; omega
          have HE2 : Hid (rdLit ([82, 82, 1]) ((byt s).drop k) = none) := by
            unfold Hid; rw [← HE.out, HB.out, HX.out, rdLit, if_neg hy]
          clear hy
          go_wp2_with fail
          refine wp_region_head (fun _ => True) 5 (by kernel_rfl) (by kernel_rfl) trivial ?_
          intro hHeld
          refine wpHead_take (i := 0) (v := ?vv0_27) rfl (by kernel_rfl) (fun _ _ _ h => h) (Or.inl ⟨by rfl, ?hy0_27⟩) trivial ?rest0_27
          case hy0_27 => (intro u hu; go_simp; try with_reducible rfl)
          simp only [Act.put, List.setIfInBounds_toArray]
          refine wpHead_take (i := 2) (v := ?vv2_28) rfl (by kernel_rfl) (fun _ _ _ h => h) (Or.inl ⟨by rfl, ?hy2_28⟩) trivial ?rest2_28
          case hy2_28 => (intro u hu; go_simp; try with_reducible rfl)
          simp only [Act.put]
          refine wpHead_take (i := 3) (v := ?vv3_29) rfl (by kernel_rfl) (fun _ _ _ h => h) (Or.inl ⟨by rfl, ?hy3_29⟩) trivial ?rest3_29
          case hy3_29 => (intro u hu; go_simp; try with_reducible rfl)
          simp only [Act.put]
          refine wpHead_alone (i := 1) rfl (by kernel_rfl) (by kernel_rfl) (by rfl) ?_
          intro K1 hK1
          have HK1 := hide hK1
          clear hK1
          go_simp
          refine HNX.out.mono ?_
          rintro e w6 ⟨rfl, hS6⟩
          have HS6 := hide hS6
          clear hS6
          refine HK1.out _ _ trivial ?_
          clear HK1
          try simp only [Act.put, List.setIfInBounds_toArray]
          refine wpHead_take (i := 4) (v := ?vv4_30) rfl (by kernel_rfl) (fun _ _ _ h => h) (Or.inl ⟨by rfl, ?hy4_30⟩) trivial ?rest4_30
          case hy4_30 => (intro u hu; go_simp; try with_reducible rfl)
          simp only [Act.put]
          refine wpHead_last rfl (by kernel_rfl) (by kernel_rfl) (by rfl) ?_
          go_simp
          refine (must_not _).mono ?_
          rintro e w7 ⟨rfl, rfl⟩
          exact ⟨rfl, Or.inl ⟨HE2.out, rfl, HS6.out.base⟩⟩
      · have e0 : Hid ((byt s).drop k' = []) := List.drop_eq_nil_iff.2 (by rw [byt_len]; omega)
        have HNX := hide (next_no W w5.drew b k' s (HS.out.grown (grown_drew (grown_refl _ _))) hs hk)
        have HE2 : Hid (rdLit ([82, 82, 1]) ((byt s).drop k) = none) := by
          unfold Hid; rw [← HE.out, e0.out, HX.out, rdLit]
        go_wp2_with fail
        refine wp_region_head (fun _ => True) 5 (by kernel_rfl) (by kernel_rfl) trivial ?_
        intro hHeld
        refine wpHead_take (i := 0) (v := ?vv0_31) rfl (by kernel_rfl) (fun _ _ _ h => h) (Or.inl ⟨by rfl, ?hy0_31⟩) trivial ?rest0_31
        case hy0_31 => (intro u hu; go_simp; try with_reducible rfl)
        simp only [Act.put, List.setIfInBounds_toArray]
        refine wpHead_take (i := 2) (v := ?vv2_32) rfl (by kernel_rfl) (fun _ _ _ h => h) (Or.inl ⟨by rfl, ?hy2_32⟩) trivial ?rest2_32
        case hy2_32 => (intro u hu; go_simp; try with_reducible rfl)
        simp only [Act.put]
        refine wpHead_take (i := 3) (v := ?vv3_33) rfl (by kernel_rfl) (fun _ _ _ h => h) (Or.inl ⟨by rfl, ?hy3_33⟩) trivial ?rest3_33
        case hy3_33 => (intro u hu; go_simp; try with_reducible rfl)
        simp only [Act.put]
        refine wpHead_alone (i := 1) rfl (by kernel_rfl) (by kernel_rfl) (by rfl) ?_
        intro K1 hK1
        have HK1 := hide hK1
        clear hK1
        go_simp
        refine HNX.out.mono ?_
        rintro e w6 ⟨rfl, hS6⟩
        exact ⟨rfl, Or.inl ⟨HE2.out, rfl, hS6⟩⟩
    · have HE2 : Hid (rdLit [82, 82, 1] ((byt s).drop k) = some ((), (byt s).drop k')) := by
        unfold Hid; rw [← HE.out]; rfl
      go_wp2_with fail
      go_end0
      exact Or.inr ⟨(), _, _, k', HE2.out, rfl, trivial, HS.out, rfl⟩

end Go.Proofs.YtklenjmfalljgaaDoor
