/- The texts Fhd Fhe Fhf Fhg Awk Sch Sch2 Fhh. -/
import Derived.Test.YtklenjmfalljgaaDoorMC
import Derived.Sort.Grow
import Derived.Deep.Draws
import Derived.Test.YtklenjmfalljgaaDoorSrt

/- The walk of place. -/
namespace Go.Proofs.YtklenjmfalljgaaDoor
open Go.RowKit Go.Maps
attribute [local go_sem] Go.World.cell?_alloc_some

theorem vIns_ab {i : Ins} {len : Int} (h : vIns i len = true) : 0 ≤ i.a ∧ i.a < 4 ∧ 0 ≤ i.b ∧ i.b < 4 := by
  obtain ⟨h1, h2⟩ := vIns_op h
  obtain ⟨h3, h4, h5⟩ := vIns_parts h
  have hc : i.op = 1 ∨ i.op = 2 ∨ i.op = 3 ∨ i.op = 4 ∨ i.op = 5 ∨ i.op = 6 ∨ i.op = 7 ∨ i.op = 8 ∨ i.op = 9 ∨ i.op = 10 ∨ i.op = 11 := by omega
  rcases hc with e | e | e | e | e | e | e | e | e | e | e <;> rw [e] at h3 h4 h5 <;> simp [shp, fitsB, belowB] at h3 h4 h5 <;> omega
theorem uses_small {t : Nat} {i : Ins} (ht : t < 4) (ha : i.a < 4) (hb : i.b < 4) : (∀ u ∈ usesI t i, smallU u) ∧ (usesI t i).length ≤ 10 := by
  unfold usesI smallU
  by_cases h9 : i.op = 9 ∨ i.op = 10
  · simp [h9]; omega
  · by_cases h2 : i.op = 2
    · simp [h2]; omega
    · by_cases h3 : i.op = 3
      · simp [h3]; omega
      · simp [h9, h2, h3]; omega

def pairI (q : Nat × Nat) : Int × Int := ((q.1 : Int), (q.2 : Int))
/-- The cells of pairs. -/
def flatK (ks : List (Nat × Nat)) : List Value := flatS (ks.map pairI)
theorem flatK_len (ks : List (Nat × Nat)) : (flatK ks).length = ks.length * 2 := by
  induction ks with
  | nil => rfl
  | cons x r ih => simp only [flatK, flatS, List.map_cons, List.flatMap_cons, List.length_append] at *; simp at *; omega
theorem flatK_snoc (ks : List (Nat × Nat)) (q : Nat × Nat) : flatK (ks ++ [q]) = flatK ks ++ [.int .i64 (q.1 : Int), .int .i64 (q.2 : Int)] := by
  unfold flatK; rw [List.map_append, List.map_cons, List.map_nil, flatS_snoc]; rfl
theorem row_set2 (L : List Value) (x y : Value) (i n : Nat) (hl : L.length = i * 2) (hi : i < n) : ((L ++ List.replicate ((n - i) * 2) (Value.int .i64 0)).set (i * 2) x).set (i * 2 + 1) y = (L ++ [x, y]) ++ List.replicate ((n - (i + 1)) * 2) (Value.int .i64 0) := by
  obtain ⟨k, hk⟩ : ∃ k, (n - i) * 2 = k + 2 ∧ (n - (i + 1)) * 2 = k := ⟨(n - (i + 1)) * 2, by omega, rfl⟩
  rw [hk.1, hk.2, List.set_append, if_neg (by omega), hl, Nat.sub_self, List.replicate_succ, List.set_cons_zero, List.set_append, if_neg (by omega), hl]
  have e : i * 2 + 1 - i * 2 = 1 := by omega
  rw [e, List.replicate_succ]
  simp

theorem info_placed : ((Tryd.prog.info? 187).map fun i => (i.zero, i.size, i.bytes)) = some (some (.agg #[.int .i64 0, .int .i64 0]), 2, 16) := by kernel_rfl
theorem made_two (n : Nat) : (madeCells #[Value.int .i64 0, .int .i64 0] n).toList = List.replicate n (.int .i64 0) := by
  apply List.ext_getElem (by simp [madeCells])
  intro i h1 h2
  simp only [madeCells, Array.toList_map, List.getElem_map, List.getElem_replicate]
  have : i < n := by simpa using h2
  simp only [Array.toList_range, List.getElem_range]
  rcases (by omega : i % 2 = 0 ∨ i % 2 = 1) with h | h <;> simp [h]

theorem flatS_at : ∀ (l : List (Int × Int)) (j : Nat) (hj : j < l.length), (flatS l)[j * 2]? = some (.int .i64 l[j].1) ∧ (flatS l)[j * 2 + 1]? = some (.int .i64 l[j].2)
  | [], j, hj => by simp at hj
  | x :: l, 0, hj => by simp [flatS]
  | x :: l, j + 1, hj => by
    have h := flatS_at l j (by simpa using hj)
    have e : flatS (x :: l) = [.int .i64 x.1, .int .i64 x.2] ++ flatS l := by simp [flatS]
    have e2 : ∀ q, (flatS (x :: l))[(j + 1) * 2 + q]? = (flatS l)[j * 2 + q]? := fun q => by
      rw [e, List.getElem?_append_right (by simp; omega)]
      congr 1
      simp; omega
    refine ⟨?_, ?_⟩
    · have := e2 0; simp only [Nat.add_zero] at this; rw [this]; simpa using h.1
    · rw [e2 1]; simpa using h.2
theorem steps_at {w : World} {base : Nat} {ao : Option Addr} {c : Nat} {xs : List Ev} {o : Out} (h : w.ownsRow base 48 2 (.slice ao xs.length c) xs.length (flatS o.steps)) (he : o.steps = xs.map Ev.pr) {j : Nat} (hj : j < xs.length) :
    ∃ g, ao = some ⟨g, 0, none⟩ ∧ w.cell? ⟨g, j * 2, none⟩ = some (.int .i64 (xs[j].t : Int)) ∧ w.cell? ⟨g, j * 2 + 1, none⟩ = some (.int .i64 xs[j].k) := by
  rcases h.2 with ⟨_, e⟩ | ⟨g, cap, _, e, _⟩
  · omega
  · simp only [Value.slice.injEq, true_and] at e
    obtain ⟨rfl, rfl⟩ := e
    have hj' : j < o.steps.length := by rw [he]; simpa using hj
    have q := flatS_at o.steps j hj'
    have e1 : o.steps[j] = xs[j].pr := by simp [he]
    rw [e1] at q
    exact ⟨g, rfl, by rw [h.cellAt _ (by omega)]; exact q.1, by rw [h.cellAt _ (by omega)]; exact q.2⟩
theorem ins_at {w : World} {ao : Option Addr} {cap : Nat} {p : List (List Ins)} (hP : ProgAt w (.agg #[.slice ao p.length cap]) p) {t : Nat} (ht : t < p.length) {k : Nat} (hk : k < (codeOf p t).length) :
    ∃ g o ca cc cg co, ao = some ⟨g, o, none⟩ ∧ ca = some ⟨cg, co, none⟩ ∧ w.cell? ⟨g, o + t, none⟩ = some (.slice ca (codeOf p t).length cc) ∧ w.cell? ⟨cg, co + k * 4, none⟩ = some (.int .i64 (insAt p t k).op) ∧ w.cell? ⟨cg, co + k * 4 + 1, none⟩ = some (.int .i64 (insAt p t k).a) ∧ w.cell? ⟨cg, co + k * 4 + 2, none⟩ = some (.int .i64 (insAt p t k).b) ∧ w.cell? ⟨cg, co + k * 4 + 3, none⟩ = some (.int .i64 (insAt p t k).n) := by
  obtain ⟨ao', cap', e, h⟩ := hP
  simp at e
  obtain ⟨rfl, rfl⟩ := e
  obtain ⟨g, o, e1, rv, c0, ca, cc, e2, h2⟩ := h t ht
  have ec := codeOf_get ht
  rw [← ec] at h2 e2
  obtain ⟨cg, co, e3, k0, k1, k2, k3⟩ := h2 k hk
  have ei : insAt p t (k : Int) = (codeOf p t)[k] := by rw [insAt_get (by simpa using hk)]; simp
  rw [ei]
  exact ⟨g, o, ca, cc, cg, co, e1, e3, by rw [c0, e2], k0, k1, k2, k3⟩

theorem HistAt.keptRow {w w' : World} {b n r : Nat} {F : Use → Nat} (h : HistAt w b n F) (hg : w.grownBy w' (some r)) (hr : r ≠ b) : HistAt w' b n F := by
  obtain ⟨D, h1, h2⟩ := h
  exact ⟨D, h1.kept hg (by simpa using Ne.symm hr), h2⟩
theorem HistAt.mono {w : World} {b n n' : Nat} {F : Use → Nat} (h : HistAt w b n F) (hn : n ≤ n') : HistAt w b n' F := by
  obtain ⟨D, h1, h2⟩ := h
  exact ⟨D, h1.mono hn, h2⟩
theorem grown_cell {w : World} {g o : Nat} {v : Value} : w.grownBy (w.setCell ⟨g, o, none⟩ v) (some g) := ⟨rfl, rfl, rfl, by simp, fun k _ hk => Below.heap_setCell _ _ _ _ (by simp at hk ⊢; omega)⟩

/-- In the midst of place: i steps stand. -/
structure PlIn (p : List (List Ins)) (xs : List Ev) (W w' : World) (gl gm i h : Nat) : Prop where
  row : w'.heap[gl]? = some (.cells (flatK ((tl (depE p) [] (xs.take i)).map keyE) ++ List.replicate ((xs.length - i) * 2) (Value.int .i64 0)).toArray 187 (0, 0))
  his : HistAt w' gm (i * 10) (histOf p (tl (depE p) [] (xs.take i)))
  hgh : h = highOf (tl (depE p) [] (xs.take i))
  gr : ∀ k, k < W.heap.size → w'.heap[k]? = W.heap[k]?
  sz : W.heap.size ≤ w'.heap.size
  os : w'.os = W.os ∧ w'.tape = W.tape ∧ w'.output = W.output

set_option maxHeartbeats 4000000 in
set_option maxRecDepth 100000 in
theorem place_m {p : List (List Ins)} {o : Out} {xs : List Ev} (hp : vProg p = true) (hSt : Stood p o xs) (h500 : xs.length ≤ 500) (w : World) (pv : Value) (hP : ProgAt w pv p) (base : Nat) (sao : Option Addr) (scp : Nat)
    (hs : w.ownsRow base 48 2 (.slice sao xs.length scp) xs.length (flatS o.steps)) (v0 v1 v2 v3 : Int) (gao : Option Addr) (gn gc : Nat) :
    Calls Tryd.prog 101 #[pv, .agg #[.int .i64 o.kind, .int .i64 o.thread, .int .i64 o.at_, .slice sao xs.length scp, .int .i64 v0, .int .i64 v1, .int .i64 v2, .int .i64 v3, .slice gao gn gc]] w fun e w' => ∃ g, e = .returned (.slice (some ⟨g, 0, none⟩) xs.length xs.length) ∧ w.heap.size ≤ g ∧ w'.heap[g]? = some (.cells (flatK (keysE p xs)).toArray 187 (0, 0)) ∧ w.grownBy w' none := by
  obtain ⟨i0, hi0, hz0, hz1, hz2⟩ := info_parts info_placed
  obtain ⟨ao, cap, rfl⟩ := hP.form
  have HP := hide hP
  have HV := hide hp
  have HSt := hide hSt
  have HR := hide hs
  have hlen := vProg_len hp
  have q0 : (xs.length : Int) ≤ 500 := by omega
  have q1 : (0 : Int) ≤ (xs.length : Int) := by omega
  clear hP hp hSt hs
  go_enter Tryd.func101, Tryd.ntmps101
  go_upto_region 1 with fail
  have hB0 : w.grownBy ((w.alloc (.cells #[.slice ao p.length cap] 25)).alloc (.cells #[.int .i64 o.kind, .int .i64 o.thread, .int .i64 o.at_, .slice sao xs.length scp, .int .i64 v0, .int .i64 v1, .int .i64 v2, .int .i64 v3, .slice gao gn gc] 37)) none := grown_alloc (grown_alloc (grown_refl _ _))
  have hPb : ((w.alloc (.cells #[.slice ao p.length cap] 25)).alloc (.cells #[.int .i64 o.kind, .int .i64 o.thread, .int .i64 o.at_, .slice sao xs.length scp, .int .i64 v0, .int .i64 v1, .int .i64 v2, .int .i64 v3, .slice gao gn gc] 37)).heap[w.heap.size]? = some (.cells #[.slice ao p.length cap] 25 (0, 0)) := by
    rw [Below.heap_alloc _ _ _ (by simp)]; exact heap_alloc_new _ _
  have hRb : ((w.alloc (.cells #[.slice ao p.length cap] 25)).alloc (.cells #[.int .i64 o.kind, .int .i64 o.thread, .int .i64 o.at_, .slice sao xs.length scp, .int .i64 v0, .int .i64 v1, .int .i64 v2, .int .i64 v3, .slice gao gn gc] 37)).heap[w.heap.size + 1]? = some (.cells #[.int .i64 o.kind, .int .i64 o.thread, .int .i64 o.at_, .slice sao xs.length scp, .int .i64 v0, .int .i64 v1, .int .i64 v2, .int .i64 v3, .slice gao gn gc] 37 (0, 0)) := by
    have := heap_alloc_new (w.alloc (.cells #[.slice ao p.length cap] 25)) (.cells #[.int .i64 o.kind, .int .i64 o.thread, .int .i64 o.at_, .slice sao xs.length scp, .int .i64 v0, .int .i64 v1, .int .i64 v2, .int .i64 v3, .slice gao gn gc] 37)
    simpa using this
  have hsz1 : ((w.alloc (.cells #[.slice ao p.length cap] 25)).alloc (.cells #[.int .i64 o.kind, .int .i64 o.thread, .int .i64 o.at_, .slice sao xs.length scp, .int .i64 v0, .int .i64 v1, .int .i64 v2, .int .i64 v3, .slice gao gn gc] 37)).heap.size = w.heap.size + 2 := by simp
  generalize (w.alloc (.cells #[.slice ao p.length cap] 25)).alloc (.cells #[.int .i64 o.kind, .int .i64 o.thread, .int .i64 o.at_, .slice sao xs.length scp, .int .i64 v0, .int .i64 v1, .int .i64 v2, .int .i64 v3, .slice gao gn gc] 37) = w1 at *
  have HPB := hide hPb
  have HRB := hide hRb
  have HB0 := hide hB0
  have r3 : w1.cell? ⟨w.heap.size + 1, 3, none⟩ = some (.slice sao xs.length scp) := by simp [World.cell?, hRb]
  clear hPb hRb hB0
  go_upto_region 2 with (at_make; refine wpList_make_full _ rfl _ _ _ rfl w1.heap.size 187 i0 _ 2 Tryd.underlying183 hi0 hz0 hz1 .i64 .i64 _ _ xs.length rfl rfl rfl rfl (by rw [hz2]; omega) (by unfold maxLen; omega) (by simp) ?_; intro w2 hown2 hg2)
  have hrow2 : w2.heap[w1.heap.size]? = some (.cells (List.replicate (xs.length * 2) (Value.int .i64 0)).toArray 187 (0, 0)) := by
    rcases hown2.2 with ⟨e, _⟩ | ⟨g', cap', cur, hv, _, hh, _, _, hcs, htk⟩
    · cases e
    · simp only [Value.slice.injEq, Option.some.injEq, Addr.mk.injEq, true_and, and_true] at hv
      obtain ⟨rfl, rfl⟩ := hv
      rw [hh]
      have e1 : cur.toList = List.replicate (xs.length * 2) (Value.int .i64 0) := by
        rw [← made_two]
        simp only [Value.cells] at htk
        rw [← htk, List.take_of_length_le (by simp; omega)]
      rw [← e1]
  have hs2 : w1.heap.size < w2.heap.size := (Array.getElem?_eq_some_iff.1 hrow2).1
  have HG2 : Hid (w1.grownBy w2 none) := hg2
  have HR2 := hide hrow2
  rw [hsz1] at hs2 HR2
  clear hown2 hg2 hrow2
  have hmm := @run_makeMap Tryd.prog
  have r4 : w2.cell? ⟨w.heap.size + 1, 3, none⟩ = some (.slice sao xs.length scp) := pres_grown HG2.out _ _ r3
  go_upto_region 4 with fail
  have H0 : Hid (PlIn p xs w1 (w2.alloc (.map #[] 0)) (w.heap.size + 2) w2.heap.size 0 0) := by
    refine ⟨?_, ?_, rfl, fun k hk => ?_, ?_, HG2.out.os, HG2.out.tape, HG2.out.output⟩
    · rw [Below.heap_alloc _ _ _ hs2]
      simpa [tl, flatK, flatS] using HR2.out
    · have e : histOf p (tl (depE p) [] (xs.take 0)) = fun _ => 0 := by funext u; simp [tl, histOf]
      rw [e]
      have := HistAt.made w2
      simpa using this
    · rw [Below.heap_alloc _ _ _ (by have := HG2.out.size; omega)]
      exact HG2.out.block k hk (by simp)
    · have := HG2.out.size; simp; omega
  obtain ⟨gm, hgm⟩ : ∃ gm, gm = w2.heap.size := ⟨_, rfl⟩
  obtain ⟨gl, hgl⟩ : ∃ gl, gl = w.heap.size + 2 := ⟨_, rfl⟩
  have HGL : Hid (gl = w1.heap.size ∧ w1.heap.size = w.heap.size + 2 ∧ gl < gm) := ⟨by omega, hsz1, by omega⟩
  rw [← hgm, ← hgl] at H0 ⊢
  clear hgm hgl hmm hs2 HR2 hsz1
  go_wp2_with fail
  go_loopw [7, 20] (fun hv iv w' => ∃ (i h : Nat), i ≤ xs.length ∧ iv = .int .i64 i ∧ hv = .int .i64 h ∧ Hid (PlIn p xs w1 w' gl gm i h)) (fun _ iv _ => xs.length - (intOf iv).toNat)
  case atStart => exact ⟨0, 0, Nat.zero_le _, rfl, rfl, H0⟩
  case round =>
    clear H0 r3 r4
    obtain ⟨i, h, hi, rfl, rfl, HI⟩ := hrel
    obtain ⟨w5, hw5⟩ : ∃ w5, w5 = wr := ⟨_, rfl⟩
    rw [← hw5] at HI ⊢
    clear hw5
    have HPr : Hid (∀ a v, w1.cell? a = some v → w5.cell? a = some v) := fun a v hc => by
      rw [World.cell?_of_block (HI.out.gr a.block (World.block_lt_of_cell? w1 _ hc))]; exact hc
    by_cases hlt : i < xs.length
    · have hmem := List.getElem_mem hlt
      obtain ⟨ht, hk0, hk1⟩ := HSt.out.th _ hmem
      obtain ⟨g, rfl, s0, s1⟩ := steps_at HR.out HSt.out.st hlt
      obtain ⟨kn, hkn⟩ := Int.eq_ofNat_of_zero_le hk0
      have hkl : kn < (codeOf p xs[i].t).length := by omega
      obtain ⟨pg, po, ca, cc, cg, co, rfl, rfl, m0, m1, m2, m3, m4⟩ := ins_at HP.out ht hkl
      have hvi := vProg_ins HV.out ht (k := (kn : Int)) (by simpa using hkl)
      obtain ⟨ha0, ha1, hb0, hb1⟩ := vIns_ab hvi
      obtain ⟨hsm, hul⟩ := uses_small (t := xs[i].t) (i := insAt p xs[i].t kn) (by omega) ha1 hb1
      have HUE : Hid (usesE p xs[i] = usesI xs[i].t (insAt p xs[i].t kn)) := by unfold Hid usesE; rw [hkn]
      have HLN := hide (lay_next HSt.out hlt)
      rw [HUE.out] at HLN
      have HKN := hide (keys_next (p := p) hlt)
      have hpb := HPB.out
      have hrb := HRB.out
      have up : ∀ a v, w.cell? a = some v → w5.cell? a = some v := fun a v hc => HPr.out _ _ (pres_grown HB0.out _ _ hc)
      have s0' := up _ _ s0
      have s1' := up _ _ s1
      have m0' := up _ _ m0
      have m1' := up _ _ m1
      have m2' := up _ _ m2
      have m3' := up _ _ m3
      have m4' := up _ _ m4
      rw [hkn] at s1'
      have n0 : w5.cell? ⟨w.heap.size, 0, none⟩ = some (.slice (some ⟨pg, po, none⟩) p.length cap) := HPr.out _ _ (by simp [World.cell?, hpb])
      have n1 : w5.cell? ⟨w.heap.size + 1, 0, none⟩ = some (.int .i64 o.kind) := HPr.out _ _ (by simp [World.cell?, hrb])
      have n3 : w5.cell? ⟨w.heap.size + 1, 3, none⟩ = some (.slice (some ⟨g, 0, none⟩) xs.length scp) := HPr.out _ _ (by simp [World.cell?, hrb])
      have HUO := hide (fun u : World => usesOf_m xs[i].t (insAt p xs[i].t kn) u ha0 hb0)
      have HTB : Hid (xs[i].t < 4) := by unfold Hid; omega
      have hcl : (codeOf p xs[i].t).length ≤ 16 := vCode_len (vProg_code HV.out ht)
      clear s0 s1 m0 m1 m2 m3 m4 hvi hpb hrb up hk0 hk1 hmem ha0 ha1 hb0 hb1
      generalize hix : insAt p xs[i].t (kn : Int) = ix at *
      generalize hcx : (codeOf p xs[i].t).length = cl at *
      generalize hus : usesI xs[i].t ix = us at *
      generalize hxi : xs[i] = x at *
      obtain ⟨xt, xk, xb⟩ := x
      simp only at *
      clear hix hcx hus
      have t0 : (0 : Int) ≤ (i : Int) := by omega
      have t1 : (i : Int) < xs.length := by omega
      have t2 : (0 : Int) ≤ (xt : Int) := by omega
      have t3 : (xt : Int) < p.length := by omega
      have t4 : (0 : Int) ≤ (kn : Int) := by omega
      have t5 : (kn : Int) < cl := by omega
      go_upto_region 7 with fail
      have hX := heap_alloc_new w5 (.cells #[.int .i64 (xt : Int), .int .i64 (kn : Int)] 48)
      have hg6 : w5.grownBy (w5.alloc (.cells #[.int .i64 (xt : Int), .int .i64 (kn : Int)] 48)) none := grown_alloc (grown_refl _ _)
      have hs6 : (w5.alloc (.cells #[.int .i64 (xt : Int), .int .i64 (kn : Int)] 48)).heap.size = w5.heap.size + 1 := by simp
      generalize w5.alloc (.cells #[.int .i64 (xt : Int), .int .i64 (kn : Int)] 48) = w6 at *
      have b0 : w6.cell? ⟨w5.heap.size, 0, none⟩ = some (.int .i64 (xt : Int)) := by simp only [World.cell?, hX]; rfl
      have b1 : w6.cell? ⟨w5.heap.size, 1, none⟩ = some (.int .i64 (kn : Int)) := by simp only [World.cell?, hX]; rfl
      have HX6 := hide hX
      have HG6 := hide hg6
      have HS6 := hide hs6
      have hHeld0 : w6.drew.cell? ⟨w5.heap.size, 0, none⟩ = some (.int .i64 (xt : Int)) ∧ w6.drew.cell? ⟨w5.heap.size, 1, none⟩ = some (.int .i64 (kn : Int)) ∧ w6.drew.cell? ⟨w.heap.size, 0, none⟩ = some (.slice (some ⟨pg, po, none⟩) p.length cap) ∧ w6.drew.cell? ⟨pg, po + xt, none⟩ = some (.slice (some ⟨cg, co, none⟩) cl cc) ∧ w6.drew.cell? ⟨cg, co + kn * 4, none⟩ = some (.int .i64 ix.op) ∧ w6.drew.cell? ⟨cg, co + kn * 4 + 1, none⟩ = some (.int .i64 ix.a) ∧ w6.drew.cell? ⟨cg, co + kn * 4 + 2, none⟩ = some (.int .i64 ix.b) ∧ w6.drew.cell? ⟨cg, co + kn * 4 + 3, none⟩ = some (.int .i64 ix.n) :=
        ⟨b0, b1, pres_grown hg6 _ _ n0, pres_grown hg6 _ _ m0', pres_grown hg6 _ _ m1', pres_grown hg6 _ _ m2', pres_grown hg6 _ _ m3', pres_grown hg6 _ _ m4'⟩
      clear hX hs6 hg6 b0 b1
      refine wp_region_head (fun u => u.cell? ⟨w5.heap.size, 0, none⟩ = some (.int .i64 (xt : Int)) ∧ u.cell? ⟨w5.heap.size, 1, none⟩ = some (.int .i64 (kn : Int)) ∧ u.cell? ⟨w.heap.size, 0, none⟩ = some (.slice (some ⟨pg, po, none⟩) p.length cap) ∧ u.cell? ⟨pg, po + xt, none⟩ = some (.slice (some ⟨cg, co, none⟩) cl cc) ∧ u.cell? ⟨cg, co + kn * 4, none⟩ = some (.int .i64 ix.op) ∧ u.cell? ⟨cg, co + kn * 4 + 1, none⟩ = some (.int .i64 ix.a) ∧ u.cell? ⟨cg, co + kn * 4 + 2, none⟩ = some (.int .i64 ix.b) ∧ u.cell? ⟨cg, co + kn * 4 + 3, none⟩ = some (.int .i64 ix.n)) 13 (by kernel_rfl) (by kernel_rfl) hHeld0 ?_
      intro hHeld
      refine wpHead_take (i := 0) (v := ?vva0) rfl (by kernel_rfl) (fun _ _ _ h => h) (Or.inl ⟨by rfl, ?hya0⟩) hHeld ?resta0
      case hya0 => (rintro u ⟨hu0, hu1, hu2, hu3, hu4, hu5, hu6, hu7⟩; go_simp; try with_reducible rfl)
      simp only [Act.put, List.setIfInBounds_toArray]
      refine wpHead_take (i := 1) (v := ?vva1) rfl (by kernel_rfl) (fun _ _ _ h => h) (Or.inl ⟨by rfl, ?hya1⟩) hHeld ?resta1
      case hya1 => (rintro u ⟨hu0, hu1, hu2, hu3, hu4, hu5, hu6, hu7⟩; go_simp; try with_reducible rfl)
      simp only [Act.put]
      refine wpHead_take (i := 2) (v := ?vva2) rfl (by kernel_rfl) (fun _ _ _ h => h) (Or.inl ⟨by rfl, ?hya2⟩) hHeld ?resta2
      case hya2 => (rintro u ⟨hu0, hu1, hu2, hu3, hu4, hu5, hu6, hu7⟩; go_simp; try with_reducible rfl)
      simp only [Act.put]
      refine wpHead_take (i := 3) (v := ?vva3) rfl (by kernel_rfl) (fun _ _ _ h => h) (Or.inl ⟨by rfl, ?hya3⟩) hHeld ?resta3
      case hya3 => (rintro u ⟨hu0, hu1, hu2, hu3, hu4, hu5, hu6, hu7⟩; go_simp; try with_reducible rfl)
      simp only [Act.put]
      refine wpHead_take (i := 4) (v := ?vva4) rfl (by kernel_rfl) (fun _ _ _ h => h) (Or.inl ⟨by rfl, ?hya4⟩) hHeld ?resta4
      case hya4 => (rintro u ⟨hu0, hu1, hu2, hu3, hu4, hu5, hu6, hu7⟩; go_simp; try with_reducible rfl)
      simp only [Act.put]
      refine wpHead_take (i := 5) (v := ?vva5) rfl (by kernel_rfl) (fun _ _ _ h => h) (Or.inl ⟨by rfl, ?hya5⟩) hHeld ?resta5
      case hya5 => (rintro u ⟨hu0, hu1, hu2, hu3, hu4, hu5, hu6, hu7⟩; go_simp; try with_reducible rfl)
      simp only [Act.put]
      refine wpHead_take (i := 6) (v := ?vva6) rfl (by kernel_rfl) (fun _ _ _ h => h) (Or.inl ⟨by rfl, ?hya6⟩) hHeld ?resta6
      case hya6 => (rintro u ⟨hu0, hu1, hu2, hu3, hu4, hu5, hu6, hu7⟩; go_simp; try with_reducible rfl)
      simp only [Act.put]
      refine wpHead_take (i := 7) (v := ?vva7) rfl (by kernel_rfl) (fun _ _ _ h => h) (Or.inl ⟨by rfl, ?hya7⟩) hHeld ?resta7
      case hya7 => (rintro u ⟨hu0, hu1, hu2, hu3, hu4, hu5, hu6, hu7⟩; go_simp; try with_reducible rfl)
      simp only [Act.put]
      refine wpHead_take (i := 8) (v := ?vva8) rfl (by kernel_rfl) (fun _ _ _ h => h) (Or.inl ⟨by rfl, ?hya8⟩) hHeld ?resta8
      case hya8 => (rintro u ⟨hu0, hu1, hu2, hu3, hu4, hu5, hu6, hu7⟩; go_simp; try with_reducible rfl)
      simp only [Act.put]
      refine wpHead_take (i := 9) (v := ?vva9) rfl (by kernel_rfl) (fun _ _ _ h => h) (Or.inl ⟨by rfl, ?hya9⟩) hHeld ?resta9
      case hya9 => (rintro u ⟨hu0, hu1, hu2, hu3, hu4, hu5, hu6, hu7⟩; go_simp; try with_reducible rfl)
      simp only [Act.put]
      refine wpHead_take (i := 10) (v := ?vva10) rfl (by kernel_rfl) (fun _ _ _ h => h) (Or.inl ⟨by rfl, ?hya10⟩) hHeld ?resta10
      case hya10 => (rintro u ⟨hu0, hu1, hu2, hu3, hu4, hu5, hu6, hu7⟩; go_simp; try with_reducible rfl)
      simp only [Act.put]
      refine wpHead_take (i := 11) (v := ?vva11) rfl (by kernel_rfl) (fun _ _ _ h => h) (Or.inl ⟨by rfl, ?hya11⟩) hHeld ?resta11
      case hya11 => (rintro u ⟨hu0, hu1, hu2, hu3, hu4, hu5, hu6, hu7⟩; go_simp; try with_reducible rfl)
      simp only [Act.put]
      refine wpHead_alone (i := 12) rfl (by kernel_rfl) (by kernel_rfl) (by rfl) ?_
      intro K12 hK12
      have HK12 := hide hK12
      clear hK12
      go_simp
      refine (HUO.out _).mono ?_
      rintro e w7 ⟨uv, rfl, hU7, hg7⟩
      have HG67 : Hid (w6.grownBy w7 none) := ⟨hg7.os, hg7.tape, hg7.output, hg7.size, hg7.block⟩
      refine HK12.out _ _ ⟨pres_grown hg7 _ _ hHeld.1, pres_grown hg7 _ _ hHeld.2.1, pres_grown hg7 _ _ hHeld.2.2.1, pres_grown hg7 _ _ hHeld.2.2.2.1, pres_grown hg7 _ _ hHeld.2.2.2.2.1, pres_grown hg7 _ _ hHeld.2.2.2.2.2.1, pres_grown hg7 _ _ hHeld.2.2.2.2.2.2.1, pres_grown hg7 _ _ hHeld.2.2.2.2.2.2.2⟩ ?_
      clear HK12 hg7 hHeld hHeld0 HUO
      try simp only [Act.put, List.setIfInBounds_toArray]
      refine wpHead_last rfl (by kernel_rfl) (by kernel_rfl) (by rfl) ?_
      go_simp
      have hul2 : us.length ≤ 10 := hul
      have HU7 := hide hU7
      have HG57 : Hid (w5.grownBy w7 none) := grown_trans HG6.out HG67.out
      have HH7 : Hid (HistAt w7 gm (i * 10) (histOf p (tl (depE p) [] (xs.take i)))) := HI.out.his.kept HG57.out
      have hFb : ∀ u, histOf p (tl (depE p) [] (xs.take i)) u ≤ 1000 := fun u => by have := histOf_le p (xs.take i) u; simp at this; omega
      have HFb := hide hFb
      have HSM := hide hsm
      have hhi : h ≤ 500 := by rw [HI.out.hgh]; have := highOf_le p (xs.take i); simp at this; omega
      have HLB : Hid (layIn (depE p) (tl (depE p) [] (xs.take i)) ⟨xt, xk, xb⟩ ≤ 500) := by
        unfold Hid; have := lay_le p (xs.take i) ⟨xt, xk, xb⟩; simp at this; omega
      have HAB : Hid (aheadS (histOf p (tl (depE p) [] (xs.take i))) us 0 ≤ 1000) := aheadS_small _ hFb us 0 (by omega)
      have n1' := pres_grown HG57.out _ _ n1
      have n3' := pres_grown HG57.out _ _ n3
      clear hU7 hsm hul hFb n0 n1 n3 m0' m1' m2' m3' m4' s0' s1'
      obtain ⟨ug, uc, hue⟩ : ∃ ug uc, uv = .slice (some ⟨ug, 0, none⟩) us.length uc := by
        obtain ⟨ug, uc, e, _⟩ := HU7.out; exact ⟨ug, uc, e⟩
      subst hue
      go_wp2_with fail
      refine (ahead_m HH7.out HFb.out us HSM.out _ HU7.out hul2).mono ?_
      rintro e w8 ⟨rfl, hg8⟩
      have HG78 := hide hg8
      have k1 := pres_grown hg8 _ _ n1'
      have k3 := pres_grown hg8 _ _ n3'
      clear hg8 n1' n3'
      generalize hlx : layIn (depE p) (tl (depE p) [] (xs.take i)) ⟨xt, xk, xb⟩ = lx at *
      generalize hah : aheadS (histOf p (tl (depE p) [] (xs.take i))) us 0 = ah at *
      have HLX := hide hlx
      have HHG := hide HI.out.hgh
      rw [← HHG.out] at HLN
      have hah0 : (ah : Int) ≤ 1000 := by have := HAB.out; omega
      clear hlx hah
      go_upto_region 9 with fail
      obtain ⟨bl, hbl⟩ : ∃ bl : Bool, bl = decide (o.kind = 1 ∧ i + 1 = xs.length) := ⟨_, rfl⟩
      have HBL := hide hbl
      clear hbl
      go_cut [52] (fun q w' => q = .bool bl ∧ w' = w8)
      case first =>
        by_cases e1 : i + 1 = xs.length
        · have e3 : (xs.length : Int) - 1 = (i : Int) := by omega
          by_cases e2 : o.kind = 1
          · have hb : bl = true := by rw [HBL.out]; simp [e1, e2]
            rw [e2] at k1
            go_wp2_with fail
            all_goals first | (go_meet; exact ⟨by rw [hb], rfl⟩) | (exfalso; omega)
          · have hb : bl = false := by rw [HBL.out]; simp [e2]
            have hb2 : (o.kind == 1) = false := by simpa using e2
            go_wp2_with fail
            all_goals first | (go_meet; exact ⟨by rw [hb], rfl⟩) | (exfalso; omega)
        · have hb : bl = false := by rw [HBL.out]; simp [e1]
          have e3 : (i : Int) < (xs.length : Int) - 1 := by omega
          have e4 : ((i : Int) == (xs.length : Int) - 1) = false := by simp; omega
          go_wp2_with fail
          all_goals first | (go_meet; exact ⟨by rw [hb], rfl⟩) | (exfalso; omega)
      case rest =>
      obtain ⟨rfl, hwc⟩ := hcut
      have hwc2 := hwc.symm
      subst hwc2
      go_upto_if 52 with fail
      go_cut [11] (fun q w' => q = .int .i64 (lx : Int) ∧ w' = w8)
      case first =>
        cases bl with
        | true =>
          have hl : lx = h := by rw [HLN.out, if_pos (by have := HBL.out.symm; simpa using this)]
          go_wp2_with fail
          go_meet
          exact ⟨by rw [hl], rfl⟩
        | false =>
          have hl : lx = ah := by rw [HLN.out, if_neg (by have := HBL.out.symm; simpa using this)]
          go_wp2_with fail
          go_meet
          exact ⟨by rw [hl], rfl⟩
      case rest =>
      obtain ⟨rfl, hwc⟩ := hcut
      have hwc2 := hwc.symm
      subst hwc2
      clear HLN HBL
      have hlx9 : lx ≤ 900 := by have := HLB.out; omega
      have hlx' : (lx : Int) ≤ 900 := by omega
      have hlx0 : (0 : Int) ≤ (lx : Int) := by omega
      have hh' : (h : Int) ≤ 500 := by omega
      have hh0 : (0 : Int) ≤ (h : Int) := by omega
      have HH8 : Hid (HistAt w8 gm (i * 10) (histOf p (tl (depE p) [] (xs.take i)))) := HH7.out.kept HG78.out
      have HU8 : Hid (UsesAt w8 (.slice (some ⟨ug, 0, none⟩) us.length uc) us) := HU7.out.grown HG78.out
      have HG58 : Hid (w5.grownBy w8 none) := grown_trans HG57.out HG78.out
      go_wp2_with fail
      refine (enter_m HH8.out HFb.out (by omega) us HSM.out _ HU8.out hul2 lx hlx9).mono ?_
      rintro e w9 ⟨⟨rv9, rfl⟩, hH9, hg9⟩
      have hgm5 : gm < w5.heap.size := HI.out.his.lt
      have hX9 : w9.heap[w5.heap.size]? = some (.cells #[.int .i64 (xt : Int), .int .i64 (kn : Int)] 48 (0, 0)) := by
        have h68 := grown_trans HG67.out HG78.out
        have hs := HS6.out
        rw [hg9.block _ (by have := h68.size; omega) (by simp; omega), h68.block _ (by omega) (by simp)]; exact HX6.out
      have hr9 : w9.heap[gl]? = some (.cells (flatK ((tl (depE p) [] (xs.take i)).map keyE) ++ List.replicate ((xs.length - i) * 2) (Value.int .i64 0)).toArray 187 (0, 0)) := by
        have hlt5 := (Array.getElem?_eq_some_iff.1 HI.out.row).1
        rw [hg9.block _ (by have := HG58.out.size; omega) (by have := HGL.out; simp; omega), HG58.out.block _ hlt5 (by simp)]; exact HI.out.row
      have HR9 := hide hr9
      have y0 : w9.cell? ⟨w5.heap.size, 0, none⟩ = some (.int .i64 (xt : Int)) := by simp [World.cell?, hX9]
      obtain ⟨R, hR⟩ : ∃ R : List Value, R = flatK ((tl (depE p) [] (xs.take i)).map keyE) ++ List.replicate ((xs.length - i) * 2) (Value.int .i64 0) := ⟨_, rfl⟩
      have hkl2 : (flatK ((tl (depE p) [] (xs.take i)).map keyE)).length = i * 2 := by
        rw [flatK_len, List.length_map, tl_length]; simp; omega
      have hRl : R.length = xs.length * 2 := by rw [hR, List.length_append, hkl2, List.length_replicate]; omega
      rw [← hR] at hr9
      obtain ⟨z0, hz0'⟩ : ∃ z, w9.cell? ⟨gl, i * 2, none⟩ = some z := ⟨R[i * 2]'(by omega), by simp only [World.cell?, hr9]; simp⟩
      obtain ⟨z1, hz1'⟩ : ∃ z, (w9.setCell ⟨gl, i * 2, none⟩ (.int .i64 (lx : Int))).cell? ⟨gl, i * 2 + 1, none⟩ = some z := by
        have hr10 := heap_setCell_same w9 gl (i * 2) _ _ (.int .i64 (lx : Int)) hr9
        exact ⟨_, by simp only [World.cell?, hr10]; exact Array.getElem?_eq_getElem (by simp; omega)⟩
      have fz0 : w9.frozen? ⟨gl, i * 2, none⟩ = false := by simp [World.frozen?, hr9]
      have fz1 : (w9.setCell ⟨gl, i * 2, none⟩ (.int .i64 (lx : Int))).frozen? ⟨gl, i * 2 + 1, none⟩ = false := by
        have hr10 := heap_setCell_same w9 gl (i * 2) _ _ (.int .i64 (lx : Int)) hr9
        simp [World.frozen?, hr10]
      have HFIN : Hid (PlIn p xs w1 ((w9.setCell ⟨gl, i * 2, none⟩ (.int .i64 (lx : Int))).setCell ⟨gl, i * 2 + 1, none⟩ (.int .i64 (xt : Int))) gl gm (i + 1) (max h (lx + 1))) := by
        have hkn' := HKN.out
        have hg10 : w9.grownBy ((w9.setCell ⟨gl, i * 2, none⟩ (.int .i64 (lx : Int))).setCell ⟨gl, i * 2 + 1, none⟩ (.int .i64 (xt : Int))) (some gl) := grown_trans grown_cell grown_cell
        have hlo := HGL.out
        have hs5 := HI.out.sz
        refine ⟨?_, ?_, ?_, fun k hk => ?_, ?_, ?_⟩
        · have hr10 := heap_setCell_same w9 gl (i * 2) _ _ (.int .i64 (lx : Int)) HR9.out
          have hr11 := heap_setCell_same _ gl (i * 2 + 1) _ _ (.int .i64 (xt : Int)) hr10
          rw [hr11]
          simp only [List.setIfInBounds_toArray]
          rw [row_set2 _ _ _ i xs.length hkl2 hlt, hkn', List.map_append, List.map_cons, List.map_nil, flatK_snoc]
          rfl
        · have h9 := (hH9.keptRow hg10 (by omega)).mono (n' := (i + 1) * 10) (by omega)
          have e : enterF (lx + 1) us (histOf p (tl (depE p) [] (xs.take i))) = histOf p (tl (depE p) [] (xs.take (i + 1))) := by
            funext u
            rw [enterF_eq, hkn', histOf_snoc, HUE.out]
          rw [e] at h9; exact h9
        · rw [hkn', highOf_snoc, ← HHG.out]
        · rw [hg10.block k (by have := hg9.size; have := HG58.out.size; omega) (by simp; omega), hg9.block k (by have := HG58.out.size; omega) (by simp; omega), HG58.out.block k (by omega) (by simp)]
          exact HI.out.gr k hk
        · have h1 := hg10.size
          have h2 := hg9.size
          have h3 := HG58.out.size
          omega
        · exact ⟨hg10.os.trans (hg9.os.trans (HG58.out.os.trans HI.out.os.1)), hg10.tape.trans (hg9.tape.trans (HG58.out.tape.trans HI.out.os.2.1)), hg10.output.trans (hg9.output.trans (HG58.out.output.trans HI.out.os.2.2))⟩
      have hne : gl ≠ w5.heap.size := by have := (Array.getElem?_eq_some_iff.1 HI.out.row).1; omega
      clear hr9 hX9 hR hRl hkl2 hH9 hg9 HH8 HU8 k1 k3 HH7 HU7
      go_wp2_with fail
      go_roundw
      case rel => exact ⟨i + 1, max h (lx + 1), by omega, by go_num, by congr 1; (repeat' split) <;> omega, HFIN⟩
      case measure => simp [intOf]; omega
    · have t1 : (xs.length : Int) ≤ (i : Int) := by omega
      have ei : i = xs.length := by omega
      have HRf : Hid (w5.heap[gl]? = some (.cells (flatK (keysE p xs)).toArray 187 (0, 0))) := by
        have := HI.out.row
        rw [ei, List.take_length, Nat.sub_self] at this
        unfold Hid keysE
        simpa using this
      have HGf : Hid (w.grownBy w5 none) := by
        have hlo := HGL.out
        refine ⟨HI.out.os.1.trans HB0.out.os, HI.out.os.2.1.trans HB0.out.tape, HI.out.os.2.2.trans HB0.out.output, Nat.le_trans HB0.out.size HI.out.sz, fun k hk _ => ?_⟩
        rw [HI.out.gr k (Nat.lt_of_lt_of_le hk HB0.out.size)]
        exact HB0.out.block k hk (by simp)
      have hlo : w.heap.size ≤ gl := by have := HGL.out; omega
      go_wp2_with fail
      go_ret
      exact ⟨gl, rfl, hlo, HRf.out, HGf.out⟩

end Go.Proofs.YtklenjmfalljgaaDoor

/- The walks of cmp.Compare, cmp.Or and compare. -/
namespace Go.Proofs.YtklenjmfalljgaaDoor
open Go.RowKit
attribute [local go_sem] Go.World.cell?_alloc_some

theorem three_laid (W : World) (a b c : Obj) : ((W.alloc a).alloc b).drew.alloc c = Sort.grow (W.drewN 1) #[a, b, c] := by
  have d : ∀ (w : World) os, (Sort.grow w os).drew = Sort.grow w.drew os := fun _ _ => rfl
  rw [Sort.alloc_eq_grow W a, Sort.alloc_eq_grow _ b, Sort.grow_grow, d, Sort.alloc_eq_grow _ c, Sort.grow_grow]
  rfl
def cmpI (x y : Int) : Int := if x < y then -1 else if y < x then 1 else 0
def orI (x y : Int) : Int := if x = 0 then y else x
def cmpP (x y : Int × Int) : Int := orI (cmpI x.1 y.1) (cmpI x.2 y.2)

theorem isNaN_m (x : Int) (w : World) : Calls Tryd.prog 182 #[.int .i64 x] w fun e w' => e = .returned (.bool false) ∧ w' = w := by
  go_enter Tryd.func182, Tryd.ntmps182
  go_wp2
  go_ret
  exact ⟨rfl, rfl⟩

set_option maxHeartbeats 1000000 in
theorem cmpCompare_m (x y : Int) (w : World) : Calls Tryd.prog 143 #[.int .i64 x, .int .i64 y] w fun e w' => e = .returned (.int .i64 (cmpI x y)) ∧ w' = w := by
  by_cases h1 : x < y
  · have HE : Hid (cmpI x y = -1) := by unfold Hid cmpI; simp [h1]
    go_enter Tryd.func143, Tryd.ntmps143
    go_wp2_with (go_at_call 182; refine (isNaN_m _ _).mono ?_; rintro e w' ⟨rfl, rfl⟩)
    go_ret
    exact ⟨by rw [HE.out]; rfl, rfl⟩
  · by_cases h2 : y < x
    · have HE : Hid (cmpI x y = 1) := by unfold Hid cmpI; simp [h1, h2]
      go_enter Tryd.func143, Tryd.ntmps143
      go_wp2_with (go_at_call 182; refine (isNaN_m _ _).mono ?_; rintro e w' ⟨rfl, rfl⟩)
      go_ret
      exact ⟨by rw [HE.out]; rfl, rfl⟩
    · have HE : Hid (cmpI x y = 0) := by unfold Hid cmpI; simp [h1, h2]
      have h3 : x ≤ y := by omega
      have h4 : y ≤ x := by omega
      go_enter Tryd.func143, Tryd.ntmps143
      go_wp2_with (go_at_call 182; refine (isNaN_m _ _).mono ?_; rintro e w' ⟨rfl, rfl⟩)
      go_ret
      exact ⟨by rw [HE.out]; rfl, rfl⟩

set_option maxHeartbeats 1000000 in
theorem cmpOr_m (x y : Int) (g : Nat) (w : World) (h0 : w.cell? ⟨g, 0, none⟩ = some (.int .i64 x)) (h1 : w.cell? ⟨g, 1, none⟩ = some (.int .i64 y)) :
    Calls Tryd.prog 142 #[.slice (some ⟨g, 0, none⟩) 2 2] w fun e w' => e = .returned (.int .i64 (orI x y)) ∧ w' = w := by
  have HA := hide h0
  have HB := hide h1
  go_enter Tryd.func142, Tryd.ntmps142
  go_wp2_with fail
  go_loopw [8] (fun i w' => ∃ k : Nat, k ≤ 2 ∧ i = .int .i64 k ∧ Hid (w' = w) ∧ Hid ((0 < k → x = 0) ∧ (1 < k → y = 0))) (fun i _ => 2 - (intOf i).toNat)
  case atStart => exact ⟨0, by omega, rfl, rfl, by omega, by omega⟩
  case round =>
    obtain ⟨k, hk, rfl, HW, HZ⟩ := hrel
    obtain rfl := HW.out.symm
    clear HW
    rcases (by omega : k = 0 ∨ k = 1 ∨ k = 2) with rfl | rfl | rfl
    · by_cases hx : x = 0
      · subst hx
        go_wp2_with fail
        go_roundw
        case rel => exact ⟨1, by omega, by go_num, (by first | exact trivial | rfl), by unfold Hid; simp⟩
        case measure => simp [intOf]
      · have hb : (x != 0) = true := by simpa using hx
        have HE : Hid (orI x y = x) := by unfold Hid orI; rw [if_neg hx]
        clear hx
        go_wp2_with fail
        go_ret
        exact ⟨by rw [HE.out]; rfl, rfl⟩
    · have HE : Hid (orI x y = y) := by unfold Hid orI; rw [if_pos (HZ.out.1 (by omega))]
      by_cases hy : y = 0
      · subst hy
        have HX := hide (HZ.out.1 (by omega))
        go_wp2_with fail
        go_roundw
        case rel => exact ⟨2, by omega, by go_num, (by first | exact trivial | rfl), by unfold Hid; simp [HX.out]⟩
        case measure => simp [intOf]
      · have hb : (y != 0) = true := by simpa using hy
        clear hy
        go_wp2_with fail
        go_ret
        exact ⟨by rw [HE.out]; rfl, rfl⟩
    · have HE : Hid (orI x y = 0) := by unfold Hid orI; rw [if_pos (HZ.out.1 (by omega))]; exact HZ.out.2 (by omega)
      go_wp2_with fail
      go_ret
      exact ⟨by rw [HE.out]; rfl, rfl⟩

set_option maxHeartbeats 2000000 in
set_option maxRecDepth 100000 in
/-- compare, in whatever world: three blocks are laid. -/
theorem compare_m (x y : Int × Int) (W : World) :
    Calls Tryd.prog 103 #[.agg #[.int .i64 x.1, .int .i64 x.2], .agg #[.int .i64 y.1, .int .i64 y.2]] W fun e w' => e = .returned (.int .i64 (cmpP x y)) ∧ ∃ q os', w' = Sort.grow (W.drewN q) os' := by
  go_enter Tryd.func103, Tryd.ntmps103
  go_upto_region 1 with fail
  have HA := hide (heap_alloc_new W (.cells #[.int .i64 x.1, .int .i64 x.2] 187))
  have HB := hide (heap_alloc_new (W.alloc (.cells #[.int .i64 x.1, .int .i64 x.2] 187)) (.cells #[.int .i64 y.1, .int .i64 y.2] 187))
  have hsz : (W.alloc (.cells #[.int .i64 x.1, .int .i64 x.2] 187)).heap.size = W.heap.size + 1 := by simp
  rw [hsz] at HB
  have HA2 : Hid (((W.alloc (.cells #[.int .i64 x.1, .int .i64 x.2] 187)).alloc (.cells #[.int .i64 y.1, .int .i64 y.2] 187)).heap[W.heap.size]? = some (.cells #[.int .i64 x.1, .int .i64 x.2] 187 (0, 0))) := by
    unfold Hid; rw [Below.heap_alloc _ _ _ (by simp)]; exact HA.out
  have HEND : Hid (∀ c, ∃ q os', ((((W.alloc (.cells #[.int .i64 x.1, .int .i64 x.2] 187)).alloc (.cells #[.int .i64 y.1, .int .i64 y.2] 187)).drew).alloc c) = Sort.grow (W.drewN q) os') := fun c => by
    exact ⟨1, _, three_laid _ _ _ _⟩
  have hHeld0 : ((W.alloc (.cells #[.int .i64 x.1, .int .i64 x.2] 187)).alloc (.cells #[.int .i64 y.1, .int .i64 y.2] 187)).drew.cell? ⟨W.heap.size, 0, none⟩ = some (.int .i64 x.1) ∧ ((W.alloc (.cells #[.int .i64 x.1, .int .i64 x.2] 187)).alloc (.cells #[.int .i64 y.1, .int .i64 y.2] 187)).drew.cell? ⟨W.heap.size, 1, none⟩ = some (.int .i64 x.2) ∧ ((W.alloc (.cells #[.int .i64 x.1, .int .i64 x.2] 187)).alloc (.cells #[.int .i64 y.1, .int .i64 y.2] 187)).drew.cell? ⟨W.heap.size + 1, 0, none⟩ = some (.int .i64 y.1) ∧ ((W.alloc (.cells #[.int .i64 x.1, .int .i64 x.2] 187)).alloc (.cells #[.int .i64 y.1, .int .i64 y.2] 187)).drew.cell? ⟨W.heap.size + 1, 1, none⟩ = some (.int .i64 y.2) := by
    have ha : ((W.alloc (.cells #[.int .i64 x.1, .int .i64 x.2] 187)).alloc (.cells #[.int .i64 y.1, .int .i64 y.2] 187)).drew.heap[W.heap.size]? = some (.cells #[.int .i64 x.1, .int .i64 x.2] 187 (0, 0)) := HA2.out
    have hb : ((W.alloc (.cells #[.int .i64 x.1, .int .i64 x.2] 187)).alloc (.cells #[.int .i64 y.1, .int .i64 y.2] 187)).drew.heap[W.heap.size + 1]? = some (.cells #[.int .i64 y.1, .int .i64 y.2] 187 (0, 0)) := HB.out
    refine ⟨?_, ?_, ?_, ?_⟩
    · simp only [World.cell?, ha]; rfl
    · simp only [World.cell?, ha]; rfl
    · simp only [World.cell?, hb]; rfl
    · simp only [World.cell?, hb]; rfl
  generalize ((W.alloc (.cells #[.int .i64 x.1, .int .i64 x.2] 187)).alloc (.cells #[.int .i64 y.1, .int .i64 y.2] 187)) = w2 at *
  have HC0 : Hid ((w2.drew.alloc (.cells #[.int .i64 (cmpI x.1 y.1), .int .i64 (cmpI x.2 y.2)] 3)).cell? ⟨w2.heap.size, 0, none⟩ = some (.int .i64 (cmpI x.1 y.1))) := by
    have h := heap_alloc_new w2.drew (.cells #[.int .i64 (cmpI x.1 y.1), .int .i64 (cmpI x.2 y.2)] 3)
    unfold Hid
    have h2 : (w2.drew.alloc (.cells #[.int .i64 (cmpI x.1 y.1), .int .i64 (cmpI x.2 y.2)] 3)).heap[w2.heap.size]? = _ := h
    simp only [World.cell?, h2]; rfl
  have HC1 : Hid ((w2.drew.alloc (.cells #[.int .i64 (cmpI x.1 y.1), .int .i64 (cmpI x.2 y.2)] 3)).cell? ⟨w2.heap.size, 1, none⟩ = some (.int .i64 (cmpI x.2 y.2))) := by
    have h := heap_alloc_new w2.drew (.cells #[.int .i64 (cmpI x.1 y.1), .int .i64 (cmpI x.2 y.2)] 3)
    unfold Hid
    have h2 : (w2.drew.alloc (.cells #[.int .i64 (cmpI x.1 y.1), .int .i64 (cmpI x.2 y.2)] 3)).heap[w2.heap.size]? = _ := h
    simp only [World.cell?, h2]; rfl
  clear HA HB HA2 hsz
  refine wp_region_head (fun u => u.cell? ⟨W.heap.size, 0, none⟩ = some (.int .i64 x.1) ∧ u.cell? ⟨W.heap.size, 1, none⟩ = some (.int .i64 x.2) ∧ u.cell? ⟨W.heap.size + 1, 0, none⟩ = some (.int .i64 y.1) ∧ u.cell? ⟨W.heap.size + 1, 1, none⟩ = some (.int .i64 y.2)) 12 (by kernel_rfl) (by kernel_rfl) hHeld0 ?_
  intro hHeld
  refine wpHead_take (i := 0) (v := ?vva0) rfl (by kernel_rfl) (fun _ _ _ h => h) (Or.inl ⟨by rfl, ?hya0⟩) hHeld ?resta0
  case hya0 => (rintro u ⟨hu0, hu1, hu2, hu3⟩; go_simp; try with_reducible rfl)
  simp only [Act.put, List.setIfInBounds_toArray]
  refine wpHead_take (i := 1) (v := ?vva1) rfl (by kernel_rfl) (fun _ _ _ h => h) (Or.inl ⟨by rfl, ?hya1⟩) hHeld ?resta1
  case hya1 => (rintro u ⟨hu0, hu1, hu2, hu3⟩; go_simp; try with_reducible rfl)
  simp only [Act.put]
  refine wpHead_take (i := 2) (v := ?vva2) rfl (by kernel_rfl) (fun _ _ _ h => h) (Or.inl ⟨by rfl, ?hya2⟩) hHeld ?resta2
  case hya2 => (rintro u ⟨hu0, hu1, hu2, hu3⟩; go_simp; try with_reducible rfl)
  simp only [Act.put]
  refine wpHead_take (i := 3) (v := ?vva3) rfl (by kernel_rfl) (fun _ _ _ h => h) (Or.inl ⟨by rfl, ?hya3⟩) hHeld ?resta3
  case hya3 => (rintro u ⟨hu0, hu1, hu2, hu3⟩; go_simp; try with_reducible rfl)
  simp only [Act.put]
  refine wpHead_take (i := 5) (v := ?vva5) rfl (by kernel_rfl) (fun _ _ _ h => h) (Or.inl ⟨by rfl, ?hya5⟩) hHeld ?resta5
  case hya5 => (rintro u ⟨hu0, hu1, hu2, hu3⟩; go_simp; try with_reducible rfl)
  simp only [Act.put]
  refine wpHead_take (i := 6) (v := ?vva6) rfl (by kernel_rfl) (fun _ _ _ h => h) (Or.inl ⟨by rfl, ?hya6⟩) hHeld ?resta6
  case hya6 => (rintro u ⟨hu0, hu1, hu2, hu3⟩; go_simp; try with_reducible rfl)
  simp only [Act.put]
  refine wpHead_take (i := 7) (v := ?vva7) rfl (by kernel_rfl) (fun _ _ _ h => h) (Or.inl ⟨by rfl, ?hya7⟩) hHeld ?resta7
  case hya7 => (rintro u ⟨hu0, hu1, hu2, hu3⟩; go_simp; try with_reducible rfl)
  simp only [Act.put]
  refine wpHead_take (i := 8) (v := ?vva8) rfl (by kernel_rfl) (fun _ _ _ h => h) (Or.inl ⟨by rfl, ?hya8⟩) hHeld ?resta8
  case hya8 => (rintro u ⟨hu0, hu1, hu2, hu3⟩; go_simp; try with_reducible rfl)
  simp only [Act.put]
  refine wpHead_alone (i := 4) rfl (by kernel_rfl) (by kernel_rfl) (by rfl) ?_
  intro K4 hK4
  have HK4 := hide hK4
  clear hK4
  go_simp
  refine (cmpCompare_m x.1 y.1 _).mono ?_
  rintro e w4 ⟨rfl, hw4⟩
  obtain rfl := hw4.symm
  refine HK4.out _ _ hHeld ?_
  clear HK4
  try simp only [Act.put, List.setIfInBounds_toArray]
  refine wpHead_alone (i := 9) rfl (by kernel_rfl) (by kernel_rfl) (by rfl) ?_
  intro K9 hK9
  have HK9 := hide hK9
  clear hK9
  go_simp
  refine (cmpCompare_m x.2 y.2 _).mono ?_
  rintro e w9 ⟨rfl, hw9⟩
  obtain rfl := hw9.symm
  refine HK9.out _ _ hHeld ?_
  clear HK9
  try simp only [Act.put, List.setIfInBounds_toArray]
  refine wpHead_alone (i := 10) rfl (by kernel_rfl) (by kernel_rfl) (by rfl) ?_
  intro Kpa hKpa
  have HKpa := hide hKpa
  clear hKpa
  go_simp
  refine HKpa.out _ _ ⟨pres_grown (grown_alloc (grown_refl _ _)) _ _ hHeld.1, pres_grown (grown_alloc (grown_refl _ _)) _ _ hHeld.2.1, pres_grown (grown_alloc (grown_refl _ _)) _ _ hHeld.2.2.1, pres_grown (grown_alloc (grown_refl _ _)) _ _ hHeld.2.2.2⟩ ?_
  clear HKpa
  try simp only [Act.put, List.setIfInBounds_toArray]
  refine wpHead_alone (i := 11) rfl (by kernel_rfl) (by kernel_rfl) (by rfl) ?_
  intro Kpb hKpb
  have HKpb := hide hKpb
  clear hKpb
  go_simp
  refine (cmpOr_m (cmpI x.1 y.1) (cmpI x.2 y.2) _ _ (HC0.out) (HC1.out)).mono ?_
  rintro e wpb ⟨rfl, hwpb⟩
  obtain rfl := hwpb.symm
  refine HKpb.out _ _ ⟨pres_grown (grown_alloc (grown_refl _ _)) _ _ hHeld.1, pres_grown (grown_alloc (grown_refl _ _)) _ _ hHeld.2.1, pres_grown (grown_alloc (grown_refl _ _)) _ _ hHeld.2.2.1, pres_grown (grown_alloc (grown_refl _ _)) _ _ hHeld.2.2.2⟩ ?_
  clear HKpb
  try simp only [Act.put, List.setIfInBounds_toArray]
  refine wpHead_last rfl (by kernel_rfl) (by kernel_rfl) (by rfl) ?_
  go_simp
  go_wp2_with fail
  go_ret
  exact ⟨rfl, HEND.out _⟩

end Go.Proofs.YtklenjmfalljgaaDoor

/- Sorting what place tells: slices.SortFunc by its contract. -/
namespace Go.Proofs.YtklenjmfalljgaaDoor
open Go.RowKit

def encP (x : Int × Int) : List Value := [.int .i64 x.1, .int .i64 x.2]

theorem ltP (x y : Int × Int) : ltOf cmpP x y = decide (x.1 < y.1 ∨ (x.1 = y.1 ∧ x.2 < y.2)) := by
  unfold ltOf cmpP orI cmpI
  rw [Bool.eq_iff_iff]
  simp only [decide_eq_true_eq]
  repeat' split
  all_goals omega
theorem swoP : Sort.SWO (ltOf cmpP) where
  irrefl x := by rw [ltP]; simp
  trans x y z h1 h2 := by rw [ltP] at *; simp only [decide_eq_true_eq] at *; omega
  ntrans x y z h1 h2 := by rw [ltP] at *; simp only [decide_eq_false_iff_not] at *; omega

/-- What comes out of the sort is the pairs in order. -/
theorem sorted_pairs {ks : List (Nat × Nat)} {d' : Array (Int × Int)} (hp : Sort.PermIn 0 (ks.map pairI).toArray.size (ks.map pairI).toArray d') (hs : Sort.SortedIn (ltOf cmpP) 0 (ks.map pairI).toArray.size d') : d'.toList = (sortK ks).map pairI := by
  obtain ⟨h1, _, h3⟩ := hp
  have hsz : d'.size = ks.length := by rw [h1]; simp
  have hperm : d'.toList.Perm (ks.map pairI) := by
    have e1 : (d'.extract 0 (ks.map pairI).toArray.size).toList = d'.toList := by rw [Array.toList_extract]; simp [List.extract]; rw [List.take_of_length_le (by simp [hsz])]
    have e2 : ((ks.map pairI).toArray.extract 0 (ks.map pairI).toArray.size).toList = ks.map pairI := by rw [Array.toList_extract]; simp [List.extract]; rw [List.take_of_length_le (by simp)]
    rw [e1, e2] at h3; exact h3
  have hback : ∀ x ∈ d'.toList, pairI (x.1.toNat, x.2.toNat) = x := fun x hx => by
    obtain ⟨q, _, rfl⟩ := List.mem_map.1 (hperm.mem_iff.1 hx)
    simp [pairI]
  have hqs : (d'.toList.map fun x => (x.1.toNat, x.2.toNat)).map pairI = d'.toList := by
    rw [List.map_map]
    conv => rhs; rw [← List.map_id d'.toList]
    exact List.map_congr_left (fun x hx => hback x hx)
  have hqp : (d'.toList.map fun x => (x.1.toNat, x.2.toNat)).Perm ks := by
    have := hperm.map (fun x : Int × Int => (x.1.toNat, x.2.toNat))
    have e : (ks.map pairI).map (fun x : Int × Int => (x.1.toNat, x.2.toNat)) = ks := by
      rw [List.map_map]
      conv => rhs; rw [← List.map_id ks]
      exact List.map_congr_left (fun x _ => by simp [pairI])
    rw [e] at this; exact this
  have hso : (d'.toList.map fun x => (x.1.toNat, x.2.toNat)).Pairwise leP := by
    rw [List.pairwise_map, List.pairwise_iff_getElem]
    intro i j hi hj hij
    have hi' : i < d'.size := by simpa using hi
    have hj' : j < d'.size := by simpa using hj
    have := hs i j (Nat.zero_le _) hij (by simp; omega)
    rw [ltP, getElem!_pos d' i hi', getElem!_pos d' j hj'] at this
    have b1 := hback d'[i] (by simp)
    have b2 := hback d'[j] (by simp)
    simp only [decide_eq_false_iff_not] at this
    simp only [pairI, Prod.ext_iff] at b1 b2
    unfold leP
    simp only [Array.getElem_toList]
    omega
  rw [sortK_one hqp.symm hso, hqs]

theorem grown_row' {w0 w w' : World} {g : Nat} (h : w0.grownBy w none) (hg : w.grownBy w' (some g)) (hl : w0.heap.size ≤ g) : w0.grownBy w' none :=
  ⟨hg.os.trans h.os, hg.tape.trans h.tape, hg.output.trans h.output, Nat.le_trans h.size hg.size, fun k hk _ => by
    rw [hg.block k (Nat.lt_of_lt_of_le hk h.size) (by simp; omega)]; exact h.block k hk (by simp)⟩

set_option maxRecDepth 100000 in
theorem sort_m (ks : List (Nat × Nat)) (g : Nat) (w : World) (hb : w.heap[g]? = some (.cells (flatK ks).toArray 187 (0, 0))) (hn : ks.length ≤ 1000000) :
    Calls Tryd.prog 102 #[.slice (some ⟨g, 0, none⟩) ks.length ks.length, .func (.func 103) #[] #[]] w fun e w' => e = .returned (.tuple #[]) ∧ (∀ j (hj : j < (sortK ks).length), w'.cell? ⟨g, j * 2, none⟩ = some (.int .i64 ((sortK ks)[j].1 : Int)) ∧ w'.cell? ⟨g, j * 2 + 1, none⟩ = some (.int .i64 ((sortK ks)[j].2 : Int))) ∧ w.grownBy w' (some g) := by
  have hblk : g < w.heap.size := (Array.getElem?_eq_some_iff.1 hb).1
  have eg : ∀ args w, (callFunc 103 args).run Tryd.prog w = .ok (.enter 103 args) w := enters_of Tryd.func103 (by kernel_rfl) rfl
  have hsz : (ks.map pairI).toArray.size = ks.length := by simp
  have hH : Sort.HoldsK encP 2 w g 0 (ks.map pairI).toArray := by
    intro t ht
    rw [Sort.size_flatK, hsz] at ht
    rw [Sort.get_flatK _ _ _ _ (by rw [hsz]; exact ht)]
    refine ⟨?_, by simp [World.frozen?, hb]⟩
    have hj : t / 2 < (ks.map pairI).length := by simp; omega
    have hq := flatS_at (ks.map pairI) (t / 2) hj
    have e1 : ((ks.map pairI).toArray)[t / 2]! = (ks.map pairI)[t / 2] := by rw [getElem!_pos _ _ (by simpa using hj)]; simp
    rw [e1]
    simp only [World.cell?, hb]
    unfold flatK
    rcases (by omega : t % 2 = 0 ∨ t % 2 = 1) with h | h
    · have et : 0 + t = t / 2 * 2 := by omega
      rw [h, et]
      simpa [encP] using hq.1
    · have et : 0 + t = t / 2 * 2 + 1 := by omega
      rw [h, et]
      simpa [encP] using hq.2
  have hcon := AnyQ.slices_SortFunc Tryd.srt 2 Tryd.isAgg187 Tryd.sizeOf187 encP (fun _ => rfl) (fun x v hv => by simp [encP] at hv; rcases hv with rfl | rfl <;> rfl) cmpP swoP 103 #[] g 0 ks.length (ks.map pairI).toArray w eg (fun _ _ _ _ x y => compare_m x y _) hH hblk (by rw [hsz]; omega)
  change Calls Tryd.prog 102 _ _ _ at hcon
  rw [hsz] at hcon
  refine hcon.mono ?_
  rintro e w' ⟨rfl, d', n, os, hp, hs, rfl⟩
  have hd := sorted_pairs (by rw [hsz]; exact hp) (by rw [hsz]; exact hs)
  have hds : d'.size = ks.length := by have := congrArg List.length hd; simpa [(sortK_perm ks).length_eq] using this
  have hHa : Sort.HoldsK encP 2 (Sort.ahead w n) g 0 (ks.map pairI).toArray := hH
  have hH2 : Sort.HoldsK encP 2 (Sort.putRowK encP 2 (Sort.ahead w n) g 0 d') g 0 d' := Sort.holdsK_putRowK encP 2 _ _ _ _ _ hHa (by rw [hsz, hds])
  have hps : (Sort.putRowK encP 2 (Sort.ahead w n) g 0 d').heap.size = w.heap.size := by unfold Sort.putRowK; rw [Sort.size_putRow]; rfl
  refine ⟨rfl, fun j hj => ?_, ?_⟩
  · have hj2 : j < d'.size := by rw [hds, ← (sortK_perm ks).length_eq]; exact hj
    have hx : d'[j]! = pairI (sortK ks)[j] := by
      rw [getElem!_pos d' j hj2]
      have e1 : d'.toList[j]'(by simpa using hj2) = ((sortK ks).map pairI)[j]'(by simpa using hj) := by congr 1
      simpa using e1
    have up : ∀ o v, (Sort.putRowK encP 2 (Sort.ahead w n) g 0 d').cell? ⟨g, o, none⟩ = some v → (sortWorldK encP 2 w g 0 n d' os).cell? ⟨g, o, none⟩ = some v := fun o v hc => by
      unfold sortWorldK
      rw [World.cell?_of_block (w := Sort.putRowK encP 2 (Sort.ahead w n) g 0 d') (by
        show ((Sort.putRowK encP 2 (Sort.ahead w n) g 0 d').heap ++ os)[g]? = _
        rw [Array.getElem?_append_left (by rw [hps]; exact hblk)])]
      exact hc
    have k0 := (hH2 (j * 2) (by rw [Sort.size_flatK]; omega)).1
    have k1 := (hH2 (j * 2 + 1) (by rw [Sort.size_flatK]; omega)).1
    rw [Sort.get_flatK _ _ _ _ (by omega)] at k0 k1
    have d0 : j * 2 / 2 = j := by omega
    have d1 : (j * 2 + 1) / 2 = j := by omega
    have m0 : j * 2 % 2 = 0 := by omega
    have m1 : (j * 2 + 1) % 2 = 1 := by omega
    rw [d0, m0, hx] at k0
    rw [d1, m1, hx] at k1
    simp only [Nat.zero_add] at k0 k1
    exact ⟨up _ _ k0, up _ _ k1⟩
  · refine ⟨rfl, rfl, rfl, ?_, fun k hk hne => ?_⟩
    · show w.heap.size ≤ ((Sort.putRowK encP 2 (Sort.ahead w n) g 0 d').heap ++ os).size
      rw [Array.size_append, hps]; omega
    · show ((Sort.putRowK encP 2 (Sort.ahead w n) g 0 d').heap ++ os)[k]? = w.heap[k]?
      rw [Array.getElem?_append_left (by rw [hps]; exact hk)]
      show (w.heap.modify g _)[k]? = w.heap[k]?
      rw [Array.getElem?_modify, if_neg (fun e => hne (by rw [e]))]

end Go.Proofs.YtklenjmfalljgaaDoor

/- The walk of layers.Form. -/
namespace Go.Proofs.YtklenjmfalljgaaDoor
open Go.RowKit
attribute [local go_sem] Go.World.cell?_alloc_some

theorem info_intF : ((Tryd.prog.info? 3).map fun i => (i.zero, i.size, i.bytes)) = some (some (.int .i64 0), 1, 8) := by kernel_rfl
def intsF (a : List Int) : List Value := a.map fun x => .int .i64 x
theorem row_set1 (L : List Value) (x : Value) (i n : Nat) (hl : L.length = i) (hi : i < n) : (L ++ List.replicate (n - i) (Value.int .i64 0)).set i x = (L ++ [x]) ++ List.replicate (n - (i + 1)) (Value.int .i64 0) := by
  obtain ⟨k, hk⟩ : ∃ k, n - i = k + 1 ∧ n - (i + 1) = k := ⟨n - (i + 1), by omega, rfl⟩
  rw [hk.1, hk.2, List.set_append, if_neg (by omega), hl, Nat.sub_self, List.replicate_succ, List.set_cons_zero]
  simp

/-- In the midst of Form: i numbers stand. -/
structure FmIn (fs : List Int) (W w' : World) (gf i : Nat) : Prop where
  row : w'.heap[gf]? = some (.cells (intsF (fs.take i) ++ List.replicate (fs.length - i) (Value.int .i64 0)).toArray 3 (0, 0))
  gr : W.grownBy w' (some gf)

set_option maxHeartbeats 4000000 in
set_option maxRecDepth 100000 in
theorem layForm_m {p : List (List Ins)} {o : Out} {xs : List Ev} (hp : vProg p = true) (hSt : Stood p o xs) (h500 : xs.length ≤ 500) (w : World) (pv : Value) (hP : ProgAt w pv p) (base : Nat) (sao : Option Addr) (scp : Nat)
    (hs : w.ownsRow base 48 2 (.slice sao xs.length scp) xs.length (flatS o.steps)) (v0 v1 v2 v3 : Int) (gao : Option Addr) (gn gc : Nat) :
    Calls Tryd.prog 68 #[pv, .agg #[.int .i64 o.kind, .int .i64 o.thread, .int .i64 o.at_, .slice sao xs.length scp, .int .i64 v0, .int .i64 v1, .int .i64 v2, .int .i64 v3, .slice gao gn gc]] w fun e w' => ∃ v, e = .returned v ∧ w'.ownsRow w.heap.size 3 1 v (formE p xs).length (intsF (formE p xs)) ∧ w.grownBy w' none := by
  obtain ⟨i0, hi0, hz0, hz1, hz2⟩ := info_parts info_intF
  obtain ⟨ao, cap, rfl⟩ := hP.form
  have HP := hide hP
  have HV := hide hp
  have HSt := hide hSt
  have HR := hide hs
  have hfl := formE_length p xs
  have q0 : (xs.length : Int) ≤ 500 := by omega
  have q1 : (0 : Int) ≤ (xs.length : Int) := by omega
  clear hP hp hSt hs
  go_enter Tryd.func68, Tryd.ntmps68
  go_wp2_with fail
  have hg0 : ∀ a b, w.grownBy ((w.alloc a).alloc b) none := fun a b => grown_alloc (grown_alloc (grown_refl _ _))
  refine (place_m HV.out HSt.out h500 _ _ (HP.out.pres (pres_grown (hg0 _ _))) base sao scp (owns_alloc (owns_alloc HR.out)) v0 v1 v2 v3 gao gn gc).mono ?_
  rintro e w1 ⟨g, rfl, hg, hrow1, hg1⟩
  have HG1 : Hid (w.grownBy w1 none) := grown_trans (hg0 _ _) hg1
  have hgw : w.heap.size ≤ g := by simp at hg; omega
  have hkl : (keysE p xs).length = xs.length := by unfold keysE; rw [List.length_map, tl_length]
  have HSO := hide (sort_m (keysE p xs) g w1 hrow1 (by omega))
  rw [hkl] at HSO
  have hgs : g < w1.heap.size := (Array.getElem?_eq_some_iff.1 hrow1).1
  clear hg1 hrow1 hg hg0
  go_wp2_with fail
  refine HSO.out.mono ?_
  clear HSO
  rintro e w2 ⟨rfl, hc2, hg2⟩
  have hsl : (sortK (keysE p xs)).length = xs.length := by rw [(sortK_perm _).length_eq, hkl]
  have HFE : Hid (formE p xs = (sortK (keysE p xs)).map fun x => (x.2 : Int)) := rfl
  generalize sortK (keysE p xs) = qs at *
  have HC2 := hide hc2
  have HG2 : Hid (w.grownBy w2 none) := grown_row' HG1.out hg2 hgw
  obtain ⟨fs, hfs⟩ : ∃ fs, fs = formE p xs := ⟨_, rfl⟩
  rw [← hfs] at HFE hfl
  have HFS := hide hfs
  clear hfs
  have hgs2 : g < w2.heap.size := Nat.lt_of_lt_of_le hgs hg2.size
  clear hc2 hg2 hkl
  go_upto_region 4 with (at_make; refine wpList_make_full _ rfl _ _ _ rfl w2.heap.size 3 i0 _ 1 Tryd.underlying22 hi0 hz0 hz1 .i64 .i64 _ _ xs.length rfl rfl rfl rfl (by rw [hz2]; omega) (by unfold maxLen; omega) (by simp) ?_; intro w3 hown3 hg3)
  have hrow3 : w3.heap[w2.heap.size]? = some (.cells (List.replicate xs.length (Value.int .i64 0)).toArray 3 (0, 0)) := by
    rcases hown3.2 with ⟨e, _⟩ | ⟨g', cap', cur, hv, _, hh, _, _, hcs, htk⟩
    · cases e
    · simp only [Value.slice.injEq, Option.some.injEq, Addr.mk.injEq, true_and, and_true] at hv
      obtain ⟨rfl, rfl⟩ := hv
      rw [hh]
      have e1 : cur.toList = List.replicate xs.length (Value.int .i64 0) := by
        have e2 : (madeCells #[Value.int .i64 0] (xs.length * 1)).toList = List.replicate (xs.length * 1) (Value.int .i64 0) := by
          apply List.ext_getElem (by simp [madeCells])
          intro i h1 h2
          simp only [madeCells, Array.toList_map, List.getElem_map, List.getElem_replicate, Array.toList_range, List.getElem_range]
          simp [Nat.mod_one]
        rw [Nat.mul_one] at e2
        rw [← e2]
        simp only [Value.cells, Nat.mul_one] at htk hcs
        rw [← htk, List.take_of_length_le (by simp; omega)]
      rw [← e1]
  have HC3 : Hid (∀ j (hj : j < qs.length), w3.cell? ⟨g, j * 2, none⟩ = some (.int .i64 (qs[j].1 : Int)) ∧ w3.cell? ⟨g, j * 2 + 1, none⟩ = some (.int .i64 (qs[j].2 : Int))) := fun j hj => ⟨pres_grown hg3 _ _ (HC2.out j hj).1, pres_grown hg3 _ _ (HC2.out j hj).2⟩
  have HG3 : Hid (w.grownBy w3 none) := grown_trans HG2.out hg3
  have H0 : Hid (FmIn fs w3 w3 w2.heap.size 0) := ⟨by simpa [intsF, hfl] using hrow3, grown_refl _ _⟩
  obtain ⟨gf, hgf⟩ : ∃ gf, gf = w2.heap.size := ⟨_, rfl⟩
  have hgf3 : gf < w3.heap.size := by rw [hgf]; exact (Array.getElem?_eq_some_iff.1 hrow3).1
  have hgne : g ≠ gf := by omega
  have hgfw : w.heap.size ≤ gf := by have := HG2.out.size; omega
  have hg3s : g < w3.heap.size := by omega
  rw [← hgf] at H0 ⊢
  clear hown3 hg3 hrow3 HC2 hgf hgs hgs2
  go_wp2_with fail
  go_loopw [19] (fun iv w' => ∃ i : Nat, i ≤ xs.length ∧ iv = .int .i64 i ∧ Hid (FmIn fs w3 w' gf i)) (fun iv _ => xs.length - (intOf iv).toNat)
  case atStart => exact ⟨0, Nat.zero_le _, rfl, H0⟩
  case round =>
    clear H0
    obtain ⟨i, hi, rfl, HI⟩ := hrel
    obtain ⟨w5, hw5⟩ : ∃ w5, w5 = wr := ⟨_, rfl⟩
    rw [← hw5] at HI ⊢
    clear hw5
    by_cases hlt : i < xs.length
    · have hiq : i < qs.length := by omega
      obtain ⟨c0, c1⟩ := HC3.out i hiq
      have hblk := HI.out.gr.block g hg3s (by simpa using hgne)
      have d0 : w5.cell? ⟨g, i * 2, none⟩ = some (.int .i64 (qs[i].1 : Int)) := by rw [World.cell?_of_block hblk]; exact c0
      have d1 : w5.cell? ⟨g, i * 2 + 1, none⟩ = some (.int .i64 (qs[i].2 : Int)) := by rw [World.cell?_of_block hblk]; exact c1
      have hfi : i < fs.length := by omega
      have HFI : Hid (fs.take (i + 1) = fs.take i ++ [(qs[i].2 : Int)]) := by
        unfold Hid
        rw [List.take_succ_eq_append_getElem hfi]
        congr 2
        simp [HFE.out]
      have hs5 : w3.heap.size ≤ w5.heap.size := HI.out.gr.size
      obtain ⟨R, hR⟩ : ∃ R : List Value, R = intsF (fs.take i) ++ List.replicate (fs.length - i) (Value.int .i64 0) := ⟨_, rfl⟩
      have hRl : R.length = fs.length := by rw [hR]; simp [intsF]; omega
      have hr5 := HI.out.row
      rw [← hR] at hr5
      clear c0 c1 hblk
      generalize qs[i] = q at *
      obtain ⟨q1', q2'⟩ := q
      simp only at d0 d1 HFI
      have hr6 : (w5.alloc (.cells #[.int .i64 (q1' : Int), .int .i64 (q2' : Int)] 187)).heap[gf]? = some (.cells R.toArray 3 (0, 0)) := by
        rw [Below.heap_alloc _ _ _ (by omega)]; exact hr5
      have z0 : ∃ z, (w5.alloc (.cells #[.int .i64 (q1' : Int), .int .i64 (q2' : Int)] 187)).cell? ⟨gf, i, none⟩ = some z := ⟨R[i]'(by omega), by simp only [World.cell?, hr6]; simp⟩
      obtain ⟨z, z0⟩ := z0
      have fz0 : (w5.alloc (.cells #[.int .i64 (q1' : Int), .int .i64 (q2' : Int)] 187)).frozen? ⟨gf, i, none⟩ = false := by simp [World.frozen?, hr6]
      have HNX : Hid (FmIn fs w3 ((w5.alloc (.cells #[.int .i64 (q1' : Int), .int .i64 (q2' : Int)] 187)).setCell ⟨gf, i, none⟩ (.int .i64 (q2' : Int))) gf (i + 1)) := by
        refine ⟨?_, grown_trans HI.out.gr (grown_trans (grown_alloc (grown_refl _ _)) grown_cell)⟩
        rw [heap_setCell_same _ gf i _ _ _ hr6, HFI.out]
        simp only [List.setIfInBounds_toArray]
        rw [hR, row_set1 _ _ i fs.length (by simp [intsF]; omega) hfi]
        simp [intsF]
      have t0 : (0 : Int) ≤ (i : Int) := by omega
      have t1 : (i : Int) < xs.length := by omega
      have hne5 : gf ≠ w5.heap.size := by omega
      have hne6 : w5.heap.size ≠ gf := by omega
      clear hr5 hr6 hR hRl
      go_wp2_with fail
      go_roundw
      case rel => exact ⟨i + 1, by omega, by go_num, HNX⟩
      case measure => simp [intOf]; omega
    · have t1 : (xs.length : Int) ≤ (i : Int) := by omega
      have ei : i = xs.length := by omega
      have HE : Hid (w5.ownsRow w.heap.size 3 1 (.slice (some ⟨gf, 0, none⟩) xs.length xs.length) fs.length (intsF fs) ∧ w.grownBy w5 none) := by
        have hr := HI.out.row
        rw [List.take_of_length_le (by omega), show fs.length - i = 0 by omega] at hr
        refine ⟨⟨by simp [intsF], Or.inr ⟨gf, xs.length, _, by rw [hfl], hgfw, hr, by omega, by unfold maxLen; omega, by simp [intsF, hfl], ?_⟩⟩, grown_row' HG3.out HI.out.gr hgfw⟩
        simp [intsF]
        rw [List.take_of_length_le (by simp)]
      go_wp2_with fail
      go_ret
      refine ⟨.slice (some ⟨gf, 0, none⟩) xs.length xs.length, rfl, ?_, HE.out.2⟩
      rw [← HFS.out]
      exact HE.out.1

end Go.Proofs.YtklenjmfalljgaaDoor

/- The walks of pick and awake. -/
namespace Go.Proofs.YtklenjmfalljgaaDoor
open Go.RowKit
attribute [local go_sem] Go.World.cell?_alloc_some

def pickN (c n : Int) : Int := (if c < 0 then -(c + 1) else c) % n

theorem pickN_range (c n : Int) (hn : 0 < n) : 0 ≤ pickN c n ∧ pickN c n < n := ⟨Int.emod_nonneg _ (by omega), Int.emod_lt_of_pos _ hn⟩

set_option maxHeartbeats 400000 in
theorem pick_m (c n : Int) (hn : 0 < n) (hn2 : n ≤ 1099511627776) (hc : -9223372036854775808 ≤ c) (hc2 : c ≤ 9223372036854775807) (w : World) :
    Calls Tryd.prog 12 #[.int .i64 c, .int .i64 n] w fun e w' => e = .returned (.int .i64 (pickN c n)) ∧ w' = w := by
  by_cases h0 : c < 0
  · have HP : Hid (pickN c n = -(c + 1).tmod n) := by
      unfold Hid pickN
      rw [if_pos h0, ← Int.neg_tmod, Int.tmod_eq_emod_of_nonneg (by omega)]
    go_enter Tryd.func12, Tryd.ntmps12
    go_wp2
    go_ret
    exact ⟨by rw [HP.out]; rfl, rfl⟩
  · have HP : Hid (pickN c n = c % n) := by unfold Hid pickN; rw [if_neg h0]
    have h1 : 0 ≤ c := by omega
    go_enter Tryd.func12, Tryd.ntmps12
    go_wp2
    go_ret
    exact ⟨by rw [HP.out]; rfl, rfl⟩

def growC : List Ins := [⟨2, 0, 0, 0⟩, ⟨1, 1, 0, 1⟩, ⟨4, 0, 1, 0⟩, ⟨3, 0, 0, 0⟩]
def growP : List (List Ins) := [growC, growC]
def growS : List Int := [0, 0, 0, 0, 1, 1, 1, 1]

theorem grow_check : checkRunN growP growS = 0 := by decide +kernel
theorem grow_kind : (runS growP growS).kind = 3 ∧ (runS growP growS).thread = 0 ∧ (runS growP growS).at_ = 0 ∧ (runS growP growS).st.vars 0 = 2 := by decide +kernel
theorem grow_steps : (runS growP growS).steps = [(0, 0), (0, 1), (0, 2), (0, 3), (1, 0), (1, 1), (1, 2), (1, 3)] := by decide +kernel

theorem codeAt_grow {w : World} {g : Nat} (h : w.heap[g]? = some (.cells #[.int .i64 2, .int .i64 0, .int .i64 0, .int .i64 0, .int .i64 1, .int .i64 1, .int .i64 0, .int .i64 1, .int .i64 4, .int .i64 0, .int .i64 1, .int .i64 0, .int .i64 3, .int .i64 0, .int .i64 0, .int .i64 0] 28 (0, 0))) :
    CodeAt w (.slice (some ⟨g, 0, none⟩) 4 4) growC := by
  refine ⟨_, 4, rfl, fun k hk => ⟨g, 0, rfl, ?_⟩⟩
  have hk4 : k < 4 := hk
  rcases lt4 hk4 with rfl | rfl | rfl | rfl <;> simp [World.cell?, h, growC]

set_option maxHeartbeats 1000000 in
set_option maxRecDepth 100000 in
theorem awake_m (w : World) (hS : ShpAt w) : Calls Tryd.prog 13 #[] w fun e w' => e = .returned (.bool true) ∧ w.grownBy w' none := by
  have HSh := hide hS
  clear hS
  go_enter Tryd.func13, Tryd.ntmps13
  go_wp2_with fail
  generalize hA : Obj.cells #[Value.int IntKind.i64 2, Value.int IntKind.i64 0, Value.int IntKind.i64 0, Value.int IntKind.i64 0, Value.int IntKind.i64 1, Value.int IntKind.i64 1, Value.int IntKind.i64 0, Value.int IntKind.i64 1, Value.int IntKind.i64 4, Value.int IntKind.i64 0, Value.int IntKind.i64 1, Value.int IntKind.i64 0, Value.int IntKind.i64 3, Value.int IntKind.i64 0, Value.int IntKind.i64 0, Value.int IntKind.i64 0] 28 = OA
  generalize hB : Obj.cells #[Value.slice (some ⟨w.heap.size, 0, none⟩) 4 4, Value.slice (some ⟨w.heap.size, 0, none⟩) 4 4] 29 = OB
  generalize hC : Obj.cells #[Value.int IntKind.i64 0, Value.int IntKind.i64 0, Value.int IntKind.i64 0, Value.int IntKind.i64 0, Value.int IntKind.i64 1, Value.int IntKind.i64 1, Value.int IntKind.i64 1, Value.int IntKind.i64 1] 3 = OC
  have e0 : (((w.alloc OA).alloc OB).alloc OC).heap[w.heap.size]? = some OA := by
    rw [Below.heap_alloc _ _ _ (by simp; omega), Below.heap_alloc _ _ _ (by simp)]; exact heap_alloc_new w _
  have e1 : (((w.alloc OA).alloc OB).alloc OC).heap[w.heap.size + 1]? = some OB := by
    rw [Below.heap_alloc _ _ _ (by simp)]
    have := heap_alloc_new (w.alloc OA) OB
    simpa using this
  have e2 : (((w.alloc OA).alloc OB).alloc OC).heap[w.heap.size + 2]? = some OC := by
    have := heap_alloc_new ((w.alloc OA).alloc OB) OC
    simpa using this
  have HG0 : Hid (w.grownBy (((w.alloc OA).alloc OB).alloc OC) none) := grown_alloc (grown_alloc (grown_alloc (grown_refl _ _)))
  have hp : ProgAt (((w.alloc OA).alloc OB).alloc OC) (.agg #[.slice (some ⟨w.heap.size + 1, 0, none⟩) 2 2]) growP := by
    refine ⟨_, 2, rfl, fun t ht => ⟨w.heap.size + 1, 0, rfl, .slice (some ⟨w.heap.size, 0, none⟩) 4 4, ?_, ?_⟩⟩
    · have h2 : t = 0 ∨ t = 1 := by have : t < 2 := ht; omega
      have c1 := fun j => cell_of_row _ (w.heap.size + 1) j _ _ _ (e1.trans (congrArg some hB.symm))
      rcases h2 with rfl | rfl <;> rw [c1] <;> rfl
    · have h2 : growP[t] = growC := by
        have h2 : t = 0 ∨ t = 1 := by have : t < 2 := ht; omega
        rcases h2 with rfl | rfl <;> rfl
      rw [h2]
      exact codeAt_grow (by rw [e0, hA])
  have hi : IntsAt (((w.alloc OA).alloc OB).alloc OC).heap.size (((w.alloc OA).alloc OB).alloc OC) (.slice (some ⟨w.heap.size + 1 + 1, 0, none⟩) 8 8) growS := by
    refine ⟨_, 8, rfl, Nat.le_refl _, fun k hk => ⟨w.heap.size + 1 + 1, 0, rfl, by simp, ?_⟩⟩
    have h8 : k = 0 ∨ k = 1 ∨ k = 2 ∨ k = 3 ∨ k = 4 ∨ k = 5 ∨ k = 6 ∨ k = 7 := by have : k < 8 := hk; omega
    have c2 := fun j => cell_of_row _ (w.heap.size + 1 + 1) j _ _ _ (e2.trans (congrArg some hC.symm))
    rcases h8 with rfl | rfl | rfl | rfl | rfl | rfl | rfl | rfl <;> rw [c2] <;> rfl
  refine (replay_m growP growS _ _ _ (HSh.out.pres (pres_grown HG0.out)) hp hi).mono ?_
  clear hp hi e0 e1 e2 hA hB hC
  rintro e w1 ⟨hg1, h⟩
  rcases h with ⟨_, rv, rfl, sv, gv, rfl, ho1, ho2⟩ | ⟨h, _⟩
  · have HG1 : Hid (w.grownBy w1 none) := grown_trans HG0.out hg1
    obtain ⟨k1, k2, k3, k4⟩ := grow_kind
    rw [grow_steps] at ho1
    obtain ⟨g, cp, rfl, _, _⟩ := ho1.form (by decide)
    obtain ⟨y1, y2, y3, rfl⟩ := owns_form ho2
    have q14 : w1.cell? ⟨g, 14, none⟩ = some (.int .i64 1) := by rw [ho1.cellAt 14 (by decide)]; rfl
    have q15 : w1.cell? ⟨g, 15, none⟩ = some (.int .i64 3) := by rw [ho1.cellAt 15 (by decide)]; rfl
    rw [k1, k2, k3, k4]
    clear hg1 ho1 ho2 k1 k2 k3 k4
    generalize (runS growP growS).st.vars 1 = x1
    generalize (runS growP growS).st.vars 2 = x2
    generalize (runS growP growS).st.vars 3 = x3
    simp only [List.length_cons, List.length_nil]
    go_wp2_with fail
    go_ret
    exact ⟨rfl, grown_alloc HG1.out⟩
  · exact absurd grow_check h

end Go.Proofs.YtklenjmfalljgaaDoor

/- The walk of schedule. -/
namespace Go.Proofs.YtklenjmfalljgaaDoor
open Go.RowKit
attribute [local go_sem] Go.World.cell?_alloc_some

def ints (a : List Int) : List Value := a.map fun x => .int .i64 x
theorem ints_len (a : List Int) : (ints a).length = a.length := by simp [ints]
theorem ints_one (a : List Int) : ∀ v ∈ ints a, v.oneCell' = true := by
  intro v hv
  simp only [ints, List.mem_map] at hv
  obtain ⟨x, _, rfl⟩ := hv; rfl
theorem ints_snoc (a : List Int) (x : Int) : ints (a ++ [x]) = ints a ++ [.int .i64 x] := by simp [ints]

theorem owns_ints {w : World} {base : Nat} {v : Value} {a : List Int} (h : w.ownsRow base 3 1 v a.length (ints a)) : IntsAt w.heap.size w v a := by
  rcases h.2 with ⟨e, e0⟩ | ⟨g, cap, cur, hv, hb, hh, hc, _⟩
  · refine ⟨none, 0, by rw [e, e0], by omega, fun k hk => by omega⟩
  · refine ⟨some ⟨g, 0, none⟩, cap, hv, hc, fun k hk => ⟨g, 0, rfl, (Array.getElem?_eq_some_iff.1 hh).1, ?_⟩⟩
    rw [hv] at h
    rw [Nat.zero_add, h.cellAt k (by omega)]
    simp [ints, hk]

def resCells (o : Out) (s1 g1 : Value) : Array Value := #[.int .i64 o.kind, .int .i64 o.thread, .int .i64 o.at_, s1, .int .i64 (o.st.vars 0), .int .i64 (o.st.vars 1), .int .i64 (o.st.vars 2), .int .i64 (o.st.vars 3), g1]
def zeroRes : Array Value := #[.int .i64 0, .int .i64 0, .int .i64 0, .slice none 0 0, .int .i64 0, .int .i64 0, .int .i64 0, .int .i64 0, .slice none 0 0]

/-- In the midst of schedule: s is a, r its run. -/
structure SchAt (w : World) (p : List (List Ins)) (pb : Value) (rb : Nat) (a : List Int) (sv : Value) (w' : World) : Prop where
  grown : w.grownBy w' none
  row : w'.ownsRow w.heap.size 3 1 sv a.length (ints a)
  nil : a = [] → sv = .slice none 0 0
  apart : sv.ownBlock ≠ some rb
  res : ∃ s1 g1, w'.heap[rb]? = some (.cells (resCells (runS p a) s1 g1) 37 (0, 0)) ∧ w'.ownsRow w.heap.size 48 2 s1 (runS p a).steps.length (flatS (runS p a).steps) ∧ w'.ownsRow w.heap.size 34 4 g1 p.length (regsF p.length (runS p a).st) ∧ s1.ownBlock ≠ some rb ∧ g1.ownBlock ≠ some rb
  box : w'.heap[w.heap.size]? = some (.cells #[pb] 25 (0, 0))
  out : w'.heap[w.heap.size + 1]? = some (.cells zeroRes 37 (0, 0))
  lo : w.heap.size + 2 ≤ rb
  hi : rb < w'.heap.size
  good : Sched p a

theorem SchAt.step {w : World} {p : List (List Ins)} {pb : Value} {rb : Nat} {a : List Int} {sv : Value} {w' w'' : World} (h : SchAt w p pb rb a sv w') (hg : w'.grownBy w'' none) : SchAt w p pb rb a sv w'' := by
  obtain ⟨s1, g1, h1, h2, h3, h4, h5⟩ := h.res
  exact ⟨grown_trans h.grown hg, owns_grown h.row hg (fun _ e => by cases e), h.nil, h.apart, ⟨s1, g1, by rw [hg.block _ h.hi (by simp)]; exact h1, owns_grown h2 hg (fun _ e => by cases e), owns_grown h3 hg (fun _ e => by cases e), h4, h5⟩,
    by rw [hg.block _ (by have := h.lo; have := h.hi; omega) (by simp)]; exact h.box, by rw [hg.block _ (by have := h.lo; have := h.hi; omega) (by simp)]; exact h.out, h.lo, Nat.lt_of_lt_of_le h.hi hg.size, h.good⟩

theorem owns_setCell_ne {w : World} {base : Nat} {e : TypeId} {size : Nat} {v : Value} {n : Nat} {xs : List Value} {g o : Nat} {u : Value} (h : w.ownsRow base e size v n xs) (hne : v.ownBlock ≠ some g) : (w.setCell ⟨g, o, none⟩ u).ownsRow base e size v n xs := by
  obtain ⟨h1, h2⟩ := h
  refine ⟨h1, ?_⟩
  rcases h2 with h2 | ⟨b, cap, cur, hv, hb, hh, rest⟩
  · exact Or.inl h2
  · refine Or.inr ⟨b, cap, cur, hv, hb, ?_, rest⟩
    rw [Below.heap_setCell _ _ _ _ (fun e => hne (by rw [hv]; simp [Value.ownBlock, e]))]; exact hh

theorem set9 {w : World} {g : Nat} {x0 x1 x2 x3 x4 x5 x6 x7 x8 y0 y1 y2 y3 y4 y5 y6 y7 y8 : Value} {t : TypeId} (h : w.heap[g]? = some (.cells #[x0, x1, x2, x3, x4, x5, x6, x7, x8] t (0, 0))) :
    (((((((((w.setCell ⟨g, 0, none⟩ y0).setCell ⟨g, 1, none⟩ y1).setCell ⟨g, 2, none⟩ y2).setCell ⟨g, 3, none⟩ y3).setCell ⟨g, 4, none⟩ y4).setCell ⟨g, 5, none⟩ y5).setCell ⟨g, 6, none⟩ y6).setCell ⟨g, 7, none⟩ y7).setCell ⟨g, 8, none⟩ y8).heap[g]? = some (.cells #[y0, y1, y2, y3, y4, y5, y6, y7, y8] t (0, 0)) := by
  have h0 := heap_setCell_same w g 0 _ t y0 h
  have h1 := heap_setCell_same _ g 1 _ t y1 h0
  have h2 := heap_setCell_same _ g 2 _ t y2 h1
  have h3 := heap_setCell_same _ g 3 _ t y3 h2
  have h4 := heap_setCell_same _ g 4 _ t y4 h3
  have h5 := heap_setCell_same _ g 5 _ t y5 h4
  have h6 := heap_setCell_same _ g 6 _ t y6 h5
  have h7 := heap_setCell_same _ g 7 _ t y7 h6
  have h8 := heap_setCell_same _ g 8 _ t y8 h7
  simpa using h8

/-- r = x, s = t. -/
theorem SchAt.set {w : World} {p : List (List Ins)} {pb : Value} {rb : Nat} {a b : List Int} {sv tv : Value} {w' : World} (h : SchAt w p pb rb a sv w') (hb : b ≠ []) (ht : w'.ownsRow w.heap.size 3 1 tv b.length (ints b)) (hta : tv.ownBlock ≠ some rb) {s1 g1 : Value}
    (hs : w'.ownsRow w.heap.size 48 2 s1 (runS p b).steps.length (flatS (runS p b).steps)) (hg : w'.ownsRow w.heap.size 34 4 g1 p.length (regsF p.length (runS p b).st)) (hsa : s1.ownBlock ≠ some rb) (hga : g1.ownBlock ≠ some rb) (hok : Sched p b) :
    SchAt w p pb rb b tv (((((((((w'.setCell ⟨rb, 0, none⟩ (.int .i64 (runS p b).kind)).setCell ⟨rb, 1, none⟩ (.int .i64 (runS p b).thread)).setCell ⟨rb, 2, none⟩ (.int .i64 (runS p b).at_)).setCell ⟨rb, 3, none⟩ s1).setCell ⟨rb, 4, none⟩ (.int .i64 ((runS p b).st.vars 0))).setCell ⟨rb, 5, none⟩ (.int .i64 ((runS p b).st.vars 1))).setCell ⟨rb, 6, none⟩ (.int .i64 ((runS p b).st.vars 2))).setCell ⟨rb, 7, none⟩ (.int .i64 ((runS p b).st.vars 3))).setCell ⟨rb, 8, none⟩ g1) := by
  obtain ⟨s0, g0, h1, _⟩ := h.res
  have hlo := h.lo
  have hhi := h.hi
  have hother : ∀ k, k ≠ rb → (((((((((w'.setCell ⟨rb, 0, none⟩ (.int .i64 (runS p b).kind)).setCell ⟨rb, 1, none⟩ (.int .i64 (runS p b).thread)).setCell ⟨rb, 2, none⟩ (.int .i64 (runS p b).at_)).setCell ⟨rb, 3, none⟩ s1).setCell ⟨rb, 4, none⟩ (.int .i64 ((runS p b).st.vars 0))).setCell ⟨rb, 5, none⟩ (.int .i64 ((runS p b).st.vars 1))).setCell ⟨rb, 6, none⟩ (.int .i64 ((runS p b).st.vars 2))).setCell ⟨rb, 7, none⟩ (.int .i64 ((runS p b).st.vars 3))).setCell ⟨rb, 8, none⟩ g1).heap[k]? = w'.heap[k]? := fun k hk => by
    iterate 9 rw [Below.heap_setCell _ _ _ _ (by simpa using hk)]
  refine ⟨?_, ?_, fun e => absurd e hb, hta, ⟨s1, g1, set9 h1, ?_, ?_, hsa, hga⟩, ?_, ?_, hlo, by simp; omega, hok⟩
  · iterate 9 refine grown_setNew ?_ (by omega)
    exact h.grown
  · iterate 9 refine owns_setCell_ne ?_ hta
    exact ht
  · iterate 9 refine owns_setCell_ne ?_ hsa
    exact hs
  · iterate 9 refine owns_setCell_ne ?_ hga
    exact hg
  · rw [hother _ (by omega)]; exact h.box
  · rw [hother _ (by omega)]; exact h.out


section
variable {P : Program} {w : World} {ops : Array Oper} {rest : List Oper} {o : Oper} {a : Act} {Q : Exit → Act → World → Prop}
/-- append of a whole slice of numbers onto nil: a new row. -/
theorem wpList_append_copy (hgd : o.guard = none) (s x : Operand) (t : TypeId) (ho : o.op = .call { callee := .builtin .append, args := #[s, x], argTypes := #[t, t] })
    (e : TypeId) (i : TypeInfo) (z : Value) (bytes : Nat) (ht : P.underlying t = some (.slice e)) (hi : P.info? e = some i) (hz : i.zero = some z) (hsize : i.size = 1) (hby : i.bytes = bytes) (hzs : z.cells.size = 1)
    (hs : a.eval s = .slice none 0 0) (sv : Value) (hx : a.eval x = sv) (b0 n : Nat) (xs : List Value) (hown : w.ownsRow b0 e 1 sv n xs) (hnil : n = 0 → sv = .slice none 0 0) (h1 : ∀ u ∈ xs, u.oneCell' = true) (h63 : n ≤ maxLen) (hbytes : n * bytes ≤ 140737488355328)
    (h : ∀ ta tn tc w', w'.ownsRow w.heap.size e 1 (.slice ta tn tc) n xs → w.grownBy w' none → (n = 0 → Value.slice ta tn tc = .slice none 0 0) → wpList P ops Q rest (a.put o.dst (.slice ta tn tc)) w') : wpList P ops Q (o :: rest) a w := by
  refine wpList_plain hgd fun K hK => ?_
  have hnone : w.ownsRow w.heap.size e 1 (.slice none 0 0) 0 [] := ⟨rfl, Or.inl ⟨rfl, rfl⟩⟩
  by_cases h0 : n = 0
  · have hrun := run_append_owned_none (P := P) w w.heap.size t o.type e i 1 ht hi _ 0 [] hnone
    have hx0 : xs = [] := by
      have := hown.1
      rw [h0] at this
      exact List.length_eq_zero_iff.1 (by omega)
    unfold Oper.wp
    simp [execOp, ho, resolve, invoke, builtin, hs, hx, hnil h0, hrun, Result.andThen]
    exact hK _ _ (h _ _ _ w (by rw [h0, hx0]; exact hnone) (grown_refl _ _) (fun _ => rfl))
  · obtain ⟨g, cap, rfl, _, _⟩ := hown.form (by omega)
    have hnews : ∀ j u, xs[j]? = some u → w.cell? ((⟨g, 0, none⟩ : Addr).add j) = some u := fun j u hj => by
      have hadd : (⟨g, 0, none⟩ : Addr).add j = ⟨g, j, none⟩ := by unfold Addr.add; split <;> simp_all
      have hl := (List.getElem?_eq_some_iff.1 hj).1
      rw [hadd, hown.cellAt j (by rw [← hown.1]; exact hl)]; exact hj
    obtain ⟨v', w', hrun, h2, h3, h4, h5⟩ := run_append_own_at (P := P) w w.heap.size t o.type e i z 1 bytes ht hi hz hsize hby hzs (by omega) _ 0 [] hnone ⟨g, 0, none⟩ n cap xs hown.1 hnews h1 (by omega) (by simpa using hbytes) (Nat.le_refl _)
    simp only [Nat.zero_add, List.nil_append] at h2
    obtain ⟨ta, tn, tc, rfl⟩ := owns_form h2
    unfold Oper.wp
    simp [execOp, ho, resolve, invoke, builtin, hs, hx, hrun, Result.andThen]
    exact hK _ _ (h _ _ _ w' h2 h3 (fun e => absurd e h0))
end

end Go.Proofs.YtklenjmfalljgaaDoor

/- The walk of schedule. -/
namespace Go.Proofs.YtklenjmfalljgaaDoor
open Go.RowKit
attribute [local go_sem] Go.World.cell?_alloc_some

theorem info_int : ((Tryd.prog.info? 3).map fun i => (i.zero, i.size, i.bytes)) = some (some (.int .i64 0), 1, 8) := by kernel_rfl

theorem owns_lenq {w : World} {base e size : Nat} {ao : Option Addr} {n c m : Nat} {xs : List Value} (h : w.ownsRow base e size (.slice ao n c) m xs) : n = m := by
  rcases h.2 with ⟨e, e0⟩ | ⟨g, cap, cur, hv, _⟩
  · simp at e; omega
  · simp at hv; omega

theorem owns_out9 {w w' : World} {e size : Nat} {v : Value} {n : Nat} {xs : List Value} {y0 y1 y2 y3 y4 y5 y6 y7 y8 : Value} (h : w'.ownsRow w.heap.size e size v n xs) (ho : w'.heap[w.heap.size + 1]? = some (.cells zeroRes 37 (0, 0))) (he : e ≠ 37) :
    (((((((((w'.setCell ⟨w.heap.size + 1, 0, none⟩ y0).setCell ⟨w.heap.size + 1, 1, none⟩ y1).setCell ⟨w.heap.size + 1, 2, none⟩ y2).setCell ⟨w.heap.size + 1, 3, none⟩ y3).setCell ⟨w.heap.size + 1, 4, none⟩ y4).setCell ⟨w.heap.size + 1, 5, none⟩ y5).setCell ⟨w.heap.size + 1, 6, none⟩ y6).setCell ⟨w.heap.size + 1, 7, none⟩ y7).setCell ⟨w.heap.size + 1, 8, none⟩ y8).drew.ownsRow w.heap.size e size v n xs := by
  have hne : v.ownBlock ≠ some (w.heap.size + 1) := fun eq => by
    rcases h.2 with ⟨e1, _⟩ | ⟨g', _, cur, hv, _, hh, _⟩
    · rw [e1] at eq; cases eq
    · rw [hv] at eq
      have e2 : g' = w.heap.size + 1 := by simpa [Value.ownBlock] using eq
      rw [e2, ho] at hh
      simp at hh
      exact he hh.2.symm
  refine owns_grown (w := (((((((((w'.setCell ⟨w.heap.size + 1, 0, none⟩ y0).setCell ⟨w.heap.size + 1, 1, none⟩ y1).setCell ⟨w.heap.size + 1, 2, none⟩ y2).setCell ⟨w.heap.size + 1, 3, none⟩ y3).setCell ⟨w.heap.size + 1, 4, none⟩ y4).setCell ⟨w.heap.size + 1, 5, none⟩ y5).setCell ⟨w.heap.size + 1, 6, none⟩ y6).setCell ⟨w.heap.size + 1, 7, none⟩ y7).setCell ⟨w.heap.size + 1, 8, none⟩ y8)) (r := none) ?_ (grown_drew (grown_refl _ _)) (fun _ e => by cases e)
  iterate 9 refine owns_setCell_ne ?_ hne
  exact h
theorem grown_out9 {w w' : World} {y0 y1 y2 y3 y4 y5 y6 y7 y8 : Value} (h : w.grownBy w' none) :
    w.grownBy (((((((((w'.setCell ⟨w.heap.size + 1, 0, none⟩ y0).setCell ⟨w.heap.size + 1, 1, none⟩ y1).setCell ⟨w.heap.size + 1, 2, none⟩ y2).setCell ⟨w.heap.size + 1, 3, none⟩ y3).setCell ⟨w.heap.size + 1, 4, none⟩ y4).setCell ⟨w.heap.size + 1, 5, none⟩ y5).setCell ⟨w.heap.size + 1, 6, none⟩ y6).setCell ⟨w.heap.size + 1, 7, none⟩ y7).setCell ⟨w.heap.size + 1, 8, none⟩ y8).drew none := by
  refine grown_drew ?_
  iterate 9 refine grown_setNew ?_ (by omega)
  exact h

/-- What schedule answers. -/
def Scheduled (p : List (List Ins)) (raw : List Int) (w : World) (e : Ending) (w' : World) : Prop :=
  ∃ sv rv a, e = .returned (.tuple #[sv, rv, .bool true]) ∧ w'.ownsRow w.heap.size 3 1 sv a.length (ints a) ∧ ResAt w.heap.size w' (runS p a) p.length rv ∧ Sched p a ∧ a.length ≤ 200 ∧
    ((a.length = raw.length ∨ a.length = 200) ∨ (runS p a).kind ≠ 5) ∧ w.grownBy w' none

theorem checkRun_ok {p : List (List Ins)} {s : List Int} (hv : vProg p = true) (hs : s.length ≤ 500) : checkRunN p s = 0 := by simp [checkRunN, hv, hs]


set_option maxHeartbeats 8000000 in
set_option maxRecDepth 100000 in
theorem schedule_m (p : List (List Ins)) (raw : List Int) (pv rv : Value) (w : World) (hS : ShpAt w) (hv : vProg p = true) (hP : ProgAt w pv p) (hR : IntsAt w.heap.size w rv raw)
    (hb : ∀ k (hk : k < raw.length), -9223372036854775808 ≤ raw[k] ∧ raw[k] ≤ 9223372036854775807) :
    Calls Tryd.prog 14 #[pv, rv] w (Scheduled p raw w) := by
  obtain ⟨i0, hi0, hz0, hz1, hz2⟩ := info_parts info_int
  have hlen := vProg_len hv
  have HSh := hide hS
  have HV := hide hv
  have HP := hide hP
  have HR := hide hR
  have HBd := hide hb
  obtain ⟨pao, pcap, rfl⟩ := hP.form
  obtain ⟨rao, rcap, rfl⟩ := hR.form
  clear hS hv hP hR hb
  have hn1 : (1 : Int) ≤ p.length := by omega
  have hn4 : (p.length : Int) ≤ 4 := by omega
  go_enter Tryd.func14, Tryd.ntmps14
  go_wp2_with fail
  have hg0 : ∀ a b, w.grownBy ((w.alloc a).alloc b) none := fun a b => grown_alloc (grown_alloc (grown_refl _ _))
  refine (awake_m _ (HSh.out.pres (pres_grown (hg0 _ _)))).mono ?_
  rintro e w1 ⟨rfl, hg1⟩
  have HG1 : Hid (w.grownBy w1 none) := grown_trans (hg0 _ _) hg1
  have hsz1 : w.heap.size + 2 ≤ w1.heap.size := by have := hg1.size; simpa using this
  have hb0 : w1.heap[w.heap.size]? = some (.cells #[.slice pao p.length pcap] 25 (0, 0)) := by
    rw [hg1.block w.heap.size (by simp; omega) (by simp), Below.heap_alloc _ _ _ (by simp)]; exact heap_alloc_new w _
  have hb1 : w1.heap[w.heap.size + 1]? = some (.cells zeroRes 37 (0, 0)) := by
    rw [hg1.block (w.heap.size + 1) (by simp) (by simp)]
    have := heap_alloc_new (w.alloc (.cells #[.slice pao p.length pcap] 25)) (.cells zeroRes 37)
    simpa [zeroRes] using this
  have HB0 := hide hb0
  have HB1 := hide hb1
  have c0 : w1.cell? ⟨w.heap.size, 0, none⟩ = some (.slice pao p.length pcap) := by simp [World.cell?, hb0]
  clear hg1 hb0 hb1 hg0
  go_wp2_with fail
  have hnil : IntsAt w1.heap.size w1 (.slice none 0 0) [] := ⟨none, 0, rfl, Nat.le_refl _, fun k hk => by simp at hk⟩
  refine (replay_m p [] _ _ _ (HSh.out.pres (pres_grown HG1.out)) (HP.out.pres (pres_grown HG1.out)) hnil).mono ?_
  clear hnil
  rintro e w2 ⟨hg2, h⟩
  rcases h with ⟨_, rv0, rfl, s1, g1, rfl, ho1, ho2⟩ | ⟨h, _⟩
  case inr => exact absurd (checkRun_ok HV.out (by simp)) h
  have HG2 : Hid (w.grownBy w2 none) := grown_trans HG1.out hg2
  have hsz2 : w.heap.size + 2 ≤ w2.heap.size := by have := hg2.size; omega
  obtain ⟨x1, x2, x3, rfl⟩ := owns_form ho1
  obtain ⟨y1, y2, y3, rfl⟩ := owns_form ho2
  have HST : Hid (SchAt w p (.slice pao p.length pcap) w2.heap.size [] (.slice none 0 0) (w2.alloc (.cells (resCells (runS p []) (.slice x1 x2 x3) (.slice y1 y2 y3)) 37))) := by
    have hgg : w2.grownBy (w2.alloc (.cells (resCells (runS p []) (.slice x1 x2 x3) (.slice y1 y2 y3)) 37)) none := grown_alloc (grown_refl _ _)
    have hlt : ∀ {e size : Nat} {v : Value} {n : Nat} {xs : List Value}, w2.ownsRow w1.heap.size e size v n xs → v.ownBlock ≠ some w2.heap.size := fun h e => by
      rcases h.2 with ⟨e1, _⟩ | ⟨g', _, _, hv, _, hh, _⟩
      · rw [e1] at e; cases e
      · rw [hv] at e
        have := (Array.getElem?_eq_some_iff.1 hh).1
        simp [Value.ownBlock] at e
        omega
    refine ⟨grown_trans HG2.out hgg, ⟨rfl, Or.inl ⟨rfl, rfl⟩⟩, fun _ => rfl, by simp [Value.ownBlock], ⟨_, _, heap_alloc_new w2 _, owns_grown (owns_mono ho1 (by omega)) hgg (fun _ e => by cases e), owns_grown (owns_mono ho2 (by omega)) hgg (fun _ e => by cases e), hlt ho1, hlt ho2⟩, ?_, ?_, hsz2, by simp, sched_nil p⟩
    · rw [hgg.block _ (by omega) (by simp), hg2.block _ (by omega) (by simp)]; exact HB0.out
    · rw [hgg.block _ (by omega) (by simp), hg2.block _ (by omega) (by simp)]; exact HB1.out
  have hk0 : (runS p []).kind = endingS p St.zero := rfl
  clear hg2 ho1 ho2 c0 hk0
  go_wp2
  go_loopw [8, 11] (fun sv i w' => ∃ (k : Nat) (a : List Int), k ≤ raw.length ∧ k ≤ 200 ∧ i = .int .i64 k ∧ a.length = k ∧ Hid (SchAt w p (.slice pao p.length pcap) w2.heap.size a sv w')) (fun _ i _ => raw.length - (intOf i).toNat)
  case atStart => exact ⟨0, [], Nat.zero_le _, by omega, rfl, rfl, HST⟩
  case round =>
    obtain ⟨k, a, hk, hk2, rfl, hak, HI⟩ := hrel
    obtain ⟨w3, hw3⟩ : ∃ w3, w3 = wr := ⟨_, rfl⟩
    subst hw3
    obtain ⟨s1, g1, hres, ho1, ho2, _, _⟩ := HI.out.res
    obtain ⟨x1', x2', x3', rfl⟩ := owns_form ho1
    obtain ⟨y1', y2', y3', rfl⟩ := owns_form ho2
    have HO1 := hide ho1
    have HO2 := hide ho2
    obtain ⟨r0, r1, r2, r3, r4, r5, r6, r7, r8, rf⟩ := nine_cells hres
    have c0 : w3.cell? ⟨w.heap.size, 0, none⟩ = some (.slice pao p.length pcap) := by simp [World.cell?, HI.out.box]
    have HSD := hide HI.out.good
    have hx2 : x2' = a.length := (owns_lenq ho1).trans HI.out.good.2
    subst hx2
    clear rf hres ho1 ho2
    by_cases hgo : (k < raw.length ∧ k < 200) ∧ (runS p a).kind = 5
    · obtain ⟨⟨hg1, hg2⟩, hg5⟩ := hgo
      have H5 := hide hg5
      rw [hg5] at r0
      clear hg5 r1 r2 r3 r4 r5 r6 r7 r8
      obtain ⟨rg, ro, rfl, hrg, hrc⟩ : ∃ g o, rao = some ⟨g, o, none⟩ ∧ g < w.heap.size ∧ w.cell? ⟨g, o + k, none⟩ = some (.int .i64 raw[k]) := by
        obtain ⟨ao', cap', e, _, h⟩ := HR.out
        simp at e
        obtain ⟨rfl, rfl⟩ := e
        obtain ⟨g, o, e1, e2, e3⟩ := h k hg1
        exact ⟨g, o, e1, e2, e3⟩
      have hrc3 := pres_grown HI.out.grown _ _ hrc
      have hbd := HBd.out k hg1
      have hi0' : (0 : Int) ≤ (k : Int) := by omega
      have hi1' : (k : Int) < raw.length := by omega
      have hi2' : (k : Int) < 200 := by omega
      clear hrc
      generalize raw[k] = c at *
      have hpk := pickN_range c p.length (by omega)
      have HPK := hide (pick_m c p.length (by omega) (by omega) hbd.1 hbd.2)
      go_wp2_with fail
      go_quiet ((go_at_call 12; exact Calls.quiet_of_same (HPK.out _)))
      clear HPK hrc3 r0
      generalize pickN c p.length = f at *
      have HI' : Hid (SchAt w p (.slice pao p.length pcap) w2.heap.size a u8 (w3.drewN nq)) := HI.out.step (grown_drewN _ (grown_refl _ _))
      go_wp2_with fail
      go_loopw [8, 13, 14] (fun sv d j w' => ∃ k' : Nat, k' ≤ p.length ∧ j = .int .i64 k' ∧
          ((d = .bool false ∧ Hid (SchAt w p (.slice pao p.length pcap) w2.heap.size a sv w') ∧ Hid (∀ q : Nat, q < k' → (runS p (a ++ [(f + q) % p.length])).kind = 2)) ∨
           (d = .bool true ∧ ∃ b : List Int, b.length = k + 1 ∧ Hid (SchAt w p (.slice pao p.length pcap) w2.heap.size b sv w')))) (fun _ _ j _ => p.length - (intOf j).toNat)
      case atStart => exact ⟨0, Nat.zero_le _, rfl, Or.inl ⟨rfl, HI', fun q hq => by omega⟩⟩
      case round =>
        obtain ⟨k', hk', rfl, hrel⟩ := hrel
        rcases hrel with ⟨rfl, HJ, HN⟩ | ⟨rfl, b, hbl, HJ⟩
        · have c0' : wr.cell? ⟨w.heap.size, 0, none⟩ = some (.slice pao p.length pcap) := by simp [World.cell?, HJ.out.box]
          by_cases hlt : k' < p.length
          · have hq0 : (0 : Int) ≤ (k' : Int) := by omega
            have hq1 : (k' : Int) < p.length := by omega
            have hal : a.length ≤ 199 := by omega
            have hb63 : a.length ≤ maxLen := by unfold maxLen; omega
            have hc63 : a.length + 1 ≤ maxLen := by unfold maxLen; omega
            go_wp2_with (first
              | (at_builtin; refine wpList_append_copy rfl _ _ _ rfl 3 i0 _ 8 Tryd.underlying22 hi0 hz0 hz1 hz2 rfl rfl u8 rfl w.heap.size a.length (ints a) HJ.out.row (fun e => HJ.out.nil (List.length_eq_zero_iff.1 e)) (ints_one a) hb63 (by omega) ?_; intro ta tn tc w4 hown4 hg4 _; have c4 : w4.cell? ⟨w.heap.size, 0, none⟩ = some (.slice pao p.length pcap) := (pres_grown hg4 _ _ c0'))
              | (at_builtin; refine wpList_append_lies _ rfl _ _ _ rfl wr.heap.size 3 i0 _ 1 8 Tryd.underlying22 hi0 hz0 hz1 hz2 rfl (by omega) (.slice ta tn tc) a.length (ints a) rfl (owns_alloc hown4) ⟨w4.heap.size, 0, none⟩ 1 1 [.int .i64 ((f + k') % p.length)] rfl rfl (World.news_of_block (cs := #[.int .i64 ((f + k') % p.length)]) (t := 3) (fr := (0, 0)) (heap_alloc_new w4 _)) (by simp [Value.oneCell']) (by omega) hc63 (by omega) (by have := hg4.size; simp; omega) (w4.heap.size + 1) (by simp) ?_; intro g5 cap5 w5 hown5 hgrow hat hlt5; have hg5 : wr.grownBy w5 none := (grown_row (grown_alloc hg4) hgrow (fun q e => owns_block hown4 q e)); have c5 : w5.cell? ⟨w.heap.size, 0, none⟩ = some (.slice pao p.length pcap) := (pres_grown hg5 _ _ c0')))
            have HG5 := hide hg5
            have hbl : (a ++ [(f + k') % p.length]).length = k + 1 := by simp [hak]
            have HO5 : Hid (w5.ownsRow wr.heap.size 3 1 (.slice (some ⟨g5, 0, none⟩) (k + 1) cap5) (a ++ [(f + k') % p.length]).length (ints (a ++ [(f + k') % p.length]))) := by
              unfold Hid
              rw [ints_snoc, hbl]
              rw [hak] at hown5
              exact hown5
            clear hg4 hg5 hgrow hat hown4 hown5 c4
            have HSh5 : Hid (ShpAt w5) := HSh.out.pres (pres_grown (grown_trans HJ.out.grown HG5.out))
            have HP5 := hide (HP.out.pres (pres_grown (grown_trans HJ.out.grown HG5.out)))
            have HI5 := hide (owns_ints HO5.out)
            have HRP := hide (replay_m p (a ++ [(f + k') % p.length]) _ _ w5 HSh5.out HP5.out HI5.out)
            refine (unhide HRP).mono ?_
            clear HRP
            rintro e w6 ⟨hg6, h⟩
            rcases h with ⟨_, rv6, rfl, s6, g6, rfl, ho6, hp6⟩ | ⟨h, _⟩
            case inr => exact absurd (checkRun_ok HV.out (by rw [hbl]; omega)) h
            obtain ⟨z1, z2, z3, rfl⟩ := owns_form ho6
            obtain ⟨z4, z5, z6, rfl⟩ := owns_form hp6
            have hrbl := HJ.out.hi
            have hg5s := HG5.out.size
            have HG6 : Hid (wr.grownBy w6 none) := grown_trans HG5.out hg6
            have HO6 : Hid (w6.ownsRow wr.heap.size 3 1 (.slice (some ⟨g5, 0, none⟩) (k + 1) cap5) (a ++ [(f + k') % p.length]).length (ints (a ++ [(f + k') % p.length]))) := owns_grown HO5.out hg6 (fun _ e => by cases e)
            have HS6 := hide ho6
            have HR6 := hide hp6
            have HJ6 : Hid (SchAt w p (.slice pao p.length pcap) w2.heap.size a u8 w6) := HJ.out.step HG6.out
            clear hg6 ho6 hp6 c5 HO5 HSh5 HP5 HI5 c0'
            generalize hx : (f + (k' : Int)) % (p.length : Int) = x at *
            have HX := hide hx
            clear hx
            obtain ⟨q1, q2, hq3, _⟩ := HJ6.out.res
            obtain ⟨n0, n1, n2, n3, n4, n5, n6, n7, n8, nf⟩ := nine_cells hq3
            have dfa : ∀ (o : Obj) (j : Nat), (w6.alloc o).frozen? ⟨w2.heap.size, j, none⟩ = false := fun o j => by
              rw [World.frozen?_alloc_old _ _ _ (by have := HJ6.out.hi; simp; omega)]; exact nf j
            clear nf hq3
            by_cases h2 : (runS p (a ++ [x])).kind = 2
            · have HN' : Hid (∀ q : Nat, q < k' + 1 → (runS p (a ++ [(f + q) % p.length])).kind = 2) := fun q hq => by
                by_cases e : q = k'
                · rw [e, HX.out]; exact h2
                · exact HN.out q (by omega)
              have hkd : ((runS p (a ++ [x])).kind != 2) = false := by simp [h2]
              clear h2
              go_wp2
              go_roundw
              case rel => exact ⟨k' + 1, by omega, by go_num, Or.inl ⟨rfl, HJ6.out.step (grown_alloc (grown_refl _ _)), HN'⟩⟩
              case measure => simp [intOf]; omega
            · have H2 := hide h2
              have hkd : ((runS p (a ++ [x])).kind != 2) = true := by simpa using h2
              clear h2
              have hrb2 : ∀ {v : Value} {bs e size n : Nat} {xs : List Value}, w6.ownsRow bs e size v n xs → wr.heap.size ≤ bs → v.ownBlock ≠ some w2.heap.size := fun h hb e => by
                have := owns_block h _ e; omega
              have HE := hide (SchAt.set (HJ6.out.step (w'' := w6.alloc (.cells (resCells (runS p (a ++ [x])) (.slice z1 z2 z3) (.slice z4 z5 z6)) 37)) (grown_alloc (grown_refl _ _))) (b := a ++ [x]) (by simp) (owns_alloc (owns_mono HO6.out (by have := HJ.out.grown.size; omega))) (hrb2 HO6.out (Nat.le_refl _)) (owns_alloc (owns_mono HS6.out (by have := HJ.out.grown.size; omega))) (owns_alloc (owns_mono HR6.out (by have := HJ.out.grown.size; omega))) (hrb2 HS6.out hg5s) (hrb2 HR6.out hg5s) (sched_snoc H5.out H2.out))
              go_wp2
              go_roundw
              case rel => exact ⟨k' + 1, by omega, by go_num, Or.inr ⟨rfl, a ++ [x], hbl, HE⟩⟩
              case measure => simp [intOf]; omega
          · have hke : k' = p.length := by omega
            exfalso
            obtain ⟨q, hq, hne⟩ := open_round H5.out hpk.1 hpk.2
            exact hne (HN.out q (by omega))
        · have c0' : wr.cell? ⟨w.heap.size, 0, none⟩ = some (.slice pao p.length pcap) := by simp [World.cell?, HJ.out.box]
          by_cases hlt : k' < p.length
          · have hq0 : (0 : Int) ≤ (k' : Int) := by omega
            have hq1 : (k' : Int) < p.length := by omega
            go_wp2
            go_roundw
            case rel => exact ⟨k + 1, b, by omega, by omega, by go_num, hbl, HJ⟩
            case measure => simp [intOf]; omega
          · have hq1 : (p.length : Int) ≤ k' := by omega
            go_wp2
            go_roundw
            case rel => exact ⟨k + 1, b, by omega, by omega, by go_num, hbl, HJ⟩
            case measure => simp [intOf]; omega
    · have HNG := hide hgo
      clear hgo
      obtain ⟨v1, v2, v3, hu8⟩ := owns_form HI.out.row
      subst hu8
      have hv2 : v2 = a.length := owns_lenq HI.out.row
      subst hv2
      obtain ⟨t0, t1, t2, t3, t4, t5, t6, t7, t8, tf⟩ := nine_cells HI.out.out
      have tf0 := tf 0
      have tf1 := tf 1
      have tf2 := tf 2
      have tf3 := tf 3
      have tf4 := tf 4
      have tf5 := tf 5
      have tf6 := tf 6
      have tf7 := tf 7
      have tf8 := tf 8
      clear tf
      have hlo := HI.out.lo
      have hne1 : w2.heap.size ≠ w.heap.size + 1 := by omega
      have hne2 : w.heap.size + 1 ≠ w2.heap.size := by omega
      have HEND : Hid ((a.length = raw.length ∨ a.length = 200) ∨ (runS p a).kind ≠ 5) := by
        by_cases h5 : (runS p a).kind = 5
        · refine Or.inl ?_
          have : ¬ (k < raw.length ∧ k < 200) := fun h => HNG.out ⟨h, h5⟩
          omega
        · exact Or.inr h5
      by_cases h1 : k < raw.length
      · by_cases h2 : k < 200
        · have h5 : (runS p a).kind ≠ 5 := fun h5 => HNG.out ⟨⟨h1, h2⟩, h5⟩
          have h5' : ((runS p a).kind == 5) = false := by simpa using h5
          have hi0' : (0 : Int) ≤ (k : Int) := by omega
          have hi1' : (k : Int) < raw.length := by omega
          have hi2' : (k : Int) < 200 := by omega
          go_wp2_with fail
          go_region
          all_goals go_wp2_with fail
          all_goals (
            refine bodyPost_ret (v := .tuple #[.slice v1 a.length v3, .agg (resCells (runS p a) (.slice x1' a.length x3') (.slice y1' y2' y3')), .bool true]) ?_ rfl ⟨_, _, a, rfl, ?_, ⟨_, _, rfl, ?_, ?_⟩, HSD.out, by omega, HEND.out, ?_⟩
            · simp [results, Tryd.results14, go_sem, t0, t1, t2, t3, t4, t5, t6, t7, t8, resCells, hak]
            · exact owns_out9 HI.out.row HI.out.out (by decide)
            · exact owns_out9 HO1.out HI.out.out (by decide)
            · exact owns_out9 HO2.out HI.out.out (by decide)
            · exact grown_out9 HI.out.grown)
        · have hi0' : (0 : Int) ≤ (k : Int) := by omega
          have hi1' : (k : Int) < raw.length := by omega
          have hi2' : (200 : Int) ≤ (k : Int) := by omega
          go_wp2_with fail
          go_region
          all_goals go_wp2_with fail
          all_goals (
            refine bodyPost_ret (v := .tuple #[.slice v1 a.length v3, .agg (resCells (runS p a) (.slice x1' a.length x3') (.slice y1' y2' y3')), .bool true]) ?_ rfl ⟨_, _, a, rfl, ?_, ⟨_, _, rfl, ?_, ?_⟩, HSD.out, by omega, HEND.out, ?_⟩
            · simp [results, Tryd.results14, go_sem, t0, t1, t2, t3, t4, t5, t6, t7, t8, resCells, hak]
            · exact owns_out9 HI.out.row HI.out.out (by decide)
            · exact owns_out9 HO1.out HI.out.out (by decide)
            · exact owns_out9 HO2.out HI.out.out (by decide)
            · exact grown_out9 HI.out.grown)
      · have hi0' : (0 : Int) ≤ (k : Int) := by omega
        have hi1' : (raw.length : Int) ≤ k := by omega
        go_wp2_with fail
        go_region
        all_goals go_wp2_with fail
        all_goals (
          refine bodyPost_ret (v := .tuple #[.slice v1 a.length v3, .agg (resCells (runS p a) (.slice x1' a.length x3') (.slice y1' y2' y3')), .bool true]) ?_ rfl ⟨_, _, a, rfl, ?_, ⟨_, _, rfl, ?_, ?_⟩, HSD.out, by omega, HEND.out, ?_⟩
          · simp [results, Tryd.results14, go_sem, t0, t1, t2, t3, t4, t5, t6, t7, t8, resCells, hak]
          · exact owns_out9 HI.out.row HI.out.out (by decide)
          · exact owns_out9 HO1.out HI.out.out (by decide)
          · exact owns_out9 HO2.out HI.out.out (by decide)
          · exact grown_out9 HI.out.grown)


end Go.Proofs.YtklenjmfalljgaaDoor

/- The walk of Form. -/
namespace Go.Proofs.YtklenjmfalljgaaDoor
open Go.RowKit
attribute [local go_sem] Go.World.cell?_alloc_some

theorem grown_fromDrew {w w' : World} (h : w.drew.grownBy w' none) : w.grownBy w' none := ⟨h.os, h.tape, h.output, h.size, h.block⟩
theorem steps_le (p : List (List Ins)) (l : List Int) : (runS p l).steps.length ≤ l.length := by
  obtain ⟨m, h1, h2, h3, _⟩ := follow_fst p l 0 St.zero []
  unfold runS
  simp at h3
  omega
theorem check_none {p : List (List Ins)} {s : List Int} (h0 : checkRunN p s = 0) : vProg p = true ∧ s.length ≤ 500 := by
  unfold checkRunN at h0
  by_cases hv : vProg p = true
  · by_cases h5 : s.length ≤ 500
    · exact ⟨hv, h5⟩
    · simp [hv, h5] at h0
  · simp [hv] at h0
/-- Form of a run's answer, whatever world it lies in. -/
theorem layForm_run {p : List (List Ins)} (hp : vProg p = true) (s : List Int) (h5 : s.length ≤ 500) {base : Nat} {u : World} {rv : Value} (hR : ResAt base u (runS p s) p.length rv) (w : World) (hg : u.grownBy w none) (pv : Value) (hP : ProgAt w pv p) :
    Calls Tryd.prog 68 #[pv, rv] w fun e w' => ∃ v, e = .returned v ∧ w'.ownsRow w.heap.size 3 1 v (formS p (runS p s)).length (ints (formS p (runS p s))) ∧ w.grownBy w' none := by
  obtain ⟨xs, hSt⟩ := stood_of hp s
  obtain ⟨sv, gv, rfl, ho1, ho2⟩ := hR
  obtain ⟨x1, x2, x3, rfl⟩ := owns_form ho1
  obtain ⟨y1, y2, y3, rfl⟩ := owns_form ho2
  have hl : (runS p s).steps.length = xs.length := by rw [hSt.st]; simp
  have hx2 := owns_lenq ho1
  subst hx2
  have hle := steps_le p s
  have h1 := owns_grown ho1 hg (fun _ e => by cases e)
  rw [hl] at h1 ⊢
  have := layForm_m hp hSt (by omega) w pv hP base x1 x3 h1 ((runS p s).st.vars 0) ((runS p s).st.vars 1) ((runS p s).st.vars 2) ((runS p s).st.vars 3) y1 y2 y3
  unfold formS
  rw [hSt.ev]
  exact this

/-- What Form answers. -/
def Formd (p : List (List Ins)) (s : List Int) (w : World) (e : Ending) (w' : World) : Prop :=
  w.grownBy w' none ∧
  ((checkRunN p s = 0 ∧ ∃ v, e = .returned (.tuple #[v, .int .i64 0]) ∧ w'.ownsRow w.heap.size 3 1 v (formS p (runS p s)).length (ints (formS p (runS p s)))) ∨
   (checkRunN p s ≠ 0 ∧ e = .returned (.tuple #[.slice none 0 0, .int .i64 (checkRunN p s)])))

set_option maxHeartbeats 4000000 in
set_option maxRecDepth 100000 in
theorem form_m (p : List (List Ins)) (s : List Int) (pv sv : Value) (w : World) (hS : ShpAt w) (hP : ProgAt w pv p) (hI : IntsAt w.heap.size w sv s) :
    Calls Tryd.prog 31 #[pv, sv] w (Formd p s w) := by
  have HSh := hide hS
  have HP := hide hP
  have HI := hide hI
  obtain ⟨ao, cap, rfl⟩ := hP.form
  obtain ⟨so, sc, rfl⟩ := hI.form
  clear hS hP hI
  go_enter Tryd.func31, Tryd.ntmps31
  go_wp2_with fail
  have hg0 : ∀ a b, w.grownBy ((w.alloc a).alloc b) none := fun a b => grown_alloc (grown_alloc (grown_refl _ _))
  refine (checkRun_m p [s] _ _ _ (HSh.out.pres (pres_grown (hg0 _ _))) (HP.out.pres (pres_grown (hg0 _ _))) (lists_one (by simp)) (by simp)).mono ?_
  rw [checkRuns_one]
  rintro e w1 ⟨rfl, hg1⟩
  have HG1 : Hid (w.grownBy w1 none) := grown_trans (hg0 _ _) hg1
  have hb0 : w1.heap[w.heap.size]? = some (.cells #[.slice ao p.length cap] 25 (0, 0)) := by
    rw [hg1.block w.heap.size (by simp; omega) (by simp), Below.heap_alloc _ _ _ (by simp)]; exact heap_alloc_new w _
  have c0 : w1.cell? ⟨w.heap.size, 0, none⟩ = some (.slice ao p.length cap) := by simp [World.cell?, hb0]
  clear hb0 hg1
  by_cases h0 : checkRunN p s = 0
  · have H0 := hide h0
    obtain ⟨hv, h5⟩ := check_none h0
    have HV := hide hv
    rw [h0]
    clear h0 hv
    go_wp2_with fail
    refine wp_region_head (fun u => u.cell? ⟨w.heap.size, 0, none⟩ = some (.slice ao p.length cap)) 7 (by kernel_rfl) (by kernel_rfl) c0 ?_
    intro hHeld
    refine wpHead_take (i := 0) (v := ?vva0) rfl (by kernel_rfl) (fun _ _ _ h => h) (Or.inl ⟨by rfl, ?hya0⟩) hHeld ?resta0
    case hya0 => (intro u hu; go_simp; try with_reducible rfl)
    simp only [Act.put, List.setIfInBounds_toArray]
    refine wpHead_take (i := 1) (v := ?vva1) rfl (by kernel_rfl) (fun _ _ _ h => h) (Or.inl ⟨by rfl, ?hya1⟩) hHeld ?resta1
    case hya1 => (intro u hu; go_simp; try with_reducible rfl)
    simp only [Act.put]
    refine wpHead_take (i := 3) (v := ?vva3) rfl (by kernel_rfl) (fun _ _ _ h => h) (Or.inl ⟨by rfl, ?hya3⟩) hHeld ?resta3
    case hya3 => (intro u hu; go_simp; try with_reducible rfl)
    simp only [Act.put]
    refine wpHead_alone (i := 2) rfl (by kernel_rfl) (by kernel_rfl) (by rfl) ?_
    intro K2 hK2
    have HK2 := hide hK2
    clear hK2
    go_simp
    refine (new_m HV.out (HP.out.pres (pres_grown (grown_drew HG1.out)))).mono ?_
    rintro e w2 ⟨m, rfl, hM, hg2⟩
    have HM := hide hM
    have HG12 : Hid (w1.grownBy w2 none) := grown_fromDrew hg2
    have HG2 : Hid (w.grownBy w2 none) := grown_trans HG1.out HG12.out
    have hHeld2 : w2.cell? ⟨w.heap.size, 0, none⟩ = some (.slice ao p.length cap) := pres_grown HG12.out _ _ c0
    refine HK2.out _ _ hHeld2 ?_
    clear HK2 hM hg2
    try simp only [Act.put, List.setIfInBounds_toArray]
    refine wpHead_alone (i := 4) rfl (by kernel_rfl) (by kernel_rfl) (by rfl) ?_
    intro K4 hK4
    have HK4 := hide hK4
    clear hK4
    go_simp
    refine (run_m HV.out HM.out (Nat.le_refl _) ((HI.out.pres (pres_grown HG2.out)).mono HG2.out.size) h5).mono ?_
    rintro e w3 ⟨rv, rfl, hR, hg3⟩
    have HR := hide hR
    have HG3 : Hid (w.grownBy w3 none) := grown_trans HG2.out hg3
    have hHeld3 : w3.cell? ⟨w.heap.size, 0, none⟩ = some (.slice ao p.length cap) := pres_grown hg3 _ _ hHeld2
    refine HK4.out _ _ hHeld3 ?_
    clear HK4 hR hg3
    try simp only [Act.put, List.setIfInBounds_toArray]
    refine wpHead_alone (i := 5) rfl (by kernel_rfl) (by kernel_rfl) (by rfl) ?_
    intro K5 hK5
    have HK5 := hide hK5
    clear hK5
    go_simp
    refine (layForm_run HV.out s h5 HR.out w3 (grown_refl _ _) _ (HP.out.pres (pres_grown HG3.out))).mono ?_
    rintro e w4 ⟨fv, rfl, hF, hg4⟩
    obtain ⟨f1, f2, f3, rfl⟩ := owns_form hF
    have HF := hide hF
    have HG4 : Hid (w.grownBy w4 none) := grown_trans HG3.out hg4
    have hHeld4 : w4.cell? ⟨w.heap.size, 0, none⟩ = some (.slice ao p.length cap) := pres_grown hg4 _ _ hHeld3
    refine HK5.out _ _ hHeld4 ?_
    clear HK5 hF hg4
    try simp only [Act.put, List.setIfInBounds_toArray]
    refine wpHead_take (i := 6) (v := ?vvb6) rfl (by kernel_rfl) (fun _ _ _ h => h) (Or.inl ⟨by rfl, ?hyb6⟩) hHeld4 ?restb6
    case hyb6 => (intro u hu; go_simp; try with_reducible rfl)
    simp only [Act.put, List.setIfInBounds_toArray]
    refine wpHead_last rfl (by kernel_rfl) (by kernel_rfl) (by rfl) ?_
    go_simp
    go_wp2_with fail
    exact bodyPost_ret (v := .tuple #[.slice f1 f2 f3, .int .i64 0]) (by simp [results, Tryd.results31, go_sem]) rfl ⟨HG4.out, Or.inl ⟨H0.out, _, rfl, owns_mono HF.out HG3.out.size⟩⟩
  · have H0 := hide h0
    have hne : (checkRunN p s != 0) = true := by simpa using h0
    clear h0
    generalize hE : checkRunN p s = e at *
    have HE := hide hE
    clear hE
    go_wp2_with fail
    exact bodyPost_ret (v := .tuple #[.slice none 0 0, .int .i64 e]) (by simp [results, Tryd.results31, go_sem]) rfl ⟨HG1.out, Or.inr ⟨by rw [HE.out]; exact H0.out, by rw [HE.out]⟩⟩

end Go.Proofs.YtklenjmfalljgaaDoor
