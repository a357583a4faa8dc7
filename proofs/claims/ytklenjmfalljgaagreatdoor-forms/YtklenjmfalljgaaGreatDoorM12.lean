/- The texts Fhd Frt Fhe Fhf. -/
import Derived.Test.YtklenjmfalljgaaGreatDoorM11
import Derived.Sort.Grow
import Derived.Deep.Draws
import Derived.Test.YtklenjmfalljgaaGreatDoorSrt

/- The walk of place. -/
namespace Go.Proofs.YtklenjmfalljgaaGreatDoor
open Go.RowKit Go.Maps
attribute [local go_sem] Go.World.cell?_alloc_some

theorem vIns_ab {i : Ins} {len : Int} (h : vIns i len = true) : 0 ≤ i.a ∧ i.a < 4 ∧ 0 ≤ i.b ∧ i.b < 4 := by
  obtain ⟨h1, h2⟩ := vIns_op h
  obtain ⟨h3, h4, h5⟩ := vIns_parts h
  have hc : i.op = 1 ∨ i.op = 2 ∨ i.op = 3 ∨ i.op = 4 ∨ i.op = 5 ∨ i.op = 6 ∨ i.op = 7 ∨ i.op = 8 ∨ i.op = 9 ∨ i.op = 10 ∨ i.op = 11 := by omega
  rcases hc with e | e | e | e | e | e | e | e | e | e | e <;> rw [e] at h3 h4 h5 <;> simp [shp, fitsB, belowB] at h3 h4 h5 <;> omega
theorem uses_small {t : Nat} {i : Ins} (ht : t < 4) (ha : i.a < 4) (hb : i.b < 4) : (∀ u ∈ usesI t i, smallU u) ∧ (usesI t i).length ≤ 10 := by
  unfold usesI smallU
  by_cases h9 : i.op = 9 ∨ i.op = 10
  · simp [h9]; omega
  · by_cases h2 : i.op = 2
    · simp [h2]; omega
    · by_cases h3 : i.op = 3
      · simp [h3]; omega
      · simp [h9, h2, h3]; omega

def pairI (q : Nat × Nat) : Int × Int := ((q.1 : Int), (q.2 : Int))
/-- The cells of pairs. -/
def flatK (ks : List (Nat × Nat)) : List Value := flatS (ks.map pairI)
theorem flatK_len (ks : List (Nat × Nat)) : (flatK ks).length = ks.length * 2 := by
  induction ks with
  | nil => rfl
  | cons x r ih => simp only [flatK, flatS, List.map_cons, List.flatMap_cons, List.length_append] at *; simp at *; omega
theorem flatK_snoc (ks : List (Nat × Nat)) (q : Nat × Nat) : flatK (ks ++ [q]) = flatK ks ++ [.int .i64 (q.1 : Int), .int .i64 (q.2 : Int)] := by
  unfold flatK; rw [List.map_append, List.map_cons, List.map_nil, flatS_snoc]; rfl
theorem row_set2 (L : List Value) (x y : Value) (i n : Nat) (hl : L.length = i * 2) (hi : i < n) : ((L ++ List.replicate ((n - i) * 2) (Value.int .i64 0)).set (i * 2) x).set (i * 2 + 1) y = (L ++ [x, y]) ++ List.replicate ((n - (i + 1)) * 2) (Value.int .i64 0) := by
  obtain ⟨k, hk⟩ : ∃ k, (n - i) * 2 = k + 2 ∧ (n - (i + 1)) * 2 = k := ⟨(n - (i + 1)) * 2, by omega, rfl⟩
  rw [hk.1, hk.2, List.set_append, if_neg (by omega), hl, Nat.sub_self, List.replicate_succ, List.set_cons_zero, List.set_append, if_neg (by omega), hl]
  have e : i * 2 + 1 - i * 2 = 1 := by omega
  rw [e, List.replicate_succ]
  simp

theorem info_placed : ((Tryz.prog.info? 161).map fun i => (i.zero, i.size, i.bytes)) = some (some (.agg #[.int .i64 0, .int .i64 0]), 2, 16) := by kernel_rfl
theorem made_two (n : Nat) : (madeCells #[Value.int .i64 0, .int .i64 0] n).toList = List.replicate n (.int .i64 0) := by
  apply List.ext_getElem (by simp [madeCells])
  intro i h1 h2
  simp only [madeCells, Array.toList_map, List.getElem_map, List.getElem_replicate]
  have : i < n := by simpa using h2
  simp only [Array.toList_range, List.getElem_range]
  rcases (by omega : i % 2 = 0 ∨ i % 2 = 1) with h | h <;> simp [h]

theorem flatS_at : ∀ (l : List (Int × Int)) (j : Nat) (hj : j < l.length), (flatS l)[j * 2]? = some (.int .i64 l[j].1) ∧ (flatS l)[j * 2 + 1]? = some (.int .i64 l[j].2)
  | [], j, hj => by simp at hj
  | x :: l, 0, hj => by simp [flatS]
  | x :: l, j + 1, hj => by
    have h := flatS_at l j (by simpa using hj)
    have e : flatS (x :: l) = [.int .i64 x.1, .int .i64 x.2] ++ flatS l := by simp [flatS]
    have e2 : ∀ q, (flatS (x :: l))[(j + 1) * 2 + q]? = (flatS l)[j * 2 + q]? := fun q => by
      rw [e, List.getElem?_append_right (by simp; omega)]
      congr 1
      simp; omega
    refine ⟨?_, ?_⟩
    · have := e2 0; simp only [Nat.add_zero] at this; rw [this]; simpa using h.1
    · rw [e2 1]; simpa using h.2
theorem steps_at {w : World} {base : Nat} {ao : Option Addr} {c : Nat} {xs : List Ev} {o : Out} (h : w.ownsRow base 84 2 (.slice ao xs.length c) xs.length (flatS o.steps)) (he : o.steps = xs.map Ev.pr) {j : Nat} (hj : j < xs.length) :
    ∃ g, ao = some ⟨g, 0, none⟩ ∧ w.cell? ⟨g, j * 2, none⟩ = some (.int .i64 (xs[j].t : Int)) ∧ w.cell? ⟨g, j * 2 + 1, none⟩ = some (.int .i64 xs[j].k) := by
  rcases h.2 with ⟨_, e⟩ | ⟨g, cap, _, e, _⟩
  · omega
  · simp only [Value.slice.injEq, true_and] at e
    obtain ⟨rfl, rfl⟩ := e
    have hj' : j < o.steps.length := by rw [he]; simpa using hj
    have q := flatS_at o.steps j hj'
    have e1 : o.steps[j] = xs[j].pr := by simp [he]
    rw [e1] at q
    exact ⟨g, rfl, by rw [h.cellAt _ (by omega)]; exact q.1, by rw [h.cellAt _ (by omega)]; exact q.2⟩
theorem ins_at {w : World} {ao : Option Addr} {cap : Nat} {p : List (List Ins)} (hP : ProgAt w (.agg #[.slice ao p.length cap]) p) {t : Nat} (ht : t < p.length) {k : Nat} (hk : k < (codeOf p t).length) :
    ∃ g o ca cc cg co, ao = some ⟨g, o, none⟩ ∧ ca = some ⟨cg, co, none⟩ ∧ w.cell? ⟨g, o + t, none⟩ = some (.slice ca (codeOf p t).length cc) ∧ w.cell? ⟨cg, co + k * 4, none⟩ = some (.int .i64 (insAt p t k).op) ∧ w.cell? ⟨cg, co + k * 4 + 1, none⟩ = some (.int .i64 (insAt p t k).a) ∧ w.cell? ⟨cg, co + k * 4 + 2, none⟩ = some (.int .i64 (insAt p t k).b) ∧ w.cell? ⟨cg, co + k * 4 + 3, none⟩ = some (.int .i64 (insAt p t k).n) := by
  obtain ⟨ao', cap', e, h⟩ := hP
  simp at e
  obtain ⟨rfl, rfl⟩ := e
  obtain ⟨g, o, e1, rv, c0, ca, cc, e2, h2⟩ := h t ht
  have ec := codeOf_get ht
  rw [← ec] at h2 e2
  obtain ⟨cg, co, e3, k0, k1, k2, k3⟩ := h2 k hk
  have ei : insAt p t (k : Int) = (codeOf p t)[k] := by rw [insAt_get (by simpa using hk)]; simp
  rw [ei]
  exact ⟨g, o, ca, cc, cg, co, e1, e3, by rw [c0, e2], k0, k1, k2, k3⟩

theorem HistAt.keptRow {w w' : World} {b n r : Nat} {F : Use → Nat} (h : HistAt w b n F) (hg : w.grownBy w' (some r)) (hr : r ≠ b) : HistAt w' b n F := by
  obtain ⟨D, h1, h2⟩ := h
  exact ⟨D, h1.kept hg (by simpa using Ne.symm hr), h2⟩
theorem HistAt.mono {w : World} {b n n' : Nat} {F : Use → Nat} (h : HistAt w b n F) (hn : n ≤ n') : HistAt w b n' F := by
  obtain ⟨D, h1, h2⟩ := h
  exact ⟨D, h1.mono hn, h2⟩
theorem grown_cell {w : World} {g o : Nat} {v : Value} : w.grownBy (w.setCell ⟨g, o, none⟩ v) (some g) := ⟨rfl, rfl, rfl, by simp, fun k _ hk => Below.heap_setCell _ _ _ _ (by simp at hk ⊢; omega)⟩

/-- In the midst of place: i steps stand. -/
structure PlIn (p : List (List Ins)) (xs : List Ev) (W w' : World) (gl gm i h : Nat) : Prop where
  row : w'.heap[gl]? = some (.cells (flatK ((tl (depE p) [] (xs.take i)).map keyE) ++ List.replicate ((xs.length - i) * 2) (Value.int .i64 0)).toArray 161 (0, 0))
  his : HistAt w' gm (i * 10) (histOf p (tl (depE p) [] (xs.take i)))
  hgh : h = highOf (tl (depE p) [] (xs.take i))
  gr : ∀ k, k < W.heap.size → w'.heap[k]? = W.heap[k]?
  sz : W.heap.size ≤ w'.heap.size
  os : w'.os = W.os ∧ w'.tape = W.tape ∧ w'.output = W.output

set_option maxHeartbeats 4000000 in
set_option maxRecDepth 100000 in
theorem place_m {p : List (List Ins)} {o : Out} {xs : List Ev} (hp : vProg p = true) (hSt : Stood p o xs) (h500 : xs.length ≤ 500) (w : World) (pv : Value) (hP : ProgAt w pv p) (base : Nat) (sao : Option Addr) (scp : Nat)
    (hs : w.ownsRow base 84 2 (.slice sao xs.length scp) xs.length (flatS o.steps)) (v0 v1 v2 v3 : Int) (gao : Option Addr) (gn gc : Nat) :
    Calls Tryz.prog 74 #[pv, .agg #[.int .i64 o.kind, .int .i64 o.thread, .int .i64 o.at_, .slice sao xs.length scp, .int .i64 v0, .int .i64 v1, .int .i64 v2, .int .i64 v3, .slice gao gn gc]] w fun e w' => ∃ g, e = .returned (.slice (some ⟨g, 0, none⟩) xs.length xs.length) ∧ w.heap.size ≤ g ∧ w'.heap[g]? = some (.cells (flatK (keysE p xs)).toArray 161 (0, 0)) ∧ w.grownBy w' none := by
  obtain ⟨i0, hi0, hz0, hz1, hz2⟩ := info_parts info_placed
  obtain ⟨ao, cap, rfl⟩ := hP.form
  have HP := hide hP
  have HV := hide hp
  have HSt := hide hSt
  have HR := hide hs
  have hlen := vProg_len hp
  have q0 : (xs.length : Int) ≤ 500 := by omega
  have q1 : (0 : Int) ≤ (xs.length : Int) := by omega
  clear hP hp hSt hs
  go_enter Tryz.func74, Tryz.ntmps74
  go_upto_region 1 with fail
  have hB0 : w.grownBy ((w.alloc (.cells #[.slice ao p.length cap] 24)).alloc (.cells #[.int .i64 o.kind, .int .i64 o.thread, .int .i64 o.at_, .slice sao xs.length scp, .int .i64 v0, .int .i64 v1, .int .i64 v2, .int .i64 v3, .slice gao gn gc] 32)) none := grown_alloc (grown_alloc (grown_refl _ _))
  have hPb : ((w.alloc (.cells #[.slice ao p.length cap] 24)).alloc (.cells #[.int .i64 o.kind, .int .i64 o.thread, .int .i64 o.at_, .slice sao xs.length scp, .int .i64 v0, .int .i64 v1, .int .i64 v2, .int .i64 v3, .slice gao gn gc] 32)).heap[w.heap.size]? = some (.cells #[.slice ao p.length cap] 24 (0, 0)) := by
    rw [Below.heap_alloc _ _ _ (by simp)]; exact heap_alloc_new _ _
  have hRb : ((w.alloc (.cells #[.slice ao p.length cap] 24)).alloc (.cells #[.int .i64 o.kind, .int .i64 o.thread, .int .i64 o.at_, .slice sao xs.length scp, .int .i64 v0, .int .i64 v1, .int .i64 v2, .int .i64 v3, .slice gao gn gc] 32)).heap[w.heap.size + 1]? = some (.cells #[.int .i64 o.kind, .int .i64 o.thread, .int .i64 o.at_, .slice sao xs.length scp, .int .i64 v0, .int .i64 v1, .int .i64 v2, .int .i64 v3, .slice gao gn gc] 32 (0, 0)) := by
    have := heap_alloc_new (w.alloc (.cells #[.slice ao p.length cap] 24)) (.cells #[.int .i64 o.kind, .int .i64 o.thread, .int .i64 o.at_, .slice sao xs.length scp, .int .i64 v0, .int .i64 v1, .int .i64 v2, .int .i64 v3, .slice gao gn gc] 32)
    simpa using this
  have hsz1 : ((w.alloc (.cells #[.slice ao p.length cap] 24)).alloc (.cells #[.int .i64 o.kind, .int .i64 o.thread, .int .i64 o.at_, .slice sao xs.length scp, .int .i64 v0, .int .i64 v1, .int .i64 v2, .int .i64 v3, .slice gao gn gc] 32)).heap.size = w.heap.size + 2 := by simp
  generalize (w.alloc (.cells #[.slice ao p.length cap] 24)).alloc (.cells #[.int .i64 o.kind, .int .i64 o.thread, .int .i64 o.at_, .slice sao xs.length scp, .int .i64 v0, .int .i64 v1, .int .i64 v2, .int .i64 v3, .slice gao gn gc] 32) = w1 at *
  have HPB := hide hPb
  have HRB := hide hRb
  have HB0 := hide hB0
  have r3 : w1.cell? ⟨w.heap.size + 1, 3, none⟩ = some (.slice sao xs.length scp) := by simp [World.cell?, hRb]
  clear hPb hRb hB0
  go_upto_region 2 with (at_make; refine wpList_make_full _ rfl _ _ _ rfl w1.heap.size 161 i0 _ 2 Tryz.underlying157 hi0 hz0 hz1 .i64 .i64 _ _ xs.length rfl rfl rfl rfl (by rw [hz2]; omega) (by unfold maxLen; omega) (by simp) ?_; intro w2 hown2 hg2)
  have hrow2 : w2.heap[w1.heap.size]? = some (.cells (List.replicate (xs.length * 2) (Value.int .i64 0)).toArray 161 (0, 0)) := by
    rcases hown2.2 with ⟨e, _⟩ | ⟨g', cap', cur, hv, _, hh, _, _, hcs, htk⟩
    · cases e
    · simp only [Value.slice.injEq, Option.some.injEq, Addr.mk.injEq, true_and, and_true] at hv
      obtain ⟨rfl, rfl⟩ := hv
      rw [hh]
      have e1 : cur.toList = List.replicate (xs.length * 2) (Value.int .i64 0) := by
        rw [← made_two]
        simp only [Value.cells] at htk
        rw [← htk, List.take_of_length_le (by simp; omega)]
      rw [← e1]
  have hs2 : w1.heap.size < w2.heap.size := (Array.getElem?_eq_some_iff.1 hrow2).1
  have HG2 : Hid (w1.grownBy w2 none) := hg2
  have HR2 := hide hrow2
  rw [hsz1] at hs2 HR2
  clear hown2 hg2 hrow2
  have hmm := @run_makeMap Tryz.prog
  have r4 : w2.cell? ⟨w.heap.size + 1, 3, none⟩ = some (.slice sao xs.length scp) := pres_grown HG2.out _ _ r3
  go_upto_region 4 with fail
  have H0 : Hid (PlIn p xs w1 (w2.alloc (.map #[] 0)) (w.heap.size + 2) w2.heap.size 0 0) := by
    refine ⟨?_, ?_, rfl, fun k hk => ?_, ?_, HG2.out.os, HG2.out.tape, HG2.out.output⟩
    · rw [Below.heap_alloc _ _ _ hs2]
      simpa [tl, flatK, flatS] using HR2.out
    · have e : histOf p (tl (depE p) [] (xs.take 0)) = fun _ => 0 := by funext u; simp [tl, histOf]
      rw [e]
      have := HistAt.made w2
      simpa using this
    · rw [Below.heap_alloc _ _ _ (by have := HG2.out.size; omega)]
      exact HG2.out.block k hk (by simp)
    · have := HG2.out.size; simp; omega
  obtain ⟨gm, hgm⟩ : ∃ gm, gm = w2.heap.size := ⟨_, rfl⟩
  obtain ⟨gl, hgl⟩ : ∃ gl, gl = w.heap.size + 2 := ⟨_, rfl⟩
  have HGL : Hid (gl = w1.heap.size ∧ w1.heap.size = w.heap.size + 2 ∧ gl < gm) := ⟨by omega, hsz1, by omega⟩
  rw [← hgm, ← hgl] at H0 ⊢
  clear hgm hgl hmm hs2 HR2 hsz1
  go_wp2_with fail
  go_loopw [7, 20] (fun hv iv w' => ∃ (i h : Nat), i ≤ xs.length ∧ iv = .int .i64 i ∧ hv = .int .i64 h ∧ Hid (PlIn p xs w1 w' gl gm i h)) (fun _ iv _ => xs.length - (intOf iv).toNat)
  case atStart => exact ⟨0, 0, Nat.zero_le _, rfl, rfl, H0⟩
  case round =>
    clear H0 r3 r4
    obtain ⟨i, h, hi, rfl, rfl, HI⟩ := hrel
    obtain ⟨w5, hw5⟩ : ∃ w5, w5 = wr := ⟨_, rfl⟩
    rw [← hw5] at HI ⊢
    clear hw5
    have HPr : Hid (∀ a v, w1.cell? a = some v → w5.cell? a = some v) := fun a v hc => by
      rw [World.cell?_of_block (HI.out.gr a.block (World.block_lt_of_cell? w1 _ hc))]; exact hc
    by_cases hlt : i < xs.length
    · have hmem := List.getElem_mem hlt
      obtain ⟨ht, hk0, hk1⟩ := HSt.out.th _ hmem
      obtain ⟨g, rfl, s0, s1⟩ := steps_at HR.out HSt.out.st hlt
      obtain ⟨kn, hkn⟩ := Int.eq_ofNat_of_zero_le hk0
      have hkl : kn < (codeOf p xs[i].t).length := by omega
      obtain ⟨pg, po, ca, cc, cg, co, rfl, rfl, m0, m1, m2, m3, m4⟩ := ins_at HP.out ht hkl
      have hvi := vProg_ins HV.out ht (k := (kn : Int)) (by simpa using hkl)
      obtain ⟨ha0, ha1, hb0, hb1⟩ := vIns_ab hvi
      obtain ⟨hsm, hul⟩ := uses_small (t := xs[i].t) (i := insAt p xs[i].t kn) (by omega) ha1 hb1
      have HUE : Hid (usesE p xs[i] = usesI xs[i].t (insAt p xs[i].t kn)) := by unfold Hid usesE; rw [hkn]
      have HLN := hide (lay_next HSt.out hlt)
      rw [HUE.out] at HLN
      have HKN := hide (keys_next (p := p) hlt)
      have hpb := HPB.out
      have hrb := HRB.out
      have up : ∀ a v, w.cell? a = some v → w5.cell? a = some v := fun a v hc => HPr.out _ _ (pres_grown HB0.out _ _ hc)
      have s0' := up _ _ s0
      have s1' := up _ _ s1
      have m0' := up _ _ m0
      have m1' := up _ _ m1
      have m2' := up _ _ m2
      have m3' := up _ _ m3
      have m4' := up _ _ m4
      rw [hkn] at s1'
      have n0 : w5.cell? ⟨w.heap.size, 0, none⟩ = some (.slice (some ⟨pg, po, none⟩) p.length cap) := HPr.out _ _ (by simp [World.cell?, hpb])
      have n1 : w5.cell? ⟨w.heap.size + 1, 0, none⟩ = some (.int .i64 o.kind) := HPr.out _ _ (by simp [World.cell?, hrb])
      have n3 : w5.cell? ⟨w.heap.size + 1, 3, none⟩ = some (.slice (some ⟨g, 0, none⟩) xs.length scp) := HPr.out _ _ (by simp [World.cell?, hrb])
      have HUO := hide (fun u : World => usesOf_m xs[i].t (insAt p xs[i].t kn) u ha0 hb0)
      have HTB : Hid (xs[i].t < 4) := by unfold Hid; omega
      have hcl : (codeOf p xs[i].t).length ≤ 16 := vCode_len (vProg_code HV.out ht)
      clear s0 s1 m0 m1 m2 m3 m4 hvi hpb hrb up hk0 hk1 hmem ha0 ha1 hb0 hb1
      generalize hix : insAt p xs[i].t (kn : Int) = ix at *
      generalize hcx : (codeOf p xs[i].t).length = cl at *
      generalize hus : usesI xs[i].t ix = us at *
      generalize hxi : xs[i] = x at *
      obtain ⟨xt, xk, xb⟩ := x
      simp only at *
      clear hix hcx hus
      have t0 : (0 : Int) ≤ (i : Int) := by omega
      have t1 : (i : Int) < xs.length := by omega
      have t2 : (0 : Int) ≤ (xt : Int) := by omega
      have t3 : (xt : Int) < p.length := by omega
      have t4 : (0 : Int) ≤ (kn : Int) := by omega
      have t5 : (kn : Int) < cl := by omega
      go_upto_region 7 with fail
      have hX := heap_alloc_new w5 (.cells #[.int .i64 (xt : Int), .int .i64 (kn : Int)] 84)
      have hg6 : w5.grownBy (w5.alloc (.cells #[.int .i64 (xt : Int), .int .i64 (kn : Int)] 84)) none := grown_alloc (grown_refl _ _)
      have hs6 : (w5.alloc (.cells #[.int .i64 (xt : Int), .int .i64 (kn : Int)] 84)).heap.size = w5.heap.size + 1 := by simp
      generalize w5.alloc (.cells #[.int .i64 (xt : Int), .int .i64 (kn : Int)] 84) = w6 at *
      have b0 : w6.cell? ⟨w5.heap.size, 0, none⟩ = some (.int .i64 (xt : Int)) := by simp only [World.cell?, hX]; rfl
      have b1 : w6.cell? ⟨w5.heap.size, 1, none⟩ = some (.int .i64 (kn : Int)) := by simp only [World.cell?, hX]; rfl
      have HX6 := hide hX
      have HG6 := hide hg6
      have HS6 := hide hs6
      have hHeld0 : w6.drew.cell? ⟨w5.heap.size, 0, none⟩ = some (.int .i64 (xt : Int)) ∧ w6.drew.cell? ⟨w5.heap.size, 1, none⟩ = some (.int .i64 (kn : Int)) ∧ w6.drew.cell? ⟨w.heap.size, 0, none⟩ = some (.slice (some ⟨pg, po, none⟩) p.length cap) ∧ w6.drew.cell? ⟨pg, po + xt, none⟩ = some (.slice (some ⟨cg, co, none⟩) cl cc) ∧ w6.drew.cell? ⟨cg, co + kn * 4, none⟩ = some (.int .i64 ix.op) ∧ w6.drew.cell? ⟨cg, co + kn * 4 + 1, none⟩ = some (.int .i64 ix.a) ∧ w6.drew.cell? ⟨cg, co + kn * 4 + 2, none⟩ = some (.int .i64 ix.b) ∧ w6.drew.cell? ⟨cg, co + kn * 4 + 3, none⟩ = some (.int .i64 ix.n) :=
        ⟨b0, b1, pres_grown hg6 _ _ n0, pres_grown hg6 _ _ m0', pres_grown hg6 _ _ m1', pres_grown hg6 _ _ m2', pres_grown hg6 _ _ m3', pres_grown hg6 _ _ m4'⟩
      clear hX hs6 hg6 b0 b1
      refine wp_region_head (fun u => u.cell? ⟨w5.heap.size, 0, none⟩ = some (.int .i64 (xt : Int)) ∧ u.cell? ⟨w5.heap.size, 1, none⟩ = some (.int .i64 (kn : Int)) ∧ u.cell? ⟨w.heap.size, 0, none⟩ = some (.slice (some ⟨pg, po, none⟩) p.length cap) ∧ u.cell? ⟨pg, po + xt, none⟩ = some (.slice (some ⟨cg, co, none⟩) cl cc) ∧ u.cell? ⟨cg, co + kn * 4, none⟩ = some (.int .i64 ix.op) ∧ u.cell? ⟨cg, co + kn * 4 + 1, none⟩ = some (.int .i64 ix.a) ∧ u.cell? ⟨cg, co + kn * 4 + 2, none⟩ = some (.int .i64 ix.b) ∧ u.cell? ⟨cg, co + kn * 4 + 3, none⟩ = some (.int .i64 ix.n)) 13 (by kernel_rfl) (by kernel_rfl) hHeld0 ?_
      intro hHeld
      refine wpHead_take (i := 0) (v := ?vva0) rfl (by kernel_rfl) (fun _ _ _ h => h) (Or.inl ⟨by rfl, ?hya0⟩) hHeld ?resta0
      case hya0 => (rintro u ⟨hu0, hu1, hu2, hu3, hu4, hu5, hu6, hu7⟩; go_simp; try with_reducible rfl)
      simp only [Act.put, List.setIfInBounds_toArray]
      refine wpHead_take (i := 1) (v := ?vva1) rfl (by kernel_rfl) (fun _ _ _ h => h) (Or.inl ⟨by rfl, ?hya1⟩) hHeld ?resta1
      case hya1 => (rintro u ⟨hu0, hu1, hu2, hu3, hu4, hu5, hu6, hu7⟩; go_simp; try with_reducible rfl)
      simp only [Act.put]
      refine wpHead_take (i := 2) (v := ?vva2) rfl (by kernel_rfl) (fun _ _ _ h => h) (Or.inl ⟨by rfl, ?hya2⟩) hHeld ?resta2
      case hya2 => (rintro u ⟨hu0, hu1, hu2, hu3, hu4, hu5, hu6, hu7⟩; go_simp; try with_reducible rfl)
      simp only [Act.put]
      refine wpHead_take (i := 3) (v := ?vva3) rfl (by kernel_rfl) (fun _ _ _ h => h) (Or.inl ⟨by rfl, ?hya3⟩) hHeld ?resta3
      case hya3 => (rintro u ⟨hu0, hu1, hu2, hu3, hu4, hu5, hu6, hu7⟩; go_simp; try with_reducible rfl)
      simp only [Act.put]
      refine wpHead_take (i := 4) (v := ?vva4) rfl (by kernel_rfl) (fun _ _ _ h => h) (Or.inl ⟨by rfl, ?hya4⟩) hHeld ?resta4
      case hya4 => (rintro u ⟨hu0, hu1, hu2, hu3, hu4, hu5, hu6, hu7⟩; go_simp; try with_reducible rfl)
      simp only [Act.put]
      refine wpHead_take (i := 5) (v := ?vva5) rfl (by kernel_rfl) (fun _ _ _ h => h) (Or.inl ⟨by rfl, ?hya5⟩) hHeld ?resta5
      case hya5 => (rintro u ⟨hu0, hu1, hu2, hu3, hu4, hu5, hu6, hu7⟩; go_simp; try with_reducible rfl)
      simp only [Act.put]
      refine wpHead_take (i := 6) (v := ?vva6) rfl (by kernel_rfl) (fun _ _ _ h => h) (Or.inl ⟨by rfl, ?hya6⟩) hHeld ?resta6
      case hya6 => (rintro u ⟨hu0, hu1, hu2, hu3, hu4, hu5, hu6, hu7⟩; go_simp; try with_reducible rfl)
      simp only [Act.put]
      refine wpHead_take (i := 7) (v := ?vva7) rfl (by kernel_rfl) (fun _ _ _ h => h) (Or.inl ⟨by rfl, ?hya7⟩) hHeld ?resta7
      case hya7 => (rintro u ⟨hu0, hu1, hu2, hu3, hu4, hu5, hu6, hu7⟩; go_simp; try with_reducible rfl)
      simp only [Act.put]
      refine wpHead_take (i := 8) (v := ?vva8) rfl (by kernel_rfl) (fun _ _ _ h => h) (Or.inl ⟨by rfl, ?hya8⟩) hHeld ?resta8
      case hya8 => (rintro u ⟨hu0, hu1, hu2, hu3, hu4, hu5, hu6, hu7⟩; go_simp; try with_reducible rfl)
      simp only [Act.put]
      refine wpHead_take (i := 9) (v := ?vva9) rfl (by kernel_rfl) (fun _ _ _ h => h) (Or.inl ⟨by rfl, ?hya9⟩) hHeld ?resta9
      case hya9 => (rintro u ⟨hu0, hu1, hu2, hu3, hu4, hu5, hu6, hu7⟩; go_simp; try with_reducible rfl)
      simp only [Act.put]
      refine wpHead_take (i := 10) (v := ?vva10) rfl (by kernel_rfl) (fun _ _ _ h => h) (Or.inl ⟨by rfl, ?hya10⟩) hHeld ?resta10
      case hya10 => (rintro u ⟨hu0, hu1, hu2, hu3, hu4, hu5, hu6, hu7⟩; go_simp; try with_reducible rfl)
      simp only [Act.put]
      refine wpHead_take (i := 11) (v := ?vva11) rfl (by kernel_rfl) (fun _ _ _ h => h) (Or.inl ⟨by rfl, ?hya11⟩) hHeld ?resta11
      case hya11 => (rintro u ⟨hu0, hu1, hu2, hu3, hu4, hu5, hu6, hu7⟩; go_simp; try with_reducible rfl)
      simp only [Act.put]
      refine wpHead_alone (i := 12) rfl (by kernel_rfl) (by kernel_rfl) (by rfl) ?_
      intro K12 hK12
      have HK12 := hide hK12
      clear hK12
      go_simp
      refine (HUO.out _).mono ?_
      rintro e w7 ⟨uv, rfl, hU7, hg7⟩
      have HG67 : Hid (w6.grownBy w7 none) := ⟨hg7.os, hg7.tape, hg7.output, hg7.size, hg7.block⟩
      refine HK12.out _ _ ⟨pres_grown hg7 _ _ hHeld.1, pres_grown hg7 _ _ hHeld.2.1, pres_grown hg7 _ _ hHeld.2.2.1, pres_grown hg7 _ _ hHeld.2.2.2.1, pres_grown hg7 _ _ hHeld.2.2.2.2.1, pres_grown hg7 _ _ hHeld.2.2.2.2.2.1, pres_grown hg7 _ _ hHeld.2.2.2.2.2.2.1, pres_grown hg7 _ _ hHeld.2.2.2.2.2.2.2⟩ ?_
      clear HK12 hg7 hHeld hHeld0 HUO
      try simp only [Act.put, List.setIfInBounds_toArray]
      refine wpHead_last rfl (by kernel_rfl) (by kernel_rfl) (by rfl) ?_
      go_simp
      have hul2 : us.length ≤ 10 := hul
      have HU7 := hide hU7
      have HG57 : Hid (w5.grownBy w7 none) := grown_trans HG6.out HG67.out
      have HH7 : Hid (HistAt w7 gm (i * 10) (histOf p (tl (depE p) [] (xs.take i)))) := HI.out.his.kept HG57.out
      have hFb : ∀ u, histOf p (tl (depE p) [] (xs.take i)) u ≤ 1000 := fun u => by have := histOf_le p (xs.take i) u; simp at this; omega
      have HFb := hide hFb
      have HSM := hide hsm
      have hhi : h ≤ 500 := by rw [HI.out.hgh]; have := highOf_le p (xs.take i); simp at this; omega
      have HLB : Hid (layIn (depE p) (tl (depE p) [] (xs.take i)) ⟨xt, xk, xb⟩ ≤ 500) := by
        unfold Hid; have := lay_le p (xs.take i) ⟨xt, xk, xb⟩; simp at this; omega
      have HAB : Hid (aheadS (histOf p (tl (depE p) [] (xs.take i))) us 0 ≤ 1000) := aheadS_small _ hFb us 0 (by omega)
      have n1' := pres_grown HG57.out _ _ n1
      have n3' := pres_grown HG57.out _ _ n3
      clear hU7 hsm hul hFb n0 n1 n3 m0' m1' m2' m3' m4' s0' s1'
      obtain ⟨ug, uc, hue⟩ : ∃ ug uc, uv = .slice (some ⟨ug, 0, none⟩) us.length uc := by
        obtain ⟨ug, uc, e, _⟩ := HU7.out; exact ⟨ug, uc, e⟩
      subst hue
      go_wp2_with fail
      refine (ahead_m HH7.out HFb.out us HSM.out _ HU7.out hul2).mono ?_
      rintro e w8 ⟨rfl, hg8⟩
      have HG78 := hide hg8
      have k1 := pres_grown hg8 _ _ n1'
      have k3 := pres_grown hg8 _ _ n3'
      clear hg8 n1' n3'
      generalize hlx : layIn (depE p) (tl (depE p) [] (xs.take i)) ⟨xt, xk, xb⟩ = lx at *
      generalize hah : aheadS (histOf p (tl (depE p) [] (xs.take i))) us 0 = ah at *
      have HLX := hide hlx
      have HHG := hide HI.out.hgh
      rw [← HHG.out] at HLN
      have hah0 : (ah : Int) ≤ 1000 := by have := HAB.out; omega
      clear hlx hah
      go_upto_region 9 with fail
      obtain ⟨bl, hbl⟩ : ∃ bl : Bool, bl = decide (o.kind = 1 ∧ i + 1 = xs.length) := ⟨_, rfl⟩
      have HBL := hide hbl
      clear hbl
      go_cut [52] (fun q w' => q = .bool bl ∧ w' = w8)
      case first =>
        by_cases e1 : i + 1 = xs.length
        · have e3 : (xs.length : Int) - 1 = (i : Int) := by omega
          by_cases e2 : o.kind = 1
          · have hb : bl = true := by rw [HBL.out]; simp [e1, e2]
            rw [e2] at k1
            go_wp2_with fail
            all_goals first | (go_meet; exact ⟨by rw [hb], rfl⟩) | (exfalso; omega)
          · have hb : bl = false := by rw [HBL.out]; simp [e2]
            have hb2 : (o.kind == 1) = false := by simpa using e2
            go_wp2_with fail
            all_goals first | (go_meet; exact ⟨by rw [hb], rfl⟩) | (exfalso; omega)
        · have hb : bl = false := by rw [HBL.out]; simp [e1]
          have e3 : (i : Int) < (xs.length : Int) - 1 := by omega
          have e4 : ((i : Int) == (xs.length : Int) - 1) = false := by simp; omega
          go_wp2_with fail
          all_goals first | (go_meet; exact ⟨by rw [hb], rfl⟩) | (exfalso; omega)
      case rest =>
      obtain ⟨rfl, hwc⟩ := hcut
      have hwc2 := hwc.symm
      subst hwc2
      go_upto_if 52 with fail
      go_cut [11] (fun q w' => q = .int .i64 (lx : Int) ∧ w' = w8)
      case first =>
        cases bl with
        | true =>
          have hl : lx = h := by rw [HLN.out, if_pos (by have := HBL.out.symm; simpa using this)]
          go_wp2_with fail
          go_meet
          exact ⟨by rw [hl], rfl⟩
        | false =>
          have hl : lx = ah := by rw [HLN.out, if_neg (by have := HBL.out.symm; simpa using this)]
          go_wp2_with fail
          go_meet
          exact ⟨by rw [hl], rfl⟩
      case rest =>
      obtain ⟨rfl, hwc⟩ := hcut
      have hwc2 := hwc.symm
      subst hwc2
      clear HLN HBL
      have hlx9 : lx ≤ 900 := by have := HLB.out; omega
      have hlx' : (lx : Int) ≤ 900 := by omega
      have hlx0 : (0 : Int) ≤ (lx : Int) := by omega
      have hh' : (h : Int) ≤ 500 := by omega
      have hh0 : (0 : Int) ≤ (h : Int) := by omega
      have HH8 : Hid (HistAt w8 gm (i * 10) (histOf p (tl (depE p) [] (xs.take i)))) := HH7.out.kept HG78.out
      have HU8 : Hid (UsesAt w8 (.slice (some ⟨ug, 0, none⟩) us.length uc) us) := HU7.out.grown HG78.out
      have HG58 : Hid (w5.grownBy w8 none) := grown_trans HG57.out HG78.out
      go_wp2_with fail
      refine (enter_m HH8.out HFb.out (by omega) us HSM.out _ HU8.out hul2 lx hlx9).mono ?_
      rintro e w9 ⟨⟨rv9, rfl⟩, hH9, hg9⟩
      have hgm5 : gm < w5.heap.size := HI.out.his.lt
      have hX9 : w9.heap[w5.heap.size]? = some (.cells #[.int .i64 (xt : Int), .int .i64 (kn : Int)] 84 (0, 0)) := by
        have h68 := grown_trans HG67.out HG78.out
        have hs := HS6.out
        rw [hg9.block _ (by have := h68.size; omega) (by simp; omega), h68.block _ (by omega) (by simp)]; exact HX6.out
      have hr9 : w9.heap[gl]? = some (.cells (flatK ((tl (depE p) [] (xs.take i)).map keyE) ++ List.replicate ((xs.length - i) * 2) (Value.int .i64 0)).toArray 161 (0, 0)) := by
        have hlt5 := (Array.getElem?_eq_some_iff.1 HI.out.row).1
        rw [hg9.block _ (by have := HG58.out.size; omega) (by have := HGL.out; simp; omega), HG58.out.block _ hlt5 (by simp)]; exact HI.out.row
      have HR9 := hide hr9
      have y0 : w9.cell? ⟨w5.heap.size, 0, none⟩ = some (.int .i64 (xt : Int)) := by simp [World.cell?, hX9]
      obtain ⟨R, hR⟩ : ∃ R : List Value, R = flatK ((tl (depE p) [] (xs.take i)).map keyE) ++ List.replicate ((xs.length - i) * 2) (Value.int .i64 0) := ⟨_, rfl⟩
      have hkl2 : (flatK ((tl (depE p) [] (xs.take i)).map keyE)).length = i * 2 := by
        rw [flatK_len, List.length_map, tl_length]; simp; omega
      have hRl : R.length = xs.length * 2 := by rw [hR, List.length_append, hkl2, List.length_replicate]; omega
      rw [← hR] at hr9
      obtain ⟨z0, hz0'⟩ : ∃ z, w9.cell? ⟨gl, i * 2, none⟩ = some z := ⟨R[i * 2]'(by omega), by simp only [World.cell?, hr9]; simp⟩
      obtain ⟨z1, hz1'⟩ : ∃ z, (w9.setCell ⟨gl, i * 2, none⟩ (.int .i64 (lx : Int))).cell? ⟨gl, i * 2 + 1, none⟩ = some z := by
        have hr10 := heap_setCell_same w9 gl (i * 2) _ _ (.int .i64 (lx : Int)) hr9
        exact ⟨_, by simp only [World.cell?, hr10]; exact Array.getElem?_eq_getElem (by simp; omega)⟩
      have fz0 : w9.frozen? ⟨gl, i * 2, none⟩ = false := by simp [World.frozen?, hr9]
      have fz1 : (w9.setCell ⟨gl, i * 2, none⟩ (.int .i64 (lx : Int))).frozen? ⟨gl, i * 2 + 1, none⟩ = false := by
        have hr10 := heap_setCell_same w9 gl (i * 2) _ _ (.int .i64 (lx : Int)) hr9
        simp [World.frozen?, hr10]
      have HFIN : Hid (PlIn p xs w1 ((w9.setCell ⟨gl, i * 2, none⟩ (.int .i64 (lx : Int))).setCell ⟨gl, i * 2 + 1, none⟩ (.int .i64 (xt : Int))) gl gm (i + 1) (max h (lx + 1))) := by
        have hkn' := HKN.out
        have hg10 : w9.grownBy ((w9.setCell ⟨gl, i * 2, none⟩ (.int .i64 (lx : Int))).setCell ⟨gl, i * 2 + 1, none⟩ (.int .i64 (xt : Int))) (some gl) := grown_trans grown_cell grown_cell
        have hlo := HGL.out
        have hs5 := HI.out.sz
        refine ⟨?_, ?_, ?_, fun k hk => ?_, ?_, ?_⟩
        · have hr10 := heap_setCell_same w9 gl (i * 2) _ _ (.int .i64 (lx : Int)) HR9.out
          have hr11 := heap_setCell_same _ gl (i * 2 + 1) _ _ (.int .i64 (xt : Int)) hr10
          rw [hr11]
          simp only [List.setIfInBounds_toArray]
          rw [row_set2 _ _ _ i xs.length hkl2 hlt, hkn', List.map_append, List.map_cons, List.map_nil, flatK_snoc]
          rfl
        · have h9 := (hH9.keptRow hg10 (by omega)).mono (n' := (i + 1) * 10) (by omega)
          have e : enterF (lx + 1) us (histOf p (tl (depE p) [] (xs.take i))) = histOf p (tl (depE p) [] (xs.take (i + 1))) := by
            funext u
            rw [enterF_eq, hkn', histOf_snoc, HUE.out]
          rw [e] at h9; exact h9
        · rw [hkn', highOf_snoc, ← HHG.out]
        · rw [hg10.block k (by have := hg9.size; have := HG58.out.size; omega) (by simp; omega), hg9.block k (by have := HG58.out.size; omega) (by simp; omega), HG58.out.block k (by omega) (by simp)]
          exact HI.out.gr k hk
        · have h1 := hg10.size
          have h2 := hg9.size
          have h3 := HG58.out.size
          omega
        · exact ⟨hg10.os.trans (hg9.os.trans (HG58.out.os.trans HI.out.os.1)), hg10.tape.trans (hg9.tape.trans (HG58.out.tape.trans HI.out.os.2.1)), hg10.output.trans (hg9.output.trans (HG58.out.output.trans HI.out.os.2.2))⟩
      have hne : gl ≠ w5.heap.size := by have := (Array.getElem?_eq_some_iff.1 HI.out.row).1; omega
      clear hr9 hX9 hR hRl hkl2 hH9 hg9 HH8 HU8 k1 k3 HH7 HU7
      go_wp2_with fail
      go_roundw
      case rel => exact ⟨i + 1, max h (lx + 1), by omega, by go_num, by congr 1; (repeat' split) <;> omega, HFIN⟩
      case measure => simp [intOf]; omega
    · have t1 : (xs.length : Int) ≤ (i : Int) := by omega
      have ei : i = xs.length := by omega
      have HRf : Hid (w5.heap[gl]? = some (.cells (flatK (keysE p xs)).toArray 161 (0, 0))) := by
        have := HI.out.row
        rw [ei, List.take_length, Nat.sub_self] at this
        unfold Hid keysE
        simpa using this
      have HGf : Hid (w.grownBy w5 none) := by
        have hlo := HGL.out
        refine ⟨HI.out.os.1.trans HB0.out.os, HI.out.os.2.1.trans HB0.out.tape, HI.out.os.2.2.trans HB0.out.output, Nat.le_trans HB0.out.size HI.out.sz, fun k hk _ => ?_⟩
        rw [HI.out.gr k (Nat.lt_of_lt_of_le hk HB0.out.size)]
        exact HB0.out.block k hk (by simp)
      have hlo : w.heap.size ≤ gl := by have := HGL.out; omega
      go_wp2_with fail
      go_ret
      exact ⟨gl, rfl, hlo, HRf.out, HGf.out⟩

end Go.Proofs.YtklenjmfalljgaaGreatDoor

/- Going through all layers, threads and places, one by one (no dump is named here). -/
namespace Go.Proofs.YtklenjmfalljgaaGreatDoor

def pickT (ks : List (Nat × Nat)) (l t : Nat) : List (Nat × Nat) := ks.filter fun k => k.1 == l && k.2 == t
/-- What stands in the row ahead of layer l, thread t, place i. -/
def goAt (ks : List (Nat × Nat)) (l t i : Nat) : List (Nat × Nat) := goThrough l ks ++ ((List.range t).flatMap (pickT ks l) ++ pickT (ks.take i) l t)
theorem goAt_zero (ks : List (Nat × Nat)) : goAt ks 0 0 0 = [] := by simp [goAt, goThrough, pickT]
theorem goAt_next (ks : List (Nat × Nat)) (l t i : Nat) (hi : i < ks.length) : goAt ks l t (i + 1) = goAt ks l t i ++ (if ks[i].1 == l && ks[i].2 == t then [ks[i]] else []) := by
  unfold goAt pickT
  rw [List.take_succ_eq_append_getElem hi, List.filter_append]
  simp only [List.append_assoc, List.filter_cons, List.filter_nil]
theorem goAt_thread (ks : List (Nat × Nat)) (l t i : Nat) (hi : ks.length ≤ i) : goAt ks l t i = goAt ks l (t + 1) 0 := by
  unfold goAt
  rw [List.take_of_length_le hi, List.range_succ, List.flatMap_append]
  simp [pickT]
theorem goAt_layer (ks : List (Nat × Nat)) (l : Nat) : goAt ks l 4 0 = goAt ks (l + 1) 0 0 := by
  have e : goThrough (l + 1) ks = goThrough l ks ++ (List.range 4).flatMap (pickT ks l) := by
    unfold goThrough
    rw [List.range_succ (n := l), List.flatMap_append]
    congr 1
    rw [List.flatMap_cons, List.flatMap_nil, List.append_nil]
    rfl
  unfold goAt
  rw [e]
  simp [pickT]
theorem goAt_end (ks : List (Nat × Nat)) (n : Nat) : goAt ks n 0 0 = goThrough n ks := by simp [goAt, pickT]
theorem pickT_le (ks : List (Nat × Nat)) (l t : Nat) : (pickT ks l t).length ≤ ks.length := List.length_filter_le ..
theorem flat_leL {f : Nat → List (Nat × Nat)} {m : Nat} (h : ∀ l, (f l).length ≤ m) : ∀ n, ((List.range n).flatMap f).length ≤ n * m
  | 0 => by simp
  | n + 1 => by
    rw [List.range_succ, List.flatMap_append, List.length_append]
    have h1 := flat_leL h n
    have h2 := h n
    have h3 : (n + 1) * m = n * m + m := by rw [Nat.add_mul]; omega
    simp only [List.flatMap_cons, List.flatMap_nil, List.append_nil]
    omega
theorem goAt_le (ks : List (Nat × Nat)) (l t i : Nat) (hl : l ≤ 500) (ht : t ≤ 4) (hk : ks.length ≤ 500) : (goAt ks l t i).length ≤ 2000000 := by
  unfold goAt
  rw [List.length_append, List.length_append]
  have h1 : (goThrough l ks).length ≤ l * (4 * ks.length) := by
    unfold goThrough
    exact flat_leL (fun _ => flat_leL (fun _ => List.length_filter_le ..) 4) l
  have h2 : ((List.range t).flatMap (pickT ks l)).length ≤ t * ks.length := flat_leL (fun _ => pickT_le ..) t
  have h3 : (pickT (ks.take i) l t).length ≤ ks.length := Nat.le_trans (pickT_le ..) (by simp; omega)
  have h4 : l * (4 * ks.length) ≤ 500 * (4 * 500) := Nat.mul_le_mul hl (by omega)
  have h5 : t * ks.length ≤ 4 * 500 := Nat.mul_le_mul ht hk
  omega
/-- The row of threads. -/
def thrL (L : List (Nat × Nat)) : List Int := L.map fun x => (x.2 : Int)
theorem thr_next (ks : List (Nat × Nat)) (l t i : Nat) (hi : i < ks.length) : thrL (goAt ks l t (i + 1)) = if ks[i].1 == l && ks[i].2 == t then thrL (goAt ks l t i) ++ [(t : Int)] else thrL (goAt ks l t i) := by
  rw [goAt_next ks l t i hi]
  unfold thrL
  by_cases h : (ks[i].1 == l && ks[i].2 == t) = true
  · rw [if_pos h, if_pos h, List.map_append]
    simp at h
    simp [h.2]
  · rw [if_neg h, if_neg h]; simp

/-- The layers of the first i steps. -/
def labsE (p : List (List Ins)) (xs : List Ev) (i : Nat) : List Nat := (tl (depE p) [] (xs.take i)).map (·.2)
theorem labsE_len (p : List (List Ins)) (xs : List Ev) (i : Nat) (h : i ≤ xs.length) : (labsE p xs i).length = i := by unfold labsE; rw [List.length_map, tl_length]; simp; omega
theorem labsE_next (p : List (List Ins)) (xs : List Ev) (i : Nat) (h : i < xs.length) : labsE p xs (i + 1) = labsE p xs i ++ [layIn (depE p) ((tl (depE p) [] (xs.take i)).take i) xs[i]] := by
  unfold labsE
  have e : (tl (depE p) [] (xs.take i)).take i = tl (depE p) [] (xs.take i) := List.take_of_length_le (by rw [tl_length]; simp; omega)
  rw [keys_next h, List.map_append, e]
  rfl
theorem keysE_len (p : List (List Ins)) (xs : List Ev) : (keysE p xs).length = xs.length := by unfold keysE; rw [List.length_map, tl_length]
theorem keys_at (p : List (List Ins)) (xs : List Ev) (i : Nat) (h : i < xs.length) : (keysE p xs)[i]'(by rw [keysE_len]; exact h) = ((labsE p xs xs.length)[i]'(by rw [labsE_len _ _ _ (Nat.le_refl _)]; exact h), xs[i].t) := by
  have hL : i < (tl (depE p) [] xs).length := by rw [tl_length]; exact h
  have e2 : ((tl (depE p) [] xs)[i]'hL).1 = xs[i] := by
    have h1 := tl_fst (depE p) [] xs
    have h2 : ((tl (depE p) [] xs).map (·.1))[i]'(by rw [h1]; exact h) = xs[i] := by congr 1
    simpa using h2
  simp [keysE, labsE, keyE, e2]
theorem labs_le (p : List (List Ins)) (xs : List Ev) (i : Nat) (h : i < xs.length) : (labsE p xs xs.length)[i]'(by rw [labsE_len _ _ _ (Nat.le_refl _)]; exact h) ≤ xs.length := by
  have hL : i < (tl (depE p) [] xs).length := by rw [tl_length]; exact h
  have := lay_lt (depE p) xs [] 0 (by simp) i _ (List.getElem?_eq_getElem hL)
  simp [labsE]; omega

end Go.Proofs.YtklenjmfalljgaaGreatDoor

/- The walks of cmp.Compare, cmp.Or and compare. -/
namespace Go.Proofs.YtklenjmfalljgaaGreatDoor
open Go.RowKit
attribute [local go_sem] Go.World.cell?_alloc_some

theorem three_laid (W : World) (a b c : Obj) : ((W.alloc a).alloc b).drew.alloc c = Sort.grow (W.drewN 1) #[a, b, c] := by
  have d : ∀ (w : World) os, (Sort.grow w os).drew = Sort.grow w.drew os := fun _ _ => rfl
  rw [Sort.alloc_eq_grow W a, Sort.alloc_eq_grow _ b, Sort.grow_grow, d, Sort.alloc_eq_grow _ c, Sort.grow_grow]
  rfl
def cmpI (x y : Int) : Int := if x < y then -1 else if y < x then 1 else 0
def orI (x y : Int) : Int := if x = 0 then y else x
def cmpP (x y : Int × Int) : Int := orI (cmpI x.1 y.1) (cmpI x.2 y.2)

theorem isNaN_m (x : Int) (w : World) : Calls Tryz.prog 153 #[.int .i64 x] w fun e w' => e = .returned (.bool false) ∧ w' = w := by
  go_enter Tryz.func153, Tryz.ntmps153
  go_wp2
  go_ret
  exact ⟨rfl, rfl⟩

set_option maxHeartbeats 1000000 in
theorem cmpCompare_m (x y : Int) (w : World) : Calls Tryz.prog 113 #[.int .i64 x, .int .i64 y] w fun e w' => e = .returned (.int .i64 (cmpI x y)) ∧ w' = w := by
  by_cases h1 : x < y
  · have HE : Hid (cmpI x y = -1) := by unfold Hid cmpI; simp [h1]
    go_enter Tryz.func113, Tryz.ntmps113
    go_wp2_with (go_at_call 153; refine (isNaN_m _ _).mono ?_; rintro e w' ⟨rfl, rfl⟩)
    go_ret
    exact ⟨by rw [HE.out]; rfl, rfl⟩
  · by_cases h2 : y < x
    · have HE : Hid (cmpI x y = 1) := by unfold Hid cmpI; simp [h1, h2]
      go_enter Tryz.func113, Tryz.ntmps113
      go_wp2_with (go_at_call 153; refine (isNaN_m _ _).mono ?_; rintro e w' ⟨rfl, rfl⟩)
      go_ret
      exact ⟨by rw [HE.out]; rfl, rfl⟩
    · have HE : Hid (cmpI x y = 0) := by unfold Hid cmpI; simp [h1, h2]
      have h3 : x ≤ y := by omega
      have h4 : y ≤ x := by omega
      go_enter Tryz.func113, Tryz.ntmps113
      go_wp2_with (go_at_call 153; refine (isNaN_m _ _).mono ?_; rintro e w' ⟨rfl, rfl⟩)
      go_ret
      exact ⟨by rw [HE.out]; rfl, rfl⟩

set_option maxHeartbeats 1000000 in
theorem cmpOr_m (x y : Int) (g : Nat) (w : World) (h0 : w.cell? ⟨g, 0, none⟩ = some (.int .i64 x)) (h1 : w.cell? ⟨g, 1, none⟩ = some (.int .i64 y)) :
    Calls Tryz.prog 112 #[.slice (some ⟨g, 0, none⟩) 2 2] w fun e w' => e = .returned (.int .i64 (orI x y)) ∧ w' = w := by
  have HA := hide h0
  have HB := hide h1
  go_enter Tryz.func112, Tryz.ntmps112
  go_wp2_with fail
  go_loopw [8] (fun i w' => ∃ k : Nat, k ≤ 2 ∧ i = .int .i64 k ∧ Hid (w' = w) ∧ Hid ((0 < k → x = 0) ∧ (1 < k → y = 0))) (fun i _ => 2 - (intOf i).toNat)
  case atStart => exact ⟨0, by omega, rfl, rfl, by omega, by omega⟩
  case round =>
    obtain ⟨k, hk, rfl, HW, HZ⟩ := hrel
    obtain rfl := HW.out.symm
    clear HW
    rcases (by omega : k = 0 ∨ k = 1 ∨ k = 2) with rfl | rfl | rfl
    · by_cases hx : x = 0
      · subst hx
        go_wp2_with fail
        go_roundw
        case rel => exact ⟨1, by omega, by go_num, (by first | exact trivial | rfl), by unfold Hid; simp⟩
        case measure => simp [intOf]
      · have hb : (x != 0) = true := by simpa using hx
        have HE : Hid (orI x y = x) := by unfold Hid orI; rw [if_neg hx]
        clear hx
        go_wp2_with fail
        go_ret
        exact ⟨by rw [HE.out]; rfl, rfl⟩
    · have HE : Hid (orI x y = y) := by unfold Hid orI; rw [if_pos (HZ.out.1 (by omega))]
      by_cases hy : y = 0
      · subst hy
        have HX := hide (HZ.out.1 (by omega))
        go_wp2_with fail
        go_roundw
        case rel => exact ⟨2, by omega, by go_num, (by first | exact trivial | rfl), by unfold Hid; simp [HX.out]⟩
        case measure => simp [intOf]
      · have hb : (y != 0) = true := by simpa using hy
        clear hy
        go_wp2_with fail
        go_ret
        exact ⟨by rw [HE.out]; rfl, rfl⟩
    · have HE : Hid (orI x y = 0) := by unfold Hid orI; rw [if_pos (HZ.out.1 (by omega))]; exact HZ.out.2 (by omega)
      go_wp2_with fail
      go_ret
      exact ⟨by rw [HE.out]; rfl, rfl⟩

set_option maxHeartbeats 2000000 in
set_option maxRecDepth 100000 in
/-- compare, in whatever world: three blocks are laid. -/
theorem compare_m (x y : Int × Int) (W : World) :
    Calls Tryz.prog 76 #[.agg #[.int .i64 x.1, .int .i64 x.2], .agg #[.int .i64 y.1, .int .i64 y.2]] W fun e w' => e = .returned (.int .i64 (cmpP x y)) ∧ ∃ q os', w' = Sort.grow (W.drewN q) os' := by
  go_enter Tryz.func76, Tryz.ntmps76
  go_upto_region 1 with fail
  have HA := hide (heap_alloc_new W (.cells #[.int .i64 x.1, .int .i64 x.2] 161))
  have HB := hide (heap_alloc_new (W.alloc (.cells #[.int .i64 x.1, .int .i64 x.2] 161)) (.cells #[.int .i64 y.1, .int .i64 y.2] 161))
  have hsz : (W.alloc (.cells #[.int .i64 x.1, .int .i64 x.2] 161)).heap.size = W.heap.size + 1 := by simp
  rw [hsz] at HB
  have HA2 : Hid (((W.alloc (.cells #[.int .i64 x.1, .int .i64 x.2] 161)).alloc (.cells #[.int .i64 y.1, .int .i64 y.2] 161)).heap[W.heap.size]? = some (.cells #[.int .i64 x.1, .int .i64 x.2] 161 (0, 0))) := by
    unfold Hid; rw [Below.heap_alloc _ _ _ (by simp)]; exact HA.out
  have HEND : Hid (∀ c, ∃ q os', ((((W.alloc (.cells #[.int .i64 x.1, .int .i64 x.2] 161)).alloc (.cells #[.int .i64 y.1, .int .i64 y.2] 161)).drew).alloc c) = Sort.grow (W.drewN q) os') := fun c => by
    exact ⟨1, _, three_laid _ _ _ _⟩
  have hHeld0 : ((W.alloc (.cells #[.int .i64 x.1, .int .i64 x.2] 161)).alloc (.cells #[.int .i64 y.1, .int .i64 y.2] 161)).drew.cell? ⟨W.heap.size, 0, none⟩ = some (.int .i64 x.1) ∧ ((W.alloc (.cells #[.int .i64 x.1, .int .i64 x.2] 161)).alloc (.cells #[.int .i64 y.1, .int .i64 y.2] 161)).drew.cell? ⟨W.heap.size, 1, none⟩ = some (.int .i64 x.2) ∧ ((W.alloc (.cells #[.int .i64 x.1, .int .i64 x.2] 161)).alloc (.cells #[.int .i64 y.1, .int .i64 y.2] 161)).drew.cell? ⟨W.heap.size + 1, 0, none⟩ = some (.int .i64 y.1) ∧ ((W.alloc (.cells #[.int .i64 x.1, .int .i64 x.2] 161)).alloc (.cells #[.int .i64 y.1, .int .i64 y.2] 161)).drew.cell? ⟨W.heap.size + 1, 1, none⟩ = some (.int .i64 y.2) := by
    have ha : ((W.alloc (.cells #[.int .i64 x.1, .int .i64 x.2] 161)).alloc (.cells #[.int .i64 y.1, .int .i64 y.2] 161)).drew.heap[W.heap.size]? = some (.cells #[.int .i64 x.1, .int .i64 x.2] 161 (0, 0)) := HA2.out
    have hb : ((W.alloc (.cells #[.int .i64 x.1, .int .i64 x.2] 161)).alloc (.cells #[.int .i64 y.1, .int .i64 y.2] 161)).drew.heap[W.heap.size + 1]? = some (.cells #[.int .i64 y.1, .int .i64 y.2] 161 (0, 0)) := HB.out
    refine ⟨?_, ?_, ?_, ?_⟩
    · simp only [World.cell?, ha]; rfl
    · simp only [World.cell?, ha]; rfl
    · simp only [World.cell?, hb]; rfl
    · simp only [World.cell?, hb]; rfl
  generalize ((W.alloc (.cells #[.int .i64 x.1, .int .i64 x.2] 161)).alloc (.cells #[.int .i64 y.1, .int .i64 y.2] 161)) = w2 at *
  have HC0 : Hid ((w2.drew.alloc (.cells #[.int .i64 (cmpI x.1 y.1), .int .i64 (cmpI x.2 y.2)] 3)).cell? ⟨w2.heap.size, 0, none⟩ = some (.int .i64 (cmpI x.1 y.1))) := by
    have h := heap_alloc_new w2.drew (.cells #[.int .i64 (cmpI x.1 y.1), .int .i64 (cmpI x.2 y.2)] 3)
    unfold Hid
    have h2 : (w2.drew.alloc (.cells #[.int .i64 (cmpI x.1 y.1), .int .i64 (cmpI x.2 y.2)] 3)).heap[w2.heap.size]? = _ := h
    simp only [World.cell?, h2]; rfl
  have HC1 : Hid ((w2.drew.alloc (.cells #[.int .i64 (cmpI x.1 y.1), .int .i64 (cmpI x.2 y.2)] 3)).cell? ⟨w2.heap.size, 1, none⟩ = some (.int .i64 (cmpI x.2 y.2))) := by
    have h := heap_alloc_new w2.drew (.cells #[.int .i64 (cmpI x.1 y.1), .int .i64 (cmpI x.2 y.2)] 3)
    unfold Hid
    have h2 : (w2.drew.alloc (.cells #[.int .i64 (cmpI x.1 y.1), .int .i64 (cmpI x.2 y.2)] 3)).heap[w2.heap.size]? = _ := h
    simp only [World.cell?, h2]; rfl
  clear HA HB HA2 hsz
  refine wp_region_head (fun u => u.cell? ⟨W.heap.size, 0, none⟩ = some (.int .i64 x.1) ∧ u.cell? ⟨W.heap.size, 1, none⟩ = some (.int .i64 x.2) ∧ u.cell? ⟨W.heap.size + 1, 0, none⟩ = some (.int .i64 y.1) ∧ u.cell? ⟨W.heap.size + 1, 1, none⟩ = some (.int .i64 y.2)) 12 (by kernel_rfl) (by kernel_rfl) hHeld0 ?_
  intro hHeld
  refine wpHead_take (i := 0) (v := ?vva0) rfl (by kernel_rfl) (fun _ _ _ h => h) (Or.inl ⟨by rfl, ?hya0⟩) hHeld ?resta0
  case hya0 => (rintro u ⟨hu0, hu1, hu2, hu3⟩; go_simp; try with_reducible rfl)
  simp only [Act.put, List.setIfInBounds_toArray]
  refine wpHead_take (i := 1) (v := ?vva1) rfl (by kernel_rfl) (fun _ _ _ h => h) (Or.inl ⟨by rfl, ?hya1⟩) hHeld ?resta1
  case hya1 => (rintro u ⟨hu0, hu1, hu2, hu3⟩; go_simp; try with_reducible rfl)
  simp only [Act.put]
  refine wpHead_take (i := 2) (v := ?vva2) rfl (by kernel_rfl) (fun _ _ _ h => h) (Or.inl ⟨by rfl, ?hya2⟩) hHeld ?resta2
  case hya2 => (rintro u ⟨hu0, hu1, hu2, hu3⟩; go_simp; try with_reducible rfl)
  simp only [Act.put]
  refine wpHead_take (i := 3) (v := ?vva3) rfl (by kernel_rfl) (fun _ _ _ h => h) (Or.inl ⟨by rfl, ?hya3⟩) hHeld ?resta3
  case hya3 => (rintro u ⟨hu0, hu1, hu2, hu3⟩; go_simp; try with_reducible rfl)
  simp only [Act.put]
  refine wpHead_take (i := 5) (v := ?vva5) rfl (by kernel_rfl) (fun _ _ _ h => h) (Or.inl ⟨by rfl, ?hya5⟩) hHeld ?resta5
  case hya5 => (rintro u ⟨hu0, hu1, hu2, hu3⟩; go_simp; try with_reducible rfl)
  simp only [Act.put]
  refine wpHead_take (i := 6) (v := ?vva6) rfl (by kernel_rfl) (fun _ _ _ h => h) (Or.inl ⟨by rfl, ?hya6⟩) hHeld ?resta6
  case hya6 => (rintro u ⟨hu0, hu1, hu2, hu3⟩; go_simp; try with_reducible rfl)
  simp only [Act.put]
  refine wpHead_take (i := 7) (v := ?vva7) rfl (by kernel_rfl) (fun _ _ _ h => h) (Or.inl ⟨by rfl, ?hya7⟩) hHeld ?resta7
  case hya7 => (rintro u ⟨hu0, hu1, hu2, hu3⟩; go_simp; try with_reducible rfl)
  simp only [Act.put]
  refine wpHead_take (i := 8) (v := ?vva8) rfl (by kernel_rfl) (fun _ _ _ h => h) (Or.inl ⟨by rfl, ?hya8⟩) hHeld ?resta8
  case hya8 => (rintro u ⟨hu0, hu1, hu2, hu3⟩; go_simp; try with_reducible rfl)
  simp only [Act.put]
  refine wpHead_alone (i := 4) rfl (by kernel_rfl) (by kernel_rfl) (by rfl) ?_
  intro K4 hK4
  have HK4 := hide hK4
  clear hK4
  go_simp
  refine (cmpCompare_m x.1 y.1 _).mono ?_
  rintro e w4 ⟨rfl, hw4⟩
  obtain rfl := hw4.symm
  refine HK4.out _ _ hHeld ?_
  clear HK4
  try simp only [Act.put, List.setIfInBounds_toArray]
  refine wpHead_alone (i := 9) rfl (by kernel_rfl) (by kernel_rfl) (by rfl) ?_
  intro K9 hK9
  have HK9 := hide hK9
  clear hK9
  go_simp
  refine (cmpCompare_m x.2 y.2 _).mono ?_
  rintro e w9 ⟨rfl, hw9⟩
  obtain rfl := hw9.symm
  refine HK9.out _ _ hHeld ?_
  clear HK9
  try simp only [Act.put, List.setIfInBounds_toArray]
  refine wpHead_alone (i := 10) rfl (by kernel_rfl) (by kernel_rfl) (by rfl) ?_
  intro Kpa hKpa
  have HKpa := hide hKpa
  clear hKpa
  go_simp
  refine HKpa.out _ _ ⟨pres_grown (grown_alloc (grown_refl _ _)) _ _ hHeld.1, pres_grown (grown_alloc (grown_refl _ _)) _ _ hHeld.2.1, pres_grown (grown_alloc (grown_refl _ _)) _ _ hHeld.2.2.1, pres_grown (grown_alloc (grown_refl _ _)) _ _ hHeld.2.2.2⟩ ?_
  clear HKpa
  try simp only [Act.put, List.setIfInBounds_toArray]
  refine wpHead_alone (i := 11) rfl (by kernel_rfl) (by kernel_rfl) (by rfl) ?_
  intro Kpb hKpb
  have HKpb := hide hKpb
  clear hKpb
  go_simp
  refine (cmpOr_m (cmpI x.1 y.1) (cmpI x.2 y.2) _ _ (HC0.out) (HC1.out)).mono ?_
  rintro e wpb ⟨rfl, hwpb⟩
  obtain rfl := hwpb.symm
  refine HKpb.out _ _ ⟨pres_grown (grown_alloc (grown_refl _ _)) _ _ hHeld.1, pres_grown (grown_alloc (grown_refl _ _)) _ _ hHeld.2.1, pres_grown (grown_alloc (grown_refl _ _)) _ _ hHeld.2.2.1, pres_grown (grown_alloc (grown_refl _ _)) _ _ hHeld.2.2.2⟩ ?_
  clear HKpb
  try simp only [Act.put, List.setIfInBounds_toArray]
  refine wpHead_last rfl (by kernel_rfl) (by kernel_rfl) (by rfl) ?_
  go_simp
  go_wp2_with fail
  go_ret
  exact ⟨rfl, HEND.out _⟩

end Go.Proofs.YtklenjmfalljgaaGreatDoor

/- Sorting what place tells: slices.SortFunc by its contract. -/
namespace Go.Proofs.YtklenjmfalljgaaGreatDoor
open Go.RowKit

def encP (x : Int × Int) : List Value := [.int .i64 x.1, .int .i64 x.2]

theorem ltP (x y : Int × Int) : ltOf cmpP x y = decide (x.1 < y.1 ∨ (x.1 = y.1 ∧ x.2 < y.2)) := by
  unfold ltOf cmpP orI cmpI
  rw [Bool.eq_iff_iff]
  simp only [decide_eq_true_eq]
  repeat' split
  all_goals omega
theorem swoP : Sort.SWO (ltOf cmpP) where
  irrefl x := by rw [ltP]; simp
  trans x y z h1 h2 := by rw [ltP] at *; simp only [decide_eq_true_eq] at *; omega
  ntrans x y z h1 h2 := by rw [ltP] at *; simp only [decide_eq_false_iff_not] at *; omega

/-- What comes out of the sort is the pairs in order. -/
theorem sorted_pairs {ks : List (Nat × Nat)} {d' : Array (Int × Int)} (hp : Sort.PermIn 0 (ks.map pairI).toArray.size (ks.map pairI).toArray d') (hs : Sort.SortedIn (ltOf cmpP) 0 (ks.map pairI).toArray.size d') : d'.toList = (sortK ks).map pairI := by
  obtain ⟨h1, _, h3⟩ := hp
  have hsz : d'.size = ks.length := by rw [h1]; simp
  have hperm : d'.toList.Perm (ks.map pairI) := by
    have e1 : (d'.extract 0 (ks.map pairI).toArray.size).toList = d'.toList := by rw [Array.toList_extract]; simp [List.extract]; rw [List.take_of_length_le (by simp [hsz])]
    have e2 : ((ks.map pairI).toArray.extract 0 (ks.map pairI).toArray.size).toList = ks.map pairI := by rw [Array.toList_extract]; simp [List.extract]; rw [List.take_of_length_le (by simp)]
    rw [e1, e2] at h3; exact h3
  have hback : ∀ x ∈ d'.toList, pairI (x.1.toNat, x.2.toNat) = x := fun x hx => by
    obtain ⟨q, _, rfl⟩ := List.mem_map.1 (hperm.mem_iff.1 hx)
    simp [pairI]
  have hqs : (d'.toList.map fun x => (x.1.toNat, x.2.toNat)).map pairI = d'.toList := by
    rw [List.map_map]
    conv => rhs; rw [← List.map_id d'.toList]
    exact List.map_congr_left (fun x hx => hback x hx)
  have hqp : (d'.toList.map fun x => (x.1.toNat, x.2.toNat)).Perm ks := by
    have := hperm.map (fun x : Int × Int => (x.1.toNat, x.2.toNat))
    have e : (ks.map pairI).map (fun x : Int × Int => (x.1.toNat, x.2.toNat)) = ks := by
      rw [List.map_map]
      conv => rhs; rw [← List.map_id ks]
      exact List.map_congr_left (fun x _ => by simp [pairI])
    rw [e] at this; exact this
  have hso : (d'.toList.map fun x => (x.1.toNat, x.2.toNat)).Pairwise leP := by
    rw [List.pairwise_map, List.pairwise_iff_getElem]
    intro i j hi hj hij
    have hi' : i < d'.size := by simpa using hi
    have hj' : j < d'.size := by simpa using hj
    have := hs i j (Nat.zero_le _) hij (by simp; omega)
    rw [ltP, getElem!_pos d' i hi', getElem!_pos d' j hj'] at this
    have b1 := hback d'[i] (by simp)
    have b2 := hback d'[j] (by simp)
    simp only [decide_eq_false_iff_not] at this
    simp only [pairI, Prod.ext_iff] at b1 b2
    unfold leP
    simp only [Array.getElem_toList]
    omega
  rw [sortK_one hqp.symm hso, hqs]

theorem grown_row' {w0 w w' : World} {g : Nat} (h : w0.grownBy w none) (hg : w.grownBy w' (some g)) (hl : w0.heap.size ≤ g) : w0.grownBy w' none :=
  ⟨hg.os.trans h.os, hg.tape.trans h.tape, hg.output.trans h.output, Nat.le_trans h.size hg.size, fun k hk _ => by
    rw [hg.block k (Nat.lt_of_lt_of_le hk h.size) (by simp; omega)]; exact h.block k hk (by simp)⟩

set_option maxRecDepth 100000 in
theorem sort_m (ks : List (Nat × Nat)) (g : Nat) (w : World) (hb : w.heap[g]? = some (.cells (flatK ks).toArray 161 (0, 0))) (hn : ks.length ≤ 1000000) :
    Calls Tryz.prog 75 #[.slice (some ⟨g, 0, none⟩) ks.length ks.length, .func (.func 76) #[] #[]] w fun e w' => e = .returned (.tuple #[]) ∧ (∀ j (hj : j < (sortK ks).length), w'.cell? ⟨g, j * 2, none⟩ = some (.int .i64 ((sortK ks)[j].1 : Int)) ∧ w'.cell? ⟨g, j * 2 + 1, none⟩ = some (.int .i64 ((sortK ks)[j].2 : Int))) ∧ w.grownBy w' (some g) := by
  have hblk : g < w.heap.size := (Array.getElem?_eq_some_iff.1 hb).1
  have eg : ∀ args w, (callFunc 76 args).run Tryz.prog w = .ok (.enter 76 args) w := enters_of Tryz.func76 (by kernel_rfl) rfl
  have hsz : (ks.map pairI).toArray.size = ks.length := by simp
  have hH : Sort.HoldsK encP 2 w g 0 (ks.map pairI).toArray := by
    intro t ht
    rw [Sort.size_flatK, hsz] at ht
    rw [Sort.get_flatK _ _ _ _ (by rw [hsz]; exact ht)]
    refine ⟨?_, by simp [World.frozen?, hb]⟩
    have hj : t / 2 < (ks.map pairI).length := by simp; omega
    have hq := flatS_at (ks.map pairI) (t / 2) hj
    have e1 : ((ks.map pairI).toArray)[t / 2]! = (ks.map pairI)[t / 2] := by rw [getElem!_pos _ _ (by simpa using hj)]; simp
    rw [e1]
    simp only [World.cell?, hb]
    unfold flatK
    rcases (by omega : t % 2 = 0 ∨ t % 2 = 1) with h | h
    · have et : 0 + t = t / 2 * 2 := by omega
      rw [h, et]
      simpa [encP] using hq.1
    · have et : 0 + t = t / 2 * 2 + 1 := by omega
      rw [h, et]
      simpa [encP] using hq.2
  have hcon := AnyQ.slices_SortFunc Tryz.srt 2 Tryz.isAgg161 Tryz.sizeOf161 encP (fun _ => rfl) (fun x v hv => by simp [encP] at hv; rcases hv with rfl | rfl <;> rfl) cmpP swoP 76 #[] g 0 ks.length (ks.map pairI).toArray w eg (fun _ _ _ _ x y => compare_m x y _) hH hblk (by rw [hsz]; omega)
  change Calls Tryz.prog 75 _ _ _ at hcon
  rw [hsz] at hcon
  refine hcon.mono ?_
  rintro e w' ⟨rfl, d', n, os, hp, hs, rfl⟩
  have hd := sorted_pairs (by rw [hsz]; exact hp) (by rw [hsz]; exact hs)
  have hds : d'.size = ks.length := by have := congrArg List.length hd; simpa [(sortK_perm ks).length_eq] using this
  have hHa : Sort.HoldsK encP 2 (Sort.ahead w n) g 0 (ks.map pairI).toArray := hH
  have hH2 : Sort.HoldsK encP 2 (Sort.putRowK encP 2 (Sort.ahead w n) g 0 d') g 0 d' := Sort.holdsK_putRowK encP 2 _ _ _ _ _ hHa (by rw [hsz, hds])
  have hps : (Sort.putRowK encP 2 (Sort.ahead w n) g 0 d').heap.size = w.heap.size := by unfold Sort.putRowK; rw [Sort.size_putRow]; rfl
  refine ⟨rfl, fun j hj => ?_, ?_⟩
  · have hj2 : j < d'.size := by rw [hds, ← (sortK_perm ks).length_eq]; exact hj
    have hx : d'[j]! = pairI (sortK ks)[j] := by
      rw [getElem!_pos d' j hj2]
      have e1 : d'.toList[j]'(by simpa using hj2) = ((sortK ks).map pairI)[j]'(by simpa using hj) := by congr 1
      simpa using e1
    have up : ∀ o v, (Sort.putRowK encP 2 (Sort.ahead w n) g 0 d').cell? ⟨g, o, none⟩ = some v → (sortWorldK encP 2 w g 0 n d' os).cell? ⟨g, o, none⟩ = some v := fun o v hc => by
      unfold sortWorldK
      rw [World.cell?_of_block (w := Sort.putRowK encP 2 (Sort.ahead w n) g 0 d') (by
        show ((Sort.putRowK encP 2 (Sort.ahead w n) g 0 d').heap ++ os)[g]? = _
        rw [Array.getElem?_append_left (by rw [hps]; exact hblk)])]
      exact hc
    have k0 := (hH2 (j * 2) (by rw [Sort.size_flatK]; omega)).1
    have k1 := (hH2 (j * 2 + 1) (by rw [Sort.size_flatK]; omega)).1
    rw [Sort.get_flatK _ _ _ _ (by omega)] at k0 k1
    have d0 : j * 2 / 2 = j := by omega
    have d1 : (j * 2 + 1) / 2 = j := by omega
    have m0 : j * 2 % 2 = 0 := by omega
    have m1 : (j * 2 + 1) % 2 = 1 := by omega
    rw [d0, m0, hx] at k0
    rw [d1, m1, hx] at k1
    simp only [Nat.zero_add] at k0 k1
    exact ⟨up _ _ k0, up _ _ k1⟩
  · refine ⟨rfl, rfl, rfl, ?_, fun k hk hne => ?_⟩
    · show w.heap.size ≤ ((Sort.putRowK encP 2 (Sort.ahead w n) g 0 d').heap ++ os).size
      rw [Array.size_append, hps]; omega
    · show ((Sort.putRowK encP 2 (Sort.ahead w n) g 0 d').heap ++ os)[k]? = w.heap[k]?
      rw [Array.getElem?_append_left (by rw [hps]; exact hk)]
      show (w.heap.modify g _)[k]? = w.heap[k]?
      rw [Array.getElem?_modify, if_neg (fun e => hne (by rw [e]))]

end Go.Proofs.YtklenjmfalljgaaGreatDoor
