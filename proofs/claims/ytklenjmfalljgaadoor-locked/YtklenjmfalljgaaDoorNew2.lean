/- The walk of New. -/
import Derived.Test.YtklenjmfalljgaaDoorNew
namespace Go.Proofs.YtklenjmfalljgaaDoor
open Go.RowKit
attribute [local go_sem] Go.World.cell?_alloc_some

/-- In the midst of New: the threads ahead of t are done, and k instructions of t. -/
def Inner (w0 : World) (L Bt g m n t k : Nat) (p : List (List Ins)) (w : World) : Prop :=
  ∃ rows v xs, w.heap[g]? = some (.cells rows 126 (0, 0)) ∧ rows.size = n ∧ rows[t]? = some v ∧ w.ownsRow Bt 130 3 v k xs ∧ MovesIn L w.heap.size w v.ownBlock xs t ((codeOf p t).take k) ∧
    Fin L Bt w rows t p ∧ (∀ j, t < j → j < n → rows[j]? = some (.slice none 0 0)) ∧ w.cell? ⟨m, 0, none⟩ = some (.slice (some ⟨g, 0, none⟩) n n) ∧ w0.grownBy w none ∧ L ≤ Bt ∧ Bt ≤ w.heap.size ∧ g < L ∧ m < L ∧ g ≠ m ∧ w0.heap.size ≤ g

theorem inner_step {w0 : World} {L Bt g m n t k : Nat} {p : List (List Ins)} {wr w4 w5 : World} {rows : Array Value} {v : Value} {xs : List Value} {kf : Nat} {caps : Array Value} {i : Ins} {E : Obj} {g2 cap2 : Nat}
    (j1 : wr.heap[g]? = some (.cells rows 126 (0, 0))) (j2 : rows.size = n) (j4 : wr.ownsRow Bt 130 3 v k xs) (j5 : MovesIn L wr.heap.size wr v.ownBlock xs t ((codeOf p t).take k))
    (j6 : Fin L Bt wr rows t p) (j7 : ∀ j, t < j → j < n → rows[j]? = some (.slice none 0 0)) (j9 : w0.grownBy wr none) (j10 : L ≤ Bt) (j11 : Bt ≤ wr.heap.size) (j12 : g < L) (j13 : m < L) (j14 : g ≠ m) (j15 : w0.heap.size ≤ g)
    (ht : t < n) (hk : k < (codeOf p t).length) (hi : (codeOf p t)[k] = i)
    (hact : ∀ u : World, (∀ q, wr.heap.size + 1 ≤ q → q < w4.heap.size → u.heap[q]? = w4.heap[q]?) → ActIs w4.heap.size u (.func (.func kf) #[] caps) t i) (hg4 : wr.grownBy w4 none) (hsz4 : wr.heap.size + 1 ≤ w4.heap.size)
    (hown5 : w5.ownsRow Bt 130 3 (.slice (some ⟨g2, 0, none⟩) (k + 1) cap2) (k + 1) (xs ++ moveV kf caps i)) (hgr : (w4.alloc E).grownBy w5 v.ownBlock) (hat : v.ownBlock = some g2 ∨ g2 = w4.heap.size + 1)
    (s1 : w5.cell? ⟨m, 0, none⟩ = some (.slice (some ⟨g, 0, none⟩) n n)) :
    Inner w0 L Bt g m n t (k + 1) p (w5.setCell ⟨g, t, none⟩ (.slice (some ⟨g2, 0, none⟩) (k + 1) cap2)) := by
  have hob : ∀ q, v.ownBlock = some q → Bt ≤ q ∧ q < wr.heap.size := fun q e => ⟨owns_block j4 q e, by
    rcases j4.2 with ⟨e1, _⟩ | ⟨g', _, _, hv, _, hh, _⟩
    · rw [e1] at e; cases e
    · rw [hv] at e
      have := (Array.getElem?_eq_some_iff.1 hh).1
      simp [Value.ownBlock] at e
      omega⟩
  have hgE : wr.grownBy (w4.alloc E) none := grown_alloc hg4
  have hz5 := hgr.size
  simp only [World.size_alloc] at hz5
  have hgl : g < wr.heap.size := by omega
  have hb5 : w5.heap[g]? = some (.cells rows 126 (0, 0)) := by
    rw [hgr.block g (by simp; omega) (fun e => by have := hob g e.symm; omega), hgE.block g hgl (by simp)]; exact j1
  have hset : w5.grownBy (w5.setCell ⟨g, t, none⟩ (.slice (some ⟨g2, 0, none⟩) (k + 1) cap2)) (some g) := grown_set
  have hin : ∀ q, wr.heap.size + 1 ≤ q → q < w4.heap.size → (w5.setCell ⟨g, t, none⟩ (.slice (some ⟨g2, 0, none⟩) (k + 1) cap2)).heap[q]? = w4.heap[q]? := fun q h1 h2 => by
    rw [Below.heap_setCell _ _ _ _ (by simp; omega), hgr.block q (by simp; omega) (fun e => by have := hob q e.symm; omega), Below.heap_alloc _ _ _ h2]
  have hm1 : MovesIn L wr.heap.size w5 v.ownBlock xs t ((codeOf p t).take k) := (j5.step (Nat.le_refl _) hgE (fun q e => by cases e)).step (by simp; omega) hgr (fun q e => Or.inl e)
  have hm2 := (hm1.reown (g := g2) (hat.imp id (fun e => by omega))).step (by omega) hset (fun q e => by cases e; exact Or.inr (Or.inl j12))
  refine ⟨rows.setIfInBounds t (.slice (some ⟨g2, 0, none⟩) (k + 1) cap2), .slice (some ⟨g2, 0, none⟩) (k + 1) cap2, xs ++ moveV kf caps i, heap_setCell_same w5 g t rows _ _ hb5, by simp [j2], by simp [j2, ht], ownsRow_setCell_below hown5 (by simp; omega) _, ?_, ?_, ?_, ?_, ?_, j10, by simp; omega, j12, j13, j14, j15⟩
  · rw [List.take_succ_eq_append_getElem hk, hi]
    refine MovesIn.snoc (a := wr.heap.size + 1) (b := w4.heap.size) (hm2.mono (by simp; omega)) (by rw [j4.1]; simp; omega) (by omega) (by simp; omega) (fun h e => ?_) (fun u hu => hact u fun q h1 h2 => by rw [hu q h1 h2, hin q h1 h2])
    have e' : h = g2 := by simp [Value.ownBlock] at e; omega
    subst e'
    rcases hat with e2 | e2
    · have := hob _ e2; omega
    · omega
  · exact (((j6.step j11 hgE (fun q e => by cases e)).step (by simp; omega) hgr (fun q e => Or.inr (hob q e).1)).step (by omega) hset (fun q e => by cases e; exact Or.inl j12)).rows (Nat.le_refl _)
  · intro j h1 h2
    rw [Array.getElem?_setIfInBounds_ne (by omega)]; exact j7 j h1 h2
  · rw [World.cell?_setCell_far _ _ _ _ (by simpa using j14)]; exact s1
  · exact grown_setNew (grown_row (grown_trans j9 hgE) hgr (fun q e => by have := hob q e; omega)) j15

set_option maxHeartbeats 4000000 in
set_option maxRecDepth 100000 in
theorem new_m {p : List (List Ins)} {pv : Value} {w : World} (hp : vProg p = true) (hP : ProgAt w pv p) :
    Calls Tryd.prog 39 #[pv] w fun e w' => ∃ m, e = .returned (.pointer (some ⟨m, 0, none⟩)) ∧ MachAt w'.heap.size w' m p ∧ w.grownBy w' none := by
  obtain ⟨i0, hi0, hz0, hz1, hz2⟩ := info_parts info_row
  obtain ⟨i1, hi1, hy0, hy1, hy2⟩ := info_parts info_move
  obtain ⟨ao, cap, rfl, hP⟩ := hP
  have hlen := vProg_len hp
  have HP := hide hP
  have HV := hide hp
  clear hp hP
  have h4 : (p.length : Int) ≤ 4 := by omega
  go_enter Tryd.func39, Tryd.ntmps39
  go_wp2_with (at_make; refine wpList_make_full _ rfl _ _ _ rfl (w.heap.size + 1) 126 i0 _ 1 Tryd.underlying123 hi0 hz0 hz1 .i64 .i64 _ _ p.length rfl rfl rfl rfl (by rw [hz2]; omega) (by unfold maxLen; omega) (by simp) ?_; intro w2 hown2 hg2; have hc2 : w2.cell? ⟨w.heap.size, 0, none⟩ = some (.slice ao p.length cap) := (by rw [hg2.cell_far _ (by simp) (by simp)]; simp))
  have HG2 : Hid (w.grownBy w2 none) := grown_trans (grown_alloc (grown_refl _ _)) hg2
  have hsz2 : w.heap.size + 2 ≤ w2.heap.size := by
    obtain ⟨cur, hcur, _⟩ := owns_cells hown2
    have := (Array.getElem?_eq_some_iff.1 hcur).1
    simp at this; omega
  have HR : Hid (∃ rows : Array Value, w2.heap[w.heap.size + 1]? = some (.cells rows 126 (0, 0)) ∧ rows.size = p.length ∧ ∀ j, j < p.length → rows[j]? = some (.slice none 0 0)) := by
    rcases hown2.2 with ⟨e, _⟩ | ⟨g, c, cur, hv, _, hh, _, _, hs, ht⟩
    · cases e
    · simp at hv
      obtain ⟨e1, e2⟩ := hv
      subst e1; subst e2
      refine ⟨cur, hh, by omega, fun j hj => ?_⟩
      have e : cur.toList = (madeCells #[Value.slice none 0 0] p.length).toList := by
        rw [List.take_of_length_le (by simp; omega)] at ht
        simpa [Value.cells] using ht
      rw [← Array.getElem?_toList, e, toList_madeCells_one]
      simp [hj]
  clear hown2 hg2 hc2
  go_loopw [17] (fun i w' => ∃ t : Nat, t ≤ p.length ∧ i = .int .i64 t ∧ Hid (∃ rows, w'.heap[w.heap.size + 1]? = some (.cells rows 126 (0, 0)) ∧ rows.size = p.length ∧ Fin (w2.heap.size + 1) w'.heap.size w' rows t p ∧ (∀ j, t ≤ j → j < p.length → rows[j]? = some (.slice none 0 0)) ∧
      w'.cell? ⟨w2.heap.size, 0, none⟩ = some (.slice (some ⟨w.heap.size + 1, 0, none⟩) p.length p.length) ∧ w.grownBy w' none ∧ w2.heap.size + 1 ≤ w'.heap.size)) (fun i _ => p.length - (intOf i).toNat)
  case atStart =>
    obtain ⟨rows, h1, h2, h3⟩ := HR.out
    refine ⟨0, Nat.zero_le _, rfl, rows, ?_, h2, fun j hj => by omega, fun j _ hj => h3 j hj, ?_, grown_alloc HG2.out, by simp⟩
    · rw [Below.heap_alloc _ _ _ (by omega)]; exact h1
    · simp
  case round =>
    obtain ⟨t, ht, rfl, HI⟩ := hrel
    obtain ⟨w3, hw3⟩ : ∃ w3, w3 = wr := ⟨_, rfl⟩
    subst hw3
    by_cases hlt : t < p.length
    · obtain ⟨pg, po, rfl, rv, hrv, hcode⟩ := HP.out t hlt
      obtain ⟨ca, ccap, rfl, hcode⟩ := hcode
      have hcl : p[t].length ≤ 16 := by have := vCode_len (vProg_code HV.out hlt); rwa [codeOf_get hlt] at this
      have hcl2 : (p[t].length : Int) ≤ 16 := by omega
      have HC := hide hcode
      clear hcode
      have hrv' : w3.cell? ⟨pg, po + t, none⟩ = some (.slice ca p[t].length ccap) := by
        obtain ⟨rows, _, _, _, _, _, hg, _⟩ := HI.out
        exact pres_grown hg _ _ hrv
      have ht0 : (0 : Int) ≤ (t : Int) := by omega
      have ht1 : (t : Int) < p.length := by omega
      have HT : Hid (codeOf p t = p[t]) := codeOf_get hlt
      generalize hcd : p[t] = c at *
      clear hcd
      go_wp2_with fail
      go_loopw [24] (fun i w' => ∃ k : Nat, k ≤ c.length ∧ i = .int .i64 k ∧ Hid (Inner w (w2.heap.size + 1) w3.heap.size (w.heap.size + 1) w2.heap.size p.length t k p w')) (fun i _ => c.length - (intOf i).toNat)
      case atStart =>
        obtain ⟨rows, h1, h2, h3, h4, h5, h6, h7⟩ := HI.out
        exact ⟨0, Nat.zero_le _, rfl, rows, _, [], h1, h2, h4 t (Nat.le_refl _) hlt, ⟨rfl, Or.inl ⟨rfl, rfl⟩⟩, fun k hk => by simp at hk, h3, fun j hj hj2 => h4 j (by omega) hj2, h5, h6, h7, Nat.le_refl _, by omega, by omega, by omega, by omega⟩
      case round =>
        obtain ⟨k, hk, rfl, HIn⟩ := hrel
        by_cases hkl : k < c.length
        · obtain ⟨cg, co, rfl, c0, c1, c2, c3⟩ := HC.out k hkl
          have hpr : Pres w wr := by
            obtain ⟨rows, v, xs, _, _, _, _, _, _, _, _, hg, _⟩ := HIn.out
            exact pres_grown hg
          have d0 := hpr _ _ c0
          have d1 := hpr _ _ c1
          have d2 := hpr _ _ c2
          have d3 := hpr _ _ c3
          clear c0 c1 c2 c3 hpr
          have hk0 : (0 : Int) ≤ (k : Int) := by omega
          have hk1 : (k : Int) < c.length := by omega
          obtain ⟨rows, v, xs, j1, j2, j3, j4, j5, j6, j7, j8, j9, j10, j11, j12, j13, j14, j15⟩ := HIn.out
          have hgt : wr.cell? ⟨w.heap.size + 1, t, none⟩ = some v := by simp [World.cell?, j1, j3]
          have hgf : wr.frozen? ⟨w.heap.size + 1, t, none⟩ = false := by simp [World.frozen?, j1]
          have J4 := hide j4
          have J5 := hide j5
          have J1 := hide j1
          have J2 := hide j2
          have J6 := hide j6
          have J7 := hide j7
          have J9 := hide j9
          clear j1 j2 j3 j4 j5 j6 j7 j9
          go_wp2_with fail
          refine wp_region_head (fun u => u.cell? ⟨w2.heap.size, 0, none⟩ = some (.slice (some ⟨w.heap.size + 1, 0, none⟩) p.length p.length) ∧ u.cell? ⟨w.heap.size + 1, t, none⟩ = some v ∧ u.cell? ⟨wr.heap.size, 0, none⟩ = some (.int .i64 c[k].op) ∧ u.cell? ⟨wr.heap.size, 1, none⟩ = some (.int .i64 c[k].a) ∧ u.cell? ⟨wr.heap.size, 2, none⟩ = some (.int .i64 c[k].b) ∧ u.cell? ⟨wr.heap.size, 3, none⟩ = some (.int .i64 c[k].n)) 18 (by kernel_rfl) (by kernel_rfl) ?_ ?_
          · refine ⟨?_, ?_, ?_, ?_, ?_, ?_⟩ <;> simp [go_sem, j8, hgt]
          intro hHeld
          refine wpHead_take (i := 0) (v := ?vv0) rfl (by kernel_rfl) (fun _ _ _ h => h) (Or.inl ⟨by rfl, ?hy0⟩) (by assumption) ?rest0
          case hy0 => (intro u hu; obtain ⟨g1, g2, g3, g4, g5, g6⟩ := hu; go_simp; try with_reducible rfl)
          simp only [Act.put, List.setIfInBounds_toArray]
          refine wpHead_take (i := 1) (v := ?vv1) rfl (by kernel_rfl) (fun _ _ _ h => h) (Or.inl ⟨by rfl, ?hy1⟩) (by assumption) ?rest1
          case hy1 => (intro u hu; obtain ⟨g1, g2, g3, g4, g5, g6⟩ := hu; go_simp; try with_reducible rfl)
          simp only [Act.put]
          refine wpHead_take (i := 2) (v := ?vv2) rfl (by kernel_rfl) (fun _ _ _ h => h) (Or.inl ⟨by rfl, ?hy2⟩) (by assumption) ?rest2
          case hy2 => (intro u hu; obtain ⟨g1, g2, g3, g4, g5, g6⟩ := hu; go_simp; try with_reducible rfl)
          simp only [Act.put]
          refine wpHead_take (i := 3) (v := ?vv3) rfl (by kernel_rfl) (fun _ _ _ h => h) (Or.inl ⟨by rfl, ?hy3⟩) (by assumption) ?rest3
          case hy3 => (intro u hu; obtain ⟨g1, g2, g3, g4, g5, g6⟩ := hu; go_simp; try with_reducible rfl)
          simp only [Act.put]
          refine wpHead_take (i := 4) (v := ?vv4) rfl (by kernel_rfl) (fun _ _ _ h => h) (Or.inl ⟨by rfl, ?hy4⟩) (by assumption) ?rest4
          case hy4 => (intro u hu; obtain ⟨g1, g2, g3, g4, g5, g6⟩ := hu; go_simp; try with_reducible rfl)
          simp only [Act.put]
          refine wpHead_take (i := 5) (v := ?vv5) rfl (by kernel_rfl) (fun _ _ _ h => h) (Or.inl ⟨by rfl, ?hy5⟩) (by assumption) ?rest5
          case hy5 => (intro u hu; obtain ⟨g1, g2, g3, g4, g5, g6⟩ := hu; go_simp; try with_reducible rfl)
          simp only [Act.put]
          refine wpHead_take (i := 6) (v := ?vv6) rfl (by kernel_rfl) (fun _ _ _ h => h) (Or.inl ⟨by rfl, ?hy6⟩) (by assumption) ?rest6
          case hy6 => (intro u hu; obtain ⟨g1, g2, g3, g4, g5, g6⟩ := hu; go_simp; try with_reducible rfl)
          simp only [Act.put]
          refine wpHead_take (i := 7) (v := ?vv7) rfl (by kernel_rfl) (fun _ _ _ h => h) (Or.inl ⟨by rfl, ?hy7⟩) (by assumption) ?rest7
          case hy7 => (intro u hu; obtain ⟨g1, g2, g3, g4, g5, g6⟩ := hu; go_simp; try with_reducible rfl)
          simp only [Act.put]
          refine wpHead_take (i := 8) (v := ?vv8) rfl (by kernel_rfl) (fun _ _ _ h => h) (Or.inl ⟨by rfl, ?hy8⟩) (by assumption) ?rest8
          case hy8 => (intro u hu; obtain ⟨g1, g2, g3, g4, g5, g6⟩ := hu; go_simp; try with_reducible rfl)
          simp only [Act.put]
          refine wpHead_take (i := 9) (v := ?vv9) rfl (by kernel_rfl) (fun _ _ _ h => h) (Or.inl ⟨by rfl, ?hy9⟩) (by assumption) ?rest9
          case hy9 => (intro u hu; obtain ⟨g1, g2, g3, g4, g5, g6⟩ := hu; go_simp; try with_reducible rfl)
          simp only [Act.put]
          refine wpHead_take (i := 10) (v := ?vv10) rfl (by kernel_rfl) (fun _ _ _ h => h) (Or.inl ⟨by rfl, ?hy10⟩) (by assumption) ?rest10
          case hy10 => (intro u hu; obtain ⟨g1, g2, g3, g4, g5, g6⟩ := hu; go_simp; try with_reducible rfl)
          simp only [Act.put]
          refine wpHead_take (i := 11) (v := ?vv11) rfl (by kernel_rfl) (fun _ _ _ h => h) (Or.inl ⟨by rfl, ?hy11⟩) (by assumption) ?rest11
          case hy11 => (intro u hu; obtain ⟨g1, g2, g3, g4, g5, g6⟩ := hu; go_simp; try with_reducible rfl)
          simp only [Act.put]
          refine wpHead_take (i := 12) (v := ?vv12) rfl (by kernel_rfl) (fun _ _ _ h => h) (Or.inl ⟨by rfl, ?hy12⟩) (by assumption) ?rest12
          case hy12 => (intro u hu; obtain ⟨g1, g2, g3, g4, g5, g6⟩ := hu; go_simp; try with_reducible rfl)
          simp only [Act.put]
          refine wpHead_take (i := 13) (v := ?vv13) rfl (by kernel_rfl) (fun _ _ _ h => h) (Or.inl ⟨by rfl, ?hy13⟩) (by assumption) ?rest13
          case hy13 => (intro u hu; obtain ⟨g1, g2, g3, g4, g5, g6⟩ := hu; go_simp; try with_reducible rfl)
          simp only [Act.put]
          have hv1 := vIns_op (vCode_ins (by have := vProg_code HV.out hlt; rw [HT.out] at this; exact this) hkl)
          refine wpHead_alone (i := 14) rfl (by kernel_rfl) (by kernel_rfl) (by rfl) ?_
          intro K14 hK14
          have HK14 := hide hK14
          clear hK14
          go_simp
          refine (makeMove_m t c[k] hv1.1 hv1.2 _).mono ?_
          rintro e w4 ⟨kf, caps, rfl, hact, hg4⟩
          simp only []
          have HACT := hide hact
          have HG4 := hide hg4
          have hsz4 : wr.heap.size + 1 ≤ w4.heap.size := by have := hg4.size; simpa using this
          have hS4 : w4.cell? ⟨w2.heap.size, 0, none⟩ = some (.slice (some ⟨w.heap.size + 1, 0, none⟩) p.length p.length) ∧ w4.cell? ⟨w.heap.size + 1, t, none⟩ = some v ∧ w4.cell? ⟨wr.heap.size, 0, none⟩ = some (.int .i64 c[k].op) ∧ w4.cell? ⟨wr.heap.size, 1, none⟩ = some (.int .i64 c[k].a) ∧ w4.cell? ⟨wr.heap.size, 2, none⟩ = some (.int .i64 c[k].b) ∧ w4.cell? ⟨wr.heap.size, 3, none⟩ = some (.int .i64 c[k].n) := by
            obtain ⟨q1, q2, q3, q4, q5, q6⟩ := hHeld
            have hpr := pres_grown hg4
            exact ⟨hpr _ _ q1, hpr _ _ q2, hpr _ _ q3, hpr _ _ q4, hpr _ _ q5, hpr _ _ q6⟩
          clear hact hg4 hHeld
          refine HK14.out _ _ hS4 ?_
          clear HK14
          refine wpHead_alone (i := 15) rfl (by kernel_rfl) (by kernel_rfl) (by rfl) ?_
          intro K15 hK15
          have HK15 := hide hK15
          clear hK15
          go_simp
          have hS5 : (w4.alloc (.cells #[.func (.func kf) #[] caps, .bool (c[k].op == 9), .int .i64 (if c[k].op = 9 then c[k].a else 0)] 130)).cell? ⟨w2.heap.size, 0, none⟩ = some (.slice (some ⟨w.heap.size + 1, 0, none⟩) p.length p.length) ∧ (w4.alloc (.cells #[.func (.func kf) #[] caps, .bool (c[k].op == 9), .int .i64 (if c[k].op = 9 then c[k].a else 0)] 130)).cell? ⟨w.heap.size + 1, t, none⟩ = some v ∧ (w4.alloc (.cells #[.func (.func kf) #[] caps, .bool (c[k].op == 9), .int .i64 (if c[k].op = 9 then c[k].a else 0)] 130)).cell? ⟨wr.heap.size, 0, none⟩ = some (.int .i64 c[k].op) ∧ (w4.alloc (.cells #[.func (.func kf) #[] caps, .bool (c[k].op == 9), .int .i64 (if c[k].op = 9 then c[k].a else 0)] 130)).cell? ⟨wr.heap.size, 1, none⟩ = some (.int .i64 c[k].a) ∧ (w4.alloc (.cells #[.func (.func kf) #[] caps, .bool (c[k].op == 9), .int .i64 (if c[k].op = 9 then c[k].a else 0)] 130)).cell? ⟨wr.heap.size, 2, none⟩ = some (.int .i64 c[k].b) ∧ (w4.alloc (.cells #[.func (.func kf) #[] caps, .bool (c[k].op == 9), .int .i64 (if c[k].op = 9 then c[k].a else 0)] 130)).cell? ⟨wr.heap.size, 3, none⟩ = some (.int .i64 c[k].n) := by
            obtain ⟨q1, q2, q3, q4, q5, q6⟩ := hS4
            have hpr := pres_grown (grown_alloc (o := .cells #[.func (.func kf) #[] caps, .bool (c[k].op == 9), .int .i64 (if c[k].op = 9 then c[k].a else 0)] 130) (grown_refl w4 none))
            exact ⟨hpr _ _ q1, hpr _ _ q2, hpr _ _ q3, hpr _ _ q4, hpr _ _ q5, hpr _ _ q6⟩
          refine HK15.out _ _ hS5 ?_
          clear HK15
          have HGw : Hid (wr.grownBy (w4.alloc (.cells #[.func (.func kf) #[] caps, .bool (c[k].op == 9), .int .i64 (if c[k].op = 9 then c[k].a else 0)] 130)) none) := grown_alloc (grown_trans (grown_drew (grown_alloc (grown_refl _ _))) HG4.out)
          have h63 : k + 1 ≤ maxLen := by unfold maxLen; omega
          have hby : (k + 1) * 24 ≤ 140737488355328 := by omega
          refine wpHead_alone (i := 16) rfl (by kernel_rfl) (by kernel_rfl) (by rfl) ?_
          intro K16 hK16
          have HK16 := hide hK16
          clear hK16
          refine wp_append_lies _ (.tmp 39) (.tmp 43) 126 (by rfl) w3.heap.size 130 i1 _ 3 24 Tryd.underlying126 hi1 hy0 hy1 hy2 rfl (by omega) v k xs (by rfl) (owns_grown J4.out HGw.out (fun _ e => by cases e)) ⟨w4.heap.size, 0, none⟩ 1 1 (moveV kf caps c[k]) (by rfl) (by rfl) (World.news_of_block (cs := #[.func (.func kf) #[] caps, .bool (c[k].op == 9), .int .i64 (if c[k].op = 9 then c[k].a else 0)]) (t := 130) (fr := (0, 0)) (heap_alloc_new w4 _)) (by simp [moveV, Value.oneCell']) (by omega) h63 hby (by simp; omega) (w4.heap.size + 1) (by simp) ?_
          intro g2 cap2 w5 hown5 hgrow hat hlt5
          have hob : ∀ q, v.ownBlock = some q → w3.heap.size ≤ q ∧ q < wr.heap.size := fun q e => ⟨owns_block J4.out q e, by
            rcases J4.out.2 with ⟨e1, _⟩ | ⟨g', _, _, hv, _, hh, _⟩
            · rw [e1] at e; cases e
            · rw [hv] at e
              have := (Array.getElem?_eq_some_iff.1 hh).1
              simp [Value.ownBlock] at e
              omega⟩
          have hfar : ∀ q o x, (q < w3.heap.size ∨ wr.heap.size ≤ q) → (w4.alloc (.cells #[.func (.func kf) #[] caps, .bool (c[k].op == 9), .int .i64 (if c[k].op = 9 then c[k].a else 0)] 130)).cell? ⟨q, o, none⟩ = some x → w5.cell? ⟨q, o, none⟩ = some x := fun q o x hq hx => by
            rw [hgrow.cell_far _ (World.block_lt_of_cell? _ _ hx) (fun e => by have := hob q e.symm; omega)]; exact hx
          have hS6 : w5.cell? ⟨w2.heap.size, 0, none⟩ = some (.slice (some ⟨w.heap.size + 1, 0, none⟩) p.length p.length) ∧ w5.cell? ⟨w.heap.size + 1, t, none⟩ = some v ∧ w5.cell? ⟨wr.heap.size, 0, none⟩ = some (.int .i64 c[k].op) ∧ w5.cell? ⟨wr.heap.size, 1, none⟩ = some (.int .i64 c[k].a) ∧ w5.cell? ⟨wr.heap.size, 2, none⟩ = some (.int .i64 c[k].b) ∧ w5.cell? ⟨wr.heap.size, 3, none⟩ = some (.int .i64 c[k].n) := by
            obtain ⟨q1, q2, q3, q4, q5, q6⟩ := hS5
            exact ⟨hfar _ _ _ (by omega) q1, hfar _ _ _ (by omega) q2, hfar _ _ _ (by omega) q3, hfar _ _ _ (by omega) q4, hfar _ _ _ (by omega) q5, hfar _ _ _ (by omega) q6⟩
          have HOW5 := hide hown5
          have HGR := hide hgrow
          have HAT := hide hat
          clear hown5 hgrow hat hS4 hS5 hfar
          refine HK16.out _ _ hS6 ?_
          clear HK16
          simp only [Act.put, List.setIfInBounds_toArray]
          refine wpHead_take (i := 17) (v := ?vv17) rfl (by kernel_rfl) (fun _ _ _ h => h) (Or.inl ⟨by rfl, ?hy17⟩) (by assumption) ?rest17
          case hy17 => (intro u hu; obtain ⟨g1, g2, g3, g4, g5, g6⟩ := hu; go_simp; try with_reducible rfl)
          simp only [Act.put]
          refine wpHead_last rfl (by kernel_rfl) (by kernel_rfl) (by rfl) ?_
          obtain ⟨s1, s2, _⟩ := hS6
          have s2f : w5.frozen? ⟨w.heap.size + 1, t, none⟩ = false := by
            rw [HGR.out.frozen_far _ (by simp; omega) (fun e => by have := hob _ e.symm; simp at this; omega), HGw.out.frozen_far _ (by simp; omega) (by simp)]
            exact hgf
          have HNX : Hid (Inner w (w2.heap.size + 1) w3.heap.size (w.heap.size + 1) w2.heap.size p.length t (k + 1) p (w5.setCell ⟨w.heap.size + 1, t, none⟩ (.slice (some ⟨g2, 0, none⟩) (k + 1) cap2))) :=
            inner_step J1.out J2.out J4.out J5.out J6.out J7.out J9.out j10 j11 j12 j13 j14 j15 hlt (by rw [HT.out]; exact hkl) (i := c[k]) (by simp [HT.out]) (fun u hu => HACT.out u (fun q h1 h2 => hu q (by simpa using h1) h2)) (grown_trans (grown_drew (grown_alloc (grown_refl _ _))) HG4.out) hsz4 HOW5.out HGR.out HAT.out s1
          clear J1 J2 J4 J5 J6 J7 J9 HACT HG4 HOW5 HGR HAT HGw
          go_simp
          go_wp2
          go_roundw
          case rel => exact ⟨k + 1, by omega, by go_num, HNX⟩
          case measure => simp [intOf]; omega
        · have ek : k = c.length := by omega
          have HNX : Hid (∃ rows, wr.heap[w.heap.size + 1]? = some (.cells rows 126 (0, 0)) ∧ rows.size = p.length ∧ Fin (w2.heap.size + 1) wr.heap.size wr rows (t + 1) p ∧ (∀ j, t + 1 ≤ j → j < p.length → rows[j]? = some (.slice none 0 0)) ∧
              wr.cell? ⟨w2.heap.size, 0, none⟩ = some (.slice (some ⟨w.heap.size + 1, 0, none⟩) p.length p.length) ∧ w.grownBy wr none ∧ w2.heap.size + 1 ≤ wr.heap.size) := by
            obtain ⟨rows, v, xs, j1, j2, j3, j4, j5, j6, j7, j8, j9, j10, j11, j12, j13, j14, j15⟩ := HIn.out
            have hlc : (codeOf p t).length = k := by rw [HT.out]; omega
            rw [List.take_of_length_le (by omega)] at j5
            have hbl : ∀ h, v.ownBlock = some h → h < wr.heap.size := fun q e => by
              rcases j4.2 with ⟨e1, _⟩ | ⟨g', _, _, hv, _, hh, _⟩
              · rw [e1] at e; cases e
              · rw [hv] at e
                have := (Array.getElem?_eq_some_iff.1 hh).1
                simp [Value.ownBlock] at e
                omega
            refine ⟨rows, j1, j2, (j6.mono j11).succ j3 (by rw [hlc]; exact owns_mono j4 (by omega)) hbl j5, fun j h1 h2 => j7 j (by omega) h2, j8, j9, by omega⟩
          clear ek
          go_wp2
          go_roundw
          case rel => exact ⟨t + 1, by omega, by go_num, HNX⟩
          case measure => simp [intOf]; omega
    · have et : t = p.length := by omega
      have HNX : Hid (MachAt w3.heap.size w3 w2.heap.size p ∧ w.grownBy w3 none) := by
        obtain ⟨rows, j1, j2, j3, j4, j5, j6, j7⟩ := HI.out
        refine ⟨⟨w.heap.size + 1, p.length, by omega, by omega, j5, fun j hj => ?_⟩, j6⟩
        obtain ⟨v, e1, e2⟩ := j3.rowIs (j := j) (by omega)
        exact ⟨v, by simp [World.cell?, j1, e1], e2⟩
      clear et
      go_wp2
      go_ret
      exact ⟨w2.heap.size, rfl, HNX.out.1, HNX.out.2⟩

end Go.Proofs.YtklenjmfalljgaaDoor
