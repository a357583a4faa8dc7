/- The texts New2 Rep Awk PureB Sch Sch2 Bas Ctr Eq4 Tla PureC. -/
import Derived.Test.YtklenjmfalljgaaGreatDoorM00
import Derived.Test.YtklenjmfalljgaaGreatDoorM02
import Derived.WalkSpells
import Derived.WalkLawsBesides
import Derived.Deep.Light
import Derived.Lib.QuietBelow
import Derived.BigQuiet
import Derived.Deep.QuietTactic
import Derived.ChangeKeysEq
import Derived.Control

/- The walk of New. -/
namespace Go.Proofs.YtklenjmfalljgaaGreatDoor
open Go.RowKit
attribute [local go_sem] Go.World.cell?_alloc_some

/-- In the midst of New: the threads ahead of t are done, and k instructions of t. -/
def Inner (w0 : World) (L Bt g m n t k : Nat) (p : List (List Ins)) (w : World) : Prop :=
  ∃ rows v xs, w.heap[g]? = some (.cells rows 107 (0, 0)) ∧ rows.size = n ∧ rows[t]? = some v ∧ w.ownsRow Bt 111 3 v k xs ∧ MovesIn L w.heap.size w v.ownBlock xs t ((codeOf p t).take k) ∧
    Fin L Bt w rows t p ∧ (∀ j, t < j → j < n → rows[j]? = some (.slice none 0 0)) ∧ w.cell? ⟨m, 0, none⟩ = some (.slice (some ⟨g, 0, none⟩) n n) ∧ w0.grownBy w none ∧ L ≤ Bt ∧ Bt ≤ w.heap.size ∧ g < L ∧ m < L ∧ g ≠ m ∧ w0.heap.size ≤ g

theorem inner_step {w0 : World} {L Bt g m n t k : Nat} {p : List (List Ins)} {wr w4 w5 : World} {rows : Array Value} {v : Value} {xs : List Value} {kf : Nat} {caps : Array Value} {i : Ins} {E : Obj} {g2 cap2 : Nat}
    (j1 : wr.heap[g]? = some (.cells rows 107 (0, 0))) (j2 : rows.size = n) (j4 : wr.ownsRow Bt 111 3 v k xs) (j5 : MovesIn L wr.heap.size wr v.ownBlock xs t ((codeOf p t).take k))
    (j6 : Fin L Bt wr rows t p) (j7 : ∀ j, t < j → j < n → rows[j]? = some (.slice none 0 0)) (j9 : w0.grownBy wr none) (j10 : L ≤ Bt) (j11 : Bt ≤ wr.heap.size) (j12 : g < L) (j13 : m < L) (j14 : g ≠ m) (j15 : w0.heap.size ≤ g)
    (ht : t < n) (hk : k < (codeOf p t).length) (hi : (codeOf p t)[k] = i)
    (hact : ∀ u : World, (∀ q, wr.heap.size + 1 ≤ q → q < w4.heap.size → u.heap[q]? = w4.heap[q]?) → ActIs w4.heap.size u (.func (.func kf) #[] caps) t i) (hg4 : wr.grownBy w4 none) (hsz4 : wr.heap.size + 1 ≤ w4.heap.size)
    (hown5 : w5.ownsRow Bt 111 3 (.slice (some ⟨g2, 0, none⟩) (k + 1) cap2) (k + 1) (xs ++ moveV kf caps i)) (hgr : (w4.alloc E).grownBy w5 v.ownBlock) (hat : v.ownBlock = some g2 ∨ g2 = w4.heap.size + 1)
    (s1 : w5.cell? ⟨m, 0, none⟩ = some (.slice (some ⟨g, 0, none⟩) n n)) :
    Inner w0 L Bt g m n t (k + 1) p (w5.setCell ⟨g, t, none⟩ (.slice (some ⟨g2, 0, none⟩) (k + 1) cap2)) := by
  have hob : ∀ q, v.ownBlock = some q → Bt ≤ q ∧ q < wr.heap.size := fun q e => ⟨owns_block j4 q e, by
    rcases j4.2 with ⟨e1, _⟩ | ⟨g', _, _, hv, _, hh, _⟩
    · rw [e1] at e; cases e
    · rw [hv] at e
      have := (Array.getElem?_eq_some_iff.1 hh).1
      simp [Value.ownBlock] at e
      omega⟩
  have hgE : wr.grownBy (w4.alloc E) none := grown_alloc hg4
  have hz5 := hgr.size
  simp only [World.size_alloc] at hz5
  have hgl : g < wr.heap.size := by omega
  have hb5 : w5.heap[g]? = some (.cells rows 107 (0, 0)) := by
    rw [hgr.block g (by simp; omega) (fun e => by have := hob g e.symm; omega), hgE.block g hgl (by simp)]; exact j1
  have hset : w5.grownBy (w5.setCell ⟨g, t, none⟩ (.slice (some ⟨g2, 0, none⟩) (k + 1) cap2)) (some g) := grown_set
  have hin : ∀ q, wr.heap.size + 1 ≤ q → q < w4.heap.size → (w5.setCell ⟨g, t, none⟩ (.slice (some ⟨g2, 0, none⟩) (k + 1) cap2)).heap[q]? = w4.heap[q]? := fun q h1 h2 => by
    rw [Below.heap_setCell _ _ _ _ (by simp; omega), hgr.block q (by simp; omega) (fun e => by have := hob q e.symm; omega), Below.heap_alloc _ _ _ h2]
  have hm1 : MovesIn L wr.heap.size w5 v.ownBlock xs t ((codeOf p t).take k) := (j5.step (Nat.le_refl _) hgE (fun q e => by cases e)).step (by simp; omega) hgr (fun q e => Or.inl e)
  have hm2 := (hm1.reown (g := g2) (hat.imp id (fun e => by omega))).step (by omega) hset (fun q e => by cases e; exact Or.inr (Or.inl j12))
  refine ⟨rows.setIfInBounds t (.slice (some ⟨g2, 0, none⟩) (k + 1) cap2), .slice (some ⟨g2, 0, none⟩) (k + 1) cap2, xs ++ moveV kf caps i, heap_setCell_same w5 g t rows _ _ hb5, by simp [j2], by simp [j2, ht], ownsRow_setCell_below hown5 (by simp; omega) _, ?_, ?_, ?_, ?_, ?_, j10, by simp; omega, j12, j13, j14, j15⟩
  · rw [List.take_succ_eq_append_getElem hk, hi]
    refine MovesIn.snoc (a := wr.heap.size + 1) (b := w4.heap.size) (hm2.mono (by simp; omega)) (by rw [j4.1]; simp; omega) (by omega) (by simp; omega) (fun h e => ?_) (fun u hu => hact u fun q h1 h2 => by rw [hu q h1 h2, hin q h1 h2])
    have e' : h = g2 := by simp [Value.ownBlock] at e; omega
    subst e'
    rcases hat with e2 | e2
    · have := hob _ e2; omega
    · omega
  · exact (((j6.step j11 hgE (fun q e => by cases e)).step (by simp; omega) hgr (fun q e => Or.inr (hob q e).1)).step (by omega) hset (fun q e => by cases e; exact Or.inl j12)).rows (Nat.le_refl _)
  · intro j h1 h2
    rw [Array.getElem?_setIfInBounds_ne (by omega)]; exact j7 j h1 h2
  · rw [World.cell?_setCell_far _ _ _ _ (by simpa using j14)]; exact s1
  · exact grown_setNew (grown_row (grown_trans j9 hgE) hgr (fun q e => by have := hob q e; omega)) j15

set_option maxHeartbeats 4000000 in
set_option maxRecDepth 100000 in
theorem new_m {p : List (List Ins)} {pv : Value} {w : World} (hp : vProg p = true) (hP : ProgAt w pv p) :
    Calls Tryz.prog 24 #[pv] w fun e w' => ∃ m, e = .returned (.pointer (some ⟨m, 0, none⟩)) ∧ MachAt w'.heap.size w' m p ∧ w.grownBy w' none := by
  obtain ⟨i0, hi0, hz0, hz1, hz2⟩ := info_parts info_row
  obtain ⟨i1, hi1, hy0, hy1, hy2⟩ := info_parts info_move
  obtain ⟨ao, cap, rfl, hP⟩ := hP
  have hlen := vProg_len hp
  have HP := hide hP
  have HV := hide hp
  clear hp hP
  have h4 : (p.length : Int) ≤ 4 := by omega
  go_enter Tryz.func24, Tryz.ntmps24
  go_wp2_with (at_make; refine wpList_make_full _ rfl _ _ _ rfl (w.heap.size + 1) 107 i0 _ 1 Tryz.underlying104 hi0 hz0 hz1 .i64 .i64 _ _ p.length rfl rfl rfl rfl (by rw [hz2]; omega) (by unfold maxLen; omega) (by simp) ?_; intro w2 hown2 hg2; have hc2 : w2.cell? ⟨w.heap.size, 0, none⟩ = some (.slice ao p.length cap) := (by rw [hg2.cell_far _ (by simp) (by simp)]; simp))
  have HG2 : Hid (w.grownBy w2 none) := grown_trans (grown_alloc (grown_refl _ _)) hg2
  have hsz2 : w.heap.size + 2 ≤ w2.heap.size := by
    obtain ⟨cur, hcur, _⟩ := owns_cells hown2
    have := (Array.getElem?_eq_some_iff.1 hcur).1
    simp at this; omega
  have HR : Hid (∃ rows : Array Value, w2.heap[w.heap.size + 1]? = some (.cells rows 107 (0, 0)) ∧ rows.size = p.length ∧ ∀ j, j < p.length → rows[j]? = some (.slice none 0 0)) := by
    rcases hown2.2 with ⟨e, _⟩ | ⟨g, c, cur, hv, _, hh, _, _, hs, ht⟩
    · cases e
    · simp at hv
      obtain ⟨e1, e2⟩ := hv
      subst e1; subst e2
      refine ⟨cur, hh, by omega, fun j hj => ?_⟩
      have e : cur.toList = (madeCells #[Value.slice none 0 0] p.length).toList := by
        rw [List.take_of_length_le (by simp; omega)] at ht
        simpa [Value.cells] using ht
      rw [← Array.getElem?_toList, e, toList_madeCells_one]
      simp [hj]
  clear hown2 hg2 hc2
  go_loopw [17] (fun i w' => ∃ t : Nat, t ≤ p.length ∧ i = .int .i64 t ∧ Hid (∃ rows, w'.heap[w.heap.size + 1]? = some (.cells rows 107 (0, 0)) ∧ rows.size = p.length ∧ Fin (w2.heap.size + 1) w'.heap.size w' rows t p ∧ (∀ j, t ≤ j → j < p.length → rows[j]? = some (.slice none 0 0)) ∧
      w'.cell? ⟨w2.heap.size, 0, none⟩ = some (.slice (some ⟨w.heap.size + 1, 0, none⟩) p.length p.length) ∧ w.grownBy w' none ∧ w2.heap.size + 1 ≤ w'.heap.size)) (fun i _ => p.length - (intOf i).toNat)
  case atStart =>
    obtain ⟨rows, h1, h2, h3⟩ := HR.out
    refine ⟨0, Nat.zero_le _, rfl, rows, ?_, h2, fun j hj => by omega, fun j _ hj => h3 j hj, ?_, grown_alloc HG2.out, by simp⟩
    · rw [Below.heap_alloc _ _ _ (by omega)]; exact h1
    · simp
  case round =>
    obtain ⟨t, ht, rfl, HI⟩ := hrel
    obtain ⟨w3, hw3⟩ : ∃ w3, w3 = wr := ⟨_, rfl⟩
    subst hw3
    by_cases hlt : t < p.length
    · obtain ⟨pg, po, rfl, rv, hrv, hcode⟩ := HP.out t hlt
      obtain ⟨ca, ccap, rfl, hcode⟩ := hcode
      have hcl : p[t].length ≤ 16 := by have := vCode_len (vProg_code HV.out hlt); rwa [codeOf_get hlt] at this
      have hcl2 : (p[t].length : Int) ≤ 16 := by omega
      have HC := hide hcode
      clear hcode
      have hrv' : w3.cell? ⟨pg, po + t, none⟩ = some (.slice ca p[t].length ccap) := by
        obtain ⟨rows, _, _, _, _, _, hg, _⟩ := HI.out
        exact pres_grown hg _ _ hrv
      have ht0 : (0 : Int) ≤ (t : Int) := by omega
      have ht1 : (t : Int) < p.length := by omega
      have HT : Hid (codeOf p t = p[t]) := codeOf_get hlt
      generalize hcd : p[t] = c at *
      clear hcd
      go_wp2_with fail
      go_loopw [24] (fun i w' => ∃ k : Nat, k ≤ c.length ∧ i = .int .i64 k ∧ Hid (Inner w (w2.heap.size + 1) w3.heap.size (w.heap.size + 1) w2.heap.size p.length t k p w')) (fun i _ => c.length - (intOf i).toNat)
      case atStart =>
        obtain ⟨rows, h1, h2, h3, h4, h5, h6, h7⟩ := HI.out
        exact ⟨0, Nat.zero_le _, rfl, rows, _, [], h1, h2, h4 t (Nat.le_refl _) hlt, ⟨rfl, Or.inl ⟨rfl, rfl⟩⟩, fun k hk => by simp at hk, h3, fun j hj hj2 => h4 j (by omega) hj2, h5, h6, h7, Nat.le_refl _, by omega, by omega, by omega, by omega⟩
      case round =>
        obtain ⟨k, hk, rfl, HIn⟩ := hrel
        by_cases hkl : k < c.length
        · obtain ⟨cg, co, rfl, c0, c1, c2, c3⟩ := HC.out k hkl
          have hpr : Pres w wr := by
            obtain ⟨rows, v, xs, _, _, _, _, _, _, _, _, hg, _⟩ := HIn.out
            exact pres_grown hg
          have d0 := hpr _ _ c0
          have d1 := hpr _ _ c1
          have d2 := hpr _ _ c2
          have d3 := hpr _ _ c3
          clear c0 c1 c2 c3 hpr
          have hk0 : (0 : Int) ≤ (k : Int) := by omega
          have hk1 : (k : Int) < c.length := by omega
          obtain ⟨rows, v, xs, j1, j2, j3, j4, j5, j6, j7, j8, j9, j10, j11, j12, j13, j14, j15⟩ := HIn.out
          have hgt : wr.cell? ⟨w.heap.size + 1, t, none⟩ = some v := by simp [World.cell?, j1, j3]
          have hgf : wr.frozen? ⟨w.heap.size + 1, t, none⟩ = false := by simp [World.frozen?, j1]
          have J4 := hide j4
          have J5 := hide j5
          have J1 := hide j1
          have J2 := hide j2
          have J6 := hide j6
          have J7 := hide j7
          have J9 := hide j9
          clear j1 j2 j3 j4 j5 j6 j7 j9
          go_wp2_with fail
          refine wp_region_head (fun u => u.cell? ⟨w2.heap.size, 0, none⟩ = some (.slice (some ⟨w.heap.size + 1, 0, none⟩) p.length p.length) ∧ u.cell? ⟨w.heap.size + 1, t, none⟩ = some v ∧ u.cell? ⟨wr.heap.size, 0, none⟩ = some (.int .i64 c[k].op) ∧ u.cell? ⟨wr.heap.size, 1, none⟩ = some (.int .i64 c[k].a) ∧ u.cell? ⟨wr.heap.size, 2, none⟩ = some (.int .i64 c[k].b) ∧ u.cell? ⟨wr.heap.size, 3, none⟩ = some (.int .i64 c[k].n)) 18 (by kernel_rfl) (by kernel_rfl) ?_ ?_
          · refine ⟨?_, ?_, ?_, ?_, ?_, ?_⟩ <;> simp [go_sem, j8, hgt]
          intro hHeld
          refine wpHead_take (i := 0) (v := ?vv0) rfl (by kernel_rfl) (fun _ _ _ h => h) (Or.inl ⟨by rfl, ?hy0⟩) (by assumption) ?rest0
          case hy0 => (intro u hu; obtain ⟨g1, g2, g3, g4, g5, g6⟩ := hu; go_simp; try with_reducible rfl)
          simp only [Act.put, List.setIfInBounds_toArray]
          refine wpHead_take (i := 1) (v := ?vv1) rfl (by kernel_rfl) (fun _ _ _ h => h) (Or.inl ⟨by rfl, ?hy1⟩) (by assumption) ?rest1
          case hy1 => (intro u hu; obtain ⟨g1, g2, g3, g4, g5, g6⟩ := hu; go_simp; try with_reducible rfl)
          simp only [Act.put]
          refine wpHead_take (i := 2) (v := ?vv2) rfl (by kernel_rfl) (fun _ _ _ h => h) (Or.inl ⟨by rfl, ?hy2⟩) (by assumption) ?rest2
          case hy2 => (intro u hu; obtain ⟨g1, g2, g3, g4, g5, g6⟩ := hu; go_simp; try with_reducible rfl)
          simp only [Act.put]
          refine wpHead_take (i := 3) (v := ?vv3) rfl (by kernel_rfl) (fun _ _ _ h => h) (Or.inl ⟨by rfl, ?hy3⟩) (by assumption) ?rest3
          case hy3 => (intro u hu; obtain ⟨g1, g2, g3, g4, g5, g6⟩ := hu; go_simp; try with_reducible rfl)
          simp only [Act.put]
          refine wpHead_take (i := 4) (v := ?vv4) rfl (by kernel_rfl) (fun _ _ _ h => h) (Or.inl ⟨by rfl, ?hy4⟩) (by assumption) ?rest4
          case hy4 => (intro u hu; obtain ⟨g1, g2, g3, g4, g5, g6⟩ := hu; go_simp; try with_reducible rfl)
          simp only [Act.put]
          refine wpHead_take (i := 5) (v := ?vv5) rfl (by kernel_rfl) (fun _ _ _ h => h) (Or.inl ⟨by rfl, ?hy5⟩) (by assumption) ?rest5
          case hy5 => (intro u hu; obtain ⟨g1, g2, g3, g4, g5, g6⟩ := hu; go_simp; try with_reducible rfl)
          simp only [Act.put]
          refine wpHead_take (i := 6) (v := ?vv6) rfl (by kernel_rfl) (fun _ _ _ h => h) (Or.inl ⟨by rfl, ?hy6⟩) (by assumption) ?rest6
          case hy6 => (intro u hu; obtain ⟨g1, g2, g3, g4, g5, g6⟩ := hu; go_simp; try with_reducible rfl)
          simp only [Act.put]
          refine wpHead_take (i := 7) (v := ?vv7) rfl (by kernel_rfl) (fun _ _ _ h => h) (Or.inl ⟨by rfl, ?hy7⟩) (by assumption) ?rest7
          case hy7 => (intro u hu; obtain ⟨g1, g2, g3, g4, g5, g6⟩ := hu; go_simp; try with_reducible rfl)
          simp only [Act.put]
          refine wpHead_take (i := 8) (v := ?vv8) rfl (by kernel_rfl) (fun _ _ _ h => h) (Or.inl ⟨by rfl, ?hy8⟩) (by assumption) ?rest8
          case hy8 => (intro u hu; obtain ⟨g1, g2, g3, g4, g5, g6⟩ := hu; go_simp; try with_reducible rfl)
          simp only [Act.put]
          refine wpHead_take (i := 9) (v := ?vv9) rfl (by kernel_rfl) (fun _ _ _ h => h) (Or.inl ⟨by rfl, ?hy9⟩) (by assumption) ?rest9
          case hy9 => (intro u hu; obtain ⟨g1, g2, g3, g4, g5, g6⟩ := hu; go_simp; try with_reducible rfl)
          simp only [Act.put]
          refine wpHead_take (i := 10) (v := ?vv10) rfl (by kernel_rfl) (fun _ _ _ h => h) (Or.inl ⟨by rfl, ?hy10⟩) (by assumption) ?rest10
          case hy10 => (intro u hu; obtain ⟨g1, g2, g3, g4, g5, g6⟩ := hu; go_simp; try with_reducible rfl)
          simp only [Act.put]
          refine wpHead_take (i := 11) (v := ?vv11) rfl (by kernel_rfl) (fun _ _ _ h => h) (Or.inl ⟨by rfl, ?hy11⟩) (by assumption) ?rest11
          case hy11 => (intro u hu; obtain ⟨g1, g2, g3, g4, g5, g6⟩ := hu; go_simp; try with_reducible rfl)
          simp only [Act.put]
          refine wpHead_take (i := 12) (v := ?vv12) rfl (by kernel_rfl) (fun _ _ _ h => h) (Or.inl ⟨by rfl, ?hy12⟩) (by assumption) ?rest12
          case hy12 => (intro u hu; obtain ⟨g1, g2, g3, g4, g5, g6⟩ := hu; go_simp; try with_reducible rfl)
          simp only [Act.put]
          refine wpHead_take (i := 13) (v := ?vv13) rfl (by kernel_rfl) (fun _ _ _ h => h) (Or.inl ⟨by rfl, ?hy13⟩) (by assumption) ?rest13
          case hy13 => (intro u hu; obtain ⟨g1, g2, g3, g4, g5, g6⟩ := hu; go_simp; try with_reducible rfl)
          simp only [Act.put]
          have hv1 := vIns_op (vCode_ins (by have := vProg_code HV.out hlt; rw [HT.out] at this; exact this) hkl)
          refine wpHead_alone (i := 14) rfl (by kernel_rfl) (by kernel_rfl) (by rfl) ?_
          intro K14 hK14
          have HK14 := hide hK14
          clear hK14
          go_simp
          refine (makeMove_m t c[k] hv1.1 hv1.2 _).mono ?_
          rintro e w4 ⟨kf, caps, rfl, hact, hg4⟩
          simp only []
          have HACT := hide hact
          have HG4 := hide hg4
          have hsz4 : wr.heap.size + 1 ≤ w4.heap.size := by have := hg4.size; simpa using this
          have hS4 : w4.cell? ⟨w2.heap.size, 0, none⟩ = some (.slice (some ⟨w.heap.size + 1, 0, none⟩) p.length p.length) ∧ w4.cell? ⟨w.heap.size + 1, t, none⟩ = some v ∧ w4.cell? ⟨wr.heap.size, 0, none⟩ = some (.int .i64 c[k].op) ∧ w4.cell? ⟨wr.heap.size, 1, none⟩ = some (.int .i64 c[k].a) ∧ w4.cell? ⟨wr.heap.size, 2, none⟩ = some (.int .i64 c[k].b) ∧ w4.cell? ⟨wr.heap.size, 3, none⟩ = some (.int .i64 c[k].n) := by
            obtain ⟨q1, q2, q3, q4, q5, q6⟩ := hHeld
            have hpr := pres_grown hg4
            exact ⟨hpr _ _ q1, hpr _ _ q2, hpr _ _ q3, hpr _ _ q4, hpr _ _ q5, hpr _ _ q6⟩
          clear hact hg4 hHeld
          refine HK14.out _ _ hS4 ?_
          clear HK14
          refine wpHead_alone (i := 15) rfl (by kernel_rfl) (by kernel_rfl) (by rfl) ?_
          intro K15 hK15
          have HK15 := hide hK15
          clear hK15
          go_simp
          have hS5 : (w4.alloc (.cells #[.func (.func kf) #[] caps, .bool (c[k].op == 9), .int .i64 (if c[k].op = 9 then c[k].a else 0)] 111)).cell? ⟨w2.heap.size, 0, none⟩ = some (.slice (some ⟨w.heap.size + 1, 0, none⟩) p.length p.length) ∧ (w4.alloc (.cells #[.func (.func kf) #[] caps, .bool (c[k].op == 9), .int .i64 (if c[k].op = 9 then c[k].a else 0)] 111)).cell? ⟨w.heap.size + 1, t, none⟩ = some v ∧ (w4.alloc (.cells #[.func (.func kf) #[] caps, .bool (c[k].op == 9), .int .i64 (if c[k].op = 9 then c[k].a else 0)] 111)).cell? ⟨wr.heap.size, 0, none⟩ = some (.int .i64 c[k].op) ∧ (w4.alloc (.cells #[.func (.func kf) #[] caps, .bool (c[k].op == 9), .int .i64 (if c[k].op = 9 then c[k].a else 0)] 111)).cell? ⟨wr.heap.size, 1, none⟩ = some (.int .i64 c[k].a) ∧ (w4.alloc (.cells #[.func (.func kf) #[] caps, .bool (c[k].op == 9), .int .i64 (if c[k].op = 9 then c[k].a else 0)] 111)).cell? ⟨wr.heap.size, 2, none⟩ = some (.int .i64 c[k].b) ∧ (w4.alloc (.cells #[.func (.func kf) #[] caps, .bool (c[k].op == 9), .int .i64 (if c[k].op = 9 then c[k].a else 0)] 111)).cell? ⟨wr.heap.size, 3, none⟩ = some (.int .i64 c[k].n) := by
            obtain ⟨q1, q2, q3, q4, q5, q6⟩ := hS4
            have hpr := pres_grown (grown_alloc (o := .cells #[.func (.func kf) #[] caps, .bool (c[k].op == 9), .int .i64 (if c[k].op = 9 then c[k].a else 0)] 111) (grown_refl w4 none))
            exact ⟨hpr _ _ q1, hpr _ _ q2, hpr _ _ q3, hpr _ _ q4, hpr _ _ q5, hpr _ _ q6⟩
          refine HK15.out _ _ hS5 ?_
          clear HK15
          have HGw : Hid (wr.grownBy (w4.alloc (.cells #[.func (.func kf) #[] caps, .bool (c[k].op == 9), .int .i64 (if c[k].op = 9 then c[k].a else 0)] 111)) none) := grown_alloc (grown_trans (grown_drew (grown_alloc (grown_refl _ _))) HG4.out)
          have h63 : k + 1 ≤ maxLen := by unfold maxLen; omega
          have hby : (k + 1) * 24 ≤ 140737488355328 := by omega
          refine wpHead_alone (i := 16) rfl (by kernel_rfl) (by kernel_rfl) (by rfl) ?_
          intro K16 hK16
          have HK16 := hide hK16
          clear hK16
          refine wp_append_lies _ (.tmp 39) (.tmp 43) 107 (by rfl) w3.heap.size 111 i1 _ 3 24 Tryz.underlying107 hi1 hy0 hy1 hy2 rfl (by omega) v k xs (by rfl) (owns_grown J4.out HGw.out (fun _ e => by cases e)) ⟨w4.heap.size, 0, none⟩ 1 1 (moveV kf caps c[k]) (by rfl) (by rfl) (World.news_of_block (cs := #[.func (.func kf) #[] caps, .bool (c[k].op == 9), .int .i64 (if c[k].op = 9 then c[k].a else 0)]) (t := 111) (fr := (0, 0)) (heap_alloc_new w4 _)) (by simp [moveV, Value.oneCell']) (by omega) h63 hby (by simp; omega) (w4.heap.size + 1) (by simp) ?_
          intro g2 cap2 w5 hown5 hgrow hat hlt5
          have hob : ∀ q, v.ownBlock = some q → w3.heap.size ≤ q ∧ q < wr.heap.size := fun q e => ⟨owns_block J4.out q e, by
            rcases J4.out.2 with ⟨e1, _⟩ | ⟨g', _, _, hv, _, hh, _⟩
            · rw [e1] at e; cases e
            · rw [hv] at e
              have := (Array.getElem?_eq_some_iff.1 hh).1
              simp [Value.ownBlock] at e
              omega⟩
          have hfar : ∀ q o x, (q < w3.heap.size ∨ wr.heap.size ≤ q) → (w4.alloc (.cells #[.func (.func kf) #[] caps, .bool (c[k].op == 9), .int .i64 (if c[k].op = 9 then c[k].a else 0)] 111)).cell? ⟨q, o, none⟩ = some x → w5.cell? ⟨q, o, none⟩ = some x := fun q o x hq hx => by
            rw [hgrow.cell_far _ (World.block_lt_of_cell? _ _ hx) (fun e => by have := hob q e.symm; omega)]; exact hx
          have hS6 : w5.cell? ⟨w2.heap.size, 0, none⟩ = some (.slice (some ⟨w.heap.size + 1, 0, none⟩) p.length p.length) ∧ w5.cell? ⟨w.heap.size + 1, t, none⟩ = some v ∧ w5.cell? ⟨wr.heap.size, 0, none⟩ = some (.int .i64 c[k].op) ∧ w5.cell? ⟨wr.heap.size, 1, none⟩ = some (.int .i64 c[k].a) ∧ w5.cell? ⟨wr.heap.size, 2, none⟩ = some (.int .i64 c[k].b) ∧ w5.cell? ⟨wr.heap.size, 3, none⟩ = some (.int .i64 c[k].n) := by
            obtain ⟨q1, q2, q3, q4, q5, q6⟩ := hS5
            exact ⟨hfar _ _ _ (by omega) q1, hfar _ _ _ (by omega) q2, hfar _ _ _ (by omega) q3, hfar _ _ _ (by omega) q4, hfar _ _ _ (by omega) q5, hfar _ _ _ (by omega) q6⟩
          have HOW5 := hide hown5
          have HGR := hide hgrow
          have HAT := hide hat
          clear hown5 hgrow hat hS4 hS5 hfar
          refine HK16.out _ _ hS6 ?_
          clear HK16
          simp only [Act.put, List.setIfInBounds_toArray]
          refine wpHead_take (i := 17) (v := ?vv17) rfl (by kernel_rfl) (fun _ _ _ h => h) (Or.inl ⟨by rfl, ?hy17⟩) (by assumption) ?rest17
          case hy17 => (intro u hu; obtain ⟨g1, g2, g3, g4, g5, g6⟩ := hu; go_simp; try with_reducible rfl)
          simp only [Act.put]
          refine wpHead_last rfl (by kernel_rfl) (by kernel_rfl) (by rfl) ?_
          obtain ⟨s1, s2, _⟩ := hS6
          have s2f : w5.frozen? ⟨w.heap.size + 1, t, none⟩ = false := by
            rw [HGR.out.frozen_far _ (by simp; omega) (fun e => by have := hob _ e.symm; simp at this; omega), HGw.out.frozen_far _ (by simp; omega) (by simp)]
            exact hgf
          have HNX : Hid (Inner w (w2.heap.size + 1) w3.heap.size (w.heap.size + 1) w2.heap.size p.length t (k + 1) p (w5.setCell ⟨w.heap.size + 1, t, none⟩ (.slice (some ⟨g2, 0, none⟩) (k + 1) cap2))) :=
            inner_step J1.out J2.out J4.out J5.out J6.out J7.out J9.out j10 j11 j12 j13 j14 j15 hlt (by rw [HT.out]; exact hkl) (i := c[k]) (by simp [HT.out]) (fun u hu => HACT.out u (fun q h1 h2 => hu q (by simpa using h1) h2)) (grown_trans (grown_drew (grown_alloc (grown_refl _ _))) HG4.out) hsz4 HOW5.out HGR.out HAT.out s1
          clear J1 J2 J4 J5 J6 J7 J9 HACT HG4 HOW5 HGR HAT HGw
          go_simp
          go_wp2
          go_roundw
          case rel => exact ⟨k + 1, by omega, by go_num, HNX⟩
          case measure => simp [intOf]; omega
        · have ek : k = c.length := by omega
          have HNX : Hid (∃ rows, wr.heap[w.heap.size + 1]? = some (.cells rows 107 (0, 0)) ∧ rows.size = p.length ∧ Fin (w2.heap.size + 1) wr.heap.size wr rows (t + 1) p ∧ (∀ j, t + 1 ≤ j → j < p.length → rows[j]? = some (.slice none 0 0)) ∧
              wr.cell? ⟨w2.heap.size, 0, none⟩ = some (.slice (some ⟨w.heap.size + 1, 0, none⟩) p.length p.length) ∧ w.grownBy wr none ∧ w2.heap.size + 1 ≤ wr.heap.size) := by
            obtain ⟨rows, v, xs, j1, j2, j3, j4, j5, j6, j7, j8, j9, j10, j11, j12, j13, j14, j15⟩ := HIn.out
            have hlc : (codeOf p t).length = k := by rw [HT.out]; omega
            rw [List.take_of_length_le (by omega)] at j5
            have hbl : ∀ h, v.ownBlock = some h → h < wr.heap.size := fun q e => by
              rcases j4.2 with ⟨e1, _⟩ | ⟨g', _, _, hv, _, hh, _⟩
              · rw [e1] at e; cases e
              · rw [hv] at e
                have := (Array.getElem?_eq_some_iff.1 hh).1
                simp [Value.ownBlock] at e
                omega
            refine ⟨rows, j1, j2, (j6.mono j11).succ j3 (by rw [hlc]; exact owns_mono j4 (by omega)) hbl j5, fun j h1 h2 => j7 j (by omega) h2, j8, j9, by omega⟩
          clear ek
          go_wp2
          go_roundw
          case rel => exact ⟨t + 1, by omega, by go_num, HNX⟩
          case measure => simp [intOf]; omega
    · have et : t = p.length := by omega
      have HNX : Hid (MachAt w3.heap.size w3 w2.heap.size p ∧ w.grownBy w3 none) := by
        obtain ⟨rows, j1, j2, j3, j4, j5, j6, j7⟩ := HI.out
        refine ⟨⟨w.heap.size + 1, p.length, by omega, by omega, j5, fun j hj => ?_⟩, j6⟩
        obtain ⟨v, e1, e2⟩ := j3.rowIs (j := j) (by omega)
        exact ⟨v, by simp [World.cell?, j1, e1], e2⟩
      clear et
      go_wp2
      go_ret
      exact ⟨w2.heap.size, rfl, HNX.out.1, HNX.out.2⟩

end Go.Proofs.YtklenjmfalljgaaGreatDoor

/- The walks of Valid, Check, checkRun and Replay. -/
namespace Go.Proofs.YtklenjmfalljgaaGreatDoor
open Go.RowKit
attribute [local go_sem] Go.World.cell?_alloc_some

set_option maxHeartbeats 1000000 in
set_option maxRecDepth 100000 in
theorem valid_m (p : List (List Ins)) (pv : Value) (w : World) (hS : ShpAt w) (hP : ProgAt w pv p) :
    Calls Tryz.prog 53 #[pv] w fun e w' => e = .returned (.bool (vProg p)) ∧ w.grownBy w' none := by
  obtain ⟨ao, cap, rfl, hP⟩ := hP
  have HSh := hide hS
  have HP := hide hP
  clear hS hP
  by_cases h1 : 1 ≤ p.length
  · by_cases h4 : p.length ≤ 4
    · have g1 : (1 : Int) ≤ p.length := by omega
      have g4 : (p.length : Int) ≤ 4 := by omega
      have HV : Hid (vProg p = p.all vCode) := by unfold Hid; simp [vProg, h1, h4]
      go_enter Tryz.func53, Tryz.ntmps53
      go_wp2
      go_loopw [18] (fun i w' => ∃ k : Nat, k ≤ p.length ∧ i = .int .i64 k ∧ Hid (w.grownBy w' none) ∧ Hid ((p.take k).all vCode = true)) (fun i _ => p.length - (intOf i).toNat)
      case atStart => exact ⟨0, Nat.zero_le _, rfl, grown_alloc (grown_refl _ _), rfl⟩
      case round =>
        obtain ⟨k, hk, rfl, HG, HA⟩ := hrel
        by_cases hlt : k < p.length
        · obtain ⟨g, o, rfl, rv, c0, c1⟩ := HP.out k hlt
          have hpr := pres_grown HG.out
          have d0 := hpr _ _ c0
          have D1 := hide (c1.pres hpr)
          have HAs := hide (all_take_succ p vCode k hlt)
          have HSh' : Hid (ShpAt wr) := HSh.out.pres hpr
          clear c0 c1 hpr
          have hk0 : (0 : Int) ≤ (k : Int) := by omega
          have hk1 : (k : Int) < p.length := by omega
          generalize p[k] = c at *
          go_wp2_with fail
          refine (validThread_m c rv _ HSh'.out D1.out).mono ?_
          rintro e w1 ⟨rfl, hg1⟩
          have HG1 : Hid (w.grownBy w1 none) := grown_trans HG.out hg1
          clear hg1
          cases hv : vCode c
          · have HE : Hid (vProg p = false) := by
              unfold Hid
              rw [HV.out]
              have : (p.take (k + 1)).all vCode = false := by rw [HAs.out, hv]; simp
              rw [← List.take_append_drop (k + 1) p, List.all_append, this]; rfl
            go_wp2_with fail
            go_ret
            exact ⟨by rw [HE.out]; rfl, HG1⟩
          · have HA1 : Hid ((p.take (k + 1)).all vCode = true) := by unfold Hid; rw [HAs.out, hv, HA.out]; rfl
            clear HAs hv
            go_wp2
            go_roundw
            case rel => exact ⟨k + 1, by omega, by go_num, HG1, HA1⟩
            case measure => simp [intOf]; omega
        · have HE : Hid (vProg p = true) := by
            unfold Hid
            rw [HV.out]
            have := HA.out
            rw [List.take_of_length_le (by omega)] at this
            exact this
          go_wp2
          go_ret
          exact ⟨by rw [HE.out]; rfl, HG⟩
    · have HV : Hid (vProg p = false) := by unfold Hid; simp [vProg, h4]
      have g4 : (4 : Int) < p.length := by omega
      go_enter Tryz.func53, Tryz.ntmps53
      go_wp2
      go_ret
      exact ⟨by rw [HV.out]; rfl, grown_alloc (grown_refl _ _)⟩
  · have HV : Hid (vProg p = false) := by unfold Hid; simp [vProg, h1]
    have g1 : (p.length : Int) < 1 := by omega
    go_enter Tryz.func53, Tryz.ntmps53
    go_wp2
    go_ret
    exact ⟨by rw [HV.out]; rfl, grown_alloc (grown_refl _ _)⟩

theorem ProgAt.form {w : World} {pv : Value} {p : List (List Ins)} (h : ProgAt w pv p) : ∃ ao cap, pv = .agg #[.slice ao p.length cap] := by
  obtain ⟨ao, cap, e, _⟩ := h; exact ⟨ao, cap, e⟩

def checkN (p : List (List Ins)) : Int := if vProg p = true then 0 else 1
def checkRunN (p : List (List Ins)) (s : List Int) : Int := if vProg p = true then (if s.length ≤ 500 then 0 else 2) else 1

set_option maxHeartbeats 1000000 in
theorem check_m (p : List (List Ins)) (pv : Value) (w : World) (hS : ShpAt w) (hP : ProgAt w pv p) :
    Calls Tryz.prog 26 #[pv] w fun e w' => e = .returned (.int .i64 (checkN p)) ∧ w.grownBy w' none := by
  have HSh := hide hS
  have HP := hide hP
  obtain ⟨ao, cap, rfl⟩ := hP.form
  clear hS hP
  go_enter Tryz.func26, Tryz.ntmps26
  go_wp2_with fail
  refine (valid_m p _ _ (HSh.out.pres (pres_grown (grown_alloc (grown_refl _ _)))) (HP.out.pres (pres_grown (grown_alloc (grown_refl _ _))))).mono ?_
  rintro e w1 ⟨rfl, hg1⟩
  have HG1 : Hid (w.grownBy w1 none) := grown_trans (grown_alloc (grown_refl _ _)) hg1
  clear hg1
  cases hv : vProg p
  · have HE : Hid (checkN p = 1) := by unfold Hid checkN; simp [hv]
    go_wp2_with fail
    go_ret
    exact ⟨by rw [HE.out]; rfl, HG1⟩
  · have HE : Hid (checkN p = 0) := by unfold Hid checkN; simp [hv]
    go_wp2_with fail
    go_ret
    exact ⟨by rw [HE.out]; rfl, HG1⟩

/-- Lists of numbers in a row, by their lengths. -/
def ListsAt (w : World) (v : Value) (ss : List (List Int)) : Prop :=
  ∃ g o cap, v = .slice (some ⟨g, o, none⟩) ss.length cap ∧ ∀ k (hk : k < ss.length), ∃ so sc, w.cell? ⟨g, o + k, none⟩ = some (.slice so ss[k].length sc)
theorem lists_one {W : World} {so : Option Addr} {s : List Int} {sc : Nat} {t : TypeId} {g : Nat} (hg : W.heap.size = g) : ListsAt (W.alloc (.cells #[.slice so s.length sc] t)) (.slice (some ⟨g, 0, none⟩) 1 1) [s] := by
  subst hg
  refine ⟨W.heap.size, 0, 1, rfl, fun k hk => ⟨so, sc, ?_⟩⟩
  have hk0 : k = 0 := by simp at hk; omega
  subst hk0
  have h := heap_alloc_new W (.cells #[.slice so s.length sc] t)
  simp only [World.cell?, h]
  rfl
def checkRunsN (p : List (List Ins)) (ss : List (List Int)) : Int := if vProg p = true then (if ss.all (fun s => decide (s.length ≤ 500)) = true then 0 else 2) else 1
theorem checkRuns_one (p : List (List Ins)) (s : List Int) : checkRunsN p [s] = checkRunN p s := by simp [checkRunsN, checkRunN]

set_option maxHeartbeats 1000000 in
theorem checkRun_m (p : List (List Ins)) (ss : List (List Int)) (pv sv : Value) (w : World) (hS : ShpAt w) (hP : ProgAt w pv p) (hL : ListsAt w sv ss) (hn : ss.length ≤ 1000) :
    Calls Tryz.prog 23 #[pv, sv] w fun e w' => e = .returned (.int .i64 (checkRunsN p ss)) ∧ w.grownBy w' none := by
  have HSh := hide hS
  have HP := hide hP
  obtain ⟨ao, cap, rfl⟩ := hP.form
  obtain ⟨g, o, scap, rfl, hc⟩ := hL
  have HC := hide hc
  clear hS hP hc
  go_enter Tryz.func23, Tryz.ntmps23
  go_wp2_with fail
  refine (check_m p _ _ (HSh.out.pres (pres_grown (grown_alloc (grown_refl _ _)))) (HP.out.pres (pres_grown (grown_alloc (grown_refl _ _))))).mono ?_
  rintro e w1 ⟨rfl, hg1⟩
  have HG1 : Hid (w.grownBy w1 none) := grown_trans (grown_alloc (grown_refl _ _)) hg1
  clear hg1
  cases hv : vProg p
  · have HE : Hid (checkRunsN p ss = 1) := by unfold Hid checkRunsN; simp [hv]
    have e1 : checkN p = 1 := by unfold checkN; simp [hv]
    rw [e1]
    clear e1
    go_wp2_with fail
    go_ret
    exact ⟨by rw [HE.out]; rfl, HG1⟩
  · have e1 : checkN p = 0 := by unfold checkN; simp [hv]
    rw [e1]
    have HV : Hid (checkRunsN p ss = if ss.all (fun s => decide (s.length ≤ 500)) = true then 0 else 2) := by unfold Hid checkRunsN; rw [if_pos hv]
    clear e1 hv
    have hn' : (ss.length : Int) ≤ 1000 := by omega
    go_wp2_with fail
    go_loopw [15] (fun i w' => ∃ k : Nat, k ≤ ss.length ∧ i = .int .i64 k ∧ Hid (w.grownBy w' none) ∧ Hid ((ss.take k).all (fun s => decide (s.length ≤ 500)) = true)) (fun i _ => ss.length - (intOf i).toNat)
    case atStart => exact ⟨0, Nat.zero_le _, rfl, HG1, rfl⟩
    case round =>
      clear HG1
      obtain ⟨k, hk, rfl, HG, HA⟩ := hrel
      obtain ⟨w5, hw5⟩ : ∃ w5, w5 = wr := ⟨_, rfl⟩
      rw [← hw5] at HG ⊢
      clear hw5
      by_cases hlt : k < ss.length
      · obtain ⟨so, sc, c0⟩ := HC.out k hlt
        have d0 := pres_grown HG.out _ _ c0
        have HAs := hide (all_take_succ ss (fun s => decide (s.length ≤ 500)) k hlt)
        have HEx : Hid (ss[k].length ≤ 500 ∨ (ss.all (fun s => decide (s.length ≤ 500)) = false)) := by
          unfold Hid
          by_cases h5 : ss[k].length ≤ 500
          · exact Or.inl h5
          · right
            cases ha : ss.all (fun s => decide (s.length ≤ 500)) with
            | false => rfl
            | true =>
              rw [List.all_eq_true] at ha
              have := ha _ (List.getElem_mem hlt)
              simp at this; omega
        clear c0
        have hk0 : (0 : Int) ≤ (k : Int) := by omega
        have hk1 : (k : Int) < ss.length := by omega
        generalize ss[k] = s at *
        by_cases h5 : s.length ≤ 500
        · have h6 : (s.length : Int) ≤ 500 := by omega
          have HA1 : Hid ((ss.take (k + 1)).all (fun s => decide (s.length ≤ 500)) = true) := by unfold Hid; rw [HAs.out, HA.out]; simp [h5]
          clear HAs HEx
          go_wp2_with fail
          go_roundw
          case rel => exact ⟨k + 1, by omega, by go_num, HG, HA1⟩
          case measure => simp [intOf]; omega
        · have h6 : (500 : Int) < s.length := by omega
          have HE : Hid (checkRunsN p ss = 2) := by
            unfold Hid; rw [HV.out, if_neg]
            rw [HEx.out.resolve_left h5]; simp
          clear HAs HEx
          go_wp2_with fail
          go_ret
          exact ⟨by rw [HE.out]; rfl, HG⟩
      · have HE : Hid (checkRunsN p ss = 0) := by
          unfold Hid; rw [HV.out, if_pos]
          have := HA.out
          rwa [List.take_of_length_le (by omega)] at this
        go_wp2_with fail
        go_ret
        exact ⟨by rw [HE.out]; rfl, HG⟩

theorem IntsAt.mono {B B' : Nat} {w : World} {v : Value} {l : List Int} (h : IntsAt B w v l) (hb : B ≤ B') : IntsAt B' w v l := by
  obtain ⟨ao, cap, e, h1, h2⟩ := h
  refine ⟨ao, cap, e, h1, fun k hk => ?_⟩
  obtain ⟨g, o, e1, e2, e3⟩ := h2 k hk
  exact ⟨g, o, e1, by omega, e3⟩
theorem IntsAt.pres {B : Nat} {w w' : World} {v : Value} {l : List Int} (h : IntsAt B w v l) (hp : Pres w w') : IntsAt B w' v l := by
  obtain ⟨ao, cap, e, h1, h2⟩ := h
  refine ⟨ao, cap, e, h1, fun k hk => ?_⟩
  obtain ⟨g, o, e1, e2, e3⟩ := h2 k hk
  exact ⟨g, o, e1, e2, hp _ _ e3⟩
theorem IntsAt.form {B : Nat} {w : World} {v : Value} {l : List Int} (h : IntsAt B w v l) : ∃ ao cap, v = .slice ao l.length cap := by
  obtain ⟨ao, cap, e, _⟩ := h; exact ⟨ao, cap, e⟩

/-- What Replay answers. -/
def Replayed (p : List (List Ins)) (s : List Int) (w : World) (e : Ending) (w' : World) : Prop :=
  w.grownBy w' none ∧
  ((checkRunN p s = 0 ∧ ∃ rv, e = .returned (.tuple #[rv, .int .i64 0]) ∧ ResAt w.heap.size w' (runS p s) p.length rv) ∨
   (checkRunN p s ≠ 0 ∧ e = .returned (.tuple #[.agg #[.int .i64 0, .int .i64 0, .int .i64 0, .slice none 0 0, .int .i64 0, .int .i64 0, .int .i64 0, .int .i64 0, .slice none 0 0], .int .i64 (checkRunN p s)])))

end Go.Proofs.YtklenjmfalljgaaGreatDoor

/- The walks of pick and awake. -/
namespace Go.Proofs.YtklenjmfalljgaaGreatDoor
open Go.RowKit
attribute [local go_sem] Go.World.cell?_alloc_some

end Go.Proofs.YtklenjmfalljgaaGreatDoor

/- On runs: a run of a list and one number more; schedules that are made so. -/
namespace Go.Proofs.YtklenjmfalljgaaGreatDoor

theorem endingS_range (p : List (List Ins)) (s : St) : 3 ≤ endingS p s ∧ endingS p s ≤ 5 := by
  unfold endingS
  split
  · omega
  · split <;> omega

/-- A schedule that was made number by number: all its numbers were done; so long as it was open it grew. -/
def Sched (p : List (List Ins)) (a : List Int) : Prop := (runS p a).kind ≠ 2 ∧ (runS p a).steps.length = a.length

end Go.Proofs.YtklenjmfalljgaaGreatDoor

/- The walk of schedule. -/
namespace Go.Proofs.YtklenjmfalljgaaGreatDoor
open Go.RowKit
attribute [local go_sem] Go.World.cell?_alloc_some

def ints (a : List Int) : List Value := a.map fun x => .int .i64 x
theorem ints_len (a : List Int) : (ints a).length = a.length := by simp [ints]
theorem ints_one (a : List Int) : ∀ v ∈ ints a, v.oneCell' = true := by
  intro v hv
  simp only [ints, List.mem_map] at hv
  obtain ⟨x, _, rfl⟩ := hv; rfl
theorem owns_ints {w : World} {base : Nat} {v : Value} {a : List Int} (h : w.ownsRow base 3 1 v a.length (ints a)) : IntsAt w.heap.size w v a := by
  rcases h.2 with ⟨e, e0⟩ | ⟨g, cap, cur, hv, hb, hh, hc, _⟩
  · refine ⟨none, 0, by rw [e, e0], by omega, fun k hk => by omega⟩
  · refine ⟨some ⟨g, 0, none⟩, cap, hv, hc, fun k hk => ⟨g, 0, rfl, (Array.getElem?_eq_some_iff.1 hh).1, ?_⟩⟩
    rw [hv] at h
    rw [Nat.zero_add, h.cellAt k (by omega)]
    simp [ints, hk]

def resCells (o : Out) (s1 g1 : Value) : Array Value := #[.int .i64 o.kind, .int .i64 o.thread, .int .i64 o.at_, s1, .int .i64 (o.st.vars 0), .int .i64 (o.st.vars 1), .int .i64 (o.st.vars 2), .int .i64 (o.st.vars 3), g1]
def zeroRes : Array Value := #[.int .i64 0, .int .i64 0, .int .i64 0, .slice none 0 0, .int .i64 0, .int .i64 0, .int .i64 0, .int .i64 0, .slice none 0 0]

/-- In the midst of schedule: s is a, r its run. -/
structure SchAt (w : World) (p : List (List Ins)) (pb : Value) (rb : Nat) (a : List Int) (sv : Value) (w' : World) : Prop where
  grown : w.grownBy w' none
  row : w'.ownsRow w.heap.size 3 1 sv a.length (ints a)
  nil : a = [] → sv = .slice none 0 0
  apart : sv.ownBlock ≠ some rb
  res : ∃ s1 g1, w'.heap[rb]? = some (.cells (resCells (runS p a) s1 g1) 32 (0, 0)) ∧ w'.ownsRow w.heap.size 84 2 s1 (runS p a).steps.length (flatS (runS p a).steps) ∧ w'.ownsRow w.heap.size 29 4 g1 p.length (regsF p.length (runS p a).st) ∧ s1.ownBlock ≠ some rb ∧ g1.ownBlock ≠ some rb
  box : w'.heap[w.heap.size]? = some (.cells #[pb] 24 (0, 0))
  out : w'.heap[w.heap.size + 1]? = some (.cells zeroRes 32 (0, 0))
  lo : w.heap.size + 2 ≤ rb
  hi : rb < w'.heap.size
  good : Sched p a

theorem SchAt.step {w : World} {p : List (List Ins)} {pb : Value} {rb : Nat} {a : List Int} {sv : Value} {w' w'' : World} (h : SchAt w p pb rb a sv w') (hg : w'.grownBy w'' none) : SchAt w p pb rb a sv w'' := by
  obtain ⟨s1, g1, h1, h2, h3, h4, h5⟩ := h.res
  exact ⟨grown_trans h.grown hg, owns_grown h.row hg (fun _ e => by cases e), h.nil, h.apart, ⟨s1, g1, by rw [hg.block _ h.hi (by simp)]; exact h1, owns_grown h2 hg (fun _ e => by cases e), owns_grown h3 hg (fun _ e => by cases e), h4, h5⟩,
    by rw [hg.block _ (by have := h.lo; have := h.hi; omega) (by simp)]; exact h.box, by rw [hg.block _ (by have := h.lo; have := h.hi; omega) (by simp)]; exact h.out, h.lo, Nat.lt_of_lt_of_le h.hi hg.size, h.good⟩

theorem owns_setCell_ne {w : World} {base : Nat} {e : TypeId} {size : Nat} {v : Value} {n : Nat} {xs : List Value} {g o : Nat} {u : Value} (h : w.ownsRow base e size v n xs) (hne : v.ownBlock ≠ some g) : (w.setCell ⟨g, o, none⟩ u).ownsRow base e size v n xs := by
  obtain ⟨h1, h2⟩ := h
  refine ⟨h1, ?_⟩
  rcases h2 with h2 | ⟨b, cap, cur, hv, hb, hh, rest⟩
  · exact Or.inl h2
  · refine Or.inr ⟨b, cap, cur, hv, hb, ?_, rest⟩
    rw [Below.heap_setCell _ _ _ _ (fun e => hne (by rw [hv]; simp [Value.ownBlock, e]))]; exact hh

theorem set9 {w : World} {g : Nat} {x0 x1 x2 x3 x4 x5 x6 x7 x8 y0 y1 y2 y3 y4 y5 y6 y7 y8 : Value} {t : TypeId} (h : w.heap[g]? = some (.cells #[x0, x1, x2, x3, x4, x5, x6, x7, x8] t (0, 0))) :
    (((((((((w.setCell ⟨g, 0, none⟩ y0).setCell ⟨g, 1, none⟩ y1).setCell ⟨g, 2, none⟩ y2).setCell ⟨g, 3, none⟩ y3).setCell ⟨g, 4, none⟩ y4).setCell ⟨g, 5, none⟩ y5).setCell ⟨g, 6, none⟩ y6).setCell ⟨g, 7, none⟩ y7).setCell ⟨g, 8, none⟩ y8).heap[g]? = some (.cells #[y0, y1, y2, y3, y4, y5, y6, y7, y8] t (0, 0)) := by
  have h0 := heap_setCell_same w g 0 _ t y0 h
  have h1 := heap_setCell_same _ g 1 _ t y1 h0
  have h2 := heap_setCell_same _ g 2 _ t y2 h1
  have h3 := heap_setCell_same _ g 3 _ t y3 h2
  have h4 := heap_setCell_same _ g 4 _ t y4 h3
  have h5 := heap_setCell_same _ g 5 _ t y5 h4
  have h6 := heap_setCell_same _ g 6 _ t y6 h5
  have h7 := heap_setCell_same _ g 7 _ t y7 h6
  have h8 := heap_setCell_same _ g 8 _ t y8 h7
  simpa using h8

/-- r = x, s = t. -/
theorem SchAt.set {w : World} {p : List (List Ins)} {pb : Value} {rb : Nat} {a b : List Int} {sv tv : Value} {w' : World} (h : SchAt w p pb rb a sv w') (hb : b ≠ []) (ht : w'.ownsRow w.heap.size 3 1 tv b.length (ints b)) (hta : tv.ownBlock ≠ some rb) {s1 g1 : Value}
    (hs : w'.ownsRow w.heap.size 84 2 s1 (runS p b).steps.length (flatS (runS p b).steps)) (hg : w'.ownsRow w.heap.size 29 4 g1 p.length (regsF p.length (runS p b).st)) (hsa : s1.ownBlock ≠ some rb) (hga : g1.ownBlock ≠ some rb) (hok : Sched p b) :
    SchAt w p pb rb b tv (((((((((w'.setCell ⟨rb, 0, none⟩ (.int .i64 (runS p b).kind)).setCell ⟨rb, 1, none⟩ (.int .i64 (runS p b).thread)).setCell ⟨rb, 2, none⟩ (.int .i64 (runS p b).at_)).setCell ⟨rb, 3, none⟩ s1).setCell ⟨rb, 4, none⟩ (.int .i64 ((runS p b).st.vars 0))).setCell ⟨rb, 5, none⟩ (.int .i64 ((runS p b).st.vars 1))).setCell ⟨rb, 6, none⟩ (.int .i64 ((runS p b).st.vars 2))).setCell ⟨rb, 7, none⟩ (.int .i64 ((runS p b).st.vars 3))).setCell ⟨rb, 8, none⟩ g1) := by
  obtain ⟨s0, g0, h1, _⟩ := h.res
  have hlo := h.lo
  have hhi := h.hi
  have hother : ∀ k, k ≠ rb → (((((((((w'.setCell ⟨rb, 0, none⟩ (.int .i64 (runS p b).kind)).setCell ⟨rb, 1, none⟩ (.int .i64 (runS p b).thread)).setCell ⟨rb, 2, none⟩ (.int .i64 (runS p b).at_)).setCell ⟨rb, 3, none⟩ s1).setCell ⟨rb, 4, none⟩ (.int .i64 ((runS p b).st.vars 0))).setCell ⟨rb, 5, none⟩ (.int .i64 ((runS p b).st.vars 1))).setCell ⟨rb, 6, none⟩ (.int .i64 ((runS p b).st.vars 2))).setCell ⟨rb, 7, none⟩ (.int .i64 ((runS p b).st.vars 3))).setCell ⟨rb, 8, none⟩ g1).heap[k]? = w'.heap[k]? := fun k hk => by
    iterate 9 rw [Below.heap_setCell _ _ _ _ (by simpa using hk)]
  refine ⟨?_, ?_, fun e => absurd e hb, hta, ⟨s1, g1, set9 h1, ?_, ?_, hsa, hga⟩, ?_, ?_, hlo, by simp; omega, hok⟩
  · iterate 9 refine grown_setNew ?_ (by omega)
    exact h.grown
  · iterate 9 refine owns_setCell_ne ?_ hta
    exact ht
  · iterate 9 refine owns_setCell_ne ?_ hsa
    exact hs
  · iterate 9 refine owns_setCell_ne ?_ hga
    exact hg
  · rw [hother _ (by omega)]; exact h.box
  · rw [hother _ (by omega)]; exact h.out


section
variable {P : Program} {w : World} {ops : Array Oper} {rest : List Oper} {o : Oper} {a : Act} {Q : Exit → Act → World → Prop}
end

end Go.Proofs.YtklenjmfalljgaaGreatDoor

/- The walk of schedule. -/
namespace Go.Proofs.YtklenjmfalljgaaGreatDoor
open Go.RowKit
attribute [local go_sem] Go.World.cell?_alloc_some

theorem info_int : ((Tryz.prog.info? 3).map fun i => (i.zero, i.size, i.bytes)) = some (some (.int .i64 0), 1, 8) := by kernel_rfl

theorem owns_lenq {w : World} {base e size : Nat} {ao : Option Addr} {n c m : Nat} {xs : List Value} (h : w.ownsRow base e size (.slice ao n c) m xs) : n = m := by
  rcases h.2 with ⟨e, e0⟩ | ⟨g, cap, cur, hv, _⟩
  · simp at e; omega
  · simp at hv; omega

end Go.Proofs.YtklenjmfalljgaaGreatDoor

/- Small laws on worlds that are alike, and on rows. -/
namespace Go.Proofs.YtklenjmfalljgaaGreatDoor
open Go.RowKit

theorem like_refl (w : World) : Like w w := ⟨rfl, rfl, rfl, rfl⟩
theorem like_dn {w' w : World} (h : Like w' w) (n : Nat) : Like (w'.drewN n) w := by
  have := like_drewN w' n
  exact ⟨this.1.trans h.1, this.2.1.trans h.2.1, this.2.2.1.trans h.2.2.1, this.2.2.2.trans h.2.2.2⟩
theorem owns_setCell {w : World} {base : Nat} {e : TypeId} {size g n cap : Nat} {xs : List Value} (h : w.ownsRow base e size (.slice (some ⟨g, 0, none⟩) n cap) n xs) (j : Nat) (u : Value) :
    (w.setCell ⟨g, j, none⟩ u).ownsRow base e size (.slice (some ⟨g, 0, none⟩) n cap) n (xs.set j u) := by
  obtain ⟨h1, h2⟩ := h
  refine ⟨by simpa using h1, ?_⟩
  rcases h2 with ⟨e1, _⟩ | ⟨g', cap', cur, hv, hb, hh, h3, h4, h5, h6⟩
  · cases e1
  · simp only [Value.slice.injEq, Option.some.injEq, Addr.mk.injEq, true_and, and_true] at hv
    obtain ⟨rfl, rfl⟩ := hv
    exact Or.inr ⟨g, cap, cur.setIfInBounds j u, rfl, hb, heap_setCell_same w g j cur e u hh, h3, h4, by simpa using h5, by rw [← h6, Array.toList_setIfInBounds, List.take_set]⟩
theorem grown_below' {w w' : World} (h : Below w.heap.size w w') : w.grownBy w' none := ⟨h.os, h.tape, h.output, h.size, fun k hk _ => h.block k hk⟩

end Go.Proofs.YtklenjmfalljgaaGreatDoor

/- The laws' counter: the document's program P, made. -/
namespace Go.Proofs.YtklenjmfalljgaaGreatDoor
open Go.RowKit
attribute [local go_sem] Go.World.cell?_alloc_some

def ctrC : List Ins := [⟨2, 0, 0, 0⟩, ⟨1, 1, 0, 1⟩, ⟨4, 0, 1, 0⟩, ⟨3, 0, 0, 0⟩]
def ctrP : List (List Ins) := [ctrC, ctrC]
def ctrV : Array Value := #[.int .i64 2, .int .i64 0, .int .i64 0, .int .i64 0, .int .i64 1, .int .i64 1, .int .i64 0, .int .i64 1, .int .i64 4, .int .i64 0, .int .i64 1, .int .i64 0, .int .i64 3, .int .i64 0, .int .i64 0, .int .i64 0]

theorem ctr_code {w : World} {g : Nat} {ty : TypeId} (h : w.heap[g]? = some (.cells ctrV ty (0, 0))) : CodeAt w (.slice (some ⟨g, 0, none⟩) 4 4) ctrC := by
  refine ⟨some ⟨g, 0, none⟩, 4, rfl, fun k hk => ⟨g, 0, rfl, ?_⟩⟩
  have hk4 : k = 0 ∨ k = 1 ∨ k = 2 ∨ k = 3 := by simp [ctrC] at hk; omega
  simp only [World.cell?, h]
  rcases hk4 with rfl | rfl | rfl | rfl <;> exact ⟨rfl, rfl, rfl, rfl⟩

theorem ctr_prog {w : World} {g g2 : Nat} {ty ty2 : TypeId} (h : w.heap[g]? = some (.cells ctrV ty (0, 0))) (h2 : w.heap[g2]? = some (.cells #[.slice (some ⟨g, 0, none⟩) 4 4, .slice (some ⟨g, 0, none⟩) 4 4] ty2 (0, 0))) :
    ProgAt w (.agg #[.slice (some ⟨g2, 0, none⟩) 2 2]) ctrP := by
  refine ⟨some ⟨g2, 0, none⟩, 2, rfl, fun t ht => ⟨g2, 0, rfl, .slice (some ⟨g, 0, none⟩) 4 4, ?_, ?_⟩⟩
  · have ht2 : t = 0 ∨ t = 1 := by simp [ctrP] at ht; omega
    simp only [World.cell?, h2]
    rcases ht2 with rfl | rfl <;> rfl
  · have ht2 : t = 0 ∨ t = 1 := by simp [ctrP] at ht; omega
    rcases ht2 with rfl | rfl <;> exact ctr_code h

set_option maxHeartbeats 1000000 in
theorem counter_m (w : World) : Calls Tryz.prog 7 #[] w fun e w' => ∃ pv, e = .returned pv ∧ ProgAt w' pv ctrP ∧ w.grownBy w' none := by
  go_enter Tryz.func7, Tryz.ntmps7
  go_wp2_with fail
  refine bodyPost_ret (v := .agg #[.slice (some ⟨w.heap.size + 1 + 1, 0, none⟩) 2 2]) ?_ rfl ⟨_, rfl, ctr_prog (g := w.heap.size + 1) (ty := 74) (ty2 := 75) ?_ ?_, grown_alloc (grown_alloc (grown_alloc (grown_refl _ _)))⟩
  · simp [results, Tryz.results7, go_sem]
  · rw [Below.heap_alloc _ _ _ (by simp)]
    have := heap_alloc_new (w.alloc (.cells #[.slice (some ⟨w.heap.size + 1 + 1, 0, none⟩) 2 2] 24)) (.cells ctrV 74)
    simp only [World.size_alloc] at this
    exact this
  · have := heap_alloc_new ((w.alloc (.cells #[.slice (some ⟨w.heap.size + 1 + 1, 0, none⟩) 2 2] 24)).alloc (.cells ctrV 74)) (.cells #[.slice (some ⟨w.heap.size + 1, 0, none⟩) 4 4, .slice (some ⟨w.heap.size + 1, 0, none⟩) 4 4] 75)
    simp only [World.size_alloc] at this
    exact this

end Go.Proofs.YtklenjmfalljgaaGreatDoor

/- Equality of two equal arrays of four ints. -/
namespace Go.Proofs.YtklenjmfalljgaaGreatDoor
open Go.RowKit

theorem run_eq4 (a b c d : Int) (w : World) : (Op.equalIn 10000 29 (.agg #[.int .i64 a, .int .i64 b, .int .i64 c, .int .i64 d]) (.agg #[.int .i64 a, .int .i64 b, .int .i64 c, .int .i64 d])).run Tryz.prog w = .ok true w := by
  obtain ⟨i0, hi0, hz0, hz1, hz2⟩ := info_parts info_int
  have hc : Tryz.prog.cellsOf 3 = 1 := by simp [Program.cellsOf, hi0, hz1]
  have hk : Tryz.prog.plainKey 3 = true := by simp [Program.plainKey, Tryz.underlying3]
  rw [show (10000 : Nat) = 9999 + 1 from rfl, run_equalIn_array w 9999 _ _ (n := 4) (e := 3) (by first | exact Tryz.underlying29 | kernel_rfl) hi0, hc]
  have he : ∀ (d : Nat) (v : Int), (Op.equalIn (d + 1) 3 (.int .i64 v) (.int .i64 v)).run Tryz.prog w = .ok true w := fun d v => by
    rw [run_equalIn_int w d _ _ .i64 v v Tryz.underlying3]; simp
  have hq := he 9998
  simp only [Nat.reduceAdd] at hq
  have p0 := run_part_plain w hk (xs := #[.int .i64 a, .int .i64 b, .int .i64 c, .int .i64 d]) (off := 0) rfl
  have p1 := run_part_plain w hk (xs := #[.int .i64 a, .int .i64 b, .int .i64 c, .int .i64 d]) (off := 1) rfl
  have p2 := run_part_plain w hk (xs := #[.int .i64 a, .int .i64 b, .int .i64 c, .int .i64 d]) (off := 2) rfl
  have p3 := run_part_plain w hk (xs := #[.int .i64 a, .int .i64 b, .int .i64 c, .int .i64 d]) (off := 3) rfl
  simp [List.range, List.range.loop, Op.eqItems, Sem.run_bind, p0, p1, p2, p3, hq, Result.andThen_ok]

end Go.Proofs.YtklenjmfalljgaaGreatDoor

/- What stands behind a place of a function's text. -/
namespace Go.Proofs.YtklenjmfalljgaaGreatDoor

/-- Does the text begin with region n? -/
def atR (n : Nat) : Code → Bool
  | .region k _ _ => Nat.beq k n
  | .seq a _ => atR n a
  | .block _ c => atR n c
  | .scope c => atR n c
  | .loop c => atR n c
  | _ => false
/-- The statements from region n on, to the end of their row. -/
def tailAt (n : Nat) : Code → Option Code
  | .seq a b => match atR n a with
    | true => some (.seq a b)
    | false => match tailAt n a with
      | some c => some c
      | none => tailAt n b
  | .block _ c => tailAt n c
  | .scope c => tailAt n c
  | .loop c => tailAt n c
  | .cond _ a b => match tailAt n a with
    | some c => some c
    | none => tailAt n b
  | _ => none
/-- The statements of a function from region n on. -/
def tailOf (f : Func) (n : Nat) : Code := match f.body with
  | some c => (tailAt n c).getD .skip
  | none => .skip

end Go.Proofs.YtklenjmfalljgaaGreatDoor

/- On beginnings of runs. -/
namespace Go.Proofs.YtklenjmfalljgaaGreatDoor

theorem follow_fst (p : List (List Ins)) : ∀ (l : List Int) (i : Int) (s : St) (acc : List (Int × Int)), ∃ m, m ≤ l.length ∧ (follow p l i s acc).steps.map (·.1) = acc.map (·.1) ++ l.take m ∧ acc.length + m = (follow p l i s acc).steps.length ∧ ∃ more, (follow p l i s acc).steps = acc ++ more
  | [], i, s, acc => ⟨0, Nat.le_refl _, by simp [follow_nil], by simp [follow_nil], [], by simp [follow_nil]⟩
  | t :: r, i, s, acc => by
    by_cases h1 : okAt p s t = true
    · by_cases h2 : (stepS p s t.toNat).1 = true
      · rw [follow_go p t r i s acc h1 h2]
        obtain ⟨m, q1, q2, q3, more, q4⟩ := follow_fst p r (i + 1) (stepS p s t.toNat).2 (acc ++ [(t, s.next t.toNat)])
        refine ⟨m + 1, by simp; omega, by rw [q2]; simp, by rw [← q3]; simp; omega, (t, s.next t.toNat) :: more, by rw [q4]; simp⟩
      · have h3 : (stepS p s t.toNat).1 = false := by simpa using h2
        rw [follow_fail p t r i s acc h1 h3]
        exact ⟨1, by simp, by simp, by simp, _, rfl⟩
    · have h3 : okAt p s t = false := by simpa using h1
      rw [follow_wrong p t r i s acc h3]
      exact ⟨0, by simp, by simp, by simp, [], by simp⟩

end Go.Proofs.YtklenjmfalljgaaGreatDoor
