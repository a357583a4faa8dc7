/- The walks of Valid and Of. -/
import Derived.Test.YthgeiolabecikaaDoorPar
import Derived.Test.YthgeiolabecikaaDoorTxtW
namespace Go.Proofs.YthgeiolabecikaaDoor
open Go.RowKit
attribute [local go_sem] Go.World.cell?_alloc_some

def okN (t : Int) : Bool := decide (0 ≤ t) && decide (t ≤ 63)

set_option maxRecDepth 100000 in
set_option maxHeartbeats 1000000 in
theorem valid_t (l : List Int) (v : Value) (w : World) (hI : IntsAt w.heap.size w v l) :
    Calls Tryd.prog 55 #[v] w fun e w' => e = .returned (.bool (validS l)) ∧ w.grownBy w' none := by
  obtain ⟨ao, cap, rfl, hcap, hc⟩ := hI
  by_cases h5 : l.length ≤ 500
  · have g5 : (l.length : Int) ≤ 500 := by omega
    have HV : Hid (validS l = l.all okN) := by unfold Hid validS; rw [decide_eq_true h5]; rfl
    have HC := hide hc
    clear hc
    go_enter Tryd.func55, Tryd.ntmps55
    go_wp2
    go_loopw [10] (fun i w' => ∃ k : Nat, k ≤ l.length ∧ i = .int .i64 k ∧ w' = w ∧ Hid ((l.take k).all okN = true)) (fun i _ => l.length - (intOf i).toNat)
    case atStart => exact ⟨0, Nat.zero_le _, rfl, rfl, rfl⟩
    case round =>
      obtain ⟨k, hk, rfl, rfl, HA⟩ := hrel
      by_cases hlt : k < l.length
      · obtain ⟨g, o, rfl, hg, c0⟩ := HC.out k hlt
        have HAs := hide (all_take_succ l okN k hlt)
        have hk0 : (0 : Int) ≤ (k : Int) := by omega
        have hk1 : (k : Int) < l.length := by omega
        have HF : Hid (okN l[k] = false → validS l = false) := by
          intro h
          rw [HV.out]
          have : (l.take (k + 1)).all okN = false := by rw [HAs.out, h]; simp
          rw [← List.take_append_drop (k + 1) l, List.all_append, this]; rfl
        generalize l[k] = x at *
        by_cases h0 : 0 ≤ x
        · by_cases h63 : x ≤ 63
          · have HA1 : Hid ((l.take (k + 1)).all okN = true) := by unfold Hid; rw [HAs.out, HA.out]; simp [okN, h0, h63]
            have h0' : ¬ x < 0 := by omega
            have h63' : ¬ 63 < x := by omega
            go_wp2
            go_roundw
            case rel => exact ⟨k + 1, by omega, by go_num, trivial, HA1⟩
            case measure => simp [intOf]; omega
          · have HE := hide (HF.out (by simp [okN, h63]))
            have h63' : 63 < x := by omega
            go_wp2
            go_ret
            exact ⟨by rw [HE.out]; rfl, grown_refl _ _⟩
        · have HE := hide (HF.out (by simp [okN, h0]))
          have h0' : x < 0 := by omega
          go_wp2
          go_ret
          exact ⟨by rw [HE.out]; rfl, grown_refl _ _⟩
      · have HE : Hid (validS l = true) := by
          unfold Hid
          rw [HV.out]
          have := HA.out
          rw [List.take_of_length_le (by omega)] at this
          exact this
        go_wp2
        go_ret
        exact ⟨by rw [HE.out]; rfl, grown_refl _ _⟩
  · have g5 : 500 < (l.length : Int) := by omega
    have HV : Hid (validS l = false) := by unfold Hid validS; rw [decide_eq_false h5]; rfl
    clear hc
    go_enter Tryd.func55, Tryd.ntmps55
    go_wp2
    go_ret
    exact ⟨by rw [HV.out]; rfl, grown_refl _ _⟩

theorem owns_setCell {w : World} {base : Nat} {e : TypeId} {size g n cap : Nat} {xs : List Value} (h : w.ownsRow base e size (.slice (some ⟨g, 0, none⟩) n cap) n xs) (j : Nat) (u : Value) :
    (w.setCell ⟨g, j, none⟩ u).ownsRow base e size (.slice (some ⟨g, 0, none⟩) n cap) n (xs.set j u) := by
  obtain ⟨h1, h2⟩ := h
  refine ⟨by simpa using h1, ?_⟩
  rcases h2 with ⟨e1, _⟩ | ⟨g', cap', cur, hv, hb, hh, h3, h4, h5, h6⟩
  · cases e1
  · simp only [Value.slice.injEq, Option.some.injEq, Addr.mk.injEq, true_and, and_true] at hv
    obtain ⟨rfl, rfl⟩ := hv
    exact Or.inr ⟨g, cap, cur.setIfInBounds j u, rfl, hb, heap_setCell_same w g j cur e u hh, h3, h4, by simpa using h5, by rw [← h6, Array.toList_setIfInBounds, List.take_set]⟩

theorem flatS_len (q : List (Int × Int)) : (flatS q).length = q.length * 2 := by
  induction q with
  | nil => rfl
  | cons x q ih => simp [flatS] at ih ⊢; omega

theorem flat_bump (q : List (Int × Int)) (hq : q ≠ []) (x : Int × Int) (hx : q.getLast? = some x) : (flatS q).set ((q.length - 1) * 2 + 1) (.int .i64 (x.2 + 1)) = flatS (bump q) := by
  induction q with
  | nil => exact absurd rfl hq
  | cons y q ih =>
    cases q with
    | nil =>
      simp at hx; subst hx
      simp [flatS, bump]
    | cons z q =>
      rw [List.getLast?_cons_cons] at hx
      have := ih (by simp) hx
      have e1 : flatS (y :: z :: q) = .int .i64 y.1 :: .int .i64 y.2 :: flatS (z :: q) := rfl
      have e2 : flatS (bump (y :: z :: q)) = .int .i64 y.1 :: .int .i64 y.2 :: flatS (bump (z :: q)) := rfl
      rw [e1, e2, ← this]
      have e3 : ((y :: z :: q).length - 1) * 2 + 1 = (((z :: q).length - 1) * 2 + 1) + 1 + 1 := by simp; omega
      rw [e3, List.set_cons_succ, List.set_cons_succ]
theorem bump_len (q : List (Int × Int)) : (bump q).length = q.length := by
  induction q with
  | nil => rfl
  | cons y q ih =>
    cases q with
    | nil => rfl
    | cons z q => simp [bump] at ih ⊢; exact ih

theorem flat_get (q : List (Int × Int)) (x : Int × Int) (hx : q.getLast? = some x) : (flatS q)[(q.length - 1) * 2 + 1]? = some (.int .i64 x.2) := by
  induction q with
  | nil => simp at hx
  | cons y q ih =>
    cases q with
    | nil => simp at hx; subst hx; simp [flatS]
    | cons z q =>
      rw [List.getLast?_cons_cons] at hx
      have := ih hx
      have e1 : flatS (y :: z :: q) = .int .i64 y.1 :: .int .i64 y.2 :: flatS (z :: q) := rfl
      have e3 : ((y :: z :: q).length - 1) * 2 + 1 = (((z :: q).length - 1) * 2 + 1) + 1 + 1 := by simp; omega
      rw [e1, e3]; exact this

theorem info_run : ((Tryd.prog.info? 162).map fun i => (i.zero, i.size, i.bytes)) = some (some (.agg #[.int .i64 0, .int .i64 0]), 2, 16) := by kernel_rfl

set_option maxRecDepth 100000 in
set_option maxHeartbeats 1000000 in
theorem of_m (l : List Int) (v : Value) (w : World) (hI : IntsAt w.heap.size w v l) (h5 : l.length ≤ 500) :
    Calls Tryd.prog 80 #[v] w fun e w' => ∃ x y z, e = .returned (.slice x y z) ∧ w'.ownsRow w.heap.size 162 2 (.slice x y z) (grp l).length (flatS (grp l)) ∧ w.grownBy w' none := by
  obtain ⟨i0, hi0, hz0, hz1, hz2⟩ := info_parts info_run
  obtain ⟨ao, cap, rfl, hcap, hc⟩ := hI
  have HC := hide hc
  clear hc
  go_enter Tryd.func80, Tryd.ntmps80
  go_wp2_with fail
  go_loopw [3, 8] (fun lv i w' => ∃ k : Nat, k ≤ l.length ∧ i = .int .i64 k ∧ Hid (w'.ownsRow w.heap.size 162 2 lv (grp (l.take k)).length (flatS (grp (l.take k))) ∧ w.grownBy w' none)) (fun _ i _ => l.length - (intOf i).toNat)
  case atStart => exact ⟨0, Nat.zero_le _, rfl, ⟨rfl, Or.inl ⟨rfl, rfl⟩⟩, grown_refl _ _⟩
  case round =>
    obtain ⟨k, hk, rfl, HL⟩ := hrel
    obtain ⟨w5, hw5⟩ : ∃ w5, w5 = wr := ⟨_, rfl⟩
    subst hw5
    obtain ⟨x1, x2, x3, rfl⟩ := owns_form HL.out.1
    by_cases hlt : k < l.length
    · obtain ⟨g, o, rfl, hg, c0⟩ := HC.out k hlt
      have d0 := pres_grown HL.out.2 _ _ c0
      have hk0 : (0 : Int) ≤ (k : Int) := by omega
      have hk1 : (k : Int) < l.length := by omega
      have HT : Hid (l.take (k + 1) = l.take k ++ [l[k]]) := List.take_succ_eq_append_getElem hlt
      have hgl := grp_len (l.take k)
      have hgl2 : (grp (l.take k)).length ≤ 500 := by simp at hgl; omega
      have hglast := grp_last (l.take k)
      have hcount := grp_mem (l.take k)
      -- the bump behind
      have bum : ∀ (w6 : World) (g6 cap6 : Nat) (q : List (Int × Int)) (x : Int × Int), q ≠ [] → q.getLast? = some x → w6.ownsRow w.heap.size 162 2 (.slice (some ⟨g6, 0, none⟩) q.length cap6) q.length (flatS q) → w.grownBy w6 none →
          (w6.setCell ⟨g6, (q.length - 1) * 2 + 1, none⟩ (.int .i64 (x.2 + 1))).ownsRow w.heap.size 162 2 (.slice (some ⟨g6, 0, none⟩) q.length cap6) (bump q).length (flatS (bump q)) ∧ w.grownBy (w6.setCell ⟨g6, (q.length - 1) * 2 + 1, none⟩ (.int .i64 (x.2 + 1))) none ∧
          w6.cell? ⟨g6, (q.length - 1) * 2 + 1, none⟩ = some (.int .i64 x.2) ∧ w6.frozen? ⟨g6, (q.length - 1) * 2 + 1, none⟩ = false := by
        intro w6 g6 cap6 q x hq hx ho hgr
        have hql : 0 < q.length := List.length_pos_iff.2 hq
        refine ⟨?_, ?_, ?_, ?_⟩
        · rw [bump_len, ← flat_bump q hq x hx]; exact owns_setCell ho _ _
        · exact grown_setNew hgr (owns_block ho g6 rfl)
        · rw [ho.cellAt _ (by omega)]; exact flat_get q x hx
        · rcases ho.2 with ⟨e, _⟩ | ⟨g', cap', cur, hv, hb, hh, _⟩
          · cases e
          · simp only [Value.slice.injEq, Option.some.injEq, Addr.mk.injEq, true_and, and_true] at hv
            obtain ⟨rfl, rfl⟩ := hv
            simp [World.frozen?, hh]
      have BUM := hide bum
      clear bum
      have H1 := hide HL.out.1
      have H2 := hide HL.out.2
      have H2s := HL.out.2.size
      have hob := owns_block H1.out
      have h63 : (grp (l.take k)).length + 1 ≤ maxLen := by unfold maxLen; omega
      have newrun : ¬ (l.take k).getLast? = some l[k] → ∀ (w6 : World) (g6 cap6 : Nat), w6.ownsRow w.heap.size 162 2 (.slice (some ⟨g6, 0, none⟩) ((grp (l.take k)).length + 1) cap6) ((grp (l.take k)).length + 1) (flatS (grp (l.take k)) ++ [.int .i64 l[k], .int .i64 0]) → w.grownBy w6 none →
          (w6.setCell ⟨g6, (grp (l.take k)).length * 2 + 1, none⟩ (.int .i64 1)).ownsRow w.heap.size 162 2 (.slice (some ⟨g6, 0, none⟩) ((grp (l.take k)).length + 1) cap6) (grp (l.take (k + 1))).length (flatS (grp (l.take (k + 1)))) ∧ w.grownBy (w6.setCell ⟨g6, (grp (l.take k)).length * 2 + 1, none⟩ (.int .i64 1)) none ∧
          w6.cell? ⟨g6, (grp (l.take k)).length * 2 + 1, none⟩ = some (.int .i64 0) ∧ w6.frozen? ⟨g6, (grp (l.take k)).length * 2 + 1, none⟩ = false := by
        intro hn w6 g6 cap6 ho hgr
        have := BUM.out w6 g6 cap6 (grp (l.take k) ++ [(l[k], 0)]) (l[k], 0) (by simp) (by simp) (by simpa [flatS] using ho) hgr
        have e2 : bump (grp (l.take k) ++ [(l[k], 0)]) = grp (l.take (k + 1)) := by
          rw [HT.out, grp_snoc, if_neg hn]
          have : ∀ q : List (Int × Int), bump (q ++ [(l[k], 0)]) = q ++ [(l[k], 1)] := by
            intro q
            induction q with
            | nil => rfl
            | cons y q ih =>
              cases q with
              | nil => rfl
              | cons z q => rw [List.cons_append, List.cons_append, bump, ← List.cons_append, ih]; rfl
          exact this _
        rw [e2] at this
        simpa using this
      have NEW := hide newrun
      clear newrun
      by_cases hk00 : k = 0
      · have hNL := NEW.out (by subst hk00; simp)
        have HNL := hide hNL
        clear hNL NEW BUM hglast hcount hgl
        have q0 : ((k : Int) == 0) = true := by simp; omega
        clear hk00 c0
        generalize l[k] = x at *
        go_wp2_with (at_builtin; refine wpList_append_lies _ rfl _ _ _ rfl w.heap.size 162 i0 _ 2 16 Tryd.underlying159 hi0 hz0 hz1 hz2 rfl (by omega) (.slice x1 x2 x3) (grp (l.take k)).length (flatS (grp (l.take k))) rfl (owns_alloc H1.out) ⟨w5.heap.size, 0, none⟩ 1 1 [.int .i64 x, .int .i64 0] rfl rfl (World.news_of_block (cs := #[.int .i64 x, .int .i64 0]) (t := 162) (fr := (0, 0)) (heap_alloc_new w5 _)) (by simp [Value.oneCell']) (by omega) h63 (by omega) (by simp; omega) (w5.heap.size + 1) (by simp) ?_; intro g6 cap6 w6 hown6 hgrow hat hlt6; obtain ⟨f1, f2, f3, f4⟩ := HNL.out w6 g6 cap6 hown6 (grown_row (grown_alloc H2.out) hgrow (fun q e => hob q e)); have F1 := hide f1; have F2 := hide f2; clear f1 f2 hown6 hgrow hat)
        go_roundw
        case rel => exact ⟨k + 1, by omega, by go_num, F1.out, F2.out⟩
        case measure => simp [intOf]; omega
      · have q0 : ((k : Int) == 0) = false := by simp; omega
        have hk1' : k - 1 < l.length := by omega
        obtain ⟨g', o', e', _, c1⟩ := HC.out (k - 1) hk1'
        simp only [Option.some.injEq, Addr.mk.injEq, and_true] at e'
        obtain ⟨rfl, rfl⟩ := e'
        have d1 := pres_grown H2.out _ _ c1
        have hlastT : (l.take k).getLast? = some l[k - 1] := by
          rw [List.getLast?_eq_getElem?, List.length_take, Nat.min_eq_left (by omega), List.getElem?_take, if_pos (by omega), List.getElem?_eq_getElem hk1']
        have hkk : (k : Int) - 1 = ((k - 1 : Nat) : Int) := by omega
        have q1 : (0 : Int) ≤ (k : Int) - 1 := by omega
        have q2 : (k : Int) - 1 < l.length := by omega
        have q3 : ((k : Int) - 1).toNat = k - 1 := by omega
        clear c0 c1 hk00
        by_cases hne : l[k] = l[k - 1]
        · have hx : ∃ x, (grp (l.take k)).getLast? = some x := by
            rw [hlastT] at hglast
            cases hg2 : (grp (l.take k)).getLast? with
            | none => rw [hg2] at hglast; cases hglast
            | some x => exact ⟨x, rfl⟩
          obtain ⟨y, hy⟩ := hx
          have hyc := hcount y (List.mem_of_getLast? hy)
          have hne2 : grp (l.take k) ≠ [] := fun e => by rw [e] at hy; cases hy
          have hE : Hid (bump (grp (l.take k)) = grp (l.take (k + 1))) := by
            unfold Hid; rw [HT.out, grp_snoc, if_pos (by rw [hlastT, hne])]
          obtain ⟨m, hm⟩ : ∃ m, (grp (l.take k)).length = m + 1 := ⟨(grp (l.take k)).length - 1, by have := List.length_pos_iff.2 hne2; omega⟩
          obtain ⟨g6, cap6, e6, _, _⟩ := H1.out.form (by omega)
          have h1 := H1.out
          rw [e6] at h1
          obtain ⟨f1, f2, f3, f4⟩ := BUM.out w5 g6 cap6 (grp (l.take k)) y hne2 hy h1 H2.out
          rw [hE.out, hm, Nat.add_sub_cancel] at f1
          rw [hm, Nat.add_sub_cancel] at f2 f3 f4
          rw [hm] at e6
          simp only [Value.slice.injEq] at e6
          obtain ⟨rfl, rfl, rfl⟩ := e6
          have F1 := hide f1
          have F2 := hide f2
          have heq : (l[k] == l[k - 1]) = true := by simpa using hne
          have hyc2 : y.2 ≤ 500 := by simp at hyc; omega
          have hyc1 := hyc.2.1
          have hm500 : m + 1 ≤ 500 := by omega
          have HM := hide hm
          rw [hm] at h63
          clear f1 f2 h1 BUM NEW hglast hcount hgl hgl2 hE hne2 hy hyc hm HL H1 H2 hlastT hob HT hne
          generalize l[k] = x at *
          generalize l[k - 1] = x' at *
          generalize y.2 = n at *
          go_wp2_with fail
          go_roundw
          case rel => exact ⟨k + 1, by omega, by go_num, F1.out, F2.out⟩
          case measure => simp [intOf]; omega
        · have hNL := NEW.out (by rw [hlastT]; simpa using fun e => hne e.symm)
          have HNL := hide hNL
          have heq : (l[k] == l[k - 1]) = false := by simpa using hne
          clear hNL NEW BUM hglast hcount hgl hlastT
          generalize l[k - 1] = x' at *
          generalize l[k] = x at *
          go_wp2_with (at_builtin; refine wpList_append_lies _ rfl _ _ _ rfl w.heap.size 162 i0 _ 2 16 Tryd.underlying159 hi0 hz0 hz1 hz2 rfl (by omega) (.slice x1 x2 x3) (grp (l.take k)).length (flatS (grp (l.take k))) rfl (owns_alloc H1.out) ⟨w5.heap.size, 0, none⟩ 1 1 [.int .i64 x, .int .i64 0] rfl rfl (World.news_of_block (cs := #[.int .i64 x, .int .i64 0]) (t := 162) (fr := (0, 0)) (heap_alloc_new w5 _)) (by simp [Value.oneCell']) (by omega) h63 (by omega) (by simp; omega) (w5.heap.size + 1) (by simp) ?_; intro g6 cap6 w6 hown6 hgrow hat hlt6; obtain ⟨f1, f2, f3, f4⟩ := HNL.out w6 g6 cap6 hown6 (grown_row (grown_alloc H2.out) hgrow (fun q e => hob q e)); have F1 := hide f1; have F2 := hide f2; clear f1 f2 hown6 hgrow hat)
          go_roundw
          case rel => exact ⟨k + 1, by omega, by go_num, F1.out, F2.out⟩
          case measure => simp [intOf]; omega
    · have ek : l.take k = l := List.take_of_length_le (by omega)
      have q2 : (l.length : Int) ≤ (k : Int) := by omega
      have HL2 := HL.out
      rw [ek] at HL2
      have HL3 := hide HL2
      clear HL2 HL
      go_wp2
      go_ret
      exact ⟨_, _, _, rfl, HL3.out.1, HL3.out.2⟩

end Go.Proofs.YthgeiolabecikaaDoor
