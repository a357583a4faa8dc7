/- The texts Par Prn Ins Prg Prg2 Wrt Rga Rgb Rgc Rda Rdb. -/
import Derived.Test.YtklenjmfalljgaaDoorME
import Derived.Laws.BitsAllLaws
import Derived.Laws.Bits64
import Derived.Laws.BytesArg
import Derived.Lib.ConvBytes
import Derived.Defers
import Derived.Recover

/- The walks of Append and Parse. -/
namespace Go.Proofs.YtklenjmfalljgaaDoor
open Go.RowKit
attribute [local go_sem] Go.World.cell?_alloc_some

theorem ints_rep (l : List Int) (t : Int) (k : Nat) : ints (l ++ List.replicate (k + 1) t) = ints (l ++ List.replicate k t) ++ [.int .i64 t] := by
  rw [List.replicate_succ', ← List.append_assoc, ints_snoc]

set_option maxRecDepth 100000 in
set_option maxHeartbeats 4000000 in
theorem append_m (W0 w : World) (r : Option Nat) (sv : Value) (l : List Int) (t : Int) (c : Nat) (h : w.ownsRow W0.heap.size 3 1 sv l.length (ints l)) (hW : W0.grownBy w r) (hc : c ≤ 501) (hl : l.length ≤ 501) :
    Calls Tryd.prog 92 #[sv, .agg #[.int .i64 t, .int .i64 c]] w fun e w' => ∃ sv', e = .returned sv' ∧ w'.ownsRow W0.heap.size 3 1 sv' (l ++ List.replicate c t).length (ints (l ++ List.replicate c t)) ∧ W0.grownBy w' r ∧ w.grownBy w' sv.ownBlock ∧ ((∃ x y z, sv' = .slice x y z)) := by
  obtain ⟨i0, hi0, hz0, hz1, hz2⟩ := info_parts info_int
  obtain ⟨sa, sn, sc, rfl⟩ := owns_form h
  have HO := hide h
  have HW := hide hW
  have hW0 := hW.size
  clear h hW
  go_enter Tryd.func92, Tryd.ntmps92
  go_wp2_with fail
  go_loopw [0, 7] (fun lv i w' => ∃ k : Nat, k ≤ c ∧ i = .int .i64 k ∧ Hid (w'.ownsRow W0.heap.size 3 1 lv (l.length + k) (ints (l ++ List.replicate k t)) ∧ W0.grownBy w' r ∧ w'.heap[w.heap.size]? = some (.cells #[.int .i64 t, .int .i64 c] 161 (0, 0)) ∧ lv.ownBlock ≠ some w.heap.size ∧ w.grownBy w' (Value.slice sa sn sc).ownBlock ∧ ∀ k, lv.ownBlock = some k → (Value.slice sa sn sc).ownBlock = some k ∨ w.heap.size ≤ k)) (fun _ i _ => c - (intOf i).toNat)
  case atStart =>
    refine ⟨0, Nat.zero_le _, rfl, ?_, grown_alloc HW.out, heap_alloc_new _ _, ?_, grown_alloc (grown_refl _ _), fun k e => Or.inl e⟩
    · simpa using owns_alloc (o := .cells #[.int .i64 t, .int .i64 c] 161) HO.out
    · intro e
      rcases HO.out.2 with ⟨e1, _⟩ | ⟨g, cap, cur, hv, _, hh, _⟩
      · rw [e1] at e; cases e
      · rw [hv] at e
        simp [Value.ownBlock] at e
        have := (Array.getElem?_eq_some_iff.1 hh).1
        omega
  case round =>
    obtain ⟨k, hk, rfl, HL⟩ := hrel
    obtain ⟨w5, hw5⟩ : ∃ w5, w5 = wr := ⟨_, rfl⟩
    subst hw5
    obtain ⟨l1, l2, l3, l4, l5, l6⟩ := HL.out
    have d0 : w5.cell? ⟨w.heap.size, 0, none⟩ = some (.int .i64 t) := by simp [World.cell?, l3]
    have d1 : w5.cell? ⟨w.heap.size, 1, none⟩ = some (.int .i64 c) := by simp [World.cell?, l3]
    have hlt3 : w.heap.size < w5.heap.size := (Array.getElem?_eq_some_iff.1 l3).1
    by_cases hkl : k < c
    · have q3 : (k : Int) < c := by omega
      have h63 : l.length + k + 1 ≤ maxLen := by unfold maxLen; omega
      have hob := owns_block l1
      have L1 := hide l1
      have L2 := hide l2
      have L3 := hide l3
      have L4 := hide l4
      have L5 := hide l5
      have L6 := hide l6
      have hn : w5.heap.size ≠ w.heap.size := by omega
      clear l1 l2 l3 l4 l5 l6
      go_wp2_with (at_builtin; refine wpList_append_lies _ rfl _ _ _ rfl W0.heap.size 3 i0 _ 1 8 Tryd.underlying22 hi0 hz0 hz1 hz2 rfl (by omega) u0 (l.length + k) (ints (l ++ List.replicate k t)) rfl (owns_alloc L1.out) ⟨w5.heap.size, 0, none⟩ 1 1 [.int .i64 t] rfl rfl (World.news_of_block (cs := #[.int .i64 t]) (t := 3) (fr := (0, 0)) (heap_alloc_new w5 _)) (by simp [Value.oneCell']) (by omega) h63 (by omega) (by simp; have := L2.out.size; omega) (w5.heap.size + 1) (by simp) ?_; intro g6 cap6 w6 hown6 hgrow hat hlt6)
      have HNX : Hid (w6.ownsRow W0.heap.size 3 1 (.slice (some ⟨g6, 0, none⟩) (l.length + k + 1) cap6) (l.length + (k + 1)) (ints (l ++ List.replicate (k + 1) t)) ∧ W0.grownBy w6 r ∧ w6.heap[w.heap.size]? = some (.cells #[.int .i64 t, .int .i64 c] 161 (0, 0)) ∧ (Value.slice (some ⟨g6, 0, none⟩) (l.length + k + 1) cap6).ownBlock ≠ some w.heap.size ∧ w.grownBy w6 (Value.slice sa sn sc).ownBlock ∧ ∀ q, (Value.slice (some ⟨g6, 0, none⟩) (l.length + k + 1) cap6).ownBlock = some q → (Value.slice sa sn sc).ownBlock = some q ∨ w.heap.size ≤ q) := by
        refine ⟨?_, grown_row (grown_alloc L2.out) hgrow (fun q e => hob q e), ?_, ?_, ?_, ?_⟩
        · rw [ints_rep]; exact hown6
        · rw [hgrow.block _ (by simp; omega) (fun e => L4.out e.symm), Below.heap_alloc _ _ _ hlt3]; exact L3.out
        · simp only [Value.ownBlock]
          rcases hat with e | e
          · rw [← e]; exact L4.out
          · rw [e]; simp; omega
        · have hg5 := grown_alloc (o := .cells #[.int .i64 t] 3) L5.out
          refine ⟨hgrow.os.trans hg5.os, hgrow.tape.trans hg5.tape, hgrow.output.trans hg5.output, Nat.le_trans hg5.size hgrow.size, fun q hq hr => ?_⟩
          rw [hgrow.block q (Nat.lt_of_lt_of_le hq hg5.size) (fun e => by
            rcases L6.out q e.symm with e2 | e2
            · exact hr e2.symm
            · omega)]
          exact hg5.block q hq hr
        · intro q e
          rcases hat with e2 | e2
          · exact L6.out q (by rw [e2]; exact e)
          · right
            simp only [Value.ownBlock, Option.some.injEq] at e
            omega
      clear hown6 hgrow hat
      go_wp2
      go_roundw
      case rel => exact ⟨k + 1, by omega, by go_num, HNX⟩
      case measure => simp [intOf]; omega
    · have ek : k = c := by omega
      have q2 : (c : Int) ≤ (k : Int) := by omega
      subst ek
      have L1 := hide l1
      have L2 := hide l2
      obtain ⟨m1, m2, m3, rfl⟩ := owns_form l1
      have L5 := hide l5
      clear l1 l2 l3 l4 l5 l6 HL
      go_wp2
      go_ret
      exact ⟨_, rfl, by simpa using L1.out, L2.out, L5.out, _, _, _, rfl⟩

end Go.Proofs.YtklenjmfalljgaaDoor

/- The walks of Valid and Of. -/
namespace Go.Proofs.YtklenjmfalljgaaDoor
open Go.RowKit
attribute [local go_sem] Go.World.cell?_alloc_some

def okN (t : Int) : Bool := decide (0 ≤ t) && decide (t ≤ 63)

set_option maxRecDepth 100000 in
set_option maxHeartbeats 1000000 in
theorem valid_t (l : List Int) (v : Value) (w : World) (hI : IntsAt w.heap.size w v l) :
    Calls Tryd.prog 60 #[v] w fun e w' => e = .returned (.bool (validS l)) ∧ w.grownBy w' none := by
  obtain ⟨ao, cap, rfl, hcap, hc⟩ := hI
  by_cases h5 : l.length ≤ 500
  · have g5 : (l.length : Int) ≤ 500 := by omega
    have HV : Hid (validS l = l.all okN) := by unfold Hid validS; rw [decide_eq_true h5]; rfl
    have HC := hide hc
    clear hc
    go_enter Tryd.func60, Tryd.ntmps60
    go_wp2
    go_loopw [10] (fun i w' => ∃ k : Nat, k ≤ l.length ∧ i = .int .i64 k ∧ w' = w ∧ Hid ((l.take k).all okN = true)) (fun i _ => l.length - (intOf i).toNat)
    case atStart => exact ⟨0, Nat.zero_le _, rfl, rfl, rfl⟩
    case round =>
      obtain ⟨k, hk, rfl, rfl, HA⟩ := hrel
      by_cases hlt : k < l.length
      · obtain ⟨g, o, rfl, hg, c0⟩ := HC.out k hlt
        have HAs := hide (all_take_succ l okN k hlt)
        have hk0 : (0 : Int) ≤ (k : Int) := by omega
        have hk1 : (k : Int) < l.length := by omega
        have HF : Hid (okN l[k] = false → validS l = false) := by
          intro h
          rw [HV.out]
          have : (l.take (k + 1)).all okN = false := by rw [HAs.out, h]; simp
          rw [← List.take_append_drop (k + 1) l, List.all_append, this]; rfl
        generalize l[k] = x at *
        by_cases h0 : 0 ≤ x
        · by_cases h63 : x ≤ 63
          · have HA1 : Hid ((l.take (k + 1)).all okN = true) := by unfold Hid; rw [HAs.out, HA.out]; simp [okN, h0, h63]
            have h0' : ¬ x < 0 := by omega
            have h63' : ¬ 63 < x := by omega
            go_wp2
            go_roundw
            case rel => exact ⟨k + 1, by omega, by go_num, trivial, HA1⟩
            case measure => simp [intOf]; omega
          · have HE := hide (HF.out (by simp [okN, h63]))
            have h63' : 63 < x := by omega
            go_wp2
            go_ret
            exact ⟨by rw [HE.out]; rfl, grown_refl _ _⟩
        · have HE := hide (HF.out (by simp [okN, h0]))
          have h0' : x < 0 := by omega
          go_wp2
          go_ret
          exact ⟨by rw [HE.out]; rfl, grown_refl _ _⟩
      · have HE : Hid (validS l = true) := by
          unfold Hid
          rw [HV.out]
          have := HA.out
          rw [List.take_of_length_le (by omega)] at this
          exact this
        go_wp2
        go_ret
        exact ⟨by rw [HE.out]; rfl, grown_refl _ _⟩
  · have g5 : 500 < (l.length : Int) := by omega
    have HV : Hid (validS l = false) := by unfold Hid validS; rw [decide_eq_false h5]; rfl
    clear hc
    go_enter Tryd.func60, Tryd.ntmps60
    go_wp2
    go_ret
    exact ⟨by rw [HV.out]; rfl, grown_refl _ _⟩

theorem flatS_len (q : List (Int × Int)) : (flatS q).length = q.length * 2 := by
  induction q with
  | nil => rfl
  | cons x q ih => simp [flatS] at ih ⊢; omega

theorem flat_bump (q : List (Int × Int)) (hq : q ≠ []) (x : Int × Int) (hx : q.getLast? = some x) : (flatS q).set ((q.length - 1) * 2 + 1) (.int .i64 (x.2 + 1)) = flatS (bump q) := by
  induction q with
  | nil => exact absurd rfl hq
  | cons y q ih =>
    cases q with
    | nil =>
      simp at hx; subst hx
      simp [flatS, bump]
    | cons z q =>
      rw [List.getLast?_cons_cons] at hx
      have := ih (by simp) hx
      have e1 : flatS (y :: z :: q) = .int .i64 y.1 :: .int .i64 y.2 :: flatS (z :: q) := rfl
      have e2 : flatS (bump (y :: z :: q)) = .int .i64 y.1 :: .int .i64 y.2 :: flatS (bump (z :: q)) := rfl
      rw [e1, e2, ← this]
      have e3 : ((y :: z :: q).length - 1) * 2 + 1 = (((z :: q).length - 1) * 2 + 1) + 1 + 1 := by simp; omega
      rw [e3, List.set_cons_succ, List.set_cons_succ]
theorem bump_len (q : List (Int × Int)) : (bump q).length = q.length := by
  induction q with
  | nil => rfl
  | cons y q ih =>
    cases q with
    | nil => rfl
    | cons z q => simp [bump] at ih ⊢; exact ih

theorem flat_get (q : List (Int × Int)) (x : Int × Int) (hx : q.getLast? = some x) : (flatS q)[(q.length - 1) * 2 + 1]? = some (.int .i64 x.2) := by
  induction q with
  | nil => simp at hx
  | cons y q ih =>
    cases q with
    | nil => simp at hx; subst hx; simp [flatS]
    | cons z q =>
      rw [List.getLast?_cons_cons] at hx
      have := ih hx
      have e1 : flatS (y :: z :: q) = .int .i64 y.1 :: .int .i64 y.2 :: flatS (z :: q) := rfl
      have e3 : ((y :: z :: q).length - 1) * 2 + 1 = (((z :: q).length - 1) * 2 + 1) + 1 + 1 := by simp; omega
      rw [e1, e3]; exact this

theorem info_run : ((Tryd.prog.info? 161).map fun i => (i.zero, i.size, i.bytes)) = some (some (.agg #[.int .i64 0, .int .i64 0]), 2, 16) := by kernel_rfl

set_option maxRecDepth 100000 in
set_option maxHeartbeats 1000000 in
theorem of_m (l : List Int) (v : Value) (w : World) (hI : IntsAt w.heap.size w v l) (h5 : l.length ≤ 500) :
    Calls Tryd.prog 87 #[v] w fun e w' => ∃ x y z, e = .returned (.slice x y z) ∧ w'.ownsRow w.heap.size 161 2 (.slice x y z) (grp l).length (flatS (grp l)) ∧ w.grownBy w' none := by
  obtain ⟨i0, hi0, hz0, hz1, hz2⟩ := info_parts info_run
  obtain ⟨ao, cap, rfl, hcap, hc⟩ := hI
  have HC := hide hc
  clear hc
  go_enter Tryd.func87, Tryd.ntmps87
  go_wp2_with fail
  go_loopw [3, 8] (fun lv i w' => ∃ k : Nat, k ≤ l.length ∧ i = .int .i64 k ∧ Hid (w'.ownsRow w.heap.size 161 2 lv (grp (l.take k)).length (flatS (grp (l.take k))) ∧ w.grownBy w' none)) (fun _ i _ => l.length - (intOf i).toNat)
  case atStart => exact ⟨0, Nat.zero_le _, rfl, ⟨rfl, Or.inl ⟨rfl, rfl⟩⟩, grown_refl _ _⟩
  case round =>
    obtain ⟨k, hk, rfl, HL⟩ := hrel
    obtain ⟨w5, hw5⟩ : ∃ w5, w5 = wr := ⟨_, rfl⟩
    subst hw5
    obtain ⟨x1, x2, x3, rfl⟩ := owns_form HL.out.1
    by_cases hlt : k < l.length
    · obtain ⟨g, o, rfl, hg, c0⟩ := HC.out k hlt
      have d0 := pres_grown HL.out.2 _ _ c0
      have hk0 : (0 : Int) ≤ (k : Int) := by omega
      have hk1 : (k : Int) < l.length := by omega
      have HT : Hid (l.take (k + 1) = l.take k ++ [l[k]]) := List.take_succ_eq_append_getElem hlt
      have hgl := grp_len (l.take k)
      have hgl2 : (grp (l.take k)).length ≤ 500 := by simp at hgl; omega
      have hglast := grp_last (l.take k)
      have hcount := grp_mem (l.take k)
      -- the bump behind
      have bum : ∀ (w6 : World) (g6 cap6 : Nat) (q : List (Int × Int)) (x : Int × Int), q ≠ [] → q.getLast? = some x → w6.ownsRow w.heap.size 161 2 (.slice (some ⟨g6, 0, none⟩) q.length cap6) q.length (flatS q) → w.grownBy w6 none →
          (w6.setCell ⟨g6, (q.length - 1) * 2 + 1, none⟩ (.int .i64 (x.2 + 1))).ownsRow w.heap.size 161 2 (.slice (some ⟨g6, 0, none⟩) q.length cap6) (bump q).length (flatS (bump q)) ∧ w.grownBy (w6.setCell ⟨g6, (q.length - 1) * 2 + 1, none⟩ (.int .i64 (x.2 + 1))) none ∧
          w6.cell? ⟨g6, (q.length - 1) * 2 + 1, none⟩ = some (.int .i64 x.2) ∧ w6.frozen? ⟨g6, (q.length - 1) * 2 + 1, none⟩ = false := by
        intro w6 g6 cap6 q x hq hx ho hgr
        have hql : 0 < q.length := List.length_pos_iff.2 hq
        refine ⟨?_, ?_, ?_, ?_⟩
        · rw [bump_len, ← flat_bump q hq x hx]; exact owns_setCell ho _ _
        · exact grown_setNew hgr (owns_block ho g6 rfl)
        · rw [ho.cellAt _ (by omega)]; exact flat_get q x hx
        · rcases ho.2 with ⟨e, _⟩ | ⟨g', cap', cur, hv, hb, hh, _⟩
          · cases e
          · simp only [Value.slice.injEq, Option.some.injEq, Addr.mk.injEq, true_and, and_true] at hv
            obtain ⟨rfl, rfl⟩ := hv
            simp [World.frozen?, hh]
      have BUM := hide bum
      clear bum
      have H1 := hide HL.out.1
      have H2 := hide HL.out.2
      have H2s := HL.out.2.size
      have hob := owns_block H1.out
      have h63 : (grp (l.take k)).length + 1 ≤ maxLen := by unfold maxLen; omega
      have newrun : ¬ (l.take k).getLast? = some l[k] → ∀ (w6 : World) (g6 cap6 : Nat), w6.ownsRow w.heap.size 161 2 (.slice (some ⟨g6, 0, none⟩) ((grp (l.take k)).length + 1) cap6) ((grp (l.take k)).length + 1) (flatS (grp (l.take k)) ++ [.int .i64 l[k], .int .i64 0]) → w.grownBy w6 none →
          (w6.setCell ⟨g6, (grp (l.take k)).length * 2 + 1, none⟩ (.int .i64 1)).ownsRow w.heap.size 161 2 (.slice (some ⟨g6, 0, none⟩) ((grp (l.take k)).length + 1) cap6) (grp (l.take (k + 1))).length (flatS (grp (l.take (k + 1)))) ∧ w.grownBy (w6.setCell ⟨g6, (grp (l.take k)).length * 2 + 1, none⟩ (.int .i64 1)) none ∧
          w6.cell? ⟨g6, (grp (l.take k)).length * 2 + 1, none⟩ = some (.int .i64 0) ∧ w6.frozen? ⟨g6, (grp (l.take k)).length * 2 + 1, none⟩ = false := by
        intro hn w6 g6 cap6 ho hgr
        have := BUM.out w6 g6 cap6 (grp (l.take k) ++ [(l[k], 0)]) (l[k], 0) (by simp) (by simp) (by simpa [flatS] using ho) hgr
        have e2 : bump (grp (l.take k) ++ [(l[k], 0)]) = grp (l.take (k + 1)) := by
          rw [HT.out, grp_snoc, if_neg hn]
          have : ∀ q : List (Int × Int), bump (q ++ [(l[k], 0)]) = q ++ [(l[k], 1)] := by
            intro q
            induction q with
            | nil => rfl
            | cons y q ih =>
              cases q with
              | nil => rfl
              | cons z q => rw [List.cons_append, List.cons_append, bump, ← List.cons_append, ih]; rfl
          exact this _
        rw [e2] at this
        simpa using this
      have NEW := hide newrun
      clear newrun
      by_cases hk00 : k = 0
      · have hNL := NEW.out (by subst hk00; simp)
        have HNL := hide hNL
        clear hNL NEW BUM hglast hcount hgl
        have q0 : ((k : Int) == 0) = true := by simp; omega
        clear hk00 c0
        generalize l[k] = x at *
        go_wp2_with (at_builtin; refine wpList_append_lies _ rfl _ _ _ rfl w.heap.size 161 i0 _ 2 16 Tryd.underlying158 hi0 hz0 hz1 hz2 rfl (by omega) (.slice x1 x2 x3) (grp (l.take k)).length (flatS (grp (l.take k))) rfl (owns_alloc H1.out) ⟨w5.heap.size, 0, none⟩ 1 1 [.int .i64 x, .int .i64 0] rfl rfl (World.news_of_block (cs := #[.int .i64 x, .int .i64 0]) (t := 161) (fr := (0, 0)) (heap_alloc_new w5 _)) (by simp [Value.oneCell']) (by omega) h63 (by omega) (by simp; omega) (w5.heap.size + 1) (by simp) ?_; intro g6 cap6 w6 hown6 hgrow hat hlt6; obtain ⟨f1, f2, f3, f4⟩ := HNL.out w6 g6 cap6 hown6 (grown_row (grown_alloc H2.out) hgrow (fun q e => hob q e)); have F1 := hide f1; have F2 := hide f2; clear f1 f2 hown6 hgrow hat)
        go_roundw
        case rel => exact ⟨k + 1, by omega, by go_num, F1.out, F2.out⟩
        case measure => simp [intOf]; omega
      · have q0 : ((k : Int) == 0) = false := by simp; omega
        have hk1' : k - 1 < l.length := by omega
        obtain ⟨g', o', e', _, c1⟩ := HC.out (k - 1) hk1'
        simp only [Option.some.injEq, Addr.mk.injEq, and_true] at e'
        obtain ⟨rfl, rfl⟩ := e'
        have d1 := pres_grown H2.out _ _ c1
        have hlastT : (l.take k).getLast? = some l[k - 1] := by
          rw [List.getLast?_eq_getElem?, List.length_take, Nat.min_eq_left (by omega), List.getElem?_take, if_pos (by omega), List.getElem?_eq_getElem hk1']
        have hkk : (k : Int) - 1 = ((k - 1 : Nat) : Int) := by omega
        have q1 : (0 : Int) ≤ (k : Int) - 1 := by omega
        have q2 : (k : Int) - 1 < l.length := by omega
        have q3 : ((k : Int) - 1).toNat = k - 1 := by omega
        clear c0 c1 hk00
        by_cases hne : l[k] = l[k - 1]
        · have hx : ∃ x, (grp (l.take k)).getLast? = some x := by
            rw [hlastT] at hglast
            cases hg2 : (grp (l.take k)).getLast? with
            | none => rw [hg2] at hglast; cases hglast
            | some x => exact ⟨x, rfl⟩
          obtain ⟨y, hy⟩ := hx
          have hyc := hcount y (List.mem_of_getLast? hy)
          have hne2 : grp (l.take k) ≠ [] := fun e => by rw [e] at hy; cases hy
          have hE : Hid (bump (grp (l.take k)) = grp (l.take (k + 1))) := by
            unfold Hid; rw [HT.out, grp_snoc, if_pos (by rw [hlastT, hne])]
          obtain ⟨m, hm⟩ : ∃ m, (grp (l.take k)).length = m + 1 := ⟨(grp (l.take k)).length - 1, by have := List.length_pos_iff.2 hne2; omega⟩
          obtain ⟨g6, cap6, e6, _, _⟩ := H1.out.form (by omega)
          have h1 := H1.out
          rw [e6] at h1
          obtain ⟨f1, f2, f3, f4⟩ := BUM.out w5 g6 cap6 (grp (l.take k)) y hne2 hy h1 H2.out
          rw [hE.out, hm, Nat.add_sub_cancel] at f1
          rw [hm, Nat.add_sub_cancel] at f2 f3 f4
          rw [hm] at e6
          simp only [Value.slice.injEq] at e6
          obtain ⟨rfl, rfl, rfl⟩ := e6
          have F1 := hide f1
          have F2 := hide f2
          have heq : (l[k] == l[k - 1]) = true := by simpa using hne
          have hyc2 : y.2 ≤ 500 := by simp at hyc; omega
          have hyc1 := hyc.2.1
          have hm500 : m + 1 ≤ 500 := by omega
          have HM := hide hm
          rw [hm] at h63
          clear f1 f2 h1 BUM NEW hglast hcount hgl hgl2 hE hne2 hy hyc hm HL H1 H2 hlastT hob HT hne
          generalize l[k] = x at *
          generalize l[k - 1] = x' at *
          generalize y.2 = n at *
          go_wp2_with fail
          go_roundw
          case rel => exact ⟨k + 1, by omega, by go_num, F1.out, F2.out⟩
          case measure => simp [intOf]; omega
        · have hNL := NEW.out (by rw [hlastT]; simpa using fun e => hne e.symm)
          have HNL := hide hNL
          have heq : (l[k] == l[k - 1]) = false := by simpa using hne
          clear hNL NEW BUM hglast hcount hgl hlastT
          generalize l[k - 1] = x' at *
          generalize l[k] = x at *
          go_wp2_with (at_builtin; refine wpList_append_lies _ rfl _ _ _ rfl w.heap.size 161 i0 _ 2 16 Tryd.underlying158 hi0 hz0 hz1 hz2 rfl (by omega) (.slice x1 x2 x3) (grp (l.take k)).length (flatS (grp (l.take k))) rfl (owns_alloc H1.out) ⟨w5.heap.size, 0, none⟩ 1 1 [.int .i64 x, .int .i64 0] rfl rfl (World.news_of_block (cs := #[.int .i64 x, .int .i64 0]) (t := 161) (fr := (0, 0)) (heap_alloc_new w5 _)) (by simp [Value.oneCell']) (by omega) h63 (by omega) (by simp; omega) (w5.heap.size + 1) (by simp) ?_; intro g6 cap6 w6 hown6 hgrow hat hlt6; obtain ⟨f1, f2, f3, f4⟩ := HNL.out w6 g6 cap6 hown6 (grown_row (grown_alloc H2.out) hgrow (fun q e => hob q e)); have F1 := hide f1; have F2 := hide f2; clear f1 f2 hown6 hgrow hat)
          go_roundw
          case rel => exact ⟨k + 1, by omega, by go_num, F1.out, F2.out⟩
          case measure => simp [intOf]; omega
    · have ek : l.take k = l := List.take_of_length_le (by omega)
      have q2 : (l.length : Int) ≤ (k : Int) := by omega
      have HL2 := HL.out
      rw [ek] at HL2
      have HL3 := hide HL2
      clear HL2 HL
      go_wp2
      go_ret
      exact ⟨_, _, _, rfl, HL3.out.1, HL3.out.2⟩

end Go.Proofs.YtklenjmfalljgaaDoor

/- The walks of instruction and program. -/
namespace Go.Proofs.YtklenjmfalljgaaDoor
open Go.RowKit
attribute [local go_sem] Go.World.cell?_alloc_some

end Go.Proofs.YtklenjmfalljgaaDoor

/- The walk of program. -/
namespace Go.Proofs.YtklenjmfalljgaaDoor
open Go.RowKit
attribute [local go_sem] Go.World.cell?_alloc_some

def insV (i : Ins) : List Value := [.int .i64 i.op, .int .i64 i.a, .int .i64 i.b, .int .i64 i.n]
def insCells (c : List Ins) : List Value := c.flatMap insV
theorem insCells_snoc (c : List Ins) (i : Ins) : insCells (c ++ [i]) = insCells c ++ insV i := by simp [insCells]
theorem insCells_get : ∀ (c : List Ins) (k : Nat) (hk : k < c.length), (insCells c)[k * 4]? = some (.int .i64 c[k].op) ∧ (insCells c)[k * 4 + 1]? = some (.int .i64 c[k].a) ∧ (insCells c)[k * 4 + 2]? = some (.int .i64 c[k].b) ∧ (insCells c)[k * 4 + 3]? = some (.int .i64 c[k].n)
  | [], k, hk => by simp at hk
  | i :: c, 0, hk => by simp [insCells, insV]
  | i :: c, k + 1, hk => by
    have h := insCells_get c k (by simpa using hk)
    have e : insCells (i :: c) = insV i ++ insCells c := by simp [insCells]
    have e4 : ∀ j, (insCells (i :: c))[(k + 1) * 4 + j]? = (insCells c)[k * 4 + j]? := fun j => by
      rw [e, List.getElem?_append_right (by simp [insV]; omega)]
      congr 1
      simp [insV]; omega
    refine ⟨?_, ?_, ?_, ?_⟩
    · have := e4 0; simp only [Nat.add_zero] at this; rw [this]; simpa using h.1
    · rw [e4 1]; simpa using h.2.1
    · rw [e4 2]; simpa using h.2.2.1
    · rw [e4 3]; simpa using h.2.2.2

/-- A thread's code in a row of the call's own. -/
def CodeRow (L B : Nat) (w : World) (v : Value) (c : List Ins) : Prop := w.ownsRow L 28 4 v c.length (insCells c) ∧ ∀ h, v.ownBlock = some h → h < B

theorem CodeRow.codeAt {L B : Nat} {w : World} {v : Value} {c : List Ins} (h : CodeRow L B w v c) : CodeAt w v c := by
  obtain ⟨h1, _⟩ := h
  rcases h1.2 with ⟨e, e0⟩ | ⟨g, cap, cur, hv, _⟩
  · refine ⟨none, 0, by rw [e, e0], fun k hk => by omega⟩
  · refine ⟨some ⟨g, 0, none⟩, cap, hv, fun k hk => ⟨g, 0, rfl, ?_⟩⟩
    rw [hv] at h1
    have q := insCells_get c k hk
    refine ⟨?_, ?_, ?_, ?_⟩
    · rw [Nat.zero_add, h1.cellAt _ (by omega)]; exact q.1
    · rw [Nat.zero_add, h1.cellAt _ (by omega)]; exact q.2.1
    · rw [Nat.zero_add, h1.cellAt _ (by omega)]; exact q.2.2.1
    · rw [Nat.zero_add, h1.cellAt _ (by omega)]; exact q.2.2.2

theorem owns_step {w w' : World} {base : Nat} {e : TypeId} {size : Nat} {v : Value} {n : Nat} {xs : List Value} {r : Option Nat} (h : w.ownsRow base e size v n xs) (hg : w.grownBy w' r) (hr : ∀ k, r = some k → v.ownBlock ≠ some k) : w'.ownsRow base e size v n xs := by
  obtain ⟨h1, h2⟩ := h
  refine ⟨h1, ?_⟩
  rcases h2 with h2 | ⟨g, cap, cur, hv, hb, hh, rest⟩
  · exact Or.inl h2
  · have hlt : g < w.heap.size := (Array.getElem?_eq_some_iff.1 hh).1
    refine Or.inr ⟨g, cap, cur, hv, hb, ?_, rest⟩
    rw [hg.block g hlt (fun e => hr g e.symm (by rw [hv]; rfl))]; exact hh

theorem owns_types {w : World} {b1 b2 e1 e2 z1 z2 : Nat} {v1 v2 : Value} {n1 n2 : Nat} {x1 x2 : List Value} (h1 : w.ownsRow b1 e1 z1 v1 n1 x1) (h2 : w.ownsRow b2 e2 z2 v2 n2 x2) (he : e1 ≠ e2) : ∀ k, v1.ownBlock = some k → v2.ownBlock ≠ some k := by
  intro k hk hk2
  rcases h1.2 with ⟨e, _⟩ | ⟨g, _, c1, hv, _, hh, _⟩
  · rw [e] at hk; cases hk
  · rcases h2.2 with ⟨e, _⟩ | ⟨g', _, c2, hv', _, hh', _⟩
    · rw [e] at hk2; cases hk2
    · rw [hv] at hk
      rw [hv'] at hk2
      have e1 : g = k := by simpa [Value.ownBlock] using hk
      have e2 : g' = k := by simpa [Value.ownBlock] using hk2
      rw [e1] at hh
      rw [e2, hh] at hh'
      simp at hh'
      exact he hh'.2

/-- Rows that share no block. -/
def Apt (rows : List Value) : Prop := ∀ (i j : Nat) (ri rj : Value), i < j → rows[i]? = some ri → rows[j]? = some rj → ∀ g, ri.ownBlock = some g → rj.ownBlock ≠ some g
theorem Apt.nil : Apt [] := fun i j ri rj _ h => by simp at h

/-- The threads so far. -/
def ThrAt (L B : Nat) (w : World) (tv : Value) (p : List (List Ins)) : Prop :=
  ∃ rows, w.ownsRow L 29 1 tv p.length rows ∧ (∀ h, tv.ownBlock = some h → h < B) ∧ (∀ j (hj : j < p.length), (∃ rv, rows[j]? = some rv ∧ CodeRow L B w rv p[j])) ∧ Apt rows

theorem ThrAt.step {L B : Nat} {w w' : World} {tv : Value} {p : List (List Ins)} {r : Option Nat} (h : ThrAt L B w tv p) (hg : w.grownBy w' r) (hr : ∀ q, r = some q → q < L ∨ B ≤ q) : ThrAt L B w' tv p := by
  obtain ⟨rows, h1, h2, h3, h4⟩ := h
  refine ⟨rows, owns_step h1 hg (fun k e e2 => ?_), h2, fun j hj => ?_, h4⟩
  · have := h2 k e2; have := owns_block h1 k e2; rcases hr k e with q | q <;> omega
  · obtain ⟨rv, e1, e2, e3⟩ := h3 j hj
    refine ⟨rv, e1, owns_step e2 hg (fun k e e4 => ?_), e3⟩
    have := e3 k e4; have := owns_block e2 k e4; rcases hr k e with q | q <;> omega
theorem ThrAt.mono {L B B' : Nat} {w : World} {tv : Value} {p : List (List Ins)} (h : ThrAt L B w tv p) (hb : B ≤ B') : ThrAt L B' w tv p := by
  obtain ⟨rows, h1, h2, h3, h4⟩ := h
  refine ⟨rows, h1, fun q e => Nat.lt_of_lt_of_le (h2 q e) hb, fun j hj => ?_, h4⟩
  obtain ⟨rv, e1, e2, e3⟩ := h3 j hj
  exact ⟨rv, e1, e2, fun q e => Nat.lt_of_lt_of_le (e3 q e) hb⟩

theorem ThrAt.progAt {L B : Nat} {w : World} {tv : Value} {p : List (List Ins)} (h : ThrAt L B w tv p) : ProgAt w (.agg #[tv]) p := by
  obtain ⟨rows, h1, h2, h3, _⟩ := h
  rcases h1.2 with ⟨e, e0⟩ | ⟨g, cap, cur, hv, _⟩
  · refine ⟨none, 0, by rw [e, e0], fun k hk => by omega⟩
  · refine ⟨some ⟨g, 0, none⟩, cap, by rw [hv], fun j hj => ⟨g, 0, rfl, ?_⟩⟩
    obtain ⟨rv, e1, e2⟩ := h3 j hj
    rw [hv] at h1
    exact ⟨rv, by rw [Nat.zero_add, h1.cellAt j (by omega)]; exact e1, e2.codeAt⟩

/-- p.Threads = append(p.Threads, l): the worlds behind the append. -/
theorem ThrAt.snoc {L B0 B : Nat} {w w1 w2 : World} {tv tv' lv : Value} {p : List (List Ins)} {c : List Ins} {rows : List Value} (h : ThrAt L B0 w tv p) (hB0 : B0 ≤ B) (hnw : ∀ q, lv.ownBlock = some q → B0 ≤ q) (ho : w.ownsRow L 29 1 tv p.length rows) (hl : CodeRow L B w lv c) (hg1 : w.grownBy w1 none)
    (hg2 : w1.grownBy w2 tv.ownBlock) (ho2 : w2.ownsRow L 29 1 tv' (p.length + 1) (rows ++ [lv])) (hB : B ≤ w2.heap.size) (ht : ∀ q, tv'.ownBlock = some q → q < w2.heap.size) : ThrAt L w2.heap.size w2 tv' (p ++ [c]) := by
  obtain ⟨rows', h1, h2, h3, h4⟩ := h
  have hrows : rows' = rows := by
    rcases h1.2 with ⟨e, e0⟩ | ⟨g, cap, cur, hv, _, hh, _, _, _, ht1⟩
    · have a1 := h1.1; have a2 := ho.1
      rw [e0] at a1 a2
      rw [List.length_eq_zero_iff.1 (by omega : rows'.length = 0), List.length_eq_zero_iff.1 (by omega : rows.length = 0)]
    · rcases ho.2 with ⟨e, e0⟩ | ⟨g', cap', cur', hv', _, hh', _, _, _, ht2⟩
      · rw [e] at hv; cases hv
      · rw [hv] at hv'
        simp at hv'
        obtain ⟨e1, e2⟩ := hv'
        rw [← e1, hh] at hh'
        simp at hh'
        rw [← ht1, ← ht2, hh']
  subst hrows
  have hrow : ∀ {rv : Value} {c : List Ins}, CodeRow L B w rv c → CodeRow L w2.heap.size w2 rv c := fun {rv c} hc => by
    have a1 := owns_step hc.1 hg1 (fun k e => by cases e)
    have a2 := owns_step h1 hg1 (fun k e => by cases e)
    exact ⟨owns_step a1 hg2 (fun k e => owns_types a2 a1 (by decide) k e), fun q e => Nat.lt_of_lt_of_le (hc.2 q e) hB⟩
  have hlr : rows'.length = p.length := by have := h1.1; omega
  refine ⟨rows' ++ [lv], by simpa using ho2, ht, fun j hj => ?_, fun i j ri rj hij hi hj g e e' => ?_⟩
  · by_cases hlt : j < p.length
    · obtain ⟨rv, e1, e2, e3⟩ := h3 j hlt
      exact ⟨rv, by rw [List.getElem?_append_left (by omega)]; exact e1, by rw [List.getElem_append_left hlt]; exact hrow ⟨e2, fun q e => Nat.lt_of_lt_of_le (e3 q e) hB0⟩⟩
    · have ej : j = p.length := by simp at hj; omega
      subst ej
      exact ⟨lv, by rw [List.getElem?_append_right (by omega)]; simp [hlr], by simpa using hrow hl⟩
  · have hjl := (List.getElem?_eq_some_iff.1 hj).1
    simp only [List.length_append, List.length_singleton] at hjl
    rw [List.getElem?_append_left (by omega)] at hi
    by_cases hlt : j < rows'.length
    · rw [List.getElem?_append_left hlt] at hj
      exact h4 i j ri rj hij hi hj g e e'
    · have ej : j = rows'.length := by omega
      subst ej
      rw [List.getElem?_append_right (Nat.le_refl _)] at hj
      simp at hj
      subst hj
      obtain ⟨rv, e1, _, e3⟩ := h3 i (by omega)
      rw [hi] at e1
      cases e1
      have := e3 g e
      have := hnw g e'
      omega

theorem info_ins : ((Tryd.prog.info? 28).map fun i => (i.zero, i.size, i.bytes)) = some (some (.agg #[.int .i64 0, .int .i64 0, .int .i64 0, .int .i64 0]), 4, 32) := by kernel_rfl
theorem info_code : ((Tryd.prog.info? 29).map fun i => (i.zero, i.size, i.bytes)) = some (some (.slice none 0 0), 1, 24) := by kernel_rfl

end Go.Proofs.YtklenjmfalljgaaDoor

/- The walk of program. -/
namespace Go.Proofs.YtklenjmfalljgaaDoor
open Go.RowKit
attribute [local go_sem] Go.World.cell?_alloc_some

def isInt (c : Int) : Prop := -9223372036854775808 ≤ c ∧ c ≤ 9223372036854775807

theorem owns_lt {w : World} {base e size : Nat} {v : Value} {n : Nat} {xs : List Value} (h : w.ownsRow base e size v n xs) : ∀ q, v.ownBlock = some q → q < w.heap.size := fun q eq => by
  rcases h.2 with ⟨e1, _⟩ | ⟨g', _, _, hv, _, hh, _⟩
  · rw [e1] at eq; cases eq
  · rw [hv] at eq
    have := (Array.getElem?_eq_some_iff.1 hh).1
    simp [Value.ownBlock] at eq
    omega

theorem insV_one (i : Ins) : ∀ v ∈ insV i, v.oneCell' = true := by
  intro v hv; simp only [insV, List.mem_cons, List.not_mem_nil, or_false] at hv
  rcases hv with rfl | rfl | rfl | rfl <;> rfl


end Go.Proofs.YtklenjmfalljgaaDoor

/- The walks of the writer's numbers and of the check. -/
namespace Go.Proofs.YtklenjmfalljgaaDoor
open Go.RowKit
attribute [local go_sem] Go.World.cell?_alloc_some

def u8s (l : List Nat) : List Value := l.map fun (x : Nat) => .int .u8 (x : Int)
theorem u8s_len (l : List Nat) : (u8s l).length = l.length := by simp [u8s]
theorem u8s_snoc (l : List Nat) (x : Nat) : u8s (l ++ [x]) = u8s l ++ [.int .u8 (x : Int)] := by simp [u8s]
theorem info_u8 : ((Tryd.prog.info? 5).map fun i => (i.zero, i.size, i.bytes)) = some (some (.int .u8 0), 1, 1) := by kernel_rfl

/-- A row of bytes: the call's own, or the head's as it was laid: full, and marked behind its last cell. -/
def RowM (w : World) (base : Nat) (v : Value) (n : Nat) (xs : List Value) : Prop :=
  w.ownsRow base 5 1 v n xs ∨ ∃ g cur, v = .slice (some ⟨g, 0, none⟩) n n ∧ base ≤ g ∧ w.heap[g]? = some (.cells cur 5 (n, n + 1)) ∧ cur.toList = xs ∧ xs.length = n

section
variable {w w' : World} {base n : Nat} {v : Value} {xs : List Value}
theorem RowM.form (h : RowM w base v n xs) : ∃ ao c, v = .slice ao n c := by
  rcases h with h | ⟨g, cur, rfl, _⟩
  · obtain ⟨x1, x2, x3, rfl⟩ := owns_form h
    exact ⟨x1, x3, by rw [owns_lenq h]⟩
  · exact ⟨_, _, rfl⟩
theorem RowM.block (h : RowM w base v n xs) : ∀ k, v.ownBlock = some k → base ≤ k := by
  rcases h with h | ⟨g, cur, rfl, hb, _⟩
  · exact owns_block h
  · intro k hk; simp only [Value.ownBlock, Option.some.injEq] at hk; omega
theorem RowM.lt (h : RowM w base v n xs) : ∀ k, v.ownBlock = some k → k < w.heap.size := by
  rcases h with h | ⟨g, cur, rfl, _, hg, _⟩
  · exact owns_lt h
  · intro k hk; simp only [Value.ownBlock, Option.some.injEq] at hk; subst hk; exact (Array.getElem?_eq_some_iff.1 hg).1
theorem RowM.keep (h : RowM w base v n xs) (hb : ∀ k, v.ownBlock = some k → w'.heap[k]? = w.heap[k]?) : RowM w' base v n xs := by
  rcases h with h | ⟨g, cur, rfl, hbg, hg, h4⟩
  · refine Or.inl ⟨h.1, ?_⟩
    rcases h.2 with e | ⟨g, cap, cur, rfl, hbg, hg, h4⟩
    · exact Or.inl e
    · exact Or.inr ⟨g, cap, cur, rfl, hbg, by rw [hb g rfl]; exact hg, h4⟩
  · exact Or.inr ⟨g, cur, rfl, hbg, by rw [hb g rfl]; exact hg, h4⟩
theorem RowM.alloc {o : Obj} (h : RowM w base v n xs) : RowM (w.alloc o) base v n xs := h.keep fun k hk => Below.heap_alloc _ _ _ (h.lt k hk)
theorem RowM.len (h : RowM w base v n xs) : xs.length = n := by
  rcases h with h | ⟨g, cur, rfl, hbg, hg, _, h4⟩
  · simpa using h.1
  · exact h4
theorem RowM.cells (h : RowM w base v n xs) {g : Nat} (hg : v.ownBlock = some g) : ∀ j u, xs[j]? = some u → w.cell? ⟨g, j, none⟩ = some u := by
  intro j u hu
  rcases h with h | ⟨g', cur, rfl, _, hg', hc, _⟩
  · have := h.cells hg j u hu
    have hadd : (⟨g, 0, none⟩ : Addr).add j = ⟨g, j, none⟩ := by unfold Addr.add; split <;> simp_all
    rwa [hadd] at this
  · simp only [Value.ownBlock, Option.some.injEq] at hg
    subst hg
    subst hc
    simpa [World.cell?, hg'] using hu
end

/-- append(row, y). -/
theorem wp_append_m {o : Oper} {a : Act} {K : Act → World → Prop} {Q : Exit → Act → World → Prop} (w : World) (s x : Operand)
    (ho : o.op = .call { callee := .builtin .append, args := #[s, x], argTypes := #[105, 105] }) (base : Nat) (v : Value) (n : Nat) (xs : List Value) (hs : a.eval s = v) (hown : RowM w base v n xs)
    (g0 : Nat) (y : Value) (hx : a.eval x = .slice (some ⟨g0, 0, none⟩) 1 1) (hblk : w.heap[g0]? = some (.cells #[y] 5 (0, 0))) (h1 : y.oneCell' = true) (hn : n ≤ 2000000) (hbase : base ≤ w.heap.size) (H : Nat) (hH : w.heap.size = H)
    (h : ∀ g cap w', w'.ownsRow base 5 1 (.slice (some ⟨g, 0, none⟩) (n + 1) cap) (n + 1) (xs ++ [y]) → w.grownBy w' v.ownBlock → (v.ownBlock = some g ∨ g = H) → g < w'.heap.size → K (a.put o.dst (.slice (some ⟨g, 0, none⟩) (n + 1) cap)) w') :
    o.wp Tryd.prog a w K Q := by
  obtain ⟨i0, hi0, hz0, hz1, hz2⟩ := info_parts info_u8
  have h63 : n + 1 ≤ maxLen := by unfold maxLen; omega
  have hnews : ∀ j u, [y][j]? = some u → w.cell? ((⟨g0, 0, none⟩ : Addr).add j) = some u := World.news_of_block (cs := #[y]) hblk
  rcases hown with hown | ⟨g, cur, rfl, hb, hg, hcur, hl⟩
  · exact wp_append_lies w s x _ ho base 5 i0 _ 1 1 Tryd.underlying105 hi0 hz0 hz1 hz2 rfl (by omega) v n xs hs hown ⟨g0, 0, none⟩ 1 1 [y] hx rfl hnews (by simpa using h1) (by omega) h63 (by omega) hbase H hH h
  · have holds : ∀ j u, xs[j]? = some u → w.cell? ((⟨g, 0, none⟩ : Addr).add j) = some u := fun j u hu => by
      have hadd : (⟨g, 0, none⟩ : Addr).add j = ⟨g, j, none⟩ := by unfold Addr.add; split <;> simp_all
      rw [hadd]
      exact RowM.cells (v := .slice (some ⟨g, 0, none⟩) n n) (base := base) (n := n) (Or.inr ⟨g, cur, rfl, hb, hg, hcur, hl⟩) rfl j u hu
    have hr := run_append_grow (P := Tryd.prog) w 105 o.type 5 i0 _ Tryd.underlying105 hi0 hz0 ⟨g, 0, none⟩ n n xs (by rw [hz1]; omega) holds ⟨g0, 0, none⟩ 1 1 [y] (by rw [hz1]; rfl) hnews (by omega) (by omega) (growslice_fits (by omega) (by rw [hz2]; omega))
    have hge := grownCap_ge w (n + 1) n 5
    have hcm : grownCap w (n + 1) n 5 ≤ maxLen := grownCap_le_maxLen w (n + 1) n 5 h63
    have hlen : (xs ++ [y]).length = (n + 1) * 1 := by simp [hl]
    unfold Oper.wp execOp
    simp only [ho, resolve, invoke, builtin, Sem.run_bind, Sem.run_pure, Result.andThen_ok, List.map_toArray, List.map_cons, List.map_nil, hs, hx, hr]
    refine h _ _ _ ⟨hlen, .inr ⟨w.heap.size, _, _, rfl, hbase, heap_alloc_new w.drew _, hge, hcm, ?_, ?_⟩⟩ ⟨rfl, rfl, rfl, by simp, fun k hk _ => Below.heap_alloc w.drew _ _ hk⟩ (Or.inr hH) (by simp)
    · have hz1 : (Value.int IntKind.u8 0).cells.size = 1 := rfl
      simp only [Array.size_append, List.size_toArray, size_zeroCells, hz1, hl, List.length_singleton]
      omega
    · simp only [Array.toList_append, List.append_assoc]
      rw [← List.append_assoc, ← hlen]
      exact List.take_left

theorem wpList_append_m {ops : Array Oper} {rest : List Oper} {o : Oper} {a : Act} {Q : Exit → Act → World → Prop} (w : World) (hgd : o.guard = none) (s x : Operand)
    (ho : o.op = .call { callee := .builtin .append, args := #[s, x], argTypes := #[105, 105] }) (base : Nat) (v : Value) (n : Nat) (xs : List Value) (hs : a.eval s = v) (hown : RowM w base v n xs)
    (g0 : Nat) (y : Value) (hx : a.eval x = .slice (some ⟨g0, 0, none⟩) 1 1) (hblk : w.heap[g0]? = some (.cells #[y] 5 (0, 0))) (h1 : y.oneCell' = true) (hn : n ≤ 2000000) (hbase : base ≤ w.heap.size) (H : Nat) (hH : w.heap.size = H)
    (h : ∀ g cap w', w'.ownsRow base 5 1 (.slice (some ⟨g, 0, none⟩) (n + 1) cap) (n + 1) (xs ++ [y]) → w.grownBy w' v.ownBlock → (v.ownBlock = some g ∨ g = H) → g < w'.heap.size → wpList Tryd.prog ops Q rest (a.put o.dst (.slice (some ⟨g, 0, none⟩) (n + 1) cap)) w') :
    wpList Tryd.prog ops Q (o :: rest) a w :=
  wpList_plain hgd fun _ hK => wp_append_m w s x ho base v n xs hs hown g0 y hx hblk h1 hn hbase H hH fun g cap w' h2 h3 h4 h5 => hK _ _ (h g cap w' h2 h3 h4 h5)

/-- The string of some bytes. -/
def bs (l : List Nat) : ByteArray := strOfNums (l.map fun (x : Nat) => (x : Int))
theorem bs_size (l : List Nat) : (bs l).size = l.length := by unfold bs; rw [strOfNums_size]; simp
theorem byt_bs {l : List Nat} (h : ∀ x ∈ l, x < 256) : byt (bs l) = l := by
  unfold byt bs
  rw [strOfNums_data, List.map_map, List.map_map]
  conv => rhs; rw [← List.map_id l]
  refine List.map_congr_left fun x hx => ?_
  have := h x hx
  simp
  omega
/-- string(row). -/
theorem RowM.str {w : World} {base n : Nat} {v : Value} {l : List Nat} (h : RowM w base v n (u8s l)) : (convert 105 9 v).run Tryd.prog w = .ok (.string (bs l)) w := by
  have hl := h.len
  rw [u8s_len] at hl
  subst hl
  have hcell : ∀ g, v.ownBlock = some g → ∀ i, i < l.length → w.cell? ⟨g, 0 + i, none⟩ = some (.int .u8 ((l.map fun (x : Nat) => (x : Int)).getD i 0)) := fun g hg i hi => by
    have := h.cells hg i (.int .u8 (l[i] : Nat)) (by simp [u8s, hi])
    rw [Nat.zero_add, this]
    simp [List.getD, hi]
  rcases h with h | ⟨g, cur, rfl, _⟩
  · rcases h.2 with ⟨rfl, e⟩ | ⟨g, cap, cur, rfl, _⟩
    · have : l = [] := List.eq_nil_of_length_eq_zero e
      subst this
      exact run_convert_bytes_nil w _ _ Tryd.underlying105 Tryd.underlying5 0 0 _ Tryd.underlying9
    · exact run_convert_bytes_arg w _ _ Tryd.underlying105 Tryd.underlying5 g 0 l.length cap _ (by simp) (hcell g rfl) _ Tryd.underlying9
  · exact run_convert_bytes_arg w _ _ Tryd.underlying105 Tryd.underlying5 g 0 l.length _ _ (by simp) (hcell g rfl) _ Tryd.underlying9

/-- The writer lies at b and has written l. -/
structure WrS (W : World) (w : World) (b : Nat) (bv : Value) (l : List Nat) : Prop where
  blk : w.heap[b]? = some (.cells #[bv] 144 (0, 0))
  row : RowM w W.heap.size bv l.length (u8s l)
  ne : bv.ownBlock ≠ some b
  lo : W.heap.size ≤ b
  base : W.grownBy w none

theorem WrS.cell {W w : World} {b : Nat} {bv : Value} {l : List Nat} (h : WrS W w b bv l) : w.cell? ⟨b, 0, none⟩ = some bv := by have := h.blk; simp [World.cell?, this]
theorem WrS.free {W w : World} {b : Nat} {bv : Value} {l : List Nat} (h : WrS W w b bv l) : w.frozen? ⟨b, 0, none⟩ = false := by have := h.blk; simp [World.frozen?, this]
theorem WrS.lt {W w : World} {b : Nat} {bv : Value} {l : List Nat} (h : WrS W w b bv l) : b < w.heap.size := (Array.getElem?_eq_some_iff.1 h.blk).1
theorem WrS.grown {W w w' : World} {b : Nat} {bv : Value} {l : List Nat} (h : WrS W w b bv l) (hg : w.grownBy w' none) : WrS W w' b bv l :=
  ⟨by rw [hg.block b h.lt (by simp)]; exact h.blk, h.row.keep (fun k hk => hg.block k (h.row.lt k hk) (by simp)), h.ne, h.lo, grown_trans h.base hg⟩

/-- From w0 to w nothing was turned but the writer at b and the row that it had. -/
structure WrT (w0 w : World) (b : Nat) (bv0 bv : Value) : Prop where
  keep : ∀ k, k < w0.heap.size → k ≠ b → bv0.ownBlock ≠ some k → w.heap[k]? = w0.heap[k]?
  own : ∀ g, bv.ownBlock = some g → bv0.ownBlock = some g ∨ w0.heap.size ≤ g
  size : w0.heap.size ≤ w.heap.size
theorem WrT.refl (w : World) (b : Nat) (bv : Value) : WrT w w b bv bv := ⟨fun _ _ _ _ => rfl, fun _ h => Or.inl h, Nat.le_refl _⟩
theorem WrT.trans {w0 w1 w2 : World} {b : Nat} {v0 v1 v2 : Value} (h : WrT w0 w1 b v0 v1) (h' : WrT w1 w2 b v1 v2) : WrT w0 w2 b v0 v2 := by
  refine ⟨fun k hk hb ho => ?_, fun g hg => ?_, Nat.le_trans h.size h'.size⟩
  · rw [h'.keep k (Nat.lt_of_lt_of_le hk h.size) hb (fun e => by rcases h.own k e with e2 | e2; exact ho e2; omega)]
    exact h.keep k hk hb ho
  · rcases h'.own g hg with e | e
    · exact h.own g e
    · exact Or.inr (Nat.le_trans h.size e)
theorem WrT.grown {w0 w1 w2 : World} {b : Nat} {v0 v1 : Value} (h : WrT w0 w1 b v0 v1) (hg : w1.grownBy w2 none) : WrT w0 w2 b v0 v1 :=
  ⟨fun k hk hb ho => by rw [hg.block k (Nat.lt_of_lt_of_le hk h.size) (by simp)]; exact h.keep k hk hb ho, h.own, Nat.le_trans h.size hg.size⟩

/-- w.bytes = append(w.bytes, x). -/
theorem WrS.push {W w w6 : World} {b : Nat} {bv : Value} {l : List Nat} {o : Obj} {g6 c6 x : Nat} (h : WrS W w b bv l) (hown : w6.ownsRow W.heap.size 5 1 (.slice (some ⟨g6, 0, none⟩) (l.length + 1) c6) (l.length + 1) (u8s l ++ [.int .u8 x]))
    (hg : (w.alloc o).grownBy w6 bv.ownBlock) (hat : bv.ownBlock = some g6 ∨ g6 = w.heap.size + 1) : WrS W (w6.setCell ⟨b, 0, none⟩ (.slice (some ⟨g6, 0, none⟩) (l.length + 1) c6)) b (.slice (some ⟨g6, 0, none⟩) (l.length + 1) c6) (l ++ [x]) ∧
    w6.cell? ⟨b, 0, none⟩ = some bv ∧ w6.frozen? ⟨b, 0, none⟩ = false ∧ WrT w (w6.setCell ⟨b, 0, none⟩ (.slice (some ⟨g6, 0, none⟩) (l.length + 1) c6)) b bv (.slice (some ⟨g6, 0, none⟩) (l.length + 1) c6) := by
  have hb := h.lt
  have hblk : w6.heap[b]? = some (.cells #[bv] 144 (0, 0)) := by
    rw [hg.block b (by simp; omega) (fun e => h.ne e.symm), Below.heap_alloc _ _ _ hb]; exact h.blk
  have hg6 : g6 ≠ b := by
    rcases hat with e | e
    · intro e2; exact h.ne (by rw [e, e2])
    · omega
  refine ⟨⟨?_, ?_, by simpa [Value.ownBlock] using hg6, h.lo, ?_⟩, by simp [World.cell?, hblk], by simp [World.frozen?, hblk], fun k hk hb' ho => ?_, fun g hg' => ?_, ?_⟩
  · rw [heap_setCell_same _ b 0 _ _ _ hblk]; rfl
  · refine Or.inl (ownsRow_setCell_other ?_ (by simpa [Value.ownBlock] using hg6) _)
    rw [u8s_snoc]
    simpa using hown
  · exact grown_setNew (grown_row (grown_alloc h.base) hg h.row.block) h.lo
  · rw [heap_setCell_other _ _ _ _ hb', hg.block k (by simp; omega) (fun e => ho e.symm), Below.heap_alloc _ _ _ hk]
  · simp only [Value.ownBlock, Option.some.injEq] at hg'
    rcases hat with e | e
    · exact Or.inl (by rw [e, hg'])
    · exact Or.inr (by omega)
  · have := hg.size
    simp at this ⊢
    omega

theorem or128 (x : Nat) (h : x < 256) : x ||| 128 = x % 128 + 128 := by
  have : ∀ x : _root_.Fin 256, x.val ||| 128 = x.val % 128 + 128 := by decide +kernel
  exact this ⟨x, h⟩
theorem numB_len (n : Nat) : ∀ k, n < 128 ^ (k + 1) → (numB n).length ≤ k + 1 := by
  induction n using Nat.strongRecOn with
  | ind n ih =>
    intro k hk
    by_cases h : n < 128
    · rw [numB_small h]; simp
    · rw [numB_big h]
      cases k with
      | zero => simp at hk; omega
      | succ k =>
        have := ih (n / 128) (by omega) k (by rw [Nat.div_lt_iff_lt_mul (by decide)]; rwa [Nat.pow_succ] at hk)
        simp; omega
theorem numB_ten {n : Nat} (h : n < 18446744073709551616) : (numB n).length ≤ 10 := by
  have h1 : (128 : Nat) ^ (9 + 1) = 1180591620717411303424 := by decide
  exact numB_len n 9 (by rw [h1]; omega)
set_option maxRecDepth 100000 in
set_option maxHeartbeats 1000000 in
theorem number_m (W : World) (b : Nat) (n : Nat) (hn : n < 18446744073709551616) : ∀ (w : World) (bv : Value) (l : List Nat), WrS W w b bv l → l.length ≤ 1000000 →
    Calls Tryd.prog 158 #[pt b, .int .u64 n] w fun e w' => (∃ v, e = .returned v) ∧ ∃ bv', WrS W w' b bv' (l ++ numB n) ∧ WrT w w' b bv bv' := by
  intro w bv l h hl
  have HH := hide h
  have hpt : pt b = .pointer (some ⟨b, 0, none⟩) := rfl
  rw [hpt]
  clear h hpt
  go_enter Tryd.func158, Tryd.ntmps158
  go_wp2_with fail
  go_loopw [1] (fun i w' => ∃ (m : Nat) (bv' : Value) (l' : List Nat), i = .int .u64 m ∧ m < 18446744073709551616 ∧ Hid (WrS W w' b bv' l') ∧ Hid (WrT w w' b bv bv') ∧ Hid (l' ++ numB m = l ++ numB n)) (fun i _ => (intOf i).toNat)
  case atStart => exact ⟨n, bv, l, rfl, hn, HH, hide (WrT.refl _ _ _), hide rfl⟩
  case round =>
    obtain ⟨m, bv', l', rfl, hm, HW, HT, HE⟩ := hrel
    obtain ⟨w5, hw5⟩ : ∃ w5, w5 = wr := ⟨_, rfl⟩
    rw [← hw5] at HW HT ⊢
    clear hw5
    obtain ⟨x1, x3, rfl⟩ := HW.out.row.form
    have c0 := HW.out.cell
    have hbs : W.heap.size ≤ w5.heap.size := HW.out.base.size
    have hob := HW.out.row.block
    have hl' : l'.length ≤ 1000100 := by
      have h1 := congrArg List.length HE.out
      have := numB_ten hn
      simp at h1
      omega
    by_cases h128 : 127 < m
    · have q1 : (127 : Int) < (m : Int) := by omega
      have hor : bits .or .u8 ((m : Int) % 256) 128 = ((m % 128 + 128 : Nat) : Int) := by
        have h1 : ((m : Int) % 256) = ((m % 256 : Nat) : Int) := by omega
        have h2 := u8_or_nat (m % 256) 128 (by omega) (by omega)
        rw [h1]
        rw [or128 _ (by omega)] at h2
        have h3 : (((128 : Nat) : Int)) = 128 := rfl
        rw [h3] at h2
        rw [h2]
        congr 1
        omega
      have HNB : Hid ((l' ++ [m % 128 + 128]) ++ numB (m / 128) = l ++ numB n) := by
        have e : numB m = (m % 128 + 128) :: numB (m / 128) := numB_big (by omega)
        unfold Hid; rw [← HE.out, e]; simp
      generalize m % 128 + 128 = x at *
      go_upto_region 2 with (at_builtin; refine wpList_append_m _ rfl _ _ rfl W.heap.size (.slice x1 l'.length x3) l'.length (u8s l') rfl HW.out.row.alloc w5.heap.size (.int .u8 (x : Int)) rfl (heap_alloc_new w5 _) rfl (by omega) (by simp; omega) (w5.heap.size + 1) (by simp) ?_; intro g6 cap6 w6 hown6 hgrow6 hat6 hlt6; obtain ⟨p1, p2, p3, p4⟩ := HW.out.push hown6 hgrow6 hat6; have P1 := hide p1; have P4 := hide (HT.out.trans p4); clear p1 p4 hown6 hgrow6 hat6 hlt6)
      have q3 : m / 128 < m := by omega
      go_wp2_with fail
      go_roundw
      case rel => exact ⟨m / 128, _, l' ++ [x], by first | rfl | (congr 1; omega) | go_num, by omega, P1, P4, HNB⟩
      case measure => simp [intOf]; omega
    · have q1 : ¬ (127 : Int) < (m : Int) := by omega
      have hmod : (m : Int) % 256 = m := by omega
      have HNB : Hid (l' ++ [m] = l ++ numB n) := by unfold Hid; rw [← HE.out, numB_small (by omega)]
      go_wp2_with (at_builtin; refine wpList_append_m _ rfl _ _ rfl W.heap.size (.slice x1 l'.length x3) l'.length (u8s l') rfl HW.out.row.alloc w5.heap.size (.int .u8 (m : Int)) rfl (heap_alloc_new w5 _) rfl (by omega) (by simp; omega) (w5.heap.size + 1) (by simp) ?_; intro g6 cap6 w6 hown6 hgrow6 hat6 hlt6; obtain ⟨p1, p2, p3, p4⟩ := HW.out.push hown6 hgrow6 hat6; have P1 := hide p1; have P4 := hide (HT.out.trans p4); clear p1 p4 hown6 hgrow6 hat6 hlt6)
      go_end0
      exact ⟨⟨_, rfl⟩, _, by rw [← HNB.out]; exact P1.out, P4.out⟩

/-- A writer's method that writes so many more. -/
def Wrote (W w : World) (b : Nat) (bv : Value) (l : List Nat) (e : Ending) (w' : World) : Prop := (∃ v, e = .returned v) ∧ ∃ bv', WrS W w' b bv' l ∧ WrT w w' b bv bv'

set_option maxRecDepth 100000 in
set_option maxHeartbeats 400000 in
theorem whole_w (W : World) (b : Nat) (n : Int) (h0 : 0 ≤ n) (h1 : n ≤ 9223372036854775807) (w : World) (bv : Value) (l : List Nat) (h : WrS W w b bv l) (hl : l.length ≤ 1000000) :
    Calls Tryd.prog 111 #[pt b, .int .i64 n] w (Wrote W w b bv (l ++ wInt n)) := by
  obtain ⟨m, rfl⟩ := Int.eq_ofNat_of_zero_le h0
  have HN := hide (number_m W b m (by omega) w bv l h hl)
  have hpt : pt b = .pointer (some ⟨b, 0, none⟩) := rfl
  rw [hpt] at *
  clear h
  go_enter Tryd.func111, Tryd.ntmps111
  go_wp2_with (go_at_call 158; refine HN.out.mono ?_; rintro e w1 ⟨⟨v, rfl⟩, hw⟩)
  go_end0
  refine ⟨⟨_, rfl⟩, ?_⟩
  unfold wInt
  rw [Int.toNat_natCast]; exact hw

theorem not_bits (n x : Nat) (h : x < 2 ^ n) : (2 ^ n - 1) ^^^ x = 2 ^ n - 1 - x := by
  have e : 2 ^ n - 1 - x = 2 ^ n - (x + 1) := by omega
  apply Nat.eq_of_testBit_eq
  intro i
  rw [Nat.testBit_xor, Nat.testBit_two_pow_sub_one, e, Nat.testBit_two_pow_sub_succ h]
  by_cases hi : i < n
  · simp [hi]
  · have : x.testBit i = false := Nat.testBit_lt_two_pow (Nat.lt_of_lt_of_le h (Nat.pow_le_pow_right (by decide) (by omega)))
    simp [hi, this]
theorem turn64 (n : Int) (h0 : -9223372036854775808 ≤ n) (h1 : n < 0) : bits .xor .u64 IntKind.u64.max (IntKind.u64.wrap (IntKind.u64.wrap n * 2)) = -2 * n - 1 := by
  have e1 : IntKind.u64.wrap n = n + 18446744073709551616 := by
    simp only [IntKind.wrap, IntKind.signed, IntKind.bits]
    simp
    omega
  have e2 : IntKind.u64.wrap ((n + 18446744073709551616) * 2) = 2 * n + 18446744073709551616 := by
    simp only [IntKind.wrap, IntKind.signed, IntKind.bits]
    simp
    omega
  rw [e1, e2]
  obtain ⟨x, hx⟩ := Int.eq_ofNat_of_zero_le (show 0 ≤ 2 * n + 18446744073709551616 by omega)
  have hm : IntKind.u64.max = ((18446744073709551615 : Nat) : Int) := rfl
  rw [hx, hm, bits_xor_u64_nat _ _ (by decide) (by omega)]
  have := not_bits 64 x (by omega)
  have e3 : (2 : Nat) ^ 64 - 1 = 18446744073709551615 := by decide
  rw [e3] at this
  rw [this]
  omega

set_option maxRecDepth 100000 in
set_option maxHeartbeats 400000 in
theorem signed_w (W : World) (b : Nat) (n : Int) (h0 : -9223372036854775808 ≤ n) (h1 : n ≤ 9223372036854775807) (w : World) (bv : Value) (l : List Nat) (h : WrS W w b bv l) (hl : l.length ≤ 1000000) :
    Calls Tryd.prog 112 #[pt b, .int .i64 n] w (Wrote W w b bv (l ++ numB (zig n))) := by
  have hz : zig n < 18446744073709551616 := by unfold zig; split <;> omega
  have HN := hide (number_m W b (zig n) hz w bv l h hl)
  have hpt : pt b = .pointer (some ⟨b, 0, none⟩) := rfl
  rw [hpt] at *
  clear h
  by_cases hneg : n < 0
  · have HZ : Hid (((zig n : Nat) : Int) = -2 * n - 1) := by unfold Hid zig; rw [if_pos hneg]; omega
    go_enter Tryd.func112, Tryd.ntmps112
    go_wp2_with fail
    rw [turn64 n h0 hneg, ← HZ.out]
    refine HN.out.mono ?_
    rintro e w1 ⟨⟨v, rfl⟩, hw⟩
    go_wp2_with fail
    go_end0
    exact ⟨⟨_, rfl⟩, hw⟩
  · have HZ : Hid (((zig n : Nat) : Int) = 2 * n) := by unfold Hid zig; rw [if_neg hneg]; omega
    go_enter Tryd.func112, Tryd.ntmps112
    go_wp2_with fail
    have e2 : n * 2 = ((zig n : Nat) : Int) := by rw [HZ.out]; omega
    rw [e2]
    refine HN.out.mono ?_
    rintro e w1 ⟨⟨v, rfl⟩, hw⟩
    clear e2
    go_wp2_with fail
    go_end0
    exact ⟨⟨_, rfl⟩, hw⟩

theorem byt_cons (s : ByteArray) (k : Nat) (h : k < s.size) : (byt s).drop k = s[k].toNat :: (byt s).drop (k + 1) := by
  have hl : k < (byt s).length := by rw [byt_len]; exact h
  rw [List.drop_eq_getElem_cons hl]
  congr 1
  have := byt_get s k h
  rw [List.getElem?_eq_getElem hl] at this
  exact Option.some.inj this

end Go.Proofs.YtklenjmfalljgaaDoor

/- The walks of the reference's numbers in bytes, and of its check. -/
namespace Go.Proofs.YtklenjmfalljgaaDoor
open Go.RowKit
attribute [local go_sem] Go.World.cell?_alloc_some

section
variable {P : Program} {ops : Array Oper} {Q : Exit → Act → World → Prop} {S : World → Prop} {n : Nat}
/-- Two come up: each may be first. -/
theorem wpHead_pair {i j : Nat} {oi oj : Oper} {f : Nat} {listed : Array Bool} {a : Act} {w : World} (hi : ops[i]? = some oi) (hj : ops[j]? = some oj)
    (hr : Region.ready .any ops listed = [i, j]) (hin : (decide (i < n) && decide (j < n)) = true) (hwi : Region.wanted oi (yielded ops a.tmps) = true) (hwj : Region.wanted oj (yielded ops a.tmps) = true)
    (h1 : ∀ K : Act → World → Prop, (∀ a' w', S w' → (HeadInv .any ops n (listed.setIfInBounds i true) → wpHead P ops Q S n f (listed.setIfInBounds i true) a' w') → K a' w') → oi.wp P a w K Q)
    (h2 : ∀ K : Act → World → Prop, (∀ a' w', S w' → (HeadInv .any ops n (listed.setIfInBounds j true) → wpHead P ops Q S n f (listed.setIfInBounds j true) a' w') → K a' w') → oj.wp P a w K Q) :
    HeadInv .any ops n listed → wpHead P ops Q S n (f + 1) listed a w := by
  intro inv
  simp only [Bool.and_eq_true, decide_eq_true_eq] at hin
  refine ⟨fun h => (by rw [hr] at h; cases h), fun k hk => ?_⟩
  rw [hr] at hk
  simp only [List.mem_cons, List.not_mem_nil, or_false] at hk
  rcases hk with rfl | rfl
  · refine ⟨hin.1, ?_⟩
    unfold wpOp
    simp only [hi, hwi, if_true]
    exact Or.inl (h1 _ (fun a' w' hS hh => ⟨hS, hh (inv.set (by rw [hr]; simp) hin.1)⟩))
  · refine ⟨hin.2, ?_⟩
    unfold wpOp
    simp only [hj, hwj, if_true]
    exact Or.inl (h2 _ (fun a' w' hS hh => ⟨hS, hh (inv.set (by rw [hr]; simp) hin.2)⟩))
end

/-- A byte that lies in a block, as a string. -/
theorem one_str {w : World} {g : Nat} {x : Nat} (h : w.cell? ⟨g, 0, none⟩ = some (.int .u8 (x : Int))) : (convert 105 9 (.slice (some ⟨g, 0, none⟩) 1 1)).run Tryd.prog w = .ok (.string (bs [x])) w :=
  run_convert_bytes_arg w _ _ Tryd.underlying105 Tryd.underlying5 g 0 1 1 _ (by simp) (fun i hi => by
    have hi' : i = 0 := by simp at hi; omega
    subst hi'
    rw [Nat.add_zero, h]; simp) _ Tryd.underlying9
theorem grown_offDrew' {w w' : World} (h : w.drew.grownBy w' none) : w.grownBy w' none := ⟨h.os, h.tape, h.output, h.size, h.block⟩
theorem one_at (w : World) (x : Nat) : (match (w.alloc (.cells #[.int .u8 (x : Int)] 5)).heap[w.heap.size]? with | some (.cells cs _ _) => cs[0]? | _ => none) = some (.int .u8 (x : Int)) := by rw [heap_alloc_new]; rfl
theorem bs_app (l m : List Nat) : bs l ++ bs m = bs (l ++ m) := by
  apply ByteArray.ext
  apply Array.ext'
  simp [bs, strOfNums_data]
theorem cat_bs (l m : List Nat) (h : l.length + m.length ≤ 9223372036854775807) : Op.stringOp .add (bs l) (bs m) = pure (.string (bs (l ++ m))) := by
  unfold Op.stringOp
  have := bs_size l
  have := bs_size m
  rw [if_neg (by simp only [IntKind.max, IntKind.signed, IntKind.bits]; simp; omega), bs_app]

set_option maxRecDepth 100000 in
set_option maxHeartbeats 2000000 in
theorem refnumber_m (n : Nat) : ∀ (w : World), n < 18446744073709551616 → Calls Tryd.prog 50 #[.int .u64 n] w fun e w' => e = .returned (.string (bs (numB n))) ∧ w.grownBy w' none := by
  induction n using Nat.strongRecOn with
  | ind n ih =>
    intro w hn
    have HIH := hide ih
    clear ih
    go_enter Tryd.func50, Tryd.ntmps50
    by_cases h : n < 128
    · have q1 : (n : Int) < 128 := by omega
      have hmod : (n : Int) % 256 = n := by omega
      have hcv : (convert 105 9 (.slice (some ⟨w.heap.size, 0, none⟩) 1 1)).run Tryd.prog (w.alloc (.cells #[.int .u8 (n : Int)] 5)) = .ok (.string (bs [n])) (w.alloc (.cells #[.int .u8 (n : Int)] 5)) := one_str (by simp only [World.cell?, heap_alloc_new]; rfl)
      have HNB : Hid (numB n = [n]) := numB_small h
      go_wp2_with fail
      go_ret
      exact ⟨by rw [HNB.out]; rfl, grown_alloc (grown_refl _ _)⟩
    · have q1 : ¬ (n : Int) < 128 := by omega
      have HNB : Hid (numB n = (n % 128 + 128) :: numB (n / 128)) := numB_big h
      have HC := hide (fun w' => HIH.out (n / 128) (by omega) w' (by omega))
      go_wp2_with fail
      refine wp_region_head (fun _ => True) 10 (by kernel_rfl) (by kernel_rfl) trivial ?_
      intro hHeld
      refine wpHead_take (i := 0) (v := ?vv0) rfl (by kernel_rfl) (fun _ _ _ h => h) (Or.inl ⟨by kernel_rfl, ?hy0⟩) trivial ?rest0
      case hy0 => (intro u hu; go_simp; try with_reducible rfl)
      simp only [Act.put, List.setIfInBounds_toArray]
      refine wpHead_take (i := 1) (v := ?vv1) rfl (by kernel_rfl) (fun _ _ _ h => h) (Or.inl ⟨by kernel_rfl, ?hy1⟩) trivial ?rest1
      case hy1 => (intro u hu; go_simp; try with_reducible rfl)
      simp only [Act.put]
      refine wpHead_take (i := 2) (v := ?vv2) rfl (by kernel_rfl) (fun _ _ _ h => h) (Or.inl ⟨by kernel_rfl, ?hy2⟩) trivial ?rest2
      case hy2 => (intro u hu; go_simp; try with_reducible rfl)
      simp only [Act.put]
      refine wpHead_take (i := 3) (v := ?vv3) rfl (by kernel_rfl) (fun _ _ _ h => h) (Or.inl ⟨by kernel_rfl, ?hy3⟩) trivial ?rest3
      case hy3 => (intro u hu; go_simp; try with_reducible rfl)
      simp only [Act.put]
      refine wpHead_take (i := 6) (v := ?vv6) rfl (by kernel_rfl) (fun _ _ _ h => h) (Or.inl ⟨by kernel_rfl, ?hy6⟩) trivial ?rest6
      case hy6 => (intro u hu; go_simp; try with_reducible rfl)
      simp only [Act.put]
      refine wpHead_take (i := 7) (v := ?vv7) rfl (by kernel_rfl) (fun _ _ _ h => h) (Or.inl ⟨by kernel_rfl, ?hy7⟩) trivial ?rest7
      case hy7 => (intro u hu; go_simp; try with_reducible rfl)
      simp only [Act.put]
      have e1 : IntKind.u8.wrap (IntKind.u64.wrap (128 + (n : Int).tmod 128)) = ((n % 128 + 128 : Nat) : Int) := by
        have h1 : (n : Int).tmod 128 = ((n % 128 : Nat) : Int) := by rw [Int.tmod_eq_emod_of_nonneg (by omega)]; omega
        rw [h1]
        simp only [IntKind.wrap, IntKind.signed, IntKind.bits]
        simp
        omega
      have e2 : IntKind.u64.wrap ((n : Int) / 128) = ((n / 128 : Nat) : Int) := by
        simp only [IntKind.wrap, IntKind.signed, IntKind.bits]
        simp
        omega
      simp only [e1, e2]
      have hx : n % 128 + 128 < 256 := by omega
      have HLN : Hid ((numB (n / 128)).length ≤ 10) := numB_ten (by omega)
      clear e1 e2
      generalize hxx : n % 128 + 128 = x at *
      have hcat := cat_bs [x] (numB (n / 128)) (by have := HLN.out; simp; omega)
      refine wpHead_pair (i := 4) (j := 8) rfl rfl (by kernel_rfl) (by kernel_rfl) (by kernel_rfl) (by kernel_rfl) ?_ ?_
      · intro K4 hK4
        have HK4 := hide hK4
        clear hK4
        go_simp
        refine HK4.out _ _ trivial ?_
        clear HK4
        try simp only [Act.put, List.setIfInBounds_toArray]
        have hcv : (convert 105 9 (.slice (some ⟨w.heap.size, 0, none⟩) 1 1)).run Tryd.prog (w.alloc (.cells #[.int .u8 (x : Int)] 5)).drew = .ok (.string (bs [x])) (w.alloc (.cells #[.int .u8 (x : Int)] 5)).drew := one_str (by simp only [World.cell?]; exact one_at w x)
        refine wpHead_pair (i := 5) (j := 8) rfl rfl (by kernel_rfl) (by kernel_rfl) (by kernel_rfl) (by kernel_rfl) ?_ ?_
        · intro K5 hK5
          have HK5 := hide hK5
          clear hK5
          go_simp
          refine HK5.out _ _ trivial ?_
          clear HK5 hcv
          try simp only [Act.put, List.setIfInBounds_toArray]
          refine wpHead_alone (i := 8) rfl (by kernel_rfl) (by kernel_rfl) (by kernel_rfl) ?_
          intro K8 hK8
          have HK8 := hide hK8
          clear hK8
          go_simp
          refine (HC.out _).mono ?_
          rintro e w2 ⟨rfl, hg2⟩
          have HG2 : Hid (w.grownBy w2 none) := grown_trans (grown_alloc (grown_refl _ _)) (grown_offDrew' hg2)
          refine HK8.out _ _ trivial ?_
          clear HK8 hg2
          try simp only [Act.put, List.setIfInBounds_toArray]
          refine wpHead_take (i := 9) (v := ?vv9a) rfl (by kernel_rfl) (fun _ _ _ h => h) (Or.inl ⟨by kernel_rfl, ?hy9a⟩) trivial ?rest9a
          case hy9a => (intro u hu; go_simp; try with_reducible rfl)
          simp only [Act.put, List.setIfInBounds_toArray]
          refine wpHead_last rfl (by kernel_rfl) (by kernel_rfl) (by kernel_rfl) ?_
          go_simp
          go_wp2_with fail
          go_ret
          exact ⟨by rw [HNB.out]; rfl, HG2.out⟩
        · intro K8 hK8
          have HK8 := hide hK8
          clear hK8
          go_simp
          refine (HC.out _).mono ?_
          rintro e w2 ⟨rfl, hg2⟩
          have HG2 : Hid (w.grownBy w2 none) := grown_trans (grown_alloc (grown_refl _ _)) (grown_offDrew' hg2)
          have hcv : (convert 105 9 (.slice (some ⟨w.heap.size, 0, none⟩) 1 1)).run Tryd.prog w2 = .ok (.string (bs [x])) w2 := one_str (pres_grown (grown_offDrew' hg2) _ _ (by simp only [World.cell?]; exact one_at w x))
          refine HK8.out _ _ trivial ?_
          clear HK8 hg2
          try simp only [Act.put, List.setIfInBounds_toArray]
          refine wpHead_alone (i := 5) rfl (by kernel_rfl) (by kernel_rfl) (by kernel_rfl) ?_
          intro K5 hK5
          have HK5 := hide hK5
          clear hK5
          go_simp
          refine HK5.out _ _ trivial ?_
          clear HK5 hcv
          try simp only [Act.put, List.setIfInBounds_toArray]
          refine wpHead_take (i := 9) (v := ?vv9b) rfl (by kernel_rfl) (fun _ _ _ h => h) (Or.inl ⟨by kernel_rfl, ?hy9b⟩) trivial ?rest9b
          case hy9b => (intro u hu; go_simp; try with_reducible rfl)
          simp only [Act.put, List.setIfInBounds_toArray]
          refine wpHead_last rfl (by kernel_rfl) (by kernel_rfl) (by kernel_rfl) ?_
          go_simp
          go_wp2_with fail
          go_ret
          exact ⟨by rw [HNB.out]; rfl, HG2.out⟩
      · intro K8 hK8
        have HK8 := hide hK8
        clear hK8
        go_simp
        refine (HC.out _).mono ?_
        rintro e w2 ⟨rfl, hg2⟩
        have HG2 : Hid (w.grownBy w2 none) := grown_offDrew' hg2
        have hcv : (convert 105 9 (.slice (some ⟨w2.heap.size, 0, none⟩) 1 1)).run Tryd.prog (w2.alloc (.cells #[.int .u8 (x : Int)] 5)) = .ok (.string (bs [x])) (w2.alloc (.cells #[.int .u8 (x : Int)] 5)) := one_str (by simp only [World.cell?]; exact one_at w2 x)
        refine HK8.out _ _ trivial ?_
        clear HK8 hg2
        try simp only [Act.put, List.setIfInBounds_toArray]
        refine wpHead_alone (i := 4) rfl (by kernel_rfl) (by kernel_rfl) (by kernel_rfl) ?_
        intro K4 hK4
        have HK4 := hide hK4
        clear hK4
        go_simp
        refine HK4.out _ _ trivial ?_
        clear HK4
        try simp only [Act.put, List.setIfInBounds_toArray]
        refine wpHead_alone (i := 5) rfl (by kernel_rfl) (by kernel_rfl) (by kernel_rfl) ?_
        intro K5 hK5
        have HK5 := hide hK5
        clear hK5
        go_simp
        refine HK5.out _ _ trivial ?_
        clear HK5 hcv
        try simp only [Act.put, List.setIfInBounds_toArray]
        refine wpHead_take (i := 9) (v := ?vv9c) rfl (by kernel_rfl) (fun _ _ _ h => h) (Or.inl ⟨by kernel_rfl, ?hy9c⟩) trivial ?rest9c
        case hy9c => (intro u hu; go_simp; try with_reducible rfl)
        simp only [Act.put, List.setIfInBounds_toArray]
        refine wpHead_last rfl (by kernel_rfl) (by kernel_rfl) (by kernel_rfl) ?_
        go_simp
        go_wp2_with fail
        go_ret
        exact ⟨by rw [HNB.out]; rfl, grown_alloc HG2.out⟩

theorem xor_i64 (a b : Nat) (ha : a < 4294967296) (hb : b < 4294967296) : bits .xor .i64 (a : Int) (b : Int) = ((a ^^^ b : Nat) : Int) := by
  have hx : a ^^^ b < 2 ^ 32 := Nat.xor_lt_two_pow (by omega) (by omega)
  have h1 : (BitVec.ofInt 64 (a : Int)).toNat = a := by
    rw [BitVec.ofInt_natCast, BitVec.toNat_ofNat]; exact Nat.mod_eq_of_lt (by omega)
  have h2 : (BitVec.ofInt 64 (b : Int)).toNat = b := by
    rw [BitVec.ofInt_natCast, BitVec.toNat_ofNat]; exact Nat.mod_eq_of_lt (by omega)
  show IntKind.i64.wrap ((BitVec.ofInt 64 (a : Int) ^^^ BitVec.ofInt 64 (b : Int)).toNat : Int) = _
  rw [BitVec.toNat_xor, h1, h2]
  simp only [IntKind.wrap, IntKind.signed, IntKind.bits]
  simp
  omega

set_option maxRecDepth 100000 in
theorem refpair_m (n : Int) (w : World) (h0 : -9223372036854775808 ≤ n) (h1 : n ≤ 9223372036854775807) : Calls Tryd.prog 51 #[.int .i64 n] w fun e w' => e = .returned (.int .u64 (zig n : Nat)) ∧ w' = w := by
  go_enter Tryd.func51, Tryd.ntmps51
  by_cases h : n < 0
  · have HZ : Hid (((zig n : Nat) : Int) = -2 * n - 1) := by unfold Hid zig; rw [if_pos h]; omega
    go_wp2_with fail
    go_ret
    exact ⟨by rw [HZ.out, show -2 * n - 1 = 2 * -(n + 1) + 1 by omega]; rfl, rfl⟩
  · have HZ : Hid (((zig n : Nat) : Int) = 2 * n) := by unfold Hid zig; rw [if_neg h]; omega
    go_wp2_with fail
    go_ret
    exact ⟨by rw [HZ.out]; rfl, rfl⟩

set_option maxRecDepth 100000 in
set_option maxHeartbeats 1000000 in
theorem refcrc_m (s : ByteArray) (w : World) (hs : s.size ≤ 9223372036854775806) : Calls Tryd.prog 53 #[.string s] w fun e w' => e = .returned (.int .i64 (crcN (byt s) : Nat)) ∧ w' = w := by
  have q0 : (s.size : Int) ≤ 9223372036854775806 := by omega
  have HBL : Hid ((byt s).length = s.size) := byt_len s
  have HB256 : Hid (∀ b ∈ byt s, b < 256) := fun b hb => byt_lt s b hb
  have H0 : Hid (crcF 4294967295 ((byt s).take 0) = 4294967295) := rfl
  go_enter Tryd.func53, Tryd.ntmps53
  go_wp2_with fail
  go_loopw [3, 4] (fun vv iv w' => ∃ (i v : Nat), i ≤ s.size ∧ v < 4294967296 ∧ iv = .int .i64 i ∧ vv = .int .i64 v ∧ w' = w ∧ Hid (crcF 4294967295 ((byt s).take i) = v)) (fun _ iv _ => s.size - (intOf iv).toNat)
  case atStart => exact ⟨0, 4294967295, Nat.zero_le _, by omega, rfl, rfl, rfl, H0⟩
  case round =>
    clear H0
    obtain ⟨i, v, hi, hv, rfl, rfl, hw, HV⟩ := hrel
    subst hw
    by_cases hlt : i < s.size
    · have t0 : (0 : Int) ≤ (i : Int) := by omega
      have t1 : (i : Int) < s.size := by omega
      obtain ⟨c, hc⟩ : ∃ c, c = s[i].toNat := ⟨_, rfl⟩
      have hc256 : c < 256 := by rw [hc]; exact UInt8.toNat_lt _
      have HNX : Hid (crcF 4294967295 ((byt s).take (i + 1)) = (bitsR 8 (v, c)).1) := by
        unfold Hid
        have hil : i < (byt s).length := by rw [HBL.out]; exact hlt
        rw [List.take_succ_eq_append_getElem hil, crcF_append, HV.out, bitsR_eight v c hc256]
        have : (byt s)[i] = c := by rw [hc]; simp [byt]; rfl
        simp [crcF, this]
      have hsi : s[i].toNat = c := hc.symm
      clear hc
      go_upto_region 6 with fail
      clear hsi

      go_wp2_with fail
      go_loopw [3, 5, 6] (fun vv cv kv w' => ∃ k : Nat, k ≤ 8 ∧ kv = .int .i64 k ∧ vv = .int .i64 ((bitsR k (v, c)).1 : Nat) ∧ cv = .int .i64 ((bitsR k (v, c)).2 : Nat) ∧ w' = wr) (fun _ _ kv _ => 8 - (intOf kv).toNat)
      case atStart => exact ⟨0, Nat.zero_le _, rfl, rfl, rfl, rfl⟩
      case round =>
        obtain ⟨k, hk, rfl, rfl, rfl, hw⟩ := hrel
        subst hw
        by_cases hk8 : k < 8
        · have t2 : (k : Int) < 8 := by omega
          obtain ⟨hx1, hx2⟩ := bitsR_lt k v c hv hc256
          have HBS : Hid (bitsR (k + 1) (v, c) = bitR (bitsR k (v, c))) := rfl
          generalize bitsR k (v, c) = x at *
          obtain ⟨x1, x2⟩ := x
          simp only at hx1 hx2 ⊢
          by_cases ho : (x1 + x2) % 2 = 1
          · have hl : Int.tmod ((x1 : Int) + (x2 : Int)) 2 = 1 := by rw [Int.tmod_eq_emod_of_nonneg (by omega)]; omega
            have hxr : bits .xor .i64 ((x1 : Int) / 2) 3988292384 = (((x1 / 2) ^^^ 3988292384 : Nat) : Int) := by
              have := xor_i64 (x1 / 2) 3988292384 (by omega) (by omega)
              rw [← this]; congr 1 <;> omega
            have HB1 : Hid (bitR (x1, x2) = ((x1 / 2) ^^^ 3988292384, x2 / 2)) := by unfold Hid bitR; simp only; rw [if_pos ho]
            clear ho
            go_wp2_with fail
            go_roundw
            case rel => exact ⟨k + 1, by omega, by go_num, by rw [HBS.out, HB1.out], by rw [HBS.out, HB1.out]; simp, by first | rfl | trivial⟩
            case measure => simp [intOf]; omega
          · have hl : Int.tmod ((x1 : Int) + (x2 : Int)) 2 = 0 := by rw [Int.tmod_eq_emod_of_nonneg (by omega)]; omega
            have HB1 : Hid (bitR (x1, x2) = (x1 / 2, x2 / 2)) := by unfold Hid bitR; simp only; rw [if_neg ho]
            clear ho
            go_wp2_with fail
            go_roundw
            case rel => exact ⟨k + 1, by omega, by go_num, by rw [HBS.out, HB1.out]; simp, by rw [HBS.out, HB1.out]; simp, by first | rfl | trivial⟩
            case measure => simp [intOf]; omega
        · have t2 : (8 : Int) ≤ (k : Int) := by omega
          have hk' : k = 8 := by omega
          subst hk'
          have hx1 := (bitsR_lt 8 v c hv hc256).1
          go_wp2_with fail
          go_roundw
          case rel => exact ⟨i + 1, (bitsR 8 (v, c)).1, by omega, hx1, by go_num, by first | rfl | trivial, by first | rfl | trivial, HNX⟩
          case measure => simp [intOf]; omega
    · have t1 : (s.size : Int) ≤ (i : Int) := by omega
      have hiz : i = s.size := by omega
      have HE : Hid (((crcN (byt s) : Nat) : Int) = 4294967295 - (v : Int)) := by
        have h1 := HV.out
        rw [hiz, List.take_of_length_le (by rw [HBL.out]; omega)] at h1
        unfold Hid crcN
        rw [h1, crc_less v hv]
        omega
      clear hiz
      go_wp2_with fail
      go_ret
      exact ⟨by rw [HE.out]; rfl, rfl⟩

end Go.Proofs.YtklenjmfalljgaaDoor

/- The walks of the reference's reader. -/
namespace Go.Proofs.YtklenjmfalljgaaDoor
open Go.RowKit
attribute [local go_sem] Go.World.cell?_alloc_some

/-- The reader at b: its bytes, what is left of them, are they none's. -/
def RdG (w : World) (b : Nat) (s : ByteArray) (l : List Nat) (bad : Bool) : Prop :=
  ∃ k : Nat, w.heap[b]? = some (.cells #[.string s, .int .i64 (k : Int), .bool bad] 204 (0, 0)) ∧ l = (byt s).drop k ∧ k ≤ s.size + 3
theorem RdG.step {w w' : World} {b : Nat} {s : ByteArray} {l : List Nat} {bad : Bool} (h : RdG w b s l bad) (e : w'.heap[b]? = w.heap[b]?) : RdG w' b s l bad := by
  obtain ⟨k, h1, h2, h3⟩ := h
  exact ⟨k, by rw [e]; exact h1, h2, h3⟩
theorem RdG.bad {w : World} {b : Nat} {s : ByteArray} {l : List Nat} {bad : Bool} (h : RdG w b s l bad) : w.cell? ⟨b, 2, none⟩ = some (.bool bad) := by
  obtain ⟨k, h1, h2, h3⟩ := h
  simp [World.cell?, h1]
theorem three_read {w : World} {b : Nat} {x0 x1 x2 : Value} {t : TypeId} (h : w.heap[b]? = some (.cells #[x0, x1, x2] t (0, 0))) : w.cell? ⟨b, 0, none⟩ = some x0 ∧ w.cell? ⟨b, 1, none⟩ = some x1 ∧ w.cell? ⟨b, 2, none⟩ = some x2 ∧ w.frozen? ⟨b, 1, none⟩ = false ∧ w.frozen? ⟨b, 2, none⟩ = false := by
  simp [World.cell?, World.frozen?, h]
theorem grown_set1 (w : World) (b o : Nat) (v : Value) : w.grownBy (w.setCell ⟨b, o, none⟩ v) (some b) :=
  ⟨rfl, rfl, rfl, by simp, fun k _ hk => Below.heap_setCell _ _ _ _ (fun e => hk (by simp only at e; rw [e]))⟩
set_option maxRecDepth 100000 in
set_option maxHeartbeats 2000000 in
theorem big_m (w : World) (b : Nat) (s : ByteArray) (l : List Nat) (bad : Bool) (h : RdG w b s l bad) (hs : s.size ≤ 9223372036854775000) :
    Calls Tryd.prog 121 #[pt b] w fun e w' => e = .returned (.int .u64 ((bigG 10 1 0 l).1 : Nat)) ∧ RdG w' b s (bigG 10 1 0 l).2.1 (bad || (bigG 10 1 0 l).2.2) ∧ w.grownBy w' (some b) := by
  have H0 := hide h
  have hpt : pt b = .pointer (some ⟨b, 0, none⟩) := rfl
  rw [hpt]
  clear h hpt
  go_enter Tryd.func121, Tryd.ntmps121
  go_wp2_with fail
  go_loopw [3, 4, 5] (fun vv uv kv w' => ∃ (k v u : Nat) (l' : List Nat), k ≤ 10 ∧ v < 18446744073709551616 ∧ u < 18446744073709551616 ∧ kv = .int .i64 k ∧ vv = .int .u64 v ∧ uv = .int .u64 u ∧ Hid (RdG w' b s l' bad ∧ bigG (10 - k) u v l' = bigG 10 1 0 l ∧ w.grownBy w' (some b))) (fun _ _ kv _ => 10 - (intOf kv).toNat)
  case atStart => exact ⟨0, 0, 1, l, by omega, by omega, by omega, rfl, rfl, rfl, ⟨H0.out, rfl, grown_refl _ _⟩⟩
  case round =>
    clear H0
    obtain ⟨k, v, u, l', hk, hv, hu, rfl, rfl, rfl, HI⟩ := hrel
    obtain ⟨w1, hw1⟩ : ∃ w1, w1 = wr := ⟨_, rfl⟩
    rw [← hw1] at HI ⊢
    clear hw1
    obtain ⟨a, hb, hl, ha⟩ := HI.out.1
    obtain ⟨c0, c1, c2, f1, f2⟩ := three_read hb
    have HB := hide hb
    clear hb
    have qa : (a : Int) ≤ 9223372036854775003 := by omega
    by_cases hk10 : k < 10
    · have t0 : (k : Int) < 10 := by omega
      obtain ⟨j, hj⟩ : ∃ j, 10 - k = j + 1 := ⟨9 - k, by omega⟩
      by_cases hlt : a < s.size
      · have t1 : (a : Int) < s.size := by omega
        have t2 : (0 : Int) ≤ (a : Int) := by omega
        have HL : Hid (l' = s[a].toNat :: (byt s).drop (a + 1)) := by
          unfold Hid
          rw [hl]
          have hal : a < (byt s).length := by rw [byt_len]; exact hlt
          rw [List.drop_eq_getElem_cons hal]
          congr 1
          simp [byt]; rfl
        obtain ⟨c, hc⟩ : ∃ c, s[a].toNat = c := ⟨_, rfl⟩
        have hc256 : c < 256 := by rw [← hc]; exact UInt8.toNat_lt _
        rw [hc] at HL
        have hm : Int.tmod (c : Int) 128 = ((c % 128 : Nat) : Int) := by rw [Int.tmod_eq_emod_of_nonneg (by omega)]; omega
        have HS1 : Hid (∀ w2, Like w2 w1 → RdG (w2.setCell ⟨b, 1, none⟩ (.int .i64 ((a : Int) + 1))) b s ((byt s).drop (a + 1)) bad ∧ w.grownBy (w2.setCell ⟨b, 1, none⟩ (.int .i64 ((a : Int) + 1))) (some b)) := fun w2 hl2 => by
          refine ⟨⟨a + 1, ?_, rfl, by omega⟩, grown_trans (grown_like HI.out.2.2 hl2) (grown_set1 _ _ _ _)⟩
          rw [heap_setCell_same w2 b 1 _ _ _ (by rw [hl2.1]; exact HB.out)]; rfl
        have e1 : IntKind.u64.wrap ((v : Int) + IntKind.u64.wrap ((u : Int) * ((c : Int) % 128))) = (((v + u * (c % 128)) % 18446744073709551616 : Nat) : Int) := by
          have h1 : (u : Int) * ((c : Int) % 128) = ((u * (c % 128) : Nat) : Int) := by push_cast; rfl
          rw [h1, IntKind.wrap_u64, IntKind.wrap_u64]
          omega
        have e2 : IntKind.u64.wrap ((u : Int) * 128) = ((u * 128 % 18446744073709551616 : Nat) : Int) := by
          rw [IntKind.wrap_u64]
          omega
        have HBG := hide HI.out.2.1
        rw [hj, HL.out, bigG] at HBG
        have hmv : (v + u * (c % 128)) % 18446744073709551616 < 18446744073709551616 := Nat.mod_lt _ (by omega)
        have hmu : u * 128 % 18446744073709551616 < 18446744073709551616 := Nat.mod_lt _ (by omega)
        generalize (v + u * (c % 128)) % 18446744073709551616 = V at *
        generalize u * 128 % 18446744073709551616 = U at *
        by_cases h128 : c < 128
        · rw [if_pos h128] at HBG
          have t3 : (c : Int) < 128 := by omega
          have HE1 := hide e1
          clear e1 e2
          go_upto_region 6 with fail
          go_quiet (fail)
          go_wp2_with fail
          go_quiet (fail)
          go_wp2_with fail
          go_ret
          obtain ⟨h1, h2⟩ := HS1.out _ (like_drewN w1 _)
          refine ⟨?_, ?_, h2⟩
          · rw [← HBG.out]; simp only; rw [← HE1.out]; rfl
          · rw [← HBG.out]; simp only [Bool.or_false]; exact h1
        · rw [if_neg h128] at HBG
          have t3 : (128 : Int) ≤ (c : Int) := by omega
          have HE1 := hide e1
          have HE2 := hide e2
          clear e1 e2
          go_upto_region 6 with fail
          go_quiet (fail)
          go_wp2_with fail
          go_quiet (fail)
          go_wp2_with fail
          go_roundw
          case rel =>
            obtain ⟨h1, h2⟩ := HS1.out _ (like_drewN w1 _)
            exact ⟨k + 1, V, U, (byt s).drop (a + 1), by omega, hmv, hmu, by go_num, by rw [← HE1.out], by rw [← HE2.out], ⟨h1, by rw [show 10 - (k + 1) = j by omega]; exact HBG.out, h2⟩⟩
          case measure => simp [intOf]; omega
      · have t1 : (s.size : Int) ≤ (a : Int) := by omega
        have HL : Hid (l' = []) := by unfold Hid; rw [hl]; exact List.drop_eq_nil_of_le (by rw [byt_len]; omega)
        have HS2 : Hid (∀ w2, Like w2 w1 → RdG (w2.setCell ⟨b, 2, none⟩ (.bool true)) b s [] true ∧ w.grownBy (w2.setCell ⟨b, 2, none⟩ (.bool true)) (some b)) := fun w2 hl2 => by
          refine ⟨⟨a, ?_, by rw [← hl, HL.out], ha⟩, grown_trans (grown_like HI.out.2.2 hl2) (grown_set1 _ _ _ _)⟩
          rw [heap_setCell_same w2 b 2 _ _ _ (by rw [hl2.1]; exact HB.out)]; rfl
        have HBG := hide HI.out.2.1
        rw [hj, HL.out, bigG] at HBG
        go_upto_region 6 with fail
        go_quiet (fail)
        go_wp2_with fail
        go_ret
        obtain ⟨h1, h2⟩ := HS2.out _ (like_drewN w1 _)
        refine ⟨?_, ?_, h2⟩
        · rw [← HBG.out]; rfl
        · rw [← HBG.out]; simp only [Bool.or_true]; exact h1
    · have t0 : (10 : Int) ≤ (k : Int) := by omega
      have HS2 : Hid (RdG (w1.setCell ⟨b, 2, none⟩ (.bool true)) b s l' true ∧ w.grownBy (w1.setCell ⟨b, 2, none⟩ (.bool true)) (some b)) := by
        refine ⟨⟨a, ?_, hl, ha⟩, grown_trans HI.out.2.2 (grown_set1 _ _ _ _)⟩
        rw [heap_setCell_same w1 b 2 _ _ _ HB.out]; rfl
      have HBG := hide HI.out.2.1
      rw [show 10 - k = 0 by omega, bigG] at HBG
      go_wp2_with fail
      go_ret
      obtain ⟨h1, h2⟩ := HS2.out
      refine ⟨?_, ?_, h2⟩
      · rw [← HBG.out]; rfl
      · rw [← HBG.out]; simp only [Bool.or_true]; exact h1

set_option maxRecDepth 100000 in
set_option maxHeartbeats 1000000 in
theorem numG_m (w : World) (b : Nat) (s : ByteArray) (l : List Nat) (bad : Bool) (most : Nat) (hmost : most ≤ 1000) (h : RdG w b s l bad) (hs : s.size ≤ 9223372036854775000) :
    Calls Tryd.prog 120 #[pt b, .int .i64 (most : Int)] w fun e w' => e = .returned (.int .i64 ((numG most l).1 : Nat)) ∧ RdG w' b s (numG most l).2.1 (bad || (numG most l).2.2) ∧ w.grownBy w' (some b) := by
  have HBM := hide (big_m w b s l bad h hs)
  have hpt : pt b = .pointer (some ⟨b, 0, none⟩) := rfl
  rw [hpt] at HBM ⊢
  clear h hpt
  have hv := bigG_lt 10 1 0 l
  go_enter Tryd.func120, Tryd.ntmps120
  go_wp2_with fail
  refine HBM.out.mono ?_
  clear HBM
  rintro e w1 ⟨rfl, hr, hg⟩
  have HR := hide hr
  have HG := hide hg
  obtain ⟨a, hb, hl, ha⟩ := hr
  obtain ⟨c0, c1, c2, f1, f2⟩ := three_read hb
  have HB := hide hb
  clear hb hg
  have qm : (most : Int) ≤ 1000 := by omega
  have HNG : Hid (numG most l = if most < (bigG 10 1 0 l).1 then (0, (bigG 10 1 0 l).2.1, true) else bigG 10 1 0 l) := rfl
  generalize bigG 10 1 0 l = X at *
  obtain ⟨v, r, bd⟩ := X
  simp only at hv hl HB HR HNG c2 ⊢
  by_cases hlt : most < v
  · have t0 : (most : Int) < (v : Int) := by omega
    rw [if_pos hlt] at HNG
    have HS2 : Hid (RdG (w1.setCell ⟨b, 2, none⟩ (.bool true)) b s r true ∧ w.grownBy (w1.setCell ⟨b, 2, none⟩ (.bool true)) (some b)) := by
      refine ⟨⟨a, ?_, hl, ha⟩, grown_trans HG.out (grown_set1 _ _ _ _)⟩
      rw [heap_setCell_same w1 b 2 _ _ _ HB.out]; rfl
    go_wp2_with fail
    go_ret
    rw [HNG.out]
    obtain ⟨h1, h2⟩ := HS2.out
    exact ⟨rfl, by simp only [Bool.or_true]; exact h1, h2⟩
  · have t0 : (v : Int) ≤ (most : Int) := by omega
    rw [if_neg hlt] at HNG
    go_wp2_with fail
    go_ret
    rw [HNG.out]
    exact ⟨rfl, HR.out, HG.out⟩

end Go.Proofs.YtklenjmfalljgaaDoor

/- The reference's guess: what lies where. -/
namespace Go.Proofs.YtklenjmfalljgaaDoor
open Go.RowKit

/-- In the midst of guess: the reader at b, the artifact at n5, the answer at n2. -/
structure GuS (W w : World) (b n5 n2 L : Nat) (s : ByteArray) (l : List Nat) (bad : Bool) (tv sv : Value) (v : Int × Int × Int) (p : List (List Ins)) (sch : List Int) : Prop where
  rd : RdG w b s l bad
  art : w.heap[n5]? = some (.cells #[tv, sv, .int .i64 v.1, .int .i64 v.2.1, .int .i64 v.2.2] 51 (0, 0))
  res : w.heap[n2]? = some (.cells #[.slice none 0 0, .slice none 0 0, .int .i64 0, .int .i64 0, .int .i64 0] 51 (0, 0))
  thr : ThrAt L w.heap.size w tv p
  row : w.ownsRow L 3 1 sv sch.length (ints sch)
  base : W.grownBy w none
  ord : W.heap.size ≤ n2 ∧ n2 < b ∧ b < n5 ∧ L = n5 + 1

theorem ThrAt.same {L B : Nat} {w w' : World} {tv : Value} {p : List (List Ins)} (h : ThrAt L B w tv p) (hb : ∀ k cs t, w.heap[k]? = some (.cells cs t (0, 0)) → t ≠ 3 → L ≤ k → w'.heap[k]? = w.heap[k]?) : ThrAt L B w' tv p := by
  obtain ⟨rows, h1, h2, h3, h4⟩ := h
  refine ⟨rows, owns_same h1 (fun g e => ?_), h2, fun j hj => ?_, h4⟩
  · rcases h1.2 with ⟨e1, _⟩ | ⟨g', cap, cur, hv, hlo, hh, _⟩
    · rw [e1] at e; cases e
    · rw [hv] at e
      simp only [Value.ownBlock, Option.some.injEq] at e
      subst e
      exact hb _ _ _ hh (by decide) hlo
  · obtain ⟨rv, e1, e2, e3⟩ := h3 j hj
    refine ⟨rv, e1, owns_same e2 (fun g e => ?_), e3⟩
    rcases e2.2 with ⟨e4, _⟩ | ⟨g', cap, cur, hv, hlo, hh, _⟩
    · rw [e4] at e; cases e
    · rw [hv] at e
      simp only [Value.ownBlock, Option.some.injEq] at e
      subst e
      exact hb _ _ _ hh (by decide) hlo

section
variable {W w w' w6 : World} {b n5 n2 L : Nat} {s : ByteArray} {l l' : List Nat} {bad bad' : Bool} {tv sv : Value} {v : Int × Int × Int} {p : List (List Ins)} {sch : List Int}

theorem GuS.lt (h : GuS W w b n5 n2 L s l bad tv sv v p sch) : b < w.heap.size ∧ n5 < w.heap.size ∧ n2 < w.heap.size := by
  obtain ⟨k, h1, _⟩ := h.rd
  exact ⟨(Array.getElem?_eq_some_iff.1 h1).1, (Array.getElem?_eq_some_iff.1 h.art).1, (Array.getElem?_eq_some_iff.1 h.res).1⟩
theorem GuS.acell (h : GuS W w b n5 n2 L s l bad tv sv v p sch) : w.cell? ⟨n5, 0, none⟩ = some tv ∧ w.cell? ⟨n5, 1, none⟩ = some sv ∧ w.cell? ⟨n5, 2, none⟩ = some (.int .i64 v.1) ∧ w.cell? ⟨n5, 3, none⟩ = some (.int .i64 v.2.1) ∧ w.cell? ⟨n5, 4, none⟩ = some (.int .i64 v.2.2) ∧ ∀ o, w.frozen? ⟨n5, o, none⟩ = false := by
  simp [World.cell?, World.frozen?, h.art]
theorem GuS.rcell (h : GuS W w b n5 n2 L s l bad tv sv v p sch) : ∀ o, w.frozen? ⟨n2, o, none⟩ = false := by
  simp [World.frozen?, h.res]
/-- The reader reads. -/
theorem GuS.call (h : GuS W w b n5 n2 L s l bad tv sv v p sch) (hr : RdG w' b s l' bad') (hg : w.grownBy w' (some b)) : GuS W w' b n5 n2 L s l' bad' tv sv v p sch := by
  obtain ⟨o1, o2, o3, o4⟩ := h.ord
  refine ⟨hr, ?_, ?_, ?_, ?_, ?_, h.ord⟩
  · rw [hg.block n5 h.lt.2.1 (by simp only [ne_eq, Option.some.injEq]; omega)]; exact h.art
  · rw [hg.block n2 h.lt.2.2 (by simp only [ne_eq, Option.some.injEq]; omega)]; exact h.res
  · exact (h.thr.step hg (fun q e => by simp only [Option.some.injEq] at e; omega)).mono hg.size
  · exact owns_step h.row hg (fun k e e2 => by simp only [Option.some.injEq] at e; have := owns_block h.row k e2; omega)
  · exact ⟨hg.os.trans h.base.os, hg.tape.trans h.base.tape, hg.output.trans h.base.output, Nat.le_trans h.base.size hg.size, fun k hk _ => by
      rw [hg.block k (Nat.lt_of_lt_of_le hk h.base.size) (fun e => by simp only [Option.some.injEq] at e; omega)]; exact h.base.block k hk (by simp)⟩
theorem GuS.like (h : GuS W w b n5 n2 L s l bad tv sv v p sch) (hl : Like w' w) : GuS W w' b n5 n2 L s l bad tv sv v p sch :=
  h.call (h.rd.step (by rw [hl.1])) (grown_of_like hl)
/-- A number of the verdict is set. -/
theorem GuS.setA (h : GuS W w b n5 n2 L s l bad tv sv v p sch) (j : Nat) (x : Int) (v' : Int × Int × Int) (hj : (j = 2 ∧ v' = (x, v.2.1, v.2.2)) ∨ (j = 3 ∧ v' = (v.1, x, v.2.2)) ∨ (j = 4 ∧ v' = (v.1, v.2.1, x))) : GuS W (w.setCell ⟨n5, j, none⟩ (.int .i64 x)) b n5 n2 L s l bad tv sv v' p sch := by
  obtain ⟨o1, o2, o3, o4⟩ := h.ord
  have hg := grown_set1 w n5 j (.int .i64 x)
  refine ⟨h.rd.step (Below.heap_setCell _ _ _ _ (by simp only; omega)), ?_, ?_, ?_, ?_, ?_, h.ord⟩
  · rw [heap_setCell_same w n5 j _ _ _ h.art]
    rcases hj with ⟨rfl, rfl⟩ | ⟨rfl, rfl⟩ | ⟨rfl, rfl⟩ <;> rfl
  · rw [Below.heap_setCell _ _ _ _ (by simp only; omega)]; exact h.res
  · exact (h.thr.step hg (fun q e => by simp only [Option.some.injEq] at e; omega)).mono hg.size
  · exact owns_step h.row hg (fun k e e2 => by simp only [Option.some.injEq] at e; have := owns_block h.row k e2; omega)
  · exact grown_setNew h.base (by omega)
/-- a.Schedule = append(a.Schedule, t). -/
theorem GuS.push (h : GuS W w b n5 n2 L s l bad tv sv v p sch) {t : Int} {o : Obj} {g6 c6 N : Nat} (hN : N = sch.length)
    (hown : w6.ownsRow L 3 1 (.slice (some ⟨g6, 0, none⟩) (N + 1) c6) (N + 1) (ints sch ++ [.int .i64 t]))
    (key : (sv.ownBlock = some g6 ∧ (w.alloc o).grownBy w6 (some g6)) ∨ (g6 = w.heap.size + 1 ∧ (w.alloc o).grownBy w6 none)) :
    (w6.cell? ⟨n5, 1, none⟩ = some sv ∧ w6.frozen? ⟨n5, 1, none⟩ = false) ∧ GuS W (w6.setCell ⟨n5, 1, none⟩ (.slice (some ⟨g6, 0, none⟩) (N + 1) c6)) b n5 n2 L s l bad tv (.slice (some ⟨g6, 0, none⟩) (N + 1) c6) v p (sch ++ [t]) := by
  subst hN
  obtain ⟨o1, o2, o3, o4⟩ := h.ord
  have hL6 : L ≤ g6 := owns_block hown g6 rfl
  have hsz : w.heap.size ≤ w6.heap.size := by
    rcases key with ⟨_, hg⟩ | ⟨_, hg⟩ <;> (have := hg.size; simp at this; omega)
  have hold : ∀ k, k < w.heap.size → k ≠ g6 → w6.heap[k]? = w.heap[k]? := fun k hk hne => by
    rcases key with ⟨_, hg⟩ | ⟨_, hg⟩
    · rw [hg.block k (by simp; omega) (by simpa using hne), Below.heap_alloc _ _ _ hk]
    · rw [hg.block k (by simp; omega) (by simp), Below.heap_alloc _ _ _ hk]
  have hart : w6.heap[n5]? = some (.cells #[tv, sv, .int .i64 v.1, .int .i64 v.2.1, .int .i64 v.2.2] 51 (0, 0)) := by rw [hold n5 h.lt.2.1 (by omega)]; exact h.art
  have hb6 : W.grownBy w6 none := by
    rcases key with ⟨_, hg⟩ | ⟨_, hg⟩
    · exact ⟨hg.os.trans h.base.os, hg.tape.trans h.base.tape, hg.output.trans h.base.output, Nat.le_trans h.base.size hsz, fun k hk _ => by
        rw [hold k (Nat.lt_of_lt_of_le hk h.base.size) (by omega)]; exact h.base.block k hk (by simp)⟩
    · exact grown_trans h.base (grown_trans (grown_alloc (grown_refl _ _)) hg)
  have hthr : ThrAt L w6.heap.size w6 tv p := by
    refine (h.thr.same (fun k cs ty hk hty hlo => hold k (Array.getElem?_eq_some_iff.1 hk).1 (fun e => ?_))).mono hsz
    subst e
    rcases key with ⟨e, hg⟩ | ⟨e, hg⟩
    · rcases h.row.2 with ⟨e4, _⟩ | ⟨g', cap, cur, hv, _, hh, _⟩
      · rw [e4] at e; cases e
      · rw [hv] at e
        simp only [Value.ownBlock, Option.some.injEq] at e
        subst e
        rw [hh] at hk
        simp only [Option.some.injEq, Obj.cells.injEq] at hk
        exact hty hk.2.1.symm
    · have := (Array.getElem?_eq_some_iff.1 hk).1; omega
  have hset := grown_set1 w6 n5 1 (.slice (some ⟨g6, 0, none⟩) (sch.length + 1) c6)
  refine ⟨⟨by simp [World.cell?, hart], by simp [World.frozen?, hart]⟩, ⟨?_, ?_, ?_, ?_, ?_, ?_, h.ord⟩⟩
  · refine (h.rd.step (hold b h.lt.1 (by omega))).step (Below.heap_setCell _ _ _ _ (by simp only; omega))
  · rw [heap_setCell_same w6 n5 1 _ _ _ hart]; rfl
  · rw [Below.heap_setCell _ _ _ _ (by simp only; omega), hold n2 h.lt.2.2 (by omega)]; exact h.res
  · exact (hthr.step hset (fun q e => by simp only [Option.some.injEq] at e; omega)).mono hset.size
  · have h2 := owns_step hown hset (fun k e e2 => by simp only [Option.some.injEq] at e; simp only [Value.ownBlock, Option.some.injEq] at e2; omega)
    have e1 : (sch ++ [t]).length = sch.length + 1 := by simp
    have e2 : ints (sch ++ [t]) = ints sch ++ [.int .i64 t] := by simp [ints]
    rw [e1, e2]; exact h2
  · exact grown_setNew hb6 (by omega)
end

end Go.Proofs.YtklenjmfalljgaaDoor

/- The walks of the reader: who gives up, and the next byte. -/
namespace Go.Proofs.YtklenjmfalljgaaDoor
open Go.RowKit
attribute [local go_sem] Go.World.cell?_alloc_some

/-- A reader gives up. -/
def Refused (e : Ending) : Prop := e = .panicked [{ v := .iface 146 (.int .i64 3), recovered := false }]

set_option maxRecDepth 100000 in
set_option maxHeartbeats 400000 in
theorem must_ok (w : World) : Calls Tryd.prog 119 #[.bool true] w fun e w' => (∃ v, e = .returned v) ∧ w' = w := by
  go_enter Tryd.func119, Tryd.ntmps119
  go_wp2_with fail
  go_end0
  exact ⟨⟨_, rfl⟩, rfl⟩
set_option maxRecDepth 100000 in
set_option maxHeartbeats 400000 in
theorem must_not (w : World) : Calls Tryd.prog 119 #[.bool false] w fun e w' => Refused e ∧ w' = w := by
  go_enter Tryd.func119, Tryd.ntmps119
  go_wp2_with fail
  exact ⟨rfl, rfl, rfl⟩

/-- The reader lies at b, reads s, and stands at k. -/
structure RdS (W : World) (w : World) (b : Nat) (s : ByteArray) (k : Nat) : Prop where
  blk : w.heap[b]? = some (.cells #[.string s, .int .i64 k] 148 (0, 0))
  base : W.grownBy w (some b)
  le : k ≤ s.size

theorem RdS.c0 {W w : World} {b k : Nat} {s : ByteArray} (h : RdS W w b s k) : w.cell? ⟨b, 0, none⟩ = some (.string s) := by have := h.blk; simp [World.cell?, this]
theorem RdS.c1 {W w : World} {b k : Nat} {s : ByteArray} (h : RdS W w b s k) : w.cell? ⟨b, 1, none⟩ = some (.int .i64 k) := by have := h.blk; simp [World.cell?, this]
theorem RdS.z1 {W w : World} {b k : Nat} {s : ByteArray} (h : RdS W w b s k) : w.frozen? ⟨b, 1, none⟩ = false := by have := h.blk; simp [World.frozen?, this]
theorem RdS.lt {W w : World} {b k : Nat} {s : ByteArray} (h : RdS W w b s k) : b < w.heap.size := (Array.getElem?_eq_some_iff.1 h.blk).1
theorem RdS.grown {W w w' : World} {b k : Nat} {s : ByteArray} (h : RdS W w b s k) (hg : w.grownBy w' none) : RdS W w' b s k :=
  ⟨by rw [hg.block b h.lt (by simp)]; exact h.blk, grown_trans h.base (grown_none hg), h.le⟩
theorem RdS.self {W w : World} {b k : Nat} {s : ByteArray} (h : RdS W w b s k) : RdS w w b s k := ⟨h.blk, grown_refl _ _, h.le⟩
theorem RdS.trans {W w w' : World} {b k k' : Nat} {s : ByteArray} (h : RdS W w b s k) (h' : RdS w w' b s k') : RdS W w' b s k' := ⟨h'.blk, grown_trans h.base h'.base, h'.le⟩
theorem RdS.step {W w : World} {b k : Nat} {s : ByteArray} (h : RdS W w b s k) (hk : k < s.size) : RdS W (w.setCell ⟨b, 1, none⟩ (.int .i64 ((k + 1 : Nat) : Int))) b s (k + 1) :=
  ⟨by rw [heap_setCell_same _ b 1 _ _ _ h.blk]; rfl, grown_trans h.base grown_set, hk⟩

/-- A reader's method's end: what it read and where it stands, or it gave up. -/
def Rd {α : Type} (W : World) (b : Nat) (s : ByteArray) (V : World → α → Value → Prop) (res : Option (α × List Nat)) (e : Ending) (w' : World) : Prop :=
  (res = none ∧ Refused e ∧ W.grownBy w' (some b)) ∨ ∃ x r v k, res = some (x, r) ∧ e = .returned v ∧ V w' x v ∧ RdS W w' b s k ∧ (byt s).drop k = r

def rdNext (l : List Nat) : Option (Nat × List Nat) := match l with
  | [] => none
  | x :: r => some (x, r)

set_option maxRecDepth 100000 in
set_option maxHeartbeats 1000000 in
theorem next_m (W w : World) (b k : Nat) (s : ByteArray) (h : RdS W w b s k) (hs : s.size ≤ 9223372036854775806) :
    Calls Tryd.prog 160 #[pt b] w (Rd W b s (fun _ x v => v = .int .u8 ((x : Nat) : Int)) (rdNext ((byt s).drop k))) := by
  have c0 := h.c0
  have c1 := h.c1
  have z1 := h.z1
  have hle := h.le
  have HH := hide h
  clear h
  unfold pt
  by_cases hk : k < s.size
  · have q1 : (k : Int) < s.size := by omega
    have q2 : wrap64 ((k : Int) + 1) = ((k + 1 : Nat) : Int) := by simp [wrap64]; omega
    go_enter Tryd.func160, Tryd.ntmps160
    go_wp2_with fail
    go_still_tail 10, (by kernel_rfl)
    go_wp2_with (go_at_call 119; refine (must_ok _).mono ?_; rintro e w1 ⟨⟨v, rfl⟩, rfl⟩)
    have S6 := HH.out.step hk
    have e1 : ((k : Int) + 1) = ((k + 1 : Nat) : Int) := by omega
    rw [e1]
    have HS6 := hide S6
    generalize w.setCell ⟨b, 1, none⟩ (.int .i64 ((k + 1 : Nat) : Int)) = w6 at HS6 S6 ⊢
    have d0 := S6.c0
    have d1 := S6.c1
    clear S6 c0 c1 z1 e1 HH
    have HB := hide (byt_cons s k hk)
    go_quiet (fail)
    go_wp2_with fail
    go_ret
    refine Or.inr ⟨s[k].toNat, (byt s).drop (k + 1), _, k + 1, ?_, rfl, ?_, ?_, rfl⟩
    · rw [HB.out]; rfl
    · rfl
    · exact HS6.out.grown (grown_drewN _ (grown_drew (grown_refl _ _)))
  · have q1 : ¬ (k : Int) < s.size := by omega
    go_enter Tryd.func160, Tryd.ntmps160
    go_wp2_with fail
    go_still_tail 10, (by kernel_rfl)
    go_wp2_with (go_at_call 119; refine (must_not _).mono ?_; rintro e w1 ⟨rfl, rfl⟩)
    refine ⟨rfl, Or.inl ⟨?_, rfl, grown_drew HH.out.base⟩⟩
    have e : (byt s).drop k = [] := List.drop_eq_nil_iff.2 (by rw [byt_len]; omega)
    rw [e]; rfl

end Go.Proofs.YtklenjmfalljgaaDoor

/- The walk of the reader's numbers. -/
namespace Go.Proofs.YtklenjmfalljgaaDoor
open Go.RowKit
attribute [local go_sem] Go.World.cell?_alloc_some

theorem drop_inj (s : ByteArray) {i j : Nat} (hi : i ≤ s.size) (hj : j ≤ s.size) (h : (byt s).drop i = (byt s).drop j) : i = j := by
  have := congrArg List.length h
  simp only [List.length_drop, byt_len] at this
  omega

theorem next_ok (W w : World) (b k : Nat) (s : ByteArray) (h : RdS W w b s k) (hs : s.size ≤ 9223372036854775806) (hk : k < s.size) :
    Calls Tryd.prog 160 #[pt b] w fun e w' => e = .returned (.int .u8 ((s[k].toNat : Nat) : Int)) ∧ RdS W w' b s (k + 1) := by
  refine (next_m W w b k s h hs).mono ?_
  rintro e w' (⟨h1, _⟩ | ⟨x, r, v, k', h1, rfl, rfl, h2, h3⟩)
  · rw [byt_cons s k hk] at h1; cases h1
  · rw [byt_cons s k hk] at h1
    simp only [rdNext, Option.some.injEq, Prod.mk.injEq] at h1
    obtain ⟨rfl, rfl⟩ := h1
    have := drop_inj s h2.le (show k + 1 ≤ s.size from hk) h3
    subst this
    exact ⟨rfl, h2⟩
theorem next_no (W w : World) (b k : Nat) (s : ByteArray) (h : RdS W w b s k) (hs : s.size ≤ 9223372036854775806) (hk : ¬ k < s.size) :
    Calls Tryd.prog 160 #[pt b] w fun e w' => Refused e ∧ W.grownBy w' (some b) := by
  have e0 : (byt s).drop k = [] := List.drop_eq_nil_iff.2 (by rw [byt_len]; omega)
  refine (next_m W w b k s h hs).mono ?_
  rintro e w' (⟨_, h2, h3⟩ | ⟨x, r, v, k', h1, rfl, rfl, h2, h3⟩)
  · exact ⟨h2, h3⟩
  · rw [e0] at h1; cases h1

theorem fits_cast (x place : Nat) : ((x : Int) % 128 * 2 ^ place) = ((x % 128 * 2 ^ place : Nat) : Int) := by push_cast; rfl
theorem fits_wrap (m : Nat) : IntKind.u64.wrap (m : Int) = ((m % 18446744073709551616 : Nat) : Int) := by
  simp only [IntKind.wrap, IntKind.signed, IntKind.bits]
  simp
theorem fits_yes (x place : Nat) (h : x % 128 * 2 ^ place < 18446744073709551616) : (IntKind.u64.wrap ((x : Int) % 128 * 2 ^ place) / 2 ^ place == (x : Int) % 128) = true := by
  rw [fits_cast, fits_wrap, Nat.mod_eq_of_lt h]
  have e : ((2 : Int) ^ place) = ((2 ^ place : Nat) : Int) := by push_cast; rfl
  rw [e, ← Int.natCast_ediv, Nat.mul_div_cancel _ (Nat.two_pow_pos place)]
  simp
theorem fits_no (x place : Nat) (h : ¬ x % 128 * 2 ^ place < 18446744073709551616) (_hp : place < 64) : (IntKind.u64.wrap ((x : Int) % 128 * 2 ^ place) / 2 ^ place == (x : Int) % 128) = false := by
  rw [fits_cast, fits_wrap]
  have e : ((2 : Int) ^ place) = ((2 ^ place : Nat) : Int) := by push_cast; rfl
  rw [e, ← Int.natCast_ediv]
  have h1 : x % 128 * 2 ^ place % 18446744073709551616 / 2 ^ place ≠ x % 128 := by
    intro h2
    have h3 : x % 128 * 2 ^ place ≤ x % 128 * 2 ^ place % 18446744073709551616 := by
      have := Nat.div_mul_le_self (x % 128 * 2 ^ place % 18446744073709551616) (2 ^ place)
      rw [h2] at this
      exact this
    have := Nat.mod_lt (x % 128 * 2 ^ place) (show 0 < 18446744073709551616 by decide)
    omega
  rw [beq_eq_false_iff_ne]
  intro h2
  apply h1
  have : ((x : Int) % 128) = ((x % 128 : Nat) : Int) := by push_cast; rfl
  rw [this] at h2
  exact_mod_cast h2
theorem fits_sum (n x place : Nat) (hn : n < 2 ^ place) (h : x % 128 * 2 ^ place < 18446744073709551616) (hp : place < 64) : n + x % 128 * 2 ^ place < 18446744073709551616 ∧ n + x % 128 * 2 ^ place < 2 ^ (place + 7) := by
  constructor
  · have e : 18446744073709551616 = 2 ^ (64 - place) * 2 ^ place := by rw [← Nat.pow_add, show 64 - place + place = 64 by omega]
    rw [e] at h ⊢
    have h1 : x % 128 < 2 ^ (64 - place) := Nat.lt_of_mul_lt_mul_right h
    have h2 : (x % 128 + 1) * 2 ^ place ≤ 2 ^ (64 - place) * 2 ^ place := Nat.mul_le_mul_right _ h1
    rw [Nat.add_mul, Nat.one_mul] at h2
    omega
  · have h1 : 2 ^ (place + 7) = 128 * 2 ^ place := by rw [Nat.pow_add, Nat.mul_comm]
    have h2 : x % 128 * 2 ^ place ≤ 127 * 2 ^ place := Nat.mul_le_mul_right _ (by omega)
    omega
theorem fits_or (n x place : Nat) (hn : n < 2 ^ place) (h : x % 128 * 2 ^ place < 18446744073709551616) (hp : place < 64) : bits .or .u64 (n : Int) (IntKind.u64.wrap ((x : Int) % 128 * 2 ^ place)) = ((n + x % 128 * 2 ^ place : Nat) : Int) := by
  have h64 := (fits_sum n x place hn h hp).1
  rw [fits_cast, fits_wrap, Nat.mod_eq_of_lt h, u64_or_nat _ _ (by omega) h, Nat.or_comm, nat_join place _ _ (Nat.mul_mod_left _ _) hn, Nat.add_comm]

set_option maxRecDepth 100000 in
set_option maxHeartbeats 2000000 in
theorem number_r (W w : World) (b k : Nat) (s : ByteArray) (h : RdS W w b s k) (hs : s.size ≤ 9223372036854775806) :
    Calls Tryd.prog 194 #[pt b] w (Rd W b s (fun _ x v => v = .int .u64 ((x : Nat) : Int)) (rdN 0 0 ((byt s).drop k))) := by
  have HH := hide h
  have hpt : pt b = .pointer (some ⟨b, 0, none⟩) := rfl
  rw [hpt]
  clear h hpt
  go_enter Tryd.func194, Tryd.ntmps194
  go_wp2_with fail
  go_loopw [3, 4] (fun nv pv w' => ∃ (n place k' : Nat), nv = .int .u64 n ∧ pv = .int .i64 place ∧ place ≤ 70 ∧ n < 2 ^ place ∧ Hid (RdS W w' b s k') ∧ Hid (rdN place n ((byt s).drop k') = rdN 0 0 ((byt s).drop k))) (fun _ pv _ => 71 - (intOf pv).toNat)
  case atStart => exact ⟨0, 0, k, rfl, rfl, by omega, by simp, HH, hide rfl⟩
  case round =>
    obtain ⟨n, place, k', rfl, rfl, hpl, hn, HS, HE⟩ := hrel
    obtain ⟨w5, hw5⟩ : ∃ w5, w5 = wr := ⟨_, rfl⟩
    subst hw5
    by_cases hk : k' < s.size
    · have HB := hide (byt_cons s k' hk)
      have hb := s[k'].toNat_lt
      have HNX := hide (next_ok W w5 b k' s HS.out hs hk)
      generalize s[k'].toNat = x at *
      have hand : bits .and .u8 (x : Int) 127 = ((x % 128 : Nat) : Int) := by
        have := u8_and_nat x 127 (by omega) (by decide)
        rw [nat_mask7] at this
        exact this
      have hx8 : x < 256 := by omega
      by_cases h64 : place < 64
      · have q1 : (place : Int) < 64 := by omega
        by_cases hfit : x % 128 * 2 ^ place < 18446744073709551616
        · have hsh := fits_yes x place hfit
          have hor := fits_or n x place hn hfit h64
          have HN2 := hide (fits_sum n x place hn hfit h64)
          by_cases h128 : x < 128
          · have q2 : (x : Int) < 128 := by omega
            have HR : Hid (rdN 0 0 ((byt s).drop k) = if 0 < x ∨ place = 0 then some (n + x % 128 * 2 ^ place, (byt s).drop (k' + 1)) else none) := by
              unfold Hid
              rw [← HE.out, HB.out, rdN, if_pos ⟨h64, hfit⟩, if_pos h128]
            clear HE
            by_cases h0 : 0 < x
            · have q3 : (0 : Int) < (x : Int) := by omega
              go_wp2_with (first | (go_at_call 160; refine HNX.out.mono ?_; rintro e w6 ⟨rfl, hS6⟩; have HS6 := hide hS6; clear hS6) | (go_at_call 119; refine (must_ok _).mono ?_; rintro e w7 ⟨⟨v7, rfl⟩, rfl⟩))
              go_ret
              exact Or.inr ⟨n + x % 128 * 2 ^ place, (byt s).drop (k' + 1), _, k' + 1, by rw [HR.out, if_pos (Or.inl h0)], rfl, rfl, HS6.out, rfl⟩
            · have q3 : ¬ (0 : Int) < (x : Int) := by omega
              by_cases hp : place = 0
              · have q4 : ((place : Int) == 0) = true := by simp; omega
                have HR2 : Hid (rdN 0 0 ((byt s).drop k) = some (n + x % 128 * 2 ^ place, (byt s).drop (k' + 1))) := by
                  unfold Hid; rw [HR.out, if_pos (Or.inr hp)]
                clear hp
                go_wp2_with (first | (go_at_call 160; refine HNX.out.mono ?_; rintro e w6 ⟨rfl, hS6⟩; have HS6 := hide hS6; clear hS6) | (go_at_call 119; first | (refine (must_ok _).mono ?_; rintro e w7 ⟨⟨v7, rfl⟩, rfl⟩) | (refine (must_not _).mono ?_; rintro e w7 ⟨rfl, rfl⟩)))
                go_ret
                exact Or.inr ⟨n + x % 128 * 2 ^ place, (byt s).drop (k' + 1), _, k' + 1, HR2.out, rfl, rfl, HS6.out, rfl⟩
              · have q4 : ((place : Int) == 0) = false := by simp; omega
                go_wp2_with (first | (go_at_call 160; refine HNX.out.mono ?_; rintro e w6 ⟨rfl, hS6⟩; have HS6 := hide hS6; clear hS6) | (go_at_call 119; first | (refine (must_ok _).mono ?_; rintro e w7 ⟨⟨v7, rfl⟩, rfl⟩) | (refine (must_not _).mono ?_; rintro e w7 ⟨rfl, rfl⟩)))
                refine ⟨rfl, Or.inl ⟨?_, rfl, HS6.out.base⟩⟩
                rw [HR.out, if_neg (fun h => h.elim h0 hp)]
          · have q2 : ¬ (x : Int) < 128 := by omega
            have HR : Hid (rdN (place + 7) (n + x % 128 * 2 ^ place) ((byt s).drop (k' + 1)) = rdN 0 0 ((byt s).drop k)) := by
              unfold Hid
              rw [← HE.out, HB.out, rdN, if_pos ⟨h64, hfit⟩, if_neg h128]
            clear HE
            go_wp2_with (first | (go_at_call 160; refine HNX.out.mono ?_; rintro e w6 ⟨rfl, hS6⟩; have HS6 := hide hS6; clear hS6) | (go_at_call 119; refine (must_ok _).mono ?_; rintro e w7 ⟨⟨v7, rfl⟩, rfl⟩))
            go_roundw
            case rel => exact ⟨n + x % 128 * 2 ^ place, place + 7, k' + 1, rfl, by first | rfl | (congr 1), by omega, HN2.out.2, HS6, HR⟩
            case measure => simp [intOf]; omega
        · have hsh := fits_no x place hfit h64
          go_wp2_with (first | (go_at_call 160; refine HNX.out.mono ?_; rintro e w6 ⟨rfl, hS6⟩; have HS6 := hide hS6; clear hS6) | (go_at_call 119; refine (must_not _).mono ?_; rintro e w7 ⟨rfl, rfl⟩))
          refine ⟨rfl, Or.inl ⟨?_, rfl, HS6.out.base⟩⟩
          rw [← HE.out, HB.out, rdN, if_neg (fun h => hfit h.2)]
      · have q1 : ¬ (place : Int) < 64 := by omega
        go_wp2_with (first | (go_at_call 160; refine HNX.out.mono ?_; rintro e w6 ⟨rfl, hS6⟩; have HS6 := hide hS6; clear hS6) | (go_at_call 119; refine (must_not _).mono ?_; rintro e w7 ⟨rfl, rfl⟩))
        refine ⟨rfl, Or.inl ⟨?_, rfl, HS6.out.base⟩⟩
        rw [← HE.out, HB.out, rdN, if_neg (fun h => h64 h.1)]
    · have HNX := hide (next_no W w5 b k' s HS.out hs hk)
      have e0 : Hid ((byt s).drop k' = []) := List.drop_eq_nil_iff.2 (by rw [byt_len]; omega)
      go_wp2_with (go_at_call 160; refine HNX.out.mono ?_; rintro e w6 ⟨rfl, hS6⟩)
      refine ⟨rfl, Or.inl ⟨?_, rfl, hS6⟩⟩
      rw [← HE.out, e0.out, rdN]

end Go.Proofs.YtklenjmfalljgaaDoor
