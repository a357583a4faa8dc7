/- The walks of Append and Parse. -/
import Derived.Test.YthgeiolabecikaaDoorScn3
import Derived.Test.YthgeiolabecikaaDoorSch2
namespace Go.Proofs.YthgeiolabecikaaDoor
open Go.RowKit
attribute [local go_sem] Go.World.cell?_alloc_some

theorem ints_rep (l : List Int) (t : Int) (k : Nat) : ints (l ++ List.replicate (k + 1) t) = ints (l ++ List.replicate k t) ++ [.int .i64 t] := by
  rw [List.replicate_succ', ← List.append_assoc, ints_snoc]

set_option maxRecDepth 100000 in
set_option maxHeartbeats 4000000 in
theorem append_m (W0 w : World) (r : Option Nat) (sv : Value) (l : List Int) (t : Int) (c : Nat) (h : w.ownsRow W0.heap.size 3 1 sv l.length (ints l)) (hW : W0.grownBy w r) (hc : c ≤ 501) (hl : l.length ≤ 501) :
    Calls Tryd.prog 85 #[sv, .agg #[.int .i64 t, .int .i64 c]] w fun e w' => ∃ sv', e = .returned sv' ∧ w'.ownsRow W0.heap.size 3 1 sv' (l ++ List.replicate c t).length (ints (l ++ List.replicate c t)) ∧ W0.grownBy w' r ∧ w.grownBy w' sv.ownBlock ∧ ((∃ x y z, sv' = .slice x y z)) := by
  obtain ⟨i0, hi0, hz0, hz1, hz2⟩ := info_parts info_int
  obtain ⟨sa, sn, sc, rfl⟩ := owns_form h
  have HO := hide h
  have HW := hide hW
  have hW0 := hW.size
  clear h hW
  go_enter Tryd.func85, Tryd.ntmps85
  go_wp2_with fail
  go_loopw [0, 7] (fun lv i w' => ∃ k : Nat, k ≤ c ∧ i = .int .i64 k ∧ Hid (w'.ownsRow W0.heap.size 3 1 lv (l.length + k) (ints (l ++ List.replicate k t)) ∧ W0.grownBy w' r ∧ w'.heap[w.heap.size]? = some (.cells #[.int .i64 t, .int .i64 c] 162 (0, 0)) ∧ lv.ownBlock ≠ some w.heap.size ∧ w.grownBy w' (Value.slice sa sn sc).ownBlock ∧ ∀ k, lv.ownBlock = some k → (Value.slice sa sn sc).ownBlock = some k ∨ w.heap.size ≤ k)) (fun _ i _ => c - (intOf i).toNat)
  case atStart =>
    refine ⟨0, Nat.zero_le _, rfl, ?_, grown_alloc HW.out, heap_alloc_new _ _, ?_, grown_alloc (grown_refl _ _), fun k e => Or.inl e⟩
    · simpa using owns_alloc (o := .cells #[.int .i64 t, .int .i64 c] 162) HO.out
    · intro e
      rcases HO.out.2 with ⟨e1, _⟩ | ⟨g, cap, cur, hv, _, hh, _⟩
      · rw [e1] at e; cases e
      · rw [hv] at e
        simp [Value.ownBlock] at e
        have := (Array.getElem?_eq_some_iff.1 hh).1
        omega
  case round =>
    obtain ⟨k, hk, rfl, HL⟩ := hrel
    obtain ⟨w5, hw5⟩ : ∃ w5, w5 = wr := ⟨_, rfl⟩
    subst hw5
    obtain ⟨l1, l2, l3, l4, l5, l6⟩ := HL.out
    have d0 : w5.cell? ⟨w.heap.size, 0, none⟩ = some (.int .i64 t) := by simp [World.cell?, l3]
    have d1 : w5.cell? ⟨w.heap.size, 1, none⟩ = some (.int .i64 c) := by simp [World.cell?, l3]
    have hlt3 : w.heap.size < w5.heap.size := (Array.getElem?_eq_some_iff.1 l3).1
    by_cases hkl : k < c
    · have q3 : (k : Int) < c := by omega
      have h63 : l.length + k + 1 ≤ maxLen := by unfold maxLen; omega
      have hob := owns_block l1
      have L1 := hide l1
      have L2 := hide l2
      have L3 := hide l3
      have L4 := hide l4
      have L5 := hide l5
      have L6 := hide l6
      have hn : w5.heap.size ≠ w.heap.size := by omega
      clear l1 l2 l3 l4 l5 l6
      go_wp2_with (at_builtin; refine wpList_append_lies _ rfl _ _ _ rfl W0.heap.size 3 i0 _ 1 8 Tryd.underlying25 hi0 hz0 hz1 hz2 rfl (by omega) u0 (l.length + k) (ints (l ++ List.replicate k t)) rfl (owns_alloc L1.out) ⟨w5.heap.size, 0, none⟩ 1 1 [.int .i64 t] rfl rfl (World.news_of_block (cs := #[.int .i64 t]) (t := 3) (fr := (0, 0)) (heap_alloc_new w5 _)) (by simp [Value.oneCell']) (by omega) h63 (by omega) (by simp; have := L2.out.size; omega) (w5.heap.size + 1) (by simp) ?_; intro g6 cap6 w6 hown6 hgrow hat hlt6)
      have HNX : Hid (w6.ownsRow W0.heap.size 3 1 (.slice (some ⟨g6, 0, none⟩) (l.length + k + 1) cap6) (l.length + (k + 1)) (ints (l ++ List.replicate (k + 1) t)) ∧ W0.grownBy w6 r ∧ w6.heap[w.heap.size]? = some (.cells #[.int .i64 t, .int .i64 c] 162 (0, 0)) ∧ (Value.slice (some ⟨g6, 0, none⟩) (l.length + k + 1) cap6).ownBlock ≠ some w.heap.size ∧ w.grownBy w6 (Value.slice sa sn sc).ownBlock ∧ ∀ q, (Value.slice (some ⟨g6, 0, none⟩) (l.length + k + 1) cap6).ownBlock = some q → (Value.slice sa sn sc).ownBlock = some q ∨ w.heap.size ≤ q) := by
        refine ⟨?_, grown_row (grown_alloc L2.out) hgrow (fun q e => hob q e), ?_, ?_, ?_, ?_⟩
        · rw [ints_rep]; exact hown6
        · rw [hgrow.block _ (by simp; omega) (fun e => L4.out e.symm), Below.heap_alloc _ _ _ hlt3]; exact L3.out
        · simp only [Value.ownBlock]
          rcases hat with e | e
          · rw [← e]; exact L4.out
          · rw [e]; simp; omega
        · have hg5 := grown_alloc (o := .cells #[.int .i64 t] 3) L5.out
          refine ⟨hgrow.os.trans hg5.os, hgrow.tape.trans hg5.tape, hgrow.output.trans hg5.output, Nat.le_trans hg5.size hgrow.size, fun q hq hr => ?_⟩
          rw [hgrow.block q (Nat.lt_of_lt_of_le hq hg5.size) (fun e => by
            rcases L6.out q e.symm with e2 | e2
            · exact hr e2.symm
            · omega)]
          exact hg5.block q hq hr
        · intro q e
          rcases hat with e2 | e2
          · exact L6.out q (by rw [e2]; exact e)
          · right
            simp only [Value.ownBlock, Option.some.injEq] at e
            omega
      clear hown6 hgrow hat
      go_wp2
      go_roundw
      case rel => exact ⟨k + 1, by omega, by go_num, HNX⟩
      case measure => simp [intOf]; omega
    · have ek : k = c := by omega
      have q2 : (c : Int) ≤ (k : Int) := by omega
      subst ek
      have L1 := hide l1
      have L2 := hide l2
      obtain ⟨m1, m2, m3, rfl⟩ := owns_form l1
      have L5 := hide l5
      clear l1 l2 l3 l4 l5 l6 HL
      go_wp2
      go_ret
      exact ⟨_, rfl, by simpa using L1.out, L2.out, L5.out, _, _, _, rfl⟩

def endP (s : ByteArray) (sch : List Int) (total : Int) (a : Nat) : ParP := if a < s.size then ⟨[], a, false⟩ else if total = 501 then ⟨[], 0, false⟩ else ⟨sch, 0, true⟩

theorem loop_bad {f : Nat} {sch : List Int} {last total : Int} {a : Nat} {s : ByteArray} (h : (runT s a last).ok = false) : loopP (f + 1) sch last total a ((byt s).drop a) = ⟨[], a + (runT s a last).len, false⟩ := by
  rw [loopP]
  unfold runT at *
  rw [if_neg (by rw [h]; simp)]
theorem loop_more {f : Nat} {sch : List Int} {last total : Int} {a : Nat} {s : ByteArray} (h : (runT s a last).ok = true) (h2 : hitB s (a + (runT s a last).len) 32 = true) :
    loopP (f + 1) sch last total a ((byt s).drop a) = loopP f (addRun sch (min (total + (runT s a last).count) 501) (runT s a last).count (runT s a last).thread) (runT s a last).thread (min (total + (runT s a last).count) 501) (a + (runT s a last).len + 1) ((byt s).drop (a + (runT s a last).len + 1)) := by
  have h3 : (byt s)[a + (runT s a last).len]? = some 32 := by unfold hitB at h2; simpa using h2
  have h4 := drop_get h3
  rw [loopP]
  unfold runT at *
  rw [if_pos h, List.drop_drop, h4]
  simp only [if_true]
theorem loop_end {f : Nat} {sch : List Int} {last total : Int} {a : Nat} {s : ByteArray} (h : (runT s a last).ok = true) (h2 : hitB s (a + (runT s a last).len) 32 = false) :
    loopP (f + 1) sch last total a ((byt s).drop a) = endP s (addRun sch (min (total + (runT s a last).count) 501) (runT s a last).count (runT s a last).thread) (min (total + (runT s a last).count) 501) (a + (runT s a last).len) := by
  unfold hitB at h2
  rw [loopP]
  unfold runT endP at *
  rw [if_pos h, List.drop_drop]
  cases h3 : (byt s)[a + (runP last ((byt s).drop a)).len]? with
  | none =>
    have h5 := List.getElem?_eq_none_iff.1 h3
    rw [List.drop_eq_nil_of_le h5]
    rw [byt_len] at h5
    rw [if_neg (show ¬ a + (runP last ((byt s).drop a)).len < s.size by omega)]
  | some c =>
    have h4 := drop_get h3
    have h5 := hi_lt_of_get h3
    rw [byt_len] at h5
    rw [h4, if_pos h5]
    rw [h3] at h2
    have : c ≠ 32 := by simpa using h2
    simp only [if_neg this]

/-- In the midst of a text. -/
structure ParIn (W0 : World) (b : Nat) (s : ByteArray) (f : Nat) (sch : List Int) (last total : Int) (a : Nat) (w' : World) : Prop where
  grown : W0.grownBy w' (some b)
  sc : ScAt w' b s a
  le : a ≤ s.size
  lo : -1 ≤ last
  hi : last ≤ 63
  t0 : 0 ≤ total
  t1 : total ≤ 501
  sl : (sch.length : Int) ≤ total
  fu : s.size - a < f
  eq : loopP f sch last total a ((byt s).drop a) = parseP (byt s)

/-- Behind the last run. -/
structure ParEnd (W0 : World) (b : Nat) (s : ByteArray) (sch : List Int) (total : Int) (a : Nat) (w' : World) : Prop where
  grown : W0.grownBy w' (some b)
  sc : ScAt w' b s a
  le : a ≤ s.size
  t0 : 0 ≤ total
  t1 : total ≤ 501
  sl : (sch.length : Int) ≤ total
  eq : endP s sch total a = parseP (byt s)

def mPar (m : Value) (w : World) (b n : Nat) : Nat := match m with
  | .bool true => n + 1 - atOf w b
  | _ => 0

def ParsedAt (s : ByteArray) (w : World) (e : Ending) (w' : World) : Prop :=
  ∃ x y z, e = .returned (.tuple #[.slice x y z, .int .i64 (parseP (byt s)).at_, .bool (parseP (byt s)).ok]) ∧ w'.ownsRow (w.heap.size + 1) 3 1 (.slice x y z) (parseP (byt s)).out.length (ints (parseP (byt s)).out) ∧ w.grownBy w' none

theorem runT_len (s : ByteArray) (a : Nat) (last : Int) (ha : a ≤ s.size) : a + (runT s a last).len ≤ s.size := by
  have := (auto last ((byt s).drop a)).len
  rw [List.length_drop, byt_len] at this
  unfold runT
  omega

set_option maxRecDepth 100000 in
set_option maxHeartbeats 400000 in
theorem rparse_m (s : ByteArray) (w : World) (hs : s.size ≤ 9223372036854775806) :
    Calls Tryd.prog 57 #[.string s] w (ParsedAt s w) := by
  obtain ⟨b, hb⟩ : ∃ b, b = w.heap.size := ⟨_, rfl⟩
  obtain ⟨W0, hW0⟩ : ∃ W0, W0 = w.alloc (.cells #[.string s, .int .i64 0] 166) := ⟨_, rfl⟩
  have hsc0 : ScAt W0 b s 0 := by unfold ScAt; rw [hW0, hb]; exact heap_alloc_new w _
  have hW0s : W0.heap.size = b + 1 := by rw [hW0, hb]; simp
  have hwW : w.grownBy W0 none := by rw [hW0]; exact grown_alloc (grown_refl _ _)
  have HFIN : Hid (∀ w', W0.grownBy w' (some b) → w.grownBy w' none) := by
    intro w' h
    refine ⟨h.os.trans hwW.os, h.tape.trans hwW.tape, h.output.trans hwW.output, Nat.le_trans hwW.size h.size, fun k hk _ => ?_⟩
    rw [h.block k (by omega) (by simp; omega)]; exact hwW.block k hk (by simp)
  have HSC0 := hide hsc0
  clear hsc0
  have fin : ∀ w4, W0.grownBy w4 (some b) → ∀ (x : Option Addr) (y z : Nat) (p : ParP), p = parseP (byt s) → w4.ownsRow (b + 1) 3 1 (.slice x y z) p.out.length (ints p.out) → ParsedAt s w (.returned (.tuple #[.slice x y z, .int .i64 p.at_, .bool p.ok])) w4 := by
    intro w4 hg x y z p hp ho
    subst hp
    exact ⟨x, y, z, rfl, by rw [← hb]; exact ho, HFIN.out _ hg⟩
  have FIN := hide fin
  clear fin HFIN
  have hnil : ∀ w4 : World, w4.ownsRow (b + 1) 3 1 (.slice none 0 0) ([] : List Int).length (ints []) := fun w4 => ⟨rfl, Or.inl ⟨rfl, rfl⟩⟩
  have HNIL := hide hnil
  clear hnil
  go_enter Tryd.func57, Tryd.ntmps57
  by_cases hs0 : s.size = 0
  · obtain rfl : s = ⟨#[]⟩ := by
      obtain ⟨d⟩ := s
      simp [ByteArray.size] at hs0
      rw [hs0]
    go_wp2_with fail
    rw [← hW0, ← hb]
    clear hW0 hb hwW
    go_loopw [5, 8, 9] (fun sv t m w' => sv = .slice none 0 0 ∧ t = .int .i64 0 ∧ m = .bool false ∧ w' = W0) (fun _ _ _ _ => 0)
    case atStart => exact ⟨rfl, rfl, rfl, rfl⟩
    case round =>
      obtain ⟨rfl, rfl, rfl, rfl⟩ := hrel
      have c1 : wr.cell? ⟨b, 1, none⟩ = some (.int .i64 0) := HSC0.out.c1
      have hs1 : (⟨#[]⟩ : ByteArray).size = 0 := rfl
      go_wp2_with fail
      refine bodyPost_ret (v := .tuple #[.slice none 0 0, .int .i64 0, .bool true]) (by simp [results, Tryd.results57, go_sem]) rfl ?_
      exact FIN.out _ (grown_refl _ _) none 0 0 ⟨[], 0, true⟩ rfl (HNIL.out _)
  · have hne : s ≠ ⟨#[]⟩ := by intro e; rw [e] at hs0; simp [ByteArray.size] at hs0
    go_wp2_with fail
    rw [← hW0, ← hb]
    have H0 : Hid (ParIn W0 b s (s.size + 1) [] (-1) 0 0 W0) := by
      refine ⟨grown_refl _ _, HSC0.out, by omega, by omega, by omega, by omega, by omega, by simp, by omega, ?_⟩
      unfold parseP
      rw [if_neg (by intro e; have := congrArg List.length e; rw [byt_len] at this; exact hs0 this), byt_len]
      rfl
    have hbW : b < W0.heap.size := by omega
    have hie : s.toList.isEmpty = false := by
      rw [ByteArray.toList_eq]
      cases hd : s.data.toList with
      | nil => exact absurd (by have := congrArg List.length hd; simpa using this) hs0
      | cons a b => rfl
    rw [hie, Bool.not_false]
    clear hne hs0 hW0 hwW hie
    clear hb
    go_loopw [5, 7, 8, 9] (fun sv l t m w' => ∃ (sch : List Int) (f : Nat) (last total : Int) (mb : Bool) (a' : Nat), l = .int .i64 last ∧ t = .int .i64 total ∧ m = .bool mb ∧ Hid ((mb = true ∧ ParIn W0 b s f sch last total a' w') ∨ (mb = false ∧ ParEnd W0 b s sch total a' w')) ∧ Hid (w'.ownsRow (b + 1) 3 1 sv sch.length (ints sch))) (fun _ _ _ m w' => mPar m w' b s.size)
    case atStart => exact ⟨[], s.size + 1, -1, 0, true, 0, rfl, rfl, rfl, hide (Or.inl ⟨rfl, H0.out⟩), hide (HNIL.out _)⟩
    case round =>
      obtain ⟨sch, f, last, total, mb, a', rfl, rfl, rfl, HI, HO⟩ := hrel
      obtain ⟨x1, x2, x3, rfl⟩ := owns_form HO.out
      rcases HI.out with ⟨rfl, hp⟩ | ⟨rfl, hp⟩
      · have HP := hide hp
        have HAT : Hid (atOf wr b = a') := atOf_sc hp.sc
        obtain ⟨f, rfl⟩ : ∃ f', f = f' + 1 := ⟨f - 1, by have := hp.fu; omega⟩
        have hle := hp.le
        have ht0 := hp.t0
        have ht1 := hp.t1
        have hsl := hp.sl
        have hfu := hp.fu
        clear hp HI
        go_wp2_with fail
        refine (run_sc s b a' last _ HP.out.sc hle hs).mono ?_
        rintro e w1 ⟨hg1, rfl, hs1, hc0, hc1, htl, hth⟩
        have hle2 := runT_len s a' last hle
        have HG1 : Hid (W0.grownBy w1 (some b)) := grown_trans HP.out.grown hg1
        have HO1 : Hid (w1.ownsRow (b + 1) 3 1 (.slice x1 x2 x3) sch.length (ints sch)) := owns_grown HO.out hg1 (fun k e => by simp at e; omega)
        have HS1 := hide hs1
        have hsz1 := hs1.lt
        clear hg1 hs1 HO
        cases hok : (runT s a' last).ok with
        | false =>
          have HB : Hid (parseP (byt s) = ⟨[], a' + (runT s a' last).len, false⟩) := by
            unfold Hid; rw [← HP.out.eq]; exact loop_bad hok
          have c1 := HS1.out.c1
          go_wp2_with fail
          go_quiet (fail)
          go_wp2_with fail
          refine bodyPost_ret (v := .tuple #[.slice none 0 0, .int .i64 ((a' + (runT s a' last).len : Nat) : Int), .bool false]) (by simp [results, Tryd.results57, go_sem]) rfl ?_
          exact FIN.out _ (grown_drewN _ (grown_alloc HG1.out)) none 0 0 ⟨[], a' + (runT s a' last).len, false⟩ HB.out.symm (HNIL.out _)
        | true =>
          have HGa : ∀ o, W0.grownBy (w1.alloc o) (some b) := fun o => grown_alloc HG1.out
          have HOa : ∀ o, (w1.alloc o).ownsRow (b + 1) 3 1 (.slice x1 x2 x3) sch.length (ints sch) := fun o => owns_alloc HO1.out
          have HSa : ∀ o, ScAt (w1.alloc o) b s (a' + (runT s a' last).len) := fun o => HS1.out.grown (grown_alloc (grown_refl _ _))
          obtain ⟨w3, hw3⟩ : ∃ w3, w3 = w1.alloc (.cells #[.int .i64 (runT s a' last).thread, .int .i64 (runT s a' last).count] 162) := ⟨_, rfl⟩
          have HO3 : Hid (w3.ownsRow (b + 1) 3 1 (.slice x1 x2 x3) sch.length (ints sch)) := by rw [hw3]; exact HOa _
          have HS3 : Hid (ScAt w3 b s (a' + (runT s a' last).len)) := by rw [hw3]; exact HSa _
          have HG3 : Hid (W0.grownBy w3 (some b)) := by rw [hw3]; exact HGa _
          clear HGa HOa HSa
          have HW3 := hide hw3
          clear hw3
          by_cases hm : 501 < total + (runT s a' last).count
          · have HTC : Hid (min (total + (runT s a' last).count) 501 = 501) := by unfold Hid; omega
            have HSC3 : Hid (addRun sch 501 (runT s a' last).count (runT s a' last).thread = sch) := by
              unfold Hid addRun; rw [if_neg (by omega)]
            have hsl3 : (sch.length : Int) ≤ 501 := by omega
            have hsz3 : b < w3.heap.size := HS3.out.lt
            have hle3 : a' + (runT s a' last).len ≤ s.size := hle2
            go_wp2_with fail
            rw [← HW3.out]
            refine (skip_m s b _ 32 _ HS3.out hle3 hs).mono ?_
            rintro e w4 ⟨hg4, rfl, hs4⟩
            have HO4 : Hid (w4.ownsRow (b + 1) 3 1 (.slice x1 x2 x3) sch.length (ints sch)) := owns_grown HO3.out hg4 (fun k e => by simp at e; omega)
            have HG4 : Hid (W0.grownBy w4 (some b)) := grown_trans HG3.out hg4
            unfold skAt at hs4
            cases hit : hitB s (a' + (runT s a' last).len) 32 with
            | true =>
              rw [hit, if_pos rfl] at hs4
              have HN : Hid (ParIn W0 b s f sch (runT s a' last).thread 501 (a' + (runT s a' last).len + 1) w4) := by
                have hlt : a' + (runT s a' last).len < s.size := by
                  unfold hitB at hit
                  have := hi_lt_of_get (show (byt s)[a' + (runT s a' last).len]? = some 32 by simpa using hit)
                  rwa [byt_len] at this
                exact ⟨HG4.out, hs4, by omega, htl, hth, by omega, by omega, hsl3, by omega, by have e := HP.out.eq; rw [loop_more hok hit, HTC.out, HSC3.out] at e; exact e⟩
              clear hg4 hs4
              go_wp2_with fail
              go_roundw
              case rel => exact ⟨sch, f, (runT s a' last).thread, 501, true, a' + (runT s a' last).len + 1, rfl, rfl, rfl, hide (Or.inl ⟨rfl, HN.out⟩), HO4⟩
              case measure =>
                have e1 := atOf_sc HN.out.sc
                have e2 := HAT.out
                have e3 := HN.out.le
                simp only [mPar, e1, e2]
                omega
            | false =>
              rw [hit, if_neg (by simp)] at hs4
              have HN : Hid (ParEnd W0 b s sch 501 (a' + (runT s a' last).len) w4) :=
                ⟨HG4.out, hs4, by omega, by omega, by omega, hsl3, by have e := HP.out.eq; rw [loop_end hok hit, HTC.out, HSC3.out] at e; exact e⟩
              clear hg4 hs4
              go_wp2_with fail
              go_roundw
              case rel => exact ⟨sch, f, (runT s a' last).thread, 501, false, a' + (runT s a' last).len, rfl, rfl, rfl, hide (Or.inr ⟨rfl, HN.out⟩), HO4⟩
              case measure =>
                have e2 := HAT.out
                simp only [mPar, e2]
                omega
          · have HTC : Hid (min (total + (runT s a' last).count) 501 = (total + (runT s a' last).count)) := by unfold Hid; omega
            by_cases hm2 : total + (runT s a' last).count = 501
            · have HSC3 : Hid (addRun sch (total + (runT s a' last).count) (runT s a' last).count (runT s a' last).thread = sch) := by
                unfold Hid addRun; rw [if_neg (by omega)]
              have hsl3 : (sch.length : Int) ≤ (total + (runT s a' last).count) := by omega
              have hm3 : ¬ (total + (runT s a' last).count < 501) := by omega
              have HM2 := hide hm2
              clear hm2
              have hsz3 : b < w3.heap.size := HS3.out.lt
              have hle3 : a' + (runT s a' last).len ≤ s.size := hle2
              go_wp2_with fail
              rw [← HW3.out]
              refine (skip_m s b _ 32 _ HS3.out hle3 hs).mono ?_
              rintro e w4 ⟨hg4, rfl, hs4⟩
              have HO4 : Hid (w4.ownsRow (b + 1) 3 1 (.slice x1 x2 x3) sch.length (ints sch)) := owns_grown HO3.out hg4 (fun k e => by simp at e; omega)
              have HG4 : Hid (W0.grownBy w4 (some b)) := grown_trans HG3.out hg4
              unfold skAt at hs4
              cases hit : hitB s (a' + (runT s a' last).len) 32 with
              | true =>
                rw [hit, if_pos rfl] at hs4
                have HN : Hid (ParIn W0 b s f sch (runT s a' last).thread (total + (runT s a' last).count) (a' + (runT s a' last).len + 1) w4) := by
                  have hlt : a' + (runT s a' last).len < s.size := by
                    unfold hitB at hit
                    have := hi_lt_of_get (show (byt s)[a' + (runT s a' last).len]? = some 32 by simpa using hit)
                    rwa [byt_len] at this
                  exact ⟨HG4.out, hs4, by omega, htl, hth, by omega, by omega, hsl3, by omega, by have e := HP.out.eq; rw [loop_more hok hit, HTC.out, HSC3.out] at e; exact e⟩
                clear hg4 hs4
                go_wp2_with fail
                go_roundw
                case rel => exact ⟨sch, f, (runT s a' last).thread, (total + (runT s a' last).count), true, a' + (runT s a' last).len + 1, rfl, rfl, rfl, hide (Or.inl ⟨rfl, HN.out⟩), HO4⟩
                case measure =>
                  have e1 := atOf_sc HN.out.sc
                  have e2 := HAT.out
                  have e3 := HN.out.le
                  simp only [mPar, e1, e2]
                  omega
              | false =>
                rw [hit, if_neg (by simp)] at hs4
                have HN : Hid (ParEnd W0 b s sch (total + (runT s a' last).count) (a' + (runT s a' last).len) w4) :=
                  ⟨HG4.out, hs4, by omega, by omega, by omega, hsl3, by have e := HP.out.eq; rw [loop_end hok hit, HTC.out, HSC3.out] at e; exact e⟩
                clear hg4 hs4
                go_wp2_with fail
                go_roundw
                case rel => exact ⟨sch, f, (runT s a' last).thread, (total + (runT s a' last).count), false, a' + (runT s a' last).len, rfl, rfl, rfl, hide (Or.inr ⟨rfl, HN.out⟩), HO4⟩
                case measure =>
                  have e2 := HAT.out
                  simp only [mPar, e2]
                  omega
            · have hm3 : total + (runT s a' last).count < 501 := by omega
              obtain ⟨c, hc⟩ := Int.eq_ofNat_of_zero_le hc0
              obtain ⟨sch3, hs3⟩ : ∃ sch3, sch3 = sch ++ List.replicate c (runT s a' last).thread := ⟨_, rfl⟩
              have HSC3 : Hid (addRun sch (total + (runT s a' last).count) (runT s a' last).count (runT s a' last).thread = sch3) := by
                unfold Hid addRun; rw [if_pos (by omega), hs3, hc]; rfl
              have hsl3 : (sch3.length : Int) ≤ (total + (runT s a' last).count) := by rw [hs3]; simp; omega
              have HAP := append_m W0 w3 (some b) (.slice x1 x2 x3) sch (runT s a' last).thread c (by rw [hW0s]; exact HO3.out) HG3.out (by omega) (by omega)
              rw [hW0s, ← hs3, ← hc] at HAP
              have HAPP := hide HAP
              have HC := hide hc
              have HS3' := hide hs3
              clear HAP hc hs3
              clear hm2
              go_wp2_with fail
              rw [← HW3.out]
              refine HAPP.out.mono ?_
              rintro e w5 ⟨sv5, rfl, ho5, hg5, hk5, y1, y2, y3, rfl⟩
              have HS5 : Hid (ScAt w5 b s (a' + (runT s a' last).len)) := by
                have h3 := HS3.out
                have hl3 := h3.lt
                have hob := owns_block HO3.out
                unfold Hid ScAt at *
                rw [hk5.block b hl3 (fun e => by have := hob b e.symm; omega)]; exact h3
              have HO5 := hide ho5
              have HG5 := hide hg5
              clear ho5 hg5 hk5 HAPP
              have hsz3 : b < w5.heap.size := HS5.out.lt
              have hle3 : a' + (runT s a' last).len ≤ s.size := hle2
              go_wp2_with fail
              refine (skip_m s b _ 32 _ HS5.out hle3 hs).mono ?_
              rintro e w4 ⟨hg4, rfl, hs4⟩
              have HO4 : Hid (w4.ownsRow (b + 1) 3 1 (.slice y1 y2 y3) sch3.length (ints sch3)) := owns_grown HO5.out hg4 (fun k e => by simp at e; omega)
              have HG4 : Hid (W0.grownBy w4 (some b)) := grown_trans HG5.out hg4
              unfold skAt at hs4
              cases hit : hitB s (a' + (runT s a' last).len) 32 with
              | true =>
                rw [hit, if_pos rfl] at hs4
                have HN : Hid (ParIn W0 b s f sch3 (runT s a' last).thread (total + (runT s a' last).count) (a' + (runT s a' last).len + 1) w4) := by
                  have hlt : a' + (runT s a' last).len < s.size := by
                    unfold hitB at hit
                    have := hi_lt_of_get (show (byt s)[a' + (runT s a' last).len]? = some 32 by simpa using hit)
                    rwa [byt_len] at this
                  exact ⟨HG4.out, hs4, by omega, htl, hth, by omega, by omega, hsl3, by omega, by have e := HP.out.eq; rw [loop_more hok hit, HTC.out, HSC3.out] at e; exact e⟩
                clear hg4 hs4
                go_wp2_with fail
                go_roundw
                case rel => exact ⟨sch3, f, (runT s a' last).thread, (total + (runT s a' last).count), true, a' + (runT s a' last).len + 1, rfl, rfl, rfl, hide (Or.inl ⟨rfl, HN.out⟩), HO4⟩
                case measure =>
                  have e1 := atOf_sc HN.out.sc
                  have e2 := HAT.out
                  have e3 := HN.out.le
                  simp only [mPar, e1, e2]
                  omega
              | false =>
                rw [hit, if_neg (by simp)] at hs4
                have HN : Hid (ParEnd W0 b s sch3 (total + (runT s a' last).count) (a' + (runT s a' last).len) w4) :=
                  ⟨HG4.out, hs4, by omega, by omega, by omega, hsl3, by have e := HP.out.eq; rw [loop_end hok hit, HTC.out, HSC3.out] at e; exact e⟩
                clear hg4 hs4
                go_wp2_with fail
                go_roundw
                case rel => exact ⟨sch3, f, (runT s a' last).thread, (total + (runT s a' last).count), false, a' + (runT s a' last).len, rfl, rfl, rfl, hide (Or.inr ⟨rfl, HN.out⟩), HO4⟩
                case measure =>
                  have e2 := HAT.out
                  simp only [mPar, e2]
                  omega
      · have HP := hide hp
        have c1 := hp.sc.c1
        have hle := hp.le
        clear hp HI
        by_cases hlt : a' < s.size
        · have HE : Hid (parseP (byt s) = ⟨[], a', false⟩) := by unfold Hid; rw [← HP.out.eq, endP, if_pos hlt]
          have q1 : (a' : Int) < s.size := by omega
          go_wp2_with fail
          go_quiet (fail)
          go_wp2_with fail
          refine bodyPost_ret (v := .tuple #[.slice none 0 0, .int .i64 (a' : Int), .bool false]) (by simp [results, Tryd.results57, go_sem]) rfl ?_
          exact FIN.out _ (grown_drewN _ HP.out.grown) none 0 0 ⟨[], a', false⟩ HE.out.symm (HNIL.out _)
        · have q1 : (s.size : Int) ≤ a' := by omega
          by_cases h5 : total = 501
          · have HE : Hid (parseP (byt s) = ⟨[], 0, false⟩) := by unfold Hid; rw [← HP.out.eq, endP, if_neg hlt, if_pos h5]
            have h6 : (total == 501) = true := by simpa using h5
            clear h5
            go_wp2_with fail
            refine bodyPost_ret (v := .tuple #[.slice none 0 0, .int .i64 0, .bool false]) (by simp [results, Tryd.results57, go_sem]) rfl ?_
            exact FIN.out _ HP.out.grown none 0 0 ⟨[], 0, false⟩ HE.out.symm (HNIL.out _)
          · have HE : Hid (parseP (byt s) = ⟨sch, 0, true⟩) := by unfold Hid; rw [← HP.out.eq, endP, if_neg hlt, if_neg h5]
            go_wp2_with fail
            refine bodyPost_ret (v := .tuple #[.slice x1 x2 x3, .int .i64 0, .bool true]) (by simp [results, Tryd.results57, go_sem]) rfl ?_
            exact FIN.out _ HP.out.grown x1 x2 x3 ⟨sch, 0, true⟩ HE.out.symm HO.out

end Go.Proofs.YthgeiolabecikaaDoor
