/- The texts TxtW Prn Prn2 RefA RefB RefC RefD RefE RefF. -/
import Derived.Test.YtklenjmfalljgaaDoorMD
import Derived.Lib.ItoaNum
import Derived.Lib.Join
import Derived.Test.YtklenjmfalljgaaDoorShelf
import Derived.Lib.QuietBelow
import Derived.Lib.AppendIntMem

/- The runs of a schedule and their text, as plain functions (no dump is named here). -/
namespace Go.Proofs.YtklenjmfalljgaaDoor

def validS (l : List Int) : Bool := decide (l.length ≤ 500) && l.all fun t => decide (0 ≤ t) && decide (t ≤ 63)

def grp : List Int → List (Int × Int)
  | [] => []
  | t :: r => match grp r with
    | [] => [(t, 1)]
    | x :: q => if t = x.1 then (t, x.2 + 1) :: q else (t, 1) :: x :: q

def bump : List (Int × Int) → List (Int × Int)
  | [] => []
  | [x] => [(x.1, x.2 + 1)]
  | x :: y :: q => x :: bump (y :: q)

theorem grp_head (t : Int) (r : List Int) : ∃ n q, grp (t :: r) = (t, n) :: q := by
  unfold grp
  cases grp r with
  | nil => exact ⟨_, _, rfl⟩
  | cons x q => simp only; split <;> exact ⟨_, _, rfl⟩
theorem grp_ne {l : List Int} (h : l ≠ []) : grp l ≠ [] := by
  cases l with
  | nil => exact absurd rfl h
  | cons t r => obtain ⟨n, q, e⟩ := grp_head t r; rw [e]; simp

theorem grp_snoc (l : List Int) (t : Int) : grp (l ++ [t]) = if l.getLast? = some t then bump (grp l) else grp l ++ [(t, 1)] := by
  induction l with
  | nil => simp [grp]
  | cons a r ih =>
    cases r with
    | nil =>
      by_cases h : a = t
      · simp [grp, bump, h]
      · simp [grp, h]
    | cons b s =>
      have e1 : (a :: b :: s).getLast? = (b :: s).getLast? := by simp [List.getLast?_cons_cons]
      rw [e1]
      obtain ⟨n, q, e⟩ := grp_head b s
      have e2 : a :: b :: s ++ [t] = a :: (b :: s ++ [t]) := rfl
      have e3 : grp (a :: b :: s) = if a = b then (a, n + 1) :: q else (a, 1) :: (b, n) :: q := by
        conv => lhs; rw [grp, e]
      rw [e2, grp, ih, e3, e]
      by_cases hl : (b :: s).getLast? = some t
      · rw [if_pos hl, if_pos hl]
        by_cases hab : a = b
        · rw [if_pos hab]
          cases q with
          | nil => simp [bump, hab]
          | cons x q => simp [bump, hab]
        · rw [if_neg hab]
          cases q with
          | nil => simp [bump, hab]
          | cons x q => simp [bump, hab]
      · rw [if_neg hl, if_neg hl]
        by_cases hab : a = b
        · rw [if_pos hab]; simp [hab]
        · rw [if_neg hab]; simp [hab]

theorem grp_last (l : List Int) : (grp l).getLast?.map (·.1) = l.getLast? := by
  induction l with
  | nil => rfl
  | cons a r ih =>
    cases r with
    | nil => rfl
    | cons b s =>
      obtain ⟨n, q, e⟩ := grp_head b s
      rw [grp, e]
      rw [e] at ih
      rw [List.getLast?_cons_cons]
      simp only
      split
      · rename_i h
        rw [← ih]
        cases q with
        | nil => simp [h]
        | cons x q => simp [List.getLast?_cons_cons]
      · rw [← ih]; simp [List.getLast?_cons_cons]

theorem grp_len (l : List Int) : (grp l).length ≤ l.length := by
  induction l with
  | nil => simp [grp]
  | cons a r ih =>
    unfold grp
    cases h : grp r with
    | nil => simp
    | cons x q =>
      rw [h] at ih
      simp only
      split
      · simp at ih ⊢; omega
      · simpa using ih

theorem grp_mem (l : List Int) : ∀ x ∈ grp l, x.1 ∈ l ∧ 1 ≤ x.2 ∧ x.2 ≤ l.length := by
  induction l with
  | nil => simp [grp]
  | cons a r ih =>
    unfold grp
    cases h : grp r with
    | nil => simp; omega
    | cons x q =>
      rw [h] at ih
      have hx := ih x (by simp)
      simp only
      split
      · rename_i e
        intro y hy
        rcases List.mem_cons.1 hy with rfl | hy
        · simp; omega
        · have := ih y (by simp [hy]); simp; exact ⟨Or.inr this.1, this.2.1, by omega⟩
      · intro y hy
        rcases List.mem_cons.1 hy with rfl | hy
        · simp; omega
        · have := ih y hy; simp; exact ⟨Or.inr this.1, this.2.1, by omega⟩

def wordS (t n : Int) : List UInt8 := if n = 1 then Lib.itoa t else Lib.itoa t ++ [42] ++ Lib.itoa n
def printS (l : List Int) : List UInt8 := Lib.join ((grp l).map fun x => wordS x.1 x.2) [32]

end Go.Proofs.YtklenjmfalljgaaDoor

/- The walks of Valid and Of. -/
namespace Go.Proofs.YtklenjmfalljgaaDoor
open Go.RowKit
attribute [local go_sem] Go.World.cell?_alloc_some

def okN (t : Int) : Bool := decide (0 ≤ t) && decide (t ≤ 63)

set_option maxRecDepth 100000 in
set_option maxHeartbeats 1000000 in
theorem valid_t (l : List Int) (v : Value) (w : World) (hI : IntsAt w.heap.size w v l) :
    Calls Tryd.prog 60 #[v] w fun e w' => e = .returned (.bool (validS l)) ∧ w.grownBy w' none := by
  obtain ⟨ao, cap, rfl, hcap, hc⟩ := hI
  by_cases h5 : l.length ≤ 500
  · have g5 : (l.length : Int) ≤ 500 := by omega
    have HV : Hid (validS l = l.all okN) := by unfold Hid validS; rw [decide_eq_true h5]; rfl
    have HC := hide hc
    clear hc
    go_enter Tryd.func60, Tryd.ntmps60
    go_wp2
    go_loopw [10] (fun i w' => ∃ k : Nat, k ≤ l.length ∧ i = .int .i64 k ∧ w' = w ∧ Hid ((l.take k).all okN = true)) (fun i _ => l.length - (intOf i).toNat)
    case atStart => exact ⟨0, Nat.zero_le _, rfl, rfl, rfl⟩
    case round =>
      obtain ⟨k, hk, rfl, rfl, HA⟩ := hrel
      by_cases hlt : k < l.length
      · obtain ⟨g, o, rfl, hg, c0⟩ := HC.out k hlt
        have HAs := hide (all_take_succ l okN k hlt)
        have hk0 : (0 : Int) ≤ (k : Int) := by omega
        have hk1 : (k : Int) < l.length := by omega
        have HF : Hid (okN l[k] = false → validS l = false) := by
          intro h
          rw [HV.out]
          have : (l.take (k + 1)).all okN = false := by rw [HAs.out, h]; simp
          rw [← List.take_append_drop (k + 1) l, List.all_append, this]; rfl
        generalize l[k] = x at *
        by_cases h0 : 0 ≤ x
        · by_cases h63 : x ≤ 63
          · have HA1 : Hid ((l.take (k + 1)).all okN = true) := by unfold Hid; rw [HAs.out, HA.out]; simp [okN, h0, h63]
            have h0' : ¬ x < 0 := by omega
            have h63' : ¬ 63 < x := by omega
            go_wp2
            go_roundw
            case rel => exact ⟨k + 1, by omega, by go_num, trivial, HA1⟩
            case measure => simp [intOf]; omega
          · have HE := hide (HF.out (by simp [okN, h63]))
            have h63' : 63 < x := by omega
            go_wp2
            go_ret
            exact ⟨by rw [HE.out]; rfl, grown_refl _ _⟩
        · have HE := hide (HF.out (by simp [okN, h0]))
          have h0' : x < 0 := by omega
          go_wp2
          go_ret
          exact ⟨by rw [HE.out]; rfl, grown_refl _ _⟩
      · have HE : Hid (validS l = true) := by
          unfold Hid
          rw [HV.out]
          have := HA.out
          rw [List.take_of_length_le (by omega)] at this
          exact this
        go_wp2
        go_ret
        exact ⟨by rw [HE.out]; rfl, grown_refl _ _⟩
  · have g5 : 500 < (l.length : Int) := by omega
    have HV : Hid (validS l = false) := by unfold Hid validS; rw [decide_eq_false h5]; rfl
    clear hc
    go_enter Tryd.func60, Tryd.ntmps60
    go_wp2
    go_ret
    exact ⟨by rw [HV.out]; rfl, grown_refl _ _⟩

theorem flatS_len (q : List (Int × Int)) : (flatS q).length = q.length * 2 := by
  induction q with
  | nil => rfl
  | cons x q ih => simp [flatS] at ih ⊢; omega

theorem flat_bump (q : List (Int × Int)) (hq : q ≠ []) (x : Int × Int) (hx : q.getLast? = some x) : (flatS q).set ((q.length - 1) * 2 + 1) (.int .i64 (x.2 + 1)) = flatS (bump q) := by
  induction q with
  | nil => exact absurd rfl hq
  | cons y q ih =>
    cases q with
    | nil =>
      simp at hx; subst hx
      simp [flatS, bump]
    | cons z q =>
      rw [List.getLast?_cons_cons] at hx
      have := ih (by simp) hx
      have e1 : flatS (y :: z :: q) = .int .i64 y.1 :: .int .i64 y.2 :: flatS (z :: q) := rfl
      have e2 : flatS (bump (y :: z :: q)) = .int .i64 y.1 :: .int .i64 y.2 :: flatS (bump (z :: q)) := rfl
      rw [e1, e2, ← this]
      have e3 : ((y :: z :: q).length - 1) * 2 + 1 = (((z :: q).length - 1) * 2 + 1) + 1 + 1 := by simp; omega
      rw [e3, List.set_cons_succ, List.set_cons_succ]
theorem bump_len (q : List (Int × Int)) : (bump q).length = q.length := by
  induction q with
  | nil => rfl
  | cons y q ih =>
    cases q with
    | nil => rfl
    | cons z q => simp [bump] at ih ⊢; exact ih

theorem flat_get (q : List (Int × Int)) (x : Int × Int) (hx : q.getLast? = some x) : (flatS q)[(q.length - 1) * 2 + 1]? = some (.int .i64 x.2) := by
  induction q with
  | nil => simp at hx
  | cons y q ih =>
    cases q with
    | nil => simp at hx; subst hx; simp [flatS]
    | cons z q =>
      rw [List.getLast?_cons_cons] at hx
      have := ih hx
      have e1 : flatS (y :: z :: q) = .int .i64 y.1 :: .int .i64 y.2 :: flatS (z :: q) := rfl
      have e3 : ((y :: z :: q).length - 1) * 2 + 1 = (((z :: q).length - 1) * 2 + 1) + 1 + 1 := by simp; omega
      rw [e1, e3]; exact this

theorem info_run : ((Tryd.prog.info? 161).map fun i => (i.zero, i.size, i.bytes)) = some (some (.agg #[.int .i64 0, .int .i64 0]), 2, 16) := by kernel_rfl

set_option maxRecDepth 100000 in
set_option maxHeartbeats 1000000 in
theorem of_m (l : List Int) (v : Value) (w : World) (hI : IntsAt w.heap.size w v l) (h5 : l.length ≤ 500) :
    Calls Tryd.prog 87 #[v] w fun e w' => ∃ x y z, e = .returned (.slice x y z) ∧ w'.ownsRow w.heap.size 161 2 (.slice x y z) (grp l).length (flatS (grp l)) ∧ w.grownBy w' none := by
  obtain ⟨i0, hi0, hz0, hz1, hz2⟩ := info_parts info_run
  obtain ⟨ao, cap, rfl, hcap, hc⟩ := hI
  have HC := hide hc
  clear hc
  go_enter Tryd.func87, Tryd.ntmps87
  go_wp2_with fail
  go_loopw [3, 8] (fun lv i w' => ∃ k : Nat, k ≤ l.length ∧ i = .int .i64 k ∧ Hid (w'.ownsRow w.heap.size 161 2 lv (grp (l.take k)).length (flatS (grp (l.take k))) ∧ w.grownBy w' none)) (fun _ i _ => l.length - (intOf i).toNat)
  case atStart => exact ⟨0, Nat.zero_le _, rfl, ⟨rfl, Or.inl ⟨rfl, rfl⟩⟩, grown_refl _ _⟩
  case round =>
    obtain ⟨k, hk, rfl, HL⟩ := hrel
    obtain ⟨w5, hw5⟩ : ∃ w5, w5 = wr := ⟨_, rfl⟩
    subst hw5
    obtain ⟨x1, x2, x3, rfl⟩ := owns_form HL.out.1
    by_cases hlt : k < l.length
    · obtain ⟨g, o, rfl, hg, c0⟩ := HC.out k hlt
      have d0 := pres_grown HL.out.2 _ _ c0
      have hk0 : (0 : Int) ≤ (k : Int) := by omega
      have hk1 : (k : Int) < l.length := by omega
      have HT : Hid (l.take (k + 1) = l.take k ++ [l[k]]) := List.take_succ_eq_append_getElem hlt
      have hgl := grp_len (l.take k)
      have hgl2 : (grp (l.take k)).length ≤ 500 := by simp at hgl; omega
      have hglast := grp_last (l.take k)
      have hcount := grp_mem (l.take k)
      -- the bump behind
      have bum : ∀ (w6 : World) (g6 cap6 : Nat) (q : List (Int × Int)) (x : Int × Int), q ≠ [] → q.getLast? = some x → w6.ownsRow w.heap.size 161 2 (.slice (some ⟨g6, 0, none⟩) q.length cap6) q.length (flatS q) → w.grownBy w6 none →
          (w6.setCell ⟨g6, (q.length - 1) * 2 + 1, none⟩ (.int .i64 (x.2 + 1))).ownsRow w.heap.size 161 2 (.slice (some ⟨g6, 0, none⟩) q.length cap6) (bump q).length (flatS (bump q)) ∧ w.grownBy (w6.setCell ⟨g6, (q.length - 1) * 2 + 1, none⟩ (.int .i64 (x.2 + 1))) none ∧
          w6.cell? ⟨g6, (q.length - 1) * 2 + 1, none⟩ = some (.int .i64 x.2) ∧ w6.frozen? ⟨g6, (q.length - 1) * 2 + 1, none⟩ = false := by
        intro w6 g6 cap6 q x hq hx ho hgr
        have hql : 0 < q.length := List.length_pos_iff.2 hq
        refine ⟨?_, ?_, ?_, ?_⟩
        · rw [bump_len, ← flat_bump q hq x hx]; exact owns_setCell ho _ _
        · exact grown_setNew hgr (owns_block ho g6 rfl)
        · rw [ho.cellAt _ (by omega)]; exact flat_get q x hx
        · rcases ho.2 with ⟨e, _⟩ | ⟨g', cap', cur, hv, hb, hh, _⟩
          · cases e
          · simp only [Value.slice.injEq, Option.some.injEq, Addr.mk.injEq, true_and, and_true] at hv
            obtain ⟨rfl, rfl⟩ := hv
            simp [World.frozen?, hh]
      have BUM := hide bum
      clear bum
      have H1 := hide HL.out.1
      have H2 := hide HL.out.2
      have H2s := HL.out.2.size
      have hob := owns_block H1.out
      have h63 : (grp (l.take k)).length + 1 ≤ maxLen := by unfold maxLen; omega
      have newrun : ¬ (l.take k).getLast? = some l[k] → ∀ (w6 : World) (g6 cap6 : Nat), w6.ownsRow w.heap.size 161 2 (.slice (some ⟨g6, 0, none⟩) ((grp (l.take k)).length + 1) cap6) ((grp (l.take k)).length + 1) (flatS (grp (l.take k)) ++ [.int .i64 l[k], .int .i64 0]) → w.grownBy w6 none →
          (w6.setCell ⟨g6, (grp (l.take k)).length * 2 + 1, none⟩ (.int .i64 1)).ownsRow w.heap.size 161 2 (.slice (some ⟨g6, 0, none⟩) ((grp (l.take k)).length + 1) cap6) (grp (l.take (k + 1))).length (flatS (grp (l.take (k + 1)))) ∧ w.grownBy (w6.setCell ⟨g6, (grp (l.take k)).length * 2 + 1, none⟩ (.int .i64 1)) none ∧
          w6.cell? ⟨g6, (grp (l.take k)).length * 2 + 1, none⟩ = some (.int .i64 0) ∧ w6.frozen? ⟨g6, (grp (l.take k)).length * 2 + 1, none⟩ = false := by
        intro hn w6 g6 cap6 ho hgr
        have := BUM.out w6 g6 cap6 (grp (l.take k) ++ [(l[k], 0)]) (l[k], 0) (by simp) (by simp) (by simpa [flatS] using ho) hgr
        have e2 : bump (grp (l.take k) ++ [(l[k], 0)]) = grp (l.take (k + 1)) := by
          rw [HT.out, grp_snoc, if_neg hn]
          have : ∀ q : List (Int × Int), bump (q ++ [(l[k], 0)]) = q ++ [(l[k], 1)] := by
            intro q
            induction q with
            | nil => rfl
            | cons y q ih =>
              cases q with
              | nil => rfl
              | cons z q => rw [List.cons_append, List.cons_append, bump, ← List.cons_append, ih]; rfl
          exact this _
        rw [e2] at this
        simpa using this
      have NEW := hide newrun
      clear newrun
      by_cases hk00 : k = 0
      · have hNL := NEW.out (by subst hk00; simp)
        have HNL := hide hNL
        clear hNL NEW BUM hglast hcount hgl
        have q0 : ((k : Int) == 0) = true := by simp; omega
        clear hk00 c0
        generalize l[k] = x at *
        go_wp2_with (at_builtin; refine wpList_append_lies _ rfl _ _ _ rfl w.heap.size 161 i0 _ 2 16 Tryd.underlying158 hi0 hz0 hz1 hz2 rfl (by omega) (.slice x1 x2 x3) (grp (l.take k)).length (flatS (grp (l.take k))) rfl (owns_alloc H1.out) ⟨w5.heap.size, 0, none⟩ 1 1 [.int .i64 x, .int .i64 0] rfl rfl (World.news_of_block (cs := #[.int .i64 x, .int .i64 0]) (t := 161) (fr := (0, 0)) (heap_alloc_new w5 _)) (by simp [Value.oneCell']) (by omega) h63 (by omega) (by simp; omega) (w5.heap.size + 1) (by simp) ?_; intro g6 cap6 w6 hown6 hgrow hat hlt6; obtain ⟨f1, f2, f3, f4⟩ := HNL.out w6 g6 cap6 hown6 (grown_row (grown_alloc H2.out) hgrow (fun q e => hob q e)); have F1 := hide f1; have F2 := hide f2; clear f1 f2 hown6 hgrow hat)
        go_roundw
        case rel => exact ⟨k + 1, by omega, by go_num, F1.out, F2.out⟩
        case measure => simp [intOf]; omega
      · have q0 : ((k : Int) == 0) = false := by simp; omega
        have hk1' : k - 1 < l.length := by omega
        obtain ⟨g', o', e', _, c1⟩ := HC.out (k - 1) hk1'
        simp only [Option.some.injEq, Addr.mk.injEq, and_true] at e'
        obtain ⟨rfl, rfl⟩ := e'
        have d1 := pres_grown H2.out _ _ c1
        have hlastT : (l.take k).getLast? = some l[k - 1] := by
          rw [List.getLast?_eq_getElem?, List.length_take, Nat.min_eq_left (by omega), List.getElem?_take, if_pos (by omega), List.getElem?_eq_getElem hk1']
        have hkk : (k : Int) - 1 = ((k - 1 : Nat) : Int) := by omega
        have q1 : (0 : Int) ≤ (k : Int) - 1 := by omega
        have q2 : (k : Int) - 1 < l.length := by omega
        have q3 : ((k : Int) - 1).toNat = k - 1 := by omega
        clear c0 c1 hk00
        by_cases hne : l[k] = l[k - 1]
        · have hx : ∃ x, (grp (l.take k)).getLast? = some x := by
            rw [hlastT] at hglast
            cases hg2 : (grp (l.take k)).getLast? with
            | none => rw [hg2] at hglast; cases hglast
            | some x => exact ⟨x, rfl⟩
          obtain ⟨y, hy⟩ := hx
          have hyc := hcount y (List.mem_of_getLast? hy)
          have hne2 : grp (l.take k) ≠ [] := fun e => by rw [e] at hy; cases hy
          have hE : Hid (bump (grp (l.take k)) = grp (l.take (k + 1))) := by
            unfold Hid; rw [HT.out, grp_snoc, if_pos (by rw [hlastT, hne])]
          obtain ⟨m, hm⟩ : ∃ m, (grp (l.take k)).length = m + 1 := ⟨(grp (l.take k)).length - 1, by have := List.length_pos_iff.2 hne2; omega⟩
          obtain ⟨g6, cap6, e6, _, _⟩ := H1.out.form (by omega)
          have h1 := H1.out
          rw [e6] at h1
          obtain ⟨f1, f2, f3, f4⟩ := BUM.out w5 g6 cap6 (grp (l.take k)) y hne2 hy h1 H2.out
          rw [hE.out, hm, Nat.add_sub_cancel] at f1
          rw [hm, Nat.add_sub_cancel] at f2 f3 f4
          rw [hm] at e6
          simp only [Value.slice.injEq] at e6
          obtain ⟨rfl, rfl, rfl⟩ := e6
          have F1 := hide f1
          have F2 := hide f2
          have heq : (l[k] == l[k - 1]) = true := by simpa using hne
          have hyc2 : y.2 ≤ 500 := by simp at hyc; omega
          have hyc1 := hyc.2.1
          have hm500 : m + 1 ≤ 500 := by omega
          have HM := hide hm
          rw [hm] at h63
          clear f1 f2 h1 BUM NEW hglast hcount hgl hgl2 hE hne2 hy hyc hm HL H1 H2 hlastT hob HT hne
          generalize l[k] = x at *
          generalize l[k - 1] = x' at *
          generalize y.2 = n at *
          go_wp2_with fail
          go_roundw
          case rel => exact ⟨k + 1, by omega, by go_num, F1.out, F2.out⟩
          case measure => simp [intOf]; omega
        · have hNL := NEW.out (by rw [hlastT]; simpa using fun e => hne e.symm)
          have HNL := hide hNL
          have heq : (l[k] == l[k - 1]) = false := by simpa using hne
          clear hNL NEW BUM hglast hcount hgl hlastT
          generalize l[k - 1] = x' at *
          generalize l[k] = x at *
          go_wp2_with (at_builtin; refine wpList_append_lies _ rfl _ _ _ rfl w.heap.size 161 i0 _ 2 16 Tryd.underlying158 hi0 hz0 hz1 hz2 rfl (by omega) (.slice x1 x2 x3) (grp (l.take k)).length (flatS (grp (l.take k))) rfl (owns_alloc H1.out) ⟨w5.heap.size, 0, none⟩ 1 1 [.int .i64 x, .int .i64 0] rfl rfl (World.news_of_block (cs := #[.int .i64 x, .int .i64 0]) (t := 161) (fr := (0, 0)) (heap_alloc_new w5 _)) (by simp [Value.oneCell']) (by omega) h63 (by omega) (by simp; omega) (w5.heap.size + 1) (by simp) ?_; intro g6 cap6 w6 hown6 hgrow hat hlt6; obtain ⟨f1, f2, f3, f4⟩ := HNL.out w6 g6 cap6 hown6 (grown_row (grown_alloc H2.out) hgrow (fun q e => hob q e)); have F1 := hide f1; have F2 := hide f2; clear f1 f2 hown6 hgrow hat)
          go_roundw
          case rel => exact ⟨k + 1, by omega, by go_num, F1.out, F2.out⟩
          case measure => simp [intOf]; omega
    · have ek : l.take k = l := List.take_of_length_le (by omega)
      have q2 : (l.length : Int) ≤ (k : Int) := by omega
      have HL2 := HL.out
      rw [ek] at HL2
      have HL3 := hide HL2
      clear HL2 HL
      go_wp2
      go_ret
      exact ⟨_, _, _, rfl, HL3.out.1, HL3.out.2⟩

end Go.Proofs.YtklenjmfalljgaaDoor

/- The walks of word, Print and Parse. -/
namespace Go.Proofs.YtklenjmfalljgaaDoor
open Go.RowKit
attribute [local go_sem] Go.World.cell?_alloc_some

def Tab (w : World) : Prop := Lib.TabIs Tryd.prog w "internal/strconv.uint64pow10" .u64 Lib.pow10Tab

theorem Tab.grown {w w' : World} (h : Tab w) (hg : w.grownBy w' none) : Tab w' := by
  unfold Tab at *
  exact (Lib.tabBelow_of_tabIs h) w' ⟨hg.os, hg.tape, hg.output, hg.size, fun k hk => hg.block k hk (by simp)⟩

theorem itoa_m (n : Int) (h0 : -9223372036854775808 ≤ n) (h1 : n ≤ 9223372036854775807) (w : World) (hT : Tab w) : Calls Tryd.prog 122 #[.int .i64 n] w fun e w' => e = .returned (.string ⟨(Lib.itoa n).toArray⟩) ∧ w.grownBy w' none := by
  refine (Tryd.strconv_Itoa n h0 h1 w hT).mono ?_
  rintro e w' ⟨rfl, k, os, rfl⟩
  exact ⟨rfl, grown_below' (Lib.below_grow _ w (Nat.le_refl _) k os)⟩

theorem dec_len {u : Nat} (h : u < 1000) : (Lib.decDigits u).length ≤ 3 := by
  have h1 : ∀ u, u < 10 → (Lib.decDigits u).length = 1 := fun u h => by rw [Lib.decDigits, dif_pos h]; rfl
  have h2 : ∀ u, u < 100 → (Lib.decDigits u).length ≤ 2 := fun u h => by
    by_cases h10 : u < 10
    · rw [h1 u h10]; omega
    · rw [Lib.decDigits, dif_neg h10, List.length_append, h1 (u / 10) (by omega)]; simp
  by_cases h10 : u < 10
  · rw [h1 u h10]; omega
  · have := h2 (u / 10) (by omega)
    rw [Lib.decDigits, dif_neg h10, List.length_append]; simp; omega
theorem itoa_len {n : Int} (h0 : 0 ≤ n) (h : n < 1000) : (Lib.itoa n).length ≤ 3 := by
  unfold Lib.itoa; rw [if_neg (by omega)]; exact dec_len (by omega)

set_option maxRecDepth 100000 in
set_option maxHeartbeats 1000000 in
theorem word_m (t n : Int) (w : World) (hT : Tab w) (ht0 : 0 ≤ t) (ht1 : t ≤ 63) (hn0 : 1 ≤ n) (hn1 : n ≤ 500) :
    Calls Tryd.prog 88 #[.agg #[.int .i64 t, .int .i64 n]] w fun e w' => e = .returned (.string ⟨(wordS t n).toArray⟩) ∧ w.grownBy w' none := by
  have HT := hide hT
  clear hT
  by_cases h1 : n = 1
  · subst h1
    go_enter Tryd.func88, Tryd.ntmps88
    go_wp2_with (go_at_call 122; refine (itoa_m _ (by omega) (by omega) _ (HT.out.grown (grown_alloc (grown_refl _ _)))).mono ?_; rintro e w' ⟨rfl, hg⟩)
    go_ret
    exact ⟨by simp [wordS], grown_trans (grown_alloc (grown_refl _ _)) hg⟩
  · have hn : (n == 1) = false := by simpa using h1
    go_enter Tryd.func88, Tryd.ntmps88
    have hW1 : ∀ o, Tab (w.alloc o) := fun o => HT.out.grown (grown_alloc (grown_refl _ _))
    have call : ∀ (m : Int) (hm0 : -9223372036854775808 ≤ m) (hm1 : m ≤ 9223372036854775807) (o : Obj) (d : Nat) (os : Array Obj), Calls Tryd.prog 122 #[.int .i64 m] (Sort.grow (redrawn (w.alloc o) d) os) fun e w'' => e = .returned (.string ⟨(Lib.itoa m).toArray⟩) ∧ ∃ p : Regrown, w'' = Sort.grow (redrawn (w.alloc o) p.d) p.os := by
      intro m hm0 hm1 o d os
      refine Calls.regrown_of ((itoa_m m hm0 hm1 _ ((hW1 o).grown (grown_below' (below_regrown _ d os)))).mono ?_)
      rintro e w' ⟨rfl, hg⟩
      exact ⟨rfl, hg.os, hg.tape, hg.output, hg.size, fun k hk => hg.block k hk (by simp)⟩
    obtain ⟨st, hst⟩ : ∃ st : ByteArray, st = ⟨(Lib.itoa t).toArray⟩ := ⟨_, rfl⟩
    obtain ⟨sn, hsn⟩ : ∃ sn : ByteArray, sn = ⟨(Lib.itoa n).toArray⟩ := ⟨_, rfl⟩
    have l1 : st.size ≤ 3 := by rw [hst]; simpa [ByteArray.size] using itoa_len ht0 (by omega)
    have l2 : sn.size ≤ 3 := by rw [hsn]; simpa [ByteArray.size] using itoa_len (n := n) (by omega) (by omega)
    have n1 : ¬ 9223372036854775807 < st.size + 1 := by omega
    have n2 : ¬ 9223372036854775807 < st.size + 1 + sn.size := by omega
    have callT := fun o d os => call t (by omega) (by omega) o d os
    have callN := fun o d os => call n (by omega) (by omega) o d os
    rw [← hst] at callT
    rw [← hsn] at callN
    have HEQ : Hid ((⟨(wordS t n).toArray⟩ : ByteArray) = st ++ ⟨#[42]⟩ ++ sn) := by
      unfold Hid wordS
      rw [if_neg h1, hst, hsn]
      apply ByteArray.ext
      simp
    clear call hst hsn
    go_wp2_with fail
    have c0 : ∀ d os, (Sort.grow (redrawn (w.alloc (.cells #[.int .i64 t, .int .i64 n] 161)) d) os).cell? ⟨w.heap.size, 0, none⟩ = some (.int .i64 t) := fun d os => cell_regrown (by have := heap_alloc_new w (.cells #[.int .i64 t, .int .i64 n] 161); simp only [World.cell?, this]; rfl) d os
    have c1 : ∀ d os, (Sort.grow (redrawn (w.alloc (.cells #[.int .i64 t, .int .i64 n] 161)) d) os).cell? ⟨w.heap.size, 1, none⟩ = some (.int .i64 n) := fun d os => cell_regrown (by have := heap_alloc_new w (.cells #[.int .i64 t, .int .i64 n] 161); simp only [World.cell?, this]; rfl) d os
    refine wp_region_quiet_below (by kernel_rfl) (by kernel_rfl) ?_
    repeat (quiet_step (first | exact callT _ _ _ | exact callN _ _ _))
    refine wpQuiet_nil ?_
    intro _ hw'
    obtain ⟨⟨dq, osq⟩, hw''⟩ := hw'
    subst hw''
    go_wp2
    go_ret
    exact ⟨by rw [HEQ.out]; rfl, grown_trans (grown_alloc (grown_refl _ _)) (grown_below' (below_regrown _ dq osq))⟩

def strs (q : List (List UInt8)) : List Value := q.map fun x => .string ⟨x.toArray⟩
def wordsS (q : List (Int × Int)) : List (List UInt8) := q.map fun x => wordS x.1 x.2
theorem info_str : ((Tryd.prog.info? 9).map fun i => (i.zero, i.size, i.bytes)) = some (some (.string ⟨#[]⟩), 1, 16) := by kernel_rfl

theorem flat_at (q : List (Int × Int)) (k : Nat) (hk : k < q.length) : (flatS q)[k * 2]? = some (.int .i64 q[k].1) ∧ (flatS q)[k * 2 + 1]? = some (.int .i64 q[k].2) := by
  induction q generalizing k with
  | nil => simp at hk
  | cons y q ih =>
    have e1 : flatS (y :: q) = .int .i64 y.1 :: .int .i64 y.2 :: flatS q := rfl
    cases k with
    | zero => rw [e1]; simp
    | succ k =>
      have := ih k (by simpa using hk)
      have e2 : (k + 1) * 2 = k * 2 + 1 + 1 := by omega
      rw [e1, e2]
      simpa using this

theorem word_len {t n : Int} (h0 : 0 ≤ t) (h1 : t ≤ 63) (h2 : 1 ≤ n) (h3 : n ≤ 500) : (wordS t n).length ≤ 7 := by
  have a := itoa_len h0 (by omega)
  have b := itoa_len (n := n) (by omega) (by omega)
  unfold wordS
  split
  · omega
  · simp; omega

theorem join_len (q : List (List UInt8)) (h : ∀ x ∈ q, x.length ≤ 7) : (Lib.join q [32]).length ≤ 8 * q.length := by
  cases q with
  | nil => simp [Lib.join_nil]
  | cons x r =>
    rw [Lib.join_cons]
    have h1 : ∀ r : List (List UInt8), (∀ x ∈ r, x.length ≤ 7) → (Lib.joinTail [32] r).length ≤ 8 * r.length := by
      intro r
      induction r with
      | nil => intro _; simp [Lib.joinTail]
      | cons y r ih =>
        intro hr
        have := ih (fun x hx => hr x (by simp [hx]))
        have hy := hr y (by simp)
        simp [Lib.joinTail] at this ⊢
        omega
    have := h1 r (fun y hy => h y (by simp [hy]))
    have hx := h x (by simp)
    simp; omega

theorem grp_valid {l : List Int} (h : validS l = true) : ∀ x ∈ grp l, 0 ≤ x.1 ∧ x.1 ≤ 63 ∧ 1 ≤ x.2 ∧ x.2 ≤ 500 := by
  intro x hx
  simp only [validS, Bool.and_eq_true, decide_eq_true_eq, List.all_eq_true] at h
  have := grp_mem l x hx
  have h2 := h.2 x.1 this.1
  exact ⟨h2.1, h2.2, this.2.1, by omega⟩

set_option maxRecDepth 100000 in
set_option maxHeartbeats 1000000 in
theorem rprint_m (l : List Int) (v : Value) (w : World) (hT : Tab w) (hI : IntsAt w.heap.size w v l) (hv : validS l = true) :
    Calls Tryd.prog 61 #[v] w fun e w' => e = .returned (.string ⟨(printS l).toArray⟩) ∧ w.grownBy w' none := by
  obtain ⟨i0, hi0, hz0, hz1, hz2⟩ := info_parts info_str
  have h5 : l.length ≤ 500 := by simp only [validS, Bool.and_eq_true, decide_eq_true_eq] at hv; exact hv.1
  have HT := hide hT
  have HOF := hide (of_m l v w hI h5)
  obtain ⟨ao, cap, rfl⟩ := hI.form
  have HV := hide (grp_valid hv)
  have hgl := grp_len l
  clear hT hI hv
  go_enter Tryd.func61, Tryd.ntmps61
  go_wp2_with fail
  refine HOF.out.mono ?_
  rintro e w1 ⟨x, y, z, rfl, ho, hg⟩
  have hy := owns_lenq ho
  subst hy
  have HO := hide ho
  have HG1 := hide hg
  clear ho hg HOF
  have HJ : Hid (printS l = Lib.join (wordsS (grp l)) [32]) := rfl
  generalize grp l = q at *
  have hq : (q.length : Int) ≤ 500 := by omega
  go_wp2_with fail
  go_loopw [3, 9] (fun lv i w' => ∃ k : Nat, k ≤ q.length ∧ i = .int .i64 k ∧ Hid (w'.ownsRow w1.heap.size 9 1 lv k (strs (wordsS (q.take k))) ∧ w1.grownBy w' none)) (fun _ i _ => q.length - (intOf i).toNat)
  case atStart => exact ⟨0, Nat.zero_le _, rfl, ⟨rfl, Or.inl ⟨rfl, rfl⟩⟩, grown_refl _ _⟩
  case round =>
    obtain ⟨k, hk, rfl, HL⟩ := hrel
    obtain ⟨w5, hw5⟩ : ∃ w5, w5 = wr := ⟨_, rfl⟩
    subst hw5
    obtain ⟨x1, x2, x3, rfl⟩ := owns_form HL.out.1
    have H1 := hide HL.out.1
    have H2 := hide HL.out.2
    have hsz2 := HL.out.2.size
    have hob := owns_block H1.out
    by_cases hlt : k < q.length
    · obtain ⟨g, cp, e0, _, _⟩ := HO.out.form (by omega)
      simp only [Value.slice.injEq, true_and] at e0
      obtain ⟨rfl, rfl⟩ := e0
      have fa := flat_at q k hlt
      have d0 : w5.cell? ⟨g, k * 2, none⟩ = some (.int .i64 q[k].1) := pres_grown H2.out _ _ (by rw [HO.out.cellAt _ (by omega)]; exact fa.1)
      have d1 : w5.cell? ⟨g, k * 2 + 1, none⟩ = some (.int .i64 q[k].2) := pres_grown H2.out _ _ (by rw [HO.out.cellAt _ (by omega)]; exact fa.2)
      have hv := HV.out q[k] (List.getElem_mem hlt)
      have HXS : Hid (strs (wordsS (q.take (k + 1))) = strs (wordsS (q.take k)) ++ [.string ⟨(wordS q[k].1 q[k].2).toArray⟩]) := by
        unfold Hid strs wordsS; rw [List.take_succ_eq_append_getElem hlt, List.map_append, List.map_append]; rfl
      generalize q[k] = tn at *
      obtain ⟨t, n⟩ := tn
      simp only at d0 d1 hv HXS
      have hk0 : (0 : Int) ≤ (k : Int) := by omega
      have hk1 : (k : Int) < q.length := by omega
      have h63 : k + 1 ≤ maxLen := by unfold maxLen; omega
      have HTW : ∀ o, Tab (w5.alloc o) := fun o => HT.out.grown (grown_alloc (grown_trans HG1.out H2.out))
      clear fa
      go_wp2_with fail
      refine (word_m t n _ (HTW _) hv.1 hv.2.1 hv.2.2.1 hv.2.2.2).mono ?_
      rintro e w6 ⟨rfl, hg6⟩
      have hg6' : w5.grownBy w6 none := grown_trans (grown_alloc (grown_refl _ _)) hg6
      have H16 : Hid (w6.ownsRow w1.heap.size 9 1 (.slice x1 x2 x3) k (strs (wordsS (q.take k)))) := owns_grown H1.out hg6' (fun _ e => by cases e)
      have HG6 : Hid (w1.grownBy w6 none) := grown_trans H2.out hg6'
      have hsz6 := HG6.out.size
      clear hg6 hg6' HTW
      generalize wordS t n = wd at *
      go_wp2_with (at_builtin; refine wpList_append_lies _ rfl _ _ _ rfl w1.heap.size 9 i0 _ 1 16 Tryd.underlying157 hi0 hz0 hz1 hz2 rfl (by omega) (.slice x1 x2 x3) k (strs (wordsS (q.take k))) rfl (owns_alloc H16.out) ⟨w6.heap.size, 0, none⟩ 1 1 [.string ⟨wd.toArray⟩] rfl rfl (World.news_of_block (cs := #[.string ⟨wd.toArray⟩]) (t := 9) (fr := (0, 0)) (heap_alloc_new w6 _)) (by simp [Value.oneCell']) (by omega) h63 (by omega) (by simp; omega) (w6.heap.size + 1) (by simp) ?_; intro g7 cap7 w7 hown7 hgrow hat hlt7)
      have HNX : Hid (w7.ownsRow w1.heap.size 9 1 (.slice (some ⟨g7, 0, none⟩) (k + 1) cap7) (k + 1) (strs (wordsS (q.take (k + 1)))) ∧ w1.grownBy w7 none) := by
        refine ⟨?_, grown_row (grown_alloc HG6.out) hgrow (fun q e => hob q e)⟩
        rw [HXS.out]; exact hown7
      clear hown7 hgrow hat
      go_wp2
      go_roundw
      case rel => exact ⟨k + 1, by omega, by go_num, HNX⟩
      case measure => simp [intOf]; omega
    · have ek : k = q.length := by omega
      have q2 : (q.length : Int) ≤ (k : Int) := by omega
      subst ek
      have h1 := H1.out
      rw [List.take_length] at h1
      have hwl : (wordsS q).length = q.length := by simp [wordsS]
      have HGw : Hid (w.grownBy w5 none) := grown_trans HG1.out H2.out
      have HJOIN : Hid (Calls Tryd.prog 89 #[.slice x1 q.length x3, .string ⟨#[32]⟩] w5 fun e w' => e = .returned (.string ⟨(Lib.join (wordsS q) [32]).toArray⟩) ∧ w5.grownBy w' none) := by
        by_cases h0 : q.length = 0
        · have hq0 : q = [] := List.length_eq_zero_iff.1 h0
          subst hq0
          refine (Tryd.strings_Join_none x1 x3 ⟨#[32]⟩ w5).mono ?_
          rintro e w' ⟨rfl, rfl⟩
          exact ⟨rfl, grown_refl _ _⟩
        · obtain ⟨g, cp, e0, _, hgl⟩ := h1.form (by omega)
          have hcp : q.length ≤ x3 := by
            rcases h1.2 with ⟨_, e1⟩ | ⟨_, _, _, e1, _, _, e2, _⟩
            · omega
            · simp only [Value.slice.injEq] at e1; omega
          have h1' := h1
          rw [e0] at h1'
          simp only [Value.slice.injEq] at e0
          obtain ⟨rfl, rfl, rfl⟩ := e0
          have := Tryd.strings_Join g 0 x3 ((wordsS q).map fun x => (⟨x.toArray⟩ : ByteArray)) ⟨#[32]⟩ w5 (fun j x hj => ?_) hgl (by simp; omega) (by simp; omega) ?_
          · simp only [List.length_map, hwl, List.map_map] at this
            have e1 : ((fun (x : ByteArray) => x.data.toList) ∘ fun x : List UInt8 => (⟨x.toArray⟩ : ByteArray)) = id := by funext x; rfl
            rw [e1, List.map_id] at this
            refine this.mono ?_
            rintro e w' ⟨rfl, hb⟩
            exact ⟨rfl, grown_below' hb⟩
          · have hjl := (List.getElem?_eq_some_iff.1 hj).1
            rw [Nat.zero_add, h1'.cellAt j (by simp at hjl; omega)]
            unfold strs
            rw [List.getElem?_map] at hj ⊢
            cases hw : (wordsS q)[j]? with
            | none => rw [hw] at hj; cases hj
            | some u => rw [hw] at hj; simp at hj; simp [hj]
          · have := join_len (wordsS q) (fun x hx => by
              simp only [wordsS, List.mem_map] at hx
              obtain ⟨y, hy, rfl⟩ := hx
              have := HV.out y hy
              exact word_len this.1 this.2.1 this.2.2.1 this.2.2.2)
            have e1 : ((fun (x : ByteArray) => x.data.toList) ∘ fun x : List UInt8 => (⟨x.toArray⟩ : ByteArray)) = id := by funext x; rfl
            rw [List.map_map, e1, List.map_id]
            simp only at this ⊢
            omega
      have hx2 := owns_lenq h1
      subst hx2
      clear h1 H1 HL
      go_wp2_with (go_at_call 89; refine HJOIN.out.mono ?_; rintro e w6 ⟨rfl, hg6⟩)
      go_ret
      exact ⟨by rw [HJ.out]; rfl, grown_trans HGw.out hg6⟩

set_option maxRecDepth 100000 in
set_option maxHeartbeats 1000000 in
theorem print_m (l : List Int) (v : Value) (w : World) (hT : Tab w) (hI : IntsAt w.heap.size w v l) :
    Calls Tryd.prog 23 #[v] w fun e w' => w.grownBy w' none ∧ ((validS l = true ∧ e = .returned (.tuple #[.string ⟨(printS l).toArray⟩, .int .i64 0])) ∨ (validS l = false ∧ e = .returned (.tuple #[.string ⟨#[]⟩, .int .i64 2]))) := by
  have HT := hide hT
  have HI := hide hI
  obtain ⟨ao, cap, rfl⟩ := hI.form
  clear hT hI
  go_enter Tryd.func23, Tryd.ntmps23
  go_wp2_with fail
  refine (valid_t l _ w HI.out).mono ?_
  rintro e w1 ⟨rfl, hg1⟩
  have HG1 := hide hg1
  clear hg1
  cases hv : validS l with
  | false =>
    go_wp2_with fail
    refine bodyPost_ret (v := .tuple #[.string ⟨#[]⟩, .int .i64 2]) (by simp [results, Tryd.results23, go_sem]) rfl ?_
    exact ⟨HG1.out, Or.inr ⟨hv, rfl⟩⟩
  | true =>
    have HP := hide (rprint_m l _ w1 (HT.out.grown HG1.out) ((HI.out.pres (pres_grown HG1.out)).mono HG1.out.size) hv)
    go_wp2_with (go_at_call 61; refine HP.out.mono ?_; rintro e w2 ⟨rfl, hg2⟩)
    refine bodyPost_ret (v := .tuple #[.string ⟨(printS l).toArray⟩, .int .i64 0]) (by simp [results, Tryd.results23, go_sem]) rfl ?_
    exact ⟨grown_trans HG1.out hg2, Or.inl ⟨hv, rfl⟩⟩

theorem parse_at0 (l : List Nat) (h : (parseP l).ok = true) : (parseP l).at_ = 0 := by
  rw [parse_eq] at h ⊢
  unfold parseR at *
  split at h <;> rename_i h1
  · rw [if_pos h1]
  · rw [if_neg h1]
    cases hw : wholeR (partsR l) (-1) [] with
    | none => rw [hw] at h; cases h
    | some x =>
      rw [hw] at h
      simp only at h ⊢
      split at h
      · cases h
      · rename_i h2; rw [if_neg h2]
theorem parse_nil (l : List Nat) (h : (parseP l).ok = false) : (parseP l).out = [] := by
  rw [parse_eq] at h ⊢
  unfold parseR at *
  split at h <;> rename_i h1
  · cases h
  · rw [if_neg h1]
    cases hw : wholeR (partsR l) (-1) [] with
    | none => rfl
    | some x =>
      rw [hw] at h
      simp only at h ⊢
      split at h
      · rename_i h2; rw [if_pos h2]
      · cases h

def parE (ok : Bool) : Int := if ok = true then 0 else 4

set_option maxRecDepth 100000 in
set_option maxHeartbeats 1000000 in
theorem parse_m (s : ByteArray) (w : World) (hs : s.size ≤ 9223372036854775806) :
    Calls Tryd.prog 24 #[.string s] w fun e w' => ∃ x y z, e = .returned (.tuple #[.slice x y z, .int .i64 (parseP (byt s)).at_, .int .i64 (parE (parseP (byt s)).ok)]) ∧ w'.ownsRow (w.heap.size + 1) 3 1 (.slice x y z) (parseP (byt s)).out.length (ints (parseP (byt s)).out) ∧ w.grownBy w' none := by
  go_enter Tryd.func24, Tryd.ntmps24
  go_wp2_with fail
  refine (rparse_m s w hs).mono ?_
  rintro e w1 ⟨x, y, z, rfl, ho, hg⟩
  have HO := hide ho
  have HG := hide hg
  clear ho hg
  cases hok : (parseP (byt s)).ok with
  | true =>
    have h0 : (parseP (byt s)).at_ = 0 := by
      have := (parse_at0 (byt s)) hok
      exact this
    rw [h0]
    go_wp2_with fail
    refine bodyPost_ret (v := .tuple #[.slice x y z, .int .i64 0, .int .i64 0]) (by simp [results, Tryd.results24, go_sem]) rfl ?_
    exact ⟨x, y, z, by rw [h0, hok]; rfl, HO.out, HG.out⟩
  | false =>
    have h0 := parse_nil (byt s) hok
    go_wp2_with fail
    refine bodyPost_ret (v := .tuple #[.slice none 0 0, .int .i64 (parseP (byt s)).at_, .int .i64 4]) (by simp [results, Tryd.results24, go_sem]) rfl ?_
    refine ⟨none, 0, 0, by rw [hok]; rfl, ?_, HG.out⟩
    rw [h0]
    exact ⟨rfl, Or.inl ⟨rfl, rfl⟩⟩

end Go.Proofs.YtklenjmfalljgaaDoor

/- The walks of the reference's small functions on texts. -/
namespace Go.Proofs.YtklenjmfalljgaaDoor
open Go.RowKit
attribute [local go_sem] Go.World.cell?_alloc_some

theorem all_byt_succ (s : ByteArray) (p : Nat → Bool) (k : Nat) (h : k < s.size) : ((byt s).take (k + 1)).all p = (((byt s).take k).all p && p s[k].toNat) := by
  have hk : k < (byt s).length := by rw [byt_len]; exact h
  rw [all_take_succ (byt s) p k hk]
  have : (byt s)[k] = s[k].toNat := by
    have := byt_get s k h
    rw [List.getElem?_eq_getElem hk] at this
    exact Option.some.inj this
  rw [this]

theorem byt_toList (s : ByteArray) : byt s = s.toList.map UInt8.toNat := by rw [ByteArray.toList_eq]; rfl
theorem byt_is (s : ByteArray) (l : List UInt8) : byt s = l.map UInt8.toNat ↔ s.toList = l := by
  rw [byt_toList]
  constructor
  · intro h
    exact (List.map_inj_right (fun a b h => UInt8.toNat_inj.1 h)).1 h
  · intro h; rw [h]
theorem byt_nil (s : ByteArray) : byt s = [] ↔ s.toList = [] := byt_is s []
theorem byt_nought (s : ByteArray) : byt s = [48] ↔ s.toList = [48] := byt_is s [48]
theorem byt_head (s : ByteArray) (h : 0 < s.size) : (byt s).head? = some s[0].toNat := by
  rw [List.head?_eq_getElem?]; exact byt_get s 0 h
theorem size_nil {s : ByteArray} (h : s.toList = []) : s.size = 0 := by
  have := congrArg List.length ((byt_nil s).2 h); rwa [byt_len] at this
theorem size_pos {s : ByteArray} (h : ¬ s.toList = []) : 0 < s.size := by
  by_cases h0 : s.size = 0
  · exact absurd ((byt_nil s).1 (List.length_eq_zero_iff.1 (by rw [byt_len]; exact h0))) h
  · omega

set_option maxRecDepth 100000 in
set_option maxHeartbeats 1000000 in
theorem plain_m (s : ByteArray) (w : World) (hs : s.size ≤ 9223372036854775806) :
    Calls Tryd.prog 130 #[.string s] w fun e w' => e = .returned (.bool (plainR (byt s))) ∧ w' = w := by
  go_enter Tryd.func130, Tryd.ntmps130
  go_wp2
  go_loopw [3] (fun i w' => ∃ k : Nat, k ≤ s.size ∧ i = .int .i64 k ∧ Hid (w' = w) ∧ Hid (((byt s).take k).all isD = true)) (fun i _ => s.size - (intOf i).toNat)
  case atStart => exact ⟨0, Nat.zero_le _, rfl, rfl, rfl⟩
  case round =>
    obtain ⟨k, hk, rfl, HW, HA⟩ := hrel
    obtain rfl := HW.out
    by_cases hlt : k < s.size
    · have HAs := hide (all_byt_succ s isD k hlt)
      have hk0 : (0 : Int) ≤ (k : Int) := by omega
      have hk1 : (k : Int) < s.size := by omega
      have HF : Hid (isD s[k].toNat = false → plainR (byt s) = false) := by
        intro h
        have : ((byt s).take (k + 1)).all isD = false := by rw [HAs.out, h]; simp
        unfold plainR
        rw [← List.take_append_drop (k + 1) (byt s), List.all_append, this]; rfl
      by_cases h0 : s[k].toNat < 48
      · have h0' : ((s[k].toNat : Nat) : Int) < 48 := by omega
        have HE := hide (HF.out (by simp [isD]; omega))
        go_wp2
        go_ret
        exact ⟨by rw [HE.out]; rfl, rfl⟩
      · have h0' : ¬ ((s[k].toNat : Nat) : Int) < 48 := by omega
        by_cases h1 : s[k].toNat ≤ 57
        · have h1' : ¬ 57 < ((s[k].toNat : Nat) : Int) := by omega
          have HA1 : Hid (((byt s).take (k + 1)).all isD = true) := by unfold Hid; rw [HAs.out, HA.out]; simp [isD]; omega
          go_wp2
          go_roundw
          case rel => exact ⟨k + 1, by omega, by go_num, hide trivial, HA1⟩
          case measure => simp [intOf]; omega
        · have h1' : 57 < ((s[k].toNat : Nat) : Int) := by omega
          have HE := hide (HF.out (by simp [isD]; omega))
          go_wp2
          go_ret
          exact ⟨by rw [HE.out]; rfl, rfl⟩
    · have HA1 : Hid ((byt s).all isD = true) := by
        have := HA.out
        rw [List.take_of_length_le (by rw [byt_len]; omega)] at this
        exact this
      have q2 : (s.size : Int) ≤ (k : Int) := by omega
      by_cases ha : s.toList = [48]
      · have HE : Hid (plainR (byt s) = true) := by unfold Hid; rw [(byt_nought s).2 ha]; rfl
        go_wp2_with fail
        go_ret
        exact ⟨by rw [HE.out]; rfl, rfl⟩
      · by_cases hb : s.toList = []
        · have HE : Hid (plainR (byt s) = false) := by unfold Hid; rw [(byt_nil s).2 hb]; rfl
          go_wp2_with fail
          go_ret
          exact ⟨by rw [HE.out]; rfl, rfl⟩
        · have h0 := size_pos hb
          have HE : Hid (plainR (byt s) = (s.toList == [48] || (!s.toList.isEmpty && (((s[0].toNat : Nat) : Int) != 48)))) := by
            unfold Hid plainR
            have e1 : (byt s == [48]) = false := by simpa using fun e => ha ((byt_nought s).1 e)
            have e2 : (byt s == []) = false := by simpa using fun e => hb ((byt_nil s).1 e)
            have e3 : (s.toList == [48]) = false := by simpa using ha
            have e4 : s.toList.isEmpty = false := by simpa using hb
            rw [HA1.out, e1, e2, e3, e4, byt_head s h0]
            by_cases h48 : s[0].toNat = 48
            · simp [h48]
            · have h5 : ((s[0].toNat : Nat) : Int) ≠ 48 := by omega
              have h6 : (((s[0].toNat : Nat) : Int) != 48) = true := by simpa using h5
              rw [h6]
              simpa using h48
          have h0' : (0 : Int) < s.size := by omega
          go_wp2_with fail
          all_goals
            go_ret
            exact ⟨by rw [HE.out]; rfl, rfl⟩

theorem value_step (n : Int) (s : ByteArray) (k : Nat) (h : k < s.size) : valueR n ((byt s).drop k) = if n < 1000 then valueR (10 * n + (((s[k].toNat + 208) % 256 : Nat) : Int)) ((byt s).drop (k + 1)) else min n 1000 := by
  rw [drop_get (byt_get s k h), valueR]
theorem value_end (n : Int) (s : ByteArray) (k : Nat) (h : s.size ≤ k) : valueR n ((byt s).drop k) = min n 1000 := by
  rw [List.drop_eq_nil_of_le (by rw [byt_len]; exact h), valueR]

set_option maxRecDepth 100000 in
set_option maxHeartbeats 1000000 in
theorem value_m (s : ByteArray) (w : World) (hs : s.size ≤ 9223372036854775806) :
    Calls Tryd.prog 131 #[.string s] w fun e w' => e = .returned (.int .i64 (valueR 0 (byt s))) ∧ w' = w := by
  go_enter Tryd.func131, Tryd.ntmps131
  go_wp2
  go_loopw [3, 4] (fun v i w' => ∃ (k : Nat) (n : Int), k ≤ s.size ∧ i = .int .i64 k ∧ v = .int .i64 n ∧ Hid (w' = w) ∧ Hid (0 ≤ n ∧ n ≤ 20000 ∧ valueR n ((byt s).drop k) = valueR 0 (byt s))) (fun _ i _ => s.size - (intOf i).toNat)
  case atStart => exact ⟨0, 0, Nat.zero_le _, rfl, rfl, rfl, by simp [Hid]⟩
  case round =>
    obtain ⟨k, n, hk, rfl, rfl, HW, HA⟩ := hrel
    obtain rfl := HW.out
    obtain ⟨hn0, hn1, hn2⟩ := HA.out
    have HN2 := hide hn2
    clear hn2 HA
    by_cases hlt : k < s.size
    · have hk0 : (0 : Int) ≤ (k : Int) := by omega
      have hk1 : (k : Int) < s.size := by omega
      have hb := s[k].toNat_lt
      have HS := hide (value_step n s k hlt)
      by_cases h1 : n < 1000
      · have hu : IntKind.u8.wrap (((s[k].toNat : Nat) : Int) - 48) = (((s[k].toNat + 208) % 256 : Nat) : Int) := by
          simp only [IntKind.wrap, IntKind.signed, IntKind.bits]
          simp
          omega
        have HNX : Hid (valueR (10 * n + (((s[k].toNat + 208) % 256 : Nat) : Int)) ((byt s).drop (k + 1)) = valueR 0 (byt s)) := by
          unfold Hid; rw [← HN2.out, HS.out, if_pos h1]
        have hm : (s[k].toNat + 208) % 256 < 256 := Nat.mod_lt _ (by decide)
        generalize ((s[k].toNat + 208) % 256) = d at *
        have hd0 : (0 : Int) ≤ (d : Int) := by omega
        have hd1 : (d : Int) < 256 := by omega
        go_wp2_with fail
        go_roundw
        case rel => exact ⟨k + 1, _, by omega, by go_num, rfl, hide trivial, hide ⟨by omega, by omega, HNX.out⟩⟩
        case measure => simp [intOf]; omega
      · have HE : Hid (valueR 0 (byt s) = 1000) := by unfold Hid; rw [← HN2.out, HS.out, if_neg h1]; omega
        by_cases h2 : 1000 < n
        · go_wp2_with fail
          go_ret
          exact ⟨by rw [HE.out]; rfl, rfl⟩
        · have h3 : Hid (n = 1000) := by unfold Hid; omega
          go_wp2_with fail
          go_ret
          exact ⟨by rw [HE.out, ← h3.out]; rfl, rfl⟩
    · have HE : Hid (valueR 0 (byt s) = min n 1000) := by unfold Hid; rw [← HN2.out, value_end n s k (by omega)]
      have q2 : (s.size : Int) ≤ (k : Int) := by omega
      by_cases h2 : 1000 < n
      · have h3 : Hid (min n 1000 = 1000) := by unfold Hid; omega
        go_wp2_with fail
        go_ret
        exact ⟨by rw [HE.out, h3.out]; rfl, rfl⟩
      · have h3 : Hid (min n 1000 = n) := by unfold Hid; omega
        go_wp2_with fail
        go_ret
        exact ⟨by rw [HE.out, h3.out]; rfl, rfl⟩

def strA (s : ByteArray) (k : Nat) : ByteArray := s.extract 0 k
theorem byt_extract (s : ByteArray) (a b : Nat) : byt (s.extract a b) = ((byt s).take b).drop a := by
  unfold byt
  rw [ByteArray.data_extract, Array.toList_extract, List.extract_eq_take_drop, List.map_take, List.map_drop]
  rw [List.drop_take]

/-- What halves tells: the first half, the second one, is there a star? -/
theorem half_at (l : List Nat) (k : Nat) (hk : l[k]? = some 42) (h : ∀ x ∈ l.take k, x ≠ 42) : halfA l = l.take k ∧ halfB l = l.drop (k + 1) ∧ starR l = true := by
  have e : l = l.take k ++ 42 :: l.drop (k + 1) := by rw [← drop_get hk, List.take_append_drop]
  have := half_star (bb := l.drop (k + 1)) h
  rw [← e] at this
  exact this

set_option maxRecDepth 100000 in
set_option maxHeartbeats 1000000 in
theorem halves_m (s : ByteArray) (w : World) (hs : s.size ≤ 9223372036854775806) :
    Calls Tryd.prog 129 #[.string s] w fun e w' => Like w' w ∧ ∃ a b, e = .returned (.tuple #[.string a, .string b, .bool (starR (byt s))]) ∧ byt a = halfA (byt s) ∧ byt b = halfB (byt s) ∧ a.size ≤ s.size ∧ b.size ≤ s.size := by
  go_enter Tryd.func129, Tryd.ntmps129
  go_wp2
  go_loopw [5] (fun i w' => ∃ k : Nat, k ≤ s.size ∧ i = .int .i64 k ∧ Hid (w' = w) ∧ Hid (∀ x ∈ (byt s).take k, x ≠ 42)) (fun i _ => s.size - (intOf i).toNat)
  case atStart => exact ⟨0, Nat.zero_le _, rfl, rfl, by simp [Hid]⟩
  case round =>
    obtain ⟨k, hk, rfl, HW, HA⟩ := hrel
    obtain rfl := HW.out
    by_cases hlt : k < s.size
    · have hk0 : (0 : Int) ≤ (k : Int) := by omega
      have hk1 : (k : Int) < s.size := by omega
      have hk2 : (k : Int) ≤ s.size := by omega
      have hk3 : (k : Int) + 1 ≤ s.size := by omega
      have HG := hide (byt_get s k hlt)
      by_cases h42 : s[k].toNat = 42
      · have h42' : ((s[k].toNat : Nat) : Int) = 42 := by omega
        have h42'' : (((s[k].toNat : Nat) : Int) == 42) = true := by simpa using h42'
        have HH : Hid (halfA (byt s) = (byt s).take k ∧ halfB (byt s) = (byt s).drop (k + 1) ∧ starR (byt s) = true) := half_at _ k (by rw [HG.out, h42]) HA.out
        clear h42 h42'
        go_wp2_with fail
        go_quiet (fail)
        go_wp2_with fail
        refine bodyPost_ret (v := .tuple #[.string (s.extract 0 k), .string (s.extract (k + 1) s.size), .bool true]) (by simp [results, Tryd.results129, go_sem]) rfl ?_
        refine ⟨like_dn (like_refl _) _, _, _, by rw [HH.out.2.2], ?_, ?_, by simp <;> omega, by simp <;> omega⟩
        · rw [HH.out.1, byt_extract, List.drop_zero]
        · rw [HH.out.2.1, byt_extract, List.take_of_length_le (by rw [byt_len]; exact Nat.le_refl _)]
      · have h42' : ((s[k].toNat : Nat) : Int) ≠ 42 := by omega
        have HA1 : Hid (∀ x ∈ (byt s).take (k + 1), x ≠ 42) := by
          intro x hx
          have hkl : k < (byt s).length := by rw [byt_len]; exact hlt
          rw [List.take_succ_eq_append_getElem hkl] at hx
          rcases List.mem_append.1 hx with hx | hx
          · exact HA.out x hx
          · have e := HG.out
            rw [List.getElem?_eq_getElem hkl] at e
            rw [Option.some.inj e] at hx
            simp at hx
            rw [hx]; exact h42
        clear h42
        go_wp2_with fail
        go_roundw
        case rel => exact ⟨k + 1, by omega, by go_num, hide trivial, HA1⟩
        case measure => simp [intOf]; omega
    · have q2 : (s.size : Int) ≤ (k : Int) := by omega
      have HH : Hid (halfA (byt s) = byt s ∧ halfB (byt s) = [] ∧ starR (byt s) = false) := by
        have := HA.out
        rw [List.take_of_length_le (by rw [byt_len]; omega)] at this
        exact half_none this
      go_wp2_with fail
      refine bodyPost_ret (v := .tuple #[.string s, .string ⟨#[]⟩, .bool false]) (by simp [results, Tryd.results129, go_sem]) rfl ?_
      exact ⟨like_refl _, s, ⟨#[]⟩, by rw [HH.out.2.2], HH.out.1.symm, HH.out.2.1.symm, Nat.le_refl _, Nat.zero_le _⟩

end Go.Proofs.YtklenjmfalljgaaDoor

/- The walks of the reference's run and begins. -/
namespace Go.Proofs.YtklenjmfalljgaaDoor
open Go.RowKit
attribute [local go_sem] Go.World.cell?_alloc_some

def runV (o : Option (Int × Int)) : Value := match o with
  | none => .tuple #[.int .i64 0, .int .i64 0, .bool false]
  | some (t, n) => .tuple #[.int .i64 t, .int .i64 n, .bool true]

set_option maxRecDepth 100000 in
set_option maxHeartbeats 1000000 in
theorem rrun_m (s : ByteArray) (ahead : Int) (w : World) (hs : s.size ≤ 9223372036854775806) :
    Calls Tryd.prog 128 #[.string s, .int .i64 ahead] w fun e w' => Like w' w ∧ e = .returned (runV (runR (byt s) ahead)) := by
  go_enter Tryd.func128, Tryd.ntmps128
  go_wp2_with fail
  refine (halves_m s w hs).mono ?_
  rintro e w1 ⟨hl, a, b, rfl, ha, hb, hsa, hsb⟩
  have HL := hide hl
  have hR : runR (byt s) ahead = if (!plainR (byt a) || decide (63 < valueR 0 (byt a)) || (valueR 0 (byt a) == ahead)) = true then none
    else if (starR (byt s) && (!plainR (byt b) || decide (valueR 0 (byt b) < 2))) = true then none
    else if starR (byt s) = true then some (valueR 0 (byt a), valueR 0 (byt b)) else some (valueR 0 (byt a), 1) := by rw [ha, hb]; rfl
  have hza : a.size ≤ 9223372036854775806 := by omega
  have hzb : b.size ≤ 9223372036854775806 := by omega
  have HR := hide hR
  clear hl ha hb hsa hsb hs hR
  cases hpa : plainR (byt a) with
  | false =>
    have HE : Hid (runR (byt s) ahead = none) := by unfold Hid; rw [HR.out, hpa]; simp
    go_wp2_with (first | (go_at_call 130; refine (plain_m _ _ (by assumption)).mono ?_; rintro e w' ⟨rfl, rfl⟩; first | rw [hpa]) | (go_at_call 131; refine (value_m _ _ (by assumption)).mono ?_; rintro e w' ⟨rfl, rfl⟩))
    refine bodyPost_ret (v := .tuple #[.int .i64 0, .int .i64 0, .bool false]) (by simp [results, Tryd.results128, go_sem]) rfl ?_
    exact ⟨HL.out, by rw [HE.out]; rfl⟩
  | true =>
    by_cases h63 : 63 < valueR 0 (byt a)
    · have HE : Hid (runR (byt s) ahead = none) := by unfold Hid; rw [HR.out, hpa]; simp [h63]
      go_wp2_with (first | (go_at_call 130; refine (plain_m _ _ (by assumption)).mono ?_; rintro e w' ⟨rfl, rfl⟩; first | rw [hpa]) | (go_at_call 131; refine (value_m _ _ (by assumption)).mono ?_; rintro e w' ⟨rfl, rfl⟩))
      refine bodyPost_ret (v := .tuple #[.int .i64 0, .int .i64 0, .bool false]) (by simp [results, Tryd.results128, go_sem]) rfl ?_
      exact ⟨HL.out, by rw [HE.out]; rfl⟩
    · by_cases hah : valueR 0 (byt a) = ahead
      · have HE : Hid (runR (byt s) ahead = none) := by unfold Hid; rw [HR.out, hpa]; simp [hah]
        have hq : (valueR 0 (byt a) == ahead) = true := by simpa using hah
        clear hah
        go_wp2_with (first | (go_at_call 130; refine (plain_m _ _ (by assumption)).mono ?_; rintro e w' ⟨rfl, rfl⟩; first | rw [hpa]) | (go_at_call 131; refine (value_m _ _ (by assumption)).mono ?_; rintro e w' ⟨rfl, rfl⟩))
        refine bodyPost_ret (v := .tuple #[.int .i64 0, .int .i64 0, .bool false]) (by simp [results, Tryd.results128, go_sem]) rfl ?_
        exact ⟨HL.out, by rw [HE.out]; rfl⟩
      · have hq : (valueR 0 (byt a) == ahead) = false := by simpa using hah
        have HRR : Hid (runR (byt s) ahead = if (starR (byt s) && (!plainR (byt b) || decide (valueR 0 (byt b) < 2))) = true then none else if starR (byt s) = true then some (valueR 0 (byt a), valueR 0 (byt b)) else some (valueR 0 (byt a), 1)) := by
          unfold Hid
          rw [HR.out, hq, hpa]
          have : decide (63 < valueR 0 (byt a)) = false := by simpa using h63
          rw [this]; simp
        clear hah
        cases hst : starR (byt s) with
        | false =>
          have HE : Hid (runR (byt s) ahead = some (valueR 0 (byt a), 1)) := by unfold Hid; rw [HRR.out, hst]; simp
          cases hpb : plainR (byt b) with
          | true =>
            go_wp2_with (first | (go_at_call 130; refine (plain_m _ _ (by assumption)).mono ?_; rintro e w' ⟨rfl, rfl⟩; first | rw [hpa] | rw [hpb]) | (go_at_call 131; refine (value_m _ _ (by assumption)).mono ?_; rintro e w' ⟨rfl, rfl⟩))
            refine bodyPost_ret (v := .tuple #[.int .i64 (valueR 0 (byt a)), .int .i64 1, .bool true]) (by simp [results, Tryd.results128, go_sem]) rfl ?_
            exact ⟨HL.out, by rw [HE.out]; rfl⟩
          | false =>
            go_wp2_with (first | (go_at_call 130; refine (plain_m _ _ (by assumption)).mono ?_; rintro e w' ⟨rfl, rfl⟩; first | rw [hpa] | rw [hpb]) | (go_at_call 131; refine (value_m _ _ (by assumption)).mono ?_; rintro e w' ⟨rfl, rfl⟩))
            refine bodyPost_ret (v := .tuple #[.int .i64 (valueR 0 (byt a)), .int .i64 1, .bool true]) (by simp [results, Tryd.results128, go_sem]) rfl ?_
            exact ⟨HL.out, by rw [HE.out]; rfl⟩
        | true =>
          cases hpb : plainR (byt b) with
          | false =>
            have HE : Hid (runR (byt s) ahead = none) := by unfold Hid; rw [HRR.out, hst, hpb]; simp
            go_wp2_with (first | (go_at_call 130; refine (plain_m _ _ (by assumption)).mono ?_; rintro e w' ⟨rfl, rfl⟩; first | rw [hpa] | rw [hpb]) | (go_at_call 131; refine (value_m _ _ (by assumption)).mono ?_; rintro e w' ⟨rfl, rfl⟩))
            refine bodyPost_ret (v := .tuple #[.int .i64 0, .int .i64 0, .bool false]) (by simp [results, Tryd.results128, go_sem]) rfl ?_
            exact ⟨HL.out, by rw [HE.out]; rfl⟩
          | true =>
            by_cases h2 : valueR 0 (byt b) < 2
            · have HE : Hid (runR (byt s) ahead = none) := by unfold Hid; rw [HRR.out, hst, hpb]; simp [h2]
              go_wp2_with (first | (go_at_call 130; refine (plain_m _ _ (by assumption)).mono ?_; rintro e w' ⟨rfl, rfl⟩; first | rw [hpa] | rw [hpb]) | (go_at_call 131; refine (value_m _ _ (by assumption)).mono ?_; rintro e w' ⟨rfl, rfl⟩))
              refine bodyPost_ret (v := .tuple #[.int .i64 0, .int .i64 0, .bool false]) (by simp [results, Tryd.results128, go_sem]) rfl ?_
              exact ⟨HL.out, by rw [HE.out]; rfl⟩
            · have HE : Hid (runR (byt s) ahead = some (valueR 0 (byt a), valueR 0 (byt b))) := by unfold Hid; rw [HRR.out, hst, hpb]; simp [h2]
              go_wp2_with (first | (go_at_call 130; refine (plain_m _ _ (by assumption)).mono ?_; rintro e w' ⟨rfl, rfl⟩; first | rw [hpa] | rw [hpb]) | (go_at_call 131; refine (value_m _ _ (by assumption)).mono ?_; rintro e w' ⟨rfl, rfl⟩))
              refine bodyPost_ret (v := .tuple #[.int .i64 (valueR 0 (byt a)), .int .i64 (valueR 0 (byt b)), .bool true]) (by simp [results, Tryd.results128, go_sem]) rfl ?_
              exact ⟨HL.out, by rw [HE.out]; rfl⟩

set_option maxRecDepth 100000 in
set_option maxHeartbeats 1000000 in
theorem rbegins_m (s : ByteArray) (ahead : Int) (w : World) (hs : s.size ≤ 9223372036854775806) :
    Calls Tryd.prog 95 #[.string s, .int .i64 ahead] w fun e w' => Like w' w ∧ e = .returned (.bool (beginsR (byt s) ahead)) := by
  go_enter Tryd.func95, Tryd.ntmps95
  go_wp2_with fail
  refine (halves_m s w hs).mono ?_
  rintro e w1 ⟨hl, a, b, rfl, ha, hb, hsa, hsb⟩
  have HL := hide hl
  by_cases h0 : s.toList = []
  · have HE : Hid (beginsR (byt s) ahead = true) := by unfold Hid; rw [(byt_nil s).2 h0]; rfl
    clear hl ha hb hsa hsb hs
    generalize starR (byt s) = st at *
    go_wp2_with fail
    go_ret
    exact ⟨HL.out, by rw [HE.out]; rfl⟩
  · have hbn : (byt b = []) ↔ b.toList = [] := byt_nil b
    have hbz : (byt b = [48]) ↔ b.toList = [48] := byt_nought b
    have hR : beginsR (byt s) ahead = if (!plainR (byt a) || decide (63 < valueR 0 (byt a))) = true then false
      else if starR (byt s) = true then !(valueR 0 (byt a) == ahead) && ((byt b == []) || (plainR (byt b) && !(byt b == [48])))
      else !(valueR 0 (byt a) == ahead) || (decide (1 ≤ valueR 0 (byt a)) && decide (valueR 0 (byt a) ≤ 6)) := by
      conv => lhs; unfold beginsR
      rw [if_neg (fun e => h0 ((byt_nil s).1 e)), ha, hb]
    have hx1 : (byt b == []) = b.toList.isEmpty := by
      by_cases h : b.toList = []
      · rw [hbn.2 h, h]; rfl
      · have h2 : byt b ≠ [] := fun e => h (hbn.1 e)
        have h3 : b.toList.isEmpty = false := by simpa using h
        rw [h3]; simpa using h2
    have hx2 : (byt b == [48]) = (b.toList == [48]) := by
      by_cases h : b.toList = [48]
      · rw [hbz.2 h, h]; rfl
      · have h2 : byt b ≠ [48] := fun e => h (hbz.1 e)
        have h3 : (b.toList == [48]) = false := by simpa using h
        rw [h3]; simpa using h2
    rw [hx1, hx2] at hR
    have hza : a.size ≤ 9223372036854775806 := by omega
    have hzb : b.size ≤ 9223372036854775806 := by omega
    have HR := hide hR
    have hie : s.toList.isEmpty = false := by simpa using h0
    clear hl ha hb hsa hsb hs hbn hbz hx1 hx2 hR h0
    cases hpa : plainR (byt a) with
    | false =>
      have HE : Hid (beginsR (byt s) ahead = false) := by unfold Hid; rw [HR.out, hpa]; simp
      go_wp2_with (first | (go_at_call 130; refine (plain_m _ _ (by assumption)).mono ?_; rintro e w' ⟨rfl, rfl⟩; first | rw [hpa]) | (go_at_call 131; refine (value_m _ _ (by assumption)).mono ?_; rintro e w' ⟨rfl, rfl⟩))
      go_ret
      exact ⟨HL.out, by rw [HE.out]; rfl⟩
    | true =>
      by_cases h63 : 63 < valueR 0 (byt a)
      · have HE : Hid (beginsR (byt s) ahead = false) := by unfold Hid; rw [HR.out, hpa]; simp [h63]
        go_wp2_with (first | (go_at_call 130; refine (plain_m _ _ (by assumption)).mono ?_; rintro e w' ⟨rfl, rfl⟩; first | rw [hpa]) | (go_at_call 131; refine (value_m _ _ (by assumption)).mono ?_; rintro e w' ⟨rfl, rfl⟩))
        go_ret
        exact ⟨HL.out, by rw [HE.out]; rfl⟩
      · have HRR : Hid (beginsR (byt s) ahead = if starR (byt s) = true then !(valueR 0 (byt a) == ahead) && (b.toList.isEmpty || (plainR (byt b) && !(b.toList == [48]))) else !(valueR 0 (byt a) == ahead) || (decide (1 ≤ valueR 0 (byt a)) && decide (valueR 0 (byt a) ≤ 6))) := by
          unfold Hid
          rw [HR.out, hpa]
          have : decide (63 < valueR 0 (byt a)) = false := by simpa using h63
          rw [this]; simp
        clear HR
        cases hst : starR (byt s) with
        | false =>
          rw [hst] at HRR
          simp only [Bool.false_eq_true, if_false] at HRR
          go_wp2_with (first | (go_at_call 130; refine (plain_m _ _ (by assumption)).mono ?_; rintro e w' ⟨rfl, rfl⟩; first | rw [hpa]) | (go_at_call 131; refine (value_m _ _ (by assumption)).mono ?_; rintro e w' ⟨rfl, rfl⟩))
          all_goals
            go_ret
            refine ⟨HL.out, ?_⟩
            rw [HRR.out]
            simp [*] <;> first | rfl | omega
        | true =>
          rw [hst] at HRR
          simp only [if_true] at HRR
          cases hpb : plainR (byt b) with
          | true =>
            rw [hpb] at HRR
            go_wp2_with (first | (go_at_call 130; refine (plain_m _ _ (by assumption)).mono ?_; rintro e w' ⟨rfl, rfl⟩; first | rw [hpa] | rw [hpb]) | (go_at_call 131; refine (value_m _ _ (by assumption)).mono ?_; rintro e w' ⟨rfl, rfl⟩))
            all_goals
              go_ret
              refine ⟨HL.out, ?_⟩
              rw [HRR.out]
              simp [*] <;> first | rfl | omega
          | false =>
            rw [hpb] at HRR
            go_wp2_with (first | (go_at_call 130; refine (plain_m _ _ (by assumption)).mono ?_; rintro e w' ⟨rfl, rfl⟩; first | rw [hpa] | rw [hpb]) | (go_at_call 131; refine (value_m _ _ (by assumption)).mono ?_; rintro e w' ⟨rfl, rfl⟩))
            all_goals
              go_ret
              refine ⟨HL.out, ?_⟩
              rw [HRR.out]
              simp [*] <;> first | rfl | omega

end Go.Proofs.YtklenjmfalljgaaDoor

/- The walks of the reference's parts and whole. -/
namespace Go.Proofs.YtklenjmfalljgaaDoor
open Go.RowKit
attribute [local go_sem] Go.World.cell?_alloc_some

def strV (L : List ByteArray) : List Value := L.map fun x => .string x
theorem strV_len (L : List ByteArray) : (strV L).length = L.length := by simp [strV]

theorem extract_part (s : ByteArray) (f k : Nat) (_hf : f ≤ k) : byt (s.extract f k) = ((byt s).drop f).take (k - f) := by
  rw [byt_extract, List.drop_take]

/-- In the midst of parts: those that are done, where the next one begins, where we are. -/
structure PtsIn (s : ByteArray) (D : List ByteArray) (f k : Nat) : Prop where
  le : k ≤ s.size
  fk : f ≤ k
  no : ∀ x ∈ ((byt s).drop f).take (k - f), x ≠ 32
  eq : partsR (byt s) = D.map byt ++ partsR ((byt s).drop f)
  sz : ∀ x ∈ D, x.size ≤ s.size
  ln : D.length ≤ f

theorem PtsIn.cut {s : ByteArray} {D : List ByteArray} {f k : Nat} (h : PtsIn s D f k) (hk : (byt s)[k]? = some 32) (hlt : k < s.size) : PtsIn s (D ++ [s.extract f k]) (k + 1) (k + 1) := by
  have hf := h.fk
  refine ⟨by omega, Nat.le_refl _, by simp, ?_, ?_, by have := h.ln; simp; omega⟩
  · rw [h.eq, List.map_append, List.append_assoc]
    congr 1
    have e : (byt s).drop f = ((byt s).drop f).take (k - f) ++ 32 :: (byt s).drop (k + 1) := by
      have h1 := drop_get hk
      have h2 : ((byt s).drop f).drop (k - f) = (byt s).drop k := by rw [List.drop_drop]; congr 1; omega
      conv => lhs; rw [← List.take_append_drop (k - f) ((byt s).drop f), h2, h1]
    rw [e, parts_two _ _ h.no]
    simp [extract_part s f k hf]
  · intro x hx
    rcases List.mem_append.1 hx with hx | hx
    · exact h.sz x hx
    · simp at hx; rw [hx]; simp; omega
theorem PtsIn.step {s : ByteArray} {D : List ByteArray} {f k : Nat} (h : PtsIn s D f k) (hlt : k < s.size) (hk : s[k].toNat ≠ 32) : PtsIn s D f (k + 1) := by
  have hf := h.fk
  refine ⟨by omega, by omega, ?_, h.eq, h.sz, h.ln⟩
  intro x hx
  have hl : k - f < ((byt s).drop f).length := by rw [List.length_drop, byt_len]; omega
  have e : k + 1 - f = (k - f) + 1 := by omega
  rw [e, List.take_succ_eq_append_getElem hl] at hx
  rcases List.mem_append.1 hx with hx | hx
  · exact h.no x hx
  · have e2 : ((byt s).drop f)[k - f]? = some s[k].toNat := by
      rw [List.getElem?_drop, show f + (k - f) = k by omega]; exact byt_get s k hlt
    rw [List.getElem?_eq_getElem hl] at e2
    rw [Option.some.inj e2] at hx
    simp at hx; rw [hx]; exact hk
theorem PtsIn.fin {s : ByteArray} {D : List ByteArray} {f : Nat} (h : PtsIn s D f s.size) : partsR (byt s) = (D ++ [s.extract f s.size]).map byt ∧ (∀ x ∈ D ++ [s.extract f s.size], x.size ≤ s.size) ∧ (D ++ [s.extract f s.size]).length ≤ s.size + 1 := by
  have hf := h.fk
  have hn := h.no
  have e0 : ((byt s).drop f).take (s.size - f) = (byt s).drop f := List.take_of_length_le (by rw [List.length_drop, byt_len]; omega)
  rw [e0] at hn
  refine ⟨?_, ?_, by have := h.ln; simp; omega⟩
  · rw [h.eq, parts_one _ hn, List.map_append]
    simp [extract_part s f s.size hf, e0]
  · intro x hx
    rcases List.mem_append.1 hx with hx | hx
    · exact h.sz x hx
    · simp at hx; rw [hx]; simp

set_option maxRecDepth 100000 in
set_option maxHeartbeats 1000000 in
theorem parts_m (s : ByteArray) (w : World) (hs : s.size ≤ 1048576) :
    Calls Tryd.prog 94 #[.string s] w fun e w' => ∃ (L : List ByteArray) (x : Option Addr) (z : Nat), e = .returned (.slice x L.length z) ∧ L.map byt = partsR (byt s) ∧ (∀ y ∈ L, y.size ≤ s.size) ∧ w'.ownsRow w.heap.size 9 1 (.slice x L.length z) L.length (strV L) ∧ w.grownBy w' none := by
  obtain ⟨i0, hi0, hz0, hz1, hz2⟩ := info_parts info_str
  have H0 : Hid (PtsIn s [] 0 0) := ⟨by omega, by omega, by simp, by simp, by simp, by simp⟩
  go_enter Tryd.func94, Tryd.ntmps94
  go_wp2_with fail
  go_loopw [3, 4, 5] (fun lv fv i w' => ∃ (D : List ByteArray) (f k : Nat), i = .int .i64 k ∧ fv = .int .i64 f ∧ k ≤ s.size + 1 ∧ Hid (PtsIn s D f k ∨ (k = s.size + 1 ∧ D.map byt = partsR (byt s) ∧ (∀ y ∈ D, y.size ≤ s.size))) ∧ Hid (D.length ≤ k) ∧ Hid (w'.ownsRow w.heap.size 9 1 lv D.length (strV D) ∧ w.grownBy w' none)) (fun _ _ i _ => s.size + 1 - (intOf i).toNat)
  case atStart => exact ⟨[], 0, 0, rfl, rfl, by omega, hide (Or.inl H0.out), hide (by simp), ⟨rfl, Or.inl ⟨rfl, rfl⟩⟩, grown_refl _ _⟩
  case round =>
    obtain ⟨D, f, k, rfl, rfl, hk, HP, HD, HL⟩ := hrel
    obtain ⟨w5, hw5⟩ : ∃ w5, w5 = wr := ⟨_, rfl⟩
    subst hw5
    obtain ⟨x1, x2, x3, rfl⟩ := owns_form HL.out.1
    have hx2 := owns_lenq HL.out.1
    subst hx2
    have H1 := hide HL.out.1
    have H2 := hide HL.out.2
    have hsz2 := HL.out.2.size
    have hob := owns_block H1.out
    have hDl := HD.out
    have h63 : D.length + 1 ≤ maxLen := by unfold maxLen; omega
    rcases HP.out with hp | ⟨hk1, hd1, hd2⟩
    · have HP1 := hide hp
      have hle := hp.le
      have hfk := hp.fk
      have q0 : (k : Int) ≤ s.size := by omega
      have q1 : (0 : Int) ≤ (f : Int) := by omega
      have q2 : (f : Int) ≤ k := by omega
      have HAPP : Hid (∀ (w6 : World) (g6 cap6 : Nat), w6.ownsRow w.heap.size 9 1 (.slice (some ⟨g6, 0, none⟩) (D.length + 1) cap6) (D.length + 1) (strV D ++ [.string (s.extract f k)]) → (w5.alloc (.cells #[.string (s.extract f k)] 9)).grownBy w6 (Value.slice x1 D.length x3).ownBlock → w6.ownsRow w.heap.size 9 1 (.slice (some ⟨g6, 0, none⟩) (D.length + 1) cap6) (D ++ [s.extract f k]).length (strV (D ++ [s.extract f k])) ∧ w.grownBy w6 none) := by
        intro w6 g6 cap6 h1 h2
        refine ⟨?_, grown_row (grown_alloc H2.out) h2 (fun q e => hob q e)⟩
        simpa [strV] using h1
      clear hp HP HL
      by_cases hlt : k < s.size
      · have q3 : (k : Int) < s.size := by omega
        have q4 : ((k : Int) == (s.size : Int)) = false := by simp; omega
        by_cases h32 : s[k].toNat = 32
        · have h32' : (((s[k].toNat : Nat) : Int) == 32) = true := by simp; omega
          have HN : Hid (PtsIn s (D ++ [s.extract f k]) (k + 1) (k + 1)) := HP1.out.cut (by rw [byt_get s k hlt, h32]) hlt
          clear h32
          go_wp2_with (at_builtin; refine wpList_append_lies _ rfl _ _ _ rfl w.heap.size 9 i0 _ 1 16 Tryd.underlying157 hi0 hz0 hz1 hz2 rfl (by omega) (.slice x1 D.length x3) D.length (strV D) rfl (owns_alloc H1.out) ⟨w5.heap.size, 0, none⟩ 1 1 [.string (s.extract f k)] rfl rfl (World.news_of_block (cs := #[.string (s.extract f k)]) (t := 9) (fr := (0, 0)) (heap_alloc_new w5 _)) (by simp [Value.oneCell']) (by omega) h63 (by omega) (by simp; omega) (w5.heap.size + 1) (by simp) ?_; intro g6 cap6 w6 hown6 hgrow hat hlt6; have F := hide (HAPP.out w6 g6 cap6 hown6 hgrow); clear hown6 hgrow hat)
          go_roundw
          case rel => exact ⟨D ++ [s.extract f k], k + 1, k + 1, by go_num, by go_num, by omega, hide (Or.inl HN.out), hide (by simp; omega), F⟩
          case measure => simp [intOf]; omega
        · have h32' : (((s[k].toNat : Nat) : Int) == 32) = false := by simp; omega
          have HN : Hid (PtsIn s D f (k + 1)) := HP1.out.step hlt h32
          clear h32
          go_wp2_with fail
          go_roundw
          case rel => exact ⟨D, f, k + 1, by go_num, rfl, by omega, hide (Or.inl HN.out), hide (by omega), H1.out, H2.out⟩
          case measure => simp [intOf]; omega
      · have ek : k = s.size := by omega
        have q4 : ((k : Int) == (s.size : Int)) = true := by simp; omega
        have q5 : k ≤ s.size := hle
        have HN : Hid (partsR (byt s) = (D ++ [s.extract f k]).map byt ∧ (∀ x ∈ D ++ [s.extract f k], x.size ≤ s.size) ∧ (D ++ [s.extract f k]).length ≤ s.size + 1) := by
          have := HP1.out
          rw [ek] at this ⊢
          exact this.fin
        have HEK := hide ek
        clear ek
        go_wp2_with (at_builtin; refine wpList_append_lies _ rfl _ _ _ rfl w.heap.size 9 i0 _ 1 16 Tryd.underlying157 hi0 hz0 hz1 hz2 rfl (by omega) (.slice x1 D.length x3) D.length (strV D) rfl (owns_alloc H1.out) ⟨w5.heap.size, 0, none⟩ 1 1 [.string (s.extract f k)] rfl rfl (World.news_of_block (cs := #[.string (s.extract f k)]) (t := 9) (fr := (0, 0)) (heap_alloc_new w5 _)) (by simp [Value.oneCell']) (by omega) h63 (by omega) (by simp; omega) (w5.heap.size + 1) (by simp) ?_; intro g6 cap6 w6 hown6 hgrow hat hlt6; have F := hide (HAPP.out w6 g6 cap6 hown6 hgrow); clear hown6 hgrow hat)
        go_roundw
        case rel => exact ⟨D ++ [s.extract f k], k + 1, k + 1, by go_num, by go_num, by omega, hide (Or.inr ⟨by rw [HEK.out], HN.out.1.symm, HN.out.2.1⟩), hide (by simp; omega), F⟩
        case measure => simp [intOf]; omega
    · have q0 : (s.size : Int) < k := by omega
      have HE := hide hd1
      have HS := hide hd2
      clear hd1 hd2 hk1 HP HL
      go_wp2_with fail
      go_ret
      exact ⟨D, x1, x3, rfl, HE.out, HS.out, H1.out, H2.out⟩

end Go.Proofs.YtklenjmfalljgaaDoor

/- The walks of the reference's whole and Parse. -/
namespace Go.Proofs.YtklenjmfalljgaaDoor
open Go.RowKit
attribute [local go_sem] Go.World.cell?_alloc_some

/-- A slice of strings in memory. -/
def StrsAt (w : World) (v : Value) (L : List ByteArray) : Prop :=
  ∃ ao cap, v = .slice ao L.length cap ∧ ∀ k (hk : k < L.length), ∃ g o, ao = some ⟨g, o, none⟩ ∧ w.cell? ⟨g, o + k, none⟩ = some (.string L[k])
theorem StrsAt.pres {w w' : World} {v : Value} {L : List ByteArray} (h : StrsAt w v L) (hp : Pres w w') : StrsAt w' v L := by
  obtain ⟨ao, cap, e, hc⟩ := h
  exact ⟨ao, cap, e, fun k hk => by obtain ⟨g, o, e2, c⟩ := hc k hk; exact ⟨g, o, e2, hp _ _ c⟩⟩
theorem owns_strs {w : World} {base : Nat} {x : Option Addr} {z : Nat} {L : List ByteArray} (h : w.ownsRow base 9 1 (.slice x L.length z) L.length (strV L)) : StrsAt w (.slice x L.length z) L := by
  rcases h.2 with ⟨e, e0⟩ | ⟨g, cap, cur, hv, hb, hh, hc, _⟩
  · exact ⟨x, z, rfl, fun k hk => by omega⟩
  · simp only [Value.slice.injEq, true_and] at hv
    obtain ⟨rfl, rfl⟩ := hv
    refine ⟨some ⟨g, 0, none⟩, z, rfl, fun k hk => ⟨g, 0, rfl, ?_⟩⟩
    rw [Nat.zero_add, h.cellAt k (by omega)]
    simp [strV, hk]
theorem StrsAt.init {w : World} {x : Option Addr} {z : Nat} {L : List ByteArray} (h : StrsAt w (.slice x L.length z) L) (m : Nat) (hm : m ≤ L.length) : StrsAt w (.slice x m z) (L.take m) := by
  obtain ⟨ao, cap, e, hc⟩ := h
  simp only [Value.slice.injEq, true_and] at e
  obtain ⟨rfl, rfl⟩ := e
  refine ⟨x, z, by simp [Nat.min_eq_left hm], fun k hk => ?_⟩
  have hk' : k < L.length := by simp at hk; omega
  obtain ⟨g, o, e2, c⟩ := hc k hk'
  exact ⟨g, o, e2, by simpa using c⟩

theorem fill_step (out : List Int) (t n : Int) (hn : 0 < n) (ho : out.length ≤ 500) : fillR (out ++ [t]) t (n - 1) = fillR out t n := by
  unfold fillR
  have e : min n.toNat (501 - out.length) = min (n - 1).toNat (501 - (out ++ [t]).length) + 1 := by simp; omega
  rw [e, List.replicate_succ, List.append_assoc]; rfl
theorem fill_end (out : List Int) (t n : Int) (h : ¬ (0 < n ∧ out.length ≤ 500)) : fillR out t n = out := by
  unfold fillR
  have e : min n.toNat (501 - out.length) = 0 := by omega
  rw [e]; simp
theorem fill_len (out : List Int) (t n : Int) (h : out.length ≤ 501) : (fillR out t n).length ≤ 501 := by
  unfold fillR; simp; omega

theorem value_le (l : List Nat) : ∀ n, valueR n l ≤ 1000 := by
  induction l with
  | nil => intro n; unfold valueR; omega
  | cons b r ih => intro n; unfold valueR; split
                   · exact ih _
                   · omega
theorem run_le {l : List Nat} {ah t n : Int} (h : runR l ah = some (t, n)) : n ≤ 1000 := by
  unfold runR at h
  split at h
  · cases h
  · split at h
    · cases h
    · split at h
      · simp only [Option.some.injEq, Prod.mk.injEq] at h; rw [← h.2]; exact value_le _ _
      · simp only [Option.some.injEq, Prod.mk.injEq] at h; omega

def wholeV (o : Option (List Int × Int)) (v : Value) : Value := match o with
  | none => .tuple #[.slice none 0 0, .int .i64 0, .bool false]
  | some (_, a) => .tuple #[v, .int .i64 a, .bool true]

def outOf (o : Option (List Int × Int)) : List Int := match o with
  | none => []
  | some (l, _) => l

def WholeAt (L : List (List Nat)) (w : World) (e : Ending) (w' : World) : Prop :=
  ∃ x y z, e = .returned (wholeV (wholeR L (-1) []) (.slice x y z)) ∧ w'.ownsRow w.heap.size 3 1 (.slice x y z) (outOf (wholeR L (-1) [])).length (ints (outOf (wholeR L (-1) []))) ∧ w.grownBy w' none ∧ (outOf (wholeR L (-1) [])).length ≤ 501

set_option maxRecDepth 100000 in
set_option maxHeartbeats 2000000 in
theorem whole_m (L : List ByteArray) (v : Value) (w : World) (hS : StrsAt w v L) (hz : ∀ x ∈ L, x.size ≤ 9223372036854775806) (hln : L.length ≤ 9223372036854775806) :
    Calls Tryd.prog 93 #[v] w (WholeAt (L.map byt) w) := by
  obtain ⟨i0, hi0, hz0, hz1, hz2⟩ := info_parts info_int
  obtain ⟨ao, cap, rfl, hc⟩ := hS
  have HC := hide hc
  have HZ := hide hz
  clear hc hz
  go_enter Tryd.func93, Tryd.ntmps93
  go_wp2_with fail
  go_loopw [5, 6, 7] (fun ov av i w' => ∃ (out : List Int) (ah : Int) (k : Nat), k ≤ L.length ∧ i = .int .i64 k ∧ av = .int .i64 ah ∧ Hid (wholeR ((L.map byt).drop k) ah out = wholeR (L.map byt) (-1) []) ∧ Hid (out.length ≤ 501) ∧ Hid (w'.ownsRow w.heap.size 3 1 ov out.length (ints out) ∧ w.grownBy w' none)) (fun _ _ i _ => L.length - (intOf i).toNat)
  case atStart => exact ⟨[], -1, 0, Nat.zero_le _, rfl, rfl, by simp [Hid], hide (by simp), ⟨rfl, Or.inl ⟨rfl, rfl⟩⟩, grown_refl _ _⟩
  case round =>
    obtain ⟨out, ah, k, hk, rfl, rfl, HW, HO, HL⟩ := hrel
    obtain ⟨w5, hw5⟩ : ∃ w5, w5 = wr := ⟨_, rfl⟩
    subst hw5
    obtain ⟨x1, x2, x3, rfl⟩ := owns_form HL.out.1
    have hx2 := owns_lenq HL.out.1
    subst hx2
    have H1 := hide HL.out.1
    have H2 := hide HL.out.2
    have hol := HO.out
    by_cases hlt : k < L.length
    · obtain ⟨g, o, rfl, c0⟩ := HC.out k hlt
      have d0 := pres_grown H2.out _ _ c0
      have hk0 : (0 : Int) ≤ (k : Int) := by omega
      have hk1 : (k : Int) < L.length := by omega
      have hkl : k < (L.map byt).length := by simpa using hlt
      have HST : Hid (wholeR ((L.map byt).drop k) ah out = match runR (byt L[k]) ah with | none => none | some (t, n) => wholeR ((L.map byt).drop (k + 1)) t (fillR out t n)) := by
        unfold Hid
        rw [List.drop_eq_getElem_cons hkl, wholeR]
        simp only [List.getElem_map]
        cases runR (byt L[k]) ah <;> rfl
      have HRR := hide (rrun_m L[k] ah w5 (HZ.out _ (List.getElem_mem hlt)))
      clear c0 HL HO
      generalize hR : runR (byt L[k]) ah = R at *
      generalize L[k] = sk at *
      go_wp2_with fail
      refine HRR.out.mono ?_
      clear HRR
      rintro e w6 ⟨hl6, rfl⟩
      have H16 : Hid (w6.ownsRow w.heap.size 3 1 (.slice x1 out.length x3) out.length (ints out)) := owns_grown H1.out (grown_of_like (r := none) hl6) (fun _ e => by cases e)
      have H26 : Hid (w.grownBy w6 none) := grown_like H2.out hl6
      clear hl6
      cases R with
      | none =>
        simp only [runV]
        have HE : Hid (wholeR (L.map byt) (-1) [] = none) := by unfold Hid; rw [← HW.out, HST.out]
        go_wp2_with fail
        refine bodyPost_ret (v := .tuple #[.slice none 0 0, .int .i64 0, .bool false]) (by simp [results, Tryd.results93, go_sem]) rfl ?_
        refine ⟨none, 0, 0, by rw [HE.out]; rfl, ?_, H26.out, ?_⟩
        · rw [HE.out]; exact ⟨rfl, Or.inl ⟨rfl, rfl⟩⟩
        · rw [HE.out]; simp [outOf]
      | some tn =>
        obtain ⟨t, n⟩ := tn
        simp only [runV]
        have HNX : Hid (wholeR ((L.map byt).drop (k + 1)) t (fillR out t n) = wholeR (L.map byt) (-1) []) := by unfold Hid; rw [← HW.out, HST.out]
        have hn1000 := run_le hR
        clear HST HW hR
        go_wp2_with fail
        go_loopw [5, 9] (fun ov nv w' => ∃ (o' : List Int) (n' : Int), nv = .int .i64 n' ∧ Hid (n' ≤ n ∧ fillR o' t n' = fillR out t n ∧ o'.length ≤ 501) ∧ Hid (w'.ownsRow w.heap.size 3 1 ov o'.length (ints o') ∧ w.grownBy w' none)) (fun _ nv _ => (intOf nv).toNat)
        case atStart => exact ⟨out, n, rfl, hide ⟨by omega, rfl, hol⟩, H16.out, H26.out⟩
        case round =>
          obtain ⟨o', n', rfl, HF, HL⟩ := hrel
          obtain ⟨w7, hw7⟩ : ∃ w7, w7 = wr := ⟨_, rfl⟩
          subst hw7
          obtain ⟨y1, y2, y3, rfl⟩ := owns_form HL.out.1
          have hy2 := owns_lenq HL.out.1
          subst hy2
          obtain ⟨f1, f2, f3⟩ := HF.out
          have G1 := hide HL.out.1
          have G2 := hide HL.out.2
          have hsz7 := HL.out.2.size
          have hob := owns_block G1.out
          have F2 := hide f2
          clear HF HL f2
          have h63 : o'.length + 1 ≤ maxLen := by unfold maxLen; omega
          by_cases hn0 : 0 < n'
          · by_cases ho5 : o'.length ≤ 500
            · have q5 : (o'.length : Int) ≤ 500 := by omega
              have HF2 : Hid (fillR (o' ++ [t]) t (n' - 1) = fillR out t n) := by unfold Hid; rw [fill_step o' t n' hn0 ho5]; exact F2.out
              go_wp2_with (at_builtin; refine wpList_append_lies _ rfl _ _ _ rfl w.heap.size 3 i0 _ 1 8 Tryd.underlying22 hi0 hz0 hz1 hz2 rfl (by omega) (.slice y1 o'.length y3) o'.length (ints o') rfl (owns_alloc G1.out) ⟨w7.heap.size, 0, none⟩ 1 1 [.int .i64 t] rfl rfl (World.news_of_block (cs := #[.int .i64 t]) (t := 3) (fr := (0, 0)) (heap_alloc_new w7 _)) (by simp [Value.oneCell']) (by omega) h63 (by omega) (by simp; omega) (w7.heap.size + 1) (by simp) ?_; intro g8 cap8 w8 hown8 hgrow hat hlt8)
              have HNL : Hid (w8.ownsRow w.heap.size 3 1 (.slice (some ⟨g8, 0, none⟩) (o'.length + 1) cap8) (o' ++ [t]).length (ints (o' ++ [t])) ∧ w.grownBy w8 none) := by
                refine ⟨?_, grown_row (grown_alloc G2.out) hgrow (fun q e => hob q e)⟩
                simpa [ints] using hown8
              clear hown8 hgrow hat
              go_wp2
              go_roundw
              case rel => exact ⟨o' ++ [t], n' - 1, rfl, hide ⟨by omega, HF2.out, by simp; omega⟩, HNL⟩
              case measure => simp [intOf]; omega
            · have q5 : ¬ (o'.length : Int) ≤ 500 := by omega
              have HEX : Hid (o' = fillR out t n) := by unfold Hid; rw [← F2.out, fill_end o' t n' (by omega)]
              go_wp2_with fail
              go_roundw
              case rel => exact ⟨o', t, k + 1, by omega, by go_num, rfl, hide (by rw [HEX.out]; exact HNX.out), hide f3, G1.out, G2.out⟩
              case measure => simp [intOf]; omega
          · have HEX : Hid (o' = fillR out t n) := by unfold Hid; rw [← F2.out, fill_end o' t n' (by omega)]
            go_wp2_with fail
            go_roundw
            case rel => exact ⟨o', t, k + 1, by omega, by go_num, rfl, hide (by rw [HEX.out]; exact HNX.out), hide f3, G1.out, G2.out⟩
            case measure => simp [intOf]; omega
    · have q2 : (L.length : Int) ≤ (k : Int) := by omega
      have HE : Hid (wholeR (L.map byt) (-1) [] = some (out, ah)) := by
        unfold Hid; rw [← HW.out, List.drop_eq_nil_of_le (by simp; omega)]; rfl
      go_wp2_with fail
      refine bodyPost_ret (v := .tuple #[.slice x1 out.length x3, .int .i64 ah, .bool true]) (by simp [results, Tryd.results93, go_sem]) rfl ?_
      refine ⟨x1, out.length, x3, by rw [HE.out]; rfl, ?_, H2.out, ?_⟩
      · rw [HE.out]; exact H1.out
      · rw [HE.out]; exact hol

end Go.Proofs.YtklenjmfalljgaaDoor

/- The walk of the reference's Parse. -/
namespace Go.Proofs.YtklenjmfalljgaaDoor
open Go.RowKit
attribute [local go_sem] Go.World.cell?_alloc_some

def parV (p : ParP) (v : Value) : Value := .tuple #[v, .int .i64 p.at_, .int .i64 (parE p.ok)]

theorem search_step (l : List Nat) (k : Nat) : searchR l (k + 1) = if viable (-1) (l.take (k + 1)) = true then k + 1 else searchR l k := rfl

set_option maxRecDepth 100000 in
set_option maxHeartbeats 400000 in
theorem refparse_m (s : ByteArray) (w : World) (hs : s.size ≤ 1048576) :
    Calls Tryd.prog 63 #[.string s] w fun e w' => ∃ x y z, e = .returned (parV (parseR (byt s)) (.slice x y z)) ∧ w'.ownsRow w.heap.size 3 1 (.slice x y z) (parseR (byt s)).out.length (ints (parseR (byt s)).out) ∧ w.grownBy w' none := by
  have hnil : ∀ w4 : World, w4.ownsRow w.heap.size 3 1 (.slice none 0 0) ([] : List Int).length (ints []) := fun w4 => ⟨rfl, Or.inl ⟨rfl, rfl⟩⟩
  have HNIL := hide hnil
  clear hnil
  by_cases h0 : s.toList = []
  · have HE : Hid (parseR (byt s) = ⟨[], 0, true⟩) := by unfold Hid; rw [(byt_nil s).2 h0]; rfl
    go_enter Tryd.func63, Tryd.ntmps63
    go_wp2_with fail
    refine bodyPost_ret (v := .tuple #[.slice none 0 0, .int .i64 0, .int .i64 0]) (by simp [results, Tryd.results63, go_sem]) rfl ?_
    exact ⟨none, 0, 0, by rw [HE.out]; rfl, by rw [HE.out]; exact HNIL.out _, grown_refl _ _⟩
  · have hie : s.toList.isEmpty = false := by simpa using h0
    have HR : Hid (parseR (byt s) = match wholeR (partsR (byt s)) (-1) [] with
        | some (o, _) => if 500 < o.length then ⟨[], 0, false⟩ else ⟨o, 0, true⟩
        | none => ⟨[], searchR (byt s) (byt s).length, false⟩) := by
      unfold Hid
      conv => lhs; unfold parseR
      rw [if_neg (fun e => h0 ((byt_nil s).1 e))]
      cases wholeR (partsR (byt s)) (-1) [] <;> rfl
    clear h0
    have HPW : Hid (∀ (u : ByteArray), u.size ≤ 1048576 → ∀ w2 : World, w.grownBy w2 none → Calls Tryd.prog 94 #[.string u] w2 fun e w' => ∃ (L : List ByteArray) (x : Option Addr) (z : Nat), e = .returned (.slice x L.length z) ∧ L.map byt = partsR (byt u) ∧ (∀ y ∈ L, y.size ≤ 1048576) ∧ StrsAt w' (.slice x L.length z) L ∧ w.grownBy w' none ∧ L.length ≤ z ∧ L.length ≤ 9223372036854775806) := by
      intro u hu w2 hg2
      refine (parts_m u w2 hu).mono ?_
      rintro e w3 ⟨L, x, z, rfl, h1, h2, h3, h4⟩
      have hz : L.length ≤ z ∧ z ≤ maxLen := by
        rcases h3.2 with ⟨e1, e2⟩ | ⟨_, _, _, e1, _, _, e2, e3, _⟩
        · simp only [Value.slice.injEq] at e1; exact ⟨by omega, by unfold maxLen; omega⟩
        · simp only [Value.slice.injEq, true_and] at e1; exact ⟨by omega, by omega⟩
      have hL : L.length ≤ u.size + 1 := by
        have e1 := congrArg List.length h1
        rw [List.length_map] at e1
        have : ∀ l : List Nat, (partsR l).length ≤ l.length + 1 := by
          intro l
          induction l with
          | nil => simp [partsR]
          | cons b r ih =>
            unfold partsR
            split
            · simp; omega
            · simp
              omega
        have := this (byt u)
        rw [byt_len] at this; omega
      exact ⟨L, x, z, rfl, h1, fun y hy => by have := h2 y hy; omega, owns_strs h3, grown_trans hg2 h4, hz.1, by omega⟩
    go_enter Tryd.func63, Tryd.ntmps63
    go_wp2_with fail
    refine (HPW.out s hs w (grown_refl _ _)).mono ?_
    rintro e w1 ⟨L, x, z, rfl, h1, h2, h3, h4, h5, h6⟩
    have HG1 := hide h4
    have HWH := hide (whole_m L (.slice x L.length z) w1 h3 (fun y hy => by have := h2 y hy; omega) h6)
    rw [h1] at HWH
    clear h1 h2 h3 h4 h5 h6
    go_wp2_with fail
    refine HWH.out.mono ?_
    clear HWH
    rintro e w2 ⟨y1, y2, y3, rfl, ho2, hg2, hl2⟩
    have HG2 : Hid (w.grownBy w2 none) := grown_trans HG1.out hg2
    have HO2 : Hid (w2.ownsRow w.heap.size 3 1 (.slice y1 y2 y3) (outOf (wholeR (partsR (byt s)) (-1) [])).length (ints (outOf (wholeR (partsR (byt s)) (-1) [])))) := owns_mono ho2 HG1.out.size
    have hy2 := owns_lenq ho2
    clear ho2 hg2
    generalize wholeR (partsR (byt s)) (-1) [] = W at *
    cases W with
    | some oa =>
      obtain ⟨o, a⟩ := oa
      simp only [wholeV, outOf] at *
      subst hy2
      by_cases h5 : 500 < o.length
      · have HE : Hid (parseR (byt s) = ⟨[], 0, false⟩) := by unfold Hid; rw [HR.out, if_pos h5]
        have h5' : 500 < (o.length : Int) := by omega
        go_wp2_with fail
        refine bodyPost_ret (v := .tuple #[.slice none 0 0, .int .i64 0, .int .i64 4]) (by simp [results, Tryd.results63, go_sem]) rfl ?_
        exact ⟨none, 0, 0, by rw [HE.out]; rfl, by rw [HE.out]; exact HNIL.out _, HG2.out⟩
      · have HE : Hid (parseR (byt s) = ⟨o, 0, true⟩) := by unfold Hid; rw [HR.out, if_neg h5]
        have h5' : ¬ 500 < (o.length : Int) := by omega
        go_wp2_with fail
        refine bodyPost_ret (v := .tuple #[.slice y1 o.length y3, .int .i64 0, .int .i64 0]) (by simp [results, Tryd.results63, go_sem]) rfl ?_
        exact ⟨y1, o.length, y3, by rw [HE.out]; rfl, by rw [HE.out]; exact HO2.out, HG2.out⟩
    | none =>
      simp only [wholeV, outOf] at *
      have HE : Hid (parseR (byt s) = ⟨[], searchR (byt s) s.size, false⟩) := by unfold Hid; rw [HR.out, byt_len]
      clear HR HO2
      go_wp2_with fail
      go_loopw [8] (fun kv w' => ∃ k : Nat, k ≤ s.size ∧ kv = .int .i64 k ∧ Hid (searchR (byt s) k = searchR (byt s) s.size) ∧ Hid (w.grownBy w' none)) (fun kv _ => (intOf kv).toNat)
      case atStart => exact ⟨s.size, Nat.le_refl _, rfl, hide rfl, HG2⟩
      case round =>
        obtain ⟨k, hk, rfl, HS, HG⟩ := hrel
        obtain ⟨w5, hw5⟩ : ∃ w5, w5 = wr := ⟨_, rfl⟩
        subst hw5
        cases k with
        | zero =>
          have HE2 : Hid (parseR (byt s) = ⟨[], 0, false⟩) := by unfold Hid; rw [HE.out, ← HS.out]; rfl
          go_wp2_with fail
          refine bodyPost_ret (v := .tuple #[.slice none 0 0, .int .i64 0, .int .i64 4]) (by simp [results, Tryd.results63, go_sem]) rfl ?_
          exact ⟨none, 0, 0, by rw [HE2.out]; rfl, by rw [HE2.out]; exact HNIL.out _, HG.out⟩
        | succ k =>
          have hst := search_step (byt s) k
          rw [HS.out] at hst
          have hkk : ((k + 1 : Nat) : Int) = (k : Int) + 1 := by omega
          obtain ⟨m, hm⟩ : ∃ m, m = k + 1 := ⟨_, rfl⟩
          rw [← hm] at hst hk ⊢
          have q0 : (0 : Int) < (m : Int) := by omega
          have q1 : (m : Int) ≤ s.size := by omega
          have hext : (s.extract 0 m).size ≤ 1048576 := by simp; omega
          have hbe : byt (s.extract 0 m) = (byt s).take m := by rw [byt_extract, List.drop_zero]
          have HPU := hide (HPW.out (s.extract 0 m) hext w5 HG.out)
          rw [hbe] at HPU
          have HST := hide hst
          have HKM := hide hm
          clear hst hext hbe HS hkk hm
          go_wp2_with fail
          refine HPU.out.mono ?_
          clear HPU
          rintro e w6 ⟨M, x', z', rfl, m1, m2, m3, m4, m5, m6⟩
          have hMne : 0 < M.length := by
            have := congrArg List.length m1
            rw [List.length_map] at this
            have h2 := List.length_pos_iff.2 (parts_ne ((byt s).take m))
            omega
          obtain ⟨j, hj⟩ : ∃ j, M.length = j + 1 := ⟨M.length - 1, by omega⟩
          have hjlt : j < M.length := by omega
          have m3' := m3
          obtain ⟨ao, cp, e3, hcell⟩ := m3'
          simp only [Value.slice.injEq, true_and] at e3
          obtain ⟨rfl, rfl⟩ := e3
          obtain ⟨g, o, rfl, c0⟩ := hcell j hjlt
          have HIN := hide (m3.init j (by omega))
          have hdl : (M.take j).map byt = (partsR ((byt s).take m)).dropLast := by
            rw [← m1, List.dropLast_eq_take, List.length_map, hj, Nat.add_sub_cancel, List.map_take]
          have hgl : (partsR ((byt s).take m)).getLastD [] = byt M[j] := by
            rw [← m1]
            rw [List.getLastD_eq_getLast?, List.getLast?_eq_getElem?, List.length_map, hj, Nat.add_sub_cancel, List.getElem?_map, List.getElem?_eq_getElem hjlt]; rfl
          have HWH := hide (whole_m (M.take j) (.slice (some ⟨g, o, none⟩) j z') w6 HIN.out (fun y hy => by have := m2 y (List.mem_of_mem_take hy); omega) (by simp; omega))
          rw [hdl] at HWH
          have HV : Hid (viable (-1) ((byt s).take m) = match wholeR (partsR ((byt s).take m)).dropLast (-1) [] with
              | none => false
              | some (_, a) => beginsR (byt M[j]) a) := by
            unfold Hid viable
            rw [hgl]
            cases wholeR (partsR ((byt s).take m)).dropLast (-1) [] <;> rfl
          have HMJ := hide (m2 M[j] (List.getElem_mem hjlt))
          have HG6 := hide m4
          have hjz : (j : Int) ≤ (z' : Int) := by omega
          have hjz2 : (j : Int) + 1 ≤ (z' : Int) := by omega
          generalize M[j] = mj at *
          rw [hj]
          have hj0 : (0 : Int) ≤ (j : Int) := by omega
          have hj1 : (j : Int) < (j : Int) + 1 := by omega
          have hj9 : (j : Int) ≤ 9223372036854775805 := by omega
          clear m1 m2 m3 m4 m5 hcell hdl hgl HIN hMne hjlt m6 hj
          go_wp2_with (go_at_call 93; refine HWH.out.mono ?_)
          clear HWH
          rintro e w7 ⟨a1, a2, a3, rfl, ho7, hg7, hl7⟩
          have HG7 : Hid (w.grownBy w7 none) := grown_trans HG6.out hg7
          have d0 := pres_grown hg7 _ _ c0
          clear ho7 hg7 hl7 c0
          cases hW : wholeR (partsR ((byt s).take m)).dropLast (-1) [] with
          | none =>
            rw [hW] at HV
            simp only [wholeV]
            have HNX : Hid (searchR (byt s) k = searchR (byt s) s.size) := by
              unfold Hid; rw [HST.out, HV.out, if_neg (by simp)]
            go_wp2_with fail
            go_roundw
            case rel => exact ⟨k, by have := HKM.out; omega, by rw [HKM.out]; go_num, HNX, HG7⟩
            case measure => have := HKM.out; simp [intOf]; omega
          | some oa =>
            obtain ⟨o', a⟩ := oa
            rw [hW] at HV
            simp only [wholeV]
            simp only at HV
            have HB := hide (rbegins_m mj a w7 (by have := HMJ.out; omega))
            cases hbg : beginsR (byt mj) a with
            | true =>
              have HE2 : Hid (parseR (byt s) = ⟨[], m, false⟩) := by unfold Hid; rw [HE.out, HST.out, HV.out, hbg, if_pos rfl]
              rw [hbg] at HB
              go_wp2_with (go_at_call 95; refine HB.out.mono ?_; rintro e w8 ⟨hl8, rfl⟩)
              refine bodyPost_ret (v := .tuple #[.slice none 0 0, .int .i64 m, .int .i64 4]) (by simp [results, Tryd.results63, go_sem]) rfl ?_
              exact ⟨none, 0, 0, by rw [HE2.out]; rfl, by rw [HE2.out]; exact HNIL.out _, grown_like HG7.out hl8⟩
            | false =>
              have HNX : Hid (searchR (byt s) k = searchR (byt s) s.size) := by
                unfold Hid; rw [HST.out, HV.out, hbg, if_neg (by simp)]
              rw [hbg] at HB
              go_wp2_with (go_at_call 95; refine HB.out.mono ?_; rintro e w8 ⟨hl8, rfl⟩; have HG8 : Hid (w.grownBy w8 none) := grown_like HG7.out hl8; clear hl8)
              go_roundw
              case rel => exact ⟨k, by have := HKM.out; omega, by rw [HKM.out]; go_num, HNX, HG8⟩
              case measure => have := HKM.out; simp [intOf]; omega

end Go.Proofs.YtklenjmfalljgaaDoor

/- The walks of the reference's scheduled, often and digits. -/
namespace Go.Proofs.YtklenjmfalljgaaDoor
open Go.RowKit
attribute [local go_sem] Go.World.cell?_alloc_some

set_option maxRecDepth 100000 in
set_option maxHeartbeats 1000000 in
theorem scheduled_m (l : List Int) (v : Value) (w : World) (hI : IntsAt w.heap.size w v l) :
    Calls Tryd.prog 49 #[v] w fun e w' => e = .returned (.bool (validS l)) ∧ w.grownBy w' none := by
  obtain ⟨ao, cap, rfl, hcap, hc⟩ := hI
  by_cases h5 : l.length ≤ 500
  · have g5 : (l.length : Int) ≤ 500 := by omega
    have HV : Hid (validS l = l.all okN) := by unfold Hid validS; rw [decide_eq_true h5]; rfl
    have HC := hide hc
    clear hc
    go_enter Tryd.func49, Tryd.ntmps49
    go_wp2
    go_loopw [3] (fun i w' => ∃ k : Nat, k ≤ l.length ∧ i = .int .i64 k ∧ w' = w ∧ Hid ((l.take k).all okN = true)) (fun i _ => l.length - (intOf i).toNat)
    case atStart => exact ⟨0, Nat.zero_le _, rfl, rfl, rfl⟩
    case round =>
      obtain ⟨k, hk, rfl, rfl, HA⟩ := hrel
      by_cases hlt : k < l.length
      · obtain ⟨g, o, rfl, hg, c0⟩ := HC.out k hlt
        have HAs := hide (all_take_succ l okN k hlt)
        have hk0 : (0 : Int) ≤ (k : Int) := by omega
        have hk1 : (k : Int) < l.length := by omega
        have HF : Hid (okN l[k] = false → validS l = false) := by
          intro h
          rw [HV.out]
          have : (l.take (k + 1)).all okN = false := by rw [HAs.out, h]; simp
          rw [← List.take_append_drop (k + 1) l, List.all_append, this]; rfl
        generalize l[k] = x at *
        by_cases h0 : 0 ≤ x
        · by_cases h63 : x ≤ 63
          · have HA1 : Hid ((l.take (k + 1)).all okN = true) := by unfold Hid; rw [HAs.out, HA.out]; simp [okN, h0, h63]
            have h0' : ¬ x < 0 := by omega
            have h63' : ¬ 63 < x := by omega
            go_wp2
            go_roundw
            case rel => exact ⟨k + 1, by omega, by go_num, trivial, HA1⟩
            case measure => simp [intOf]; omega
          · have HE := hide (HF.out (by simp [okN, h63]))
            have h63' : 63 < x := by omega
            go_wp2
            go_ret
            exact ⟨by rw [HE.out]; rfl, grown_refl _ _⟩
        · have HE := hide (HF.out (by simp [okN, h0]))
          have h0' : x < 0 := by omega
          go_wp2
          go_ret
          exact ⟨by rw [HE.out]; rfl, grown_refl _ _⟩
      · have HE : Hid (validS l = true) := by
          unfold Hid
          rw [HV.out]
          have := HA.out
          rw [List.take_of_length_le (by omega)] at this
          exact this
        go_wp2
        go_ret
        exact ⟨by rw [HE.out]; rfl, grown_refl _ _⟩
  · have g5 : 500 < (l.length : Int) := by omega
    have HV : Hid (validS l = false) := by unfold Hid validS; rw [decide_eq_false h5]; rfl
    clear hc
    go_enter Tryd.func49, Tryd.ntmps49
    go_wp2
    go_ret
    exact ⟨by rw [HV.out]; rfl, grown_refl _ _⟩

def oftS : List Int → Nat
  | [] => 0
  | t :: r => (r.takeWhile (· == t)).length + 1

theorem oft_cons (t : Int) (r : List Int) : oftS (t :: r) = (r.takeWhile (· == t)).length + 1 := rfl

theorem oft_at (t : Int) (r : List Int) (k : Nat) (hk : k < (t :: r).length) (ha : ∀ j (hj : j < (t :: r).length), j < k → (t :: r)[j] = t) (hne : (t :: r)[k] ≠ t) : oftS (t :: r) = k := by
  rw [oft_cons]
  cases k with
  | zero => exact absurd rfl hne
  | succ k =>
    have h1 : ∀ (q : List Int) (k : Nat) (hk : k < q.length), (∀ j (hj : j < q.length), j < k → q[j] = t) → q[k] ≠ t → (q.takeWhile (· == t)).length = k := by
      intro q
      induction q with
      | nil => intro k hk; simp at hk
      | cons b q ih =>
        intro k hk h1 h2
        cases k with
        | zero => rw [List.takeWhile_cons, if_neg (by simpa using h2)]; rfl
        | succ k =>
          have h0 := h1 0 (by simp) (by omega)
          simp at h0
          rw [List.takeWhile_cons, if_pos (by simpa using h0)]
          simp
          exact ih k (by simpa using hk) (fun j hj hjk => by have := h1 (j + 1) (by simpa using hj) (by omega); simpa using this) (by simpa using h2)
    rw [h1 r k (by simpa using hk) (fun j hj hjk => by have := ha (j + 1) (by simpa using hj) (by omega); simpa using this) (by simpa using hne)]
theorem oft_all (t : Int) (r : List Int) (ha : ∀ j (hj : j < (t :: r).length), (t :: r)[j] = t) : oftS (t :: r) = (t :: r).length := by
  rw [oft_cons]
  have : r.takeWhile (· == t) = r := by
    have h2 : ∀ x ∈ r, x = t := by
      intro x hx
      obtain ⟨j, hj, rfl⟩ := List.getElem_of_mem hx
      have := ha (j + 1) (by simpa using hj)
      simpa using this
    clear ha
    induction r with
    | nil => rfl
    | cons b q ih => rw [List.takeWhile_cons, if_pos (by simpa using h2 b (by simp)), ih (fun x hx => h2 x (by simp [hx]))]
  rw [this]; rfl

theorem grp_oft (t : Int) (r : List Int) : grp (t :: r) = (t, (oftS (t :: r) : Int)) :: grp ((t :: r).drop (oftS (t :: r))) := by
  induction r generalizing t with
  | nil => simp [grp, oftS]
  | cons b q ih =>
    have e := ih b
    by_cases h : t = b
    · subst h
      have e1 : oftS (t :: t :: q) = oftS (t :: q) + 1 := by simp [oftS]
      rw [grp, e, e1]
      simp
    · have e1 : oftS (t :: b :: q) = 1 := by
        rw [oft_cons, List.takeWhile_cons, if_neg (by simpa using fun e => h e.symm)]; rfl
      rw [grp, e1, e]
      simp [h]
      exact e.symm
theorem oft_le (l : List Int) : oftS l ≤ l.length := by
  cases l with
  | nil => simp [oftS]
  | cons t r =>
    rw [oft_cons]
    have := (List.takeWhile_sublist (· == t) (l := r)).length_le
    simpa using this

set_option maxRecDepth 100000 in
set_option maxHeartbeats 1000000 in
theorem often_m (t : Int) (r : List Int) (v : Value) (w : World) (hI : IntsAt w.heap.size w v (t :: r)) (hln : (t :: r).length ≤ 1000000) :
    Calls Tryd.prog 52 #[v] w fun e w' => e = .returned (.int .i64 (oftS (t :: r))) ∧ w.grownBy w' none := by
  obtain ⟨ao, cap, rfl, hcap, hc⟩ := hI
  obtain ⟨g, o, rfl, hg, c0⟩ := hc 0 (by simp)
  have HC : Hid (∀ k (hk : k < (t :: r).length), w.cell? ⟨g, o + k, none⟩ = some (.int .i64 (t :: r)[k])) := by
    intro k hk
    obtain ⟨g', o', e, _, c⟩ := hc k hk
    simp only [Option.some.injEq, Addr.mk.injEq, and_true] at e
    obtain ⟨rfl, rfl⟩ := e
    exact c
  simp only [List.getElem_cons_zero, Nat.add_zero] at c0
  clear hc
  have hpos : 0 < (t :: r).length := by simp
  generalize hl : t :: r = l at *
  have HLl := hide hl
  clear hl
  have hpos' : (0 : Int) < l.length := by omega
  go_enter Tryd.func52, Tryd.ntmps52
  go_wp2_with fail
  go_loopw [3] (fun i w' => ∃ k : Nat, k ≤ l.length ∧ i = .int .i64 k ∧ Hid (Like w' w) ∧ Hid (∀ j (hj : j < l.length), j < k → l[j] = t)) (fun i _ => l.length - (intOf i).toNat)
  case atStart => exact ⟨0, Nat.zero_le _, rfl, hide (like_refl _), hide (fun j _ h => by omega)⟩
  case round =>
    obtain ⟨k, hk, rfl, HK, HA⟩ := hrel
    obtain ⟨w5, hw5⟩ : ∃ w5, w5 = wr := ⟨_, rfl⟩
    subst hw5
    have cL : ∀ a, w5.cell? a = w.cell? a := fun a => by simp [World.cell?, HK.out.1]
    have c1 : w5.cell? ⟨g, o, none⟩ = some (.int .i64 t) := by rw [cL]; exact c0
    by_cases hlt : k < l.length
    · have c2 : w5.cell? ⟨g, o + k, none⟩ = some (.int .i64 l[k]) := by rw [cL]; exact HC.out k hlt
      have hk0 : (0 : Int) ≤ (k : Int) := by omega
      have hk1 : (k : Int) < l.length := by omega
      clear cL c0
      by_cases heq : l[k] = t
      · have hq : (l[k] == t) = true := by simpa using heq
        have HA1 : Hid (∀ j (hj : j < l.length), j < k + 1 → l[j] = t) := by
          intro j hj hjk
          by_cases e : j = k
          · subst e; exact heq
          · exact HA.out j hj (by omega)
        clear heq
        generalize l[k] = x at *
        go_wp2_with fail
        go_quiet (fail)
        go_wp2_with fail
        go_roundw
        case rel => exact ⟨k + 1, by omega, by go_num, hide (like_dn HK.out _), HA1⟩
        case measure => simp [intOf]; omega
      · have hq : (l[k] == t) = false := by simpa using heq
        have HE : Hid (oftS l = k) := by
          have h1 := HA.out
          have h2 := HLl.out
          subst h2
          exact oft_at t r k hlt h1 heq
        clear heq
        generalize l[k] = x at *
        go_wp2_with fail
        go_quiet (fail)
        go_wp2_with fail
        go_ret
        exact ⟨by rw [HE.out]; rfl, grown_drewN _ (grown_of_like HK.out)⟩
    · have HE : Hid (oftS l = k) := by
        have h1 := HA.out
        have h2 := HLl.out
        subst h2
        rw [oft_all t r (fun j hj => h1 j hj (Nat.lt_of_lt_of_le hj (Nat.le_of_not_lt hlt)))]; exact Nat.le_antisymm (Nat.le_of_not_lt hlt) hk
      have hk1 : decide ((k : Int) < l.length) = false := by simp; omega
      clear cL c0
      go_wp2_with fail
      go_quiet (fail)
      go_wp2_with fail
      go_ret
      exact ⟨by rw [HE.out]; rfl, grown_drewN _ (grown_of_like HK.out)⟩

end Go.Proofs.YtklenjmfalljgaaDoor
