/- The walks of word, Print and Parse. -/
import Derived.Test.YthgeiolabecikaaDoorPrn
import Derived.Test.YthgeiolabecikaaDoorShelf
import Derived.Lib.QuietBelow
import Derived.Lib.AppendIntMem
namespace Go.Proofs.YthgeiolabecikaaDoor
open Go.RowKit
attribute [local go_sem] Go.World.cell?_alloc_some

def Tab (w : World) : Prop := Lib.TabIs Tryd.prog w "internal/strconv.uint64pow10" .u64 Lib.pow10Tab

theorem Tab.grown {w w' : World} (h : Tab w) (hg : w.grownBy w' none) : Tab w' := by
  unfold Tab at *
  exact (Lib.tabBelow_of_tabIs h) w' ⟨hg.os, hg.tape, hg.output, hg.size, fun k hk => hg.block k hk (by simp)⟩

theorem grown_below' {w w' : World} (h : Below w.heap.size w w') : w.grownBy w' none := ⟨h.os, h.tape, h.output, h.size, fun k hk _ => h.block k hk⟩

theorem itoa_m (n : Int) (h0 : -9223372036854775808 ≤ n) (h1 : n ≤ 9223372036854775807) (w : World) (hT : Tab w) : Calls Tryd.prog 111 #[.int .i64 n] w fun e w' => e = .returned (.string ⟨(Lib.itoa n).toArray⟩) ∧ w.grownBy w' none := by
  refine (Tryd.strconv_Itoa n h0 h1 w hT).mono ?_
  rintro e w' ⟨rfl, k, os, rfl⟩
  exact ⟨rfl, grown_below' (Lib.below_grow _ w (Nat.le_refl _) k os)⟩

theorem dec_len {u : Nat} (h : u < 1000) : (Lib.decDigits u).length ≤ 3 := by
  have h1 : ∀ u, u < 10 → (Lib.decDigits u).length = 1 := fun u h => by rw [Lib.decDigits, dif_pos h]; rfl
  have h2 : ∀ u, u < 100 → (Lib.decDigits u).length ≤ 2 := fun u h => by
    by_cases h10 : u < 10
    · rw [h1 u h10]; omega
    · rw [Lib.decDigits, dif_neg h10, List.length_append, h1 (u / 10) (by omega)]; simp
  by_cases h10 : u < 10
  · rw [h1 u h10]; omega
  · have := h2 (u / 10) (by omega)
    rw [Lib.decDigits, dif_neg h10, List.length_append]; simp; omega
theorem itoa_len {n : Int} (h0 : 0 ≤ n) (h : n < 1000) : (Lib.itoa n).length ≤ 3 := by
  unfold Lib.itoa; rw [if_neg (by omega)]; exact dec_len (by omega)

set_option maxRecDepth 100000 in
set_option maxHeartbeats 1000000 in
theorem word_m (t n : Int) (w : World) (hT : Tab w) (ht0 : 0 ≤ t) (ht1 : t ≤ 63) (hn0 : 1 ≤ n) (hn1 : n ≤ 500) :
    Calls Tryd.prog 81 #[.agg #[.int .i64 t, .int .i64 n]] w fun e w' => e = .returned (.string ⟨(wordS t n).toArray⟩) ∧ w.grownBy w' none := by
  have HT := hide hT
  clear hT
  by_cases h1 : n = 1
  · subst h1
    go_enter Tryd.func81, Tryd.ntmps81
    go_wp2_with (go_at_call 111; refine (itoa_m _ (by omega) (by omega) _ (HT.out.grown (grown_alloc (grown_refl _ _)))).mono ?_; rintro e w' ⟨rfl, hg⟩)
    go_ret
    exact ⟨by simp [wordS], grown_trans (grown_alloc (grown_refl _ _)) hg⟩
  · have hn : (n == 1) = false := by simpa using h1
    go_enter Tryd.func81, Tryd.ntmps81
    have hW1 : ∀ o, Tab (w.alloc o) := fun o => HT.out.grown (grown_alloc (grown_refl _ _))
    have call : ∀ (m : Int) (hm0 : -9223372036854775808 ≤ m) (hm1 : m ≤ 9223372036854775807) (o : Obj) (d : Nat) (os : Array Obj), Calls Tryd.prog 111 #[.int .i64 m] (Sort.grow (redrawn (w.alloc o) d) os) fun e w'' => e = .returned (.string ⟨(Lib.itoa m).toArray⟩) ∧ ∃ p : Regrown, w'' = Sort.grow (redrawn (w.alloc o) p.d) p.os := by
      intro m hm0 hm1 o d os
      refine Calls.regrown_of ((itoa_m m hm0 hm1 _ ((hW1 o).grown (grown_below' (below_regrown _ d os)))).mono ?_)
      rintro e w' ⟨rfl, hg⟩
      exact ⟨rfl, hg.os, hg.tape, hg.output, hg.size, fun k hk => hg.block k hk (by simp)⟩
    obtain ⟨st, hst⟩ : ∃ st : ByteArray, st = ⟨(Lib.itoa t).toArray⟩ := ⟨_, rfl⟩
    obtain ⟨sn, hsn⟩ : ∃ sn : ByteArray, sn = ⟨(Lib.itoa n).toArray⟩ := ⟨_, rfl⟩
    have l1 : st.size ≤ 3 := by rw [hst]; simpa [ByteArray.size] using itoa_len ht0 (by omega)
    have l2 : sn.size ≤ 3 := by rw [hsn]; simpa [ByteArray.size] using itoa_len (n := n) (by omega) (by omega)
    have n1 : ¬ 9223372036854775807 < st.size + 1 := by omega
    have n2 : ¬ 9223372036854775807 < st.size + 1 + sn.size := by omega
    have callT := fun o d os => call t (by omega) (by omega) o d os
    have callN := fun o d os => call n (by omega) (by omega) o d os
    rw [← hst] at callT
    rw [← hsn] at callN
    have HEQ : Hid ((⟨(wordS t n).toArray⟩ : ByteArray) = st ++ ⟨#[42]⟩ ++ sn) := by
      unfold Hid wordS
      rw [if_neg h1, hst, hsn]
      apply ByteArray.ext
      simp
    clear call hst hsn
    go_wp2_with fail
    have c0 : ∀ d os, (Sort.grow (redrawn (w.alloc (.cells #[.int .i64 t, .int .i64 n] 162)) d) os).cell? ⟨w.heap.size, 0, none⟩ = some (.int .i64 t) := fun d os => cell_regrown (by have := heap_alloc_new w (.cells #[.int .i64 t, .int .i64 n] 162); simp only [World.cell?, this]; rfl) d os
    have c1 : ∀ d os, (Sort.grow (redrawn (w.alloc (.cells #[.int .i64 t, .int .i64 n] 162)) d) os).cell? ⟨w.heap.size, 1, none⟩ = some (.int .i64 n) := fun d os => cell_regrown (by have := heap_alloc_new w (.cells #[.int .i64 t, .int .i64 n] 162); simp only [World.cell?, this]; rfl) d os
    refine wp_region_quiet_below (by kernel_rfl) (by kernel_rfl) ?_
    repeat (quiet_step (first | exact callT _ _ _ | exact callN _ _ _))
    refine wpQuiet_nil ?_
    intro _ hw'
    obtain ⟨⟨dq, osq⟩, hw''⟩ := hw'
    subst hw''
    go_wp2
    go_ret
    exact ⟨by rw [HEQ.out]; rfl, grown_trans (grown_alloc (grown_refl _ _)) (grown_below' (below_regrown _ dq osq))⟩

def strs (q : List (List UInt8)) : List Value := q.map fun x => .string ⟨x.toArray⟩
def wordsS (q : List (Int × Int)) : List (List UInt8) := q.map fun x => wordS x.1 x.2
theorem info_str : ((Tryd.prog.info? 9).map fun i => (i.zero, i.size, i.bytes)) = some (some (.string ⟨#[]⟩), 1, 16) := by kernel_rfl

theorem flat_at (q : List (Int × Int)) (k : Nat) (hk : k < q.length) : (flatS q)[k * 2]? = some (.int .i64 q[k].1) ∧ (flatS q)[k * 2 + 1]? = some (.int .i64 q[k].2) := by
  induction q generalizing k with
  | nil => simp at hk
  | cons y q ih =>
    have e1 : flatS (y :: q) = .int .i64 y.1 :: .int .i64 y.2 :: flatS q := rfl
    cases k with
    | zero => rw [e1]; simp
    | succ k =>
      have := ih k (by simpa using hk)
      have e2 : (k + 1) * 2 = k * 2 + 1 + 1 := by omega
      rw [e1, e2]
      simpa using this

theorem word_len {t n : Int} (h0 : 0 ≤ t) (h1 : t ≤ 63) (h2 : 1 ≤ n) (h3 : n ≤ 500) : (wordS t n).length ≤ 7 := by
  have a := itoa_len h0 (by omega)
  have b := itoa_len (n := n) (by omega) (by omega)
  unfold wordS
  split
  · omega
  · simp; omega

theorem join_len (q : List (List UInt8)) (h : ∀ x ∈ q, x.length ≤ 7) : (Lib.join q [32]).length ≤ 8 * q.length := by
  cases q with
  | nil => simp [Lib.join_nil]
  | cons x r =>
    rw [Lib.join_cons]
    have h1 : ∀ r : List (List UInt8), (∀ x ∈ r, x.length ≤ 7) → (Lib.joinTail [32] r).length ≤ 8 * r.length := by
      intro r
      induction r with
      | nil => intro _; simp [Lib.joinTail]
      | cons y r ih =>
        intro hr
        have := ih (fun x hx => hr x (by simp [hx]))
        have hy := hr y (by simp)
        simp [Lib.joinTail] at this ⊢
        omega
    have := h1 r (fun y hy => h y (by simp [hy]))
    have hx := h x (by simp)
    simp; omega

theorem grp_valid {l : List Int} (h : validS l = true) : ∀ x ∈ grp l, 0 ≤ x.1 ∧ x.1 ≤ 63 ∧ 1 ≤ x.2 ∧ x.2 ≤ 500 := by
  intro x hx
  simp only [validS, Bool.and_eq_true, decide_eq_true_eq, List.all_eq_true] at h
  have := grp_mem l x hx
  have h2 := h.2 x.1 this.1
  exact ⟨h2.1, h2.2, this.2.1, by omega⟩

set_option maxRecDepth 100000 in
set_option maxHeartbeats 1000000 in
theorem rprint_m (l : List Int) (v : Value) (w : World) (hT : Tab w) (hI : IntsAt w.heap.size w v l) (hv : validS l = true) :
    Calls Tryd.prog 56 #[v] w fun e w' => e = .returned (.string ⟨(printS l).toArray⟩) ∧ w.grownBy w' none := by
  obtain ⟨i0, hi0, hz0, hz1, hz2⟩ := info_parts info_str
  have h5 : l.length ≤ 500 := by simp only [validS, Bool.and_eq_true, decide_eq_true_eq] at hv; exact hv.1
  have HT := hide hT
  have HOF := hide (of_m l v w hI h5)
  obtain ⟨ao, cap, rfl⟩ := hI.form
  have HV := hide (grp_valid hv)
  have hgl := grp_len l
  clear hT hI hv
  go_enter Tryd.func56, Tryd.ntmps56
  go_wp2_with fail
  refine HOF.out.mono ?_
  rintro e w1 ⟨x, y, z, rfl, ho, hg⟩
  have hy := owns_lenq ho
  subst hy
  have HO := hide ho
  have HG1 := hide hg
  clear ho hg HOF
  have HJ : Hid (printS l = Lib.join (wordsS (grp l)) [32]) := rfl
  generalize grp l = q at *
  have hq : (q.length : Int) ≤ 500 := by omega
  go_wp2_with fail
  go_loopw [3, 9] (fun lv i w' => ∃ k : Nat, k ≤ q.length ∧ i = .int .i64 k ∧ Hid (w'.ownsRow w1.heap.size 9 1 lv k (strs (wordsS (q.take k))) ∧ w1.grownBy w' none)) (fun _ i _ => q.length - (intOf i).toNat)
  case atStart => exact ⟨0, Nat.zero_le _, rfl, ⟨rfl, Or.inl ⟨rfl, rfl⟩⟩, grown_refl _ _⟩
  case round =>
    obtain ⟨k, hk, rfl, HL⟩ := hrel
    obtain ⟨w5, hw5⟩ : ∃ w5, w5 = wr := ⟨_, rfl⟩
    subst hw5
    obtain ⟨x1, x2, x3, rfl⟩ := owns_form HL.out.1
    have H1 := hide HL.out.1
    have H2 := hide HL.out.2
    have hsz2 := HL.out.2.size
    have hob := owns_block H1.out
    by_cases hlt : k < q.length
    · obtain ⟨g, cp, e0, _, _⟩ := HO.out.form (by omega)
      simp only [Value.slice.injEq, true_and] at e0
      obtain ⟨rfl, rfl⟩ := e0
      have fa := flat_at q k hlt
      have d0 : w5.cell? ⟨g, k * 2, none⟩ = some (.int .i64 q[k].1) := pres_grown H2.out _ _ (by rw [HO.out.cellAt _ (by omega)]; exact fa.1)
      have d1 : w5.cell? ⟨g, k * 2 + 1, none⟩ = some (.int .i64 q[k].2) := pres_grown H2.out _ _ (by rw [HO.out.cellAt _ (by omega)]; exact fa.2)
      have hv := HV.out q[k] (List.getElem_mem hlt)
      have HXS : Hid (strs (wordsS (q.take (k + 1))) = strs (wordsS (q.take k)) ++ [.string ⟨(wordS q[k].1 q[k].2).toArray⟩]) := by
        unfold Hid strs wordsS; rw [List.take_succ_eq_append_getElem hlt, List.map_append, List.map_append]; rfl
      generalize q[k] = tn at *
      obtain ⟨t, n⟩ := tn
      simp only at d0 d1 hv HXS
      have hk0 : (0 : Int) ≤ (k : Int) := by omega
      have hk1 : (k : Int) < q.length := by omega
      have h63 : k + 1 ≤ maxLen := by unfold maxLen; omega
      have HTW : ∀ o, Tab (w5.alloc o) := fun o => HT.out.grown (grown_alloc (grown_trans HG1.out H2.out))
      clear fa
      go_wp2_with fail
      refine (word_m t n _ (HTW _) hv.1 hv.2.1 hv.2.2.1 hv.2.2.2).mono ?_
      rintro e w6 ⟨rfl, hg6⟩
      have hg6' : w5.grownBy w6 none := grown_trans (grown_alloc (grown_refl _ _)) hg6
      have H16 : Hid (w6.ownsRow w1.heap.size 9 1 (.slice x1 x2 x3) k (strs (wordsS (q.take k)))) := owns_grown H1.out hg6' (fun _ e => by cases e)
      have HG6 : Hid (w1.grownBy w6 none) := grown_trans H2.out hg6'
      have hsz6 := HG6.out.size
      clear hg6 hg6' HTW
      generalize wordS t n = wd at *
      go_wp2_with (at_builtin; refine wpList_append_lies _ rfl _ _ _ rfl w1.heap.size 9 i0 _ 1 16 Tryd.underlying158 hi0 hz0 hz1 hz2 rfl (by omega) (.slice x1 x2 x3) k (strs (wordsS (q.take k))) rfl (owns_alloc H16.out) ⟨w6.heap.size, 0, none⟩ 1 1 [.string ⟨wd.toArray⟩] rfl rfl (World.news_of_block (cs := #[.string ⟨wd.toArray⟩]) (t := 9) (fr := (0, 0)) (heap_alloc_new w6 _)) (by simp [Value.oneCell']) (by omega) h63 (by omega) (by simp; omega) (w6.heap.size + 1) (by simp) ?_; intro g7 cap7 w7 hown7 hgrow hat hlt7)
      have HNX : Hid (w7.ownsRow w1.heap.size 9 1 (.slice (some ⟨g7, 0, none⟩) (k + 1) cap7) (k + 1) (strs (wordsS (q.take (k + 1)))) ∧ w1.grownBy w7 none) := by
        refine ⟨?_, grown_row (grown_alloc HG6.out) hgrow (fun q e => hob q e)⟩
        rw [HXS.out]; exact hown7
      clear hown7 hgrow hat
      go_wp2
      go_roundw
      case rel => exact ⟨k + 1, by omega, by go_num, HNX⟩
      case measure => simp [intOf]; omega
    · have ek : k = q.length := by omega
      have q2 : (q.length : Int) ≤ (k : Int) := by omega
      subst ek
      have h1 := H1.out
      rw [List.take_length] at h1
      have hwl : (wordsS q).length = q.length := by simp [wordsS]
      have HGw : Hid (w.grownBy w5 none) := grown_trans HG1.out H2.out
      have HJOIN : Hid (Calls Tryd.prog 82 #[.slice x1 q.length x3, .string ⟨#[32]⟩] w5 fun e w' => e = .returned (.string ⟨(Lib.join (wordsS q) [32]).toArray⟩) ∧ w5.grownBy w' none) := by
        by_cases h0 : q.length = 0
        · have hq0 : q = [] := List.length_eq_zero_iff.1 h0
          subst hq0
          refine (Tryd.strings_Join_none x1 x3 ⟨#[32]⟩ w5).mono ?_
          rintro e w' ⟨rfl, rfl⟩
          exact ⟨rfl, grown_refl _ _⟩
        · obtain ⟨g, cp, e0, _, hgl⟩ := h1.form (by omega)
          have hcp : q.length ≤ x3 := by
            rcases h1.2 with ⟨_, e1⟩ | ⟨_, _, _, e1, _, _, e2, _⟩
            · omega
            · simp only [Value.slice.injEq] at e1; omega
          have h1' := h1
          rw [e0] at h1'
          simp only [Value.slice.injEq] at e0
          obtain ⟨rfl, rfl, rfl⟩ := e0
          have := Tryd.strings_Join g 0 x3 ((wordsS q).map fun x => (⟨x.toArray⟩ : ByteArray)) ⟨#[32]⟩ w5 (fun j x hj => ?_) hgl (by simp; omega) (by simp; omega) ?_
          · simp only [List.length_map, hwl, List.map_map] at this
            have e1 : ((fun (x : ByteArray) => x.data.toList) ∘ fun x : List UInt8 => (⟨x.toArray⟩ : ByteArray)) = id := by funext x; rfl
            rw [e1, List.map_id] at this
            refine this.mono ?_
            rintro e w' ⟨rfl, hb⟩
            exact ⟨rfl, grown_below' hb⟩
          · have hjl := (List.getElem?_eq_some_iff.1 hj).1
            rw [Nat.zero_add, h1'.cellAt j (by simp at hjl; omega)]
            unfold strs
            rw [List.getElem?_map] at hj ⊢
            cases hw : (wordsS q)[j]? with
            | none => rw [hw] at hj; cases hj
            | some u => rw [hw] at hj; simp at hj; simp [hj]
          · have := join_len (wordsS q) (fun x hx => by
              simp only [wordsS, List.mem_map] at hx
              obtain ⟨y, hy, rfl⟩ := hx
              have := HV.out y hy
              exact word_len this.1 this.2.1 this.2.2.1 this.2.2.2)
            have e1 : ((fun (x : ByteArray) => x.data.toList) ∘ fun x : List UInt8 => (⟨x.toArray⟩ : ByteArray)) = id := by funext x; rfl
            rw [List.map_map, e1, List.map_id]
            simp only at this ⊢
            omega
      have hx2 := owns_lenq h1
      subst hx2
      clear h1 H1 HL
      go_wp2_with (go_at_call 82; refine HJOIN.out.mono ?_; rintro e w6 ⟨rfl, hg6⟩)
      go_ret
      exact ⟨by rw [HJ.out]; rfl, grown_trans HGw.out hg6⟩

set_option maxRecDepth 100000 in
set_option maxHeartbeats 1000000 in
theorem print_m (l : List Int) (v : Value) (w : World) (hT : Tab w) (hI : IntsAt w.heap.size w v l) :
    Calls Tryd.prog 22 #[v] w fun e w' => w.grownBy w' none ∧ ((validS l = true ∧ e = .returned (.tuple #[.string ⟨(printS l).toArray⟩, .int .i64 0])) ∨ (validS l = false ∧ e = .returned (.tuple #[.string ⟨#[]⟩, .int .i64 2]))) := by
  have HT := hide hT
  have HI := hide hI
  obtain ⟨ao, cap, rfl⟩ := hI.form
  clear hT hI
  go_enter Tryd.func22, Tryd.ntmps22
  go_wp2_with fail
  refine (valid_t l _ w HI.out).mono ?_
  rintro e w1 ⟨rfl, hg1⟩
  have HG1 := hide hg1
  clear hg1
  cases hv : validS l with
  | false =>
    go_wp2_with fail
    refine bodyPost_ret (v := .tuple #[.string ⟨#[]⟩, .int .i64 2]) (by simp [results, Tryd.results22, go_sem]) rfl ?_
    exact ⟨HG1.out, Or.inr ⟨hv, rfl⟩⟩
  | true =>
    have HP := hide (rprint_m l _ w1 (HT.out.grown HG1.out) ((HI.out.pres (pres_grown HG1.out)).mono HG1.out.size) hv)
    go_wp2_with (go_at_call 56; refine HP.out.mono ?_; rintro e w2 ⟨rfl, hg2⟩)
    refine bodyPost_ret (v := .tuple #[.string ⟨(printS l).toArray⟩, .int .i64 0]) (by simp [results, Tryd.results22, go_sem]) rfl ?_
    exact ⟨grown_trans HG1.out hg2, Or.inl ⟨hv, rfl⟩⟩

theorem parse_at0 (l : List Nat) (h : (parseP l).ok = true) : (parseP l).at_ = 0 := by
  rw [parse_eq] at h ⊢
  unfold parseR at *
  split at h <;> rename_i h1
  · rw [if_pos h1]
  · rw [if_neg h1]
    cases hw : wholeR (partsR l) (-1) [] with
    | none => rw [hw] at h; cases h
    | some x =>
      rw [hw] at h
      simp only at h ⊢
      split at h
      · cases h
      · rename_i h2; rw [if_neg h2]
theorem parse_nil (l : List Nat) (h : (parseP l).ok = false) : (parseP l).out = [] := by
  rw [parse_eq] at h ⊢
  unfold parseR at *
  split at h <;> rename_i h1
  · cases h
  · rw [if_neg h1]
    cases hw : wholeR (partsR l) (-1) [] with
    | none => rfl
    | some x =>
      rw [hw] at h
      simp only at h ⊢
      split at h
      · rename_i h2; rw [if_pos h2]
      · cases h

def parE (ok : Bool) : Int := if ok = true then 0 else 4

set_option maxRecDepth 100000 in
set_option maxHeartbeats 1000000 in
theorem parse_m (s : ByteArray) (w : World) (hs : s.size ≤ 9223372036854775806) :
    Calls Tryd.prog 23 #[.string s] w fun e w' => ∃ x y z, e = .returned (.tuple #[.slice x y z, .int .i64 (parseP (byt s)).at_, .int .i64 (parE (parseP (byt s)).ok)]) ∧ w'.ownsRow (w.heap.size + 1) 3 1 (.slice x y z) (parseP (byt s)).out.length (ints (parseP (byt s)).out) ∧ w.grownBy w' none := by
  go_enter Tryd.func23, Tryd.ntmps23
  go_wp2_with fail
  refine (rparse_m s w hs).mono ?_
  rintro e w1 ⟨x, y, z, rfl, ho, hg⟩
  have HO := hide ho
  have HG := hide hg
  clear ho hg
  cases hok : (parseP (byt s)).ok with
  | true =>
    have h0 : (parseP (byt s)).at_ = 0 := by
      have := (parse_at0 (byt s)) hok
      exact this
    rw [h0]
    go_wp2_with fail
    refine bodyPost_ret (v := .tuple #[.slice x y z, .int .i64 0, .int .i64 0]) (by simp [results, Tryd.results23, go_sem]) rfl ?_
    exact ⟨x, y, z, by rw [h0, hok]; rfl, HO.out, HG.out⟩
  | false =>
    have h0 := parse_nil (byt s) hok
    go_wp2_with fail
    refine bodyPost_ret (v := .tuple #[.slice none 0 0, .int .i64 (parseP (byt s)).at_, .int .i64 4]) (by simp [results, Tryd.results23, go_sem]) rfl ?_
    refine ⟨none, 0, 0, by rw [hok]; rfl, ?_, HG.out⟩
    rw [h0]
    exact ⟨rfl, Or.inl ⟨rfl, rfl⟩⟩

end Go.Proofs.YthgeiolabecikaaDoor
