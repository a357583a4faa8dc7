/- For every artifact made of any numbers: what Encode writes Decode reads again, and refuses with bits turned within 32, cut, or with more behind; a schedule's text is read again. The row of Written, and its card. -/
import Derived.Test.YtklenjmfalljgaaGreatDoorMG
import Derived.Test.YtklenjmfalljgaaGreatDoorShelf
import Derived.Lib.QuietBelow
import Derived.Lib.AppendIntMem
import Derived.Lib.SlBytesConst
import Derived.Lib.ConvBytes
import Derived.Test.YtklenjmfalljgaaGreatDoorRows
import Derived.Deep.Slices
import Derived.Deep.DeepHandedRow
import Derived.Deep.DeepWitnessRowRef
import Derived.LaidMore
import Derived.Carry
import Derived.ProofKit
import Derived.OpenShut
import Derived.Test.YtklenjmfalljgaaGreatDoorCards
import Derived.Test.YtklenjmfalljgaaGreatDoorTie
import Derived.ChangeMaps5
import Derived.Lib.LaidTab

/- The walks of word, Print and Parse. -/
namespace Go.Proofs.YtklenjmfalljgaaGreatDoor
open Go.RowKit
attribute [local go_sem] Go.World.cell?_alloc_some

def Tab (w : World) : Prop := Lib.TabIs Tryz.prog w "internal/strconv.uint64pow10" .u64 Lib.pow10Tab

theorem Tab.grown {w w' : World} (h : Tab w) (hg : w.grownBy w' none) : Tab w' := by
  unfold Tab at *
  exact (Lib.tabBelow_of_tabIs h) w' ⟨hg.os, hg.tape, hg.output, hg.size, fun k hk => hg.block k hk (by simp)⟩

theorem itoa_m (n : Int) (h0 : -9223372036854775808 ≤ n) (h1 : n ≤ 9223372036854775807) (w : World) (hT : Tab w) : Calls Tryz.prog 101 #[.int .i64 n] w fun e w' => e = .returned (.string ⟨(Lib.itoa n).toArray⟩) ∧ w.grownBy w' none := by
  refine (Tryz.strconv_Itoa n h0 h1 w hT).mono ?_
  rintro e w' ⟨rfl, k, os, rfl⟩
  exact ⟨rfl, grown_below' (Lib.below_grow _ w (Nat.le_refl _) k os)⟩

theorem dec_len {u : Nat} (h : u < 1000) : (Lib.decDigits u).length ≤ 3 := by
  have h1 : ∀ u, u < 10 → (Lib.decDigits u).length = 1 := fun u h => by rw [Lib.decDigits, dif_pos h]; rfl
  have h2 : ∀ u, u < 100 → (Lib.decDigits u).length ≤ 2 := fun u h => by
    by_cases h10 : u < 10
    · rw [h1 u h10]; omega
    · rw [Lib.decDigits, dif_neg h10, List.length_append, h1 (u / 10) (by omega)]; simp
  by_cases h10 : u < 10
  · rw [h1 u h10]; omega
  · have := h2 (u / 10) (by omega)
    rw [Lib.decDigits, dif_neg h10, List.length_append]; simp; omega
theorem itoa_len {n : Int} (h0 : 0 ≤ n) (h : n < 1000) : (Lib.itoa n).length ≤ 3 := by
  unfold Lib.itoa; rw [if_neg (by omega)]; exact dec_len (by omega)

set_option maxRecDepth 100000 in
set_option maxHeartbeats 1000000 in
theorem word_m (t n : Int) (w : World) (hT : Tab w) (ht0 : 0 ≤ t) (ht1 : t ≤ 63) (hn0 : 1 ≤ n) (hn1 : n ≤ 500) :
    Calls Tryz.prog 69 #[.agg #[.int .i64 t, .int .i64 n]] w fun e w' => e = .returned (.string ⟨(wordS t n).toArray⟩) ∧ w.grownBy w' none := by
  have HT := hide hT
  clear hT
  by_cases h1 : n = 1
  · subst h1
    go_enter Tryz.func69, Tryz.ntmps69
    go_wp2_with (go_at_call 101; refine (itoa_m _ (by omega) (by omega) _ (HT.out.grown (grown_alloc (grown_refl _ _)))).mono ?_; rintro e w' ⟨rfl, hg⟩)
    go_ret
    exact ⟨by simp [wordS], grown_trans (grown_alloc (grown_refl _ _)) hg⟩
  · have hn : (n == 1) = false := by simpa using h1
    go_enter Tryz.func69, Tryz.ntmps69
    have hW1 : ∀ o, Tab (w.alloc o) := fun o => HT.out.grown (grown_alloc (grown_refl _ _))
    have call : ∀ (m : Int) (hm0 : -9223372036854775808 ≤ m) (hm1 : m ≤ 9223372036854775807) (o : Obj) (d : Nat) (os : Array Obj), Calls Tryz.prog 101 #[.int .i64 m] (Sort.grow (redrawn (w.alloc o) d) os) fun e w'' => e = .returned (.string ⟨(Lib.itoa m).toArray⟩) ∧ ∃ p : Regrown, w'' = Sort.grow (redrawn (w.alloc o) p.d) p.os := by
      intro m hm0 hm1 o d os
      refine Calls.regrown_of ((itoa_m m hm0 hm1 _ ((hW1 o).grown (grown_below' (below_regrown _ d os)))).mono ?_)
      rintro e w' ⟨rfl, hg⟩
      exact ⟨rfl, hg.os, hg.tape, hg.output, hg.size, fun k hk => hg.block k hk (by simp)⟩
    obtain ⟨st, hst⟩ : ∃ st : ByteArray, st = ⟨(Lib.itoa t).toArray⟩ := ⟨_, rfl⟩
    obtain ⟨sn, hsn⟩ : ∃ sn : ByteArray, sn = ⟨(Lib.itoa n).toArray⟩ := ⟨_, rfl⟩
    have l1 : st.size ≤ 3 := by rw [hst]; simpa [ByteArray.size] using itoa_len ht0 (by omega)
    have l2 : sn.size ≤ 3 := by rw [hsn]; simpa [ByteArray.size] using itoa_len (n := n) (by omega) (by omega)
    have n1 : ¬ 9223372036854775807 < st.size + 1 := by omega
    have n2 : ¬ 9223372036854775807 < st.size + 1 + sn.size := by omega
    have callT := fun o d os => call t (by omega) (by omega) o d os
    have callN := fun o d os => call n (by omega) (by omega) o d os
    rw [← hst] at callT
    rw [← hsn] at callN
    have HEQ : Hid ((⟨(wordS t n).toArray⟩ : ByteArray) = st ++ ⟨#[42]⟩ ++ sn) := by
      unfold Hid wordS
      rw [if_neg h1, hst, hsn]
      apply ByteArray.ext
      simp
    clear call hst hsn
    go_wp2_with fail
    have c0 : ∀ d os, (Sort.grow (redrawn (w.alloc (.cells #[.int .i64 t, .int .i64 n] 148)) d) os).cell? ⟨w.heap.size, 0, none⟩ = some (.int .i64 t) := fun d os => cell_regrown (by have := heap_alloc_new w (.cells #[.int .i64 t, .int .i64 n] 148); simp only [World.cell?, this]; rfl) d os
    have c1 : ∀ d os, (Sort.grow (redrawn (w.alloc (.cells #[.int .i64 t, .int .i64 n] 148)) d) os).cell? ⟨w.heap.size, 1, none⟩ = some (.int .i64 n) := fun d os => cell_regrown (by have := heap_alloc_new w (.cells #[.int .i64 t, .int .i64 n] 148); simp only [World.cell?, this]; rfl) d os
    refine wp_region_quiet_below (by kernel_rfl) (by kernel_rfl) ?_
    repeat (quiet_step (first | exact callT _ _ _ | exact callN _ _ _))
    refine wpQuiet_nil ?_
    intro _ hw'
    obtain ⟨⟨dq, osq⟩, hw''⟩ := hw'
    subst hw''
    go_wp2
    go_ret
    exact ⟨by rw [HEQ.out]; rfl, grown_trans (grown_alloc (grown_refl _ _)) (grown_below' (below_regrown _ dq osq))⟩

def strs (q : List (List UInt8)) : List Value := q.map fun x => .string ⟨x.toArray⟩
def wordsS (q : List (Int × Int)) : List (List UInt8) := q.map fun x => wordS x.1 x.2
theorem info_str : ((Tryz.prog.info? 9).map fun i => (i.zero, i.size, i.bytes)) = some (some (.string ⟨#[]⟩), 1, 16) := by kernel_rfl

theorem flat_at (q : List (Int × Int)) (k : Nat) (hk : k < q.length) : (flatS q)[k * 2]? = some (.int .i64 q[k].1) ∧ (flatS q)[k * 2 + 1]? = some (.int .i64 q[k].2) := by
  induction q generalizing k with
  | nil => simp at hk
  | cons y q ih =>
    have e1 : flatS (y :: q) = .int .i64 y.1 :: .int .i64 y.2 :: flatS q := rfl
    cases k with
    | zero => rw [e1]; simp
    | succ k =>
      have := ih k (by simpa using hk)
      have e2 : (k + 1) * 2 = k * 2 + 1 + 1 := by omega
      rw [e1, e2]
      simpa using this

theorem word_len {t n : Int} (h0 : 0 ≤ t) (h1 : t ≤ 63) (h2 : 1 ≤ n) (h3 : n ≤ 500) : (wordS t n).length ≤ 7 := by
  have a := itoa_len h0 (by omega)
  have b := itoa_len (n := n) (by omega) (by omega)
  unfold wordS
  split
  · omega
  · simp; omega

theorem join_len (q : List (List UInt8)) (h : ∀ x ∈ q, x.length ≤ 7) : (Lib.join q [32]).length ≤ 8 * q.length := by
  cases q with
  | nil => simp [Lib.join_nil]
  | cons x r =>
    rw [Lib.join_cons]
    have h1 : ∀ r : List (List UInt8), (∀ x ∈ r, x.length ≤ 7) → (Lib.joinTail [32] r).length ≤ 8 * r.length := by
      intro r
      induction r with
      | nil => intro _; simp [Lib.joinTail]
      | cons y r ih =>
        intro hr
        have := ih (fun x hx => hr x (by simp [hx]))
        have hy := hr y (by simp)
        simp [Lib.joinTail] at this ⊢
        omega
    have := h1 r (fun y hy => h y (by simp [hy]))
    have hx := h x (by simp)
    simp; omega

theorem grp_valid {l : List Int} (h : validS l = true) : ∀ x ∈ grp l, 0 ≤ x.1 ∧ x.1 ≤ 63 ∧ 1 ≤ x.2 ∧ x.2 ≤ 500 := by
  intro x hx
  simp only [validS, Bool.and_eq_true, decide_eq_true_eq, List.all_eq_true] at h
  have := grp_mem l x hx
  have h2 := h.2 x.1 this.1
  exact ⟨h2.1, h2.2, this.2.1, by omega⟩

set_option maxRecDepth 100000 in
set_option maxHeartbeats 1000000 in
theorem rprint_m (l : List Int) (v : Value) (w : World) (hT : Tab w) (hI : IntsAt w.heap.size w v l) (hv : validS l = true) :
    Calls Tryz.prog 42 #[v] w fun e w' => e = .returned (.string ⟨(printS l).toArray⟩) ∧ w.grownBy w' none := by
  obtain ⟨i0, hi0, hz0, hz1, hz2⟩ := info_parts info_str
  have h5 : l.length ≤ 500 := by simp only [validS, Bool.and_eq_true, decide_eq_true_eq] at hv; exact hv.1
  have HT := hide hT
  have HOF := hide (of_m l v w hI h5)
  obtain ⟨ao, cap, rfl⟩ := hI.form
  have HV := hide (grp_valid hv)
  have hgl := grp_len l
  clear hT hI hv
  go_enter Tryz.func42, Tryz.ntmps42
  go_wp2_with fail
  refine HOF.out.mono ?_
  rintro e w1 ⟨x, y, z, rfl, ho, hg⟩
  have hy := owns_lenq ho
  subst hy
  have HO := hide ho
  have HG1 := hide hg
  clear ho hg HOF
  have HJ : Hid (printS l = Lib.join (wordsS (grp l)) [32]) := rfl
  generalize grp l = q at *
  have hq : (q.length : Int) ≤ 500 := by omega
  go_wp2_with fail
  go_loopw [3, 9] (fun lv i w' => ∃ k : Nat, k ≤ q.length ∧ i = .int .i64 k ∧ Hid (w'.ownsRow w1.heap.size 9 1 lv k (strs (wordsS (q.take k))) ∧ w1.grownBy w' none)) (fun _ i _ => q.length - (intOf i).toNat)
  case atStart => exact ⟨0, Nat.zero_le _, rfl, ⟨rfl, Or.inl ⟨rfl, rfl⟩⟩, grown_refl _ _⟩
  case round =>
    obtain ⟨k, hk, rfl, HL⟩ := hrel
    obtain ⟨w5, hw5⟩ : ∃ w5, w5 = wr := ⟨_, rfl⟩
    subst hw5
    obtain ⟨x1, x2, x3, rfl⟩ := owns_form HL.out.1
    have H1 := hide HL.out.1
    have H2 := hide HL.out.2
    have hsz2 := HL.out.2.size
    have hob := owns_block H1.out
    by_cases hlt : k < q.length
    · obtain ⟨g, cp, e0, _, _⟩ := HO.out.form (by omega)
      simp only [Value.slice.injEq, true_and] at e0
      obtain ⟨rfl, rfl⟩ := e0
      have fa := flat_at q k hlt
      have d0 : w5.cell? ⟨g, k * 2, none⟩ = some (.int .i64 q[k].1) := pres_grown H2.out _ _ (by rw [HO.out.cellAt _ (by omega)]; exact fa.1)
      have d1 : w5.cell? ⟨g, k * 2 + 1, none⟩ = some (.int .i64 q[k].2) := pres_grown H2.out _ _ (by rw [HO.out.cellAt _ (by omega)]; exact fa.2)
      have hv := HV.out q[k] (List.getElem_mem hlt)
      have HXS : Hid (strs (wordsS (q.take (k + 1))) = strs (wordsS (q.take k)) ++ [.string ⟨(wordS q[k].1 q[k].2).toArray⟩]) := by
        unfold Hid strs wordsS; rw [List.take_succ_eq_append_getElem hlt, List.map_append, List.map_append]; rfl
      generalize q[k] = tn at *
      obtain ⟨t, n⟩ := tn
      simp only at d0 d1 hv HXS
      have hk0 : (0 : Int) ≤ (k : Int) := by omega
      have hk1 : (k : Int) < q.length := by omega
      have h63 : k + 1 ≤ maxLen := by unfold maxLen; omega
      have HTW : ∀ o, Tab (w5.alloc o) := fun o => HT.out.grown (grown_alloc (grown_trans HG1.out H2.out))
      clear fa
      go_wp2_with fail
      refine (word_m t n _ (HTW _) hv.1 hv.2.1 hv.2.2.1 hv.2.2.2).mono ?_
      rintro e w6 ⟨rfl, hg6⟩
      have hg6' : w5.grownBy w6 none := grown_trans (grown_alloc (grown_refl _ _)) hg6
      have H16 : Hid (w6.ownsRow w1.heap.size 9 1 (.slice x1 x2 x3) k (strs (wordsS (q.take k)))) := owns_grown H1.out hg6' (fun _ e => by cases e)
      have HG6 : Hid (w1.grownBy w6 none) := grown_trans H2.out hg6'
      have hsz6 := HG6.out.size
      clear hg6 hg6' HTW
      generalize wordS t n = wd at *
      go_wp2_with (at_builtin; refine wpList_append_lies _ rfl _ _ _ rfl w1.heap.size 9 i0 _ 1 16 Tryz.underlying144 hi0 hz0 hz1 hz2 rfl (by omega) (.slice x1 x2 x3) k (strs (wordsS (q.take k))) rfl (owns_alloc H16.out) ⟨w6.heap.size, 0, none⟩ 1 1 [.string ⟨wd.toArray⟩] rfl rfl (World.news_of_block (cs := #[.string ⟨wd.toArray⟩]) (t := 9) (fr := (0, 0)) (heap_alloc_new w6 _)) (by simp [Value.oneCell']) (by omega) h63 (by omega) (by simp; omega) (w6.heap.size + 1) (by simp) ?_; intro g7 cap7 w7 hown7 hgrow hat hlt7)
      have HNX : Hid (w7.ownsRow w1.heap.size 9 1 (.slice (some ⟨g7, 0, none⟩) (k + 1) cap7) (k + 1) (strs (wordsS (q.take (k + 1)))) ∧ w1.grownBy w7 none) := by
        refine ⟨?_, grown_row (grown_alloc HG6.out) hgrow (fun q e => hob q e)⟩
        rw [HXS.out]; exact hown7
      clear hown7 hgrow hat
      go_wp2
      go_roundw
      case rel => exact ⟨k + 1, by omega, by go_num, HNX⟩
      case measure => simp [intOf]; omega
    · have ek : k = q.length := by omega
      have q2 : (q.length : Int) ≤ (k : Int) := by omega
      subst ek
      have h1 := H1.out
      rw [List.take_length] at h1
      have hwl : (wordsS q).length = q.length := by simp [wordsS]
      have HGw : Hid (w.grownBy w5 none) := grown_trans HG1.out H2.out
      have HJOIN : Hid (Calls Tryz.prog 70 #[.slice x1 q.length x3, .string ⟨#[32]⟩] w5 fun e w' => e = .returned (.string ⟨(Lib.join (wordsS q) [32]).toArray⟩) ∧ w5.grownBy w' none) := by
        by_cases h0 : q.length = 0
        · have hq0 : q = [] := List.length_eq_zero_iff.1 h0
          subst hq0
          refine (Tryz.strings_Join_none x1 x3 ⟨#[32]⟩ w5).mono ?_
          rintro e w' ⟨rfl, rfl⟩
          exact ⟨rfl, grown_refl _ _⟩
        · obtain ⟨g, cp, e0, _, hgl⟩ := h1.form (by omega)
          have hcp : q.length ≤ x3 := by
            rcases h1.2 with ⟨_, e1⟩ | ⟨_, _, _, e1, _, _, e2, _⟩
            · omega
            · simp only [Value.slice.injEq] at e1; omega
          have h1' := h1
          rw [e0] at h1'
          simp only [Value.slice.injEq] at e0
          obtain ⟨rfl, rfl, rfl⟩ := e0
          have := Tryz.strings_Join g 0 x3 ((wordsS q).map fun x => (⟨x.toArray⟩ : ByteArray)) ⟨#[32]⟩ w5 (fun j x hj => ?_) hgl (by simp; omega) (by simp; omega) ?_
          · simp only [List.length_map, hwl, List.map_map] at this
            have e1 : ((fun (x : ByteArray) => x.data.toList) ∘ fun x : List UInt8 => (⟨x.toArray⟩ : ByteArray)) = id := by funext x; rfl
            rw [e1, List.map_id] at this
            refine this.mono ?_
            rintro e w' ⟨rfl, hb⟩
            exact ⟨rfl, grown_below' hb⟩
          · have hjl := (List.getElem?_eq_some_iff.1 hj).1
            rw [Nat.zero_add, h1'.cellAt j (by simp at hjl; omega)]
            unfold strs
            rw [List.getElem?_map] at hj ⊢
            cases hw : (wordsS q)[j]? with
            | none => rw [hw] at hj; cases hj
            | some u => rw [hw] at hj; simp at hj; simp [hj]
          · have := join_len (wordsS q) (fun x hx => by
              simp only [wordsS, List.mem_map] at hx
              obtain ⟨y, hy, rfl⟩ := hx
              have := HV.out y hy
              exact word_len this.1 this.2.1 this.2.2.1 this.2.2.2)
            have e1 : ((fun (x : ByteArray) => x.data.toList) ∘ fun x : List UInt8 => (⟨x.toArray⟩ : ByteArray)) = id := by funext x; rfl
            rw [List.map_map, e1, List.map_id]
            simp only at this ⊢
            omega
      have hx2 := owns_lenq h1
      subst hx2
      clear h1 H1 HL
      go_wp2_with (go_at_call 70; refine HJOIN.out.mono ?_; rintro e w6 ⟨rfl, hg6⟩)
      go_ret
      exact ⟨by rw [HJ.out]; rfl, grown_trans HGw.out hg6⟩

set_option maxRecDepth 100000 in
set_option maxHeartbeats 1000000 in
theorem print_m (l : List Int) (v : Value) (w : World) (hT : Tab w) (hI : IntsAt w.heap.size w v l) :
    Calls Tryz.prog 15 #[v] w fun e w' => w.grownBy w' none ∧ ((validS l = true ∧ e = .returned (.tuple #[.string ⟨(printS l).toArray⟩, .int .i64 0])) ∨ (validS l = false ∧ e = .returned (.tuple #[.string ⟨#[]⟩, .int .i64 2]))) := by
  have HT := hide hT
  have HI := hide hI
  obtain ⟨ao, cap, rfl⟩ := hI.form
  clear hT hI
  go_enter Tryz.func15, Tryz.ntmps15
  go_wp2_with fail
  refine (valid_t l _ w HI.out).mono ?_
  rintro e w1 ⟨rfl, hg1⟩
  have HG1 := hide hg1
  clear hg1
  cases hv : validS l with
  | false =>
    go_wp2_with fail
    refine bodyPost_ret (v := .tuple #[.string ⟨#[]⟩, .int .i64 2]) (by simp [results, Tryz.results15, go_sem]) rfl ?_
    exact ⟨HG1.out, Or.inr ⟨hv, rfl⟩⟩
  | true =>
    have HP := hide (rprint_m l _ w1 (HT.out.grown HG1.out) ((HI.out.pres (pres_grown HG1.out)).mono HG1.out.size) hv)
    go_wp2_with (go_at_call 42; refine HP.out.mono ?_; rintro e w2 ⟨rfl, hg2⟩)
    refine bodyPost_ret (v := .tuple #[.string ⟨(printS l).toArray⟩, .int .i64 0]) (by simp [results, Tryz.results15, go_sem]) rfl ?_
    exact ⟨grown_trans HG1.out hg2, Or.inl ⟨hv, rfl⟩⟩

theorem parse_at0 (l : List Nat) (h : (parseP l).ok = true) : (parseP l).at_ = 0 := by
  rw [parse_eq] at h ⊢
  unfold parseR at *
  split at h <;> rename_i h1
  · rw [if_pos h1]
  · rw [if_neg h1]
    cases hw : wholeR (partsR l) (-1) [] with
    | none => rw [hw] at h; cases h
    | some x =>
      rw [hw] at h
      simp only at h ⊢
      split at h
      · cases h
      · rename_i h2; rw [if_neg h2]
theorem parse_nil (l : List Nat) (h : (parseP l).ok = false) : (parseP l).out = [] := by
  rw [parse_eq] at h ⊢
  unfold parseR at *
  split at h <;> rename_i h1
  · cases h
  · rw [if_neg h1]
    cases hw : wholeR (partsR l) (-1) [] with
    | none => rfl
    | some x =>
      rw [hw] at h
      simp only at h ⊢
      split at h
      · rename_i h2; rw [if_pos h2]
      · cases h

def parE (ok : Bool) : Int := if ok = true then 0 else 4

set_option maxRecDepth 100000 in
set_option maxHeartbeats 1000000 in
theorem parse_m (s : ByteArray) (w : World) (hs : s.size ≤ 9223372036854775806) :
    Calls Tryz.prog 16 #[.string s] w fun e w' => ∃ x y z, e = .returned (.tuple #[.slice x y z, .int .i64 (parseP (byt s)).at_, .int .i64 (parE (parseP (byt s)).ok)]) ∧ w'.ownsRow (w.heap.size + 1) 3 1 (.slice x y z) (parseP (byt s)).out.length (ints (parseP (byt s)).out) ∧ w.grownBy w' none := by
  go_enter Tryz.func16, Tryz.ntmps16
  go_wp2_with fail
  refine (rparse_m s w hs).mono ?_
  rintro e w1 ⟨x, y, z, rfl, ho, hg⟩
  have HO := hide ho
  have HG := hide hg
  clear ho hg
  cases hok : (parseP (byt s)).ok with
  | true =>
    have h0 : (parseP (byt s)).at_ = 0 := by
      have := (parse_at0 (byt s)) hok
      exact this
    rw [h0]
    go_wp2_with fail
    refine bodyPost_ret (v := .tuple #[.slice x y z, .int .i64 0, .int .i64 0]) (by simp [results, Tryz.results16, go_sem]) rfl ?_
    exact ⟨x, y, z, by rw [h0, hok]; rfl, HO.out, HG.out⟩
  | false =>
    have h0 := parse_nil (byt s) hok
    go_wp2_with fail
    refine bodyPost_ret (v := .tuple #[.slice none 0 0, .int .i64 (parseP (byt s)).at_, .int .i64 4]) (by simp [results, Tryz.results16, go_sem]) rfl ?_
    refine ⟨none, 0, 0, by rw [hok]; rfl, ?_, HG.out⟩
    rw [h0]
    exact ⟨rfl, Or.inl ⟨rfl, rfl⟩⟩

end Go.Proofs.YtklenjmfalljgaaGreatDoor

/- The walk of the writer's schedule. -/
namespace Go.Proofs.YtklenjmfalljgaaGreatDoor
open Go.RowKit
attribute [local go_sem] Go.World.cell?_alloc_some

theorem runB_len {x : Int × Int} (h : 0 ≤ x.1 ∧ x.1 ≤ 63 ∧ 1 ≤ x.2 ∧ x.2 ≤ 500) : (runB x).length ≤ 20 := by
  unfold runB
  have h1 := wInt_len (n := x.1) (by omega)
  have h2 := wInt_len (n := x.2) (by omega)
  simp only [List.length_append]
  omega
theorem valid_500 {s : List Int} (h : validS s = true) : s.length ≤ 500 := by
  simp only [validS, Bool.and_eq_true, decide_eq_true_eq] at h
  exact h.1
theorem schB_len {s : List Int} (h : validS s = true) : (schB s).length ≤ 10010 := by
  unfold schB
  have h0 := valid_500 h
  have h3 := grp_len s
  have h1 := wInt_len (n := (grp s).length) (by omega)
  have h2 := flat_len runB 20 (grp s) (fun x hx => runB_len (grp_valid h x hx))
  have h4 : 20 * (grp s).length ≤ 20 * 500 := Nat.mul_le_mul_left _ (by omega)
  simp only [List.length_append]
  omega

set_option maxRecDepth 100000 in
set_option maxHeartbeats 2000000 in
theorem schedule_w (W : World) (b : Nat) (s : List Int) (sv : Value) (w : World) (bv : Value) (l : List Nat) (h : WrS W w b bv l) (hl : l.length ≤ 5000) (hI : IntsAt W.heap.size W sv s) (hv : validS s = true) :
    Calls Tryz.prog 63 #[pt b, sv] w (Wrote W w b bv (l ++ schB s)) := by
  have HH := hide h
  have HOF := hide (of_m s sv w ((hI.pres (pres_grown h.base)).mono h.base.size) (valid_500 hv))
  have HV := hide (grp_valid hv)
  have hq5 : (grp s).length ≤ 500 := by have := grp_len s; have := valid_500 hv; omega
  obtain ⟨sa, sc, rfl⟩ := hI.form
  have hpt : pt b = .pointer (some ⟨b, 0, none⟩) := rfl
  rw [hpt] at *
  unfold schB
  generalize grp s = q at *
  clear h hI hv hpt
  go_enter Tryz.func63, Tryz.ntmps63
  go_wp2_with fail
  refine HOF.out.mono ?_
  rintro e w1 ⟨r1, r2, r3, rfl, ho, hg⟩
  have hr2 := owns_lenq ho
  subst hr2
  have HO := hide ho
  have HS1 := hide (HH.out.grown hg)
  have HT1 := hide ((WrT.refl w b bv).grown hg)
  have HZ : Hid (w.heap.size ≤ w1.heap.size) := hg.size
  have HFR : Hid (∀ k, r1 = some k → k.block ≠ b ∧ bv.ownBlock ≠ some k.block) := by
    intro k hk
    have h1 := owns_block ho k.block (by rw [hk]; rfl)
    have h2 := HH.out.lt
    refine ⟨by omega, fun e => ?_⟩
    have := HH.out.row.lt _ e
    omega
  clear ho hg HOF
  go_wp2_with fail
  refine (whole_w W b q.length (by omega) (by omega) w1 bv l HS1.out (by omega)).mono ?_
  rintro e w2 ⟨⟨v2, rfl⟩, bv2, hs2, ht2⟩
  have HS2 := hide hs2
  have HT2 := hide ht2
  clear hs2 ht2
  go_wp2_with fail
  go_loopw [15] (fun i w' => ∃ (k : Nat) (bv' : Value), k ≤ q.length ∧ i = .int .i64 k ∧ Hid (WrS W w' b bv' (l ++ wInt q.length ++ (q.take k).flatMap runB)) ∧ Hid (WrT w1 w' b bv bv')) (fun i _ => q.length - (intOf i).toNat)
  case atStart => exact ⟨0, bv2, Nat.zero_le _, rfl, hide (by simpa using HS2.out), HT2⟩
  case round =>
    clear HS2 HT2
    obtain ⟨k, bv7, hk, rfl, HW, HT3⟩ := hrel
    obtain ⟨w7, hw7⟩ : ∃ w7, w7 = wr := ⟨_, rfl⟩
    rw [← hw7] at HW HT3 ⊢
    clear hw7
    by_cases hkl : k < q.length
    · obtain ⟨g, cap, he, hgb, hgl⟩ := HO.out.form (by omega)
      simp only [Value.slice.injEq, true_and] at he
      obtain ⟨rfl, rfl⟩ := he
      obtain ⟨f0, f1⟩ := flat_at q k hkl
      have hfr := HFR.out ⟨g, 0, none⟩ rfl
      have hbl : w7.heap[g]? = w1.heap[g]? := HT3.out.keep g hgl hfr.1 hfr.2
      have hlen2 := flatS_len q
      have d0 : w7.cell? ⟨g, k * 2, none⟩ = some (.int .i64 q[k].1) := by
        rw [World.cell?_of_block (w := w1) hbl, HO.out.cellAt _ (by omega)]; exact f0
      have d1 : w7.cell? ⟨g, k * 2 + 1, none⟩ = some (.int .i64 q[k].2) := by
        rw [World.cell?_of_block (w := w1) hbl, HO.out.cellAt _ (by omega)]; exact f1
      have k0 : (0 : Int) ≤ (k : Int) := by omega
      have k1 : (k : Int) < q.length := by omega
      obtain ⟨a1, a2, b1, b2⟩ := HV.out q[k] (List.getElem_mem hkl)
      have HTi := hide (take_flat runB q k hkl)
      have HLi : Hid ((l ++ wInt q.length ++ (q.take k).flatMap runB).length ≤ 20000) := by
        unfold Hid
        have h1 := wInt_len (n := q.length) (by omega)
        have h2 := flat_len runB 20 (q.take k) (fun i h => runB_len (HV.out i (List.mem_of_mem_take h)))
        simp only [List.length_append, List.length_take] at h2 ⊢
        have h3 : 20 * min k q.length ≤ 20 * 500 := Nat.mul_le_mul_left _ (by omega)
        omega
      generalize hl2 : l ++ wInt q.length ++ (q.take k).flatMap runB = l2 at HW HLi ⊢
      have HL2 := hide hl2
      have HZ2 : Hid (runB q[k] = wInt q[k].1 ++ wInt q[k].2) := rfl
      clear hl2 f0 f1 hfr hbl hlen2
      generalize q[k].1 = x0 at *
      generalize q[k].2 = x1 at *
      have y0 := wInt_len (n := x0) (by omega)
      go_wp2_with fail
      have L0 := WrL.start HW.out 148 #[.int .i64 x0, .int .i64 x1]
      have T0 : WrT w1 (w7.alloc (.cells #[.int .i64 x0, .int .i64 x1] 148)) b bv bv7 := HT3.out.grown (grown_alloc (grown_refl _ _))
      clear d0 d1
      generalize w7.alloc (.cells #[.int .i64 x0, .int .i64 x1] 148) = u0 at L0 T0 ⊢
      refine (whole_w W b x0 a1 (by omega) u0 bv7 l2 L0.wr (by have := HLi.out; omega)).mono ?_
      rintro e u1 ⟨⟨v1, rfl⟩, bw1, hs1, ht1⟩
      have L1 := L0.call hs1 ht1
      have T1 := T0.trans ht1
      have m1 : u1.cell? ⟨w7.heap.size, 1, none⟩ = some (.int .i64 x1) := by simpa using L1.cell 1
      have HL := hide L1
      have HT := hide T1
      clear L1 T1 L0 T0 hs1 ht1 HW HT3
      go_wp2_with fail
      have L1 := HL.out
      have T1 := HT.out
      clear HL HT m1
      refine (whole_w W b x1 (by omega) (by omega) u1 bw1 (l2 ++ wInt x0) L1.wr (by have := HLi.out; simp only [List.length_append]; omega)).mono ?_
      rintro e u2 ⟨⟨v2, rfl⟩, bw2, hs2, ht2⟩
      have T4 := hide (T1.trans ht2)
      have S4 : Hid (WrS W u2 b bw2 (l ++ wInt q.length ++ (q.take (k + 1)).flatMap runB)) := by
        unfold Hid
        rw [HTi.out, HZ2.out, ← List.append_assoc (l ++ wInt q.length), HL2.out]
        simpa [List.append_assoc] using hs2
      clear L1 T1 hs2 ht2
      go_wp2_with fail
      go_roundw
      case rel => exact ⟨k + 1, bw2, by omega, by first | rfl | go_num, S4, T4⟩
      case measure => simp [intOf]; omega
    · have k1 : ¬ (k : Int) < q.length := by omega
      have hkc : k = q.length := by omega
      have S5 : Hid (WrS W w7 b bv7 (l ++ (wInt q.length ++ q.flatMap runB))) := by
        unfold Hid
        have := HW.out
        rw [hkc, List.take_length] at this
        simpa [List.append_assoc] using this
      clear hkc
      go_wp2_with fail
      go_end0
      exact ⟨⟨_, rfl⟩, bv7, S5.out, HT1.out.trans HT3.out⟩

end Go.Proofs.YtklenjmfalljgaaGreatDoor

/- The walks of Write and Encode. -/
namespace Go.Proofs.YtklenjmfalljgaaGreatDoor
open Go.RowKit
attribute [local go_sem] Go.World.cell?_alloc_some

theorem wInt_256 (n : Int) : ∀ x ∈ wInt n, x < 256 := numB_lt _
theorem flat_256 {α : Type} (f : α → List Nat) (q : List α) (h : ∀ y ∈ q, ∀ x ∈ f y, x < 256) : ∀ x ∈ q.flatMap f, x < 256 := by
  intro x hx
  obtain ⟨y, hy, hx⟩ := List.mem_flatMap.1 hx
  exact h y hy x hx
theorem app_256 {a b : List Nat} (ha : ∀ x ∈ a, x < 256) (hb : ∀ x ∈ b, x < 256) : ∀ x ∈ a ++ b, x < 256 := by
  intro x hx
  rcases List.mem_append.1 hx with h | h
  · exact ha x h
  · exact hb x h
theorem bodyB_256 (a : Art) : ∀ x ∈ bodyB a, x < 256 := by
  unfold bodyB progB schB verB
  refine app_256 (by decide) (app_256 (app_256 (wInt_256 _) (flat_256 _ _ fun c _ => ?_)) (app_256 (app_256 (wInt_256 _) (flat_256 _ _ fun r _ => ?_)) (app_256 (wInt_256 _) (app_256 (wInt_256 _) (wInt_256 _)))))
  · unfold codeB
    refine app_256 (wInt_256 _) (flat_256 _ _ fun i _ => ?_)
    unfold insB
    exact app_256 (wInt_256 _) (app_256 (wInt_256 _) (app_256 (wInt_256 _) (numB_lt _)))
  · unfold runB
    exact app_256 (wInt_256 _) (wInt_256 _)
theorem encB_256 (a : Art) : ∀ x ∈ encB a, x < 256 := app_256 (bodyB_256 a) (leB_lt _ _)
theorem encB_len (a : Art) (h : artE a = 0) (hi : ∀ c ∈ a.prog, ∀ i ∈ c, insInt i) : 10 ≤ (encB a).length ∧ (encB a).length ≤ 20000 := by
  have hp : vProg a.prog = true := by
    unfold artE at h; split at h <;> simp_all
  rw [artE, if_pos hp] at h
  have hs : validS a.sch = true ∧ verOk a.ver = true := by
    split at h <;> simp_all
  have h1 := progB_len hp hi
  have h2 := schB_len hs.1
  have hv := hs.2
  simp only [verOk, Bool.and_eq_true, decide_eq_true_eq] at hv
  have h3 := wInt_len (n := a.ver.1) (by omega)
  have h4 := wInt_len (n := a.ver.2.1) (by omega)
  have h5 := wInt_len (n := a.ver.2.2) (by omega)
  have pos : ∀ n : Int, 1 ≤ (wInt n).length := fun n => by unfold wInt; by_cases hn : n.toNat < 128; rw [numB_small hn]; simp; rw [numB_big hn]; simp
  have p1 := pos a.ver.1
  have p2 := pos a.ver.2.1
  have p3 := pos a.ver.2.2
  unfold encB bodyB verB
  simp only [List.length_append, leB_len, List.length_cons, List.length_nil]
  omega

set_option maxRecDepth 100000 in
set_option maxHeartbeats 2000000 in
theorem write_m (a : Art) (tv sv : Value) (w : World) (hP : ProgAt w (.agg #[tv]) a.prog) (hS : IntsAt w.heap.size w sv a.sch) (hE : artE a = 0) (hi : ∀ c ∈ a.prog, ∀ i ∈ c, insInt i) :
    Calls Tryz.prog 39 #[artA tv sv a.ver] w fun e w' => e = .returned (.string (bs (encB a))) ∧ w.grownBy w' none := by
  have hp : vProg a.prog = true := by
    unfold artE at hE; split at hE <;> simp_all
  have hs : validS a.sch = true ∧ verOk a.ver = true := by
    rw [artE, if_pos hp] at hE
    split at hE <;> simp_all
  have HENC : Hid (encB a = [82, 82, 1] ++ progB a.prog ++ schB a.sch ++ verB a.ver ++ leB 4 (crcN ([82, 82, 1] ++ progB a.prog ++ schB a.sch ++ verB a.ver))) := by
    unfold Hid encB bodyB; simp [List.append_assoc]
  have H256 : Hid (∀ x ∈ [82, 82, 1] ++ progB a.prog ++ schB a.sch ++ verB a.ver, x < 256) := by
    have := bodyB_256 a
    unfold Hid
    unfold bodyB at this
    simpa [List.append_assoc] using this
  generalize encB a = E at *
  obtain ⟨p, l, v1, v2, v3⟩ := a
  simp only at hP hS hi hp hs HENC H256 ⊢
  have hv := hs.2
  simp only [verOk, Bool.and_eq_true, decide_eq_true_eq] at hv
  have HPl := hide (progB_len hp hi)
  have HSl := hide (schB_len hs.1)
  have HP := hide hP
  have HS := hide hS
  have HVP := hide hp
  have HVS := hide hs.1
  have HI := hide hi
  obtain ⟨ta, tc, e1⟩ := hP.form
  simp only [Value.agg.injEq, Array.mk.injEq, List.cons.injEq, and_true] at e1
  subst e1
  obtain ⟨sa, sc, rfl⟩ := hS.form
  clear hP hS hE hi hp hs
  unfold artA
  simp only
  have kc := Lib.run_convert_bytes_const (P := Tryz.prog) (w.alloc (.cells #[.slice ta p.length tc, .slice sa l.length sc, .int .i64 v1, .int .i64 v2, .int .i64 v3] 49)) 61 5 #[.int .u8 82, .int .u8 82, .int .u8 1] 3 3 Tryz.underlying61 Tryz.underlying5
  have ez : (w.alloc (.cells #[.slice ta p.length tc, .slice sa l.length sc, .int .i64 v1, .int .i64 v2, .int .i64 v3] 49)).heap.size = w.heap.size + 1 := by simp
  rw [ez] at kc
  go_enter Tryz.func39, Tryz.ntmps39
  go_wp2_with fail
  clear kc ez
  have hgA : w.grownBy (w.alloc (.cells #[.slice ta p.length tc, .slice sa l.length sc, .int .i64 v1, .int .i64 v2, .int .i64 v3] 49)) none := grown_alloc (grown_refl _ _)
  have hbA := heap_alloc_new w (.cells #[.slice ta p.length tc, .slice sa l.length sc, .int .i64 v1, .int .i64 v2, .int .i64 v3] 49)
  have hzA : (w.alloc (.cells #[.slice ta p.length tc, .slice sa l.length sc, .int .i64 v1, .int .i64 v2, .int .i64 v3] 49)).heap.size = w.heap.size + 1 := by simp
  generalize w.alloc (.cells #[.slice ta p.length tc, .slice sa l.length sc, .int .i64 v1, .int .i64 v2, .int .i64 v3] 49) = W at hgA hbA hzA ⊢
  have HPW := hide (HP.out.pres (pres_grown hgA))
  have HSW : Hid (IntsAt W.heap.size W (.slice sa l.length sc) l) := (HS.out.pres (pres_grown hgA)).mono hgA.size
  have HGA := hide hgA
  have e0 : W.cell? ⟨w.heap.size, 0, none⟩ = some (.slice ta p.length tc) := by simp [World.cell?, hbA]
  have e1 : W.cell? ⟨w.heap.size, 1, none⟩ = some (.slice sa l.length sc) := by simp [World.cell?, hbA]
  have e2 : W.cell? ⟨w.heap.size, 2, none⟩ = some (.int .i64 v1) := by simp [World.cell?, hbA]
  have e3 : W.cell? ⟨w.heap.size, 3, none⟩ = some (.int .i64 v2) := by simp [World.cell?, hbA]
  have e4 : W.cell? ⟨w.heap.size, 4, none⟩ = some (.int .i64 v3) := by simp [World.cell?, hbA]
  have hSt : WrS W ((W.alloc (.cells #[.int .u8 82, .int .u8 82, .int .u8 1] 5 (3, 4))).alloc (.cells #[.slice (some ⟨w.heap.size + 1, 0, none⟩) 3 3] 137)) (w.heap.size + 1 + 1) (.slice (some ⟨w.heap.size + 1, 0, none⟩) 3 3) [82, 82, 1] := by
    refine ⟨?_, Or.inr ⟨w.heap.size + 1, #[.int .u8 82, .int .u8 82, .int .u8 1], rfl, by omega, ?_, rfl, rfl⟩, by simp [Value.ownBlock], by omega, grown_alloc (grown_alloc (grown_refl _ _))⟩
    · have := heap_alloc_new (W.alloc (.cells #[.int .u8 82, .int .u8 82, .int .u8 1] 5 (3, 4))) (.cells #[.slice (some ⟨w.heap.size + 1, 0, none⟩) 3 3] 137)
      simpa [hzA] using this
    · rw [Below.heap_alloc _ _ _ (by simp; omega)]
      have := heap_alloc_new W (.cells #[.int .u8 82, .int .u8 82, .int .u8 1] 5 (3, 4))
      rwa [hzA] at this
  generalize (W.alloc (.cells #[.int .u8 82, .int .u8 82, .int .u8 1] 5 (3, 4))).alloc (.cells #[.slice (some ⟨w.heap.size + 1, 0, none⟩) 3 3] 137) = w3 at hSt ⊢
  generalize w.heap.size + 1 + 1 = b at hSt ⊢
  clear hgA hbA hzA HP HS
  refine (program_w W b p (.agg #[.slice ta p.length tc]) w3 _ [82, 82, 1] hSt (by decide) HPW.out HVP.out HI.out).mono ?_
  rintro e w4 ⟨⟨u4, rfl⟩, bv4, hs4, ht4⟩
  have d1 := pres_grown hs4.base _ _ e1
  have HS4 := hide hs4
  clear hs4 ht4 hSt e0 e1
  go_wp2_with fail
  refine (schedule_w W b l (.slice sa l.length sc) w4 bv4 ([82, 82, 1] ++ progB p) HS4.out (by have := HPl.out; simp only [List.length_append, List.length_cons, List.length_nil]; omega) HSW.out HVS.out).mono ?_
  rintro e w5 ⟨⟨u5, rfl⟩, bv5, hs5, ht5⟩
  have d2 := pres_grown hs5.base _ _ e2
  have d3 := pres_grown hs5.base _ _ e3
  have d4 := pres_grown hs5.base _ _ e4
  have HS5 := hide hs5
  clear hs5 ht5 HS4 d1 e2 e3 e4
  go_wp2_with fail
  refine (verdict_w W b (v1, v2, v3) (by simp only; omega) (by simp only; omega) (by simp only; omega) w5 bv5 ([82, 82, 1] ++ progB p ++ schB l) HS5.out (by have := HPl.out; have := HSl.out; simp only [List.length_append, List.length_cons, List.length_nil]; omega)).mono ?_
  rintro e w6 ⟨⟨u6, rfl⟩, bv6, hs6, ht6⟩
  have HS6 := hide hs6
  clear hs6 ht6 HS5 d2 d3 d4
  have HVl : Hid ((verB (v1, v2, v3)).length ≤ 30) := by
    unfold Hid verB
    have h3 := wInt_len (n := v1) (by omega)
    have h4 := wInt_len (n := v2) (by omega)
    have h5 := wInt_len (n := v3) (by omega)
    simp only [List.length_append]
    omega
  go_wp2_with fail
  refine (check_w W b w6 bv6 ([82, 82, 1] ++ progB p ++ schB l ++ verB (v1, v2, v3)) HS6.out (by have := HPl.out; have := HSl.out; have := HVl.out; simp only [List.length_append, List.length_cons, List.length_nil]; omega) H256.out).mono ?_
  rintro e w7 ⟨⟨u7, rfl⟩, bv7, hs7, ht7⟩
  rw [← HENC.out] at hs7
  have HS7 := hide hs7
  have d5 := hs7.cell
  have d6 := hs7.row.str
  obtain ⟨x1, x3, rfl⟩ := hs7.row.form
  clear hs7 ht7 HS6
  go_wp2_with fail
  go_ret
  exact ⟨rfl, grown_trans HGA.out HS7.out.base⟩

set_option maxRecDepth 100000 in
set_option maxHeartbeats 2000000 in
theorem encode_m (a : Art) (tv sv : Value) (w : World) (hSh : ShpAt w) (hP : ProgAt w (.agg #[tv]) a.prog) (hS : IntsAt w.heap.size w sv a.sch) (hE : artE a = 0) (hi : ∀ c ∈ a.prog, ∀ i ∈ c, insInt i) :
    Calls Tryz.prog 12 #[artA tv sv a.ver] w fun e w' => e = .returned (.tuple #[.string (bs (encB a)), .int .i64 0]) ∧ w.grownBy w' none := by
  have hfm := hP.form
  obtain ⟨ta, tc, e1⟩ := hfm
  simp only [Value.agg.injEq, Array.mk.injEq, List.cons.injEq, and_true] at e1
  obtain ⟨sa, sc, e2⟩ := hS.form
  subst e1 e2
  have hgA : w.grownBy (w.alloc (.cells #[.slice ta a.prog.length tc, .slice sa a.sch.length sc, .int .i64 a.ver.1, .int .i64 a.ver.2.1, .int .i64 a.ver.2.2] 49)) none := grown_alloc (grown_refl _ _)
  have hbA := heap_alloc_new w (.cells #[.slice ta a.prog.length tc, .slice sa a.sch.length sc, .int .i64 a.ver.1, .int .i64 a.ver.2.1, .int .i64 a.ver.2.2] 49)
  have HA := hide (acheck_m a (.slice ta a.prog.length tc) (.slice sa a.sch.length sc) _ (ShpAt.pres hSh (pres_grown hgA)) (hP.pres (pres_grown hgA)) ((hS.pres (pres_grown hgA)).mono hgA.size))
  rw [hE] at HA
  have HW := hide (fun (w' : World) (hg : w.grownBy w' none) => write_m a (.slice ta a.prog.length tc) (.slice sa a.sch.length sc) w' (hP.pres (pres_grown hg)) ((hS.pres (pres_grown hg)).mono hg.size) hE hi)
  clear hSh hP hS hE hi
  unfold artA at *
  go_enter Tryz.func12, Tryz.ntmps12
  go_wp2_with fail
  generalize w.alloc (.cells #[.slice ta a.prog.length tc, .slice sa a.sch.length sc, .int .i64 a.ver.1, .int .i64 a.ver.2.1, .int .i64 a.ver.2.2] 49) = W at hgA hbA HA ⊢
  refine HA.out.mono ?_
  rintro e w2 ⟨rfl, hg2⟩
  have hb2 : w2.heap[w.heap.size]? = some (.cells #[.slice ta a.prog.length tc, .slice sa a.sch.length sc, .int .i64 a.ver.1, .int .i64 a.ver.2.1, .int .i64 a.ver.2.2] 49 (0, 0)) := by
    rw [hg2.block _ (Array.getElem?_eq_some_iff.1 hbA).1 (by simp)]; exact hbA
  have e0 : w2.cell? ⟨w.heap.size, 0, none⟩ = some (.slice ta a.prog.length tc) := by simp [World.cell?, hb2]
  have e1 : w2.cell? ⟨w.heap.size, 1, none⟩ = some (.slice sa a.sch.length sc) := by simp [World.cell?, hb2]
  have e2 : w2.cell? ⟨w.heap.size, 2, none⟩ = some (.int .i64 a.ver.1) := by simp [World.cell?, hb2]
  have e3 : w2.cell? ⟨w.heap.size, 3, none⟩ = some (.int .i64 a.ver.2.1) := by simp [World.cell?, hb2]
  have e4 : w2.cell? ⟨w.heap.size, 4, none⟩ = some (.int .i64 a.ver.2.2) := by simp [World.cell?, hb2]
  have HG2 := hide (grown_trans hgA hg2)
  clear hg2 hb2 hbA hgA
  go_wp2_with fail
  refine (HW.out w2 HG2.out).mono ?_
  rintro e w3 ⟨rfl, hg3⟩
  have HG3 := hide (grown_trans HG2.out hg3)
  clear hg3 e0 e1 e2 e3 e4
  go_wp2_with fail
  refine bodyPost_ret (v := .tuple #[.string (bs (encB a)), .int .i64 0]) (by simp [results, Tryz.results12, go_sem]) rfl ?_
  exact ⟨rfl, HG3.out⟩

end Go.Proofs.YtklenjmfalljgaaGreatDoor

/- A schedule's text is read again (no dump is named here). -/
namespace Go.Proofs.YtklenjmfalljgaaGreatDoor

def nat8 (l : List UInt8) : List Nat := l.map UInt8.toNat

theorem nat8_app (a b : List UInt8) : nat8 (a ++ b) = nat8 a ++ nat8 b := by simp [nat8]

/-- The digits of a number below 1000. -/
def digN (n : Nat) : List Nat := if n < 10 then [48 + n] else if n < 100 then [48 + n / 10, 48 + n % 10] else [48 + n / 100, 48 + n / 10 % 10, 48 + n % 10]

theorem u8_dig {x : Nat} (h : x < 200) : (UInt8.ofNat x).toNat = x := by simp; omega

theorem itoa_dig (n : Nat) (h : n < 1000) : nat8 (Lib.itoa (n : Int)) = digN n := by
  unfold Lib.itoa
  rw [if_neg (by omega), Int.toNat_natCast]
  unfold digN
  by_cases h1 : n < 10
  · rw [if_pos h1, Lib.decDigits_one h1]
    simp only [nat8, List.map_cons, List.map_nil, u8_dig (show 48 + n < 200 by omega)]
  · rw [if_neg h1]
    by_cases h2 : n < 100
    · rw [if_pos h2, Lib.decDigits_two h1 h2]
      simp only [nat8, List.map_cons, List.map_nil, u8_dig (show 48 + n / 10 < 200 by omega), u8_dig (show 48 + n % 10 < 200 by omega)]
    · rw [if_neg h2, Lib.decDigits, dif_neg h1, Lib.decDigits_two (i := n / 10) (by omega) (by omega)]
      simp only [nat8, List.map_cons, List.map_nil, List.map_append, u8_dig (show 48 + n / 10 / 10 < 200 by omega), u8_dig (show 48 + n / 10 % 10 < 200 by omega), u8_dig (show 48 + n % 10 < 200 by omega)]
      have e : n / 10 / 10 = n / 100 := by omega
      rw [e]
      rfl

theorem dig_ok : ∀ n : _root_.Fin 1000, plainR (digN n.val) = true ∧ valueR 0 (digN n.val) = (n.val : Int) ∧ (digN n.val).all (fun x => decide (48 ≤ x) && decide (x ≤ 57)) = true := by decide +kernel

theorem dig_of (n : Nat) (h : n < 1000) : plainR (digN n) = true ∧ valueR 0 (digN n) = (n : Int) ∧ ∀ x ∈ digN n, 48 ≤ x ∧ x ≤ 57 := by
  obtain ⟨h1, h2, h3⟩ := dig_ok ⟨n, h⟩
  refine ⟨h1, h2, fun x hx => ?_⟩
  have := List.all_eq_true.1 h3 x hx
  simpa using this

/-- A run's word is read as that run. -/
theorem word_run (t n ahead : Int) (ht : 0 ≤ t ∧ t ≤ 63) (hn : 1 ≤ n ∧ n ≤ 500) (ha : t ≠ ahead) : runR (nat8 (wordS t n)) ahead = some (t, n) ∧ ∀ x ∈ nat8 (wordS t n), x ≠ 32 := by
  obtain ⟨t', rfl⟩ := Int.eq_ofNat_of_zero_le ht.1
  obtain ⟨n', rfl⟩ := Int.eq_ofNat_of_zero_le (show 0 ≤ n by omega)
  obtain ⟨p1, p2, p3⟩ := dig_of t' (by omega)
  obtain ⟨q1, q2, q3⟩ := dig_of n' (by omega)
  have p42 : ∀ x ∈ digN t', x ≠ 42 := fun x hx => by have := p3 x hx; omega
  unfold wordS
  split
  · rename_i h
    rw [itoa_dig t' (by omega)]
    refine ⟨?_, fun x hx => by have := p3 x hx; omega⟩
    rw [run_plain p42 p1 (by omega) ahead (by rw [p2]; exact ha), p2, h]
  · rename_i h
    rw [nat8_app, nat8_app, itoa_dig t' (by omega), itoa_dig n' (by omega)]
    have e : digN t' ++ nat8 [42] ++ digN n' = digN t' ++ 42 :: digN n' := by simp [nat8]
    rw [e]
    refine ⟨?_, fun x hx => ?_⟩
    · rw [run_star p42 p1 (by omega) ahead (by rw [p2]; exact ha), if_neg (by rw [q1, q2]; simp; omega), p2, q2]
    · rcases List.mem_append.1 hx with hx | hx
      · have := p3 x hx; omega
      · rcases List.mem_cons.1 hx with rfl | hx
        · decide
        · have := q3 x hx; omega

def wordsN (q : List (Int × Int)) : List (List Nat) := q.map fun x => nat8 (wordS x.1 x.2)

theorem joinT (q : List (Int × Int)) : nat8 (Lib.joinTail [32] (q.map fun x => wordS x.1 x.2)) = (wordsN q).flatMap (fun l => 32 :: l) := by
  induction q with
  | nil => rfl
  | cons x q ih =>
    simp only [Lib.joinTail, List.map_cons, List.flatten_cons, wordsN, List.flatMap_cons] at ih ⊢
    rw [nat8_app, ih, nat8_app]
    rfl

theorem parts_join (l : List Nat) (ls : List (List Nat)) (h : ∀ x ∈ l, x ≠ 32) (hs : ∀ m ∈ ls, ∀ x ∈ m, x ≠ 32) : partsR (l ++ ls.flatMap (fun m => 32 :: m)) = l :: ls := by
  induction ls generalizing l with
  | nil => simpa using parts_one l h
  | cons m ls ih =>
    rw [List.flatMap_cons, List.cons_append, parts_two l _ h, ih m (hs m (by simp)) (fun k hk => hs k (by simp [hk]))]

theorem whole_words (q : List (Int × Int)) (ahead : Int) (out : List Int) (hs : ∀ x q', q = x :: q' → x.1 ≠ ahead ∧ Sep (some x.1) q') (hq : ∀ x ∈ q, 0 ≤ x.1 ∧ x.1 ≤ 63 ∧ 1 ≤ x.2 ∧ x.2 ≤ 500) (hl : out.length + (expand q).length ≤ 500) :
    ∃ a, wholeR (wordsN q) ahead out = some (out ++ expand q, a) := by
  induction q generalizing ahead out with
  | nil => exact ⟨ahead, by simp [wordsN, wholeR, expand]⟩
  | cons x q ih =>
    obtain ⟨h1, h2⟩ := hs x q rfl
    have hx := hq x (by simp)
    have hr := (word_run x.1 x.2 ahead ⟨hx.1, hx.2.1⟩ ⟨hx.2.2.1, hx.2.2.2⟩ h1).1
    have he : expand (x :: q) = List.replicate x.2.toNat x.1 ++ expand q := rfl
    have hlen : (expand (x :: q)).length = x.2.toNat + (expand q).length := by rw [he]; simp
    have hf : fillR out x.1 x.2 = out ++ List.replicate x.2.toNat x.1 := by
      unfold fillR
      rw [Nat.min_eq_left (by omega)]
    obtain ⟨a, ha⟩ := ih x.1 (out ++ List.replicate x.2.toNat x.1) (by
      intro y q' e
      subst e
      obtain ⟨s1, s2⟩ := h2
      exact ⟨fun e => s1 (by rw [e]), s2⟩) (fun y hy => hq y (by simp [hy])) (by simp; omega)
    refine ⟨a, ?_⟩
    show (match runR (nat8 (wordS x.1 x.2)) ahead with | none => none | some (t, n) => wholeR (wordsN q) t (fillR out t n)) = _
    rw [hr]
    simp only
    rw [hf, ha, he, List.append_assoc]

theorem parse_print (s : List Int) (h : validS s = true) : parseP (nat8 (printS s)) = ⟨s, 0, true⟩ := by
  rw [parse_eq]
  unfold validS at h
  simp only [Bool.and_eq_true, decide_eq_true_eq, List.all_eq_true] at h
  obtain ⟨hl, hm⟩ := h
  obtain ⟨hsep, hsep2⟩ := grp_sep s
  have hex := grp_expand s
  have hmem := grp_mem s
  cases hg : grp s with
  | nil =>
    rw [hg] at hex
    have : s = [] := by rw [← hex]; rfl
    subst this
    rfl
  | cons x q =>
    have hq : ∀ y ∈ x :: q, 0 ≤ y.1 ∧ y.1 ≤ 63 ∧ 1 ≤ y.2 ∧ y.2 ≤ 500 := by
      intro y hy
      rw [← hg] at hy
      have h1 := hmem y hy
      have h2 := hm _ h1.1
      exact ⟨h2.1, h2.2, h1.2.1, by omega⟩
    have hw : ∀ y ∈ x :: q, (∀ z ∈ nat8 (wordS y.1 y.2), z ≠ 32) := fun y hy => by
      have := hq y hy
      exact (word_run y.1 y.2 (-1) ⟨this.1, this.2.1⟩ ⟨this.2.2.1, this.2.2.2⟩ (by omega)).2
    have hp : nat8 (printS s) = nat8 (wordS x.1 x.2) ++ (wordsN q).flatMap (fun m => 32 :: m) := by
      unfold printS
      rw [hg, List.map_cons, Lib.join_cons, nat8_app, joinT]
    have hparts : partsR (nat8 (printS s)) = wordsN (x :: q) := by
      rw [hp, parts_join _ _ (hw x (by simp)) (by
        intro m hm'
        obtain ⟨y, hy, rfl⟩ := List.mem_map.1 hm'
        exact hw y (by simp [hy]))]
      rfl
    have hne : nat8 (printS s) ≠ [] := by
      intro e
      rw [e] at hparts
      have h1 := congrArg List.head? hparts
      simp only [partsR, wordsN, List.map_cons, List.head?_cons, Option.some.injEq] at h1
      have hx := hq x (by simp)
      have h2 := (word_run x.1 x.2 (-1) ⟨hx.1, hx.2.1⟩ ⟨hx.2.2.1, hx.2.2.2⟩ (by omega)).1
      rw [← h1] at h2
      simp [runR, halfA, plainR] at h2
    obtain ⟨a, ha⟩ := whole_words (x :: q) (-1) [] (by
      intro y q' e
      simp only [List.cons.injEq] at e
      obtain ⟨rfl, rfl⟩ := e
      have := hq x (by simp)
      exact ⟨by omega, hsep2 x q hg⟩) hq (by rw [← hg, hex]; simpa using hl)
    unfold parseR
    rw [if_neg hne, hparts, ha]
    simp only [List.nil_append]
    rw [← hg, hex, if_neg (by omega)]

end Go.Proofs.YtklenjmfalljgaaGreatDoor

/- The walk of Written. -/
namespace Go.Proofs.YtklenjmfalljgaaGreatDoor
open Go.RowKit
attribute [local go_sem] Go.World.cell?_alloc_some

theorem insM_int (n many : Int) (_hn : 0 ≤ n) (hm : 0 ≤ many) (hm2 : many ≤ 16) : insInt (insM n many) := by
  have a1 : 0 ≤ n / 11 % 3 ∧ n / 11 % 3 < 3 := by omega
  have b1 : 0 ≤ n / 33 % 4 ∧ n / 33 % 4 < 4 := by omega
  have e1 : 0 ≤ n % 11 ∧ n % 11 < 11 := by omega
  have j1 : 0 ≤ n / 132 % (many + 1) ∧ n / 132 % (many + 1) < many + 1 := ⟨Int.emod_nonneg _ (by omega), Int.emod_lt_of_pos _ (by omega)⟩
  have k1 : 0 ≤ n / 132 % 5 ∧ n / 132 % 5 < 5 := by omega
  unfold insM insInt
  generalize n / 11 % 3 = A at *
  generalize n / 33 % 4 = B at *
  generalize n / 132 % (many + 1) = J at *
  generalize n / 132 % 5 = K at *
  generalize n % 11 = E at *
  repeat' split
  all_goals (simp only; omega)
theorem progN_int (raw : List (List Int)) : ∀ c ∈ progN raw, ∀ i ∈ c, insInt i := by
  intro c hc i hi
  unfold progN at hc
  split at hc
  · simp at hc; subst hc; simp at hi
  · simp only [thrN, List.mem_map] at hc
    obtain ⟨r, _, rfl⟩ := hc
    simp only [codeN, List.mem_map] at hi
    obtain ⟨x, _, rfl⟩ := hi
    exact insM_int _ _ (pickN_range x 1099511627776 (by omega)).1 (by omega) (by omega)

def artN (raw : List (List Int)) (sch : List Int) (n : Int) : Art := ⟨progN raw, schN sch, verN n⟩
theorem artN_ok (raw : List (List Int)) (sch : List Int) (n : Int) : artE (artN raw sch n) = 0 := by
  unfold artE artN
  have h := pickN_range n 10020 (by omega)
  rw [if_pos (progN_valid raw), if_pos ⟨schN_valid sch, verM_ok h.1 h.2⟩]

theorem print_lenK {l : List Int} (h : validS l = true) : (printS l).length ≤ 4000 := by
  have h5 : l.length ≤ 500 := by simp only [validS, Bool.and_eq_true, decide_eq_true_eq] at h; exact h.1
  have := join_len ((grp l).map fun x => wordS x.1 x.2) (fun x hx => by
    simp only [List.mem_map] at hx
    obtain ⟨y, hy, rfl⟩ := hx
    have := grp_valid h y hy
    exact word_len this.1 this.2.1 this.2.2.1 this.2.2.2)
  have hg := grp_len l
  rw [List.length_map] at this
  unfold printS
  omega

theorem and1_i64 (y : Nat) (hy : y < 9223372036854775808) : bits .and .i64 (y : Int) 1 = ((y % 2 : Nat) : Int) := by
  show IntKind.i64.wrap ((BitVec.ofInt 64 (y : Int) &&& BitVec.ofInt 64 1).toNat : Int) = _
  have e1 : (BitVec.ofInt 64 (y : Int)).toNat = y := by rw [BitVec.ofInt_natCast, BitVec.toNat_ofNat]; exact Nat.mod_eq_of_lt (by omega)
  have e2 : (BitVec.ofInt 64 1).toNat = 1 := by decide
  rw [BitVec.toNat_and, e1, e2, Nat.and_one_is_mod]
  rcases (by omega : y % 2 = 0 ∨ y % 2 = 1) with h | h <;> rw [h] <;> rfl
theorem shr_i64 (x j : Nat) (hj : j < 64) : Op.shift .shr .i64 (x : Int) .u64 (j : Int) = pure (.int .i64 ((x / 2 ^ j : Nat) : Int)) := by
  rw [shift_shr .i64 .u64 _ _ (by omega) (by show (j : Int) ≤ 64; omega)]
  have e : ((2 : Int) ^ j) = ((2 ^ j : Nat) : Int) := by push_cast; rfl
  rw [Int.toNat_natCast, e]
  rfl
theorem shl_u8 (r : Nat) (hr : r < 8) : Op.shift .shl .u8 1 .u64 (r : Int) = pure (.int .u8 ((2 ^ r : Nat) : Int)) := by
  have h : r = 0 ∨ r = 1 ∨ r = 2 ∨ r = 3 ∨ r = 4 ∨ r = 5 ∨ r = 6 ∨ r = 7 := by omega
  rcases h with rfl | rfl | rfl | rfl | rfl | rfl | rfl | rfl <;> rfl
theorem add_str (a b : ByteArray) (h : a.size + b.size ≤ 9223372036854775807) : Op.stringOp .add a b = pure (.string (a ++ b)) := by
  unfold Op.stringOp
  rw [if_neg (by simp only [IntKind.max, IntKind.signed, IntKind.bits]; simp; omega)]
theorem byt_app (a b : ByteArray) : byt (a ++ b) = byt a ++ byt b := by
  simp [byt]

/-- The bytes l lie in the row at g. -/
structure ByR (W w : World) (g : Nat) (l : List Nat) : Prop where
  row : ∃ R : Array Value, w.heap[g]? = some (.cells R 5 (R.size, R.size + 1)) ∧ l.length ≤ R.size ∧ ∀ j (hj : j < l.length), R[j]? = some (.int .u8 (l[j] : Nat))
  base : W.grownBy w none
  lo : W.heap.size ≤ g
theorem ByR.cell {W w : World} {g : Nat} {l : List Nat} (h : ByR W w g l) {j : Nat} (hj : j < l.length) : w.cell? ⟨g, j, none⟩ = some (.int .u8 (l[j] : Nat)) := by
  obtain ⟨R, h1, h2, h3⟩ := h.row
  simp only [World.cell?, h1]; exact h3 j hj
theorem ByR.free {W w : World} {g : Nat} {l : List Nat} (h : ByR W w g l) {j : Nat} (hj : j < l.length) : w.frozen? ⟨g, j, none⟩ = false := by
  obtain ⟨R, h1, h2, h3⟩ := h.row
  simp [World.frozen?, h1]; omega
theorem ByR.set {W w : World} {g : Nat} {l : List Nat} (h : ByR W w g l) {j : Nat} (hj : j < l.length) (x : Nat) : ByR W (w.setCell ⟨g, j, none⟩ (.int .u8 (x : Nat))) g (l.set j x) := by
  obtain ⟨R, h1, h2, h3⟩ := h.row
  refine ⟨⟨R.setIfInBounds j (.int .u8 (x : Nat)), ?_, by simpa using h2, fun i hi => ?_⟩, grown_setNew h.base h.lo, h.lo⟩
  · rw [setCell_eq_setRow w g j R _ _ _ h1, setRow_heap w g R _ _ _ h1]; simp
  · simp only [List.length_set] at hi
    by_cases e : j = i
    · subst e; rw [List.getElem_set_self, Array.getElem?_setIfInBounds_self_of_lt (by omega)]
    · rw [List.getElem_set_ne e, Array.getElem?_setIfInBounds_ne e]; exact h3 i hi
theorem ByR.str {W w : World} {g cap : Nat} {l : List Nat} (h : ByR W w g l) : (convert 61 9 (.slice (some ⟨g, 0, none⟩) l.length cap)).run Tryz.prog w = .ok (.string (bs l)) w :=
  run_convert_bytes_arg w _ _ Tryz.underlying61 Tryz.underlying5 g 0 l.length cap _ (by simp) (fun i hi => by
    have := h.cell (j := i) (by simpa using hi)
    rw [Nat.zero_add, this]
    have hi' : i < l.length := by simpa using hi
    simp [List.getD, hi']) _ Tryz.underlying9
theorem ByR.start (w : World) (l : List Nat) (h : ∀ x ∈ l, x < 256) : ByR w (Lib.bytesWorld w 5 (bs l)) w.heap.size l := by
  refine ⟨⟨_, Lib.bytesWorld_at_new w _ _, ?_, fun j hj => ?_⟩, ⟨?_, ?_, ?_, ?_, ?_⟩, Nat.le_refl _⟩
  · have := bs_size l
    simp [Lib.bytesCells]; omega
  · have h0 := byt_bs h
    have h1 : (byt (bs l))[j]? = some l[j] := by rw [h0]; simp [hj]
    have hs : j < (bs l).size := by rw [bs_size]; exact hj
    simp only [Lib.bytesCells, byt, List.getElem?_map] at h1 ⊢
    rw [Array.getElem?_append_left (by simpa using hs)]
    simp only [Array.getElem?_map]
    simp only [Array.getElem?_toList] at h1
    cases e : (bs l).data[j]? with
    | none => rw [e] at h1; cases h1
    | some b => rw [e] at h1; simp only [Option.map_some, Option.some.injEq] at h1; simp [h1]
  · unfold Lib.bytesWorld World.freeze; split <;> rfl
  · unfold Lib.bytesWorld World.freeze; split <;> rfl
  · unfold Lib.bytesWorld World.freeze; split <;> rfl
  · rw [Lib.bytesWorld_size]; omega
  · intro k hk _; exact Lib.bytesWorld_at_old w _ _ k hk

end Go.Proofs.YtklenjmfalljgaaGreatDoor

/- The walk of Written. -/
namespace Go.Proofs.YtklenjmfalljgaaGreatDoor
open Go.RowKit
attribute [local go_sem] Go.World.cell?_alloc_some

theorem byt_nat8 (l : List UInt8) : byt ⟨l.toArray⟩ = nat8 l := by simp [byt, nat8]

set_option maxRecDepth 100000 in
set_option maxHeartbeats 4000000 in
theorem written_m (raw : List (List Int)) (rv : Value) (sch : List Int) (cv : Value) (n a b : Int) (more : ByteArray) (w : World) (hSh : ShpAt w) (hT : Tab w) (hR : RawAt w rv raw) (hb : ∀ t (ht : t < raw.length) k (hk : k < raw[t].length), isInt raw[t][k])
    (hI : IntsAt w.heap.size w cv sch) (hbs : ∀ k (hk : k < sch.length), isInt sch[k]) (hn : isInt n) (ha : isInt a) (hbb : isInt b) (hmo : more.size ≤ 140737488355328) :
    Calls Tryz.prog 4 #[rv, cv, .int .i64 n, .int .i64 a, .int .i64 b, .string more] w fun e w' => e = .returned (.bool true) ∧ w.grownBy w' none := by
  have HSh := hide hSh
  have HT := hide hT
  have HAK := hide (fun (w' : World) (hg : w.grownBy w' none) => artifact_k raw rv sch cv n w' (hR.grown hg) hb ((hI.pres (pres_grown hg)).mono hg.size) hbs hn)
  have HOK := hide (artN_ok raw sch n)
  have HIN : Hid (∀ c ∈ (artN raw sch n).prog, ∀ i ∈ c, insInt i) := progN_int raw
  have HVS : Hid (validS (artN raw sch n).sch = true) := schN_valid sch
  have HPL : Hid ((artN raw sch n).prog.length ≤ 4 ∧ ∀ c ∈ (artN raw sch n).prog, c.length ≤ 16) := by
    have h1 := progN_valid raw
    have h2 := vProg_len h1
    simp only [vProg, Bool.and_eq_true, List.all_eq_true] at h1
    exact ⟨h2.2, fun c hc => vCode_len (h1.2.2 c hc)⟩
  obtain ⟨ra, rc, rfl⟩ : ∃ ra rc, rv = .slice ra raw.length rc := ⟨_, _, hR.choose_spec.choose_spec.1⟩
  obtain ⟨ca, cc, rfl⟩ := hI.form
  have hAr : (⟨progN raw, schN sch, verN n⟩ : Art) = artN raw sch n := rfl
  clear hSh hT hR hb hI hbs
  go_enter Tryz.func4, Tryz.ntmps4
  go_wp2_with fail
  refine (awake_m w HSh.out).mono ?_
  rintro e w1 ⟨rfl, hg1⟩
  have HG1 := hide hg1
  clear hg1
  go_wp2_with fail
  refine (HAK.out w1 HG1.out).mono ?_
  clear HAK
  rintro e w2 ⟨tv, sv, rfl, hP, hS, hg2⟩
  have eP : progN raw = (artN raw sch n).prog := rfl
  have eS : schN sch = (artN raw sch n).sch := rfl
  have eV : verN n = (artN raw sch n).ver := rfl
  rw [eP] at hP
  rw [eS] at hS
  rw [eV]
  clear eP eS eV hAr
  generalize artN raw sch n = A at *
  obtain ⟨p, l, v1, v2, v3⟩ := A
  simp only at hP hS HIN HVS HPL
  obtain ⟨ta, tc, e1⟩ := hP.form
  simp only [Value.agg.injEq, Array.mk.injEq, List.cons.injEq, and_true] at e1
  subst e1
  obtain ⟨sa, sc, rfl⟩ := hS.form
  have HG2 := hide (grown_trans HG1.out hg2)
  have HP2 := hide hP
  have HS2 := hide hS
  clear hP hS hg2 HG1
  unfold artA
  simp only
  go_wp2_with fail
  have hg3 : w2.grownBy (w2.alloc (.cells #[.slice ta p.length tc, .slice sa l.length sc, .int .i64 v1, .int .i64 v2, .int .i64 v3] 49)) none := grown_alloc (grown_refl _ _)
  have hA3 := heap_alloc_new w2 (.cells #[.slice ta p.length tc, .slice sa l.length sc, .int .i64 v1, .int .i64 v2, .int .i64 v3] 49)
  generalize w2.alloc (.cells #[.slice ta p.length tc, .slice sa l.length sc, .int .i64 v1, .int .i64 v2, .int .i64 v3] 49) = w3 at hg3 hA3 ⊢
  have HG3 := hide (grown_trans HG2.out hg3)
  have HP3 := hide (HP2.out.pres (pres_grown hg3))
  have HS3 : Hid (IntsAt w3.heap.size w3 (.slice sa l.length sc) l) := (HS2.out.pres (pres_grown hg3)).mono hg3.size
  have HEN := hide (encode_m ⟨p, l, (v1, v2, v3)⟩ (.slice ta p.length tc) (.slice sa l.length sc) w3 (ShpAt.pres HSh.out (pres_grown HG3.out)) HP3.out HS3.out HOK.out HIN.out)
  have HLN := hide (encB_len ⟨p, l, (v1, v2, v3)⟩ HOK.out HIN.out)
  have H256 := hide (encB_256 ⟨p, l, (v1, v2, v3)⟩)
  have HDE := hide (dec_enc ⟨p, l, (v1, v2, v3)⟩ HOK.out HIN.out)
  unfold artA at HEN
  simp only at HEN
  generalize encB ⟨p, l, (v1, v2, v3)⟩ = E at HEN HLN H256 HDE
  have HSZ := hide (bs_size E)
  have HBY := hide (byt_bs H256.out)
  generalize hBS : bs E = S at HEN HSZ HBY
  have HBS := hide hBS
  clear hBS
  have hL1 : (10 : Int) ≤ S.size := by have := HSZ.out; have := HLN.out; omega
  have hL2 : (S.size : Int) ≤ 20000 := by have := HSZ.out; have := HLN.out; omega
  have HA3 := hide hA3
  clear hg3 HP2 HS2 HG2 HOK HIN hA3
  refine HEN.out.mono ?_
  clear HEN
  rintro e w4 ⟨rfl, hg4⟩
  have HG4 := hide (grown_trans HG3.out hg4)
  have HP4 := hide (HP3.out.pres (pres_grown hg4))
  have HS4 : Hid (IntsAt w4.heap.size w4 (.slice sa l.length sc) l) := (HS3.out.pres (pres_grown hg4)).mono hg4.size
  have HA4 : Hid (w4.heap[w2.heap.size]? = some (.cells #[.slice ta p.length tc, .slice sa l.length sc, .int .i64 v1, .int .i64 v2, .int .i64 v3] 49 (0, 0))) := by
    unfold Hid; rw [hg4.block _ (Array.getElem?_eq_some_iff.1 HA3.out).1 (by simp)]; exact HA3.out
  clear hg4 HP3 HS3 HA3 HG3
  go_wp2_with fail
  refine (decode_m S w4 (ShpAt.pres HSh.out (pres_grown HG4.out)) (by omega)).mono ?_
  rintro e w5 ⟨hg5, hd5⟩
  rw [HBY.out, HDE.out] at hd5
  rcases hd5 with ⟨hd5, _⟩ | ⟨A, tv', sv', hd5, rfl, ht5, ho5⟩
  · cases hd5
  obtain rfl := Option.some.inj hd5
  simp only at ht5 ho5
  have hP5 := ht5.progAt
  have hS5 := owns_ints ho5
  obtain ⟨ta', tc', e1⟩ := hP5.form
  simp only [Value.agg.injEq, Array.mk.injEq, List.cons.injEq, and_true] at e1
  subst e1
  obtain ⟨sa', sc', rfl⟩ := hS5.form
  have HG5 := hide (grown_trans HG4.out hg5)
  have HP5 := hide (HP4.out.pres (pres_grown hg5))
  have HS5 : Hid (IntsAt w5.heap.size w5 (.slice sa l.length sc) l) := (HS4.out.pres (pres_grown hg5)).mono hg5.size
  have HP5' := hide hP5
  have HS5' := hide hS5
  have HA5 : Hid (w5.heap[w2.heap.size]? = some (.cells #[.slice ta p.length tc, .slice sa l.length sc, .int .i64 v1, .int .i64 v2, .int .i64 v3] 49 (0, 0))) := by
    unfold Hid; rw [hg5.block _ (Array.getElem?_eq_some_iff.1 HA4.out).1 (by simp)]; exact HA4.out
  have c0 : w5.cell? ⟨w2.heap.size, 0, none⟩ = some (.slice ta p.length tc) := by have := HA5.out; simp [World.cell?, this]
  have c1 : w5.cell? ⟨w2.heap.size, 1, none⟩ = some (.slice sa l.length sc) := by have := HA5.out; simp [World.cell?, this]
  have c2 : w5.cell? ⟨w2.heap.size, 2, none⟩ = some (.int .i64 v1) := by have := HA5.out; simp [World.cell?, this]
  have c3 : w5.cell? ⟨w2.heap.size, 3, none⟩ = some (.int .i64 v2) := by have := HA5.out; simp [World.cell?, this]
  have c4 : w5.cell? ⟨w2.heap.size, 4, none⟩ = some (.int .i64 v3) := by have := HA5.out; simp [World.cell?, this]
  clear hg5 hd5 ht5 ho5 hP5 hS5 HP4 HS4 HG4 HA4
  unfold artA
  simp only
  go_wp2_with fail
  have hg6 : w5.grownBy (w5.alloc (.cells #[.slice ta' p.length tc', .slice sa' l.length sc', .int .i64 v1, .int .i64 v2, .int .i64 v3] 49)) none := grown_alloc (grown_refl _ _)
  generalize w5.alloc (.cells #[.slice ta' p.length tc', .slice sa' l.length sc', .int .i64 v1, .int .i64 v2, .int .i64 v3] 49) = w6 at hg6 ⊢
  have HG6 := hide (grown_trans HG5.out hg6)
  have HSA := hide (sameArtifact_k p l v1 v2 v3 _ _ _ _ w6 (HP5.out.pres (pres_grown hg6)) ((HS5.out.pres (pres_grown hg6)).mono hg6.size) (HP5'.out.pres (pres_grown hg6)) ((HS5'.out.pres (pres_grown hg6)).mono hg6.size) (valid_500 HVS.out) HPL.out.1 HPL.out.2)
  unfold artA at HSA
  simp only at HSA
  refine HSA.out.mono ?_
  rintro e w7 ⟨rfl, hg7⟩
  have hg57 := grown_trans hg6 hg7
  have HG7 := hide (grown_trans HG6.out hg7)
  have HS7 : Hid (IntsAt w7.heap.size w7 (.slice sa l.length sc) l) := (HS5.out.pres (pres_grown hg57)).mono hg57.size
  have c1 : w7.cell? ⟨w2.heap.size, 1, none⟩ = some (.slice sa l.length sc) := pres_grown hg57 _ _ c1
  have HC1 := hide c1
  clear hg6 hg7 hg57 c0 c2 c3 c4 HSA HP5 HP5' HS5 HS5' HA5 HG5 HG6 HPL
  go_wp2_with fail
  refine (print_m l _ w7 (HT.out.grown HG7.out) HS7.out).mono ?_
  rintro e w8 ⟨hg8, he8⟩
  have he8 : e = .returned (.tuple #[.string ⟨(printS l).toArray⟩, .int .i64 0]) := by
    rcases he8 with ⟨_, h⟩ | ⟨h, _⟩
    · exact h
    · rw [HVS.out] at h; cases h
  subst he8
  have HPP := hide (parse_print l HVS.out)
  have HG8 := hide (grown_trans HG7.out hg8)
  have HS8 : Hid (IntsAt w8.heap.size w8 (.slice sa l.length sc) l) := (HS7.out.pres (pres_grown hg8)).mono hg8.size
  have c1 : w8.cell? ⟨w2.heap.size, 1, none⟩ = some (.slice sa l.length sc) := pres_grown hg8 _ _ HC1.out
  have HPL := hide (print_lenK HVS.out)
  have HPA := hide (parse_m ⟨(printS l).toArray⟩ w8 (by have h := HPL.out; show (printS l).toArray.size ≤ _; simp; omega))
  rw [byt_nat8, HPP.out] at HPA
  simp only at HPA
  clear hg8 HS7 HG7 HC1
  generalize printS l = T at *
  go_wp2_with fail
  refine HPA.out.mono ?_
  clear HPA HPP HPL
  rintro e w9 ⟨x, y, z, rfl, ho9, hg9⟩
  have hy := owns_lenq ho9
  subst hy
  have HS9 : Hid (IntsAt w9.heap.size w9 (.slice sa l.length sc) l) := (HS8.out.pres (pres_grown hg9)).mono hg9.size
  have HS9' := hide (owns_ints ho9)
  have HG9 := hide (grown_trans HG8.out hg9)
  have c1 : w9.cell? ⟨w2.heap.size, 1, none⟩ = some (.slice sa l.length sc) := pres_grown hg9 _ _ c1
  clear hg9 ho9 HS8 HG8
  go_wp2_with fail
  refine (same_k l _ _ w9 HS9.out HS9'.out (by have := valid_500 HVS.out; omega)).mono ?_
  rintro e w10 ⟨rfl, hl10⟩
  have HG10 := hide (grown_like HG9.out hl10)
  clear hl10 HS9 HS9' HG9 c1
  go_wp2_with fail
  have hpk := pickN_range a (8 * (S.size : Int) - 31) (by omega)
  have HPK := hide (pick_m a (8 * (S.size : Int) - 31) (by omega) (by omega) ha.1 ha.2 w10)
  obtain ⟨k, hk⟩ : ∃ k : Nat, pickN a (8 * (S.size : Int) - 31) = (k : Int) := ⟨(pickN a (8 * (S.size : Int) - 31)).toNat, by omega⟩
  rw [hk] at HPK hpk
  have hk1 : (k : Int) ≤ 8 * S.size - 32 := by omega
  clear hk hpk
  refine HPK.out.mono ?_
  clear HPK
  rintro e w11 ⟨rfl, hw11⟩
  have hw11 := hw11.symm
  subst hw11
  have kc := Lib.run_convert_string_bytes (P := Tryz.prog) w10 9 61 5 S Tryz.underlying9 Tryz.underlying61 Tryz.underlying5
  generalize grownCap w10 S.size 0 5 = cap at kc
  go_wp2_with fail
  clear kc
  have hB := ByR.start w10 E H256.out
  rw [HBS.out] at hB
  generalize Lib.bytesWorld w10 5 S = w12 at hB ⊢
  have hpk := pickN_range b 4294967295 (by omega)
  have HPK := hide (pick_m b 4294967295 (by omega) (by omega) hbb.1 hbb.2 w12)
  obtain ⟨x0, hx0⟩ : ∃ x0 : Nat, pickN b 4294967295 = (x0 : Int) := ⟨(pickN b 4294967295).toNat, by omega⟩
  rw [hx0] at HPK hpk
  have hx1 : (x0 : Int) < 4294967295 := by omega
  clear hx0 hpk
  have HB : Hid (ByR w10 w12 w10.heap.size (xorB E (lowB k (1 + x0) 0))) := by unfold Hid; rw [lowB_zero, xorB_zero]; exact hB
  clear hB
  refine HPK.out.mono ?_
  clear HPK
  rintro e w13 ⟨rfl, hw13⟩
  have hw13 := hw13.symm
  subst hw13
  go_wp2_with fail
  go_loopw [29] (fun i w' => ∃ j : Nat, j ≤ 32 ∧ i = .int .i64 j ∧ Hid (ByR w10 w' w10.heap.size (xorB E (lowB k (1 + x0) j)))) (fun i _ => 32 - (intOf i).toNat)
  case atStart => exact ⟨0, Nat.zero_le _, rfl, HB⟩
  case round =>
    clear HB
    obtain ⟨j, hj, rfl, HB⟩ := hrel
    obtain ⟨w14, hw14⟩ : ∃ w14, w14 = wr := ⟨_, rfl⟩
    rw [← hw14] at HB ⊢
    clear hw14
    by_cases hlt : j < 32
    · have q0 : (0 : Int) ≤ (j : Int) := by omega
      have q1 : (j : Int) < 32 := by omega
      have hxx : (1 : Int) + (x0 : Int) = ((1 + x0 : Nat) : Int) := by omega
      have hY : (1 + x0) / 2 ^ j < 9223372036854775808 := Nat.lt_of_le_of_lt (Nat.div_le_self _ _) (by omega)
      have f2 := and1_i64 ((1 + x0) / 2 ^ j) hY
      have hYY : (((1 + x0) / 2 ^ j : Nat) : Int) = (1 + (x0 : Int)) / 2 ^ j := by push_cast; rfl
      rw [hYY] at f2
      have HTB := hide (Nat.testBit_eq_decide_div_mod_eq (x := 1 + x0) (i := j))
      have HST := hide (lowB_step k (1 + x0) j)
      clear hxx hY hYY
      generalize (1 + x0) / 2 ^ j = Y at f2 HTB
      by_cases hbit : Y % 2 = 1
      · rw [hbit] at f2 HTB
        simp only [decide_true] at HTB
        rw [HTB.out, if_pos rfl] at HST
        clear hbit HTB
        have hPE : (k + j) / 8 < E.length := by have := HSZ.out; omega
        have HFL := hide (xorB_flip E (lowB k (1 + x0) j) (k + j) hPE)
        rw [← HST.out] at HFL
        have hPl : (k + j) / 8 < (xorB E (lowB k (1 + x0) j)).length := by rw [xorB_len]; exact hPE
        have d0 := HB.out.cell hPl
        have z0 := HB.out.free hPl
        have hR8 : (k + j) % 8 < 8 := Nat.mod_lt _ (by decide)
        have hV : 2 ^ ((k + j) % 8) < 256 := by have : 2 ^ ((k + j) % 8) < 2 ^ 8 := Nat.pow_lt_pow_right (by decide) hR8; simpa using this
        have hb256 := xorB_lt E (lowB k (1 + x0) j) H256.out _ (List.getElem_mem hPl)
        have f4 := u8_xor_nat _ (2 ^ ((k + j) % 8)) hb256 hV
        have f5 : ((2 ^ ((k + j) % 8) : Nat) : Int) = (2 : Int) ^ ((k + j) % 8) % 256 := by
          have e : ((2 : Int) ^ ((k + j) % 8)) = ((2 ^ ((k + j) % 8) : Nat) : Int) := by push_cast; rfl
          rw [e]
          generalize 2 ^ ((k + j) % 8) = V at hV ⊢
          omega
        rw [f5] at f4
        have HSE := hide (HB.out.set hPl ((xorB E (lowB k (1 + x0) j))[(k + j) / 8] ^^^ 2 ^ ((k + j) % 8)))
        rw [← HFL.out, ← f4] at HSE
        have qd : ((k : Int) + (j : Int)) / 8 = (((k + j) / 8 : Nat) : Int) := by omega
        have qm : ((k : Int) + (j : Int)) % 8 = (((k + j) % 8 : Nat) : Int) := by omega
        have qs : (((k + j) / 8 : Nat) : Int) < S.size := by have := HSZ.out; omega
        clear hPE HFL HST f4 f5 hV hb256
        generalize (xorB E (lowB k (1 + x0) j))[(k + j) / 8] = B at *
        generalize (k + j) / 8 = P at *
        generalize (k + j) % 8 = R at *
        clear hPl
        have f2' : bits .and .i64 ((1 + (x0 : Int)) / 2 ^ j) 1 = 1 := f2
        clear f2
        go_upto_region 20 with fail
        clear f2'
        go_upto_region 18 with fail
        clear qd qm d0 z0
        go_wp2_with fail
        go_roundw
        case rel => exact ⟨j + 1, by omega, by go_num, HSE⟩
        case measure => simp [intOf]; omega
      · have hb0 : Y % 2 = 0 := by omega
        rw [hb0] at f2 HTB
        have HTB' : (1 + x0).testBit j = false := by rw [HTB.out]; decide
        rw [HTB', if_neg (by simp)] at HST
        clear hbit hb0 HTB HTB'
        rw [← HST.out] at HB
        clear HST
        have f2' : bits .and .i64 ((1 + (x0 : Int)) / 2 ^ j) 1 = 0 := f2
        clear f2
        go_upto_region 18 with fail
        clear f2'
        go_wp2_with fail
        go_roundw
        case rel => exact ⟨j + 1, by omega, by go_num, HB⟩
        case measure => simp [intOf]; omega
    · have q1 : (32 : Int) ≤ (j : Int) := by omega
      have hj32 : j = 32 := by omega
      subst hj32
      have hxl : 1 + x0 < 2 ^ 32 := by omega
      have HBA : Hid (ByR w10 w14 w10.heap.size (xorB E (2 ^ k * (1 + x0)))) := by rw [lowB_all k _ 32 hxl] at HB; exact HB
      have kd : (convert 61 9 (.slice (some ⟨w10.heap.size, 0, none⟩) S.size cap)).run Tryz.prog w14 = .ok (.string (bs (xorB E (2 ^ k * (1 + x0))))) w14 := by
        have h := HBA.out.str (cap := cap)
        rw [xorB_len, ← HSZ.out] at h; exact h
      have HN1 : Hid (decB (byt (bs (xorB E (2 ^ k * (1 + x0))))) = none) := by
        unfold Hid
        rw [byt_bs (xorB_lt E _ H256.out)]
        exact burst_none HDE.out H256.out k (1 + x0) (by omega) (by omega) (by have := HSZ.out; omega)
      have HZ1 : Hid ((bs (xorB E (2 ^ k * (1 + x0)))).size ≤ 20000) := by unfold Hid; rw [bs_size, xorB_len]; have := HSZ.out; omega
      have HG14 : Hid (w.grownBy w14 none) := grown_trans HG10.out HBA.out.base
      clear HB hxl HBA HG10
      generalize bs (xorB E (2 ^ k * (1 + x0))) = U at *
      go_wp2_with fail
      clear kd
      refine (decode_m U w14 (ShpAt.pres HSh.out (pres_grown HG14.out)) (by have := HZ1.out; omega)).mono ?_
      rintro e w15 ⟨hg15, hd15⟩
      have hd15 : e = .returned (.tuple #[artA (.slice none 0 0) (.slice none 0 0) (0, 0, 0), .int .i64 3]) := by
        rcases hd15 with ⟨_, h⟩ | ⟨_, _, _, h, _⟩
        · exact h
        · rw [HN1.out] at h; cases h
      subst hd15
      have HG15 := hide (grown_trans HG14.out hg15)
      clear hg15 HN1 HZ1 HG14
      unfold artA
      simp only
      go_wp2_with fail
      have hg16 : w15.grownBy (w15.alloc (.cells #[.slice none 0 0, .slice none 0 0, .int .i64 0, .int .i64 0, .int .i64 0] 49)) none := grown_alloc (grown_refl _ _)
      generalize w15.alloc (.cells #[.slice none 0 0, .slice none 0 0, .int .i64 0, .int .i64 0, .int .i64 0] 49) = w16 at hg16 ⊢
      have HG16 := hide (grown_trans HG15.out hg16)
      clear hg16 HG15
      have hpk := pickN_range a (S.size : Int) (by omega)
      have HPK := hide (pick_m a (S.size : Int) (by omega) (by omega) ha.1 ha.2 w16)
      obtain ⟨m, hm⟩ : ∃ m : Nat, pickN a (S.size : Int) = (m : Int) := ⟨(pickN a (S.size : Int)).toNat, by omega⟩
      rw [hm] at HPK hpk
      have hm1 : (m : Int) < S.size := by omega
      clear hm hpk
      refine HPK.out.mono ?_
      clear HPK
      rintro e w17 ⟨rfl, hw17⟩
      have hw17 := hw17.symm
      subst hw17
      have hm0 : (0 : Int) ≤ (m : Int) := by omega
      have hm2 : (m : Int) ≤ S.size := by omega
      have HN2 : Hid (decB (byt (S.extract 0 m)) = none) := by
        unfold Hid
        rw [byt_take S m (by omega), HBY.out]
        exact dec_cut HDE.out m (by have := HSZ.out; omega)
      have HZ2 : Hid ((S.extract 0 m).size ≤ 20000) := by unfold Hid; rw [ByteArray.size_extract]; omega
      go_wp2_with fail
      generalize S.extract 0 m = V at *
      refine (decode_m V w16 (ShpAt.pres HSh.out (pres_grown HG16.out)) (by have := HZ2.out; omega)).mono ?_
      rintro e w18 ⟨hg18, hd18⟩
      have hd18 : e = .returned (.tuple #[artA (.slice none 0 0) (.slice none 0 0) (0, 0, 0), .int .i64 3]) := by
        rcases hd18 with ⟨_, h⟩ | ⟨_, _, _, h, _⟩
        · exact h
        · rw [HN2.out] at h; cases h
      subst hd18
      have HG18 := hide (grown_trans HG16.out hg18)
      clear hg18 HN2 HZ2 HG16
      unfold artA
      simp only
      have hadd := add_str S more (by omega)
      go_wp2_with fail
      clear hadd
      have hg19 : w18.grownBy (w18.alloc (.cells #[.slice none 0 0, .slice none 0 0, .int .i64 0, .int .i64 0, .int .i64 0] 49)) none := grown_alloc (grown_refl _ _)
      generalize w18.alloc (.cells #[.slice none 0 0, .slice none 0 0, .int .i64 0, .int .i64 0, .int .i64 0] 49) = w19 at hg19 ⊢
      have HG19 := hide (grown_trans HG18.out hg19)
      clear hg19 HG18
      have HDC := hide (decode_m (S ++ more) w19 (ShpAt.pres HSh.out (pres_grown HG19.out)) (by rw [ByteArray.size_append]; omega))
      refine HDC.out.mono ?_
      clear HDC
      rintro e w20 ⟨hg20, hd20⟩
      have HG20 := hide (grown_trans HG19.out hg20)
      clear hg20 HG19
      by_cases hm0 : more.size = 0
      · have hml : more = ⟨#[]⟩ := by
          obtain ⟨d⟩ := more
          have : d.size = 0 := hm0
          rw [Array.size_eq_zero_iff.1 this]
        subst hml
        obtain ⟨a1, b1, c1, a2, b2, c2, t3, t4, t5, en, rfl⟩ : ∃ a1 b1 c1 a2 b2 c2 t3 t4 t5 en, e = .returned (.tuple #[.agg #[.slice a1 b1 c1, .slice a2 b2 c2, .int .i64 t3, .int .i64 t4, .int .i64 t5], .int .i64 en]) := by
          rcases hd20 with ⟨_, h⟩ | ⟨_, _, _, _, h, ht, ho⟩
          · exact ⟨_, _, _, _, _, _, _, _, _, _, h⟩
          · obtain ⟨x1, x2, x3, rfl⟩ := owns_form ht.choose_spec.1
            obtain ⟨y1, y2, y3, rfl⟩ := owns_form ho
            exact ⟨_, _, _, _, _, _, _, _, _, _, h⟩
        clear hd20
        by_cases hen : en = 3
        · subst hen
          go_wp2_with fail
          go_ret
          exact ⟨rfl, grown_alloc HG20.out⟩
        · have hen' : (en == 3) = false := by simpa using hen
          go_wp2_with fail
          go_ret
          exact ⟨rfl, grown_alloc HG20.out⟩
      · have hd20 : e = .returned (.tuple #[artA (.slice none 0 0) (.slice none 0 0) (0, 0, 0), .int .i64 3]) := by
          rcases hd20 with ⟨_, h⟩ | ⟨_, _, _, h, _⟩
          · exact h
          · rw [byt_app, HBY.out, dec_more HDE.out (by intro e; apply hm0; have := congrArg List.length e; simpa [byt] using this)] at h; cases h
        subst hd20
        unfold artA
        simp only
        go_wp2_with fail
        go_ret
        exact ⟨rfl, grown_alloc HG20.out⟩

end Go.Proofs.YtklenjmfalljgaaGreatDoor

/- From the rows' readings to the walks' facts. -/
namespace Go.Proofs.YtklenjmfalljgaaGreatDoor
open Go.ChangeShapes Go.WideShapes Go.ChangeAt Go.RowKit

theorem own : ownKnob Tryz.prog.godebug = none := by kernel_rfl
theorem laidOut : laidOutB Tryz.prog = true := by kernel_rfl
theorem gShp : Tryz.prog.globalNamed "rerun/machine.shapes" = some 0 := by kernel_rfl
theorem tShp : (Tryz.prog.globals[0]?).map (·.type) = some 233 := by kernel_rfl
theorem cInt : Tryz.prog.cellsOf 3 = 1 := by kernel_rfl
theorem cInts : Tryz.prog.cellsOf 25 = 1 := by kernel_rfl
theorem cShape : Tryz.prog.cellsOf 232 = 3 := by kernel_rfl
theorem cKind : Tryz.prog.cellsOf 230 = 1 := by kernel_rfl

theorem grown_below {w w' : World} (h : w.grownBy w' none) : Below w.heap.size w w' := ⟨h.os, h.tape, h.output, h.size, fun k hk => h.block k hk (by simp)⟩

theorem lt_cell {w : World} {a : Addr} {v : Value} (h : w.cell? a = some v) : a.block < w.heap.size := by
  unfold World.cell? at h
  split at h
  · rename_i hh; exact (Array.getElem?_eq_some_iff.1 hh).1
  · cases h

theorem addr_form {w : World} {a : Addr} {j : Nat} {v : Value} (h0 : a.spot = none) (h : w.cell? (a.add j) = some v) : w.cell? ⟨a.block, a.off + j, none⟩ = some v := by
  have e : a.add j = ⟨a.block, a.off + j, none⟩ := by
    obtain ⟨b, o, s⟩ := a
    simp only at h0
    subst h0
    unfold Addr.add; split <;> simp_all
  rw [e] at h; exact h

section
variable {H : Type} {enc : TypeId × Value → H} {W : World}

theorem intsAt_of {fuel : Nat} {cs : List Value} {x : DataW H × List MemPlace} (h : DataW.trod enc Tryz.prog W 0 (fun _ => true) true fuel 25 cs = some x) :
    ∃ v l, cs = [v] ∧ IntsAt W.heap.size W v l ∧ ∀ k (hk : k < l.length), isInt l[k] := by
  rcases open_ints Tryz.underlying25 Tryz.underlying3 cInt h with ⟨rfl, _⟩ | ⟨a, len, cap, zs, rfl, _, hl, _, hz, _, hc, hw⟩
  · exact ⟨_, [], rfl, ⟨none, 0, rfl, Nat.le_refl _, fun k hk => by simp at hk⟩, fun k hk => by simp at hk⟩
  · simp only [if_true] at hz
    have hlen : (zs.take len).length = len := by simp; omega
    refine ⟨_, zs.take len, rfl, ⟨some a, cap, by rw [hlen], by omega, fun k hk => ?_⟩, fun k hk => ?_⟩
    · have h0 : a.spot = none := by
        have := hc 0 (by omega)
        exact World.cell?_spot (w := W) (by simpa [Addr.add] using this)
      have hkz : k < zs.length := by omega
      have := hc k hkz
      refine ⟨a.block, a.off, ?_, lt_cell (a := ⟨a.block, a.off + k, none⟩) (addr_form h0 this), ?_⟩
      · obtain ⟨b, o, s⟩ := a
        simp only at h0; subst h0; rfl
      · rw [addr_form h0 this]
        simp [List.getD, hkz]
    · have hkz : k < zs.length := by omega
      have := hw zs[k] (List.getElem_mem hkz)
      simp only [List.getElem_take]
      simpa [Lit.wf, IntKind.min, IntKind.max, IntKind.signed, IntKind.bits, isInt] using this

theorem rawAt_of {fuel : Nat} {cs : List Value} {x : DataW H × List MemPlace} (h : DataW.trod enc Tryz.prog W 0 (fun _ => true) true fuel 38 cs = some x) :
    ∃ v l, cs = [v] ∧ RawAt W v l ∧ ∀ t (ht : t < l.length) k (hk : k < l[t].length), isInt l[t][k] := by
  rcases Deep.open_slice1 Tryz.underlying38 cInts h with ⟨rfl, _⟩ | ⟨a, len, cap, m, n, V, D, Pl, rfl, _, hl, _, hm, _, hx⟩
  · exact ⟨_, [], rfl, ⟨none, 0, rfl, fun k hk => by simp at hk⟩, fun k hk => by simp at hk⟩
  · simp only [if_true] at hm
    obtain ⟨f, hf⟩ := Deep.choose_lt (α := List Int) (n := len) (p := fun i l => IntsAt W.heap.size W (V i) l ∧ ∀ k (hk : k < l.length), isInt l[k]) (fun i hi => by
      obtain ⟨v, l, e, h1, h2⟩ := intsAt_of (hx i (by omega)).2
      simp only [List.cons.injEq, and_true] at e
      rw [← e] at h1
      exact ⟨l, h1, h2⟩)
    have hlen : ((List.range len).map f).length = len := by simp
    refine ⟨_, (List.range len).map f, rfl, ⟨some a, cap, by rw [hlen], fun t ht => ?_⟩, fun t ht => ?_⟩
    · have ht' : t < len := by omega
      have h0 : a.spot = none := by
        have := (hx 0 (by omega)).1
        exact World.cell?_spot (w := W) (by simpa [Addr.add] using this)
      refine ⟨a.block, a.off, ?_, V t, addr_form h0 (hx t (by omega)).1, ?_⟩
      · obtain ⟨b, o, s⟩ := a
        simp only at h0; subst h0; rfl
      · simpa using (hf t ht').1
    · have ht' : t < len := by omega
      simpa using (hf t ht').2

set_option maxRecDepth 100000 in
theorem ints_arg {v : Value} {d : DataW H} {ps : List MemPlace} {base : Nat} (hval : Value.okWide Tryz.prog W .any base 25 v) (h : DataW.Trod enc Tryz.prog W 0 (fun _ => true) true 25 v d ps) :
    ∃ l, IntsAt W.heap.size W v l ∧ ∀ k (hk : k < l.length), isInt l[k] := by
  obtain ⟨a, len, cap, rfl⟩ := okWide_slice Tryz.underlying25 hval
  obtain ⟨fuel, hf⟩ := h
  obtain ⟨v', l, e, h1, h2⟩ := intsAt_of hf
  simp [Value.cells] at e
  rw [← e] at h1
  exact ⟨l, h1, h2⟩
set_option maxRecDepth 100000 in
theorem raw_arg {v : Value} {d : DataW H} {ps : List MemPlace} {base : Nat} (hval : Value.okWide Tryz.prog W .any base 38 v) (h : DataW.Trod enc Tryz.prog W 0 (fun _ => true) true 38 v d ps) :
    ∃ l, RawAt W v l ∧ ∀ t (ht : t < l.length) k (hk : k < l[t].length), isInt l[t][k] := by
  obtain ⟨a, len, cap, rfl⟩ := okWide_slice Tryz.underlying38 hval
  obtain ⟨fuel, hf⟩ := h
  obtain ⟨v', l, e, h1, h2⟩ := rawAt_of hf
  simp [Value.cells] at e
  rw [← e] at h1
  exact ⟨l, h1, h2⟩
set_option maxRecDepth 100000 in
theorem int_arg {v : Value} {d : DataW H} {ps : List MemPlace} {base : Nat} (hval : Value.okWide Tryz.prog W .any base 3 v) (h : DataW.Trod enc Tryz.prog W 0 (fun _ => true) true 3 v d ps) :
    ∃ n, v = .int .i64 n ∧ isInt n := by
  obtain ⟨n, rfl, _, _, hw⟩ := open_int Tryz.underlying3 hval h
  exact ⟨n, rfl, by simpa [Lit.wf, IntKind.min, IntKind.max, IntKind.signed, IntKind.bits, isInt] using hw⟩
end

theorem shp_tab (o j : Nat) (ho : o < 12) (hj : j < 3) (l : List (DataW Unit)) (h : (DataW.agg l : DataW Unit) = (match (Rows.laid_rerun_machine_shapes : DataW Unit) with | .agg l => l[o]?.getD .nil | _ => .nil)) : l[j]? = some (.lit (.int .i64 (shp o j))) := by
  have ho' : o = 0 ∨ o = 1 ∨ o = 2 ∨ o = 3 ∨ o = 4 ∨ o = 5 ∨ o = 6 ∨ o = 7 ∨ o = 8 ∨ o = 9 ∨ o = 10 ∨ o = 11 := by omega
  have hj' : j = 0 ∨ j = 1 ∨ j = 2 := by omega
  rcases ho' with rfl | rfl | rfl | rfl | rfl | rfl | rfl | rfl | rfl | rfl | rfl | rfl <;> (simp [Rows.laid_rerun_machine_shapes] at h; subst h; rcases hj' with rfl | rfl | rfl <;> rfl)

theorem shp_one {W : World} {g0 : Nat} {t0 : TypeId} {cs0 : Array Value} {f0 : Nat} {p0 : List MemPlace} (hg0 : Tryz.prog.globalNamed "rerun/machine.shapes" = some g0) (ht0 : (Tryz.prog.globals[g0]?).map (·.type) = some t0) (hv0 : W.var? Tryz.prog "rerun/machine.shapes" = some cs0)
    (hd0 : DataW.trod (fun _ => ()) Tryz.prog W 0 (fun _ => true) false f0 t0 cs0.toList = some (Rows.laid_rerun_machine_shapes, p0)) : ShpAt W := by
  obtain rfl := Option.some.inj (gShp.symm.trans hg0)
  obtain rfl := Option.some.inj (tShp.symm.trans ht0)
  obtain ⟨xs, m1, rfl, hx1, hlen, hn12, hel⟩ := DataW.trod_array Tryz.underlying233 hd0
  simp only [Prod.mk.injEq] at hx1
  intro o j ho hj
  have hox : o < xs.length := by omega
  have h1 := hel o ho
  rw [cShape, List.getElem?_eq_getElem hox] at h1
  obtain ⟨ys, m2, rfl, hy1, hylen, hn3, hfe⟩ := DataW.trod_struct Tryz.underlying232 h1
  have hdo : (DataW.agg (ys.map (·.1)) : DataW Unit) = xs[o].1 := by rw [hy1]
  have hxo : (xs.map (·.1))[o]? = some xs[o].1 := by simp [hox]
  have hdat : (DataW.agg (ys.map (·.1)) : DataW Unit) = (match (Rows.laid_rerun_machine_shapes : DataW Unit) with | .agg l => l[o]?.getD .nil | _ => .nil) := by
    rw [hdo, hx1.1]; simp [hox]
  have hyj := shp_tab o j ho hj _ hdat
  have hjl : j < ys.length := by rw [hn3]; simpa using hj
  have hf : DataW.trod (fun _ => ()) Tryz.prog W 0 (fun _ => true) false m2 230 ((((cs0.toList.drop (o * 3)).take 3).drop j).take 1) = some ys[j] := by
    have hj' : j = 0 ∨ j = 1 ∨ j = 2 := by omega
    rcases hj' with rfl | rfl | rfl
    · have := hfe 0 _ rfl; rw [List.getElem?_eq_getElem hjl] at this; simpa [cKind] using this
    · have := hfe 1 _ rfl; rw [List.getElem?_eq_getElem hjl] at this; simpa [cKind] using this
    · have := hfe 2 _ rfl; rw [List.getElem?_eq_getElem hjl] at this; simpa [cKind] using this
  obtain ⟨k, e1, e2, _⟩ := DataW.trod_int Tryz.underlying230 hf
  have hk : k = shp o j := by
    rw [List.getElem?_map, List.getElem?_eq_getElem hjl, e2] at hyj
    simpa using hyj
  have hcell := World.var?_cell hg0 hv0 (o * 3 + j)
  have hc : cs0[o * 3 + j]? = some (.int .i64 k) := by
    have h0 := congrArg (fun l => l[0]?) e1
    simp [hj] at h0
    exact h0
  rw [hk] at hc
  rw [hcell]; exact hc

theorem shp_of_laid {W : World} (h : laidMetH Tryz.prog [("rerun/machine.shapes", Rows.laid_rerun_machine_shapes)] W) : ShpAt W := by
  rw [MakeChecks.laidMetH_plain _ _ _ (by kernel_rfl)] at h
  obtain ⟨ps, ⟨g0, t0, cs0, f0, p0, q0, hg0, ht0, hv0, hd0, _, _⟩, _, _⟩ := h
  exact shp_one hg0 ht0 hv0 hd0

end Go.Proofs.YtklenjmfalljgaaGreatDoor

/- For every artifact made of any numbers: what Encode writes Decode reads again, and refuses with bits turned within 32, cut, or with more behind; a schedule's text is read again. The row of Written, and its card. -/
namespace Go.Proofs.YtklenjmfalljgaaGreatDoor
open Go.ChangeShapes Go.WideShapes Go.ChangeAt Go.RowKit

theorem gTab : Tryz.prog.globalNamed "internal/strconv.uint64pow10" = some 2 := by kernel_rfl
theorem tTab : (Tryz.prog.globals[2]?).map (·.type) = some 255 := by kernel_rfl
theorem cTab : Tryz.prog.cellsOf 255 = 20 := by kernel_rfl
theorem cU64 : Tryz.prog.cellsOf 210 = 1 := by kernel_rfl

theorem both_of_laid {W : World} (h : laidMetH Tryz.prog Rows.writtenRow.laid W) : Tab W ∧ ShpAt W := by
  have h' : laidMet Tryz.prog Rows.writtenRow.laid W := h
  obtain ⟨ps, ⟨_, _, _, _, _, _, _, _, _, _, ⟨_, _, _, _, _, _, _, _, _, _, ⟨g, t, cs, fuel, p, q, hg, ht, hv, hd, ⟨g0, t0, cs0, f0, p0, q0, hg0, ht0, hv0, hd0, _⟩, _⟩, _⟩, _⟩, _, _⟩ := h'
  refine ⟨?_, shp_one hg0 ht0 hv0 hd0⟩
  obtain rfl := Option.some.inj (gTab.symm.trans hg)
  obtain rfl := Option.some.inj (tTab.symm.trans ht)
  have hd' : DataW.trod (fun _ => ()) Tryz.prog W 0 (fun _ => true) false fuel 255 cs.toList = some (Lib.tabData .u64 Lib.pow10Tab, p) := hd
  have hc := Lib.cells_of_tab Tryz.underlying255 Tryz.underlying210 cU64 cTab hd'
  unfold Tab Lib.TabIs
  rw [hv, ← hc]

set_option maxRecDepth 100000 in
/-- What the walk gives, for every argument and every world that holds the tables. -/
theorem written_contract (H : Type) (enc : TypeId × Value → H) (W : World) (base : Nat) (args : Array Value) (ds gs : List (DataW H)) (before : List MemPlace)
    (hval : ∀ (j : Nat) t v, Tryz.f4.params[j]? = some t → args[j]? = some v → Value.okWide Tryz.prog W .any base t v)
    (hW : DataW.Whole enc Tryz.prog Tryz.f4.params.toList Rows.writtenSpec.vars false W args.toList ds gs before)
    (hwt : (DataW.weightsEach Tryz.prog (Tryz.f4.params.toList ++ (OpenSpec.ofChange Rows.writtenSpec).bare.plain.varTypes Tryz.prog) (ds ++ gs)).all (· ≤ reachBytes) = true) (hL : laidMetH Tryz.prog Rows.writtenRow.laid W) :
    Calls Tryz.prog 4 args W fun e W' => ∃ v, e = .returned v ∧ Rows.writtenSpec.post enc Tryz.prog Tryz.f4 false true false false W args v W' := by
  have hW' := hW
  obtain ⟨p, q, hA0, hV, rfl, hfz, hnd⟩ := hW
  have hA : DataW.TrodAll enc Tryz.prog W 0 (fun _ => true) true Tryz.f4.params.toList args.toList ds p := hA0
  rw [Tryz.params4] at hA hval hwt
  obtain ⟨v0, vs0, d0, ds0, p0, q0, e0, rfl, rfl, h0, hA⟩ := trodAll_cons hA
  obtain ⟨v1, vs1, d1, ds1, p1, q1, rfl, rfl, rfl, h1, hA⟩ := trodAll_cons hA
  obtain ⟨v2, vs2, d2, ds2, p2, q2, rfl, rfl, rfl, h2, hA⟩ := trodAll_cons hA
  obtain ⟨v3, vs3, d3, ds3, p3, q3, rfl, rfl, rfl, h3, hA⟩ := trodAll_cons hA
  obtain ⟨v4, vs4, d4, ds4, p4, q4, rfl, rfl, rfl, h4, hA⟩ := trodAll_cons hA
  obtain ⟨v5, vs5, d5, ds5, p5, q5, rfl, rfl, rfl, h5, hA⟩ := trodAll_cons hA
  obtain ⟨rfl, rfl, rfl⟩ : vs5 = [] ∧ ds5 = [] ∧ q5 = [] := by
    cases vs5 <;> cases ds5 <;> simp [DataW.TrodAll] at hA
    exact ⟨rfl, rfl, hA⟩
  obtain rfl : args = #[v0, v1, v2, v3, v4, v5] := by
    obtain ⟨l⟩ := args
    simp at e0
    rw [e0]
  obtain ⟨rfl, rfl⟩ := trodVars_none hV
  clear hA0 hA e0
  obtain ⟨raw, hr, hbr⟩ := raw_arg (hval 0 38 v0 rfl rfl) h0
  obtain ⟨ch, hc, hbc⟩ := ints_arg (hval 1 25 v1 rfl rfl) h1
  obtain ⟨n2, rfl, hi2⟩ := int_arg (hval 2 3 v2 rfl rfl) h2
  obtain ⟨n3, rfl, hi3⟩ := int_arg (hval 3 3 v3 rfl rfl) h3
  obtain ⟨n4, rfl, hi4⟩ := int_arg (hval 4 3 v4 rfl rfl) h4
  obtain ⟨s, rfl, hd5, _, _⟩ := Go.ChangeMaps.open_string Tryz.underlying9 (hval 5 9 v5 rfl rfl) h5
  have hsz : s.size ≤ 140737488355328 := by
    subst hd5
    rw [List.all_eq_true] at hwt
    have h8 : s.data.toList.length ≤ reachBytes := of_decide_eq_true (hwt s.data.toList.length (by simp [DataW.weightsEach, DataW.weights]))
    have h9 : reachBytes ≤ 140737488355328 := by decide
    have e : s.data.toList.length = s.size := by simp
    omega
  obtain ⟨hT, hS⟩ := both_of_laid hL
  refine (written_m raw v0 ch v1 n2 n3 n4 s W hS hT hr hbr hc hbc hi2 hi3 hi4 hsz).mono fun e W' ⟨he, hg⟩ => ?_
  subst he
  have hb := grown_below hg
  have hlt : ∀ x ∈ p0 ++ (p1 ++ (p2 ++ (p3 ++ (p4 ++ (p5 ++ []))))), x.block < W.heap.size := fun x hx => by simpa using hW'.lt x (by simpa using hx)
  refine ⟨_, rfl, _, _, _, [] ++ [], p0 ++ (p1 ++ (p2 ++ (p3 ++ (p4 ++ (p5 ++ []))))), [], hW', trodAll_cons_mk (shut_bool Tryz.underlying4 _) trodAll_mk0, ?_, rfl, hb.frame _, fun h => by cases h⟩
  rw [Tryz.params4]
  exact trodAll_cons_mk (Below.trod laidOut (by kernel_rfl) (of_decide_eq_true (by kernel_rfl)) h0 hb (fun x hx => hlt x (by simp [hx])))
    (trodAll_cons_mk (Below.trod laidOut (by kernel_rfl) (of_decide_eq_true (by kernel_rfl)) h1 hb (fun x hx => hlt x (by simp [hx])))
    (trodAll_cons_mk (Below.trod laidOut (by kernel_rfl) (of_decide_eq_true (by kernel_rfl)) h2 hb (fun x hx => hlt x (by simp [hx])))
    (trodAll_cons_mk (Below.trod laidOut (by kernel_rfl) (of_decide_eq_true (by kernel_rfl)) h3 hb (fun x hx => hlt x (by simp [hx])))
    (trodAll_cons_mk (Below.trod laidOut (by kernel_rfl) (of_decide_eq_true (by kernel_rfl)) h4 hb (fun x hx => hlt x (by simp [hx])))
    (trodAll_cons_mk (Below.trod laidOut (by kernel_rfl) (of_decide_eq_true (by kernel_rfl)) h5 hb (fun x hx => hlt x (by simp [hx])))
      trodAll_mk0)))))

theorem written_laid (os : Os) : laidMetH Tryz.prog Rows.writtenRow.laid ((World.doorLaid Tryz.prog 400 os).forCall (fun _ _ => 0) ⟨#[], #[.slice none 0 0, .slice none 0 0, .int .i64 0, .int .i64 0, .int .i64 0, .string ⟨#[]⟩], []⟩).memory :=
  laidMetH_of_parts3 (fuel := 8) (laidMet_of_run' 8 (by kernel_rfl) (by kernel_rfl)) (by kernel_rfl) (by kernel_rfl)
theorem written_reads (os : Os) {H : Type} (enc : TypeId × Value → H) : ∃ places, DataW.whole enc Tryz.prog ((World.doorLaid Tryz.prog 400 os).forCall (fun _ _ => 0) ⟨#[], #[.slice none 0 0, .slice none 0 0, .int .i64 0, .int .i64 0, .int .i64 0, .string ⟨#[]⟩], []⟩).memory Tryz.f4.params.toList Rows.writtenSpec.vars false #[Value.slice none 0 0, .slice none 0 0, .int .i64 0, .int .i64 0, .int .i64 0, .string ⟨#[]⟩].toList 8 = some ([.nil, .nil, .lit (.int .i64 0), .lit (.int .i64 0), .lit (.int .i64 0), .lit (.string [])], [], places) :=
  ⟨[], by kernel_rfl⟩

set_option maxRecDepth 100000 in
theorem written_lifted (os : Os) (started : os.Started) (H : Type) (enc : TypeId × Value → H) (F : Stop.Interp) :
    ReturnsInHanded {} Tryz.checked os 4 .any ((OpenSpec.ofChange Rows.writtenSpec).preRow enc Tryz.prog Tryz.f4 Rows.writtenRow.domain false Rows.writtenRow.laid) (((OpenSpec.ofChange Rows.writtenSpec).at F).post enc Tryz.prog Tryz.f4 false true false false) := by
  obtain ⟨places, hx⟩ := written_reads os enc
  refine returnsInHanded_of_row (C := Tryz.checked) (s := OpenSpec.ofChange Rows.writtenSpec) own started (by kernel_rfl) Tryz.func4
    (witness_row_atRef (enc := enc) (C := Tryz.checked) false (World.doorLaid Tryz.prog 400 os) #[.slice none 0 0, .slice none 0 0, .int .i64 0, .int .i64 0, .int .i64 0, .string ⟨#[]⟩] rfl (by kernel_rfl) (by kernel_rfl) (by kernel_rfl)
      (OpenSpec.preRow_of_cond 8 hx (by kernel_rfl) (fun k hk => by cases hk) (by kernel_rfl) (written_laid os))) ?_
  intro W base args ds gs before hval hW _ _ hwt hL _ _
  exact written_contract H enc W base args ds gs before hval hW hwt hL

theorem written_said : Rows.WrittenSaid :=
  OpenClaim.holds_of_cond 4 Tryz.f4 rfl rfl rfl rfl rfl rfl rfl ⟨rfl, rfl, rfl, rfl, rfl⟩ rfl rfl rfl rfl rfl (by kernel_rfl) Tryz.func4 (by kernel_rfl)
    (of_decide_eq_true (by kernel_rfl)) (by unfold Func.isWrapper; first | (rw [if_pos (by decide +kernel)]; kernel_rfl) | (rw [if_neg (by decide +kernel)]; exact ⟨rfl, rfl⟩))
    (fun os started H enc _ F => by rw [OpenClaim.pre_eq_preRow]; exact written_lifted os started H enc F)

theorem written_plain (f : FuncId) (fn : Func) (hf : Tryz.pinned.checked.prog.funcNamed "rerun/rerunkeep.Written" = some f) (hfn : Tryz.pinned.checked.prog.funcs[f]? = some fn) :
    true = Tryz.pinned.checked.prog.looks [] ∧ ∀ (j : Nat) t, fn.params[j]? = some t → Tryz.pinned.checked.prog.wantsStandIn t = false := by
  obtain rfl : f = 4 := Option.some.inj ((show Tryz.prog.funcNamed "rerun/rerunkeep.Written" = some 4 by kernel_rfl).symm.trans hf) |>.symm
  obtain rfl : fn = Tryz.f4 := (Option.some.inj (Tryz.func4.symm.trans hfn)).symm
  refine ⟨by kernel_rfl, fun j t ht => ?_⟩
  rw [Tryz.params4] at ht
  have hm : t ∈ [38, 25, 3, 3, 3, 9] := by simpa using Array.mem_of_getElem? ht
  have hall : ([38, 25, 3, 3, 3, 9].all fun u => !Tryz.prog.wantsStandIn u) = true := by kernel_rfl
  exact (show Tryz.prog.wantsStandIn t = false by simpa using List.all_eq_true.1 hall t hm)

theorem written_card : Rows.WrittenCardSaid :=
  Claim7.holds_tied_plain_at .later [] _ _ _ _ written_said (fun _ h => by cases h) (by kernel_rfl) (fun _ h => by cases h) written_row_tie rfl ⟨rfl, rfl⟩ (by kernel_rfl) rfl written_plain (by kernel_rfl)
#print axioms written_card

end Go.Proofs.YtklenjmfalljgaaGreatDoor
