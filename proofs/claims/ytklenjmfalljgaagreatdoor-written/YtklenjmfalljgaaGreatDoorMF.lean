/- The texts Rdg Wrt2 Rdh Rdi Rdj Rdk Rdl Rdm. -/
import Derived.Test.YtklenjmfalljgaaGreatDoorME
import Derived.Deep.RegionHeld3

/- The walk of the reader's schedule. -/
namespace Go.Proofs.YtklenjmfalljgaaGreatDoor
open Go.RowKit
attribute [local go_sem] Go.World.cell?_alloc_some

theorem rdRuns_run (m : Nat) (sch : List Int) (l : List Nat) : rdRuns (m + 1) sch l = match rdRun (500 - sch.length) l with
    | none => none
    | some ((t, c), r) => if sch.getLast? ≠ some t then rdRuns m (sch ++ List.replicate c.toNat t) r else none := by
  rw [rdRuns, rdRun]
  cases rdWhole l with
  | none => rfl
  | some x =>
    obtain ⟨t, r⟩ := x
    simp only
    cases rdMost (500 - sch.length) r with
    | none => rfl
    | some y =>
      obtain ⟨c, r'⟩ := y
      simp only
      by_cases hc : 0 < c
      · simp [hc]
      · simp [hc]
theorem rdRun_range {room : Int} {l r : List Nat} {t c : Int} (h : rdRun room l = some ((t, c), r)) : 0 ≤ t ∧ t ≤ 9223372036854775807 ∧ 0 < c ∧ c ≤ room := by
  unfold rdRun at h
  split at h
  · cases h
  · rename_i t' r' hw
    split at h
    · cases h
    · rename_i c' r'' hm
      split at h
      · simp only [Option.some.injEq, Prod.mk.injEq] at h
        obtain ⟨⟨rfl, rfl⟩, rfl⟩ := h
        have h1 := rdWhole_nonneg hw
        have h2 := rdMost_range hm
        have h3 : t' ≤ 9223372036854775807 := by
          unfold rdWhole at hw
          split at hw
          · split at hw
            · simp only [Option.some.injEq, Prod.mk.injEq] at hw; omega
            · cases hw
          · cases hw
        exact ⟨h1, h3, by assumption, h2.2⟩
      · cases h

/-- A goal that Lean's elaborator shall not lay open (whnf of a walk whose operations are guarded runs away). -/
structure Box (p : Prop) : Prop where
  out : p
section
variable {P : Program} {ops : Array Oper} {w : World} {Q : Act → Prop} {a : Act} {o : Oper} {rest : List Oper}
theorem box_skip (hw : Region.wanted o (yielded ops a.tmps) = false) (h : Box (wpStill P ops w Q rest (a.put o.dst undef))) : Box (wpStill P ops w Q (o :: rest) a) := by
  refine ⟨?_⟩
  unfold wpStill; rw [if_neg (by rw [hw]; simp)]; exact h.out
theorem box_want (hw : Region.wanted o (yielded ops a.tmps) = true) (h : ∀ K : Act → Prop, (∀ a, Box (wpStill P ops w Q rest a) → K a) → o.still P a w K) : Box (wpStill P ops w Q (o :: rest) a) := by
  refine ⟨?_⟩
  unfold wpStill; rw [if_pos hw]; exact h _ (fun _ h => h.out)
theorem box_nil (h : Q a) : Box (wpStill P ops w Q [] a) := ⟨h⟩
theorem box_region {id : Nat} {Q : Exit → Act → World → Prop} {a : Act} {w : World} {l : List Oper} (n : Nat) (hm : P.follows .mixedOrders = true) (hB : Region.lexTailB .any l.toArray n = true)
    (h : Box (wpStill P l.toArray w.drew (fun a' => wpList P l.toArray Q (l.drop n) a' w.drew) (l.take n) a)) : (Code.region id l.toArray true).wp P Q a w := wp_region_still_tail n hm hB h.out
end

set_option maxRecDepth 100000 in
set_option maxHeartbeats 1000000 in
theorem schedule_r (W w : World) (b k : Nat) (s : ByteArray) (h : RdS W w b s k) (hs : s.size ≤ 9223372036854775806) :
    Calls Tryz.prog 97 #[pt b] w (Rd W b s (fun w' l v => l.length ≤ 500 ∧ w'.ownsRow w.heap.size 3 1 v l.length (ints l)) (rdSched ((byt s).drop k))) := by
  have HM := hide (most_r w w b k s h.self hs 500)
  have HH := hide h
  have hbw := h.lt
  have hpt : pt b = .pointer (some ⟨b, 0, none⟩) := rfl
  rw [hpt] at *
  clear h
  go_enter Tryz.func97, Tryz.ntmps97
  go_wp2_with fail
  refine HM.out.mono ?_
  rintro e w1 (⟨hr, rfl, hg⟩ | ⟨n, r1, v, k1, hr, rfl, rfl, hS, rfl⟩)
  · have HR : Hid (rdSched ((byt s).drop k) = none) := by unfold Hid rdSched; rw [hr]
    have HG := hide (grown_trans HH.out.base hg)
    clear hr hg
    go_wp2_with fail
    exact ⟨rfl, Or.inl ⟨HR.out, rfl, HG.out⟩⟩
  obtain ⟨h0, h500⟩ := rdMost_range hr
  obtain ⟨m, rfl⟩ := Int.eq_ofNat_of_zero_le h0
  have HR : Hid (rdSched ((byt s).drop k) = rdRuns m [] ((byt s).drop k1)) := by unfold Hid rdSched; rw [hr]; rfl
  have HS := hide hS
  clear hr hS h0 HM
  go_wp2_with fail
  go_loopw [3, 8] (fun lv i w' => ∃ (j : Nat) (l : List Int) (k' : Nat), j ≤ m ∧ i = .int .i64 j ∧ l.length ≤ 500 ∧ Hid (j = 0 ↔ l = []) ∧ Hid (RdS w w' b s k') ∧ Hid (w'.ownsRow w.heap.size 3 1 lv l.length (ints l)) ∧ Hid (rdRuns (m - j) l ((byt s).drop k') = rdSched ((byt s).drop k))) (fun _ i _ => m - (intOf i).toNat)
  case atStart => exact ⟨0, [], k1, Nat.zero_le _, rfl, Nat.zero_le _, hide ⟨fun _ => rfl, fun _ => rfl⟩, HS, hide ⟨rfl, Or.inl ⟨rfl, rfl⟩⟩, hide (by rw [HR.out]; rfl)⟩
  case round =>
    obtain ⟨j, l, k', hj, rfl, hl5, HC, HJ, HO, HE⟩ := hrel
    obtain ⟨w5, hw5'⟩ : ∃ w5, w5 = wr := ⟨_, rfl⟩
    rw [← hw5'] at HJ HO ⊢
    clear hw5'
    have hw5 : w.heap.size ≤ w5.heap.size := HJ.out.base.size
    obtain ⟨s1, s2, s3, rfl⟩ := owns_form HO.out
    have hs2 := owns_lenq HO.out
    subst hs2
    by_cases hjm : j < m
    · have q1 : (j : Int) < m := by omega
      have em : m - j = (m - (j + 1)) + 1 := by omega
      have HT := hide (run_r w5 w5 b k' s (500 - (l.length : Int)) HJ.out.self hs)
      go_wp2_with fail
      refine HT.out.mono ?_
      rintro e w6 (⟨hr, rfl, hg⟩ | ⟨x, r1, v, k2, hr, rfl, rfl, hS, rfl⟩)
      · have HR2 : Hid (rdSched ((byt s).drop k) = none) := by unfold Hid; rw [← HE.out, em, rdRuns_run, hr]
        have HG := hide (grown_trans HH.out.base (grown_trans HJ.out.base hg))
        clear hr hg em
        go_wp2_with fail
        exact ⟨rfl, Or.inl ⟨HR2.out, rfl, HG.out⟩⟩
      obtain ⟨t, c⟩ := x
      obtain ⟨t0, t1, c0, c1⟩ := rdRun_range hr
      have HE2 : Hid (rdSched ((byt s).drop k) = if l.getLast? ≠ some t then rdRuns (m - (j + 1)) (l ++ List.replicate c.toNat t) ((byt s).drop k2) else none) := by unfold Hid; rw [← HE.out, em, rdRuns_run, hr]
      have HS6 := hide (HJ.out.trans hS)
      have HO6 := hide (owns_rd HO.out hS.base hbw)
      have hw6 : w.heap.size ≤ w6.heap.size := Nat.le_trans hw5 hS.base.size
      clear hr hS em HT HE HJ HO
      obtain ⟨c', rfl⟩ := Int.eq_ofNat_of_zero_le (show 0 ≤ c by omega)
      have hc501 : c' ≤ 501 := by omega
      unfold runA
      go_wp2_with fail
      have HSA : Hid (RdS w (w6.alloc (.cells #[.int .i64 t, .int .i64 (c' : Int)] 148)) b s k2) := HS6.out.grown (grown_alloc (grown_refl _ _))
      have HOA : Hid ((w6.alloc (.cells #[.int .i64 t, .int .i64 (c' : Int)] 148)).ownsRow w.heap.size 3 1 (.slice s1 l.length s3) l.length (ints l)) := owns_alloc HO6.out
      have a0 : (w6.alloc (.cells #[.int .i64 t, .int .i64 (c' : Int)] 148)).cell? ⟨w6.heap.size, 0, none⟩ = some (.int .i64 t) := by
        have := heap_alloc_new w6 (.cells #[.int .i64 t, .int .i64 (c' : Int)] 148)
        simp only [World.cell?, this]; rfl
      have a1 : (w6.alloc (.cells #[.int .i64 t, .int .i64 (c' : Int)] 148)).cell? ⟨w6.heap.size, 1, none⟩ = some (.int .i64 (c' : Int)) := by
        have := heap_alloc_new w6 (.cells #[.int .i64 t, .int .i64 (c' : Int)] 148)
        simp only [World.cell?, this]; rfl
      generalize w6.alloc (.cells #[.int .i64 t, .int .i64 (c' : Int)] 148) = wA at HSA HOA a0 a1 ⊢
      have HAP := hide (append_m w wA.drew (some b) (.slice s1 l.length s3) l t c' (owns_grown HOA.out (grown_drew (grown_refl _ none)) (fun _ e => by cases e)) (grown_drew HSA.out.base) hc501 (by omega))
      have HNEXT : ∀ (w8 : World) (sv : Value), w8.ownsRow w.heap.size 3 1 sv (l ++ List.replicate c' t).length (ints (l ++ List.replicate c' t)) → w.grownBy w8 (some b) → wA.drew.grownBy w8 (Value.slice s1 l.length s3).ownBlock → RdS w w8 b s k2 := by
        intro w8 sv h1 h2 h3
        refine ⟨?_, h2, HSA.out.le⟩
        have hob := owns_block HOA.out
        rw [h3.block b (by have := HSA.out.lt; exact this) (fun e => by have := hob b e.symm; omega)]
        exact HSA.out.blk
      have HNX := hide HNEXT
      have hlen : (l ++ List.replicate c' t).length ≤ 500 := by simp; omega
      have HLEN := hide hlen
      have HNIL : Hid (j + 1 = 0 ↔ l ++ List.replicate c' t = []) := by
        unfold Hid
        refine ⟨fun e => by omega, fun e => ?_⟩
        have := congrArg List.length e
        simp at this
        omega
      clear HNEXT hlen HS6 HO6
      by_cases hj0 : j = 0
      · have qz : ((j : Int) == 0) = true := by simp; omega
        have hl0 : l = [] := HC.out.1 hj0
        have HE3 : Hid (rdRuns (m - (j + 1)) (l ++ List.replicate c' t) ((byt s).drop k2) = rdSched ((byt s).drop k)) := by
          unfold Hid; rw [HE2.out, if_pos (by rw [hl0]; simp)]; rfl
        clear hl0 hj0 HE2 HC
        refine box_region 13 (by kernel_rfl) (by kernel_rfl) ?_
        simp only [List.take_succ_cons, List.take_zero, List.drop_succ_cons, List.drop_zero]
        iterate 3 (refine box_want (by rfl) (fun K hK => ?_); go_simp; refine hK _ ?_; clear hK K)
        iterate 9 (refine box_skip (by rfl) ?_; simp only [Act.put, List.setIfInBounds_toArray, List.set_cons_succ, List.set_cons_zero])
        refine box_want (by rfl) (fun K hK => ?_); go_simp; refine hK _ ?_; clear hK K
        refine box_nil ?_
        go_wp2_with (first | (go_at_call 100; refine (must_ok _).mono ?_; rintro e w7 ⟨⟨v7, rfl⟩, rfl⟩) | (go_at_call 73; refine HAP.out.mono ?_; rintro e w8 ⟨sv, rfl, hz1, hz2, hz3, ⟨z1, z2, z3, rfl⟩⟩))
        have HZ1 := hide hz1
        have HZ2 := hide (HNX.out _ _ hz1 hz2 hz3)
        clear hz1 hz2 hz3
        go_wp2_with fail
        go_roundw
        case rel => exact ⟨j + 1, l ++ List.replicate c' t, k2, by omega, by first | rfl | go_num, HLEN.out, HNIL, HZ2, HZ1, HE3⟩
        case measure => simp [intOf]; omega
      · have qz : ((j : Int) == 0) = false := by simp; omega
        have hlne : l ≠ [] := fun e => hj0 (HC.out.2 e)
        have hlp : 0 < l.length := List.length_pos_iff.2 hlne
        obtain ⟨g, cap, eg, _, _⟩ := HOA.out.form (by omega)
        simp only [Value.slice.injEq] at eg
        obtain ⟨rfl, _, rfl⟩ := eg
        have hcell : wA.cell? ⟨g, l.length - 1, none⟩ = some (.int .i64 (l.getLast hlne)) := by
          rw [HOA.out.cellAt _ (by omega)]
          have : l.length - 1 < l.length := by omega
          simp [ints, List.getLast_eq_getElem]
        have HLA : Hid (l.getLast? = some (l.getLast hlne)) := List.getLast?_eq_some_getLast hlne
        generalize l.getLast hlne = y at *
        have q3 : (0 : Int) ≤ (l.length : Int) - 1 := by omega
        have q7 : (1 : Int) ≤ (l.length : Int) := by omega
        have q4 : (l.length : Int) - 1 < l.length := by omega
        have q5 : ((l.length : Int) - 1).toNat = l.length - 1 := by omega
        have q6 : IntKind.i64.wrap ((l.length : Int) - 1) = (l.length : Int) - 1 := by rw [IntKind.wrap_i64]; omega
        clear hlne
        by_cases hty : t = y
        · have qn : (t != y) = false := by simp [hty]
          have HE3 : Hid (rdSched ((byt s).drop k) = none) := by
            unfold Hid; rw [HE2.out, HLA.out, if_neg (by simp [hty])]
          clear hty HE2 HC HLA
          refine box_region 13 (by kernel_rfl) (by kernel_rfl) ?_
          simp only [List.take_succ_cons, List.take_zero, List.drop_succ_cons, List.drop_zero]
          iterate 3 (refine box_want (by rfl) (fun K hK => ?_); go_simp; refine hK _ ?_; clear hK K)
          iterate 9 (refine box_want (by rfl) (fun K hK => ?_); go_simp; refine hK _ ?_; clear hK K)
          refine box_want (by rfl) (fun K hK => ?_); go_simp; refine hK _ ?_; clear hK K
          refine box_nil ?_
          go_wp2_with (go_at_call 100; refine (must_not _).mono ?_; rintro e w7 ⟨rfl, rfl⟩)
          exact ⟨rfl, Or.inl ⟨HE3.out, rfl, grown_trans HH.out.base (grown_drew HSA.out.base)⟩⟩
        · have qn : (t != y) = true := by simp [hty]
          have HE3 : Hid (rdRuns (m - (j + 1)) (l ++ List.replicate c' t) ((byt s).drop k2) = rdSched ((byt s).drop k)) := by
            unfold Hid; rw [HE2.out, HLA.out, if_pos (by simp; exact fun e => hty e.symm)]; rfl
          clear hty HE2 HC HLA
          refine box_region 13 (by kernel_rfl) (by kernel_rfl) ?_
          simp only [List.take_succ_cons, List.take_zero, List.drop_succ_cons, List.drop_zero]
          iterate 3 (refine box_want (by rfl) (fun K hK => ?_); go_simp; refine hK _ ?_; clear hK K)
          iterate 9 (refine box_want (by rfl) (fun K hK => ?_); go_simp; refine hK _ ?_; clear hK K)
          refine box_want (by rfl) (fun K hK => ?_); go_simp; refine hK _ ?_; clear hK K
          refine box_nil ?_
          go_wp2_with (first | (go_at_call 100; refine (must_ok _).mono ?_; rintro e w7 ⟨⟨v7, rfl⟩, rfl⟩) | (go_at_call 73; refine HAP.out.mono ?_; rintro e w8 ⟨sv, rfl, hz1, hz2, hz3, ⟨z1, z2, z3, rfl⟩⟩))
          have HZ1 := hide hz1
          have HZ2 := hide (HNX.out _ _ hz1 hz2 hz3)
          clear hz1 hz2 hz3
          go_wp2_with fail
          go_roundw
          case rel => exact ⟨j + 1, l ++ List.replicate c' t, k2, by omega, by first | rfl | go_num, HLEN.out, HNIL, HZ2, HZ1, HE3⟩
          case measure => simp [intOf]; omega
    · have q1 : ¬ (j : Int) < m := by omega
      have ej : m - j = 0 := by omega
      have HR2 : Hid (rdSched ((byt s).drop k) = some (l, (byt s).drop k')) := by unfold Hid; rw [← HE.out, ej, rdRuns]
      clear ej
      go_wp2_with fail
      go_ret
      exact Or.inr ⟨l, _, _, k', HR2.out, rfl, ⟨hl5, HO.out⟩, HH.out.trans HJ.out, rfl⟩

end Go.Proofs.YtklenjmfalljgaaGreatDoor

/- The walks of the check and of the writer's other methods. -/
namespace Go.Proofs.YtklenjmfalljgaaGreatDoor
open Go.RowKit
attribute [local go_sem] Go.World.cell?_alloc_some

theorem and1_32 (c : Nat) (hc : c < 4294967296) : bits .and .u32 (c : Int) 1 = ((c % 2 : Nat) : Int) := by
  have := u32_and_nat c 1 hc (by decide)
  rw [nat_mask1] at this
  exact this
theorem xorP_32 (c : Nat) (hc : c < 4294967296) : bits .xor .u32 (c : Int) 3988292384 = ((c ^^^ 3988292384 : Nat) : Int) := u32_xor_nat c 3988292384 hc (by decide)

set_option maxRecDepth 100000 in
set_option maxHeartbeats 400000 in
theorem shift_m (c : Nat) (hc : c < 4294967296) (w : World) : Calls Tryz.prog 132 #[.int .u32 c] w fun e w' => e = .returned (.int .u32 (shN c)) ∧ w' = w := by
  have h1 := and1_32 c hc
  have h2 := xorP_32 (c / 2) (by omega)
  by_cases h : c % 2 = 1
  · have HS : Hid (shN c = (c / 2) ^^^ 3988292384) := by unfold Hid shN; rw [if_pos h]
    rw [h] at h1
    go_enter Tryz.func132, Tryz.ntmps132
    go_wp2_with fail
    go_ret
    refine ⟨?_, rfl⟩
    have e : ((c : Int) / 2) = ((c / 2 : Nat) : Int) := by omega
    rw [HS.out, e, h2]
    rfl
  · have HS : Hid (shN c = c / 2) := by unfold Hid shN; rw [if_neg h]
    have h0 : c % 2 = 0 := by omega
    rw [h0] at h1
    go_enter Tryz.func132, Tryz.ntmps132
    go_wp2_with fail
    go_ret
    refine ⟨?_, rfl⟩
    rw [HS.out]
    have e : ((c : Int) / 2) = ((c / 2 : Nat) : Int) := by omega
    rw [e]
    rfl

set_option maxRecDepth 100000 in
set_option maxHeartbeats 1000000 in
theorem checkOf_m (s : ByteArray) (w : World) (hs : s.size ≤ 9223372036854775806) : Calls Tryz.prog 94 #[.string s] w fun e w' => e = .returned (.int .u32 (crcN (byt s))) ∧ Like w' w := by
  go_enter Tryz.func94, Tryz.ntmps94
  go_wp2_with fail
  go_loopw [3, 7] (fun cv i w' => ∃ (k : Nat) (c : Nat), k ≤ s.size ∧ cv = .int .u32 c ∧ i = .int .i64 k ∧ c < 4294967296 ∧ Hid (c = crcF 4294967295 ((byt s).take k)) ∧ Hid (Like w' w)) (fun _ i _ => s.size - (intOf i).toNat)
  case atStart => exact ⟨0, 4294967295, Nat.zero_le _, rfl, rfl, by decide, hide rfl, hide (like_refl _)⟩
  case round =>
    obtain ⟨k, c, hk, rfl, rfl, hc, HC, HL⟩ := hrel
    obtain ⟨w5, hw5⟩ : ∃ w5, w5 = wr := ⟨_, rfl⟩
    subst hw5
    by_cases hks : k < s.size
    · have q1 : (k : Int) < s.size := by omega
      have hb := s[k].toNat_lt
      have hx := u32_xor_nat c s[k].toNat hc (by omega)
      have hcx : c ^^^ s[k].toNat < 4294967296 := Nat.xor_lt_two_pow (n := 32) hc (by omega)
      have HX : Hid (crcF 4294967295 ((byt s).take (k + 1)) = shK 8 (c ^^^ s[k].toNat)) := by
        unfold Hid
        have hl : k < (byt s).length := by rw [byt_len]; exact hks
        have h2 := byt_get s k hks
        rw [List.getElem?_eq_getElem hl] at h2
        rw [← List.take_append_getElem hl, crcF_append, ← HC.out, Option.some.inj h2]
        rfl
      generalize c ^^^ s[k].toNat = d at *
      clear HC
      have HLW := HL
      clear HL
      go_wp2_with fail
      go_loopw [3, 16] (fun cv i w' => ∃ (j : Nat) (c' : Nat), j ≤ 8 ∧ cv = .int .u32 c' ∧ i = .int .i64 j ∧ c' < 4294967296 ∧ Hid (c' = shK j d) ∧ Hid (w' = w5)) (fun _ i _ => 8 - (intOf i).toNat)
      case atStart => exact ⟨0, d, Nat.zero_le _, rfl, rfl, hcx, hide rfl, hide rfl⟩
      case round =>
        obtain ⟨j, c', hj, rfl, rfl, hc', HJ, HW5⟩ := hrel
        rw [HW5.out]
        clear HW5
        by_cases hj8 : j < 8
        · have q2 : (j : Int) < 8 := by omega
          have HN : Hid (shN c' = shK (j + 1) d) := by
            unfold Hid
            rw [HJ.out, shK_add]; rfl
          have HLT := hide (shN_lt hc')
          have HSH := hide (shift_m c' hc' w5)
          go_wp2_with (go_at_call 132; refine HSH.out.mono ?_; rintro e w6 ⟨rfl, rfl⟩)
          go_roundw
          case rel => exact ⟨j + 1, shN c', by omega, rfl, by first | rfl | (congr 1), HLT.out, HN, by first | exact hide rfl | exact hide trivial⟩
          case measure => simp [intOf]; omega
        · have q2 : ¬ (j : Int) < 8 := by omega
          have hj8' : j = 8 := by omega
          subst hj8'
          go_wp2_with fail
          go_roundw
          case rel => exact ⟨k + 1, c', by omega, rfl, by first | rfl | (congr 1), hc', hide (by rw [HX.out]; exact HJ.out), HLW⟩
          case measure => simp [intOf]; omega
    · have q1 : ¬ (k : Int) < s.size := by omega
      have hx := u32_xor_nat 4294967295 c (by decide) hc
      have hk2 : k = s.size := by omega
      have HR : Hid (crcN (byt s) = 4294967295 ^^^ c) := by
        unfold Hid crcN
        rw [HC.out, hk2, ← byt_len, List.take_length]
      clear hk2
      go_wp2_with fail
      go_ret
      refine ⟨?_, HL.out⟩
      rw [HR.out, ← hx]
      rfl

end Go.Proofs.YtklenjmfalljgaaGreatDoor

/- The walks of the reader's head and check. -/
namespace Go.Proofs.YtklenjmfalljgaaGreatDoor
open Go.RowKit
attribute [local go_sem] Go.World.cell?_alloc_some

def rdLit : List Nat → List Nat → Option (Unit × List Nat)
  | [], l => some ((), l)
  | _ :: _, [] => none
  | x :: xs, y :: l => if y = x then rdLit xs l else none

theorem rdLit_ok (xs l r : List Nat) : rdLit xs l = some ((), r) ↔ l = xs ++ r := by
  induction xs generalizing l with
  | nil => simp [rdLit]
  | cons x xs ih =>
    cases l with
    | nil => simp [rdLit]
    | cons y l =>
      simp only [rdLit]
      by_cases h : y = x
      · rw [if_pos h, ih, h]; simp
      · rw [if_neg h]; simp [h]

set_option maxRecDepth 100000 in
set_option maxHeartbeats 1000000 in
theorem head_r (W w : World) (b k : Nat) (s : ByteArray) (h : RdS W w b s k) (hs : s.size ≤ 9223372036854775806) :
    Calls Tryz.prog 95 #[pt b] w (Rd W b s (fun _ _ _ => True) (rdLit [82, 82, 1] ((byt s).drop k))) := by
  have HH := hide h
  have hpt : pt b = .pointer (some ⟨b, 0, none⟩) := rfl
  rw [hpt]
  clear h hpt
  go_enter Tryz.func95, Tryz.ntmps95
  go_wp2_with fail
  go_loopw [3] (fun i w' => ∃ (j k' : Nat), j ≤ 3 ∧ i = .int .i64 j ∧ Hid (RdS W w' b s k') ∧ Hid (rdLit ([82, 82, 1].drop j) ((byt s).drop k') = rdLit [82, 82, 1] ((byt s).drop k))) (fun i _ => 3 - (intOf i).toNat)
  case atStart => exact ⟨0, k, by omega, rfl, HH, hide rfl⟩
  case round =>
    obtain ⟨j, k', hj, rfl, HS, HE⟩ := hrel
    obtain ⟨w5, hw5'⟩ : ∃ w5, w5 = wr := ⟨_, rfl⟩
    rw [← hw5'] at HS ⊢
    clear hw5'
    have hcs : j = 0 ∨ j = 1 ∨ j = 2 ∨ j = 3 := by omega
    rcases hcs with rfl | rfl | rfl | rfl
    · have HX : Hid (([82, 82, 1] : List Nat).drop 0 = 82 :: [82, 82, 1].drop 1) := rfl
      have qb : (({ data := #[82, 82, 1] } : ByteArray)[0]).toNat = 82 := rfl
      by_cases hk : k' < s.size
      · have HB := hide (byt_cons s k' hk)
        have HNX := hide (next_ok W w5.drew b k' s (HS.out.grown (grown_drew (grown_refl _ _))) hs hk)
        generalize s[k'].toNat = y at *
        by_cases hy : y = 82
        · have qy : ((y : Int) == 82) = true := by simp; omega
          have HE2 : Hid (rdLit (([82, 82, 1]).drop (1)) ((byt s).drop (k' + 1)) = rdLit ([82, 82, 1]) ((byt s).drop k)) := by
            unfold Hid; rw [← HE.out, HB.out, HX.out, rdLit, if_pos hy]
          clear hy
          go_wp2_with fail
          refine wp_region_head (fun _ => True) 5 (by kernel_rfl) (by kernel_rfl) trivial ?_
          intro hHeld
          refine wpHead_take (i := 0) (v := ?vv0_1) rfl (by kernel_rfl) (fun _ _ _ h => h) (Or.inl ⟨by rfl, ?hy0_1⟩) trivial ?rest0_1
          case hy0_1 => (intro u hu; go_simp; try with_reducible rfl)
          simp only [Act.put, List.setIfInBounds_toArray]
          refine wpHead_take (i := 2) (v := ?vv2_2) rfl (by kernel_rfl) (fun _ _ _ h => h) (Or.inl ⟨by rfl, ?hy2_2⟩) trivial ?rest2_2
          case hy2_2 => (intro u hu; go_simp; try with_reducible rfl)
          simp only [Act.put]
          refine wpHead_take (i := 3) (v := ?vv3_3) rfl (by kernel_rfl) (fun _ _ _ h => h) (Or.inl ⟨by rfl, ?hy3_3⟩) trivial ?rest3_3
          case hy3_3 => (intro u hu; go_simp; try with_reducible rfl)
          simp only [Act.put]
          refine wpHead_alone (i := 1) rfl (by kernel_rfl) (by kernel_rfl) (by rfl) ?_
          intro K1 hK1
          have HK1 := hide hK1
          clear hK1
          go_simp
          refine HNX.out.mono ?_
          rintro e w6 ⟨rfl, hS6⟩
          have HS6 := hide hS6
          clear hS6
          refine HK1.out _ _ trivial ?_
          clear HK1
          try simp only [Act.put, List.setIfInBounds_toArray]
          refine wpHead_take (i := 4) (v := ?vv4_4) rfl (by kernel_rfl) (fun _ _ _ h => h) (Or.inl ⟨by rfl, ?hy4_4⟩) trivial ?rest4_4
          case hy4_4 => (intro u hu; go_simp; try with_reducible rfl)
          simp only [Act.put]
          refine wpHead_last rfl (by kernel_rfl) (by kernel_rfl) (by rfl) ?_
          go_simp
          refine (must_ok _).mono ?_
          rintro e w7 ⟨⟨v7, rfl⟩, rfl⟩
          go_wp2_with fail
          go_roundw
          case rel => exact ⟨1, k' + 1, by omega, by first | rfl | go_num, HS6, HE2⟩
          case measure => simp [intOf]
        · have qy : ((y : Int) == 82) = false := by simp; omega
          have HE2 : Hid (rdLit ([82, 82, 1]) ((byt s).drop k) = none) := by
            unfold Hid; rw [← HE.out, HB.out, HX.out, rdLit, if_neg hy]
          clear hy
          go_wp2_with fail
          refine wp_region_head (fun _ => True) 5 (by kernel_rfl) (by kernel_rfl) trivial ?_
          intro hHeld
          refine wpHead_take (i := 0) (v := ?vv0_5) rfl (by kernel_rfl) (fun _ _ _ h => h) (Or.inl ⟨by rfl, ?hy0_5⟩) trivial ?rest0_5
          case hy0_5 => (intro u hu; go_simp; try with_reducible rfl)
          simp only [Act.put, List.setIfInBounds_toArray]
          refine wpHead_take (i := 2) (v := ?vv2_6) rfl (by kernel_rfl) (fun _ _ _ h => h) (Or.inl ⟨by rfl, ?hy2_6⟩) trivial ?rest2_6
          case hy2_6 => (intro u hu; go_simp; try with_reducible rfl)
          simp only [Act.put]
          refine wpHead_take (i := 3) (v := ?vv3_7) rfl (by kernel_rfl) (fun _ _ _ h => h) (Or.inl ⟨by rfl, ?hy3_7⟩) trivial ?rest3_7
          case hy3_7 => (intro u hu; go_simp; try with_reducible rfl)
          simp only [Act.put]
          refine wpHead_alone (i := 1) rfl (by kernel_rfl) (by kernel_rfl) (by rfl) ?_
          intro K1 hK1
          have HK1 := hide hK1
          clear hK1
          go_simp
          refine HNX.out.mono ?_
          rintro e w6 ⟨rfl, hS6⟩
          have HS6 := hide hS6
          clear hS6
          refine HK1.out _ _ trivial ?_
          clear HK1
          try simp only [Act.put, List.setIfInBounds_toArray]
          refine wpHead_take (i := 4) (v := ?vv4_8) rfl (by kernel_rfl) (fun _ _ _ h => h) (Or.inl ⟨by rfl, ?hy4_8⟩) trivial ?rest4_8
          case hy4_8 => (intro u hu; go_simp; try with_reducible rfl)
          simp only [Act.put]
          refine wpHead_last rfl (by kernel_rfl) (by kernel_rfl) (by rfl) ?_
          go_simp
          refine (must_not _).mono ?_
          rintro e w7 ⟨rfl, rfl⟩
          exact ⟨rfl, Or.inl ⟨HE2.out, rfl, HS6.out.base⟩⟩
      · have e0 : Hid ((byt s).drop k' = []) := List.drop_eq_nil_iff.2 (by rw [byt_len]; omega)
        have HNX := hide (next_no W w5.drew b k' s (HS.out.grown (grown_drew (grown_refl _ _))) hs hk)
        have HE2 : Hid (rdLit ([82, 82, 1]) ((byt s).drop k) = none) := by
          unfold Hid; rw [← HE.out, e0.out, HX.out, rdLit]
        go_wp2_with fail
        refine wp_region_head (fun _ => True) 5 (by kernel_rfl) (by kernel_rfl) trivial ?_
        intro hHeld
        refine wpHead_take (i := 0) (v := ?vv0_9) rfl (by kernel_rfl) (fun _ _ _ h => h) (Or.inl ⟨by rfl, ?hy0_9⟩) trivial ?rest0_9
        case hy0_9 => (intro u hu; go_simp; try with_reducible rfl)
        simp only [Act.put, List.setIfInBounds_toArray]
        refine wpHead_take (i := 2) (v := ?vv2_10) rfl (by kernel_rfl) (fun _ _ _ h => h) (Or.inl ⟨by rfl, ?hy2_10⟩) trivial ?rest2_10
        case hy2_10 => (intro u hu; go_simp; try with_reducible rfl)
        simp only [Act.put]
        refine wpHead_take (i := 3) (v := ?vv3_11) rfl (by kernel_rfl) (fun _ _ _ h => h) (Or.inl ⟨by rfl, ?hy3_11⟩) trivial ?rest3_11
        case hy3_11 => (intro u hu; go_simp; try with_reducible rfl)
        simp only [Act.put]
        refine wpHead_alone (i := 1) rfl (by kernel_rfl) (by kernel_rfl) (by rfl) ?_
        intro K1 hK1
        have HK1 := hide hK1
        clear hK1
        go_simp
        refine HNX.out.mono ?_
        rintro e w6 ⟨rfl, hS6⟩
        exact ⟨rfl, Or.inl ⟨HE2.out, rfl, hS6⟩⟩
    · have HX : Hid (([82, 82, 1] : List Nat).drop 1 = 82 :: [82, 82, 1].drop 2) := rfl
      have qb : (({ data := #[82, 82, 1] } : ByteArray)[1]).toNat = 82 := rfl
      by_cases hk : k' < s.size
      · have HB := hide (byt_cons s k' hk)
        have HNX := hide (next_ok W w5.drew b k' s (HS.out.grown (grown_drew (grown_refl _ _))) hs hk)
        generalize s[k'].toNat = y at *
        by_cases hy : y = 82
        · have qy : ((y : Int) == 82) = true := by simp; omega
          have HE2 : Hid (rdLit (([82, 82, 1]).drop (2)) ((byt s).drop (k' + 1)) = rdLit ([82, 82, 1]) ((byt s).drop k)) := by
            unfold Hid; rw [← HE.out, HB.out, HX.out, rdLit, if_pos hy]
          clear hy
          go_wp2_with fail
          refine wp_region_head (fun _ => True) 5 (by kernel_rfl) (by kernel_rfl) trivial ?_
          intro hHeld
          refine wpHead_take (i := 0) (v := ?vv0_12) rfl (by kernel_rfl) (fun _ _ _ h => h) (Or.inl ⟨by rfl, ?hy0_12⟩) trivial ?rest0_12
          case hy0_12 => (intro u hu; go_simp; try with_reducible rfl)
          simp only [Act.put, List.setIfInBounds_toArray]
          refine wpHead_take (i := 2) (v := ?vv2_13) rfl (by kernel_rfl) (fun _ _ _ h => h) (Or.inl ⟨by rfl, ?hy2_13⟩) trivial ?rest2_13
          case hy2_13 => (intro u hu; go_simp; try with_reducible rfl)
          simp only [Act.put]
          refine wpHead_take (i := 3) (v := ?vv3_14) rfl (by kernel_rfl) (fun _ _ _ h => h) (Or.inl ⟨by rfl, ?hy3_14⟩) trivial ?rest3_14
          case hy3_14 => (intro u hu; go_simp; try with_reducible rfl)
          simp only [Act.put]
          refine wpHead_alone (i := 1) rfl (by kernel_rfl) (by kernel_rfl) (by rfl) ?_
          intro K1 hK1
          have HK1 := hide hK1
          clear hK1
          go_simp
          refine HNX.out.mono ?_
          rintro e w6 ⟨rfl, hS6⟩
          have HS6 := hide hS6
          clear hS6
          refine HK1.out _ _ trivial ?_
          clear HK1
          try simp only [Act.put, List.setIfInBounds_toArray]
          refine wpHead_take (i := 4) (v := ?vv4_15) rfl (by kernel_rfl) (fun _ _ _ h => h) (Or.inl ⟨by rfl, ?hy4_15⟩) trivial ?rest4_15
          case hy4_15 => (intro u hu; go_simp; try with_reducible rfl)
          simp only [Act.put]
          refine wpHead_last rfl (by kernel_rfl) (by kernel_rfl) (by rfl) ?_
          go_simp
          refine (must_ok _).mono ?_
          rintro e w7 ⟨⟨v7, rfl⟩, rfl⟩
          go_wp2_with fail
          go_roundw
          case rel => exact ⟨2, k' + 1, by omega, by first | rfl | go_num, HS6, HE2⟩
          case measure => simp [intOf]
        · have qy : ((y : Int) == 82) = false := by simp; omega
          have HE2 : Hid (rdLit ([82, 82, 1]) ((byt s).drop k) = none) := by
            unfold Hid; rw [← HE.out, HB.out, HX.out, rdLit, if_neg hy]
          clear hy
          go_wp2_with fail
          refine wp_region_head (fun _ => True) 5 (by kernel_rfl) (by kernel_rfl) trivial ?_
          intro hHeld
          refine wpHead_take (i := 0) (v := ?vv0_16) rfl (by kernel_rfl) (fun _ _ _ h => h) (Or.inl ⟨by rfl, ?hy0_16⟩) trivial ?rest0_16
          case hy0_16 => (intro u hu; go_simp; try with_reducible rfl)
          simp only [Act.put, List.setIfInBounds_toArray]
          refine wpHead_take (i := 2) (v := ?vv2_17) rfl (by kernel_rfl) (fun _ _ _ h => h) (Or.inl ⟨by rfl, ?hy2_17⟩) trivial ?rest2_17
          case hy2_17 => (intro u hu; go_simp; try with_reducible rfl)
          simp only [Act.put]
          refine wpHead_take (i := 3) (v := ?vv3_18) rfl (by kernel_rfl) (fun _ _ _ h => h) (Or.inl ⟨by rfl, ?hy3_18⟩) trivial ?rest3_18
          case hy3_18 => (intro u hu; go_simp; try with_reducible rfl)
          simp only [Act.put]
          refine wpHead_alone (i := 1) rfl (by kernel_rfl) (by kernel_rfl) (by rfl) ?_
          intro K1 hK1
          have HK1 := hide hK1
          clear hK1
          go_simp
          refine HNX.out.mono ?_
          rintro e w6 ⟨rfl, hS6⟩
          have HS6 := hide hS6
          clear hS6
          refine HK1.out _ _ trivial ?_
          clear HK1
          try simp only [Act.put, List.setIfInBounds_toArray]
          refine wpHead_take (i := 4) (v := ?vv4_19) rfl (by kernel_rfl) (fun _ _ _ h => h) (Or.inl ⟨by rfl, ?hy4_19⟩) trivial ?rest4_19
          case hy4_19 => (intro u hu; go_simp; try with_reducible rfl)
          simp only [Act.put]
          refine wpHead_last rfl (by kernel_rfl) (by kernel_rfl) (by rfl) ?_
          go_simp
          refine (must_not _).mono ?_
          rintro e w7 ⟨rfl, rfl⟩
          exact ⟨rfl, Or.inl ⟨HE2.out, rfl, HS6.out.base⟩⟩
      · have e0 : Hid ((byt s).drop k' = []) := List.drop_eq_nil_iff.2 (by rw [byt_len]; omega)
        have HNX := hide (next_no W w5.drew b k' s (HS.out.grown (grown_drew (grown_refl _ _))) hs hk)
        have HE2 : Hid (rdLit ([82, 82, 1]) ((byt s).drop k) = none) := by
          unfold Hid; rw [← HE.out, e0.out, HX.out, rdLit]
        go_wp2_with fail
        refine wp_region_head (fun _ => True) 5 (by kernel_rfl) (by kernel_rfl) trivial ?_
        intro hHeld
        refine wpHead_take (i := 0) (v := ?vv0_20) rfl (by kernel_rfl) (fun _ _ _ h => h) (Or.inl ⟨by rfl, ?hy0_20⟩) trivial ?rest0_20
        case hy0_20 => (intro u hu; go_simp; try with_reducible rfl)
        simp only [Act.put, List.setIfInBounds_toArray]
        refine wpHead_take (i := 2) (v := ?vv2_21) rfl (by kernel_rfl) (fun _ _ _ h => h) (Or.inl ⟨by rfl, ?hy2_21⟩) trivial ?rest2_21
        case hy2_21 => (intro u hu; go_simp; try with_reducible rfl)
        simp only [Act.put]
        refine wpHead_take (i := 3) (v := ?vv3_22) rfl (by kernel_rfl) (fun _ _ _ h => h) (Or.inl ⟨by rfl, ?hy3_22⟩) trivial ?rest3_22
        case hy3_22 => (intro u hu; go_simp; try with_reducible rfl)
        simp only [Act.put]
        refine wpHead_alone (i := 1) rfl (by kernel_rfl) (by kernel_rfl) (by rfl) ?_
        intro K1 hK1
        have HK1 := hide hK1
        clear hK1
        go_simp
        refine HNX.out.mono ?_
        rintro e w6 ⟨rfl, hS6⟩
        exact ⟨rfl, Or.inl ⟨HE2.out, rfl, hS6⟩⟩
    · have HX : Hid (([82, 82, 1] : List Nat).drop 2 = 1 :: [82, 82, 1].drop 3) := rfl
      have qb : (({ data := #[82, 82, 1] } : ByteArray)[2]).toNat = 1 := rfl
      by_cases hk : k' < s.size
      · have HB := hide (byt_cons s k' hk)
        have HNX := hide (next_ok W w5.drew b k' s (HS.out.grown (grown_drew (grown_refl _ _))) hs hk)
        generalize s[k'].toNat = y at *
        by_cases hy : y = 1
        · have qy : ((y : Int) == 1) = true := by simp; omega
          have HE2 : Hid (rdLit (([82, 82, 1]).drop (3)) ((byt s).drop (k' + 1)) = rdLit ([82, 82, 1]) ((byt s).drop k)) := by
            unfold Hid; rw [← HE.out, HB.out, HX.out, rdLit, if_pos hy]
          clear hy
          go_wp2_with fail
          refine wp_region_head (fun _ => True) 5 (by kernel_rfl) (by kernel_rfl) trivial ?_
          intro hHeld
          refine wpHead_take (i := 0) (v := ?vv0_23) rfl (by kernel_rfl) (fun _ _ _ h => h) (Or.inl ⟨by rfl, ?hy0_23⟩) trivial ?rest0_23
          case hy0_23 => (intro u hu; go_simp; try with_reducible rfl)
          simp only [Act.put, List.setIfInBounds_toArray]
          refine wpHead_take (i := 2) (v := ?vv2_24) rfl (by kernel_rfl) (fun _ _ _ h => h) (Or.inl ⟨by rfl, ?hy2_24⟩) trivial ?rest2_24
          case hy2_24 => (intro u hu; go_simp; try with_reducible rfl)
          simp only [Act.put]
          refine wpHead_take (i := 3) (v := ?vv3_25) rfl (by kernel_rfl) (fun _ _ _ h => h) (Or.inl ⟨by rfl, ?hy3_25⟩) trivial ?rest3_25
          case hy3_25 => (intro u hu; go_simp; try with_reducible rfl)
          simp only [Act.put]
          refine wpHead_alone (i := 1) rfl (by kernel_rfl) (by kernel_rfl) (by rfl) ?_
          intro K1 hK1
          have HK1 := hide hK1
          clear hK1
          go_simp
          refine HNX.out.mono ?_
          rintro e w6 ⟨rfl, hS6⟩
          have HS6 := hide hS6
          clear hS6
          refine HK1.out _ _ trivial ?_
          clear HK1
          try simp only [Act.put, List.setIfInBounds_toArray]
          refine wpHead_take (i := 4) (v := ?vv4_26) rfl (by kernel_rfl) (fun _ _ _ h => h) (Or.inl ⟨by rfl, ?hy4_26⟩) trivial ?rest4_26
          case hy4_26 => (intro u hu; go_simp; try with_reducible rfl)
          simp only [Act.put]
          refine wpHead_last rfl (by kernel_rfl) (by kernel_rfl) (by rfl) ?_
          go_simp
          refine (must_ok _).mono ?_
          rintro e w7 ⟨⟨v7, rfl⟩, rfl⟩
          go_wp2_with fail
          go_roundw
          case rel => exact ⟨3, k' + 1, by omega, by first | rfl | go_num, HS6, HE2⟩
          case measure => simp [intOf]
        · have qy : ((y : Int) == 1) = false := by simp; omega
          have HE2 : Hid (rdLit ([82, 82, 1]) ((byt s).drop k) = none) := by
            unfold Hid; rw [← HE.out, HB.out, HX.out, rdLit, if_neg hy]
          clear hy
          go_wp2_with fail
          refine wp_region_head (fun _ => True) 5 (by kernel_rfl) (by kernel_rfl) trivial ?_
          intro hHeld
          refine wpHead_take (i := 0) (v := ?vv0_27) rfl (by kernel_rfl) (fun _ _ _ h => h) (Or.inl ⟨by rfl, ?hy0_27⟩) trivial ?rest0_27
          case hy0_27 => (intro u hu; go_simp; try with_reducible rfl)
          simp only [Act.put, List.setIfInBounds_toArray]
          refine wpHead_take (i := 2) (v := ?vv2_28) rfl (by kernel_rfl) (fun _ _ _ h => h) (Or.inl ⟨by rfl, ?hy2_28⟩) trivial ?rest2_28
          case hy2_28 => (intro u hu; go_simp; try with_reducible rfl)
          simp only [Act.put]
          refine wpHead_take (i := 3) (v := ?vv3_29) rfl (by kernel_rfl) (fun _ _ _ h => h) (Or.inl ⟨by rfl, ?hy3_29⟩) trivial ?rest3_29
          case hy3_29 => (intro u hu; go_simp; try with_reducible rfl)
          simp only [Act.put]
          refine wpHead_alone (i := 1) rfl (by kernel_rfl) (by kernel_rfl) (by rfl) ?_
          intro K1 hK1
          have HK1 := hide hK1
          clear hK1
          go_simp
          refine HNX.out.mono ?_
          rintro e w6 ⟨rfl, hS6⟩
          have HS6 := hide hS6
          clear hS6
          refine HK1.out _ _ trivial ?_
          clear HK1
          try simp only [Act.put, List.setIfInBounds_toArray]
          refine wpHead_take (i := 4) (v := ?vv4_30) rfl (by kernel_rfl) (fun _ _ _ h => h) (Or.inl ⟨by rfl, ?hy4_30⟩) trivial ?rest4_30
          case hy4_30 => (intro u hu; go_simp; try with_reducible rfl)
          simp only [Act.put]
          refine wpHead_last rfl (by kernel_rfl) (by kernel_rfl) (by rfl) ?_
          go_simp
          refine (must_not _).mono ?_
          rintro e w7 ⟨rfl, rfl⟩
          exact ⟨rfl, Or.inl ⟨HE2.out, rfl, HS6.out.base⟩⟩
      · have e0 : Hid ((byt s).drop k' = []) := List.drop_eq_nil_iff.2 (by rw [byt_len]; omega)
        have HNX := hide (next_no W w5.drew b k' s (HS.out.grown (grown_drew (grown_refl _ _))) hs hk)
        have HE2 : Hid (rdLit ([82, 82, 1]) ((byt s).drop k) = none) := by
          unfold Hid; rw [← HE.out, e0.out, HX.out, rdLit]
        go_wp2_with fail
        refine wp_region_head (fun _ => True) 5 (by kernel_rfl) (by kernel_rfl) trivial ?_
        intro hHeld
        refine wpHead_take (i := 0) (v := ?vv0_31) rfl (by kernel_rfl) (fun _ _ _ h => h) (Or.inl ⟨by rfl, ?hy0_31⟩) trivial ?rest0_31
        case hy0_31 => (intro u hu; go_simp; try with_reducible rfl)
        simp only [Act.put, List.setIfInBounds_toArray]
        refine wpHead_take (i := 2) (v := ?vv2_32) rfl (by kernel_rfl) (fun _ _ _ h => h) (Or.inl ⟨by rfl, ?hy2_32⟩) trivial ?rest2_32
        case hy2_32 => (intro u hu; go_simp; try with_reducible rfl)
        simp only [Act.put]
        refine wpHead_take (i := 3) (v := ?vv3_33) rfl (by kernel_rfl) (fun _ _ _ h => h) (Or.inl ⟨by rfl, ?hy3_33⟩) trivial ?rest3_33
        case hy3_33 => (intro u hu; go_simp; try with_reducible rfl)
        simp only [Act.put]
        refine wpHead_alone (i := 1) rfl (by kernel_rfl) (by kernel_rfl) (by rfl) ?_
        intro K1 hK1
        have HK1 := hide hK1
        clear hK1
        go_simp
        refine HNX.out.mono ?_
        rintro e w6 ⟨rfl, hS6⟩
        exact ⟨rfl, Or.inl ⟨HE2.out, rfl, hS6⟩⟩
    · have HE2 : Hid (rdLit [82, 82, 1] ((byt s).drop k) = some ((), (byt s).drop k')) := by
        unfold Hid; rw [← HE.out]; rfl
      go_wp2_with fail
      go_end0
      exact Or.inr ⟨(), _, _, k', HE2.out, rfl, trivial, HS.out, rfl⟩

end Go.Proofs.YtklenjmfalljgaaGreatDoor

/- The walk of the reader's check. -/
namespace Go.Proofs.YtklenjmfalljgaaGreatDoor
open Go.RowKit
attribute [local go_sem] Go.World.cell?_alloc_some

theorem byt_take (s : ByteArray) (k : Nat) (_h : k ≤ s.size) : byt (s.extract 0 k) = (byt s).take k := by
  unfold byt
  rw [ByteArray.data_extract, Array.toList_extract, List.map_take]
  simp

set_option maxRecDepth 100000 in
set_option maxHeartbeats 2000000 in
theorem check_r (W w : World) (b k : Nat) (s : ByteArray) (h : RdS W w b s k) (hs : s.size ≤ 9223372036854775806) :
    Calls Tryz.prog 99 #[pt b] w (Rd W b s (fun _ _ _ => True) (rdLit (leB 4 (crcN ((byt s).take k))) ((byt s).drop k))) := by
  have HH := hide h
  have hpt : pt b = .pointer (some ⟨b, 0, none⟩) := rfl
  rw [hpt]
  clear h hpt
  have c0 := HH.out.c0
  have c1 := HH.out.c1
  have q0 : (0 : Int) ≤ (k : Int) := by omega
  have q1 : (k : Int) ≤ s.size := by have := HH.out.le; omega
  have q2 : k ≤ s.size := HH.out.le
  have HCK := hide (checkOf_m (s.extract 0 k) w.drew (by simp; omega))
  rw [byt_take s k q2] at HCK
  have hC : crcN ((byt s).take k) < 4294967296 := crcN_lt _ (fun x hx => byt_lt s x (List.mem_of_mem_take hx))
  generalize crcN ((byt s).take k) = C at *
  go_enter Tryz.func99, Tryz.ntmps99
  go_wp2_with fail
  go_still_tail 9, (by kernel_rfl)
  have HH1 : Hid (RdS W w.drew b s k) := HH.out.grown (grown_drew (grown_refl _ _))
  clear c0 c1 HH
  go_wp2_with (go_at_call 94; refine HCK.out.mono ?_; rintro e w2 ⟨rfl, hl2⟩; have HS2 := hide (HH1.out.grown (grown_of_like hl2)); clear hl2)
  go_loopw [14] (fun i w' => ∃ (j k' : Nat), j ≤ 4 ∧ i = .int .i64 j ∧ Hid (RdS W w' b s k') ∧ Hid (rdLit ((leB 4 C).drop j) ((byt s).drop k') = rdLit (leB 4 C) ((byt s).drop k))) (fun i _ => 4 - (intOf i).toNat)
  case atStart => exact ⟨0, k, by omega, rfl, HS2, hide rfl⟩
  case round =>
    obtain ⟨j, k', hj, rfl, HS, HE⟩ := hrel
    obtain ⟨w5, hw5'⟩ : ∃ w5, w5 = wr := ⟨_, rfl⟩
    rw [← hw5'] at HS ⊢
    clear hw5'
    have hcs : j = 0 ∨ j = 1 ∨ j = 2 ∨ j = 3 ∨ j = 4 := by omega
    rcases hcs with rfl | rfl | rfl | rfl | rfl
    · have HX : Hid ((leB 4 C).drop 0 = (C % 256) :: (leB 4 C).drop 1) := by unfold Hid; simp [leB, Nat.div_div_eq_div_mul]
      have qw : IntKind.i64.wrap 0 = 0 := by decide
      by_cases hk : k' < s.size
      · have HB := hide (byt_cons s k' hk)
        have HNX := hide (next_ok W w5.drew b k' s (HS.out.grown (grown_drew (grown_refl _ _))) hs hk)
        generalize s[k'].toNat = y at *
        by_cases hy : y = C % 256
        · have qy : ((y : Int) == IntKind.u8.wrap ((C : Int))) = true := by rw [IntKind.wrap_u8']; simp; omega
          have HE2 : Hid (rdLit ((leB 4 C).drop (1)) ((byt s).drop (k' + 1)) = rdLit (leB 4 C) ((byt s).drop k)) := by
            unfold Hid; rw [← HE.out, HB.out, HX.out, rdLit, if_pos hy]
          clear hy
          go_wp2_with fail
          refine wp_region_head (fun _ => True) 8 (by kernel_rfl) (by kernel_rfl) trivial ?_
          intro hHeld
          refine wpHead_take (i := 0) (v := ?vv0_1) rfl (by kernel_rfl) (fun _ _ _ h => h) (Or.inl ⟨by rfl, ?hy0_1⟩) trivial ?rest0_1
          case hy0_1 => (intro u hu; go_simp; try with_reducible rfl)
          simp only [Act.put, List.setIfInBounds_toArray]
          refine wpHead_take (i := 2) (v := ?vv2_2) rfl (by kernel_rfl) (fun _ _ _ h => h) (Or.inl ⟨by rfl, ?hy2_2⟩) trivial ?rest2_2
          case hy2_2 => (intro u hu; go_simp; try with_reducible rfl)
          simp only [Act.put]
          refine wpHead_take (i := 3) (v := ?vv3_3) rfl (by kernel_rfl) (fun _ _ _ h => h) (Or.inl ⟨by rfl, ?hy3_3⟩) trivial ?rest3_3
          case hy3_3 => (intro u hu; go_simp; try with_reducible rfl)
          simp only [Act.put]
          refine wpHead_take (i := 4) (v := ?vv4_4) rfl (by kernel_rfl) (fun _ _ _ h => h) (Or.inl ⟨by rfl, ?hy4_4⟩) trivial ?rest4_4
          case hy4_4 => (intro u hu; go_simp; try with_reducible rfl)
          simp only [Act.put]
          refine wpHead_take (i := 5) (v := ?vv5_5) rfl (by kernel_rfl) (fun _ _ _ h => h) (Or.inl ⟨by rfl, ?hy5_5⟩) trivial ?rest5_5
          case hy5_5 => (intro u hu; go_simp; try with_reducible rfl)
          simp only [Act.put]
          refine wpHead_take (i := 6) (v := ?vv6_6) rfl (by kernel_rfl) (fun _ _ _ h => h) (Or.inl ⟨by rfl, ?hy6_6⟩) trivial ?rest6_6
          case hy6_6 => (intro u hu; go_simp; try with_reducible rfl)
          simp only [Act.put]
          refine wpHead_alone (i := 1) rfl (by kernel_rfl) (by kernel_rfl) (by rfl) ?_
          intro K1 hK1
          have HK1 := hide hK1
          clear hK1
          go_simp
          refine HNX.out.mono ?_
          rintro e w6 ⟨rfl, hS6⟩
          have HS6 := hide hS6
          clear hS6
          refine HK1.out _ _ trivial ?_
          clear HK1
          try simp only [Act.put, List.setIfInBounds_toArray]
          refine wpHead_take (i := 7) (v := ?vv7_7) rfl (by kernel_rfl) (fun _ _ _ h => h) (Or.inl ⟨by rfl, ?hy7_7⟩) trivial ?rest7_7
          case hy7_7 => (intro u hu; go_simp; try with_reducible rfl)
          simp only [Act.put]
          refine wpHead_last rfl (by kernel_rfl) (by kernel_rfl) (by rfl) ?_
          go_simp
          refine (must_ok _).mono ?_
          rintro e w7 ⟨⟨v7, rfl⟩, rfl⟩
          go_wp2_with fail
          go_roundw
          case rel => exact ⟨1, k' + 1, by omega, by first | rfl | go_num, HS6, HE2⟩
          case measure => simp [intOf]
        · have qy : ((y : Int) == IntKind.u8.wrap ((C : Int))) = false := by rw [IntKind.wrap_u8']; simp; omega
          have HE2 : Hid (rdLit (leB 4 C) ((byt s).drop k) = none) := by
            unfold Hid; rw [← HE.out, HB.out, HX.out, rdLit, if_neg hy]
          clear hy
          go_wp2_with fail
          refine wp_region_head (fun _ => True) 8 (by kernel_rfl) (by kernel_rfl) trivial ?_
          intro hHeld
          refine wpHead_take (i := 0) (v := ?vv0_8) rfl (by kernel_rfl) (fun _ _ _ h => h) (Or.inl ⟨by rfl, ?hy0_8⟩) trivial ?rest0_8
          case hy0_8 => (intro u hu; go_simp; try with_reducible rfl)
          simp only [Act.put, List.setIfInBounds_toArray]
          refine wpHead_take (i := 2) (v := ?vv2_9) rfl (by kernel_rfl) (fun _ _ _ h => h) (Or.inl ⟨by rfl, ?hy2_9⟩) trivial ?rest2_9
          case hy2_9 => (intro u hu; go_simp; try with_reducible rfl)
          simp only [Act.put]
          refine wpHead_take (i := 3) (v := ?vv3_10) rfl (by kernel_rfl) (fun _ _ _ h => h) (Or.inl ⟨by rfl, ?hy3_10⟩) trivial ?rest3_10
          case hy3_10 => (intro u hu; go_simp; try with_reducible rfl)
          simp only [Act.put]
          refine wpHead_take (i := 4) (v := ?vv4_11) rfl (by kernel_rfl) (fun _ _ _ h => h) (Or.inl ⟨by rfl, ?hy4_11⟩) trivial ?rest4_11
          case hy4_11 => (intro u hu; go_simp; try with_reducible rfl)
          simp only [Act.put]
          refine wpHead_take (i := 5) (v := ?vv5_12) rfl (by kernel_rfl) (fun _ _ _ h => h) (Or.inl ⟨by rfl, ?hy5_12⟩) trivial ?rest5_12
          case hy5_12 => (intro u hu; go_simp; try with_reducible rfl)
          simp only [Act.put]
          refine wpHead_take (i := 6) (v := ?vv6_13) rfl (by kernel_rfl) (fun _ _ _ h => h) (Or.inl ⟨by rfl, ?hy6_13⟩) trivial ?rest6_13
          case hy6_13 => (intro u hu; go_simp; try with_reducible rfl)
          simp only [Act.put]
          refine wpHead_alone (i := 1) rfl (by kernel_rfl) (by kernel_rfl) (by rfl) ?_
          intro K1 hK1
          have HK1 := hide hK1
          clear hK1
          go_simp
          refine HNX.out.mono ?_
          rintro e w6 ⟨rfl, hS6⟩
          have HS6 := hide hS6
          clear hS6
          refine HK1.out _ _ trivial ?_
          clear HK1
          try simp only [Act.put, List.setIfInBounds_toArray]
          refine wpHead_take (i := 7) (v := ?vv7_14) rfl (by kernel_rfl) (fun _ _ _ h => h) (Or.inl ⟨by rfl, ?hy7_14⟩) trivial ?rest7_14
          case hy7_14 => (intro u hu; go_simp; try with_reducible rfl)
          simp only [Act.put]
          refine wpHead_last rfl (by kernel_rfl) (by kernel_rfl) (by rfl) ?_
          go_simp
          refine (must_not _).mono ?_
          rintro e w7 ⟨rfl, rfl⟩
          exact ⟨rfl, Or.inl ⟨HE2.out, rfl, HS6.out.base⟩⟩
      · have e0 : Hid ((byt s).drop k' = []) := List.drop_eq_nil_iff.2 (by rw [byt_len]; omega)
        have HNX := hide (next_no W w5.drew b k' s (HS.out.grown (grown_drew (grown_refl _ _))) hs hk)
        have HE2 : Hid (rdLit (leB 4 C) ((byt s).drop k) = none) := by
          unfold Hid; rw [← HE.out, e0.out, HX.out, rdLit]
        go_wp2_with fail
        refine wp_region_head (fun _ => True) 8 (by kernel_rfl) (by kernel_rfl) trivial ?_
        intro hHeld
        refine wpHead_take (i := 0) (v := ?vv0_15) rfl (by kernel_rfl) (fun _ _ _ h => h) (Or.inl ⟨by rfl, ?hy0_15⟩) trivial ?rest0_15
        case hy0_15 => (intro u hu; go_simp; try with_reducible rfl)
        simp only [Act.put, List.setIfInBounds_toArray]
        refine wpHead_take (i := 2) (v := ?vv2_16) rfl (by kernel_rfl) (fun _ _ _ h => h) (Or.inl ⟨by rfl, ?hy2_16⟩) trivial ?rest2_16
        case hy2_16 => (intro u hu; go_simp; try with_reducible rfl)
        simp only [Act.put]
        refine wpHead_take (i := 3) (v := ?vv3_17) rfl (by kernel_rfl) (fun _ _ _ h => h) (Or.inl ⟨by rfl, ?hy3_17⟩) trivial ?rest3_17
        case hy3_17 => (intro u hu; go_simp; try with_reducible rfl)
        simp only [Act.put]
        refine wpHead_take (i := 4) (v := ?vv4_18) rfl (by kernel_rfl) (fun _ _ _ h => h) (Or.inl ⟨by rfl, ?hy4_18⟩) trivial ?rest4_18
        case hy4_18 => (intro u hu; go_simp; try with_reducible rfl)
        simp only [Act.put]
        refine wpHead_take (i := 5) (v := ?vv5_19) rfl (by kernel_rfl) (fun _ _ _ h => h) (Or.inl ⟨by rfl, ?hy5_19⟩) trivial ?rest5_19
        case hy5_19 => (intro u hu; go_simp; try with_reducible rfl)
        simp only [Act.put]
        refine wpHead_take (i := 6) (v := ?vv6_20) rfl (by kernel_rfl) (fun _ _ _ h => h) (Or.inl ⟨by rfl, ?hy6_20⟩) trivial ?rest6_20
        case hy6_20 => (intro u hu; go_simp; try with_reducible rfl)
        simp only [Act.put]
        refine wpHead_alone (i := 1) rfl (by kernel_rfl) (by kernel_rfl) (by rfl) ?_
        intro K1 hK1
        have HK1 := hide hK1
        clear hK1
        go_simp
        refine HNX.out.mono ?_
        rintro e w6 ⟨rfl, hS6⟩
        exact ⟨rfl, Or.inl ⟨HE2.out, rfl, hS6⟩⟩
    · have HX : Hid ((leB 4 C).drop 1 = (C / 256 % 256) :: (leB 4 C).drop 2) := by unfold Hid; simp [leB, Nat.div_div_eq_div_mul]
      have qw : IntKind.i64.wrap 8 = 8 := by decide
      by_cases hk : k' < s.size
      · have HB := hide (byt_cons s k' hk)
        have HNX := hide (next_ok W w5.drew b k' s (HS.out.grown (grown_drew (grown_refl _ _))) hs hk)
        generalize s[k'].toNat = y at *
        by_cases hy : y = C / 256 % 256
        · have qy : ((y : Int) == IntKind.u8.wrap ((C : Int) / 256)) = true := by rw [IntKind.wrap_u8']; simp; omega
          have HE2 : Hid (rdLit ((leB 4 C).drop (2)) ((byt s).drop (k' + 1)) = rdLit (leB 4 C) ((byt s).drop k)) := by
            unfold Hid; rw [← HE.out, HB.out, HX.out, rdLit, if_pos hy]
          clear hy
          go_wp2_with fail
          refine wp_region_head (fun _ => True) 8 (by kernel_rfl) (by kernel_rfl) trivial ?_
          intro hHeld
          refine wpHead_take (i := 0) (v := ?vv0_21) rfl (by kernel_rfl) (fun _ _ _ h => h) (Or.inl ⟨by rfl, ?hy0_21⟩) trivial ?rest0_21
          case hy0_21 => (intro u hu; go_simp; try with_reducible rfl)
          simp only [Act.put, List.setIfInBounds_toArray]
          refine wpHead_take (i := 2) (v := ?vv2_22) rfl (by kernel_rfl) (fun _ _ _ h => h) (Or.inl ⟨by rfl, ?hy2_22⟩) trivial ?rest2_22
          case hy2_22 => (intro u hu; go_simp; try with_reducible rfl)
          simp only [Act.put]
          refine wpHead_take (i := 3) (v := ?vv3_23) rfl (by kernel_rfl) (fun _ _ _ h => h) (Or.inl ⟨by rfl, ?hy3_23⟩) trivial ?rest3_23
          case hy3_23 => (intro u hu; go_simp; try with_reducible rfl)
          simp only [Act.put]
          refine wpHead_take (i := 4) (v := ?vv4_24) rfl (by kernel_rfl) (fun _ _ _ h => h) (Or.inl ⟨by rfl, ?hy4_24⟩) trivial ?rest4_24
          case hy4_24 => (intro u hu; go_simp; try with_reducible rfl)
          simp only [Act.put]
          refine wpHead_take (i := 5) (v := ?vv5_25) rfl (by kernel_rfl) (fun _ _ _ h => h) (Or.inl ⟨by rfl, ?hy5_25⟩) trivial ?rest5_25
          case hy5_25 => (intro u hu; go_simp; try with_reducible rfl)
          simp only [Act.put]
          refine wpHead_take (i := 6) (v := ?vv6_26) rfl (by kernel_rfl) (fun _ _ _ h => h) (Or.inl ⟨by rfl, ?hy6_26⟩) trivial ?rest6_26
          case hy6_26 => (intro u hu; go_simp; try with_reducible rfl)
          simp only [Act.put]
          refine wpHead_alone (i := 1) rfl (by kernel_rfl) (by kernel_rfl) (by rfl) ?_
          intro K1 hK1
          have HK1 := hide hK1
          clear hK1
          go_simp
          refine HNX.out.mono ?_
          rintro e w6 ⟨rfl, hS6⟩
          have HS6 := hide hS6
          clear hS6
          refine HK1.out _ _ trivial ?_
          clear HK1
          try simp only [Act.put, List.setIfInBounds_toArray]
          refine wpHead_take (i := 7) (v := ?vv7_27) rfl (by kernel_rfl) (fun _ _ _ h => h) (Or.inl ⟨by rfl, ?hy7_27⟩) trivial ?rest7_27
          case hy7_27 => (intro u hu; go_simp; try with_reducible rfl)
          simp only [Act.put]
          refine wpHead_last rfl (by kernel_rfl) (by kernel_rfl) (by rfl) ?_
          go_simp
          refine (must_ok _).mono ?_
          rintro e w7 ⟨⟨v7, rfl⟩, rfl⟩
          go_wp2_with fail
          go_roundw
          case rel => exact ⟨2, k' + 1, by omega, by first | rfl | go_num, HS6, HE2⟩
          case measure => simp [intOf]
        · have qy : ((y : Int) == IntKind.u8.wrap ((C : Int) / 256)) = false := by rw [IntKind.wrap_u8']; simp; omega
          have HE2 : Hid (rdLit (leB 4 C) ((byt s).drop k) = none) := by
            unfold Hid; rw [← HE.out, HB.out, HX.out, rdLit, if_neg hy]
          clear hy
          go_wp2_with fail
          refine wp_region_head (fun _ => True) 8 (by kernel_rfl) (by kernel_rfl) trivial ?_
          intro hHeld
          refine wpHead_take (i := 0) (v := ?vv0_28) rfl (by kernel_rfl) (fun _ _ _ h => h) (Or.inl ⟨by rfl, ?hy0_28⟩) trivial ?rest0_28
          case hy0_28 => (intro u hu; go_simp; try with_reducible rfl)
          simp only [Act.put, List.setIfInBounds_toArray]
          refine wpHead_take (i := 2) (v := ?vv2_29) rfl (by kernel_rfl) (fun _ _ _ h => h) (Or.inl ⟨by rfl, ?hy2_29⟩) trivial ?rest2_29
          case hy2_29 => (intro u hu; go_simp; try with_reducible rfl)
          simp only [Act.put]
          refine wpHead_take (i := 3) (v := ?vv3_30) rfl (by kernel_rfl) (fun _ _ _ h => h) (Or.inl ⟨by rfl, ?hy3_30⟩) trivial ?rest3_30
          case hy3_30 => (intro u hu; go_simp; try with_reducible rfl)
          simp only [Act.put]
          refine wpHead_take (i := 4) (v := ?vv4_31) rfl (by kernel_rfl) (fun _ _ _ h => h) (Or.inl ⟨by rfl, ?hy4_31⟩) trivial ?rest4_31
          case hy4_31 => (intro u hu; go_simp; try with_reducible rfl)
          simp only [Act.put]
          refine wpHead_take (i := 5) (v := ?vv5_32) rfl (by kernel_rfl) (fun _ _ _ h => h) (Or.inl ⟨by rfl, ?hy5_32⟩) trivial ?rest5_32
          case hy5_32 => (intro u hu; go_simp; try with_reducible rfl)
          simp only [Act.put]
          refine wpHead_take (i := 6) (v := ?vv6_33) rfl (by kernel_rfl) (fun _ _ _ h => h) (Or.inl ⟨by rfl, ?hy6_33⟩) trivial ?rest6_33
          case hy6_33 => (intro u hu; go_simp; try with_reducible rfl)
          simp only [Act.put]
          refine wpHead_alone (i := 1) rfl (by kernel_rfl) (by kernel_rfl) (by rfl) ?_
          intro K1 hK1
          have HK1 := hide hK1
          clear hK1
          go_simp
          refine HNX.out.mono ?_
          rintro e w6 ⟨rfl, hS6⟩
          have HS6 := hide hS6
          clear hS6
          refine HK1.out _ _ trivial ?_
          clear HK1
          try simp only [Act.put, List.setIfInBounds_toArray]
          refine wpHead_take (i := 7) (v := ?vv7_34) rfl (by kernel_rfl) (fun _ _ _ h => h) (Or.inl ⟨by rfl, ?hy7_34⟩) trivial ?rest7_34
          case hy7_34 => (intro u hu; go_simp; try with_reducible rfl)
          simp only [Act.put]
          refine wpHead_last rfl (by kernel_rfl) (by kernel_rfl) (by rfl) ?_
          go_simp
          refine (must_not _).mono ?_
          rintro e w7 ⟨rfl, rfl⟩
          exact ⟨rfl, Or.inl ⟨HE2.out, rfl, HS6.out.base⟩⟩
      · have e0 : Hid ((byt s).drop k' = []) := List.drop_eq_nil_iff.2 (by rw [byt_len]; omega)
        have HNX := hide (next_no W w5.drew b k' s (HS.out.grown (grown_drew (grown_refl _ _))) hs hk)
        have HE2 : Hid (rdLit (leB 4 C) ((byt s).drop k) = none) := by
          unfold Hid; rw [← HE.out, e0.out, HX.out, rdLit]
        go_wp2_with fail
        refine wp_region_head (fun _ => True) 8 (by kernel_rfl) (by kernel_rfl) trivial ?_
        intro hHeld
        refine wpHead_take (i := 0) (v := ?vv0_35) rfl (by kernel_rfl) (fun _ _ _ h => h) (Or.inl ⟨by rfl, ?hy0_35⟩) trivial ?rest0_35
        case hy0_35 => (intro u hu; go_simp; try with_reducible rfl)
        simp only [Act.put, List.setIfInBounds_toArray]
        refine wpHead_take (i := 2) (v := ?vv2_36) rfl (by kernel_rfl) (fun _ _ _ h => h) (Or.inl ⟨by rfl, ?hy2_36⟩) trivial ?rest2_36
        case hy2_36 => (intro u hu; go_simp; try with_reducible rfl)
        simp only [Act.put]
        refine wpHead_take (i := 3) (v := ?vv3_37) rfl (by kernel_rfl) (fun _ _ _ h => h) (Or.inl ⟨by rfl, ?hy3_37⟩) trivial ?rest3_37
        case hy3_37 => (intro u hu; go_simp; try with_reducible rfl)
        simp only [Act.put]
        refine wpHead_take (i := 4) (v := ?vv4_38) rfl (by kernel_rfl) (fun _ _ _ h => h) (Or.inl ⟨by rfl, ?hy4_38⟩) trivial ?rest4_38
        case hy4_38 => (intro u hu; go_simp; try with_reducible rfl)
        simp only [Act.put]
        refine wpHead_take (i := 5) (v := ?vv5_39) rfl (by kernel_rfl) (fun _ _ _ h => h) (Or.inl ⟨by rfl, ?hy5_39⟩) trivial ?rest5_39
        case hy5_39 => (intro u hu; go_simp; try with_reducible rfl)
        simp only [Act.put]
        refine wpHead_take (i := 6) (v := ?vv6_40) rfl (by kernel_rfl) (fun _ _ _ h => h) (Or.inl ⟨by rfl, ?hy6_40⟩) trivial ?rest6_40
        case hy6_40 => (intro u hu; go_simp; try with_reducible rfl)
        simp only [Act.put]
        refine wpHead_alone (i := 1) rfl (by kernel_rfl) (by kernel_rfl) (by rfl) ?_
        intro K1 hK1
        have HK1 := hide hK1
        clear hK1
        go_simp
        refine HNX.out.mono ?_
        rintro e w6 ⟨rfl, hS6⟩
        exact ⟨rfl, Or.inl ⟨HE2.out, rfl, hS6⟩⟩
    · have HX : Hid ((leB 4 C).drop 2 = (C / 65536 % 256) :: (leB 4 C).drop 3) := by unfold Hid; simp [leB, Nat.div_div_eq_div_mul]
      have qw : IntKind.i64.wrap 16 = 16 := by decide
      by_cases hk : k' < s.size
      · have HB := hide (byt_cons s k' hk)
        have HNX := hide (next_ok W w5.drew b k' s (HS.out.grown (grown_drew (grown_refl _ _))) hs hk)
        generalize s[k'].toNat = y at *
        by_cases hy : y = C / 65536 % 256
        · have qy : ((y : Int) == IntKind.u8.wrap ((C : Int) / 65536)) = true := by rw [IntKind.wrap_u8']; simp; omega
          have HE2 : Hid (rdLit ((leB 4 C).drop (3)) ((byt s).drop (k' + 1)) = rdLit (leB 4 C) ((byt s).drop k)) := by
            unfold Hid; rw [← HE.out, HB.out, HX.out, rdLit, if_pos hy]
          clear hy
          go_wp2_with fail
          refine wp_region_head (fun _ => True) 8 (by kernel_rfl) (by kernel_rfl) trivial ?_
          intro hHeld
          refine wpHead_take (i := 0) (v := ?vv0_41) rfl (by kernel_rfl) (fun _ _ _ h => h) (Or.inl ⟨by rfl, ?hy0_41⟩) trivial ?rest0_41
          case hy0_41 => (intro u hu; go_simp; try with_reducible rfl)
          simp only [Act.put, List.setIfInBounds_toArray]
          refine wpHead_take (i := 2) (v := ?vv2_42) rfl (by kernel_rfl) (fun _ _ _ h => h) (Or.inl ⟨by rfl, ?hy2_42⟩) trivial ?rest2_42
          case hy2_42 => (intro u hu; go_simp; try with_reducible rfl)
          simp only [Act.put]
          refine wpHead_take (i := 3) (v := ?vv3_43) rfl (by kernel_rfl) (fun _ _ _ h => h) (Or.inl ⟨by rfl, ?hy3_43⟩) trivial ?rest3_43
          case hy3_43 => (intro u hu; go_simp; try with_reducible rfl)
          simp only [Act.put]
          refine wpHead_take (i := 4) (v := ?vv4_44) rfl (by kernel_rfl) (fun _ _ _ h => h) (Or.inl ⟨by rfl, ?hy4_44⟩) trivial ?rest4_44
          case hy4_44 => (intro u hu; go_simp; try with_reducible rfl)
          simp only [Act.put]
          refine wpHead_take (i := 5) (v := ?vv5_45) rfl (by kernel_rfl) (fun _ _ _ h => h) (Or.inl ⟨by rfl, ?hy5_45⟩) trivial ?rest5_45
          case hy5_45 => (intro u hu; go_simp; try with_reducible rfl)
          simp only [Act.put]
          refine wpHead_take (i := 6) (v := ?vv6_46) rfl (by kernel_rfl) (fun _ _ _ h => h) (Or.inl ⟨by rfl, ?hy6_46⟩) trivial ?rest6_46
          case hy6_46 => (intro u hu; go_simp; try with_reducible rfl)
          simp only [Act.put]
          refine wpHead_alone (i := 1) rfl (by kernel_rfl) (by kernel_rfl) (by rfl) ?_
          intro K1 hK1
          have HK1 := hide hK1
          clear hK1
          go_simp
          refine HNX.out.mono ?_
          rintro e w6 ⟨rfl, hS6⟩
          have HS6 := hide hS6
          clear hS6
          refine HK1.out _ _ trivial ?_
          clear HK1
          try simp only [Act.put, List.setIfInBounds_toArray]
          refine wpHead_take (i := 7) (v := ?vv7_47) rfl (by kernel_rfl) (fun _ _ _ h => h) (Or.inl ⟨by rfl, ?hy7_47⟩) trivial ?rest7_47
          case hy7_47 => (intro u hu; go_simp; try with_reducible rfl)
          simp only [Act.put]
          refine wpHead_last rfl (by kernel_rfl) (by kernel_rfl) (by rfl) ?_
          go_simp
          refine (must_ok _).mono ?_
          rintro e w7 ⟨⟨v7, rfl⟩, rfl⟩
          go_wp2_with fail
          go_roundw
          case rel => exact ⟨3, k' + 1, by omega, by first | rfl | go_num, HS6, HE2⟩
          case measure => simp [intOf]
        · have qy : ((y : Int) == IntKind.u8.wrap ((C : Int) / 65536)) = false := by rw [IntKind.wrap_u8']; simp; omega
          have HE2 : Hid (rdLit (leB 4 C) ((byt s).drop k) = none) := by
            unfold Hid; rw [← HE.out, HB.out, HX.out, rdLit, if_neg hy]
          clear hy
          go_wp2_with fail
          refine wp_region_head (fun _ => True) 8 (by kernel_rfl) (by kernel_rfl) trivial ?_
          intro hHeld
          refine wpHead_take (i := 0) (v := ?vv0_48) rfl (by kernel_rfl) (fun _ _ _ h => h) (Or.inl ⟨by rfl, ?hy0_48⟩) trivial ?rest0_48
          case hy0_48 => (intro u hu; go_simp; try with_reducible rfl)
          simp only [Act.put, List.setIfInBounds_toArray]
          refine wpHead_take (i := 2) (v := ?vv2_49) rfl (by kernel_rfl) (fun _ _ _ h => h) (Or.inl ⟨by rfl, ?hy2_49⟩) trivial ?rest2_49
          case hy2_49 => (intro u hu; go_simp; try with_reducible rfl)
          simp only [Act.put]
          refine wpHead_take (i := 3) (v := ?vv3_50) rfl (by kernel_rfl) (fun _ _ _ h => h) (Or.inl ⟨by rfl, ?hy3_50⟩) trivial ?rest3_50
          case hy3_50 => (intro u hu; go_simp; try with_reducible rfl)
          simp only [Act.put]
          refine wpHead_take (i := 4) (v := ?vv4_51) rfl (by kernel_rfl) (fun _ _ _ h => h) (Or.inl ⟨by rfl, ?hy4_51⟩) trivial ?rest4_51
          case hy4_51 => (intro u hu; go_simp; try with_reducible rfl)
          simp only [Act.put]
          refine wpHead_take (i := 5) (v := ?vv5_52) rfl (by kernel_rfl) (fun _ _ _ h => h) (Or.inl ⟨by rfl, ?hy5_52⟩) trivial ?rest5_52
          case hy5_52 => (intro u hu; go_simp; try with_reducible rfl)
          simp only [Act.put]
          refine wpHead_take (i := 6) (v := ?vv6_53) rfl (by kernel_rfl) (fun _ _ _ h => h) (Or.inl ⟨by rfl, ?hy6_53⟩) trivial ?rest6_53
          case hy6_53 => (intro u hu; go_simp; try with_reducible rfl)
          simp only [Act.put]
          refine wpHead_alone (i := 1) rfl (by kernel_rfl) (by kernel_rfl) (by rfl) ?_
          intro K1 hK1
          have HK1 := hide hK1
          clear hK1
          go_simp
          refine HNX.out.mono ?_
          rintro e w6 ⟨rfl, hS6⟩
          have HS6 := hide hS6
          clear hS6
          refine HK1.out _ _ trivial ?_
          clear HK1
          try simp only [Act.put, List.setIfInBounds_toArray]
          refine wpHead_take (i := 7) (v := ?vv7_54) rfl (by kernel_rfl) (fun _ _ _ h => h) (Or.inl ⟨by rfl, ?hy7_54⟩) trivial ?rest7_54
          case hy7_54 => (intro u hu; go_simp; try with_reducible rfl)
          simp only [Act.put]
          refine wpHead_last rfl (by kernel_rfl) (by kernel_rfl) (by rfl) ?_
          go_simp
          refine (must_not _).mono ?_
          rintro e w7 ⟨rfl, rfl⟩
          exact ⟨rfl, Or.inl ⟨HE2.out, rfl, HS6.out.base⟩⟩
      · have e0 : Hid ((byt s).drop k' = []) := List.drop_eq_nil_iff.2 (by rw [byt_len]; omega)
        have HNX := hide (next_no W w5.drew b k' s (HS.out.grown (grown_drew (grown_refl _ _))) hs hk)
        have HE2 : Hid (rdLit (leB 4 C) ((byt s).drop k) = none) := by
          unfold Hid; rw [← HE.out, e0.out, HX.out, rdLit]
        go_wp2_with fail
        refine wp_region_head (fun _ => True) 8 (by kernel_rfl) (by kernel_rfl) trivial ?_
        intro hHeld
        refine wpHead_take (i := 0) (v := ?vv0_55) rfl (by kernel_rfl) (fun _ _ _ h => h) (Or.inl ⟨by rfl, ?hy0_55⟩) trivial ?rest0_55
        case hy0_55 => (intro u hu; go_simp; try with_reducible rfl)
        simp only [Act.put, List.setIfInBounds_toArray]
        refine wpHead_take (i := 2) (v := ?vv2_56) rfl (by kernel_rfl) (fun _ _ _ h => h) (Or.inl ⟨by rfl, ?hy2_56⟩) trivial ?rest2_56
        case hy2_56 => (intro u hu; go_simp; try with_reducible rfl)
        simp only [Act.put]
        refine wpHead_take (i := 3) (v := ?vv3_57) rfl (by kernel_rfl) (fun _ _ _ h => h) (Or.inl ⟨by rfl, ?hy3_57⟩) trivial ?rest3_57
        case hy3_57 => (intro u hu; go_simp; try with_reducible rfl)
        simp only [Act.put]
        refine wpHead_take (i := 4) (v := ?vv4_58) rfl (by kernel_rfl) (fun _ _ _ h => h) (Or.inl ⟨by rfl, ?hy4_58⟩) trivial ?rest4_58
        case hy4_58 => (intro u hu; go_simp; try with_reducible rfl)
        simp only [Act.put]
        refine wpHead_take (i := 5) (v := ?vv5_59) rfl (by kernel_rfl) (fun _ _ _ h => h) (Or.inl ⟨by rfl, ?hy5_59⟩) trivial ?rest5_59
        case hy5_59 => (intro u hu; go_simp; try with_reducible rfl)
        simp only [Act.put]
        refine wpHead_take (i := 6) (v := ?vv6_60) rfl (by kernel_rfl) (fun _ _ _ h => h) (Or.inl ⟨by rfl, ?hy6_60⟩) trivial ?rest6_60
        case hy6_60 => (intro u hu; go_simp; try with_reducible rfl)
        simp only [Act.put]
        refine wpHead_alone (i := 1) rfl (by kernel_rfl) (by kernel_rfl) (by rfl) ?_
        intro K1 hK1
        have HK1 := hide hK1
        clear hK1
        go_simp
        refine HNX.out.mono ?_
        rintro e w6 ⟨rfl, hS6⟩
        exact ⟨rfl, Or.inl ⟨HE2.out, rfl, hS6⟩⟩
    · have HX : Hid ((leB 4 C).drop 3 = (C / 16777216 % 256) :: (leB 4 C).drop 4) := by unfold Hid; simp [leB, Nat.div_div_eq_div_mul]
      have qw : IntKind.i64.wrap 24 = 24 := by decide
      by_cases hk : k' < s.size
      · have HB := hide (byt_cons s k' hk)
        have HNX := hide (next_ok W w5.drew b k' s (HS.out.grown (grown_drew (grown_refl _ _))) hs hk)
        generalize s[k'].toNat = y at *
        by_cases hy : y = C / 16777216 % 256
        · have qy : ((y : Int) == IntKind.u8.wrap ((C : Int) / 16777216)) = true := by rw [IntKind.wrap_u8']; simp; omega
          have HE2 : Hid (rdLit ((leB 4 C).drop (4)) ((byt s).drop (k' + 1)) = rdLit (leB 4 C) ((byt s).drop k)) := by
            unfold Hid; rw [← HE.out, HB.out, HX.out, rdLit, if_pos hy]
          clear hy
          go_wp2_with fail
          refine wp_region_head (fun _ => True) 8 (by kernel_rfl) (by kernel_rfl) trivial ?_
          intro hHeld
          refine wpHead_take (i := 0) (v := ?vv0_61) rfl (by kernel_rfl) (fun _ _ _ h => h) (Or.inl ⟨by rfl, ?hy0_61⟩) trivial ?rest0_61
          case hy0_61 => (intro u hu; go_simp; try with_reducible rfl)
          simp only [Act.put, List.setIfInBounds_toArray]
          refine wpHead_take (i := 2) (v := ?vv2_62) rfl (by kernel_rfl) (fun _ _ _ h => h) (Or.inl ⟨by rfl, ?hy2_62⟩) trivial ?rest2_62
          case hy2_62 => (intro u hu; go_simp; try with_reducible rfl)
          simp only [Act.put]
          refine wpHead_take (i := 3) (v := ?vv3_63) rfl (by kernel_rfl) (fun _ _ _ h => h) (Or.inl ⟨by rfl, ?hy3_63⟩) trivial ?rest3_63
          case hy3_63 => (intro u hu; go_simp; try with_reducible rfl)
          simp only [Act.put]
          refine wpHead_take (i := 4) (v := ?vv4_64) rfl (by kernel_rfl) (fun _ _ _ h => h) (Or.inl ⟨by rfl, ?hy4_64⟩) trivial ?rest4_64
          case hy4_64 => (intro u hu; go_simp; try with_reducible rfl)
          simp only [Act.put]
          refine wpHead_take (i := 5) (v := ?vv5_65) rfl (by kernel_rfl) (fun _ _ _ h => h) (Or.inl ⟨by rfl, ?hy5_65⟩) trivial ?rest5_65
          case hy5_65 => (intro u hu; go_simp; try with_reducible rfl)
          simp only [Act.put]
          refine wpHead_take (i := 6) (v := ?vv6_66) rfl (by kernel_rfl) (fun _ _ _ h => h) (Or.inl ⟨by rfl, ?hy6_66⟩) trivial ?rest6_66
          case hy6_66 => (intro u hu; go_simp; try with_reducible rfl)
          simp only [Act.put]
          refine wpHead_alone (i := 1) rfl (by kernel_rfl) (by kernel_rfl) (by rfl) ?_
          intro K1 hK1
          have HK1 := hide hK1
          clear hK1
          go_simp
          refine HNX.out.mono ?_
          rintro e w6 ⟨rfl, hS6⟩
          have HS6 := hide hS6
          clear hS6
          refine HK1.out _ _ trivial ?_
          clear HK1
          try simp only [Act.put, List.setIfInBounds_toArray]
          refine wpHead_take (i := 7) (v := ?vv7_67) rfl (by kernel_rfl) (fun _ _ _ h => h) (Or.inl ⟨by rfl, ?hy7_67⟩) trivial ?rest7_67
          case hy7_67 => (intro u hu; go_simp; try with_reducible rfl)
          simp only [Act.put]
          refine wpHead_last rfl (by kernel_rfl) (by kernel_rfl) (by rfl) ?_
          go_simp
          refine (must_ok _).mono ?_
          rintro e w7 ⟨⟨v7, rfl⟩, rfl⟩
          go_wp2_with fail
          go_roundw
          case rel => exact ⟨4, k' + 1, by omega, by first | rfl | go_num, HS6, HE2⟩
          case measure => simp [intOf]
        · have qy : ((y : Int) == IntKind.u8.wrap ((C : Int) / 16777216)) = false := by rw [IntKind.wrap_u8']; simp; omega
          have HE2 : Hid (rdLit (leB 4 C) ((byt s).drop k) = none) := by
            unfold Hid; rw [← HE.out, HB.out, HX.out, rdLit, if_neg hy]
          clear hy
          go_wp2_with fail
          refine wp_region_head (fun _ => True) 8 (by kernel_rfl) (by kernel_rfl) trivial ?_
          intro hHeld
          refine wpHead_take (i := 0) (v := ?vv0_68) rfl (by kernel_rfl) (fun _ _ _ h => h) (Or.inl ⟨by rfl, ?hy0_68⟩) trivial ?rest0_68
          case hy0_68 => (intro u hu; go_simp; try with_reducible rfl)
          simp only [Act.put, List.setIfInBounds_toArray]
          refine wpHead_take (i := 2) (v := ?vv2_69) rfl (by kernel_rfl) (fun _ _ _ h => h) (Or.inl ⟨by rfl, ?hy2_69⟩) trivial ?rest2_69
          case hy2_69 => (intro u hu; go_simp; try with_reducible rfl)
          simp only [Act.put]
          refine wpHead_take (i := 3) (v := ?vv3_70) rfl (by kernel_rfl) (fun _ _ _ h => h) (Or.inl ⟨by rfl, ?hy3_70⟩) trivial ?rest3_70
          case hy3_70 => (intro u hu; go_simp; try with_reducible rfl)
          simp only [Act.put]
          refine wpHead_take (i := 4) (v := ?vv4_71) rfl (by kernel_rfl) (fun _ _ _ h => h) (Or.inl ⟨by rfl, ?hy4_71⟩) trivial ?rest4_71
          case hy4_71 => (intro u hu; go_simp; try with_reducible rfl)
          simp only [Act.put]
          refine wpHead_take (i := 5) (v := ?vv5_72) rfl (by kernel_rfl) (fun _ _ _ h => h) (Or.inl ⟨by rfl, ?hy5_72⟩) trivial ?rest5_72
          case hy5_72 => (intro u hu; go_simp; try with_reducible rfl)
          simp only [Act.put]
          refine wpHead_take (i := 6) (v := ?vv6_73) rfl (by kernel_rfl) (fun _ _ _ h => h) (Or.inl ⟨by rfl, ?hy6_73⟩) trivial ?rest6_73
          case hy6_73 => (intro u hu; go_simp; try with_reducible rfl)
          simp only [Act.put]
          refine wpHead_alone (i := 1) rfl (by kernel_rfl) (by kernel_rfl) (by rfl) ?_
          intro K1 hK1
          have HK1 := hide hK1
          clear hK1
          go_simp
          refine HNX.out.mono ?_
          rintro e w6 ⟨rfl, hS6⟩
          have HS6 := hide hS6
          clear hS6
          refine HK1.out _ _ trivial ?_
          clear HK1
          try simp only [Act.put, List.setIfInBounds_toArray]
          refine wpHead_take (i := 7) (v := ?vv7_74) rfl (by kernel_rfl) (fun _ _ _ h => h) (Or.inl ⟨by rfl, ?hy7_74⟩) trivial ?rest7_74
          case hy7_74 => (intro u hu; go_simp; try with_reducible rfl)
          simp only [Act.put]
          refine wpHead_last rfl (by kernel_rfl) (by kernel_rfl) (by rfl) ?_
          go_simp
          refine (must_not _).mono ?_
          rintro e w7 ⟨rfl, rfl⟩
          exact ⟨rfl, Or.inl ⟨HE2.out, rfl, HS6.out.base⟩⟩
      · have e0 : Hid ((byt s).drop k' = []) := List.drop_eq_nil_iff.2 (by rw [byt_len]; omega)
        have HNX := hide (next_no W w5.drew b k' s (HS.out.grown (grown_drew (grown_refl _ _))) hs hk)
        have HE2 : Hid (rdLit (leB 4 C) ((byt s).drop k) = none) := by
          unfold Hid; rw [← HE.out, e0.out, HX.out, rdLit]
        go_wp2_with fail
        refine wp_region_head (fun _ => True) 8 (by kernel_rfl) (by kernel_rfl) trivial ?_
        intro hHeld
        refine wpHead_take (i := 0) (v := ?vv0_75) rfl (by kernel_rfl) (fun _ _ _ h => h) (Or.inl ⟨by rfl, ?hy0_75⟩) trivial ?rest0_75
        case hy0_75 => (intro u hu; go_simp; try with_reducible rfl)
        simp only [Act.put, List.setIfInBounds_toArray]
        refine wpHead_take (i := 2) (v := ?vv2_76) rfl (by kernel_rfl) (fun _ _ _ h => h) (Or.inl ⟨by rfl, ?hy2_76⟩) trivial ?rest2_76
        case hy2_76 => (intro u hu; go_simp; try with_reducible rfl)
        simp only [Act.put]
        refine wpHead_take (i := 3) (v := ?vv3_77) rfl (by kernel_rfl) (fun _ _ _ h => h) (Or.inl ⟨by rfl, ?hy3_77⟩) trivial ?rest3_77
        case hy3_77 => (intro u hu; go_simp; try with_reducible rfl)
        simp only [Act.put]
        refine wpHead_take (i := 4) (v := ?vv4_78) rfl (by kernel_rfl) (fun _ _ _ h => h) (Or.inl ⟨by rfl, ?hy4_78⟩) trivial ?rest4_78
        case hy4_78 => (intro u hu; go_simp; try with_reducible rfl)
        simp only [Act.put]
        refine wpHead_take (i := 5) (v := ?vv5_79) rfl (by kernel_rfl) (fun _ _ _ h => h) (Or.inl ⟨by rfl, ?hy5_79⟩) trivial ?rest5_79
        case hy5_79 => (intro u hu; go_simp; try with_reducible rfl)
        simp only [Act.put]
        refine wpHead_take (i := 6) (v := ?vv6_80) rfl (by kernel_rfl) (fun _ _ _ h => h) (Or.inl ⟨by rfl, ?hy6_80⟩) trivial ?rest6_80
        case hy6_80 => (intro u hu; go_simp; try with_reducible rfl)
        simp only [Act.put]
        refine wpHead_alone (i := 1) rfl (by kernel_rfl) (by kernel_rfl) (by rfl) ?_
        intro K1 hK1
        have HK1 := hide hK1
        clear hK1
        go_simp
        refine HNX.out.mono ?_
        rintro e w6 ⟨rfl, hS6⟩
        exact ⟨rfl, Or.inl ⟨HE2.out, rfl, hS6⟩⟩
    · have HE2 : Hid (rdLit (leB 4 C) ((byt s).drop k) = some ((), (byt s).drop k')) := by
        unfold Hid; rw [← HE.out]; rfl
      go_wp2_with fail
      go_end0
      exact Or.inr ⟨(), _, _, k', HE2.out, rfl, trivial, HS.out, rfl⟩

end Go.Proofs.YtklenjmfalljgaaGreatDoor

/- The walk of artifact.Check. -/
namespace Go.Proofs.YtklenjmfalljgaaGreatDoor
open Go.RowKit
attribute [local go_sem] Go.World.cell?_alloc_some

def inB (x lo hi : Int) : Bool := decide (lo ≤ x) && decide (x ≤ hi)

set_option maxRecDepth 100000 in
set_option maxHeartbeats 400000 in
theorem within_m (x lo hi : Int) (w : World) : Calls Tryz.prog 91 #[.int .i64 x, .int .i64 lo, .int .i64 hi] w fun e w' => e = .returned (.bool (inB x lo hi)) ∧ w' = w := by
  by_cases h1 : lo ≤ x
  · by_cases h2 : x ≤ hi
    · have HB : Hid (inB x lo hi = true) := by unfold Hid inB; simp [h1, h2]
      go_enter Tryz.func91, Tryz.ntmps91
      go_wp2_with fail
      go_ret
      exact ⟨by first | rfl | (rw [HB.out]; rfl), rfl⟩
    · have HB : Hid (inB x lo hi = false) := by unfold Hid inB; simp [h2]
      have q2 : decide (x ≤ hi) = false := by simp; omega
      go_enter Tryz.func91, Tryz.ntmps91
      go_wp2_with fail
      go_ret
      exact ⟨by first | rfl | (rw [HB.out]; rfl), rfl⟩
  · have HB : Hid (inB x lo hi = false) := by unfold Hid inB; simp [h1]
    have q2 : decide (lo ≤ x) = false := by simp; omega
    go_enter Tryz.func91, Tryz.ntmps91
    go_wp2_with fail
    go_ret
    exact ⟨by first | rfl | (rw [HB.out]; rfl), rfl⟩

theorem verOk_in (a b c : Int) : verOk (a, b, c) = (inB a 1 5 && inB b 0 3 && inB c 0 500) := rfl

set_option maxRecDepth 100000 in
set_option maxHeartbeats 400000 in
theorem validVerdict_m (v : Int × Int × Int) (w : World) : Calls Tryz.prog 61 #[verA v] w fun e w' => e = .returned (.bool (verOk v)) ∧ w.grownBy w' none := by
  obtain ⟨a, b, c⟩ := v
  unfold verA
  cases h1 : inB a 1 5 with
  | false =>
    have HV : Hid (verOk (a, b, c) = false) := by unfold Hid; rw [verOk_in]; simp only [h1]; rfl
    go_enter Tryz.func61, Tryz.ntmps61
    go_wp2_with (go_at_call 91; refine (within_m _ _ _ _).mono ?_; rintro e w1 ⟨rfl, rfl⟩)
    go_ret
    exact ⟨by rw [HV.out]; rfl, grown_alloc (grown_refl _ _)⟩
  | true =>
    cases h2 : inB b 0 3 with
    | false =>
      have HV : Hid (verOk (a, b, c) = false) := by unfold Hid; rw [verOk_in]; simp only [h1, h2]; rfl
      go_enter Tryz.func61, Tryz.ntmps61
      go_wp2_with (go_at_call 91; refine (within_m _ _ _ _).mono ?_; rintro e w1 ⟨rfl, rfl⟩)
      go_ret
      exact ⟨by rw [HV.out]; rfl, grown_alloc (grown_refl _ _)⟩
    | true =>
      cases h3 : inB c 0 500 with
      | false =>
        have HV : Hid (verOk (a, b, c) = false) := by unfold Hid; rw [verOk_in]; simp only [h1, h2, h3]; rfl
        go_enter Tryz.func61, Tryz.ntmps61
        go_wp2_with (go_at_call 91; refine (within_m _ _ _ _).mono ?_; rintro e w1 ⟨rfl, rfl⟩)
        go_ret
        exact ⟨by rw [HV.out]; rfl, grown_alloc (grown_refl _ _)⟩
      | true =>
        have HV : Hid (verOk (a, b, c) = true) := by unfold Hid; rw [verOk_in]; simp only [h1, h2, h3]; rfl
        go_enter Tryz.func61, Tryz.ntmps61
        go_wp2_with (go_at_call 91; refine (within_m _ _ _ _).mono ?_; rintro e w1 ⟨rfl, rfl⟩)
        go_ret
        exact ⟨by rw [HV.out]; rfl, grown_alloc (grown_refl _ _)⟩

end Go.Proofs.YtklenjmfalljgaaGreatDoor

/- The walk of artifact.Check. -/
namespace Go.Proofs.YtklenjmfalljgaaGreatDoor
open Go.RowKit
attribute [local go_sem] Go.World.cell?_alloc_some

/-- An artifact's value: the program's threads, the schedule, the verdict. -/
def artA (tv sv : Value) (v : Int × Int × Int) : Value := .agg #[tv, sv, .int .i64 v.1, .int .i64 v.2.1, .int .i64 v.2.2]

set_option maxRecDepth 100000 in
set_option maxHeartbeats 400000 in
theorem acheck_m (a : Art) (tv sv : Value) (w : World) (hSh : ShpAt w) (hP : ProgAt w (.agg #[tv]) a.prog) (hS : IntsAt w.heap.size w sv a.sch) :
    Calls Tryz.prog 38 #[artA tv sv a.ver] w fun e w' => e = .returned (.int .i64 (artE a)) ∧ w.grownBy w' none := by
  obtain ⟨p, l, v⟩ := a
  obtain ⟨v1, v2, v3⟩ := v
  simp only at hP hS ⊢
  have HP := hide hP
  have HS := hide hS
  obtain ⟨ta, tc, e1⟩ := hP.form
  simp only [Value.agg.injEq, Array.mk.injEq, List.cons.injEq, and_true] at e1
  subst e1
  obtain ⟨sa, sc, rfl⟩ := hS.form
  have HSh := hide hSh
  clear hP hS hSh
  unfold artA
  simp only
  have hg1 : w.grownBy (w.alloc (.cells #[.slice ta p.length tc, .slice sa l.length sc, .int .i64 v1, .int .i64 v2, .int .i64 v3] 49)) none := grown_alloc (grown_refl _ _)
  have HB1 : Hid ((w.alloc (.cells #[.slice ta p.length tc, .slice sa l.length sc, .int .i64 v1, .int .i64 v2, .int .i64 v3] 49)).heap[w.heap.size]? = some (.cells #[.slice ta p.length tc, .slice sa l.length sc, .int .i64 v1, .int .i64 v2, .int .i64 v3] 49 (0, 0))) := heap_alloc_new _ _
  have HV1 := hide (valid_m p _ _ (ShpAt.pres HSh.out (pres_grown hg1)) (HP.out.pres (pres_grown hg1)))
  have HG1 := hide hg1
  clear hg1
  cases hv : vProg p with
  | false =>
    have HA : Hid (artE ⟨p, l, (v1, v2, v3)⟩ = 1) := by unfold Hid artE; rw [if_neg (by rw [hv]; simp)]
    rw [hv] at HV1
    clear hv
    go_enter Tryz.func38, Tryz.ntmps38
    go_wp2_with (go_at_call 53; refine HV1.out.mono ?_; rintro e w2 ⟨rfl, hg2⟩)
    go_ret
    exact ⟨by rw [HA.out]; rfl, grown_trans HG1.out hg2⟩
  | true =>
    rw [hv] at HV1
    have HAV := hide hv
    clear hv
    go_enter Tryz.func38, Tryz.ntmps38
    go_wp2_with fail
    refine HV1.out.mono ?_
    rintro e w2 ⟨rfl, hg2⟩
    have HG2 := hide (grown_trans HG1.out hg2)
    have hB2 : w2.heap[w.heap.size]? = some (.cells #[.slice ta p.length tc, .slice sa l.length sc, .int .i64 v1, .int .i64 v2, .int .i64 v3] 49 (0, 0)) := by
      rw [hg2.block _ (by simp) (by simp)]; exact HB1.out
    have k1 : w2.cell? ⟨w.heap.size, 1, none⟩ = some (.slice sa l.length sc) := by simp [World.cell?, hB2]
    have HV2 := hide (valid_t l (.slice sa l.length sc) w2 ((HS.out.pres (pres_grown HG2.out)).mono HG2.out.size))
    have HB2 := hide hB2
    clear hg2 hB2
    cases hv2 : validS l with
    | false =>
      have HA : Hid (artE ⟨p, l, (v1, v2, v3)⟩ = 2) := by unfold Hid artE; rw [if_pos HAV.out, if_neg (by rw [hv2]; simp)]
      rw [hv2] at HV2
      clear hv2
      go_wp2_with (go_at_call 41; refine HV2.out.mono ?_; rintro e w3 ⟨rfl, hg3⟩)
      go_ret
      exact ⟨by rw [HA.out]; rfl, grown_trans HG2.out hg3⟩
    | true =>
      rw [hv2] at HV2
      have HAS := hide hv2
      clear hv2
      go_wp2_with fail
      refine HV2.out.mono ?_
      rintro e w3 ⟨rfl, hg3⟩
      have HG3 := hide (grown_trans HG2.out hg3)
      have hB3 : w3.heap[w.heap.size]? = some (.cells #[.slice ta p.length tc, .slice sa l.length sc, .int .i64 v1, .int .i64 v2, .int .i64 v3] 49 (0, 0)) := by
        rw [hg3.block _ (Array.getElem?_eq_some_iff.1 HB2.out).1 (by simp)]; exact HB2.out
      have k2 : w3.cell? ⟨w.heap.size, 2, none⟩ = some (.int .i64 v1) := by simp [World.cell?, hB3]
      have k3 : w3.cell? ⟨w.heap.size, 3, none⟩ = some (.int .i64 v2) := by simp [World.cell?, hB3]
      have k4 : w3.cell? ⟨w.heap.size, 4, none⟩ = some (.int .i64 v3) := by simp [World.cell?, hB3]
      have HV3 := hide (validVerdict_m (v1, v2, v3) w3)
      clear hg3 hB3 k1
      cases hv3 : verOk (v1, v2, v3) with
      | false =>
        have HA : Hid (artE ⟨p, l, (v1, v2, v3)⟩ = 2) := by unfold Hid artE; rw [if_pos HAV.out, if_neg (by rw [hv3]; simp)]
        rw [hv3] at HV3
        clear hv3
        go_wp2_with (go_at_call 61; refine HV3.out.mono ?_; rintro e w4 ⟨rfl, hg4⟩)
        go_ret
        exact ⟨by rw [HA.out]; rfl, grown_trans HG3.out hg4⟩
      | true =>
        have HA : Hid (artE ⟨p, l, (v1, v2, v3)⟩ = 0) := by unfold Hid artE; rw [if_pos HAV.out, if_pos ⟨HAS.out, hv3⟩]
        rw [hv3] at HV3
        clear hv3
        go_wp2_with (go_at_call 61; refine HV3.out.mono ?_; rintro e w4 ⟨rfl, hg4⟩)
        go_ret
        exact ⟨by rw [HA.out]; rfl, grown_trans HG3.out hg4⟩

end Go.Proofs.YtklenjmfalljgaaGreatDoor

/- The walk of the reader's artifact. -/
namespace Go.Proofs.YtklenjmfalljgaaGreatDoor
open Go.RowKit
attribute [local go_sem] Go.World.cell?_alloc_some

theorem ThrAt.low {L L' B : Nat} {w : World} {tv : Value} {p : List (List Ins)} (h : ThrAt L B w tv p) (hl : L' ≤ L) : ThrAt L' B w tv p := by
  obtain ⟨rows, h1, h2, h3⟩ := h
  refine ⟨rows, owns_mono h1 hl, h2, fun j hj => ?_⟩
  obtain ⟨rv, e1, e2, e3⟩ := h3 j hj
  exact ⟨rv, e1, owns_mono e2 hl, e3⟩

def decT (l : List Nat) (a : Art) (r3 : List Nat) : Option Art := if r3 = leB 4 (crcN (l.take (l.length - r3.length))) ∧ artE a = 0 then some a else none
def decV (l : List Nat) (p : List (List Ins)) (s : List Int) (r : List Nat) : Option Art := match rdVer r with
  | none => none
  | some (v, r3) => decT l ⟨p, s, v⟩ r3
def decS (l : List Nat) (p : List (List Ins)) (r : List Nat) : Option Art := match rdSched r with
  | none => none
  | some (s, r2) => decV l p s r2
def decP (l : List Nat) (r : List Nat) : Option Art := match rdProg r with
  | none => none
  | some (p, r1) => decS l p r1
theorem decB_head {l r0 : List Nat} (h : rdLit [82, 82, 1] l = some ((), r0)) : decB l = decP l r0 := by
  have e := (rdLit_ok _ _ _).1 h
  have e' : l = 82 :: 82 :: 1 :: r0 := e
  have e2 : rdArt l = match rdProg r0 with
    | none => none
    | some (p, r1) => match rdSched r1 with
      | none => none
      | some (s, r2) => match rdVer r2 with
        | none => none
        | some (v, r3) => some (⟨p, s, v⟩, r3) := by rw [e']; rfl
  unfold decB
  rw [e2]
  unfold decP decS decV decT
  cases rdProg r0 with
  | none => rfl
  | some x =>
    obtain ⟨p, r1⟩ := x
    simp only
    cases rdSched r1 with
    | none => rfl
    | some x =>
      obtain ⟨s, r2⟩ := x
      simp only
      cases rdVer r2 with
      | none => rfl
      | some x => rfl
theorem decT_lit {l : List Nat} {k : Nat} (hk : k ≤ l.length) (a : Art) : decT l a (l.drop k) = if rdLit (leB 4 (crcN (l.take k))) (l.drop k) = some ((), []) ∧ artE a = 0 then some a else none := by
  unfold decT
  have e : l.length - (l.drop k).length = k := by simp; omega
  rw [e]
  have e2 : (rdLit (leB 4 (crcN (l.take k))) (l.drop k) = some ((), [])) = (l.drop k = leB 4 (crcN (l.take k))) := by rw [rdLit_ok, List.append_nil]
  simp only [e2]
theorem ShpAt.past {w w' : World} {b : Nat} (h : ShpAt w) (hg : w.grownBy w' (some b)) (hb : b ≠ 0) : ShpAt w' := fun o j h1 h2 => by
  have := h o j h1 h2
  rw [hg.cell_far _ (World.block_lt_of_cell? _ _ this) (by simpa using Ne.symm hb)]; exact this
theorem decB_nohead {l : List Nat} (h : rdLit [82, 82, 1] l = none) : decB l = none := by
  cases hd : decB l with
  | none => rfl
  | some a =>
    obtain ⟨r, h1, _⟩ := dec_parts hd
    obtain ⟨r0, e⟩ := rdArt_head h1
    have : rdLit [82, 82, 1] l = some ((), r0) := (rdLit_ok _ _ _).2 e
    rw [this] at h; cases h

/-- The artifact that is being read. -/
structure ArS (W w : World) (b : Nat) (s : ByteArray) (k c d L : Nat) (tv sv : Value) (p : List (List Ins)) (l : List Int) (v : Int × Int × Int) (us : Array Value) : Prop where
  ins : InS W w b s k 49 c d #[tv, sv, .int .i64 v.1, .int .i64 v.2.1, .int .i64 v.2.2] us
  thr : ThrAt L w.heap.size w tv p
  own : w.ownsRow L 3 1 sv l.length (ints l)
  lb : b < L
  lc : c < L
  ld : d < L

theorem ArS.call {W w w' : World} {b k k' c d L : Nat} {s : ByteArray} {tv sv : Value} {p : List (List Ins)} {l : List Int} {v : Int × Int × Int} {us : Array Value} (h : ArS W w b s k c d L tv sv p l v us) (h' : RdS w w' b s k') : ArS W w' b s k' c d L tv sv p l v us :=
  ⟨h.ins.call h', (h.thr.step h'.base (fun q e => by simp only [Option.some.injEq] at e; have := h.lb; omega)).mono h'.base.size, owns_rd h.own h'.base h.lb, h.lb, h.lc, h.ld⟩

theorem owns_below {w : World} {base : Nat} {e : TypeId} {size : Nat} {v : Value} {n : Nat} {xs : List Value} {g o : Nat} {u : Value} (h : w.ownsRow base e size v n xs) (hg : g < base) : (w.setCell ⟨g, o, none⟩ u).ownsRow base e size v n xs :=
  owns_grown h (grown_set (w := w) (b := g) (o := o) (v := u)) (fun k e => by simp only [Option.some.injEq] at e; omega)
theorem thr_below {L : Nat} {w : World} {tv : Value} {p : List (List Ins)} {g o : Nat} {u : Value} (h : ThrAt L w.heap.size w tv p) (hg : g < L) : ThrAt L (w.setCell ⟨g, o, none⟩ u).heap.size (w.setCell ⟨g, o, none⟩ u) tv p :=
  (h.step (grown_set (w := w) (b := g) (o := o) (v := u)) (fun q e => by simp only [Option.some.injEq] at e; omega)).mono (by simp)

theorem ArS.setS {W w : World} {b k c d L : Nat} {s : ByteArray} {tv sv sv' : Value} {p : List (List Ins)} {l l' : List Int} {v : Int × Int × Int} {us : Array Value} (h : ArS W w b s k c d L tv sv p l v us) (h' : w.ownsRow L 3 1 sv' l'.length (ints l')) : ArS W (w.setCell ⟨c, 1, none⟩ sv') b s k c d L tv sv' p l' v us :=
  ⟨by simpa using h.ins.set 1 sv', thr_below h.thr h.lc, owns_below h' h.lc, h.lb, h.lc, h.ld⟩
theorem ArS.setV {W w : World} {b k c d L : Nat} {s : ByteArray} {tv sv : Value} {p : List (List Ins)} {l : List Int} {v : Int × Int × Int} {us : Array Value} (h : ArS W w b s k c d L tv sv p l v us) (x : Int × Int × Int) :
    ArS W (((w.setCell ⟨c, 2, none⟩ (.int .i64 x.1)).setCell ⟨c, 3, none⟩ (.int .i64 x.2.1)).setCell ⟨c, 4, none⟩ (.int .i64 x.2.2)) b s k c d L tv sv p l x us :=
  ⟨by simpa using ((h.ins.set 2 (.int .i64 x.1)).set 3 (.int .i64 x.2.1)).set 4 (.int .i64 x.2.2), thr_below (thr_below (thr_below h.thr h.lc) h.lc) h.lc, owns_below (owns_below (owns_below h.own h.lc) h.lc) h.lc, h.lb, h.lc, h.ld⟩
theorem ArS.first {W w : World} {b k c d L : Nat} {s : ByteArray} {tv : Value} {p : List (List Ins)} {us : Array Value} (h : InS W w b s k 49 c d #[.slice none 0 0, .slice none 0 0, .int .i64 0, .int .i64 0, .int .i64 0] us) (ht : ThrAt L w.heap.size w tv p) (hb : b < L) (hc : c < L) (hd : d < L) :
    ArS W (w.setCell ⟨c, 0, none⟩ tv) b s k c d L tv (.slice none 0 0) p [] (0, 0, 0) us :=
  ⟨by simpa using h.set 0 tv, thr_below ht hc, ⟨rfl, Or.inl ⟨rfl, rfl⟩⟩, hb, hc, hd⟩
theorem ArS.out {W w : World} {b k c d L : Nat} {s : ByteArray} {tv sv : Value} {p : List (List Ins)} {l : List Int} {v : Int × Int × Int} {us : Array Value} (h : ArS W w b s k c d L tv sv p l v us) (hu : us.size = 5) :
    ArS W (((((w.setCell ⟨d, 0, none⟩ tv).setCell ⟨d, 1, none⟩ sv).setCell ⟨d, 2, none⟩ (.int .i64 v.1)).setCell ⟨d, 3, none⟩ (.int .i64 v.2.1)).setCell ⟨d, 4, none⟩ (.int .i64 v.2.2)) b s k c d L tv sv p l v #[tv, sv, .int .i64 v.1, .int .i64 v.2.1, .int .i64 v.2.2] := by
  obtain ⟨us⟩ := us
  match us, hu with
  | [a0, a1, a2, a3, a4], _ =>
    exact ⟨by simpa using ((((h.ins.rset 0 tv).rset 1 sv).rset 2 (.int .i64 v.1)).rset 3 (.int .i64 v.2.1)).rset 4 (.int .i64 v.2.2),
      thr_below (thr_below (thr_below (thr_below (thr_below h.thr h.ld) h.ld) h.ld) h.ld) h.ld, owns_below (owns_below (owns_below (owns_below (owns_below h.own h.ld) h.ld) h.ld) h.ld) h.ld, h.lb, h.lc, h.ld⟩

end Go.Proofs.YtklenjmfalljgaaGreatDoor

/- The walk of the reader's artifact. -/
namespace Go.Proofs.YtklenjmfalljgaaGreatDoor
open Go.RowKit
attribute [local go_sem] Go.World.cell?_alloc_some

/-- How the reader of an artifact ends. -/
def ReadS (W : World) (b L : Nat) (s : ByteArray) (e : Ending) (w' : World) : Prop :=
  (decB (byt s) = none ∧ Refused e ∧ W.grownBy w' (some b)) ∨
  ∃ a tv sv, decB (byt s) = some a ∧ e = .returned (artA tv sv a.ver) ∧ ThrAt L w'.heap.size w' tv a.prog ∧ w'.ownsRow L 3 1 sv a.sch.length (ints a.sch) ∧ W.grownBy w' (some b)

set_option maxRecDepth 100000 in
set_option maxHeartbeats 2000000 in
theorem artifact_r (w : World) (b : Nat) (s : ByteArray) (hSh : ShpAt w) (hb0 : b ≠ 0) (h : RdS w w b s 0) (hs : s.size ≤ 9223372036854775806) :
    Calls Tryz.prog 67 #[pt b] w (ReadS w b (w.heap.size + 2) s) := by
  have HH := hide h
  have HSh := hide hSh
  have hbw := h.lt
  have hpt : pt b = .pointer (some ⟨b, 0, none⟩) := rfl
  rw [hpt] at *
  clear h hSh
  go_enter Tryz.func67, Tryz.ntmps67
  go_wp2_with fail
  have I0 := InS.start (T := 49) HH.out #[.slice none 0 0, .slice none 0 0, .int .i64 0, .int .i64 0, .int .i64 0] #[.slice none 0 0, .slice none 0 0, .int .i64 0, .int .i64 0, .int .i64 0]
  generalize hw1 : (w.alloc (.cells #[.slice none 0 0, .slice none 0 0, .int .i64 0, .int .i64 0, .int .i64 0] 49)).alloc (.cells #[.slice none 0 0, .slice none 0 0, .int .i64 0, .int .i64 0, .int .i64 0] 49) = w1 at I0 ⊢
  have hz1 : w.heap.size + 2 ≤ w1.heap.size := by rw [← hw1]; simp
  clear hw1
  refine (head_r w1 w1 b 0 s I0.rd.self hs).mono ?_
  rintro e w2 (⟨hr, rfl, hg⟩ | ⟨_, r1, v, k1, hr, rfl, _, hS, rfl⟩)
  · have HR : Hid (decB (byt s) = none) := decB_nohead hr
    have HG := hide (grown_trans I0.rd.base hg)
    clear hr hg I0
    go_wp2_with fail
    exact ⟨rfl, Or.inl ⟨HR.out, rfl, HG.out⟩⟩
  have HR1 : Hid (decB (byt s) = decP (byt s) ((byt s).drop k1)) := decB_head hr
  have I1 := I0.call hS
  have hz2 : w.heap.size + 2 ≤ w2.heap.size := Nat.le_trans hz1 hS.base.size
  have HI1 := hide I1
  clear I0 hS hr I1
  go_wp2_with fail
  refine (program_r w2 w2 b k1 s HI1.out.rd.self hs).mono ?_
  rintro e w3 (⟨hr, rfl, hg⟩ | ⟨p, r1, v, k2, hr, rfl, hv, hS, rfl⟩)
  · have HR : Hid (decB (byt s) = none) := by unfold Hid; rw [HR1.out, decP, hr]
    have HG := hide (grown_trans HI1.out.rd.base hg)
    clear hr hg
    go_wp2_with fail
    exact ⟨rfl, Or.inl ⟨HR.out, rfl, HG.out⟩⟩
  have HR2 : Hid (decB (byt s) = decS (byt s) p ((byt s).drop k2)) := by unfold Hid; rw [HR1.out, decP, hr]
  obtain ⟨hp4, tv, rfl, ht⟩ := hv
  obtain ⟨t1, t2, t3, rfl⟩ := owns_form ht.choose_spec.1
  have HT3 : Hid (ThrAt (w.heap.size + 2) w3.heap.size w3 (.slice t1 t2 t3) p) := ht.low (by omega)
  have I3 := HI1.out.call hS
  have HI3 := hide I3
  have c3 : w3.cell? ⟨w.heap.size + 1, 0, none⟩ = some (.slice none 0 0) := by simpa using I3.cell 0
  have f3 := I3.free 0
  clear ht hS hr I3
  go_wp2_with fail
  have A4 := ArS.first HI3.out HT3.out (by omega) (by omega) (by omega)
  clear c3 f3 HI3 HT3 HI1
  generalize w3.setCell ⟨w.heap.size + 1, 0, none⟩ (.slice t1 t2 t3) = w4 at A4 ⊢
  have hz4 : w.heap.size + 2 ≤ w4.heap.size := by
    have := A4.ins.rd.base.size
    have h5 := (Array.getElem?_eq_some_iff.1 A4.ins.var).1
    omega
  refine (schedule_r w4 w4 b k2 s A4.ins.rd.self hs).mono ?_
  rintro e w5 (⟨hr, rfl, hg⟩ | ⟨l, r1, sv, k3, hr, rfl, hv, hS, rfl⟩)
  · have HR : Hid (decB (byt s) = none) := by unfold Hid; rw [HR2.out, decS, hr]
    have HG := hide (grown_trans A4.ins.rd.base hg)
    clear hr hg A4
    go_wp2_with fail
    exact ⟨rfl, Or.inl ⟨HR.out, rfl, HG.out⟩⟩
  have HR3 : Hid (decB (byt s) = decV (byt s) p l ((byt s).drop k3)) := by unfold Hid; rw [HR2.out, decS, hr]
  obtain ⟨s1, s2, s3, rfl⟩ := owns_form hv.2
  have HO5 : Hid (w5.ownsRow (w.heap.size + 2) 3 1 (.slice s1 s2 s3) l.length (ints l)) := owns_mono hv.2 hz4
  have HA5 := hide (A4.call hS)
  have c5 : w5.cell? ⟨w.heap.size + 1, 1, none⟩ = some (.slice none 0 0) := by simpa using HA5.out.ins.cell 1
  have f5 := HA5.out.ins.free 1
  clear hv hS hr A4
  go_wp2_with fail
  have A6 := HA5.out.setS HO5.out
  clear c5 f5 HA5 HO5
  generalize w5.setCell ⟨w.heap.size + 1, 1, none⟩ (.slice s1 s2 s3) = w6 at A6 ⊢
  refine (ver_r w6 w6 b k3 s A6.ins.rd.self hs).mono ?_
  rintro e w7 (⟨hr, rfl, hg⟩ | ⟨x, r1, v7, k4, hr, rfl, rfl, hS, rfl⟩)
  · have HR : Hid (decB (byt s) = none) := by unfold Hid; rw [HR3.out, decV, hr]
    have HG := hide (grown_trans A6.ins.rd.base hg)
    clear hr hg A6
    go_wp2_with fail
    exact ⟨rfl, Or.inl ⟨HR.out, rfl, HG.out⟩⟩
  have HR4 : Hid (decB (byt s) = decT (byt s) ⟨p, l, x⟩ ((byt s).drop k4)) := by unfold Hid; rw [HR3.out, decV, hr]
  have HA7 := hide (A6.call hS)
  obtain ⟨x1, x2, x3⟩ := x
  have c7 : w7.cell? ⟨w.heap.size + 1, 2, none⟩ = some (.int .i64 0) := by simpa using HA7.out.ins.cell 2
  have c8 : w7.cell? ⟨w.heap.size + 1, 3, none⟩ = some (.int .i64 0) := by simpa using HA7.out.ins.cell 3
  have c9 : w7.cell? ⟨w.heap.size + 1, 4, none⟩ = some (.int .i64 0) := by simpa using HA7.out.ins.cell 4
  have f7 := HA7.out.ins.free 2
  have f8 := HA7.out.ins.free 3
  have f9 := HA7.out.ins.free 4
  clear hS hr A6
  unfold verA
  go_wp2_with fail
  have A8 := HA7.out.setV (x1, x2, x3)
  simp only at A8
  clear c7 c8 c9 f7 f8 f9 HA7
  generalize ((w7.setCell ⟨w.heap.size + 1, 2, none⟩ (.int .i64 x1)).setCell ⟨w.heap.size + 1, 3, none⟩ (.int .i64 x2)).setCell ⟨w.heap.size + 1, 4, none⟩ (.int .i64 x3) = w8 at A8 ⊢
  refine (check_r w8 w8 b k4 s A8.ins.rd.self hs).mono ?_
  rintro e w9 (⟨hr, rfl, hg⟩ | ⟨_, r1, v9, k5, hr, rfl, _, hS, rfl⟩)
  · have HR : Hid (decB (byt s) = none) := by
      unfold Hid; rw [HR4.out, decT_lit (by rw [byt_len]; exact A8.ins.rd.le), if_neg (by rw [hr]; simp)]
    have HG := hide (grown_trans A8.ins.rd.base hg)
    clear hr hg A8
    go_wp2_with fail
    exact ⟨rfl, Or.inl ⟨HR.out, rfl, HG.out⟩⟩
  have HR5 : Hid (decB (byt s) = if (byt s).drop k5 = [] ∧ artE ⟨p, l, (x1, x2, x3)⟩ = 0 then some ⟨p, l, (x1, x2, x3)⟩ else none) := by
    unfold Hid; rw [HR4.out, decT_lit (by rw [byt_len]; exact A8.ins.rd.le), hr]
    simp
  have HA9 := hide (A8.call hS)
  have c0 := HA9.out.ins.rd.c0
  have c1 := HA9.out.ins.rd.c1
  have hk5 := HA9.out.ins.rd.le
  clear hS A8 hr
  by_cases hend : ¬ k5 = s.size
  · have qe : ((k5 : Int) == (s.size : Int)) = false := by simp; omega
    have HR : Hid (decB (byt s) = none) := by
      unfold Hid; rw [HR5.out, if_neg]
      intro h
      have := List.drop_eq_nil_iff.1 h.1
      rw [byt_len] at this
      omega
    clear hend
    go_wp2_with fail
    go_still_tail 10, (by kernel_rfl)
    go_wp2_with (go_at_call 100; refine (must_not _).mono ?_; rintro e w7 ⟨rfl, rfl⟩)
    exact ⟨rfl, Or.inl ⟨HR.out, rfl, grown_drew HA9.out.ins.rd.base⟩⟩
  have qe : ((k5 : Int) == (s.size : Int)) = true := by simp; omega
  have HR6 : Hid (decB (byt s) = if artE ⟨p, l, (x1, x2, x3)⟩ = 0 then some ⟨p, l, (x1, x2, x3)⟩ else none) := by
    have e : (byt s).drop k5 = [] := List.drop_eq_nil_iff.2 (by rw [byt_len]; omega)
    unfold Hid; rw [HR5.out, e]; simp
  have HA10 := hide (HA9.out.call (HA9.out.ins.rd.self.grown (grown_drew (grown_refl _ _))))
  have d0 : w9.cell? ⟨w.heap.size + 1, 0, none⟩ = some (.slice t1 t2 t3) := by simpa using HA9.out.ins.cell 0
  have d1 : w9.cell? ⟨w.heap.size + 1, 1, none⟩ = some (.slice s1 s2 s3) := by simpa using HA9.out.ins.cell 1
  have d2 : w9.cell? ⟨w.heap.size + 1, 2, none⟩ = some (.int .i64 x1) := by simpa using HA9.out.ins.cell 2
  have d3 : w9.cell? ⟨w.heap.size + 1, 3, none⟩ = some (.int .i64 x2) := by simpa using HA9.out.ins.cell 3
  have d4 : w9.cell? ⟨w.heap.size + 1, 4, none⟩ = some (.int .i64 x3) := by simpa using HA9.out.ins.cell 4
  clear hend HR5
  have HSh9 : Hid (ShpAt w9.drew) := ShpAt.past HSh.out HA10.out.ins.rd.base hb0
  have HCK := hide (acheck_m ⟨p, l, (x1, x2, x3)⟩ (.slice t1 t2 t3) (.slice s1 s2 s3) w9.drew HSh9.out HA10.out.thr.progAt (owns_ints HA10.out.own))
  unfold artA at HCK
  simp only at HCK
  go_wp2_with fail
  go_still_tail 10, (by kernel_rfl)
  go_wp2_with (first | (go_at_call 100; refine (must_ok _).mono ?_; rintro e w11 ⟨⟨v11, rfl⟩, rfl⟩))
  refine HCK.out.mono ?_
  rintro e w12 ⟨rfl, hg12⟩
  have A12 := HA10.out.call (HA10.out.ins.rd.self.grown hg12)
  have HA12 := hide A12
  clear c0 c1 d0 d1 d2 d3 d4 HA9 HA10 HCK hg12
  by_cases hok : artE ⟨p, l, (x1, x2, x3)⟩ = 0
  · have d0 : w12.cell? ⟨w.heap.size + 1, 0, none⟩ = some (.slice t1 t2 t3) := by simpa using A12.ins.cell 0
    have d1 : w12.cell? ⟨w.heap.size + 1, 1, none⟩ = some (.slice s1 s2 s3) := by simpa using A12.ins.cell 1
    have d2 : w12.cell? ⟨w.heap.size + 1, 2, none⟩ = some (.int .i64 x1) := by simpa using A12.ins.cell 2
    have d3 : w12.cell? ⟨w.heap.size + 1, 3, none⟩ = some (.int .i64 x2) := by simpa using A12.ins.cell 3
    have d4 : w12.cell? ⟨w.heap.size + 1, 4, none⟩ = some (.int .i64 x3) := by simpa using A12.ins.cell 4
    have r0 : w12.cell? ⟨w.heap.size, 0, none⟩ = some (.slice none 0 0) := by simpa using A12.ins.rcell 0
    have r1 : w12.cell? ⟨w.heap.size, 1, none⟩ = some (.slice none 0 0) := by simpa using A12.ins.rcell 1
    have r2 : w12.cell? ⟨w.heap.size, 2, none⟩ = some (.int .i64 0) := by simpa using A12.ins.rcell 2
    have r3 : w12.cell? ⟨w.heap.size, 3, none⟩ = some (.int .i64 0) := by simpa using A12.ins.rcell 3
    have r4 : w12.cell? ⟨w.heap.size, 4, none⟩ = some (.int .i64 0) := by simpa using A12.ins.rcell 4
    have g0 := A12.ins.rfree 0
    have g1 := A12.ins.rfree 1
    have g2 := A12.ins.rfree 2
    have g3 := A12.ins.rfree 3
    have g4 := A12.ins.rfree 4
    have HR : Hid (decB (byt s) = some ⟨p, l, (x1, x2, x3)⟩) := by unfold Hid; rw [HR6.out, if_pos hok]
    rw [hok]
    clear hok A12 HR6
    go_wp2_with (go_at_call 100; refine (must_ok _).mono ?_; rintro e w13 ⟨⟨v13, rfl⟩, rfl⟩)
    have J := HA12.out.out rfl
    simp only at J
    clear d0 d1 d2 d3 d4 r0 r1 r2 r3 r4 g0 g1 g2 g3 g4 HA12
    generalize hwz : (((((w13.setCell ⟨w.heap.size, 0, none⟩ (.slice t1 t2 t3)).setCell ⟨w.heap.size, 1, none⟩ (.slice s1 s2 s3)).setCell ⟨w.heap.size, 2, none⟩ (.int .i64 x1)).setCell ⟨w.heap.size, 3, none⟩ (.int .i64 x2)).setCell ⟨w.heap.size, 4, none⟩ (.int .i64 x3)) = wz at J ⊢
    have e0 : wz.cell? ⟨w.heap.size, 0, none⟩ = some (.slice t1 t2 t3) := by simpa using J.ins.rcell 0
    have e1 : wz.cell? ⟨w.heap.size, 1, none⟩ = some (.slice s1 s2 s3) := by simpa using J.ins.rcell 1
    have e2 : wz.cell? ⟨w.heap.size, 2, none⟩ = some (.int .i64 x1) := by simpa using J.ins.rcell 2
    have e3 : wz.cell? ⟨w.heap.size, 3, none⟩ = some (.int .i64 x2) := by simpa using J.ins.rcell 3
    have e4 : wz.cell? ⟨w.heap.size, 4, none⟩ = some (.int .i64 x3) := by simpa using J.ins.rcell 4
    refine bodyPost_ret (v := .agg #[.slice t1 t2 t3, .slice s1 s2 s3, .int .i64 x1, .int .i64 x2, .int .i64 x3]) ?_ rfl ?_
    · simp [results, Tryz.results67, go_sem, e0, e1, e2, e3, e4]
    · exact Or.inr ⟨⟨p, l, (x1, x2, x3)⟩, _, _, HR.out, rfl, J.thr, J.own, J.ins.rd.base⟩
  · have qn : (artE ⟨p, l, (x1, x2, x3)⟩ == 0) = false := by simpa using hok
    have HR : Hid (decB (byt s) = none) := by unfold Hid; rw [HR6.out, if_neg hok]
    clear hok A12 HR6
    generalize artE ⟨p, l, (x1, x2, x3)⟩ = ee at *
    go_wp2_with (go_at_call 100; refine (must_not _).mono ?_; rintro e w13 ⟨rfl, rfl⟩)
    exact ⟨rfl, Or.inl ⟨HR.out, rfl, HA12.out.ins.rd.base⟩⟩

end Go.Proofs.YtklenjmfalljgaaGreatDoor
