/- The walk of schedule. -/
import Derived.Test.YtklenjmfalljgaaDoorSch
namespace Go.Proofs.YtklenjmfalljgaaDoor
open Go.RowKit
attribute [local go_sem] Go.World.cell?_alloc_some

theorem info_int : ((Tryd.prog.info? 3).map fun i => (i.zero, i.size, i.bytes)) = some (some (.int .i64 0), 1, 8) := by kernel_rfl

theorem owns_lenq {w : World} {base e size : Nat} {ao : Option Addr} {n c m : Nat} {xs : List Value} (h : w.ownsRow base e size (.slice ao n c) m xs) : n = m := by
  rcases h.2 with ⟨e, e0⟩ | ⟨g, cap, cur, hv, _⟩
  · simp at e; omega
  · simp at hv; omega

theorem owns_out9 {w w' : World} {e size : Nat} {v : Value} {n : Nat} {xs : List Value} {y0 y1 y2 y3 y4 y5 y6 y7 y8 : Value} (h : w'.ownsRow w.heap.size e size v n xs) (ho : w'.heap[w.heap.size + 1]? = some (.cells zeroRes 37 (0, 0))) (he : e ≠ 37) :
    (((((((((w'.setCell ⟨w.heap.size + 1, 0, none⟩ y0).setCell ⟨w.heap.size + 1, 1, none⟩ y1).setCell ⟨w.heap.size + 1, 2, none⟩ y2).setCell ⟨w.heap.size + 1, 3, none⟩ y3).setCell ⟨w.heap.size + 1, 4, none⟩ y4).setCell ⟨w.heap.size + 1, 5, none⟩ y5).setCell ⟨w.heap.size + 1, 6, none⟩ y6).setCell ⟨w.heap.size + 1, 7, none⟩ y7).setCell ⟨w.heap.size + 1, 8, none⟩ y8).drew.ownsRow w.heap.size e size v n xs := by
  have hne : v.ownBlock ≠ some (w.heap.size + 1) := fun eq => by
    rcases h.2 with ⟨e1, _⟩ | ⟨g', _, cur, hv, _, hh, _⟩
    · rw [e1] at eq; cases eq
    · rw [hv] at eq
      have e2 : g' = w.heap.size + 1 := by simpa [Value.ownBlock] using eq
      rw [e2, ho] at hh
      simp at hh
      exact he hh.2.symm
  refine owns_grown (w := (((((((((w'.setCell ⟨w.heap.size + 1, 0, none⟩ y0).setCell ⟨w.heap.size + 1, 1, none⟩ y1).setCell ⟨w.heap.size + 1, 2, none⟩ y2).setCell ⟨w.heap.size + 1, 3, none⟩ y3).setCell ⟨w.heap.size + 1, 4, none⟩ y4).setCell ⟨w.heap.size + 1, 5, none⟩ y5).setCell ⟨w.heap.size + 1, 6, none⟩ y6).setCell ⟨w.heap.size + 1, 7, none⟩ y7).setCell ⟨w.heap.size + 1, 8, none⟩ y8)) (r := none) ?_ (grown_drew (grown_refl _ _)) (fun _ e => by cases e)
  iterate 9 refine owns_setCell_ne ?_ hne
  exact h
theorem grown_out9 {w w' : World} {y0 y1 y2 y3 y4 y5 y6 y7 y8 : Value} (h : w.grownBy w' none) :
    w.grownBy (((((((((w'.setCell ⟨w.heap.size + 1, 0, none⟩ y0).setCell ⟨w.heap.size + 1, 1, none⟩ y1).setCell ⟨w.heap.size + 1, 2, none⟩ y2).setCell ⟨w.heap.size + 1, 3, none⟩ y3).setCell ⟨w.heap.size + 1, 4, none⟩ y4).setCell ⟨w.heap.size + 1, 5, none⟩ y5).setCell ⟨w.heap.size + 1, 6, none⟩ y6).setCell ⟨w.heap.size + 1, 7, none⟩ y7).setCell ⟨w.heap.size + 1, 8, none⟩ y8).drew none := by
  refine grown_drew ?_
  iterate 9 refine grown_setNew ?_ (by omega)
  exact h

/-- What schedule answers. -/
def Scheduled (p : List (List Ins)) (raw : List Int) (w : World) (e : Ending) (w' : World) : Prop :=
  ∃ sv rv a, e = .returned (.tuple #[sv, rv, .bool true]) ∧ w'.ownsRow w.heap.size 3 1 sv a.length (ints a) ∧ ResAt w.heap.size w' (runS p a) p.length rv ∧ Sched p a ∧ a.length ≤ 200 ∧
    ((a.length = raw.length ∨ a.length = 200) ∨ (runS p a).kind ≠ 5) ∧ w.grownBy w' none

theorem checkRun_ok {p : List (List Ins)} {s : List Int} (hv : vProg p = true) (hs : s.length ≤ 500) : checkRunN p s = 0 := by simp [checkRunN, hv, hs]


set_option maxHeartbeats 8000000 in
set_option maxRecDepth 100000 in
theorem schedule_m (p : List (List Ins)) (raw : List Int) (pv rv : Value) (w : World) (hS : ShpAt w) (hv : vProg p = true) (hP : ProgAt w pv p) (hR : IntsAt w.heap.size w rv raw)
    (hb : ∀ k (hk : k < raw.length), -9223372036854775808 ≤ raw[k] ∧ raw[k] ≤ 9223372036854775807) :
    Calls Tryd.prog 14 #[pv, rv] w (Scheduled p raw w) := by
  obtain ⟨i0, hi0, hz0, hz1, hz2⟩ := info_parts info_int
  have hlen := vProg_len hv
  have HSh := hide hS
  have HV := hide hv
  have HP := hide hP
  have HR := hide hR
  have HBd := hide hb
  obtain ⟨pao, pcap, rfl⟩ := hP.form
  obtain ⟨rao, rcap, rfl⟩ := hR.form
  clear hS hv hP hR hb
  have hn1 : (1 : Int) ≤ p.length := by omega
  have hn4 : (p.length : Int) ≤ 4 := by omega
  go_enter Tryd.func14, Tryd.ntmps14
  go_wp2_with fail
  have hg0 : ∀ a b, w.grownBy ((w.alloc a).alloc b) none := fun a b => grown_alloc (grown_alloc (grown_refl _ _))
  refine (awake_m _ (HSh.out.pres (pres_grown (hg0 _ _)))).mono ?_
  rintro e w1 ⟨rfl, hg1⟩
  have HG1 : Hid (w.grownBy w1 none) := grown_trans (hg0 _ _) hg1
  have hsz1 : w.heap.size + 2 ≤ w1.heap.size := by have := hg1.size; simpa using this
  have hb0 : w1.heap[w.heap.size]? = some (.cells #[.slice pao p.length pcap] 25 (0, 0)) := by
    rw [hg1.block w.heap.size (by simp; omega) (by simp), Below.heap_alloc _ _ _ (by simp)]; exact heap_alloc_new w _
  have hb1 : w1.heap[w.heap.size + 1]? = some (.cells zeroRes 37 (0, 0)) := by
    rw [hg1.block (w.heap.size + 1) (by simp) (by simp)]
    have := heap_alloc_new (w.alloc (.cells #[.slice pao p.length pcap] 25)) (.cells zeroRes 37)
    simpa [zeroRes] using this
  have HB0 := hide hb0
  have HB1 := hide hb1
  have c0 : w1.cell? ⟨w.heap.size, 0, none⟩ = some (.slice pao p.length pcap) := by simp [World.cell?, hb0]
  clear hg1 hb0 hb1 hg0
  go_wp2_with fail
  have hnil : IntsAt w1.heap.size w1 (.slice none 0 0) [] := ⟨none, 0, rfl, Nat.le_refl _, fun k hk => by simp at hk⟩
  refine (replay_m p [] _ _ _ (HSh.out.pres (pres_grown HG1.out)) (HP.out.pres (pres_grown HG1.out)) hnil).mono ?_
  clear hnil
  rintro e w2 ⟨hg2, h⟩
  rcases h with ⟨_, rv0, rfl, s1, g1, rfl, ho1, ho2⟩ | ⟨h, _⟩
  case inr => exact absurd (checkRun_ok HV.out (by simp)) h
  have HG2 : Hid (w.grownBy w2 none) := grown_trans HG1.out hg2
  have hsz2 : w.heap.size + 2 ≤ w2.heap.size := by have := hg2.size; omega
  obtain ⟨x1, x2, x3, rfl⟩ := owns_form ho1
  obtain ⟨y1, y2, y3, rfl⟩ := owns_form ho2
  have HST : Hid (SchAt w p (.slice pao p.length pcap) w2.heap.size [] (.slice none 0 0) (w2.alloc (.cells (resCells (runS p []) (.slice x1 x2 x3) (.slice y1 y2 y3)) 37))) := by
    have hgg : w2.grownBy (w2.alloc (.cells (resCells (runS p []) (.slice x1 x2 x3) (.slice y1 y2 y3)) 37)) none := grown_alloc (grown_refl _ _)
    have hlt : ∀ {e size : Nat} {v : Value} {n : Nat} {xs : List Value}, w2.ownsRow w1.heap.size e size v n xs → v.ownBlock ≠ some w2.heap.size := fun h e => by
      rcases h.2 with ⟨e1, _⟩ | ⟨g', _, _, hv, _, hh, _⟩
      · rw [e1] at e; cases e
      · rw [hv] at e
        have := (Array.getElem?_eq_some_iff.1 hh).1
        simp [Value.ownBlock] at e
        omega
    refine ⟨grown_trans HG2.out hgg, ⟨rfl, Or.inl ⟨rfl, rfl⟩⟩, fun _ => rfl, by simp [Value.ownBlock], ⟨_, _, heap_alloc_new w2 _, owns_grown (owns_mono ho1 (by omega)) hgg (fun _ e => by cases e), owns_grown (owns_mono ho2 (by omega)) hgg (fun _ e => by cases e), hlt ho1, hlt ho2⟩, ?_, ?_, hsz2, by simp, sched_nil p⟩
    · rw [hgg.block _ (by omega) (by simp), hg2.block _ (by omega) (by simp)]; exact HB0.out
    · rw [hgg.block _ (by omega) (by simp), hg2.block _ (by omega) (by simp)]; exact HB1.out
  have hk0 : (runS p []).kind = endingS p St.zero := rfl
  clear hg2 ho1 ho2 c0 hk0
  go_wp2
  go_loopw [8, 11] (fun sv i w' => ∃ (k : Nat) (a : List Int), k ≤ raw.length ∧ k ≤ 200 ∧ i = .int .i64 k ∧ a.length = k ∧ Hid (SchAt w p (.slice pao p.length pcap) w2.heap.size a sv w')) (fun _ i _ => raw.length - (intOf i).toNat)
  case atStart => exact ⟨0, [], Nat.zero_le _, by omega, rfl, rfl, HST⟩
  case round =>
    obtain ⟨k, a, hk, hk2, rfl, hak, HI⟩ := hrel
    obtain ⟨w3, hw3⟩ : ∃ w3, w3 = wr := ⟨_, rfl⟩
    subst hw3
    obtain ⟨s1, g1, hres, ho1, ho2, _, _⟩ := HI.out.res
    obtain ⟨x1', x2', x3', rfl⟩ := owns_form ho1
    obtain ⟨y1', y2', y3', rfl⟩ := owns_form ho2
    have HO1 := hide ho1
    have HO2 := hide ho2
    obtain ⟨r0, r1, r2, r3, r4, r5, r6, r7, r8, rf⟩ := nine_cells hres
    have c0 : w3.cell? ⟨w.heap.size, 0, none⟩ = some (.slice pao p.length pcap) := by simp [World.cell?, HI.out.box]
    have HSD := hide HI.out.good
    have hx2 : x2' = a.length := (owns_lenq ho1).trans HI.out.good.2
    subst hx2
    clear rf hres ho1 ho2
    by_cases hgo : (k < raw.length ∧ k < 200) ∧ (runS p a).kind = 5
    · obtain ⟨⟨hg1, hg2⟩, hg5⟩ := hgo
      have H5 := hide hg5
      rw [hg5] at r0
      clear hg5 r1 r2 r3 r4 r5 r6 r7 r8
      obtain ⟨rg, ro, rfl, hrg, hrc⟩ : ∃ g o, rao = some ⟨g, o, none⟩ ∧ g < w.heap.size ∧ w.cell? ⟨g, o + k, none⟩ = some (.int .i64 raw[k]) := by
        obtain ⟨ao', cap', e, _, h⟩ := HR.out
        simp at e
        obtain ⟨rfl, rfl⟩ := e
        obtain ⟨g, o, e1, e2, e3⟩ := h k hg1
        exact ⟨g, o, e1, e2, e3⟩
      have hrc3 := pres_grown HI.out.grown _ _ hrc
      have hbd := HBd.out k hg1
      have hi0' : (0 : Int) ≤ (k : Int) := by omega
      have hi1' : (k : Int) < raw.length := by omega
      have hi2' : (k : Int) < 200 := by omega
      clear hrc
      generalize raw[k] = c at *
      have hpk := pickN_range c p.length (by omega)
      have HPK := hide (pick_m c p.length (by omega) (by omega) hbd.1 hbd.2)
      go_wp2_with fail
      go_quiet ((go_at_call 12; exact Calls.quiet_of_same (HPK.out _)))
      clear HPK hrc3 r0
      generalize pickN c p.length = f at *
      have HI' : Hid (SchAt w p (.slice pao p.length pcap) w2.heap.size a u8 (w3.drewN nq)) := HI.out.step (grown_drewN _ (grown_refl _ _))
      go_wp2_with fail
      go_loopw [8, 13, 14] (fun sv d j w' => ∃ k' : Nat, k' ≤ p.length ∧ j = .int .i64 k' ∧
          ((d = .bool false ∧ Hid (SchAt w p (.slice pao p.length pcap) w2.heap.size a sv w') ∧ Hid (∀ q : Nat, q < k' → (runS p (a ++ [(f + q) % p.length])).kind = 2)) ∨
           (d = .bool true ∧ ∃ b : List Int, b.length = k + 1 ∧ Hid (SchAt w p (.slice pao p.length pcap) w2.heap.size b sv w')))) (fun _ _ j _ => p.length - (intOf j).toNat)
      case atStart => exact ⟨0, Nat.zero_le _, rfl, Or.inl ⟨rfl, HI', fun q hq => by omega⟩⟩
      case round =>
        obtain ⟨k', hk', rfl, hrel⟩ := hrel
        rcases hrel with ⟨rfl, HJ, HN⟩ | ⟨rfl, b, hbl, HJ⟩
        · have c0' : wr.cell? ⟨w.heap.size, 0, none⟩ = some (.slice pao p.length pcap) := by simp [World.cell?, HJ.out.box]
          by_cases hlt : k' < p.length
          · have hq0 : (0 : Int) ≤ (k' : Int) := by omega
            have hq1 : (k' : Int) < p.length := by omega
            have hal : a.length ≤ 199 := by omega
            have hb63 : a.length ≤ maxLen := by unfold maxLen; omega
            have hc63 : a.length + 1 ≤ maxLen := by unfold maxLen; omega
            go_wp2_with (first
              | (at_builtin; refine wpList_append_copy rfl _ _ _ rfl 3 i0 _ 8 Tryd.underlying22 hi0 hz0 hz1 hz2 rfl rfl u8 rfl w.heap.size a.length (ints a) HJ.out.row (fun e => HJ.out.nil (List.length_eq_zero_iff.1 e)) (ints_one a) hb63 (by omega) ?_; intro ta tn tc w4 hown4 hg4 _; have c4 : w4.cell? ⟨w.heap.size, 0, none⟩ = some (.slice pao p.length pcap) := (pres_grown hg4 _ _ c0'))
              | (at_builtin; refine wpList_append_lies _ rfl _ _ _ rfl wr.heap.size 3 i0 _ 1 8 Tryd.underlying22 hi0 hz0 hz1 hz2 rfl (by omega) (.slice ta tn tc) a.length (ints a) rfl (owns_alloc hown4) ⟨w4.heap.size, 0, none⟩ 1 1 [.int .i64 ((f + k') % p.length)] rfl rfl (World.news_of_block (cs := #[.int .i64 ((f + k') % p.length)]) (t := 3) (fr := (0, 0)) (heap_alloc_new w4 _)) (by simp [Value.oneCell']) (by omega) hc63 (by omega) (by have := hg4.size; simp; omega) (w4.heap.size + 1) (by simp) ?_; intro g5 cap5 w5 hown5 hgrow hat hlt5; have hg5 : wr.grownBy w5 none := (grown_row (grown_alloc hg4) hgrow (fun q e => owns_block hown4 q e)); have c5 : w5.cell? ⟨w.heap.size, 0, none⟩ = some (.slice pao p.length pcap) := (pres_grown hg5 _ _ c0')))
            have HG5 := hide hg5
            have hbl : (a ++ [(f + k') % p.length]).length = k + 1 := by simp [hak]
            have HO5 : Hid (w5.ownsRow wr.heap.size 3 1 (.slice (some ⟨g5, 0, none⟩) (k + 1) cap5) (a ++ [(f + k') % p.length]).length (ints (a ++ [(f + k') % p.length]))) := by
              unfold Hid
              rw [ints_snoc, hbl]
              rw [hak] at hown5
              exact hown5
            clear hg4 hg5 hgrow hat hown4 hown5 c4
            have HSh5 : Hid (ShpAt w5) := HSh.out.pres (pres_grown (grown_trans HJ.out.grown HG5.out))
            have HP5 := hide (HP.out.pres (pres_grown (grown_trans HJ.out.grown HG5.out)))
            have HI5 := hide (owns_ints HO5.out)
            have HRP := hide (replay_m p (a ++ [(f + k') % p.length]) _ _ w5 HSh5.out HP5.out HI5.out)
            refine (unhide HRP).mono ?_
            clear HRP
            rintro e w6 ⟨hg6, h⟩
            rcases h with ⟨_, rv6, rfl, s6, g6, rfl, ho6, hp6⟩ | ⟨h, _⟩
            case inr => exact absurd (checkRun_ok HV.out (by rw [hbl]; omega)) h
            obtain ⟨z1, z2, z3, rfl⟩ := owns_form ho6
            obtain ⟨z4, z5, z6, rfl⟩ := owns_form hp6
            have hrbl := HJ.out.hi
            have hg5s := HG5.out.size
            have HG6 : Hid (wr.grownBy w6 none) := grown_trans HG5.out hg6
            have HO6 : Hid (w6.ownsRow wr.heap.size 3 1 (.slice (some ⟨g5, 0, none⟩) (k + 1) cap5) (a ++ [(f + k') % p.length]).length (ints (a ++ [(f + k') % p.length]))) := owns_grown HO5.out hg6 (fun _ e => by cases e)
            have HS6 := hide ho6
            have HR6 := hide hp6
            have HJ6 : Hid (SchAt w p (.slice pao p.length pcap) w2.heap.size a u8 w6) := HJ.out.step HG6.out
            clear hg6 ho6 hp6 c5 HO5 HSh5 HP5 HI5 c0'
            generalize hx : (f + (k' : Int)) % (p.length : Int) = x at *
            have HX := hide hx
            clear hx
            obtain ⟨q1, q2, hq3, _⟩ := HJ6.out.res
            obtain ⟨n0, n1, n2, n3, n4, n5, n6, n7, n8, nf⟩ := nine_cells hq3
            have dfa : ∀ (o : Obj) (j : Nat), (w6.alloc o).frozen? ⟨w2.heap.size, j, none⟩ = false := fun o j => by
              rw [World.frozen?_alloc_old _ _ _ (by have := HJ6.out.hi; simp; omega)]; exact nf j
            clear nf hq3
            by_cases h2 : (runS p (a ++ [x])).kind = 2
            · have HN' : Hid (∀ q : Nat, q < k' + 1 → (runS p (a ++ [(f + q) % p.length])).kind = 2) := fun q hq => by
                by_cases e : q = k'
                · rw [e, HX.out]; exact h2
                · exact HN.out q (by omega)
              have hkd : ((runS p (a ++ [x])).kind != 2) = false := by simp [h2]
              clear h2
              go_wp2
              go_roundw
              case rel => exact ⟨k' + 1, by omega, by go_num, Or.inl ⟨rfl, HJ6.out.step (grown_alloc (grown_refl _ _)), HN'⟩⟩
              case measure => simp [intOf]; omega
            · have H2 := hide h2
              have hkd : ((runS p (a ++ [x])).kind != 2) = true := by simpa using h2
              clear h2
              have hrb2 : ∀ {v : Value} {bs e size n : Nat} {xs : List Value}, w6.ownsRow bs e size v n xs → wr.heap.size ≤ bs → v.ownBlock ≠ some w2.heap.size := fun h hb e => by
                have := owns_block h _ e; omega
              have HE := hide (SchAt.set (HJ6.out.step (w'' := w6.alloc (.cells (resCells (runS p (a ++ [x])) (.slice z1 z2 z3) (.slice z4 z5 z6)) 37)) (grown_alloc (grown_refl _ _))) (b := a ++ [x]) (by simp) (owns_alloc (owns_mono HO6.out (by have := HJ.out.grown.size; omega))) (hrb2 HO6.out (Nat.le_refl _)) (owns_alloc (owns_mono HS6.out (by have := HJ.out.grown.size; omega))) (owns_alloc (owns_mono HR6.out (by have := HJ.out.grown.size; omega))) (hrb2 HS6.out hg5s) (hrb2 HR6.out hg5s) (sched_snoc H5.out H2.out))
              go_wp2
              go_roundw
              case rel => exact ⟨k' + 1, by omega, by go_num, Or.inr ⟨rfl, a ++ [x], hbl, HE⟩⟩
              case measure => simp [intOf]; omega
          · have hke : k' = p.length := by omega
            exfalso
            obtain ⟨q, hq, hne⟩ := open_round H5.out hpk.1 hpk.2
            exact hne (HN.out q (by omega))
        · have c0' : wr.cell? ⟨w.heap.size, 0, none⟩ = some (.slice pao p.length pcap) := by simp [World.cell?, HJ.out.box]
          by_cases hlt : k' < p.length
          · have hq0 : (0 : Int) ≤ (k' : Int) := by omega
            have hq1 : (k' : Int) < p.length := by omega
            go_wp2
            go_roundw
            case rel => exact ⟨k + 1, b, by omega, by omega, by go_num, hbl, HJ⟩
            case measure => simp [intOf]; omega
          · have hq1 : (p.length : Int) ≤ k' := by omega
            go_wp2
            go_roundw
            case rel => exact ⟨k + 1, b, by omega, by omega, by go_num, hbl, HJ⟩
            case measure => simp [intOf]; omega
    · have HNG := hide hgo
      clear hgo
      obtain ⟨v1, v2, v3, hu8⟩ := owns_form HI.out.row
      subst hu8
      have hv2 : v2 = a.length := owns_lenq HI.out.row
      subst hv2
      obtain ⟨t0, t1, t2, t3, t4, t5, t6, t7, t8, tf⟩ := nine_cells HI.out.out
      have tf0 := tf 0
      have tf1 := tf 1
      have tf2 := tf 2
      have tf3 := tf 3
      have tf4 := tf 4
      have tf5 := tf 5
      have tf6 := tf 6
      have tf7 := tf 7
      have tf8 := tf 8
      clear tf
      have hlo := HI.out.lo
      have hne1 : w2.heap.size ≠ w.heap.size + 1 := by omega
      have hne2 : w.heap.size + 1 ≠ w2.heap.size := by omega
      have HEND : Hid ((a.length = raw.length ∨ a.length = 200) ∨ (runS p a).kind ≠ 5) := by
        by_cases h5 : (runS p a).kind = 5
        · refine Or.inl ?_
          have : ¬ (k < raw.length ∧ k < 200) := fun h => HNG.out ⟨h, h5⟩
          omega
        · exact Or.inr h5
      by_cases h1 : k < raw.length
      · by_cases h2 : k < 200
        · have h5 : (runS p a).kind ≠ 5 := fun h5 => HNG.out ⟨⟨h1, h2⟩, h5⟩
          have h5' : ((runS p a).kind == 5) = false := by simpa using h5
          have hi0' : (0 : Int) ≤ (k : Int) := by omega
          have hi1' : (k : Int) < raw.length := by omega
          have hi2' : (k : Int) < 200 := by omega
          go_wp2_with fail
          go_region
          all_goals go_wp2_with fail
          all_goals (
            refine bodyPost_ret (v := .tuple #[.slice v1 a.length v3, .agg (resCells (runS p a) (.slice x1' a.length x3') (.slice y1' y2' y3')), .bool true]) ?_ rfl ⟨_, _, a, rfl, ?_, ⟨_, _, rfl, ?_, ?_⟩, HSD.out, by omega, HEND.out, ?_⟩
            · simp [results, Tryd.results14, go_sem, t0, t1, t2, t3, t4, t5, t6, t7, t8, resCells, hak]
            · exact owns_out9 HI.out.row HI.out.out (by decide)
            · exact owns_out9 HO1.out HI.out.out (by decide)
            · exact owns_out9 HO2.out HI.out.out (by decide)
            · exact grown_out9 HI.out.grown)
        · have hi0' : (0 : Int) ≤ (k : Int) := by omega
          have hi1' : (k : Int) < raw.length := by omega
          have hi2' : (200 : Int) ≤ (k : Int) := by omega
          go_wp2_with fail
          go_region
          all_goals go_wp2_with fail
          all_goals (
            refine bodyPost_ret (v := .tuple #[.slice v1 a.length v3, .agg (resCells (runS p a) (.slice x1' a.length x3') (.slice y1' y2' y3')), .bool true]) ?_ rfl ⟨_, _, a, rfl, ?_, ⟨_, _, rfl, ?_, ?_⟩, HSD.out, by omega, HEND.out, ?_⟩
            · simp [results, Tryd.results14, go_sem, t0, t1, t2, t3, t4, t5, t6, t7, t8, resCells, hak]
            · exact owns_out9 HI.out.row HI.out.out (by decide)
            · exact owns_out9 HO1.out HI.out.out (by decide)
            · exact owns_out9 HO2.out HI.out.out (by decide)
            · exact grown_out9 HI.out.grown)
      · have hi0' : (0 : Int) ≤ (k : Int) := by omega
        have hi1' : (raw.length : Int) ≤ k := by omega
        go_wp2_with fail
        go_region
        all_goals go_wp2_with fail
        all_goals (
          refine bodyPost_ret (v := .tuple #[.slice v1 a.length v3, .agg (resCells (runS p a) (.slice x1' a.length x3') (.slice y1' y2' y3')), .bool true]) ?_ rfl ⟨_, _, a, rfl, ?_, ⟨_, _, rfl, ?_, ?_⟩, HSD.out, by omega, HEND.out, ?_⟩
          · simp [results, Tryd.results14, go_sem, t0, t1, t2, t3, t4, t5, t6, t7, t8, resCells, hak]
          · exact owns_out9 HI.out.row HI.out.out (by decide)
          · exact owns_out9 HO1.out HI.out.out (by decide)
          · exact owns_out9 HO2.out HI.out.out (by decide)
          · exact grown_out9 HI.out.grown)


end Go.Proofs.YtklenjmfalljgaaDoor
