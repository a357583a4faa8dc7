/- The walk of Cut. -/
import Derived.Test.YtklenjmfalljgaaDoorPrg2
import Derived.Test.YtklenjmfalljgaaDoorPureC
import Derived.Deep.DeepCutAuto
import Derived.Test.YtklenjmfalljgaaDoorEq4
namespace Go.Proofs.YtklenjmfalljgaaDoor
open Go.RowKit
attribute [local go_sem] Go.World.cell?_alloc_some run_eq4

section
variable {P : Program} {w : World} {ops : Array Oper} {rest : List Oper} {o : Oper} {a : Act} {Q : Exit → Act → World → Prop}
/-- append of a slice (nil, empty or not) onto a row of the call's own. -/
theorem wpList_append_any (hgd : o.guard = none) (s x : Operand) (t : TypeId) (ho : o.op = .call { callee := .builtin .append, args := #[s, x], argTypes := #[t, t] })
    (base : Nat) (e : TypeId) (i : TypeInfo) (z : Value) (size bytes : Nat) (ht : P.underlying t = some (.slice e)) (hi : P.info? e = some i) (hz : i.zero = some z) (hsize : i.size = size) (hby : i.bytes = bytes) (hzs : z.cells.size = size) (hsz : 0 < size)
    (v : Value) (n : Nat) (xs : List Value) (hs : a.eval s = v) (hown : w.ownsRow base e size v n xs) (so : Option Addr) (m c : Nat) (news : List Value) (hx : a.eval x = .slice so m c) (hl : news.length = m * size)
    (hso : so = none → m = 0 ∧ c = 0) (hnews : ∀ ad, so = some ad → ∀ j u, news[j]? = some u → w.cell? (ad.add j) = some u) (h1 : ∀ u ∈ news, u.oneCell' = true) (h63 : n + m ≤ maxLen) (hbytes : (n + m) * bytes ≤ 140737488355328) (hbase : base ≤ w.heap.size)
    (h : ∀ ta tn tc w', w'.ownsRow base e size (.slice ta tn tc) (n + m) (xs ++ news) → w.grownBy w' v.ownBlock → wpList P ops Q rest (a.put o.dst (.slice ta tn tc)) w') : wpList P ops Q (o :: rest) a w := by
  refine wpList_plain hgd fun K hK => ?_
  cases so with
  | none =>
    obtain ⟨rfl, rfl⟩ := hso rfl
    have hrun := run_append_owned_none (P := P) w base t o.type e i size ht hi v n xs hown
    have hx0 : news = [] := List.length_eq_zero_iff.1 (by omega)
    obtain ⟨ta, tn, tc, rfl⟩ := owns_form hown
    unfold Oper.wp
    simp [execOp, ho, resolve, invoke, builtin, hs, hx, hrun, Result.andThen]
    exact hK _ _ (h _ _ _ w (by rw [hx0]; simpa using hown) (grown_refl _ _))
  | some ad =>
    obtain ⟨v', w', hrun, h2, h3, h4, h5⟩ := run_append_own_at (P := P) w base t o.type e i z size bytes ht hi hz hsize hby hzs hsz v n xs hown ad m c news hl (hnews ad rfl) h1 h63 hbytes hbase
    obtain ⟨ta, tn, tc, rfl⟩ := owns_form h2
    unfold Oper.wp
    simp [execOp, ho, resolve, invoke, builtin, hs, hx, hrun, Result.andThen]
    exact hK _ _ (h _ _ _ w' h2 h3)
end

theorem flatS_get : ∀ (l : List (Int × Int)) (j : Nat) (hj : j < l.length), (flatS l)[j * 2]? = some (.int .i64 l[j].1) ∧ (flatS l)[j * 2 + 1]? = some (.int .i64 l[j].2)
  | [], j, hj => by simp at hj
  | x :: l, 0, hj => by simp [flatS]
  | x :: l, j + 1, hj => by
    have h := flatS_get l j (by simpa using hj)
    have e : flatS (x :: l) = [.int .i64 x.1, .int .i64 x.2] ++ flatS l := by simp [flatS]
    have e2 : ∀ q, (flatS (x :: l))[(j + 1) * 2 + q]? = (flatS l)[j * 2 + q]? := fun q => by
      rw [e, List.getElem?_append_right (by simp; omega)]
      congr 1
      simp; omega
    refine ⟨?_, ?_⟩
    · have := e2 0; simp only [Nat.add_zero] at this; rw [this]; simpa using h.1
    · rw [e2 1]; simpa using h.2

theorem ints_take {a : List Int} {k j : Nat} {u : Value} (h : (ints (a.take k))[j]? = some u) : (ints a)[j]? = some u := by
  have hj := (List.getElem?_eq_some_iff.1 h).1
  rw [ints_len] at hj
  have hj2 : j < k ∧ j < a.length := by simp at hj; omega
  simp only [ints, List.getElem?_map, List.getElem?_take] at h ⊢
  simpa [hj2.1] using h
theorem ints_drop {a : List Int} {k j : Nat} {u : Value} (h : (ints (a.drop k))[j]? = some u) : (ints a)[k + j]? = some u := by
  simpa [ints, List.getElem?_drop] using h

/-- The cells of a row of steps. -/
theorem step_cells {w : World} {base : Nat} {ao : Option Addr} {n c m : Nat} {l : List (Int × Int)} (h : w.ownsRow base 48 2 (.slice ao n c) m (flatS l)) (hm : m = l.length) {j : Nat} (hj : j < l.length) :
    ∃ g, ao = some ⟨g, 0, none⟩ ∧ g < w.heap.size ∧ w.cell? ⟨g, j * 2, none⟩ = some (.int .i64 l[j].1) ∧ w.cell? ⟨g, j * 2 + 1, none⟩ = some (.int .i64 l[j].2) := by
  obtain ⟨g, cap, e, _, hlt⟩ := h.form (by omega)
  simp at e
  obtain ⟨rfl, rfl, rfl⟩ := e
  have q := flatS_get l j hj
  exact ⟨g, rfl, hlt, by rw [h.cellAt _ (by omega)]; exact q.1, by rw [h.cellAt _ (by omega)]; exact q.2⟩

theorem int_cell {w : World} {base : Nat} {ao : Option Addr} {n c m : Nat} {l : List Int} (h : w.ownsRow base 3 1 (.slice ao n c) m (ints l)) (hm : m = l.length) {j : Nat} (hj : j < l.length) :
    ∃ g, ao = some ⟨g, 0, none⟩ ∧ g < w.heap.size ∧ w.cell? ⟨g, j, none⟩ = some (.int .i64 l[j]) := by
  obtain ⟨g, cap, e, _, hlt⟩ := h.form (by omega)
  simp at e
  obtain ⟨rfl, rfl, rfl⟩ := e
  exact ⟨g, rfl, hlt, by rw [h.cellAt _ (by omega)]; simp [ints, hj]⟩

set_option maxHeartbeats 8000000 in
set_option maxRecDepth 100000 in
theorem cut_m (raw : List (List Int)) (ch : List Int) (at_ wrong : Int) (rawv chv : Value) (w : World) (hS : ShpAt w) (hR : RawAt w rawv raw) (hbR : ∀ t (ht : t < raw.length) k (hk : k < raw[t].length), isInt raw[t][k])
    (hC : IntsAt w.heap.size w chv ch) (hbC : ∀ k (hk : k < ch.length), -9223372036854775808 ≤ ch[k] ∧ ch[k] ≤ 9223372036854775807) (hat : isInt at_) (hwr : isInt wrong) :
    Calls Tryd.prog 5 #[rawv, chv, .int .i64 at_, .int .i64 wrong] w fun e w' => e = .returned (.bool true) ∧ w.grownBy w' none := by
  obtain ⟨i0, hi0, hz0, hz1, hz2⟩ := info_parts info_int
  have HSh := hide hS
  have HC := hide hC
  have HBC := hide hbC
  have HA := hide hat
  have HW := hide hwr
  have HPR := hide (program_m raw rawv w hR hbR)
  have hvp := progN_valid raw
  clear hS hR hbR hC hbC hat hwr
  generalize progN raw = p at *
  have HVP := hide hvp
  have hlen := vProg_len hvp
  clear hvp
  go_enter Tryd.func5, Tryd.ntmps5
  go_wp2_with fail
  refine HPR.out.mono ?_
  clear HPR
  rintro e w1 ⟨tv, rfl, hP, hg1⟩
  have hform := hP.form
  obtain ⟨pao, pcap, htv⟩ := hform
  have htv2 : tv = .slice pao p.length pcap := by simpa using htv
  subst htv2
  have HP1 := hide hP
  have HG1 := hide hg1
  have hs1 := hg1.size
  clear hP hg1 htv
  go_wp2_with fail
  have HSC := hide (schedule_m p ch (.agg #[.slice pao p.length pcap]) chv (w1.alloc (.cells #[.slice pao p.length pcap] 25)) (HSh.out.pres (pres_grown (grown_alloc HG1.out))) HVP.out (HP1.out.pres (pres_grown (grown_alloc (grown_refl _ _)))) ((HC.out.pres (pres_grown (grown_alloc HG1.out))).mono (by simp; omega)) HBC.out)
  refine HSC.out.mono ?_
  clear HSC
  rintro e w2 ⟨sv, rv, a, rfl, hrow, ⟨st, gt, rfl, ho1, ho2⟩, hsd, h200, _, hg2⟩
  have HSD := hide hsd
  have hsz2 : w1.heap.size + 1 ≤ w2.heap.size := by have := hg2.size; simpa using this
  obtain ⟨s1, s2, s3, rfl⟩ := owns_form hrow
  have e2 := owns_lenq hrow
  subst e2
  obtain ⟨x1, x2, x3, rfl⟩ := owns_form ho1
  have e3 := (owns_lenq ho1).trans hsd.2
  subst e3
  obtain ⟨y1, y2, y3, rfl⟩ := owns_form ho2
  have HRow := hide hrow
  have HO1 := hide ho1
  have HPB : Hid (w2.heap[w1.heap.size]? = some (.cells #[.slice pao p.length pcap] 25 (0, 0))) := by
    unfold Hid; rw [hg2.block _ (by simp) (by simp)]; exact heap_alloc_new w1 _
  have HG2 : Hid (w.grownBy w2 none) := grown_trans (grown_alloc HG1.out) hg2
  have HGW : Hid ((w1.alloc (.cells #[.slice pao p.length pcap] 25)).grownBy w2 none) := hg2
  have HII := hide (owns_ints hrow)
  have hcap : a.length ≤ s3 := by
    obtain ⟨ao', cap', e, hc, _⟩ := HII.out
    simp at e; omega
  clear hrow ho1 ho2 hsd hg2
  obtain ⟨k, hk⟩ := Int.eq_ofNat_of_zero_le (pickN_range at_ (a.length + 1) (by omega)).1
  have hk2 : k ≤ a.length := by have := (pickN_range at_ (a.length + 1) (by omega)).2; omega
  have HPK := hide (pick_m at_ (a.length + 1) (by omega) (by omega) HA.out.1 HA.out.2)
  rw [hk] at HPK
  clear hk
  go_wp2_with fail
  refine (HPK.out _).mono ?_
  clear HPK
  rintro e w3 ⟨rfl, rfl⟩
  have q0 : (0 : Int) ≤ (k : Int) := by omega
  have q1 : (k : Int) ≤ a.length := by omega
  have q2 : (a.length : Int) ≤ s3 := by omega
  have q3 : (k : Int) ≤ s3 := by omega
  go_wp2_with fail
  generalize hw3 : w2.alloc (Obj.cells #[Value.int IntKind.i64 (runS p a).kind, Value.int IntKind.i64 (runS p a).thread, Value.int IntKind.i64 (runS p a).at_, Value.slice x1 a.length x3, Value.int IntKind.i64 ((runS p a).st.vars 0), Value.int IntKind.i64 ((runS p a).st.vars 1), Value.int IntKind.i64 ((runS p a).st.vars 2), Value.int IntKind.i64 ((runS p a).st.vars 3), Value.slice y1 y2 y3] 37) = w3
  have hsz3 : w3.heap.size = w2.heap.size + 1 := by rw [← hw3]; simp
  have HG23 : Hid (w2.grownBy w3 none) := by unfold Hid; rw [← hw3]; exact grown_alloc (grown_refl _ _)
  have HRB : Hid (w3.heap[w2.heap.size]? = some (.cells (resCells (runS p a) (.slice x1 a.length x3) (.slice y1 y2 y3)) 37 (0, 0))) := by
    unfold Hid; rw [← hw3]; exact heap_alloc_new w2 _
  have hpb : w3.cell? ⟨w1.heap.size, 0, none⟩ = some (.slice pao p.length pcap) := by
    rw [World.cell?_of_block (HG23.out.block _ (by simp; omega) (by simp))]
    simp [World.cell?, HPB.out]
  clear hw3
  have HSZ3 := hide hsz3
  clear hsz3
  have hsz3 : w2.heap.size < w3.heap.size := by rw [HSZ3.out]; omega
  -- the beginning of s, as it lies
  have HTK : Hid (IntsAt w2.heap.size w2 (.slice s1 k s3) (a.take k)) := by
    obtain ⟨ao', cap', e, hc, h⟩ := HII.out
    simp at e
    obtain ⟨rfl, rfl⟩ := e
    refine ⟨s1, s3, by simp; omega, by simp; omega, fun j hj => ?_⟩
    have hj2 : j < a.length := by simp at hj; omega
    obtain ⟨g, o, e1, e2, e3⟩ := h j hj2
    exact ⟨g, o, e1, e2, by simpa using e3⟩
  have HALL : Hid (∀ u, w3.grownBy u none → Calls Tryd.prog 16 #[.agg #[.slice pao p.length pcap], .slice s1 k s3] u (Replayed p (a.take k) u)) := fun u hu => by
    have hg : w2.grownBy u none := grown_trans HG23.out hu
    exact replay_m p (a.take k) _ _ u (HSh.out.pres (pres_grown (grown_trans HG2.out hg))) (HP1.out.pres (pres_grown (grown_trans (grown_trans (grown_alloc (grown_refl _ _)) (HGW.out)) hg))) ((HTK.out.pres (pres_grown hg)).mono (by have := hg.size; omega))
  have hne31 : w3.heap.size ≠ w1.heap.size := by omega
  have htk : (a.take k).length ≤ 500 := by rw [List.length_take]; omega
  go_cut [14, 15] (fun xb ev w' => ev = .int .i64 0 ∧ ∃ b, xb = .pointer (some ⟨b, 0, none⟩) ∧ Hid (w3.grownBy w' none ∧ w3.heap.size ≤ b ∧ ∃ sx gx, w'.heap[b]? = some (.cells (resCells (runS p (a.take k)) sx gx) 37 (0, 0)) ∧ w'.ownsRow w3.heap.size 48 2 sx (runS p (a.take k)).steps.length (flatS (runS p (a.take k)).steps)))
  case first =>
    go_region_held3 (fun u => u.cell? ⟨w1.heap.size, 0, none⟩ = some (.slice pao p.length pcap)) (go_keep)
      (first
        | (go_at_call 16; refine (HALL.out _ (grown_drew (grown_refl _ _))).mono ?_; rintro e w5 ⟨hg5, h5⟩; rcases h5 with ⟨_, rv5, rfl, sx, gx, rfl, ho5, hp5⟩ | ⟨h5, _⟩; (case inr => exact absurd (checkRun_ok HVP.out htk) h5); have s5 : w5.cell? ⟨w1.heap.size, 0, none⟩ = some (.slice pao p.length pcap) := (pres_grown hg5 _ _ (by simp [go_sem, hpb])); obtain ⟨z1, z2, z3, rfl⟩ := owns_form ho5; obtain ⟨z4, z5, z6, rfl⟩ := owns_form hp5)
        | (go_at_call 16; refine (HALL.out _ (grown_drew (grown_alloc (grown_refl _ _)))).mono ?_; rintro e w5 ⟨hg5, h5⟩; rcases h5 with ⟨_, rv5, rfl, sx, gx, rfl, ho5, hp5⟩ | ⟨h5, _⟩; (case inr => exact absurd (checkRun_ok HVP.out htk) h5); have s5 : w5.cell? ⟨w1.heap.size, 0, none⟩ = some (.slice pao p.length pcap) := (pres_grown hg5 _ _ (by simp [go_sem, hpb])); obtain ⟨z1, z2, z3, rfl⟩ := owns_form ho5; obtain ⟨z4, z5, z6, rfl⟩ := owns_form hp5; have hX : w5.heap[w3.heap.size]? = some (.cells zeroRes 37 (0, 0)) := (by rw [hg5.block _ (by simp) (by simp)]; exact heap_alloc_new w3 _); obtain ⟨m0, m1, m2, m3, m4, m5, m6, m7, m8, mf⟩ := nine_cells hX; have mf0 := mf 0; have mf1 := mf 1; have mf2 := mf 2; have mf3 := mf 3; have mf4 := mf 4; have mf5 := mf 5; have mf6 := mf 6; have mf7 := mf 7; have mf8 := mf 8; clear mf))
    all_goals (try go_wp2_with fail)
    all_goals go_meet
    · exact ⟨rfl, _, rfl, grown_alloc (grown_trans (grown_drew (grown_refl _ _)) hg5), (by have := hg5.size; simpa using this), _, _, heap_alloc_new w5 _, owns_alloc (owns_mono ho5 (by simp))⟩
    · refine ⟨rfl, _, rfl, ?_, Nat.le_refl _, _, _, set9 hX, ?_⟩
      · iterate 9 refine grown_setNew ?_ (by omega)
        exact grown_trans (grown_drew (grown_alloc (grown_refl _ _))) hg5
      · refine owns_mono (base := w3.heap.size + 1) ?_ (by omega)
        iterate 9 refine ownsRow_setCell_below ?_ (by simp) _
        exact owns_mono ho5 (by simp)
  case rest =>
    obtain ⟨rfl, xb, rfl, HX⟩ := hcut
    obtain ⟨hgx, hxb, sx, gx, hxc, hxo⟩ := HX.out
    obtain ⟨z1, kk, z3, rfl⟩ := owns_form hxo
    have ez := owns_lenq hxo
    obtain ⟨hck, hcv⟩ := cut_run HSD.out hk2
    have hlk : (runS p (a.take k)).steps.length = k := by rw [hck]; simp [HSD.out.2]; omega
    rw [hlk] at ez
    subst ez
    obtain ⟨n0, n1, n2, n3, n4, n5, n6, n7, n8, _⟩ := nine_cells hxc
    have hrbc : wc.heap[w2.heap.size]? = some (.cells (resCells (runS p a) (.slice x1 a.length x3) (.slice y1 y2 y3)) 37 (0, 0)) := by
      rw [hgx.block _ (by omega) (by simp)]; exact HRB.out
    obtain ⟨r0, r1, r2, r3, r4, r5, r6, r7, r8, _⟩ := nine_cells hrbc
    have HGX := hide hgx
    have HXO := hide hxo
    have HXC := hide hxc
    have HCK := hide hck
    have HCV := hide hcv
    clear HX hgx hxo hck hcv hrbc hxc HALL
    go_wp2_with fail
    go_loopw [16] (fun i w' => ∃ j : Nat, j ≤ kk ∧ i = .int .i64 j ∧ Hid (Like w' wc)) (fun i _ => kk - (intOf i).toNat)
    case atStart => exact ⟨0, Nat.zero_le _, rfl, rfl, rfl, rfl, rfl⟩
    case round =>
      obtain ⟨j, hj, rfl, HL⟩ := hrel
      have cL : ∀ x, wr.cell? x = wc.cell? x := fun x => by simp [World.cell?, HL.out.1]
      by_cases hlt : j < kk
      · have hjs : j < (runS p a).steps.length := by have := HSD.out.2; omega
        have hj2 : j < (runS p (a.take kk)).steps.length := by omega
        obtain ⟨g1, rfl, _, u1, u2⟩ := step_cells HXO.out rfl hj2
        obtain ⟨g2, rfl, hg2, u3, u4⟩ := step_cells HO1.out rfl hjs
        obtain ⟨g3, rfl, hg3, u5⟩ := int_cell HRow.out rfl (by omega : j < a.length)
        have e1 : (runS p (a.take kk)).steps[j] = (runS p a).steps[j] := by simp [HCK.out]
        have e2 : a[j] = ((runS p a).steps[j]).1 := by
          have h := sched_fst HSD.out
          have h2 : ((runS p a).steps.map (·.1))[j]? = a[j]? := by rw [h]
          rw [List.getElem?_map, List.getElem?_eq_getElem hjs, List.getElem?_eq_getElem (by omega : j < a.length)] at h2
          simpa using h2.symm
        rw [e1] at u1 u2
        rw [e2] at u5
        have hgc : w2.grownBy wc none := grown_trans HG23.out HGX.out
        have t3 := pres_grown hgc _ _ u3
        have t4 := pres_grown hgc _ _ u4
        have t5 := pres_grown hgc _ _ u5
        generalize ((runS p a).steps[j]).1 = T at *
        generalize ((runS p a).steps[j]).2 = A at *
        have q5 : (0 : Int) ≤ (j : Int) := by omega
        have q6 : (j : Int) < kk := by omega
        have q7 : (j : Int) < a.length := by omega
        have v1 : wr.cell? ⟨g1, j * 2, none⟩ = some (.int .i64 T) := by rw [cL]; exact u1
        have v2 : wr.cell? ⟨g1, j * 2 + 1, none⟩ = some (.int .i64 A) := by rw [cL]; exact u2
        have v3 : wr.cell? ⟨g2, j * 2, none⟩ = some (.int .i64 T) := by rw [cL]; exact t3
        have v4 : wr.cell? ⟨g2, j * 2 + 1, none⟩ = some (.int .i64 A) := by rw [cL]; exact t4
        have v5 : wr.cell? ⟨g3, j, none⟩ = some (.int .i64 T) := by rw [cL]; exact t5
        have v6 : wr.cell? ⟨xb, 3, none⟩ = some (.slice (some ⟨g1, 0, none⟩) kk z3) := by rw [cL]; exact n3
        have v7 : wr.cell? ⟨w2.heap.size, 3, none⟩ = some (.slice (some ⟨g2, 0, none⟩) a.length x3) := by rw [cL]; exact r3
        clear e1 e2 u1 u2 u3 u4 u5 t3 t4 t5 hgc cL n0 n1 n2 n3 n4 n5 n6 n7 n8 r0 r1 r2 r3 r4 r5 r6 r7 r8
        go_wp2_with fail
        go_quiet (fail)
        go_wp2
        go_roundw
        case rel => exact ⟨j + 1, by omega, by go_num, HL.out⟩
        case measure => simp [intOf]; omega
      · have ejk : j = kk := by omega
        have q5 : (kk : Int) ≤ (j : Int) := by omega
        clear ejk hj
        obtain ⟨w6, hw6⟩ : ∃ w6, w6 = wr := ⟨_, rfl⟩
        subst hw6
        have m3 : w6.cell? ⟨xb, 3, none⟩ = some (.slice z1 kk z3) := by rw [cL]; exact n3
        have m0 : w6.cell? ⟨xb, 0, none⟩ = some (.int .i64 (runS p (a.take kk)).kind) := by rw [cL]; exact n0
        have m1 : w6.cell? ⟨xb, 1, none⟩ = some (.int .i64 (runS p (a.take kk)).thread) := by rw [cL]; exact n1
        have m2 : w6.cell? ⟨xb, 2, none⟩ = some (.int .i64 (runS p (a.take kk)).at_) := by rw [cL]; exact n2
        have HXC6 : Hid (w6.heap[xb]? = some (.cells (resCells (runS p (a.take kk)) (.slice z1 kk z3) gx) 37 (0, 0))) := by
          unfold Hid; rw [HL.out.1]; exact HXC.out
        have HG26 : Hid (w2.grownBy w6 none) := grown_like (grown_trans HG23.out HGX.out) HL.out
        have hxl : xb < w6.heap.size := (Array.getElem?_eq_some_iff.1 HXC6.out).1
        have hpb6 : w6.cell? ⟨w1.heap.size, 0, none⟩ = some (.slice pao p.length pcap) := by
          rw [cL]; exact pres_grown HGX.out _ _ hpb
        have HR6 : Hid (w6.ownsRow (w1.heap.size + 1) 3 1 (.slice s1 a.length s3) a.length (ints a)) := by
          have h := owns_grown HRow.out HG26.out (fun _ e => by cases e)
          unfold Hid
          simpa using h
        have HN1 : Hid (s1 = none → a.length = 0 ∧ s3 = 0) := fun e => by
          rcases HR6.out.2 with ⟨e1, e2⟩ | ⟨g, c, cur, hv, _⟩
          · simp at e1; exact ⟨e2, e1.2.2⟩
          · rw [e] at hv; simp at hv
        have HN2 : Hid (∀ ad, s1 = some ad → ∃ g, ad = ⟨g, 0, none⟩ ∧ g < w6.heap.size ∧ ∀ j u, (ints a)[j]? = some u → w6.cell? ⟨g, j, none⟩ = some u) := fun ad e => by
          rcases HR6.out.2 with ⟨e1, e2⟩ | ⟨g, c, cur, hv, _, hh, _⟩
          · rw [e] at e1; simp at e1
          · rw [e] at hv
            simp at hv
            obtain ⟨rfl, rfl⟩ := hv
            have hcu := HR6.out
            rw [e] at hcu
            refine ⟨g, rfl, (Array.getElem?_eq_some_iff.1 hh).1, fun j u hu => ?_⟩
            have hjl := (List.getElem?_eq_some_iff.1 hu).1
            rw [ints_len] at hjl
            rw [hcu.cellAt j (by omega)]; exact hu
        clear cL n0 n1 n2 n3 n4 n5 n6 n7 n8 r0 r1 r2 r3 r4 r5 r6 r7 r8 HL hpb
        have HSO : Hid (s1 = none → kk = 0 ∧ s3 = 0) := fun e => by have := HN1.out e; omega
        have HNW : Hid (∀ ad, s1 = some ad → ∀ j u, (ints (a.take kk))[j]? = some u → w6.cell? (ad.add j) = some u) := fun ad e j u hu => by
          obtain ⟨g, rfl, _, h⟩ := HN2.out ad e
          have hadd : (⟨g, 0, none⟩ : Addr).add j = ⟨g, j, none⟩ := by unfold Addr.add; split <;> simp_all
          rw [hadd]; exact h j u (ints_take hu)
        have hilk : (ints (a.take kk)).length = kk * 1 := by rw [ints_len, List.length_take]; omega
        have h63 : 0 + kk ≤ maxLen := by unfold maxLen; omega
        have hpw := pickN_range wrong 1000 (by omega)
        have HPW := hide (pick_m wrong 1000 (by omega) (by omega) HW.out.1 HW.out.2)
        have HM0 := hide m0
        have HM1 := hide m1
        have HM2 := hide m2
        clear m0 m1 m2 m3
        go_upto_region 14 with fail
        go_cut [92] (fun b w' => b = .bool false ∧ w' = w6)
        case first =>
          have m0 := HM0.out
          have m1 := HM1.out
          have m2 := HM2.out
          by_cases hfull : kk < a.length
          · obtain ⟨f1, f2, f3⟩ := HCV.out hfull
            rw [f1] at m0
            rw [f2] at m1
            rw [f3] at m2
            have q6 : (kk : Int) < a.length := by omega
            clear f1 f2 f3 HM0 HM1 HM2
            go_wp2
            go_meet
            exact ⟨rfl, rfl⟩
          · have q6 : (a.length : Int) ≤ kk := by omega
            go_wp2
            go_meet
            exact ⟨rfl, rfl⟩
        case rest =>
        obtain ⟨rfl, hwc⟩ := hcut
        have hwc2 := hwc.symm
        subst hwc2
        clear HM0 HM1 HM2
        go_upto_if 102 with (first
          | (at_builtin; refine wpList_append_any rfl _ _ _ rfl w6.heap.size 3 i0 _ 1 8 Tryd.underlying22 hi0 hz0 hz1 hz2 rfl (by omega) (.slice none 0 0) 0 [] rfl ⟨rfl, Or.inl ⟨rfl, rfl⟩⟩ s1 kk s3 (ints (a.take kk)) rfl hilk HSO.out HNW.out (ints_one _) h63 (by omega) (Nat.le_refl _) ?_; intro ta tn tc w7 hown7 hg7)
          | (go_at_call 12; refine (HPW.out _).mono ?_; rintro e w8 ⟨rfl, hw8⟩; have hw9 := hw8.symm; subst hw9))
        go_cut [18] (fun xv w' => (∃ y : Int, xv = .int .i64 y ∧ (y < 0 ∨ (p.length : Int) ≤ y)) ∧ w' = w7)
        case first =>
          by_cases hng : wrong < 0
          · go_wp2_with (go_at_call 12; refine (HPW.out _).mono ?_; rintro e w8 ⟨rfl, hw8⟩; have hw9 := hw8.symm; subst hw9)
            go_meet
            exact ⟨⟨_, rfl, by omega⟩, rfl⟩
          · go_wp2_with fail
            go_meet
            exact ⟨⟨_, rfl, by omega⟩, rfl⟩
        case rest =>
        obtain ⟨⟨x, rfl, hxx⟩, hwc⟩ := hcut
        have hwc2 := hwc.symm
        subst hwc2
        have HXX := hide hxx
        clear hpw HPW hxx
        simp only [Nat.zero_add, List.nil_append] at hown7
        have c7 : w7.cell? ⟨w1.heap.size, 0, none⟩ = some (.slice pao p.length pcap) := pres_grown hg7 _ _ hpb6
        have h63b : kk + 1 ≤ maxLen := by unfold maxLen; omega
        have hs7 := hg7.size
        go_upto_region 22 with (at_builtin; refine wpList_append_lies _ rfl _ _ _ rfl w6.heap.size 3 i0 _ 1 8 Tryd.underlying22 hi0 hz0 hz1 hz2 rfl (by omega) (.slice ta tn tc) kk (ints (a.take kk)) rfl (owns_alloc hown7) ⟨w7.heap.size, 0, none⟩ 1 1 [.int .i64 x] rfl rfl (World.news_of_block (cs := #[.int .i64 x]) (t := 3) (fr := (0, 0)) (heap_alloc_new w7 _)) (by simp [Value.oneCell']) (by omega) h63b (by omega) (by simp; omega) (w7.heap.size + 1) (by simp) ?_; intro g8 cap8 w8 hown8 hgrow8 hat8 hlt8)
        have HO8 := hide hown8
        have HG68 : Hid (w6.grownBy w8 none) := grown_row (grown_alloc hg7) hgrow8 (fun q e => owns_block hown7 q e)
        have hs68 := HG68.out.size
        have hidl : (ints (a.drop kk)).length = (a.length - kk) * 1 := by rw [ints_len, List.length_drop]; omega
        have h63c : kk + 1 + (a.length - kk) ≤ maxLen := by unfold maxLen; omega
        have HSD1 : Hid (Option.map (fun x => x.add kk) s1 = none → a.length - kk = 0 ∧ s3 - kk = 0) := fun e => by
          have e1 : s1 = none := by simpa using e
          have := HN1.out e1; omega
        have HND1 : Hid (∀ ad, Option.map (fun x => x.add kk) s1 = some ad → ∀ j u, (ints (a.drop kk))[j]? = some u → w8.cell? (ad.add j) = some u) := fun ad e j u hu => by
          obtain ⟨ad0, e1, e2⟩ := Option.map_eq_some_iff.1 e
          obtain ⟨g, rfl, _, h⟩ := HN2.out ad0 e1
          have hadd : ((⟨g, 0, none⟩ : Addr).add kk).add j = ⟨g, kk + j, none⟩ := by
            have h1 : (⟨g, 0, none⟩ : Addr).add kk = ⟨g, kk, none⟩ := by unfold Addr.add; split <;> simp_all
            rw [h1]; unfold Addr.add; split <;> simp_all
          rw [← e2, hadd]
          exact pres_grown HG68.out _ _ (h (kk + j) u (ints_drop hu))
        clear hown8 hgrow8 hat8 hown7 hg7 c7
        go_cut [17] (fun tv w' => Hid (∃ tb tm td, tv = .slice tb tm td ∧ w'.ownsRow w6.heap.size 3 1 tv (kk + 1 + (a.length - kk)) (ints (a.take kk) ++ [.int .i64 x] ++ ints (a.drop kk)) ∧ w6.grownBy w' none))
        case first =>
          by_cases hsk : s3 - kk = 0
          · have hdr : a.drop kk = [] := List.drop_of_length_le (by omega)
            have HSD2 : Hid (s1 = none → a.length - kk = 0 ∧ s3 - kk = 0) := fun e => by have := HN1.out e; omega
            have HND2 : Hid (∀ ad, s1 = some ad → ∀ j u, (ints (a.drop kk))[j]? = some u → w8.cell? (ad.add j) = some u) := fun ad e j u hu => by rw [hdr] at hu; simp [ints] at hu
            have HSD3 : Hid (s1 = none → a.length - kk = 0 ∧ (0 : Nat) = 0) := fun e => ⟨(HSD2.out e).1, rfl⟩
            clear hdr
            go_wp2_with (at_builtin; refine wpList_append_any rfl _ _ _ rfl w6.heap.size 3 i0 _ 1 8 Tryd.underlying22 hi0 hz0 hz1 hz2 rfl (by omega) (.slice (some ⟨g8, 0, none⟩) (kk + 1) cap8) (kk + 1) (ints (a.take kk) ++ [.int .i64 x]) rfl HO8.out s1 (a.length - kk) 0 (ints (a.drop kk)) rfl hidl HSD3.out HND2.out (ints_one _) h63c (by omega) hs68 ?_; intro tb tm td w9 hown9 hg9)
            go_meet
            exact ⟨tb, tm, td, rfl, hown9, grown_row HG68.out hg9 (fun q e => by have := owns_block HO8.out q e; omega)⟩
          · have HSD2 := HSD1
            have HND2 := HND1
            go_wp2_with (first | (at_builtin; refine wpList_append_any rfl _ _ _ rfl w6.heap.size 3 i0 _ 1 8 Tryd.underlying22 hi0 hz0 hz1 hz2 rfl (by omega) (.slice (some ⟨g8, 0, none⟩) (kk + 1) cap8) (kk + 1) (ints (a.take kk) ++ [.int .i64 x]) rfl HO8.out (Option.map (fun x => x.add kk) s1) (a.length - kk) (s3 - kk) (ints (a.drop kk)) rfl hidl (by first | exact HSD1.out | exact HSD2.out) (by first | exact HND1.out | exact HND2.out) (ints_one _) h63c (by omega) hs68 ?_; intro tb tm td w9 hown9 hg9))
            go_meet
            exact ⟨tb, tm, td, rfl, hown9, grown_row HG68.out hg9 (fun q e => by have := owns_block HO8.out q e; omega)⟩
        case rest =>
        obtain ⟨tb, tm, td, rfl, hown9, hg9⟩ := hcut
        obtain ⟨w9, hw9⟩ : ∃ w9, w9 = wc := ⟨_, rfl⟩
        subst hw9
        have hbl : (a.take kk ++ [x] ++ a.drop kk).length = kk + 1 + (a.length - kk) := by simp; omega
        have HI9 : Hid (IntsAt w9.heap.size w9 (.slice tb tm td) (a.take kk ++ [x] ++ a.drop kk)) := by
          apply owns_ints (base := w6.heap.size)
          rw [hbl]
          have e : ints (a.take kk ++ [x] ++ a.drop kk) = ints (a.take kk) ++ [.int .i64 x] ++ ints (a.drop kk) := by simp [ints]
          rw [e]; exact hown9
        have hmm := owns_lenq hown9
        have htm : tm = (a.take kk ++ [x] ++ a.drop kk).length := by omega
        have c9 : w9.cell? ⟨w1.heap.size, 0, none⟩ = some (.slice pao p.length pcap) := pres_grown hg9 _ _ hpb6
        have HG29 : Hid (w2.grownBy w9 none) := grown_trans HG26.out hg9
        have HX9 : Hid (w9.heap[xb]? = some (.cells (resCells (runS p (a.take kk)) (.slice z1 kk z3) gx) 37 (0, 0))) := by
          unfold Hid; rw [hg9.block _ hxl (by simp)]; exact HXC6.out
        have HRP := hide (replay_m p (a.take kk ++ [x] ++ a.drop kk) (.agg #[.slice pao p.length pcap]) (.slice tb tm td) w9 (HSh.out.pres (pres_grown (grown_trans HG2.out HG29.out))) (HP1.out.pres (pres_grown (grown_trans (grown_trans (grown_alloc (grown_refl _ _)) HGW.out) HG29.out))) HI9.out)
        have hb5 : (a.take kk ++ [x] ++ a.drop kk).length ≤ 500 := by omega
        have HCW := hide (cut_wrong HSD.out (by omega : kk ≤ a.length) x HXX.out)
        have hxl9 : xb < w9.heap.size := by have := hg9.size; omega
        have hlkk := hlk
        clear hown9 hg9 hmm htm hbl HI9 HSO HNW HN1 HN2 HND1 HSD1 hidl hilk h63 h63b h63c HO8 HG68
        go_wp2_with fail
        refine HRP.out.mono ?_
        clear HRP
        rintro e w10 ⟨hg10, h⟩
        rcases h with ⟨_, rv10, rfl, sy, gy, rfl, ho10, hp10⟩ | ⟨h, _⟩
        case inr => exact absurd (checkRun_ok HVP.out hb5) h
        have hx10 : w10.heap[xb]? = some (.cells (resCells (runS p (a.take kk)) (.slice z1 kk z3) gx) 37 (0, 0)) := by
          rw [hg10.block _ hxl9 (by simp)]; exact HX9.out
        obtain ⟨n0, n1, n2, n3, n4, n5, n6, n7, n8, _⟩ := nine_cells hx10
        obtain ⟨u1, u2, u3, rfl⟩ := owns_form ho10
        have hu2 := owns_lenq ho10
        obtain ⟨v1, v2, v3, rfl⟩ := owns_form hp10
        have HEND : Hid (w.grownBy w10 none) := grown_trans (grown_trans HG2.out HG29.out) hg10
        clear hx10 ho10 hp10 hg10 c9 hpb6
        by_cases hk1 : (runS p (a.take kk)).kind = 1
        · have hoy := HCW.out.1 hk1
          rw [hoy] at hu2 ⊢
          have hu3 : u2 = kk := hu2.trans hlkk
          subst hu3
          clear hoy hu2
          generalize runS p (a.take u2) = o at *
          rw [hk1] at n0 ⊢
          go_wp2_with fail
          go_ret
          exact ⟨rfl, grown_alloc HEND.out⟩
        · have hoy := HCW.out.2 hk1
          rw [hoy] at hu2 ⊢
          have hu3 : u2 = kk := hu2.trans hlkk
          subst hu3
          have hk1' : ((runS p (a.take u2)).kind == 1) = false := by simpa using hk1
          clear hoy hu2 hk1
          generalize runS p (a.take u2) = o at *
          go_wp2_with fail
          go_ret
          exact ⟨rfl, grown_alloc HEND.out⟩

end Go.Proofs.YtklenjmfalljgaaDoor
