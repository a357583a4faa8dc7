/- The texts Cut Cct Frm Frn Fro Frq Svd Sho Fld. -/
import Derived.Test.YtklenjmfalljgaaDoorMC
import Derived.Deep.DeepCutAuto
import Derived.Lib.AppendZeros
import Derived.RowKit

/- The walk of Cut. -/
namespace Go.Proofs.YtklenjmfalljgaaDoor
open Go.RowKit
attribute [local go_sem] Go.World.cell?_alloc_some run_eq4

section
variable {P : Program} {w : World} {ops : Array Oper} {rest : List Oper} {o : Oper} {a : Act} {Q : Exit → Act → World → Prop}
/-- append of a slice (nil, empty or not) onto a row of the call's own. -/
theorem wpList_append_any (hgd : o.guard = none) (s x : Operand) (t : TypeId) (ho : o.op = .call { callee := .builtin .append, args := #[s, x], argTypes := #[t, t] })
    (base : Nat) (e : TypeId) (i : TypeInfo) (z : Value) (size bytes : Nat) (ht : P.underlying t = some (.slice e)) (hi : P.info? e = some i) (hz : i.zero = some z) (hsize : i.size = size) (hby : i.bytes = bytes) (hzs : z.cells.size = size) (hsz : 0 < size)
    (v : Value) (n : Nat) (xs : List Value) (hs : a.eval s = v) (hown : w.ownsRow base e size v n xs) (so : Option Addr) (m c : Nat) (news : List Value) (hx : a.eval x = .slice so m c) (hl : news.length = m * size)
    (hso : so = none → m = 0 ∧ c = 0) (hnews : ∀ ad, so = some ad → ∀ j u, news[j]? = some u → w.cell? (ad.add j) = some u) (h1 : ∀ u ∈ news, u.oneCell' = true) (h63 : n + m ≤ maxLen) (hbytes : (n + m) * bytes ≤ 140737488355328) (hbase : base ≤ w.heap.size)
    (h : ∀ ta tn tc w', w'.ownsRow base e size (.slice ta tn tc) (n + m) (xs ++ news) → w.grownBy w' v.ownBlock → wpList P ops Q rest (a.put o.dst (.slice ta tn tc)) w') : wpList P ops Q (o :: rest) a w := by
  refine wpList_plain hgd fun K hK => ?_
  cases so with
  | none =>
    obtain ⟨rfl, rfl⟩ := hso rfl
    have hrun := run_append_owned_none (P := P) w base t o.type e i size ht hi v n xs hown
    have hx0 : news = [] := List.length_eq_zero_iff.1 (by omega)
    obtain ⟨ta, tn, tc, rfl⟩ := owns_form hown
    unfold Oper.wp
    simp [execOp, ho, resolve, invoke, builtin, hs, hx, hrun, Result.andThen]
    exact hK _ _ (h _ _ _ w (by rw [hx0]; simpa using hown) (grown_refl _ _))
  | some ad =>
    obtain ⟨v', w', hrun, h2, h3, h4, h5⟩ := run_append_own_at (P := P) w base t o.type e i z size bytes ht hi hz hsize hby hzs hsz v n xs hown ad m c news hl (hnews ad rfl) h1 h63 hbytes hbase
    obtain ⟨ta, tn, tc, rfl⟩ := owns_form h2
    unfold Oper.wp
    simp [execOp, ho, resolve, invoke, builtin, hs, hx, hrun, Result.andThen]
    exact hK _ _ (h _ _ _ w' h2 h3)
end

theorem flatS_get : ∀ (l : List (Int × Int)) (j : Nat) (hj : j < l.length), (flatS l)[j * 2]? = some (.int .i64 l[j].1) ∧ (flatS l)[j * 2 + 1]? = some (.int .i64 l[j].2)
  | [], j, hj => by simp at hj
  | x :: l, 0, hj => by simp [flatS]
  | x :: l, j + 1, hj => by
    have h := flatS_get l j (by simpa using hj)
    have e : flatS (x :: l) = [.int .i64 x.1, .int .i64 x.2] ++ flatS l := by simp [flatS]
    have e2 : ∀ q, (flatS (x :: l))[(j + 1) * 2 + q]? = (flatS l)[j * 2 + q]? := fun q => by
      rw [e, List.getElem?_append_right (by simp; omega)]
      congr 1
      simp; omega
    refine ⟨?_, ?_⟩
    · have := e2 0; simp only [Nat.add_zero] at this; rw [this]; simpa using h.1
    · rw [e2 1]; simpa using h.2

theorem ints_take {a : List Int} {k j : Nat} {u : Value} (h : (ints (a.take k))[j]? = some u) : (ints a)[j]? = some u := by
  have hj := (List.getElem?_eq_some_iff.1 h).1
  rw [ints_len] at hj
  have hj2 : j < k ∧ j < a.length := by simp at hj; omega
  simp only [ints, List.getElem?_map, List.getElem?_take] at h ⊢
  simpa [hj2.1] using h
theorem ints_drop {a : List Int} {k j : Nat} {u : Value} (h : (ints (a.drop k))[j]? = some u) : (ints a)[k + j]? = some u := by
  simpa [ints, List.getElem?_drop] using h

/-- The cells of a row of steps. -/
theorem step_cells {w : World} {base : Nat} {ao : Option Addr} {n c m : Nat} {l : List (Int × Int)} (h : w.ownsRow base 48 2 (.slice ao n c) m (flatS l)) (hm : m = l.length) {j : Nat} (hj : j < l.length) :
    ∃ g, ao = some ⟨g, 0, none⟩ ∧ g < w.heap.size ∧ w.cell? ⟨g, j * 2, none⟩ = some (.int .i64 l[j].1) ∧ w.cell? ⟨g, j * 2 + 1, none⟩ = some (.int .i64 l[j].2) := by
  obtain ⟨g, cap, e, _, hlt⟩ := h.form (by omega)
  simp at e
  obtain ⟨rfl, rfl, rfl⟩ := e
  have q := flatS_get l j hj
  exact ⟨g, rfl, hlt, by rw [h.cellAt _ (by omega)]; exact q.1, by rw [h.cellAt _ (by omega)]; exact q.2⟩

theorem int_cell {w : World} {base : Nat} {ao : Option Addr} {n c m : Nat} {l : List Int} (h : w.ownsRow base 3 1 (.slice ao n c) m (ints l)) (hm : m = l.length) {j : Nat} (hj : j < l.length) :
    ∃ g, ao = some ⟨g, 0, none⟩ ∧ g < w.heap.size ∧ w.cell? ⟨g, j, none⟩ = some (.int .i64 l[j]) := by
  obtain ⟨g, cap, e, _, hlt⟩ := h.form (by omega)
  simp at e
  obtain ⟨rfl, rfl, rfl⟩ := e
  exact ⟨g, rfl, hlt, by rw [h.cellAt _ (by omega)]; simp [ints, hj]⟩

set_option maxHeartbeats 8000000 in
set_option maxRecDepth 100000 in
theorem cut_m (raw : List (List Int)) (ch : List Int) (at_ wrong : Int) (rawv chv : Value) (w : World) (hS : ShpAt w) (hR : RawAt w rawv raw) (hbR : ∀ t (ht : t < raw.length) k (hk : k < raw[t].length), isInt raw[t][k])
    (hC : IntsAt w.heap.size w chv ch) (hbC : ∀ k (hk : k < ch.length), -9223372036854775808 ≤ ch[k] ∧ ch[k] ≤ 9223372036854775807) (hat : isInt at_) (hwr : isInt wrong) :
    Calls Tryd.prog 5 #[rawv, chv, .int .i64 at_, .int .i64 wrong] w fun e w' => e = .returned (.bool true) ∧ w.grownBy w' none := by
  obtain ⟨i0, hi0, hz0, hz1, hz2⟩ := info_parts info_int
  have HSh := hide hS
  have HC := hide hC
  have HBC := hide hbC
  have HA := hide hat
  have HW := hide hwr
  have HPR := hide (program_m raw rawv w hR hbR)
  have hvp := progN_valid raw
  clear hS hR hbR hC hbC hat hwr
  generalize progN raw = p at *
  have HVP := hide hvp
  have hlen := vProg_len hvp
  clear hvp
  go_enter Tryd.func5, Tryd.ntmps5
  go_wp2_with fail
  refine HPR.out.mono ?_
  clear HPR
  rintro e w1 ⟨tv, rfl, hP, hg1⟩
  have hform := hP.form
  obtain ⟨pao, pcap, htv⟩ := hform
  have htv2 : tv = .slice pao p.length pcap := by simpa using htv
  subst htv2
  have HP1 := hide hP
  have HG1 := hide hg1
  have hs1 := hg1.size
  clear hP hg1 htv
  go_wp2_with fail
  have HSC := hide (schedule_m p ch (.agg #[.slice pao p.length pcap]) chv (w1.alloc (.cells #[.slice pao p.length pcap] 25)) (HSh.out.pres (pres_grown (grown_alloc HG1.out))) HVP.out (HP1.out.pres (pres_grown (grown_alloc (grown_refl _ _)))) ((HC.out.pres (pres_grown (grown_alloc HG1.out))).mono (by simp; omega)) HBC.out)
  refine HSC.out.mono ?_
  clear HSC
  rintro e w2 ⟨sv, rv, a, rfl, hrow, ⟨st, gt, rfl, ho1, ho2⟩, hsd, h200, _, hg2⟩
  have HSD := hide hsd
  have hsz2 : w1.heap.size + 1 ≤ w2.heap.size := by have := hg2.size; simpa using this
  obtain ⟨s1, s2, s3, rfl⟩ := owns_form hrow
  have e2 := owns_lenq hrow
  subst e2
  obtain ⟨x1, x2, x3, rfl⟩ := owns_form ho1
  have e3 := (owns_lenq ho1).trans hsd.2
  subst e3
  obtain ⟨y1, y2, y3, rfl⟩ := owns_form ho2
  have HRow := hide hrow
  have HO1 := hide ho1
  have HPB : Hid (w2.heap[w1.heap.size]? = some (.cells #[.slice pao p.length pcap] 25 (0, 0))) := by
    unfold Hid; rw [hg2.block _ (by simp) (by simp)]; exact heap_alloc_new w1 _
  have HG2 : Hid (w.grownBy w2 none) := grown_trans (grown_alloc HG1.out) hg2
  have HGW : Hid ((w1.alloc (.cells #[.slice pao p.length pcap] 25)).grownBy w2 none) := hg2
  have HII := hide (owns_ints hrow)
  have hcap : a.length ≤ s3 := by
    obtain ⟨ao', cap', e, hc, _⟩ := HII.out
    simp at e; omega
  clear hrow ho1 ho2 hsd hg2
  obtain ⟨k, hk⟩ := Int.eq_ofNat_of_zero_le (pickN_range at_ (a.length + 1) (by omega)).1
  have hk2 : k ≤ a.length := by have := (pickN_range at_ (a.length + 1) (by omega)).2; omega
  have HPK := hide (pick_m at_ (a.length + 1) (by omega) (by omega) HA.out.1 HA.out.2)
  rw [hk] at HPK
  clear hk
  go_wp2_with fail
  refine (HPK.out _).mono ?_
  clear HPK
  rintro e w3 ⟨rfl, rfl⟩
  have q0 : (0 : Int) ≤ (k : Int) := by omega
  have q1 : (k : Int) ≤ a.length := by omega
  have q2 : (a.length : Int) ≤ s3 := by omega
  have q3 : (k : Int) ≤ s3 := by omega
  go_wp2_with fail
  generalize hw3 : w2.alloc (Obj.cells #[Value.int IntKind.i64 (runS p a).kind, Value.int IntKind.i64 (runS p a).thread, Value.int IntKind.i64 (runS p a).at_, Value.slice x1 a.length x3, Value.int IntKind.i64 ((runS p a).st.vars 0), Value.int IntKind.i64 ((runS p a).st.vars 1), Value.int IntKind.i64 ((runS p a).st.vars 2), Value.int IntKind.i64 ((runS p a).st.vars 3), Value.slice y1 y2 y3] 37) = w3
  have hsz3 : w3.heap.size = w2.heap.size + 1 := by rw [← hw3]; simp
  have HG23 : Hid (w2.grownBy w3 none) := by unfold Hid; rw [← hw3]; exact grown_alloc (grown_refl _ _)
  have HRB : Hid (w3.heap[w2.heap.size]? = some (.cells (resCells (runS p a) (.slice x1 a.length x3) (.slice y1 y2 y3)) 37 (0, 0))) := by
    unfold Hid; rw [← hw3]; exact heap_alloc_new w2 _
  have hpb : w3.cell? ⟨w1.heap.size, 0, none⟩ = some (.slice pao p.length pcap) := by
    rw [World.cell?_of_block (HG23.out.block _ (by simp; omega) (by simp))]
    simp [World.cell?, HPB.out]
  clear hw3
  have HSZ3 := hide hsz3
  clear hsz3
  have hsz3 : w2.heap.size < w3.heap.size := by rw [HSZ3.out]; omega
  -- the beginning of s, as it lies
  have HTK : Hid (IntsAt w2.heap.size w2 (.slice s1 k s3) (a.take k)) := by
    obtain ⟨ao', cap', e, hc, h⟩ := HII.out
    simp at e
    obtain ⟨rfl, rfl⟩ := e
    refine ⟨s1, s3, by simp; omega, by simp; omega, fun j hj => ?_⟩
    have hj2 : j < a.length := by simp at hj; omega
    obtain ⟨g, o, e1, e2, e3⟩ := h j hj2
    exact ⟨g, o, e1, e2, by simpa using e3⟩
  have HALL : Hid (∀ u, w3.grownBy u none → Calls Tryd.prog 16 #[.agg #[.slice pao p.length pcap], .slice s1 k s3] u (Replayed p (a.take k) u)) := fun u hu => by
    have hg : w2.grownBy u none := grown_trans HG23.out hu
    exact replay_m p (a.take k) _ _ u (HSh.out.pres (pres_grown (grown_trans HG2.out hg))) (HP1.out.pres (pres_grown (grown_trans (grown_trans (grown_alloc (grown_refl _ _)) (HGW.out)) hg))) ((HTK.out.pres (pres_grown hg)).mono (by have := hg.size; omega))
  have hne31 : w3.heap.size ≠ w1.heap.size := by omega
  have htk : (a.take k).length ≤ 500 := by rw [List.length_take]; omega
  go_cut [14, 15] (fun xb ev w' => ev = .int .i64 0 ∧ ∃ b, xb = .pointer (some ⟨b, 0, none⟩) ∧ Hid (w3.grownBy w' none ∧ w3.heap.size ≤ b ∧ ∃ sx gx, w'.heap[b]? = some (.cells (resCells (runS p (a.take k)) sx gx) 37 (0, 0)) ∧ w'.ownsRow w3.heap.size 48 2 sx (runS p (a.take k)).steps.length (flatS (runS p (a.take k)).steps)))
  case first =>
    go_region_held3 (fun u => u.cell? ⟨w1.heap.size, 0, none⟩ = some (.slice pao p.length pcap)) (go_keep)
      (first
        | (go_at_call 16; refine (HALL.out _ (grown_drew (grown_refl _ _))).mono ?_; rintro e w5 ⟨hg5, h5⟩; rcases h5 with ⟨_, rv5, rfl, sx, gx, rfl, ho5, hp5⟩ | ⟨h5, _⟩; (case inr => exact absurd (checkRun_ok HVP.out htk) h5); have s5 : w5.cell? ⟨w1.heap.size, 0, none⟩ = some (.slice pao p.length pcap) := (pres_grown hg5 _ _ (by simp [go_sem, hpb])); obtain ⟨z1, z2, z3, rfl⟩ := owns_form ho5; obtain ⟨z4, z5, z6, rfl⟩ := owns_form hp5)
        | (go_at_call 16; refine (HALL.out _ (grown_drew (grown_alloc (grown_refl _ _)))).mono ?_; rintro e w5 ⟨hg5, h5⟩; rcases h5 with ⟨_, rv5, rfl, sx, gx, rfl, ho5, hp5⟩ | ⟨h5, _⟩; (case inr => exact absurd (checkRun_ok HVP.out htk) h5); have s5 : w5.cell? ⟨w1.heap.size, 0, none⟩ = some (.slice pao p.length pcap) := (pres_grown hg5 _ _ (by simp [go_sem, hpb])); obtain ⟨z1, z2, z3, rfl⟩ := owns_form ho5; obtain ⟨z4, z5, z6, rfl⟩ := owns_form hp5; have hX : w5.heap[w3.heap.size]? = some (.cells zeroRes 37 (0, 0)) := (by rw [hg5.block _ (by simp) (by simp)]; exact heap_alloc_new w3 _); obtain ⟨m0, m1, m2, m3, m4, m5, m6, m7, m8, mf⟩ := nine_cells hX; have mf0 := mf 0; have mf1 := mf 1; have mf2 := mf 2; have mf3 := mf 3; have mf4 := mf 4; have mf5 := mf 5; have mf6 := mf 6; have mf7 := mf 7; have mf8 := mf 8; clear mf))
    all_goals (try go_wp2_with fail)
    all_goals go_meet
    · exact ⟨rfl, _, rfl, grown_alloc (grown_trans (grown_drew (grown_refl _ _)) hg5), (by have := hg5.size; simpa using this), _, _, heap_alloc_new w5 _, owns_alloc (owns_mono ho5 (by simp))⟩
    · refine ⟨rfl, _, rfl, ?_, Nat.le_refl _, _, _, set9 hX, ?_⟩
      · iterate 9 refine grown_setNew ?_ (by omega)
        exact grown_trans (grown_drew (grown_alloc (grown_refl _ _))) hg5
      · refine owns_mono (base := w3.heap.size + 1) ?_ (by omega)
        iterate 9 refine ownsRow_setCell_below ?_ (by simp) _
        exact owns_mono ho5 (by simp)
  case rest =>
    obtain ⟨rfl, xb, rfl, HX⟩ := hcut
    obtain ⟨hgx, hxb, sx, gx, hxc, hxo⟩ := HX.out
    obtain ⟨z1, kk, z3, rfl⟩ := owns_form hxo
    have ez := owns_lenq hxo
    obtain ⟨hck, hcv⟩ := cut_run HSD.out hk2
    have hlk : (runS p (a.take k)).steps.length = k := by rw [hck]; simp [HSD.out.2]; omega
    rw [hlk] at ez
    subst ez
    obtain ⟨n0, n1, n2, n3, n4, n5, n6, n7, n8, _⟩ := nine_cells hxc
    have hrbc : wc.heap[w2.heap.size]? = some (.cells (resCells (runS p a) (.slice x1 a.length x3) (.slice y1 y2 y3)) 37 (0, 0)) := by
      rw [hgx.block _ (by omega) (by simp)]; exact HRB.out
    obtain ⟨r0, r1, r2, r3, r4, r5, r6, r7, r8, _⟩ := nine_cells hrbc
    have HGX := hide hgx
    have HXO := hide hxo
    have HXC := hide hxc
    have HCK := hide hck
    have HCV := hide hcv
    clear HX hgx hxo hck hcv hrbc hxc HALL
    go_wp2_with fail
    go_loopw [16] (fun i w' => ∃ j : Nat, j ≤ kk ∧ i = .int .i64 j ∧ Hid (Like w' wc)) (fun i _ => kk - (intOf i).toNat)
    case atStart => exact ⟨0, Nat.zero_le _, rfl, rfl, rfl, rfl, rfl⟩
    case round =>
      obtain ⟨j, hj, rfl, HL⟩ := hrel
      have cL : ∀ x, wr.cell? x = wc.cell? x := fun x => by simp [World.cell?, HL.out.1]
      by_cases hlt : j < kk
      · have hjs : j < (runS p a).steps.length := by have := HSD.out.2; omega
        have hj2 : j < (runS p (a.take kk)).steps.length := by omega
        obtain ⟨g1, rfl, _, u1, u2⟩ := step_cells HXO.out rfl hj2
        obtain ⟨g2, rfl, hg2, u3, u4⟩ := step_cells HO1.out rfl hjs
        obtain ⟨g3, rfl, hg3, u5⟩ := int_cell HRow.out rfl (by omega : j < a.length)
        have e1 : (runS p (a.take kk)).steps[j] = (runS p a).steps[j] := by simp [HCK.out]
        have e2 : a[j] = ((runS p a).steps[j]).1 := by
          have h := sched_fst HSD.out
          have h2 : ((runS p a).steps.map (·.1))[j]? = a[j]? := by rw [h]
          rw [List.getElem?_map, List.getElem?_eq_getElem hjs, List.getElem?_eq_getElem (by omega : j < a.length)] at h2
          simpa using h2.symm
        rw [e1] at u1 u2
        rw [e2] at u5
        have hgc : w2.grownBy wc none := grown_trans HG23.out HGX.out
        have t3 := pres_grown hgc _ _ u3
        have t4 := pres_grown hgc _ _ u4
        have t5 := pres_grown hgc _ _ u5
        generalize ((runS p a).steps[j]).1 = T at *
        generalize ((runS p a).steps[j]).2 = A at *
        have q5 : (0 : Int) ≤ (j : Int) := by omega
        have q6 : (j : Int) < kk := by omega
        have q7 : (j : Int) < a.length := by omega
        have v1 : wr.cell? ⟨g1, j * 2, none⟩ = some (.int .i64 T) := by rw [cL]; exact u1
        have v2 : wr.cell? ⟨g1, j * 2 + 1, none⟩ = some (.int .i64 A) := by rw [cL]; exact u2
        have v3 : wr.cell? ⟨g2, j * 2, none⟩ = some (.int .i64 T) := by rw [cL]; exact t3
        have v4 : wr.cell? ⟨g2, j * 2 + 1, none⟩ = some (.int .i64 A) := by rw [cL]; exact t4
        have v5 : wr.cell? ⟨g3, j, none⟩ = some (.int .i64 T) := by rw [cL]; exact t5
        have v6 : wr.cell? ⟨xb, 3, none⟩ = some (.slice (some ⟨g1, 0, none⟩) kk z3) := by rw [cL]; exact n3
        have v7 : wr.cell? ⟨w2.heap.size, 3, none⟩ = some (.slice (some ⟨g2, 0, none⟩) a.length x3) := by rw [cL]; exact r3
        clear e1 e2 u1 u2 u3 u4 u5 t3 t4 t5 hgc cL n0 n1 n2 n3 n4 n5 n6 n7 n8 r0 r1 r2 r3 r4 r5 r6 r7 r8
        go_wp2_with fail
        go_quiet (fail)
        go_wp2
        go_roundw
        case rel => exact ⟨j + 1, by omega, by go_num, HL.out⟩
        case measure => simp [intOf]; omega
      · have ejk : j = kk := by omega
        have q5 : (kk : Int) ≤ (j : Int) := by omega
        clear ejk hj
        obtain ⟨w6, hw6⟩ : ∃ w6, w6 = wr := ⟨_, rfl⟩
        subst hw6
        have m3 : w6.cell? ⟨xb, 3, none⟩ = some (.slice z1 kk z3) := by rw [cL]; exact n3
        have m0 : w6.cell? ⟨xb, 0, none⟩ = some (.int .i64 (runS p (a.take kk)).kind) := by rw [cL]; exact n0
        have m1 : w6.cell? ⟨xb, 1, none⟩ = some (.int .i64 (runS p (a.take kk)).thread) := by rw [cL]; exact n1
        have m2 : w6.cell? ⟨xb, 2, none⟩ = some (.int .i64 (runS p (a.take kk)).at_) := by rw [cL]; exact n2
        have HXC6 : Hid (w6.heap[xb]? = some (.cells (resCells (runS p (a.take kk)) (.slice z1 kk z3) gx) 37 (0, 0))) := by
          unfold Hid; rw [HL.out.1]; exact HXC.out
        have HG26 : Hid (w2.grownBy w6 none) := grown_like (grown_trans HG23.out HGX.out) HL.out
        have hxl : xb < w6.heap.size := (Array.getElem?_eq_some_iff.1 HXC6.out).1
        have hpb6 : w6.cell? ⟨w1.heap.size, 0, none⟩ = some (.slice pao p.length pcap) := by
          rw [cL]; exact pres_grown HGX.out _ _ hpb
        have HR6 : Hid (w6.ownsRow (w1.heap.size + 1) 3 1 (.slice s1 a.length s3) a.length (ints a)) := by
          have h := owns_grown HRow.out HG26.out (fun _ e => by cases e)
          unfold Hid
          simpa using h
        have HN1 : Hid (s1 = none → a.length = 0 ∧ s3 = 0) := fun e => by
          rcases HR6.out.2 with ⟨e1, e2⟩ | ⟨g, c, cur, hv, _⟩
          · simp at e1; exact ⟨e2, e1.2.2⟩
          · rw [e] at hv; simp at hv
        have HN2 : Hid (∀ ad, s1 = some ad → ∃ g, ad = ⟨g, 0, none⟩ ∧ g < w6.heap.size ∧ ∀ j u, (ints a)[j]? = some u → w6.cell? ⟨g, j, none⟩ = some u) := fun ad e => by
          rcases HR6.out.2 with ⟨e1, e2⟩ | ⟨g, c, cur, hv, _, hh, _⟩
          · rw [e] at e1; simp at e1
          · rw [e] at hv
            simp at hv
            obtain ⟨rfl, rfl⟩ := hv
            have hcu := HR6.out
            rw [e] at hcu
            refine ⟨g, rfl, (Array.getElem?_eq_some_iff.1 hh).1, fun j u hu => ?_⟩
            have hjl := (List.getElem?_eq_some_iff.1 hu).1
            rw [ints_len] at hjl
            rw [hcu.cellAt j (by omega)]; exact hu
        clear cL n0 n1 n2 n3 n4 n5 n6 n7 n8 r0 r1 r2 r3 r4 r5 r6 r7 r8 HL hpb
        have HSO : Hid (s1 = none → kk = 0 ∧ s3 = 0) := fun e => by have := HN1.out e; omega
        have HNW : Hid (∀ ad, s1 = some ad → ∀ j u, (ints (a.take kk))[j]? = some u → w6.cell? (ad.add j) = some u) := fun ad e j u hu => by
          obtain ⟨g, rfl, _, h⟩ := HN2.out ad e
          have hadd : (⟨g, 0, none⟩ : Addr).add j = ⟨g, j, none⟩ := by unfold Addr.add; split <;> simp_all
          rw [hadd]; exact h j u (ints_take hu)
        have hilk : (ints (a.take kk)).length = kk * 1 := by rw [ints_len, List.length_take]; omega
        have h63 : 0 + kk ≤ maxLen := by unfold maxLen; omega
        have hpw := pickN_range wrong 1000 (by omega)
        have HPW := hide (pick_m wrong 1000 (by omega) (by omega) HW.out.1 HW.out.2)
        have HM0 := hide m0
        have HM1 := hide m1
        have HM2 := hide m2
        clear m0 m1 m2 m3
        go_upto_region 14 with fail
        go_cut [92] (fun b w' => b = .bool false ∧ w' = w6)
        case first =>
          have m0 := HM0.out
          have m1 := HM1.out
          have m2 := HM2.out
          by_cases hfull : kk < a.length
          · obtain ⟨f1, f2, f3⟩ := HCV.out hfull
            rw [f1] at m0
            rw [f2] at m1
            rw [f3] at m2
            have q6 : (kk : Int) < a.length := by omega
            clear f1 f2 f3 HM0 HM1 HM2
            go_wp2
            go_meet
            exact ⟨rfl, rfl⟩
          · have q6 : (a.length : Int) ≤ kk := by omega
            go_wp2
            go_meet
            exact ⟨rfl, rfl⟩
        case rest =>
        obtain ⟨rfl, hwc⟩ := hcut
        have hwc2 := hwc.symm
        subst hwc2
        clear HM0 HM1 HM2
        go_upto_if 102 with (first
          | (at_builtin; refine wpList_append_any rfl _ _ _ rfl w6.heap.size 3 i0 _ 1 8 Tryd.underlying22 hi0 hz0 hz1 hz2 rfl (by omega) (.slice none 0 0) 0 [] rfl ⟨rfl, Or.inl ⟨rfl, rfl⟩⟩ s1 kk s3 (ints (a.take kk)) rfl hilk HSO.out HNW.out (ints_one _) h63 (by omega) (Nat.le_refl _) ?_; intro ta tn tc w7 hown7 hg7)
          | (go_at_call 12; refine (HPW.out _).mono ?_; rintro e w8 ⟨rfl, hw8⟩; have hw9 := hw8.symm; subst hw9))
        go_cut [18] (fun xv w' => (∃ y : Int, xv = .int .i64 y ∧ (y < 0 ∨ (p.length : Int) ≤ y)) ∧ w' = w7)
        case first =>
          by_cases hng : wrong < 0
          · go_wp2_with (go_at_call 12; refine (HPW.out _).mono ?_; rintro e w8 ⟨rfl, hw8⟩; have hw9 := hw8.symm; subst hw9)
            go_meet
            exact ⟨⟨_, rfl, by omega⟩, rfl⟩
          · go_wp2_with fail
            go_meet
            exact ⟨⟨_, rfl, by omega⟩, rfl⟩
        case rest =>
        obtain ⟨⟨x, rfl, hxx⟩, hwc⟩ := hcut
        have hwc2 := hwc.symm
        subst hwc2
        have HXX := hide hxx
        clear hpw HPW hxx
        simp only [Nat.zero_add, List.nil_append] at hown7
        have c7 : w7.cell? ⟨w1.heap.size, 0, none⟩ = some (.slice pao p.length pcap) := pres_grown hg7 _ _ hpb6
        have h63b : kk + 1 ≤ maxLen := by unfold maxLen; omega
        have hs7 := hg7.size
        go_upto_region 22 with (at_builtin; refine wpList_append_lies _ rfl _ _ _ rfl w6.heap.size 3 i0 _ 1 8 Tryd.underlying22 hi0 hz0 hz1 hz2 rfl (by omega) (.slice ta tn tc) kk (ints (a.take kk)) rfl (owns_alloc hown7) ⟨w7.heap.size, 0, none⟩ 1 1 [.int .i64 x] rfl rfl (World.news_of_block (cs := #[.int .i64 x]) (t := 3) (fr := (0, 0)) (heap_alloc_new w7 _)) (by simp [Value.oneCell']) (by omega) h63b (by omega) (by simp; omega) (w7.heap.size + 1) (by simp) ?_; intro g8 cap8 w8 hown8 hgrow8 hat8 hlt8)
        have HO8 := hide hown8
        have HG68 : Hid (w6.grownBy w8 none) := grown_row (grown_alloc hg7) hgrow8 (fun q e => owns_block hown7 q e)
        have hs68 := HG68.out.size
        have hidl : (ints (a.drop kk)).length = (a.length - kk) * 1 := by rw [ints_len, List.length_drop]; omega
        have h63c : kk + 1 + (a.length - kk) ≤ maxLen := by unfold maxLen; omega
        have HSD1 : Hid (Option.map (fun x => x.add kk) s1 = none → a.length - kk = 0 ∧ s3 - kk = 0) := fun e => by
          have e1 : s1 = none := by simpa using e
          have := HN1.out e1; omega
        have HND1 : Hid (∀ ad, Option.map (fun x => x.add kk) s1 = some ad → ∀ j u, (ints (a.drop kk))[j]? = some u → w8.cell? (ad.add j) = some u) := fun ad e j u hu => by
          obtain ⟨ad0, e1, e2⟩ := Option.map_eq_some_iff.1 e
          obtain ⟨g, rfl, _, h⟩ := HN2.out ad0 e1
          have hadd : ((⟨g, 0, none⟩ : Addr).add kk).add j = ⟨g, kk + j, none⟩ := by
            have h1 : (⟨g, 0, none⟩ : Addr).add kk = ⟨g, kk, none⟩ := by unfold Addr.add; split <;> simp_all
            rw [h1]; unfold Addr.add; split <;> simp_all
          rw [← e2, hadd]
          exact pres_grown HG68.out _ _ (h (kk + j) u (ints_drop hu))
        clear hown8 hgrow8 hat8 hown7 hg7 c7
        go_cut [17] (fun tv w' => Hid (∃ tb tm td, tv = .slice tb tm td ∧ w'.ownsRow w6.heap.size 3 1 tv (kk + 1 + (a.length - kk)) (ints (a.take kk) ++ [.int .i64 x] ++ ints (a.drop kk)) ∧ w6.grownBy w' none))
        case first =>
          by_cases hsk : s3 - kk = 0
          · have hdr : a.drop kk = [] := List.drop_of_length_le (by omega)
            have HSD2 : Hid (s1 = none → a.length - kk = 0 ∧ s3 - kk = 0) := fun e => by have := HN1.out e; omega
            have HND2 : Hid (∀ ad, s1 = some ad → ∀ j u, (ints (a.drop kk))[j]? = some u → w8.cell? (ad.add j) = some u) := fun ad e j u hu => by rw [hdr] at hu; simp [ints] at hu
            have HSD3 : Hid (s1 = none → a.length - kk = 0 ∧ (0 : Nat) = 0) := fun e => ⟨(HSD2.out e).1, rfl⟩
            clear hdr
            go_wp2_with (at_builtin; refine wpList_append_any rfl _ _ _ rfl w6.heap.size 3 i0 _ 1 8 Tryd.underlying22 hi0 hz0 hz1 hz2 rfl (by omega) (.slice (some ⟨g8, 0, none⟩) (kk + 1) cap8) (kk + 1) (ints (a.take kk) ++ [.int .i64 x]) rfl HO8.out s1 (a.length - kk) 0 (ints (a.drop kk)) rfl hidl HSD3.out HND2.out (ints_one _) h63c (by omega) hs68 ?_; intro tb tm td w9 hown9 hg9)
            go_meet
            exact ⟨tb, tm, td, rfl, hown9, grown_row HG68.out hg9 (fun q e => by have := owns_block HO8.out q e; omega)⟩
          · have HSD2 := HSD1
            have HND2 := HND1
            go_wp2_with (first | (at_builtin; refine wpList_append_any rfl _ _ _ rfl w6.heap.size 3 i0 _ 1 8 Tryd.underlying22 hi0 hz0 hz1 hz2 rfl (by omega) (.slice (some ⟨g8, 0, none⟩) (kk + 1) cap8) (kk + 1) (ints (a.take kk) ++ [.int .i64 x]) rfl HO8.out (Option.map (fun x => x.add kk) s1) (a.length - kk) (s3 - kk) (ints (a.drop kk)) rfl hidl (by first | exact HSD1.out | exact HSD2.out) (by first | exact HND1.out | exact HND2.out) (ints_one _) h63c (by omega) hs68 ?_; intro tb tm td w9 hown9 hg9))
            go_meet
            exact ⟨tb, tm, td, rfl, hown9, grown_row HG68.out hg9 (fun q e => by have := owns_block HO8.out q e; omega)⟩
        case rest =>
        obtain ⟨tb, tm, td, rfl, hown9, hg9⟩ := hcut
        obtain ⟨w9, hw9⟩ : ∃ w9, w9 = wc := ⟨_, rfl⟩
        subst hw9
        have hbl : (a.take kk ++ [x] ++ a.drop kk).length = kk + 1 + (a.length - kk) := by simp; omega
        have HI9 : Hid (IntsAt w9.heap.size w9 (.slice tb tm td) (a.take kk ++ [x] ++ a.drop kk)) := by
          apply owns_ints (base := w6.heap.size)
          rw [hbl]
          have e : ints (a.take kk ++ [x] ++ a.drop kk) = ints (a.take kk) ++ [.int .i64 x] ++ ints (a.drop kk) := by simp [ints]
          rw [e]; exact hown9
        have hmm := owns_lenq hown9
        have htm : tm = (a.take kk ++ [x] ++ a.drop kk).length := by omega
        have c9 : w9.cell? ⟨w1.heap.size, 0, none⟩ = some (.slice pao p.length pcap) := pres_grown hg9 _ _ hpb6
        have HG29 : Hid (w2.grownBy w9 none) := grown_trans HG26.out hg9
        have HX9 : Hid (w9.heap[xb]? = some (.cells (resCells (runS p (a.take kk)) (.slice z1 kk z3) gx) 37 (0, 0))) := by
          unfold Hid; rw [hg9.block _ hxl (by simp)]; exact HXC6.out
        have HRP := hide (replay_m p (a.take kk ++ [x] ++ a.drop kk) (.agg #[.slice pao p.length pcap]) (.slice tb tm td) w9 (HSh.out.pres (pres_grown (grown_trans HG2.out HG29.out))) (HP1.out.pres (pres_grown (grown_trans (grown_trans (grown_alloc (grown_refl _ _)) HGW.out) HG29.out))) HI9.out)
        have hb5 : (a.take kk ++ [x] ++ a.drop kk).length ≤ 500 := by omega
        have HCW := hide (cut_wrong HSD.out (by omega : kk ≤ a.length) x HXX.out)
        have hxl9 : xb < w9.heap.size := by have := hg9.size; omega
        have hlkk := hlk
        clear hown9 hg9 hmm htm hbl HI9 HSO HNW HN1 HN2 HND1 HSD1 hidl hilk h63 h63b h63c HO8 HG68
        go_wp2_with fail
        refine HRP.out.mono ?_
        clear HRP
        rintro e w10 ⟨hg10, h⟩
        rcases h with ⟨_, rv10, rfl, sy, gy, rfl, ho10, hp10⟩ | ⟨h, _⟩
        case inr => exact absurd (checkRun_ok HVP.out hb5) h
        have hx10 : w10.heap[xb]? = some (.cells (resCells (runS p (a.take kk)) (.slice z1 kk z3) gx) 37 (0, 0)) := by
          rw [hg10.block _ hxl9 (by simp)]; exact HX9.out
        obtain ⟨n0, n1, n2, n3, n4, n5, n6, n7, n8, _⟩ := nine_cells hx10
        obtain ⟨u1, u2, u3, rfl⟩ := owns_form ho10
        have hu2 := owns_lenq ho10
        obtain ⟨v1, v2, v3, rfl⟩ := owns_form hp10
        have HEND : Hid (w.grownBy w10 none) := grown_trans (grown_trans HG2.out HG29.out) hg10
        clear hx10 ho10 hp10 hg10 c9 hpb6
        by_cases hk1 : (runS p (a.take kk)).kind = 1
        · have hoy := HCW.out.1 hk1
          rw [hoy] at hu2 ⊢
          have hu3 : u2 = kk := hu2.trans hlkk
          subst hu3
          clear hoy hu2
          generalize runS p (a.take u2) = o at *
          rw [hk1] at n0 ⊢
          go_wp2_with fail
          go_ret
          exact ⟨rfl, grown_alloc HEND.out⟩
        · have hoy := HCW.out.2 hk1
          rw [hoy] at hu2 ⊢
          have hu3 : u2 = kk := hu2.trans hlkk
          subst hu3
          have hk1' : ((runS p (a.take u2)).kind == 1) = false := by simpa using hk1
          clear hoy hu2 hk1
          generalize runS p (a.take u2) = o at *
          go_wp2_with fail
          go_ret
          exact ⟨rfl, grown_alloc HEND.out⟩

end Go.Proofs.YtklenjmfalljgaaDoor

/- The walks of slices.Grow (of nothing) and slices.Concat, at lists of numbers. -/
namespace Go.Proofs.YtklenjmfalljgaaDoor
open Go.RowKit
attribute [local go_sem] Go.World.cell?_alloc_some

theorem info_intC : ((Tryd.prog.info? 3).map fun i => (i.zero, i.size, i.bytes)) = some (some (.int .i64 0), 1, 8) := by kernel_rfl

set_option maxHeartbeats 1000000 in
set_option maxRecDepth 100000 in
theorem grow_m (n : Nat) (w : World) (hn : n ≤ 1000000) :
    Calls Tryd.prog 132 #[.slice none 0 0, .int .i64 n] w fun e w' => ∃ v, e = .returned v ∧ w'.ownsRow w.heap.size 3 1 v 0 [] ∧ w.grownBy w' none := by
  obtain ⟨i0, hi0, hz0, hz1, hz2⟩ := info_parts info_intC
  rcases Nat.eq_zero_or_pos n with e | h0
  · subst e
    go_enter Tryd.func132, Tryd.ntmps132
    go_wp2
    go_ret
    exact ⟨_, rfl, ⟨rfl, Or.inl ⟨rfl, rfl⟩⟩, grown_refl _ _⟩
  · have hr : ∀ ty, (Builtin.append_ #[22, 3] ty #[.slice none 0 0, .int .i64 (n : Int)]).run Tryd.prog w = _ := fun ty => Lib.run_append_nil_zeros w 22 3 ty 3 i0 _ .i64 .i64 Tryd.underlying22 Tryd.underlying3 hi0 hz0 n h0 (by omega) (by omega) (by rw [hz2]; omega)
    have hGn : n ≤ grownCap w n 0 3 := grownCap_ge w _ _ _
    have hG63 : grownCap w n 0 3 ≤ maxLen := grownCap_le_maxLen w n 0 3 (by unfold maxLen; omega)
    generalize grownCap w n 0 3 = G at *
    have HF : Hid ((w.drew.alloc (.cells (Builtin.zeroCells (Value.int .i64 0).cells n ++ Builtin.zeroCells (Value.int .i64 0).cells (G - n)) 3)).ownsRow w.heap.size 3 1 (.slice (some ⟨w.heap.size, 0, none⟩) 0 G) 0 []) := by
      refine ⟨rfl, Or.inr ⟨w.heap.size, G, _, rfl, Nat.le_refl _, heap_alloc_new w.drew _, Nat.zero_le _, hG63, ?_, by simp⟩⟩
      simp [Builtin.zeroCells, Value.cells]; omega
    have HG : Hid (w.grownBy (w.drew.alloc (.cells (Builtin.zeroCells (Value.int .i64 0).cells n ++ Builtin.zeroCells (Value.int .i64 0).cells (G - n)) 3)) none) := ⟨rfl, rfl, rfl, by simp, fun k hk _ => heap_alloc_old w.drew _ hk⟩
    have h1 : (0 : Int) < (n : Int) := by omega
    have h2 : (n : Int) ≤ 1000000 := by omega
    have h3 : (0 : Int) ≤ (n : Int) := by omega
    generalize w.drew.alloc (.cells (Builtin.zeroCells (Value.int .i64 0).cells n ++ Builtin.zeroCells (Value.int .i64 0).cells (G - n)) 3) = w' at *
    have h5 : G ≤ 9223372036854775807 := by unfold maxLen at hG63; omega
    clear hG63
    go_enter Tryd.func132, Tryd.ntmps132
    go_wp2_with (at_builtin; refine Lib.wpList_append_run _ rfl _ _ _ _ rfl _ _ rfl rfl _ _ (hr _) ?_)
    go_ret
    exact ⟨_, rfl, HF.out, HG.out⟩

def nilOk (x : Value) : Prop := ∀ n c, x = .slice none n c → n = 0 ∧ c = 0
/-- Lists of numbers in a row. -/
def RowsAt (w : World) (v : Value) (ss : List (List Int)) : Prop :=
  ∃ g o cap, v = .slice (some ⟨g, o, none⟩) ss.length cap ∧ g < w.heap.size ∧ ∀ k (hk : k < ss.length), ∃ x, w.cell? ⟨g, o + k, none⟩ = some x ∧ IntsAt w.heap.size w x ss[k] ∧ nilOk x

theorem flat_step (ss : List (List Int)) (k : Nat) (hk : k < ss.length) : (ss.take (k + 1)).flatten = (ss.take k).flatten ++ ss[k] := by
  rw [List.take_succ_eq_append_getElem hk, List.flatten_append]; simp
theorem flat_le (ss : List (List Int)) (k : Nat) : (ss.take k).flatten.length ≤ ss.flatten.length := by
  conv => rhs; rw [← List.take_append_drop k ss, List.flatten_append, List.length_append]
  omega
theorem ints_news {w : World} {g o c : Nat} {l : List Int} (h : IntsAt w.heap.size w (.slice (some ⟨g, o, none⟩) l.length c) l) : ∀ j u, (ints l)[j]? = some u → w.cell? ((⟨g, o, none⟩ : Addr).add j) = some u := by
  intro j u hj
  obtain ⟨ao, cap, e, _, h2⟩ := h
  have hl := (List.getElem?_eq_some_iff.1 hj).1
  rw [ints_len] at hl
  obtain ⟨g', o', e1, e2, e3⟩ := h2 j hl
  simp only [Value.slice.injEq] at e
  rw [e1] at e
  simp only [Option.some.injEq, Addr.mk.injEq, and_true] at e
  obtain ⟨⟨rfl, rfl⟩, _⟩ := e
  have hadd : (⟨g, o, none⟩ : Addr).add j = ⟨g, o + j, none⟩ := by unfold Addr.add; split <;> simp_all
  rw [hadd, e3]
  have : (ints l)[j]? = some (.int .i64 l[j]) := by simp [ints, hl]
  rw [this] at hj; exact hj

set_option maxHeartbeats 2000000 in
set_option maxRecDepth 100000 in
theorem concat_m (ss : List (List Int)) (sv : Value) (w : World) (hR : RowsAt w sv ss) (hn : ss.length ≤ 1000) (ht : ss.flatten.length ≤ 1000000) :
    Calls Tryd.prog 96 #[sv] w fun e w' => ∃ v, e = .returned v ∧ w'.ownsRow w.heap.size 3 1 v ss.flatten.length (ints ss.flatten) ∧ w.grownBy w' none := by
  obtain ⟨i0, hi0, hz0, hz1, hz2⟩ := info_parts info_intC
  obtain ⟨g, o, cap, rfl, hg, hc⟩ := hR
  have HC := hide hc
  have hn' : (ss.length : Int) ≤ 1000 := by omega
  clear hc
  go_enter Tryd.func96, Tryd.ntmps96
  go_wp2_with fail
  go_loopw [3, 11] (fun z i w' => ∃ k n : Nat, k ≤ ss.length ∧ i = .int .i64 k ∧ z = .int .i64 n ∧ Hid (n = (ss.take k).flatten.length) ∧ Hid (w' = w)) (fun _ i _ => ss.length - (intOf i).toNat)
  case atStart => exact ⟨0, 0, Nat.zero_le _, rfl, rfl, rfl, rfl⟩
  case round =>
    obtain ⟨k, n, hk, rfl, rfl, HN, HW⟩ := hrel
    obtain rfl := HW.out.symm
    clear HW
    have hnb : n ≤ 1000000 := by have := HN.out; have := flat_le ss k; omega
    have hnb' : (n : Int) ≤ 1000000 := by omega
    have hn0 : (0 : Int) ≤ (n : Int) := by omega
    by_cases hlt : k < ss.length
    · obtain ⟨x, c0, hI, hno⟩ := HC.out k hlt
      obtain ⟨so, sc, rfl⟩ := hI.form
      have hle : n + ss[k].length ≤ 1000000 := by
        have h1 := flat_le ss (k + 1)
        rw [flat_step ss k hlt, List.length_append] at h1
        have := HN.out; omega
      have HNX : Hid (n + ss[k].length = (ss.take (k + 1)).flatten.length) := by
        unfold Hid; rw [flat_step ss k hlt, List.length_append, HN.out]
      clear hI hno
      generalize ss[k] = s at *
      have hs0 : (0 : Int) ≤ (s.length : Int) := by omega
      have hs1 : (n : Int) + (s.length : Int) ≤ 1000000 := by omega
      have hs2 : (0 : Int) ≤ (n : Int) + (s.length : Int) := by omega
      have hk0 : (0 : Int) ≤ (k : Int) := by omega
      have hk1 : (k : Int) < ss.length := by omega
      go_wp2_with fail
      go_roundw
      case rel => exact ⟨k + 1, n + s.length, by omega, by go_num, by go_num, HNX, (by first | exact trivial | rfl)⟩
      case measure => simp [intOf]; omega
    · have hk1 : (ss.length : Int) ≤ (k : Int) := by omega
      have HNE : Hid (n = ss.flatten.length) := by unfold Hid; rw [HN.out, List.take_of_length_le (by omega)]
      go_wp2_with (go_at_call 132; refine (grow_m n _ hnb).mono ?_; rintro e w1 ⟨v1, rfl, hown1, hg1⟩)
      obtain ⟨a1, a2, a3, rfl⟩ := owns_form hown1
      have HO1 := hide hown1
      have HG1 := hide hg1
      clear hown1 hg1 HN HNE hnb hnb' hn0 hk hlt hk1
      go_wp2_with fail
      go_loopw [6, 27] (fun v i w' => ∃ k : Nat, k ≤ ss.length ∧ i = .int .i64 k ∧ Hid (w'.ownsRow w.heap.size 3 1 v (ss.take k).flatten.length (ints (ss.take k).flatten)) ∧ Hid (w.grownBy w' none)) (fun _ i _ => ss.length - (intOf i).toNat)
      case atStart => exact ⟨0, Nat.zero_le _, rfl, HO1, HG1⟩
      case round =>
        clear HO1 HG1
        obtain ⟨k, hk, rfl, HO, HG⟩ := hrel
        obtain ⟨w5, hw5⟩ : ∃ w5, w5 = wr := ⟨_, rfl⟩
        rw [← hw5] at HO HG ⊢
        clear hw5
        by_cases hlt : k < ss.length
        · obtain ⟨x, c0, hI, hno⟩ := HC.out k hlt
          obtain ⟨so, sc, rfl⟩ := hI.form
          have d0 := pres_grown HG.out _ _ c0
          have hle : (ss.take k).flatten.length + ss[k].length ≤ 1000000 := by
            have h1 := flat_le ss (k + 1)
            rw [flat_step ss k hlt, List.length_append] at h1
            omega
          have HNX : Hid ((ss.take (k + 1)).flatten = (ss.take k).flatten ++ ss[k]) := flat_step ss k hlt
          have HI5 : Hid (IntsAt w5.heap.size w5 (.slice so ss[k].length sc) ss[k]) := (hI.pres (pres_grown HG.out)).mono HG.out.size
          have HSO : Hid (so = none → ss[k].length = 0 ∧ sc = 0) := fun e => hno _ _ (by rw [e])
          have HNW : Hid (∀ ad, so = some ad → ∀ j u, (ints ss[k])[j]? = some u → w5.cell? (ad.add j) = some u) := by
            rintro ad rfl j u hj
            have hl := (List.getElem?_eq_some_iff.1 hj).1
            rw [ints_len] at hl
            obtain ⟨ao, cp, e, _, h2⟩ := HI5.out
            obtain ⟨g', o', e1, _⟩ := h2 0 (by omega)
            simp only [Value.slice.injEq] at e
            rw [e1] at e
            simp only [Option.some.injEq] at e
            obtain ⟨rfl, _⟩ := e
            exact ints_news HI5.out j u hj
          clear c0 hI hno
          generalize ss[k] = s at *
          obtain ⟨b1, b2, b3, hv⟩ := owns_form HO.out
          have hk0 : (0 : Int) ≤ (k : Int) := by omega
          have hk1 : (k : Int) < ss.length := by omega
          have hil : (ints s).length = s.length * 1 := by rw [ints_len]; omega
          have h63 : (ss.take k).flatten.length + s.length ≤ maxLen := by unfold maxLen; omega
          have hbs : w.heap.size ≤ w5.heap.size := HG.out.size
          have HOB := hide (owns_block HO.out)
          go_wp2_with (at_builtin; refine wpList_append_any rfl _ _ _ rfl w.heap.size 3 i0 _ 1 8 Tryd.underlying22 hi0 hz0 hz1 hz2 rfl (by omega) u6 (ss.take k).flatten.length (ints (ss.take k).flatten) rfl HO.out so s.length sc (ints s) rfl hil HSO.out HNW.out (ints_one _) h63 (by omega) hbs ?_; intro ta tn tc w7 hown7 hg7)
          have HO7 : Hid (w7.ownsRow w.heap.size 3 1 (.slice ta tn tc) (ss.take (k + 1)).flatten.length (ints (ss.take (k + 1)).flatten)) := by
            unfold Hid; rw [HNX.out, List.length_append]
            have : ints ((ss.take k).flatten ++ s) = ints (ss.take k).flatten ++ ints s := by simp [ints]
            rw [this]; exact hown7
          have HG7 : Hid (w.grownBy w7 none) := grown_row HG.out hg7 HOB.out
          clear hown7 hg7 HO HG HNX HI5 HSO HNW
          go_wp2_with fail
          go_roundw
          case rel => exact ⟨k + 1, by omega, by go_num, HO7, HG7⟩
          case measure => simp [intOf]; omega
        · have hk1 : (ss.length : Int) ≤ (k : Int) := by omega
          have HOE : Hid (w5.ownsRow w.heap.size 3 1 u6 ss.flatten.length (ints ss.flatten)) := by
            have := HO.out
            rwa [List.take_of_length_le (by omega)] at this
          go_wp2_with fail
          go_ret
          exact ⟨_, rfl, HOE.out, HG.out⟩

end Go.Proofs.YtklenjmfalljgaaDoor

/- Rows of things of which some depend on one another: their layers, what may change places, the row by layers (no dump is named here). -/
namespace Go.Proofs.YtklenjmfalljgaaDoor

section
variable {α : Type} (d : α → α → Bool) (th : α → Nat)

/-- The layer of x behind a past of things with their layers. -/
def layIn : List (α × Nat) → α → Nat
  | [], _ => 0
  | y :: r, x => if d y.1 x = true then max (y.2 + 1) (layIn r x) else layIn r x

/-- A row's things with their layers, behind a past. -/
def tl : List (α × Nat) → List α → List (α × Nat)
  | _, [] => []
  | past, x :: r => (x, layIn d past x) :: tl ((x, layIn d past x) :: past) r

theorem layIn_append (a b : List (α × Nat)) (x : α) : layIn d (a ++ b) x = max (layIn d a x) (layIn d b x) := by
  induction a with
  | nil => simp [layIn]
  | cons y r ih =>
    simp only [List.cons_append, layIn, ih]
    split <;> omega
theorem layIn_perm {a b : List (α × Nat)} (h : a.Perm b) (x : α) : layIn d a x = layIn d b x := by
  induction h with
  | nil => rfl
  | cons y _ ih => simp only [layIn, ih]
  | swap y z l =>
    simp only [layIn]
    split <;> split <;> omega
  | trans _ _ ih1 ih2 => rw [ih1, ih2]
theorem tl_perm {a b : List (α × Nat)} (h : a.Perm b) (xs : List α) : tl d a xs = tl d b xs := by
  induction xs generalizing a b with
  | nil => rfl
  | cons x r ih =>
    simp only [tl]
    rw [layIn_perm d h x, ih (h.cons _)]
theorem tl_append (past : List (α × Nat)) (xs ys : List α) : tl d past (xs ++ ys) = tl d past xs ++ tl d (tl d past xs ++ past) ys := by
  induction xs generalizing past with
  | nil => simp [tl]
  | cons x r ih =>
    simp only [List.cons_append, tl]
    rw [ih]
    congr 2
    exact tl_perm d (by simp) ys
theorem tl_fst (past : List (α × Nat)) (xs : List α) : (tl d past xs).map (·.1) = xs := by
  induction xs generalizing past with
  | nil => rfl
  | cons x r ih => simp only [tl, List.map_cons, ih]
theorem tl_length (past : List (α × Nat)) (xs : List α) : (tl d past xs).length = xs.length := by
  have := congrArg List.length (tl_fst d past xs); simpa using this
theorem tl_snoc (xs : List α) (x : α) : tl d [] (xs ++ [x]) = tl d [] xs ++ [(x, layIn d (tl d [] xs) x)] := by
  rw [tl_append]; simp [tl]
theorem layIn_ge {past : List (α × Nat)} {y : α × Nat} {x : α} (h : y ∈ past) (hd : d y.1 x = true) : y.2 + 1 ≤ layIn d past x := by
  induction past with
  | nil => cases h
  | cons z r ih =>
    simp only [layIn]
    rcases List.mem_cons.1 h with h | h
    · subst h; rw [if_pos hd]; omega
    · have := ih h
      split <;> omega
theorem layIn_le {past : List (α × Nat)} {x : α} {n : Nat} (h : ∀ y ∈ past, d y.1 x = true → y.2 + 1 ≤ n) : layIn d past x ≤ n := by
  induction past with
  | nil => simp [layIn]
  | cons z r ih =>
    simp only [layIn]
    have h1 := ih (fun y hy => h y (List.mem_cons_of_mem _ hy))
    split
    · have := h z (List.mem_cons_self ..) ‹_›; omega
    · exact h1

/-- Rows that come of one another by neighbours that change places and do not depend on one another. -/
def Eqv (xs ys : List α) : Prop := ∀ R : List α → List α → Prop, (∀ a, R a a) → (∀ (a : List α) (x y : α) (b : List α), d x y = false → d y x = false → R (a ++ x :: y :: b) (a ++ y :: x :: b)) → (∀ a b c, R a b → R b c → R a c) → R xs ys

variable {d}
theorem Eqv.refl (xs : List α) : Eqv d xs xs := fun _ h _ _ => h xs
theorem Eqv.swap (a : List α) (x y : α) (b : List α) (h1 : d x y = false) (h2 : d y x = false) : Eqv d (a ++ x :: y :: b) (a ++ y :: x :: b) := fun _ _ h _ => h a x y b h1 h2
theorem Eqv.trans {xs ys zs : List α} (h : Eqv d xs ys) (h' : Eqv d ys zs) : Eqv d xs zs := fun R h1 h2 h3 => h3 xs ys zs (h R h1 h2 h3) (h' R h1 h2 h3)
theorem Eqv.snoc {xs ys : List α} (h : Eqv d xs ys) (z : α) : Eqv d (xs ++ [z]) (ys ++ [z]) := by
  refine h (fun xs ys => Eqv d (xs ++ [z]) (ys ++ [z])) (fun _ => Eqv.refl _) (fun a x y b h1 h2 => ?_) (fun _ _ _ i1 i2 => i1.trans i2)
  simpa using Eqv.swap a x y (b ++ [z]) h1 h2

theorem tl_swap (a : List α) (x y : α) (b : List α) (h1 : d x y = false) (h2 : d y x = false) :
    ∃ la lx ly lb, tl d [] (a ++ x :: y :: b) = la ++ (x, lx) :: (y, ly) :: lb ∧ tl d [] (a ++ y :: x :: b) = la ++ (y, ly) :: (x, lx) :: lb ∧ la.length = a.length ∧ lb.length = b.length := by
  refine ⟨tl d [] a, layIn d (tl d [] a ++ []) x, layIn d (tl d [] a ++ []) y, tl d ((y, layIn d (tl d [] a ++ []) y) :: (x, layIn d (tl d [] a ++ []) x) :: (tl d [] a ++ [])) b, ?_, ?_, tl_length _ _ _, tl_length _ _ _⟩
  · have e : layIn d ((x, layIn d (tl d [] a ++ []) x) :: (tl d [] a ++ [])) y = layIn d (tl d [] a ++ []) y := by simp [layIn, h1]
    rw [tl_append]
    simp only [tl]
    rw [e]
  · have e : layIn d ((y, layIn d (tl d [] a ++ []) y) :: (tl d [] a ++ [])) x = layIn d (tl d [] a ++ []) x := by simp [layIn, h2]
    rw [tl_append]
    simp only [tl]
    rw [e, tl_perm d (List.Perm.swap _ _ _) b]
theorem Eqv.labels {xs ys : List α} (h : Eqv d xs ys) : (tl d [] xs).Perm (tl d [] ys) := by
  refine h (fun xs ys => (tl d [] xs).Perm (tl d [] ys)) (fun _ => List.Perm.refl _) (fun a x y b h1 h2 => ?_) (fun _ _ _ i1 i2 => i1.trans i2)
  obtain ⟨la, lx, ly, lb, e1, e2, _⟩ := tl_swap a x y b h1 h2
  show (tl d [] (a ++ x :: y :: b)).Perm (tl d [] (a ++ y :: x :: b))
  rw [e1, e2]
  exact (List.Perm.swap _ _ _).append_left la

/-- By layers, in a layer by rising threads. -/
def leK (x y : α × Nat) : Prop := x.2 < y.2 ∨ (x.2 = y.2 ∧ th x.1 ≤ th y.1)
theorem leK_trans {x y z : α × Nat} (h1 : leK th x y) (h2 : leK th y z) : leK th x z := by unfold leK at *; omega
theorem leK_total (x y : α × Nat) : leK th x y ∨ leK th y x := by unfold leK; omega

/-- Every row comes to one by layers. -/
theorem sorted_of (hs : ∀ x y, d x y = d y x) (xs : List α) : ∃ ys, Eqv d xs ys ∧ (tl d [] ys).Pairwise (leK th) := by
  have ins : ∀ (n : Nat) (ys : List α) (x : α), ys.length = n → (tl d [] ys).Pairwise (leK th) → ∃ us, Eqv d (ys ++ [x]) us ∧ (tl d [] us).Pairwise (leK th) := by
    intro n
    induction n with
    | zero =>
      intro ys x hl _
      have : ys = [] := List.length_eq_zero_iff.1 hl
      subst this
      exact ⟨[x], Eqv.refl _, by simp [tl]⟩
    | succ n ih =>
      intro ys x hl hp
      obtain ⟨zs, z, rfl⟩ : ∃ zs z, ys = zs ++ [z] := ⟨ys.dropLast, ys.getLast (by intro e; simp [e] at hl), (List.dropLast_concat_getLast _).symm⟩
      have hp1 := hp
      rw [tl_snoc, List.pairwise_append] at hp1
      obtain ⟨hz, _, hlast⟩ := hp1
      by_cases hk : leK th (z, layIn d (tl d [] zs) z) (x, layIn d (tl d [] (zs ++ [z])) x)
      · refine ⟨_, Eqv.refl _, ?_⟩
        rw [tl_snoc, List.pairwise_append]
        refine ⟨hp, by simp, fun u hu v hv => ?_⟩
        simp only [List.mem_singleton] at hv
        subst hv
        rw [tl_snoc] at hu
        rcases List.mem_append.1 hu with hu | hu
        · exact leK_trans th (hlast u hu _ (by simp)) hk
        · simp only [List.mem_singleton] at hu
          subst hu
          exact hk
      · have hdx : d z x = false := by
          cases hd : d z x with
          | false => rfl
          | true =>
            exfalso
            apply hk
            left
            have := layIn_ge d (past := tl d [] (zs ++ [z])) (y := (z, layIn d (tl d [] zs) z)) (x := x) (by rw [tl_snoc]; simp) hd
            simp only at this ⊢
            omega
        have hxd : d x z = false := by rw [hs]; exact hdx
        obtain ⟨us, hu1, hu2⟩ := ih zs x (by simpa using hl) hz
        have hle : layIn d (tl d [] (zs ++ [z])) x = layIn d (tl d [] zs) x := by
          rw [tl_snoc, layIn_append]; simp [layIn, hdx]
        have hzu : layIn d (tl d [] us) z = layIn d (tl d [] zs) z := by
          rw [← layIn_perm d hu1.labels, tl_snoc, layIn_append]; simp [layIn, hxd]
        refine ⟨us ++ [z], ?_, ?_⟩
        · have e1 : Eqv d (zs ++ [z] ++ [x]) (zs ++ [x] ++ [z]) := by simpa using Eqv.swap zs z x [] hdx hxd
          exact e1.trans (hu1.snoc z)
        · rw [tl_snoc, hzu, List.pairwise_append]
          refine ⟨hu2, by simp, fun u hu v hv => ?_⟩
          simp only [List.mem_singleton] at hv
          subst hv
          have hm := hu1.labels.mem_iff.2 hu
          rw [tl_snoc] at hm
          rcases List.mem_append.1 hm with hm | hm
          · exact hlast u hm _ (by simp)
          · simp only [List.mem_singleton] at hm
            subst hm
            rw [hle] at hk
            exact (leK_total th _ _).resolve_left hk
  induction hn : xs.length generalizing xs with
  | zero =>
    have : xs = [] := List.length_eq_zero_iff.1 hn
    subst this
    exact ⟨[], Eqv.refl _, by simp [tl]⟩
  | succ n ih =>
    obtain ⟨zs, z, rfl⟩ : ∃ zs z, xs = zs ++ [z] := ⟨xs.dropLast, xs.getLast (by intro e; simp [e] at hn), (List.dropLast_concat_getLast _).symm⟩
    obtain ⟨ys, h1, h2⟩ := ih zs (by simpa using hn)
    obtain ⟨us, h3, h4⟩ := ins ys.length ys z rfl h2
    exact ⟨us, (h1.snoc z).trans h3, h4⟩
end

/-- Two sorted rows of the same pairs are one. -/
theorem sorted_one : ∀ {a b : List (Nat × Nat)}, a.Perm b → a.Pairwise (fun x y => x.1 < y.1 ∨ (x.1 = y.1 ∧ x.2 ≤ y.2)) → b.Pairwise (fun x y => x.1 < y.1 ∨ (x.1 = y.1 ∧ x.2 ≤ y.2)) → a = b
  | [], b, h, _, _ => (List.nil_perm.1 h).symm
  | x :: a, [], h, _, _ => absurd h.length_eq (by simp)
  | x :: a, y :: b, h, h1, h2 => by
    rw [List.pairwise_cons] at h1 h2
    have e : x = y := by
      have hx : x ∈ y :: b := h.mem_iff.1 (List.mem_cons_self ..)
      have hy : y ∈ x :: a := h.mem_iff.2 (List.mem_cons_self ..)
      rcases List.mem_cons.1 hx with hx | hx
      · exact hx
      · rcases List.mem_cons.1 hy with hy | hy
        · exact hy.symm
        · have k1 := h1.1 y hy
          have k2 := h2.1 x hx
          obtain ⟨x1, x2⟩ := x
          obtain ⟨y1, y2⟩ := y
          simp only at k1 k2
          have e1 : x1 = y1 := by omega
          have e2 : x2 = y2 := by omega
          rw [e1, e2]
    subst e
    rw [sorted_one (List.perm_cons _ |>.1 h) h1.2 h2.2]

end Go.Proofs.YtklenjmfalljgaaDoor

/- Steps that have nothing to do with one another change places: the machine comes to the same (no dump is named here). -/
namespace Go.Proofs.YtklenjmfalljgaaDoor
open Go.RowKit (wrap64)

/-- What an instruction writes into its thread's registers. -/
def locR (i : Ins) (R : Nat → Int) (v : Int) (r : Nat) : Int :=
  if r = i.a.toNat then
    (if i.op = 1 then i.n else if i.op = 2 then v else if i.op = 4 then wrap64 (R i.a.toNat + R i.b.toNat) else if i.op = 5 then wrap64 (R i.a.toNat - R i.b.toNat)
     else if i.op = 6 then wrap64 (R i.a.toNat * R i.b.toNat) else if i.op = 7 then (if R i.b.toNat = 0 then R r else wrap64 ((R i.a.toNat).tdiv (R i.b.toNat))) else R r)
  else R r
/-- Does it do? -/
def locOk (t : Nat) (i : Ins) (R : Nat → Int) (h : Bool) (o : Int) : Bool :=
  if i.op = 7 then R i.b.toNat != 0 else if i.op = 10 then decide (h = true ∧ o = t) else if 1 ≤ i.op ∧ i.op ≤ 9 then true else R i.a.toNat != 0

theorem act_parts (t : Nat) (i : Ins) (s : St) :
    (act t i s).1 = locOk t i (s.regs t) (s.held i.a.toNat) (s.own i.a.toNat) ∧
    (act t i s).2.vars = (fun x => if i.op = 3 ∧ x = i.a.toNat then s.regs t i.b.toNat else s.vars x) ∧
    (act t i s).2.held = (fun l => if i.op = 9 ∧ l = i.a.toNat then true else if i.op = 10 ∧ l = i.a.toNat ∧ s.held i.a.toNat = true ∧ s.own i.a.toNat = t then false else s.held l) ∧
    (act t i s).2.own = (fun l => if i.op = 9 ∧ l = i.a.toNat then (t : Int) else if i.op = 10 ∧ l = i.a.toNat ∧ s.held i.a.toNat = true ∧ s.own i.a.toNat = t then 0 else s.own l) ∧
    (act t i s).2.regs = (fun t' r => if t' = t then locR i (s.regs t) (s.vars i.b.toNat) r else s.regs t' r) ∧
    (act t i s).2.next = (fun t' => if t' = t ∧ i.op = 8 ∧ s.regs t i.a.toNat = 0 then i.n else s.next t') := by
  have hc : i.op = 1 ∨ i.op = 2 ∨ i.op = 3 ∨ i.op = 4 ∨ i.op = 5 ∨ i.op = 6 ∨ i.op = 7 ∨ i.op = 8 ∨ i.op = 9 ∨ i.op = 10 ∨ (i.op ≠ 1 ∧ i.op ≠ 2 ∧ i.op ≠ 3 ∧ i.op ≠ 4 ∧ i.op ≠ 5 ∧ i.op ≠ 6 ∧ i.op ≠ 7 ∧ i.op ≠ 8 ∧ i.op ≠ 9 ∧ i.op ≠ 10) := by omega
  have key : ∀ (c : Prop) [Decidable c] (f : Nat → Nat → Int) (x : Int) (t' r : Nat), (if t' = t ∧ r = i.a.toNat then x else s.regs t' r) = (if t' = t then (if r = i.a.toNat then x else s.regs t r) else s.regs t' r) := by
    intro c _ f x t' r
    by_cases h1 : t' = t
    · subst h1; simp
    · simp [h1]
  have keep : ∀ (t' r : Nat), s.regs t' r = (if t' = t then s.regs t r else s.regs t' r) := by
    intro t' r
    by_cases h1 : t' = t
    · subst h1; simp
    · simp [h1]
  rcases hc with e | e | e | e | e | e | e | e | e | e | e
  · simp [act, e, locOk, locR, St.setReg, key True (fun _ _ => 0)]
  · simp [act, e, locOk, locR, St.setReg, key True (fun _ _ => 0)]
  · simp [act, e, locOk, locR, St.setVar]
    funext t' r; exact keep t' r
  · simp [act, e, locOk, locR, St.setReg, key True (fun _ _ => 0)]
  · simp [act, e, locOk, locR, St.setReg, key True (fun _ _ => 0)]
  · simp [act, e, locOk, locR, St.setReg, key True (fun _ _ => 0)]
  · by_cases h0 : s.regs t i.b.toNat = 0
    · simp [act, e, locOk, locR, h0]
      funext t' r; exact keep t' r
    · simp [act, e, locOk, locR, h0, St.setReg, key True (fun _ _ => 0)]
  · by_cases h0 : s.regs t i.a.toNat = 0
    · simp [act, e, locOk, locR, h0, St.setNext]
      funext t' r; exact keep t' r
    · simp [act, e, locOk, locR, h0]
      funext t' r; exact keep t' r
  · simp [act, e, locOk, locR, St.setLock]
    funext t' r; exact keep t' r
  · by_cases h0 : s.held i.a.toNat = true ∧ s.own i.a.toNat = t
    · simp [act, e, locOk, locR, h0, St.setLock]
      funext t' r; exact keep t' r
    · have h1 : ¬ (s.held i.a.toNat = true ∧ s.own i.a.toNat = t) := h0
      have h2 : ∀ l, ¬ (l = i.a.toNat ∧ s.held i.a.toNat = true ∧ s.own i.a.toNat = t) := fun l h => h1 h.2
      simp [act, e, locOk, locR, h1]
      funext t' r; exact keep t' r
  · obtain ⟨e1, e2, e3, e4, e5, e6, e7, e8, e9, e10⟩ := e
    have h1 : ¬ (1 ≤ i.op ∧ i.op ≤ 9) := by omega
    simp only [act, locOk, locR, e1, e2, e3, e4, e5, e6, e7, e8, e9, e10, if_false, h1, false_and, and_false]
    refine ⟨trivial, trivial, trivial, trivial, ?_, trivial⟩
    funext t' r
    simp only [ite_self]; exact keep t' r

/-- What an instruction has to do with what threads share: 0 nothing, 1 a lock, 2 reads a variable, 3 writes one; which. -/
def tou (i : Ins) : Nat × Nat := if i.op = 9 ∨ i.op = 10 then (1, i.a.toNat) else if i.op = 2 then (2, i.b.toNat) else if i.op = 3 then (3, i.a.toNat) else (0, 0)
def clash (x y : Nat × Nat) : Bool := x.1 != 0 && y.1 != 0 && x.2 == y.2 && ((x.1 == 1) == (y.1 == 1)) && !(x.1 == 2 && y.1 == 2)

/-- A step that was done, or failed. -/
structure Ev where
  t : Nat
  k : Int
  bad : Bool

def depE (p : List (List Ins)) (x y : Ev) : Bool := x.bad || y.bad || x.t == y.t || clash (tou (insAt p x.t x.k)) (tou (insAt p y.t y.k))
theorem clash_symm (x y : Nat × Nat) : clash x y = clash y x := by
  unfold clash
  rw [Bool.eq_iff_iff]
  simp only [Bool.and_eq_true, bne_iff_ne, beq_iff_eq, Bool.not_eq_true', Bool.and_eq_false_iff]
  constructor
  · rintro ⟨⟨⟨⟨a, b⟩, c⟩, e⟩, f⟩; exact ⟨⟨⟨⟨b, a⟩, c.symm⟩, e.symm⟩, f.symm⟩
  · rintro ⟨⟨⟨⟨a, b⟩, c⟩, e⟩, f⟩; exact ⟨⟨⟨⟨b, a⟩, c.symm⟩, e.symm⟩, f.symm⟩
theorem depE_symm (p : List (List Ins)) (x y : Ev) : depE p x y = depE p y x := by
  unfold depE
  rw [clash_symm, Bool.or_comm x.bad y.bad]
  congr 2
  rw [Bool.eq_iff_iff]; simp; exact eq_comm

def goes (p : List (List Ins)) (s : St) (x : Ev) : Prop := x.t < p.length ∧ readyB p s x.t = true ∧ s.next x.t = x.k ∧ (stepS p s x.t).1 = !x.bad
def RunE (p : List (List Ins)) : St → List Ev → St → Prop
  | s, [], s' => s' = s
  | s, x :: r, s' => goes p s x ∧ RunE p (stepS p s x.t).2 r s'

/-- What a step leaves. -/
theorem step_parts (p : List (List Ins)) (s : St) (t : Nat) (i : Ins) (hi : insAt p t (s.next t) = i) :
    (stepS p s t).1 = locOk t i (s.regs t) (s.held i.a.toNat) (s.own i.a.toNat) ∧
    (stepS p s t).2.vars = (fun x => if i.op = 3 ∧ x = i.a.toNat then s.regs t i.b.toNat else s.vars x) ∧
    (stepS p s t).2.held = (fun l => if i.op = 9 ∧ l = i.a.toNat then true else if i.op = 10 ∧ l = i.a.toNat ∧ s.held i.a.toNat = true ∧ s.own i.a.toNat = t then false else s.held l) ∧
    (stepS p s t).2.own = (fun l => if i.op = 9 ∧ l = i.a.toNat then (t : Int) else if i.op = 10 ∧ l = i.a.toNat ∧ s.held i.a.toNat = true ∧ s.own i.a.toNat = t then 0 else s.own l) ∧
    (stepS p s t).2.regs = (fun t' r => if t' = t then locR i (s.regs t) (s.vars i.b.toNat) r else s.regs t' r) ∧
    (stepS p s t).2.next = (fun t' => if t' = t then (if i.op = 8 ∧ s.regs t i.a.toNat = 0 then i.n else s.next t + 1) else s.next t') := by
  subst hi
  obtain ⟨h1, h2, h3, h4, h5, h6⟩ := act_parts t (insAt p t (s.next t)) (s.setNext t (s.next t + 1))
  refine ⟨h1, h2, h3, h4, h5, ?_⟩
  unfold stepS
  rw [h6]
  funext t'
  simp only [St.setNext]
  by_cases e : t' = t
  · simp [e]
  · simp [e]

theorem St.eq_of {s s' : St} (h1 : s.vars = s'.vars) (h2 : s.held = s'.held) (h3 : s.own = s'.own) (h4 : s.regs = s'.regs) (h5 : s.next = s'.next) : s = s' := by
  cases s; cases s'; simp at *; exact ⟨h1, h2, h3, h4, h5⟩

theorem locR_val (i : Ins) (R : Nat → Int) (v v' : Int) (h : i.op = 2 → v = v') : locR i R v = locR i R v' := by
  funext r
  unfold locR
  by_cases e : i.op = 2
  · rw [h e]
  · simp [e]
theorem locOk_val (t : Nat) (i : Ins) (R : Nat → Int) (h h' : Bool) (o o' : Int) (e : i.op = 10 → h = h' ∧ o = o') : locOk t i R h o = locOk t i R h' o' := by
  unfold locOk
  by_cases e1 : i.op = 10
  · rw [(e e1).1, (e e1).2]
  · simp [e1]

/-- Two steps that have nothing to do with one another change places. -/
theorem step_swap {p : List (List Ins)} {s : St} {x y : Ev} (hx : goes p s x) (hy : goes p (stepS p s x.t).2 y) (hd : depE p x y = false) :
    goes p s y ∧ goes p (stepS p s y.t).2 x ∧ (stepS p (stepS p s y.t).2 x.t).2 = (stepS p (stepS p s x.t).2 y.t).2 := by
  obtain ⟨x1, x2, x3, x4⟩ := hx
  obtain ⟨y1, y2, y3, y4⟩ := hy
  have hne : x.t ≠ y.t := by
    intro e; simp [depE, e] at hd
  have hcl : clash (tou (insAt p x.t x.k)) (tou (insAt p y.t y.k)) = false := by
    cases hc : clash (tou (insAt p x.t x.k)) (tou (insAt p y.t y.k)) with
    | false => rfl
    | true => simp [depE, hc] at hd
  generalize hxi : insAt p x.t x.k = i at *
  generalize hyi : insAt p y.t y.k = j at *
  have hxs : insAt p x.t (s.next x.t) = i := by rw [x3]; exact hxi
  obtain ⟨a1, a2, a3, a4, a5, a6⟩ := step_parts p s x.t i hxs
  generalize hs1 : (stepS p s x.t).2 = s1 at *
  have hn1 : s1.next y.t = s.next y.t := by rw [a6]; simp [Ne.symm hne]
  rw [hn1] at y3
  have hys : insAt p y.t (s.next y.t) = j := by rw [y3]; exact hyi
  obtain ⟨b1, b2, b3, b4, b5, b6⟩ := step_parts p s1 y.t j (by rw [hn1]; exact hys)
  obtain ⟨c1, c2, c3, c4, c5, c6⟩ := step_parts p s y.t j hys
  generalize hs2 : (stepS p s y.t).2 = s2 at *
  have hn2 : s2.next x.t = s.next x.t := by rw [c6]; simp [hne]
  obtain ⟨d1, d2, d3, d4, d5, d6⟩ := step_parts p s2 x.t i (by rw [hn2]; exact hxs)
  have r1 : s1.regs y.t = s.regs y.t := by rw [a5]; simp [Ne.symm hne]
  have r2 : s2.regs x.t = s.regs x.t := by rw [c5]; simp [hne]
  -- what they share
  have hl : ¬ ((i.op = 9 ∨ i.op = 10) ∧ (j.op = 9 ∨ j.op = 10) ∧ i.a.toNat = j.a.toNat) := by
    rintro ⟨h1, h2, h3⟩
    simp [clash, tou, h1, h2, h3] at hcl
  have hss : ¬ (i.op = 3 ∧ j.op = 3 ∧ i.a.toNat = j.a.toNat) := by
    rintro ⟨h1, h2, h3⟩
    simp [clash, tou, h1, h2, h3] at hcl
  have hsl : ¬ (i.op = 3 ∧ j.op = 2 ∧ i.a.toNat = j.b.toNat) := by
    rintro ⟨h1, h2, h3⟩
    simp [clash, tou, h1, h2, h3] at hcl
  have hls : ¬ (i.op = 2 ∧ j.op = 3 ∧ i.b.toNat = j.a.toNat) := by
    rintro ⟨h1, h2, h3⟩
    simp [clash, tou, h1, h2, h3] at hcl
  have v1 : j.op = 2 → s1.vars j.b.toNat = s.vars j.b.toNat := fun e => by
    rw [a2]; simp only; rw [if_neg]; rintro ⟨h1, h2⟩; exact hsl ⟨h1, e, h2.symm⟩
  have v2 : i.op = 2 → s2.vars i.b.toNat = s.vars i.b.toNat := fun e => by
    rw [c2]; simp only; rw [if_neg]; rintro ⟨h1, h2⟩; exact hls ⟨e, h1, h2⟩
  have l1 : (j.op = 9 ∨ j.op = 10) → s1.held j.a.toNat = s.held j.a.toNat ∧ s1.own j.a.toNat = s.own j.a.toNat := fun e => by
    have n1 : ¬ (i.op = 9 ∧ j.a.toNat = i.a.toNat) := fun h => hl ⟨Or.inl h.1, e, h.2.symm⟩
    have n2 : ¬ (i.op = 10 ∧ j.a.toNat = i.a.toNat ∧ s.held i.a.toNat = true ∧ s.own i.a.toNat = x.t) := fun h => hl ⟨Or.inr h.1, e, h.2.1.symm⟩
    rw [a3, a4]; simp only; rw [if_neg n1, if_neg n2, if_neg n1, if_neg n2]; exact ⟨rfl, rfl⟩
  have l2 : (i.op = 9 ∨ i.op = 10) → s2.held i.a.toNat = s.held i.a.toNat ∧ s2.own i.a.toNat = s.own i.a.toNat := fun e => by
    have n1 : ¬ (j.op = 9 ∧ i.a.toNat = j.a.toNat) := fun h => hl ⟨e, Or.inl h.1, h.2⟩
    have n2 : ¬ (j.op = 10 ∧ i.a.toNat = j.a.toNat ∧ s.held j.a.toNat = true ∧ s.own j.a.toNat = y.t) := fun h => hl ⟨e, Or.inr h.1, h.2.1⟩
    rw [c3, c4]; simp only; rw [if_neg n1, if_neg n2, if_neg n1, if_neg n2]; exact ⟨rfl, rfl⟩
  have lx : i.op = 10 → s2.held i.a.toNat = s.held i.a.toNat ∧ s2.own i.a.toNat = s.own i.a.toNat := fun e => l2 (Or.inr e)
  have ly : j.op = 10 → s1.held j.a.toNat = s.held j.a.toNat ∧ s1.own j.a.toNat = s.own j.a.toNat := fun e => l1 (Or.inr e)
  have ry : readyB p s y.t = true := by
    unfold readyB doneB at y2 ⊢
    rw [hn1, hys] at y2
    rw [hys]
    by_cases e : j.op = 9
    · rw [(l1 (Or.inl e)).1] at y2; exact y2
    · simpa [e] using y2
  have rx : readyB p s2 x.t = true := by
    unfold readyB doneB at x2 ⊢
    rw [hxs] at x2
    rw [hn2, hxs]
    by_cases e : i.op = 9
    · rw [(l2 (Or.inl e)).1]; exact x2
    · simpa [e] using x2
  have oy : locOk y.t j (s1.regs y.t) (s1.held j.a.toNat) (s1.own j.a.toNat) = locOk y.t j (s.regs y.t) (s.held j.a.toNat) (s.own j.a.toNat) := by
    rw [r1]; exact locOk_val _ _ _ _ _ _ _ ly
  have ox : locOk x.t i (s2.regs x.t) (s2.held i.a.toNat) (s2.own i.a.toNat) = locOk x.t i (s.regs x.t) (s.held i.a.toNat) (s.own i.a.toNat) := by
    rw [r2]; exact locOk_val _ _ _ _ _ _ _ lx
  refine ⟨⟨y1, ry, y3, ?_⟩, ⟨x1, rx, by rw [hn2]; exact x3, ?_⟩, St.eq_of ?_ ?_ ?_ ?_ ?_⟩
  · rw [c1, ← oy, ← b1]; exact y4
  · rw [d1, ox, ← a1]; exact x4
  · funext v
    rw [d2, b2]
    simp only
    by_cases e1 : i.op = 3 ∧ v = i.a.toNat
    · have e2 : ¬ (j.op = 3 ∧ v = j.a.toNat) := fun h => hss ⟨e1.1, h.1, by rw [← e1.2]; exact h.2⟩
      rw [if_pos e1, if_neg e2, r2, a2]
      simp only
      rw [if_pos e1]
    · rw [if_neg e1, r1, c2]
      simp only
      by_cases e2 : j.op = 3 ∧ v = j.a.toNat
      · rw [if_pos e2, if_pos e2]
      · rw [if_neg e2, if_neg e2, a2]; simp only; rw [if_neg e1]
  · funext l
    by_cases e1 : (i.op = 9 ∨ i.op = 10) ∧ l = i.a.toNat
    · have n1 : ¬ (j.op = 9 ∧ l = j.a.toNat) := fun h => hl ⟨e1.1, Or.inl h.1, by rw [← e1.2]; exact h.2⟩
      have n2 : ∀ q : Prop, ¬ (j.op = 10 ∧ l = j.a.toNat ∧ q) := fun q h => hl ⟨e1.1, Or.inr h.1, by rw [← e1.2]; exact h.2.1⟩
      have h2 : s2.held l = s.held l := by rw [c3]; simp only; rw [if_neg n1, if_neg (n2 _)]
      rw [d3, b3]
      simp only
      rw [if_neg n1, if_neg (n2 _), h2, a3]
      simp only
      rw [(l2 e1.1).1, (l2 e1.1).2]
    · have n1 : ¬ (i.op = 9 ∧ l = i.a.toNat) := fun h => e1 ⟨Or.inl h.1, h.2⟩
      have n2 : ∀ q : Prop, ¬ (i.op = 10 ∧ l = i.a.toNat ∧ q) := fun q h => e1 ⟨Or.inr h.1, h.2.1⟩
      have h1 : s1.held l = s.held l := by rw [a3]; simp only; rw [if_neg n1, if_neg (n2 _)]
      rw [d3, b3]
      simp only
      rw [if_neg n1, if_neg (n2 _), h1, c3]
      simp only
      by_cases e2 : j.op = 9 ∨ j.op = 10
      · rw [(l1 e2).1, (l1 e2).2]
      · have m1 : ¬ j.op = 9 := fun h => e2 (Or.inl h)
        have m2 : ¬ j.op = 10 := fun h => e2 (Or.inr h)
        simp [m1, m2]
  · funext l
    by_cases e1 : (i.op = 9 ∨ i.op = 10) ∧ l = i.a.toNat
    · have n1 : ¬ (j.op = 9 ∧ l = j.a.toNat) := fun h => hl ⟨e1.1, Or.inl h.1, by rw [← e1.2]; exact h.2⟩
      have n2 : ∀ q : Prop, ¬ (j.op = 10 ∧ l = j.a.toNat ∧ q) := fun q h => hl ⟨e1.1, Or.inr h.1, by rw [← e1.2]; exact h.2.1⟩
      have h2 : s2.own l = s.own l := by rw [c4]; simp only; rw [if_neg n1, if_neg (n2 _)]
      rw [d4, b4]
      simp only
      rw [if_neg n1, if_neg (n2 _), h2, a4]
      simp only
      rw [(l2 e1.1).1, (l2 e1.1).2]
    · have n1 : ¬ (i.op = 9 ∧ l = i.a.toNat) := fun h => e1 ⟨Or.inl h.1, h.2⟩
      have n2 : ∀ q : Prop, ¬ (i.op = 10 ∧ l = i.a.toNat ∧ q) := fun q h => e1 ⟨Or.inr h.1, h.2.1⟩
      have h1 : s1.own l = s.own l := by rw [a4]; simp only; rw [if_neg n1, if_neg (n2 _)]
      rw [d4, b4]
      simp only
      rw [if_neg n1, if_neg (n2 _), h1, c4]
      simp only
      by_cases e2 : j.op = 9 ∨ j.op = 10
      · rw [(l1 e2).1, (l1 e2).2]
      · have m1 : ¬ j.op = 9 := fun h => e2 (Or.inl h)
        have m2 : ¬ j.op = 10 := fun h => e2 (Or.inr h)
        simp [m1, m2]
  · funext t' r
    rw [d5, b5]
    simp only
    by_cases e1 : t' = x.t
    · subst e1
      rw [if_pos rfl, if_neg hne, r2, locR_val i _ _ _ v2, a5]
      simp
    · rw [if_neg e1, c5, r1, locR_val j _ _ _ v1]
      simp only
      by_cases e2 : t' = y.t
      · simp [e2]
      · rw [if_neg e2, if_neg e2, a5]; simp [e1]
  · funext t'
    rw [d6, b6]
    simp only
    by_cases e1 : t' = x.t
    · subst e1
      rw [if_pos rfl, if_neg hne, r2, hn2, a6]
      simp
    · rw [if_neg e1, c6, r1, hn1]
      simp only
      by_cases e2 : t' = y.t
      · simp [e2]
      · rw [if_neg e2, if_neg e2, a6]; simp [e1]

theorem RunE.append {p : List (List Ins)} : ∀ {a b : List Ev} {s s' : St}, RunE p s (a ++ b) s' ↔ ∃ s1, RunE p s a s1 ∧ RunE p s1 b s'
  | [], b, s, s' => by simp [RunE]
  | x :: a, b, s, s' => by
    simp only [List.cons_append, RunE, RunE.append (a := a)]
    constructor
    · rintro ⟨h1, s1, h2, h3⟩; exact ⟨s1, ⟨h1, h2⟩, h3⟩
    · rintro ⟨s1, ⟨h1, h2⟩, h3⟩; exact ⟨h1, s1, h2, h3⟩

/-- A run of steps, some of which changed places. -/
theorem RunE.eqv {p : List (List Ins)} {s s' : St} {xs ys : List Ev} (h : Eqv (depE p) xs ys) : RunE p s xs s' → RunE p s ys s' := by
  refine h (fun xs ys => RunE p s xs s' → RunE p s ys s') (fun _ => id) (fun a x y b h1 h2 => ?_) (fun _ _ _ i1 i2 h => i2 (i1 h))
  show RunE p s (a ++ x :: y :: b) s' → RunE p s (a ++ y :: x :: b) s'
  rw [RunE.append, RunE.append]
  rintro ⟨s1, ha, hx, hy, hb⟩
  obtain ⟨g1, g2, g3⟩ := step_swap hx hy h1
  exact ⟨s1, ha, g1, g2, by rw [g3]; exact hb⟩

end Go.Proofs.YtklenjmfalljgaaDoor

/- A run's steps, and the form of a schedule: it runs to the same, and is its own (no dump is named here). -/
namespace Go.Proofs.YtklenjmfalljgaaDoor

def Ev.tI (e : Ev) : Int := (e.t : Int)
def Ev.pr (e : Ev) : Int × Int := ((e.t : Int), e.k)
def evG (x : Int × Int) : Ev := ⟨x.1.toNat, x.2, false⟩
def evB (x : Int × Int) : Ev := ⟨x.1.toNat, x.2, true⟩
def good (xs : List Ev) : Prop := ∀ e ∈ xs, e.bad = false

/-- The steps of a run; the last one failed, if the run did. -/
def evsOf (o : Out) : List Ev := if o.kind = 1 then o.steps.dropLast.map evG ++ (o.steps.getLast?.map evB).toList else o.steps.map evG

theorem evG_pr {e : Ev} (h : e.bad = false) : evG e.pr = e := by cases e; simp [evG, Ev.pr] at *; exact h
theorem evB_pr {e : Ev} (h : e.bad = true) : evB e.pr = e := by cases e; simp [evB, Ev.pr] at *; exact h
theorem evG_all {xs : List Ev} (h : good xs) : (xs.map Ev.pr).map evG = xs := by
  induction xs with
  | nil => rfl
  | cons x r ih =>
    simp only [List.map_cons]
    rw [evG_pr (h x (List.mem_cons_self ..)), ih (fun e he => h e (List.mem_cons_of_mem _ he))]
theorem evsOf_good {o : Out} {xs : List Ev} (hk : o.kind ≠ 1) (hs : o.steps = xs.map Ev.pr) (h : good xs) : evsOf o = xs := by
  unfold evsOf; rw [if_neg hk, hs, evG_all h]
theorem evsOf_bad {o : Out} {ys : List Ev} {z : Ev} (hk : o.kind = 1) (hs : o.steps = (ys ++ [z]).map Ev.pr) (h : good ys) (hz : z.bad = true) : evsOf o = ys ++ [z] := by
  unfold evsOf; rw [if_pos hk, hs]; simp [evG_all h, evB_pr hz]

theorem goes_ok {p : List (List Ins)} {s : St} {x : Ev} (h : goes p s x) : okAt p s x.tI = true := by
  obtain ⟨h1, h2, _⟩ := h
  simp [okAt, belowB, Ev.tI, h1, h2]

/-- What a run is, by its steps. -/
theorem follow_cases (p : List (List Ins)) : ∀ (l : List Int) (i : Int) (s : St) (acc : List (Int × Int)), ∃ xs s', RunE p s xs s' ∧ (follow p l i s acc).steps = acc ++ xs.map Ev.pr ∧ (follow p l i s acc).st = s' ∧
    ((good xs ∧ xs.map Ev.tI = l ∧ (follow p l i s acc).kind = endingS p s' ∧ (follow p l i s acc).thread = 0 ∧ (follow p l i s acc).at_ = 0) ∨
     (good xs ∧ (∃ u r, l = xs.map Ev.tI ++ u :: r ∧ okAt p s' u = false) ∧ (follow p l i s acc).kind = 2 ∧ (follow p l i s acc).thread = 0 ∧ (follow p l i s acc).at_ = i + xs.length) ∨
     (∃ ys z r, xs = ys ++ [z] ∧ good ys ∧ z.bad = true ∧ l = xs.map Ev.tI ++ r ∧ (follow p l i s acc).kind = 1 ∧ (follow p l i s acc).thread = z.tI ∧ (follow p l i s acc).at_ = z.k))
  | [], i, s, acc => ⟨[], s, rfl, by simp [follow], rfl, Or.inl ⟨by simp [good], rfl, rfl, rfl, rfl⟩⟩
  | t :: r, i, s, acc => by
    by_cases h1 : okAt p s t = true
    · have hb : 0 ≤ t ∧ t < p.length ∧ readyB p s t.toNat = true := by
        simp [okAt, belowB] at h1; exact ⟨h1.1.1, h1.1.2, h1.2⟩
      obtain ⟨hb1, hb2, hb3⟩ := hb
      have ht : ((t.toNat : Nat) : Int) = t := by omega
      by_cases h2 : (stepS p s t.toNat).1 = true
      · obtain ⟨xs, s', hr, hs, hst, hc⟩ := follow_cases p r (i + 1) (stepS p s t.toNat).2 (acc ++ [(t, s.next t.toNat)])
        rw [follow_go p t r i s acc h1 h2]
        have hg : goes p s ⟨t.toNat, s.next t.toNat, false⟩ := ⟨by simp only; omega, hb3, rfl, by simpa using h2⟩
        refine ⟨⟨t.toNat, s.next t.toNat, false⟩ :: xs, s', ⟨hg, hr⟩, ?_, hst, ?_⟩
        · rw [hs]; simp [Ev.pr, ht]
        · have hgood : ∀ {zs : List Ev}, good zs → good (⟨t.toNat, s.next t.toNat, false⟩ :: zs) := fun h e he => by
            rcases List.mem_cons.1 he with he | he
            · rw [he]
            · exact h e he
          rcases hc with ⟨g1, g2, g3, g4, g5⟩ | ⟨g1, ⟨u, r', g2, g2'⟩, g3, g4, g5⟩ | ⟨ys, z, r', g1, g2, g3, g4, g5, g6, g7⟩
          · exact Or.inl ⟨hgood g1, by simp [Ev.tI, ht]; exact g2, g3, g4, g5⟩
          · exact Or.inr (Or.inl ⟨hgood g1, ⟨u, r', by simp [Ev.tI, ht]; exact g2, g2'⟩, g3, g4, by rw [g5]; simp; omega⟩)
          · exact Or.inr (Or.inr ⟨⟨t.toNat, s.next t.toNat, false⟩ :: ys, z, r', by rw [g1]; rfl, hgood g2, g3, by simp [Ev.tI, ht]; exact g4, g5, g6, g7⟩)
      · have h3 : (stepS p s t.toNat).1 = false := by simpa using h2
        rw [follow_fail p t r i s acc h1 h3]
        refine ⟨[⟨t.toNat, s.next t.toNat, true⟩], _, ⟨⟨by simp only; omega, hb3, rfl, by simpa using h3⟩, rfl⟩, by simp [Ev.pr, ht], rfl, Or.inr (Or.inr ⟨[], _, r, rfl, by simp [good], rfl, by simp [Ev.tI, ht], rfl, by simp [Ev.tI, ht], rfl⟩)⟩
    · have h3 : okAt p s t = false := by simpa using h1
      rw [follow_wrong p t r i s acc h3]
      exact ⟨[], s, rfl, by simp, rfl, Or.inr (Or.inl ⟨by simp [good], ⟨t, r, rfl, h3⟩, rfl, rfl, by simp⟩)⟩

theorem follow_of_good (p : List (List Ins)) : ∀ (xs : List Ev) (l : List Int) (i : Int) (s s' : St) (acc : List (Int × Int)), good xs → RunE p s xs s' → follow p (xs.map Ev.tI ++ l) i s acc = follow p l (i + xs.length) s' (acc ++ xs.map Ev.pr)
  | [], l, i, s, s', acc, _, h => by cases h; simp
  | x :: r, l, i, s, s', acc, hg, ⟨h1, h2⟩ => by
    have hb := hg x (List.mem_cons_self ..)
    have hok := goes_ok h1
    obtain ⟨g1, g2, g3, g4⟩ := h1
    have e1 : x.tI.toNat = x.t := by simp [Ev.tI]
    rw [List.map_cons, List.cons_append, follow_go p _ _ i s acc hok (by rw [e1, g4, hb]; rfl), e1, follow_of_good p r l (i + 1) _ s' _ (fun e he => hg e (List.mem_cons_of_mem _ he)) h2]
    congr 1
    · simp; omega
    · simp [Ev.pr, Ev.tI, g3]

theorem follow_good {p : List (List Ins)} {xs : List Ev} {i : Int} {s s' : St} {acc : List (Int × Int)} (hg : good xs) (h : RunE p s xs s') : follow p (xs.map Ev.tI) i s acc = ⟨acc ++ xs.map Ev.pr, endingS p s', 0, 0, s'⟩ := by
  have := follow_of_good p xs [] i s s' acc hg h
  rw [List.append_nil] at this
  rw [this]; rfl
theorem follow_bad {p : List (List Ins)} {ys : List Ev} {z : Ev} {i : Int} {s s' : St} {acc : List (Int × Int)} (hg : good ys) (hz : z.bad = true) (h : RunE p s (ys ++ [z]) s') : follow p ((ys ++ [z]).map Ev.tI) i s acc = ⟨acc ++ (ys ++ [z]).map Ev.pr, 1, z.tI, z.k, s'⟩ := by
  rw [RunE.append] at h
  obtain ⟨s1, h1, h2, h3⟩ := h
  have hok := goes_ok h2
  obtain ⟨g1, g2, g3, g4⟩ := h2
  have e1 : z.tI.toNat = z.t := by simp [Ev.tI]
  rw [List.map_append, follow_of_good p ys _ i s s1 acc hg h1, List.map_cons, List.map_nil, follow_fail p _ _ _ s1 _ hok (by rw [e1, g4, hz]; rfl), e1, g3]
  cases h3
  simp [Ev.pr, Ev.tI]

/-- Pairs of a layer and a thread, put in order. -/
def insK (x : Nat × Nat) : List (Nat × Nat) → List (Nat × Nat)
  | [] => [x]
  | y :: r => if x.1 < y.1 ∨ (x.1 = y.1 ∧ x.2 ≤ y.2) then x :: y :: r else y :: insK x r
def sortK : List (Nat × Nat) → List (Nat × Nat)
  | [] => []
  | x :: r => insK x (sortK r)
def leP (x y : Nat × Nat) : Prop := x.1 < y.1 ∨ (x.1 = y.1 ∧ x.2 ≤ y.2)
theorem insK_perm (x : Nat × Nat) : ∀ l, (insK x l).Perm (x :: l)
  | [] => List.Perm.refl _
  | y :: r => by
    unfold insK
    split
    · exact List.Perm.refl _
    · exact ((insK_perm x r).cons y).trans (List.Perm.swap _ _ _)
theorem sortK_perm : ∀ l, (sortK l).Perm l
  | [] => List.Perm.refl _
  | x :: r => (insK_perm x (sortK r)).trans ((sortK_perm r).cons x)
theorem insK_sorted (x : Nat × Nat) : ∀ l, l.Pairwise leP → (insK x l).Pairwise leP
  | [], _ => by simp [insK]
  | y :: r, h => by
    have h0 := h
    rw [List.pairwise_cons] at h
    unfold insK
    split
    · rename_i hxy
      rw [List.pairwise_cons]
      refine ⟨fun z hz => ?_, h0⟩
      rcases List.mem_cons.1 hz with hz | hz
      · subst hz; exact hxy
      · have := h.1 z hz
        unfold leP at *; omega
    · rename_i hxy
      rw [List.pairwise_cons]
      refine ⟨fun z hz => ?_, insK_sorted x r h.2⟩
      have hz' := (insK_perm x r).mem_iff.1 hz
      rcases List.mem_cons.1 hz' with hz' | hz'
      · subst hz'; unfold leP; omega
      · exact h.1 z hz'
theorem sortK_sorted : ∀ l, (sortK l).Pairwise leP
  | [] => List.Pairwise.nil
  | x :: r => insK_sorted x _ (sortK_sorted r)
theorem sortK_one {a b : List (Nat × Nat)} (h : a.Perm b) (hb : b.Pairwise leP) : sortK a = b := sorted_one ((sortK_perm a).trans h) (sortK_sorted a) hb
theorem sortK_congr {a b : List (Nat × Nat)} (h : a.Perm b) : sortK a = sortK b := sortK_one (h.trans (sortK_perm b).symm) (sortK_sorted b)

def keyE (x : Ev × Nat) : Nat × Nat := (x.2, x.1.t)
def keysE (p : List (List Ins)) (xs : List Ev) : List (Nat × Nat) := (tl (depE p) [] xs).map keyE
def formE (p : List (List Ins)) (xs : List Ev) : List Int := (sortK (keysE p xs)).map fun x => (x.2 : Int)
/-- THE FORM of what a run did. -/
def formS (p : List (List Ins)) (o : Out) : List Int := formE p (evsOf o)

theorem formE_eqv {p : List (List Ins)} {xs ys : List Ev} (h : Eqv (depE p) xs ys) : formE p xs = formE p ys := by
  unfold formE keysE; rw [sortK_congr (h.labels.map keyE)]
theorem formE_sorted {p : List (List Ins)} {ys : List Ev} (h : (tl (depE p) [] ys).Pairwise (leK Ev.t)) : formE p ys = ys.map Ev.tI := by
  have hp : (keysE p ys).Pairwise leP := by
    unfold keysE
    rw [List.pairwise_map]
    exact h.imp (fun {a b} hab => hab)
  unfold formE
  rw [sortK_one (List.Perm.refl _) hp]
  unfold keysE
  rw [List.map_map]
  have := tl_fst (depE p) [] ys
  conv => rhs; rw [← this, List.map_map]
  rfl
theorem formE_length (p : List (List Ins)) (xs : List Ev) : (formE p xs).length = xs.length := by
  unfold formE keysE
  rw [List.length_map, (sortK_perm _).length_eq, List.length_map, tl_length]

theorem good_perm {xs ys : List Ev} (h : xs.Perm ys) (hg : good xs) : good ys := fun e he => hg e (h.mem_iff.2 he)
theorem Eqv.perm {α : Type} {d : α → α → Bool} {xs ys : List α} (h : Eqv d xs ys) : xs.Perm ys := by
  have := h.labels.map (·.1)
  rwa [tl_fst, tl_fst] at this

/-- The form of a run none of whose steps failed. -/
theorem form_good {p : List (List Ins)} {xs : List Ev} {s' : St} (hg : good xs) (h : RunE p St.zero xs s') : ∃ ys, good ys ∧ RunE p St.zero ys s' ∧ formE p xs = ys.map Ev.tI ∧ formE p ys = formE p xs ∧ ys.length = xs.length := by
  obtain ⟨ys, h1, h2⟩ := sorted_of (d := depE p) Ev.t (depE_symm p) xs
  exact ⟨ys, good_perm h1.perm hg, RunE.eqv h1 h, by rw [formE_eqv h1, formE_sorted h2], (formE_eqv h1).symm, h1.perm.length_eq.symm⟩

/-- .. and of one whose last one did. -/
theorem form_bad {p : List (List Ins)} {us : List Ev} {z : Ev} {s' : St} (hg : good us) (hz : z.bad = true) (h : RunE p St.zero (us ++ [z]) s') :
    ∃ vs, good vs ∧ RunE p St.zero (vs ++ [z]) s' ∧ formE p (us ++ [z]) = (vs ++ [z]).map Ev.tI ∧ formE p (vs ++ [z]) = formE p (us ++ [z]) ∧ vs.length = us.length := by
  obtain ⟨ys, h1, h2⟩ := sorted_of (d := depE p) Ev.t (depE_symm p) (us ++ [z])
  have hne : ys ≠ [] := by
    intro e; subst e
    have := h1.perm.length_eq
    simp at this
  obtain ⟨vs, z', rfl⟩ : ∃ vs z', ys = vs ++ [z'] := ⟨ys.dropLast, ys.getLast hne, (List.dropLast_concat_getLast _).symm⟩
  have hlab := h1.labels
  rw [tl_snoc, tl_snoc] at hlab
  rw [tl_snoc, List.pairwise_append] at h2
  have hgt : ∀ q ∈ tl (depE p) [] us, q.2 + 1 ≤ layIn (depE p) (tl (depE p) [] us) z := fun q hq => layIn_ge (depE p) hq (by simp [depE, hz])
  generalize layIn (depE p) (tl (depE p) [] us) z = L at *
  generalize hl' : layIn (depE p) (tl (depE p) [] vs) z' = L' at *
  have hzz : z' = z := by
    have hm : (z', L') ∈ tl (depE p) [] us ++ [(z, L)] := hlab.mem_iff.2 (by simp)
    rcases List.mem_append.1 hm with hm | hm
    · exfalso
      have k1 := hgt _ hm
      have hm2 : (z, L) ∈ tl (depE p) [] vs ++ [(z', L')] := hlab.mem_iff.1 (by simp)
      rcases List.mem_append.1 hm2 with hm2 | hm2
      · have := h2.2.2 _ hm2 _ (List.mem_singleton.2 rfl)
        unfold leK at this
        simp only at this k1
        omega
      · simp at hm2
        simp only at k1
        omega
    · simp at hm
      exact hm.1
  subst hzz
  have hp : us.Perm vs := by
    have := h1.perm
    rwa [List.perm_append_right_iff] at this
  have h2' : (tl (depE p) [] (vs ++ [z'])).Pairwise (leK Ev.t) := by
    rw [tl_snoc, List.pairwise_append, hl']; exact h2
  exact ⟨vs, good_perm hp hg, RunE.eqv h1 h, by rw [formE_eqv h1, formE_sorted h2'], (formE_eqv h1).symm, hp.length_eq.symm⟩

/-- P8: the form of a schedule that is not wrong runs to the same, and is its own. -/
theorem formed_run {p : List (List Ins)} {a : List Int} (h : Sched p a) :
    (runS p (formS p (runS p a))).kind = (runS p a).kind ∧ (runS p (formS p (runS p a))).thread = (runS p a).thread ∧ (runS p (formS p (runS p a))).at_ = (runS p a).at_ ∧ (runS p (formS p (runS p a))).st = (runS p a).st ∧
    (runS p (formS p (runS p a))).steps.length = (runS p a).steps.length ∧ formS p (runS p (formS p (runS p a))) = formS p (runS p a) ∧ (formS p (runS p a)).length = a.length := by
  obtain ⟨h2, hlen⟩ := h
  have hc := follow_cases p a 0 St.zero []
  change ∃ xs s', RunE p St.zero xs s' ∧ (runS p a).steps = [] ++ xs.map Ev.pr ∧ (runS p a).st = s' ∧ ((good xs ∧ xs.map Ev.tI = a ∧ (runS p a).kind = endingS p s' ∧ (runS p a).thread = 0 ∧ (runS p a).at_ = 0) ∨ (good xs ∧ (∃ u r, a = xs.map Ev.tI ++ u :: r ∧ okAt p s' u = false) ∧ (runS p a).kind = 2 ∧ (runS p a).thread = 0 ∧ (runS p a).at_ = 0 + xs.length) ∨ (∃ ys z r, xs = ys ++ [z] ∧ good ys ∧ z.bad = true ∧ a = xs.map Ev.tI ++ r ∧ (runS p a).kind = 1 ∧ (runS p a).thread = z.tI ∧ (runS p a).at_ = z.k)) at hc
  obtain ⟨xs, s', hr, hs, hst, hc⟩ := hc
  rw [List.nil_append] at hs
  generalize hO : runS p a = o at *
  rcases hc with ⟨g1, g2, g3, g4, g5⟩ | ⟨_, _, g3, _⟩ | ⟨us, z, r, g1, g2, g3, g4, g5, g6, g7⟩
  · have hk1 : o.kind ≠ 1 := by have := endingS_range p s'; omega
    have he := evsOf_good hk1 hs g1
    obtain ⟨ys, f1, f2, f3, f4, f5⟩ := form_good g1 hr
    unfold formS
    rw [he, f3]
    have hrun : runS p (ys.map Ev.tI) = ⟨ys.map Ev.pr, endingS p s', 0, 0, s'⟩ := by unfold runS; rw [follow_good f1 f2]; simp
    rw [hrun]
    refine ⟨g3.symm, g4.symm, g5.symm, hst.symm, by rw [hs]; simpa using f5, ?_, by rw [← g2]; simpa using f5⟩
    rw [evsOf_good (xs := ys) (by have := endingS_range p s'; simp only; omega) rfl f1, f4, f3]
  · exact absurd g3 h2
  · subst g1
    have he := evsOf_bad g5 hs g2 g3
    obtain ⟨vs, f1, f2, f3, f4, f5⟩ := form_bad g2 g3 hr
    unfold formS
    rw [he, f3]
    have hrun : runS p ((vs ++ [z]).map Ev.tI) = ⟨(vs ++ [z]).map Ev.pr, 1, z.tI, z.k, s'⟩ := by unfold runS; rw [follow_bad f1 g3 f2]; simp
    rw [hrun]
    refine ⟨g5.symm, g6.symm, g7.symm, hst.symm, by rw [hs]; simpa using f5, ?_, ?_⟩
    · rw [evsOf_bad (ys := vs) (z := z) rfl rfl f1 g3, f4, f3]
    · rw [← hlen, hs]; simpa using f5

end Go.Proofs.YtklenjmfalljgaaDoor

/- Schedules made shorter, trial by trial (no dump is named here). -/
namespace Go.Proofs.YtklenjmfalljgaaDoor

/-- The same verdict (of a Wrong one the kind). -/
def likeV (a b : Out) : Bool := if a.kind = 2 then b.kind == 2 else (a.kind == b.kind && a.thread == b.thread && a.at_ == b.at_)
/-- One number left out. -/
def leftOut (l : List Int) (i : Nat) : List Int := l.take i ++ l.drop (i + 1)
/-- So many numbers of its schedule a run came to. -/
def cameTo (o : Out) : Nat := if o.kind = 2 then o.steps.length + 1 else o.steps.length

def shr (p : List (List Ins)) (V : Out) : Nat → List Int → Nat → Nat → List Int × Nat
  | 0, l, _, u => (l, u)
  | n + 1, l, i, u => if i < l.length then (if likeV (runS p (leftOut l i)) V = true then shr p V n (leftOut l i) 0 (u + 1) else shr p V n l (i + 1) (u + 1)) else (l, u)

def shortS (p : List (List Ins)) (s : List Int) (fuel : Nat) : List Int × Nat := shr p (runS p s) fuel (s.take (cameTo (runS p s))) 0 0

theorem leftOut_len {l : List Int} {i : Nat} (h : i < l.length) : (leftOut l i).length + 1 = l.length := by
  unfold leftOut; simp; omega

section
variable {p : List (List Ins)} {V : Out}
theorem shr_len : ∀ (n : Nat) (l : List Int) (i u : Nat), (shr p V n l i u).1.length ≤ l.length
  | 0, l, i, u => Nat.le_refl _
  | n + 1, l, i, u => by
    unfold shr
    split
    · rename_i hi
      have := leftOut_len hi
      split
      · have := shr_len n (leftOut l i) 0 (u + 1); omega
      · exact shr_len n l (i + 1) (u + 1)
    · exact Nat.le_refl _
theorem shr_used : ∀ (n : Nat) (l : List Int) (i u : Nat), u ≤ (shr p V n l i u).2 ∧ (shr p V n l i u).2 ≤ u + n
  | 0, l, i, u => ⟨Nat.le_refl _, Nat.le_refl _⟩
  | n + 1, l, i, u => by
    unfold shr
    split
    · split
      · have := shr_used n (leftOut l i) 0 (u + 1); omega
      · have := shr_used n l (i + 1) (u + 1); omega
    · exact ⟨Nat.le_refl _, by omega⟩
theorem shr_more : ∀ (m n : Nat) (l : List Int) (i u : Nat), m ≤ n → (shr p V n l i u).1.length ≤ (shr p V m l i u).1.length ∧ (shr p V m l i u).2 ≤ (shr p V n l i u).2
  | 0, n, l, i, u, _ => ⟨shr_len n l i u, (shr_used n l i u).1⟩
  | m + 1, 0, l, i, u, h => by omega
  | m + 1, n + 1, l, i, u, h => by
    unfold shr
    split
    · split
      · exact shr_more m n _ _ _ (by omega)
      · exact shr_more m n _ _ _ (by omega)
    · exact ⟨Nat.le_refl _, Nat.le_refl _⟩
theorem shr_like : ∀ (n : Nat) (l : List Int) (i u : Nat), likeV (runS p l) V = true → likeV (runS p (shr p V n l i u).1) V = true
  | 0, l, i, u, h => h
  | n + 1, l, i, u, h => by
    unfold shr
    split
    · split
      · exact shr_like n _ _ _ ‹_›
      · exact shr_like n _ _ _ h
    · exact h
/-- With fuel enough nothing can be left out. -/
theorem shr_enough : ∀ (n : Nat) (l : List Int) (i u : Nat), l.length * (l.length + 1) ≤ n + i → i ≤ u → i ≤ l.length → (∀ j, j < i → likeV (runS p (leftOut l j)) V = false) →
    (∀ j, j < (shr p V n l i u).1.length → likeV (runS p (leftOut (shr p V n l i u).1 j)) V = false) ∧ (shr p V n l i u).1.length ≤ (shr p V n l i u).2
  | 0, l, i, u, h, hu, hi, hj => by
    have hl : l.length = 0 ∨ l.length ≤ i := by
      rcases Nat.eq_zero_or_pos l.length with e | e
      · exact Or.inl e
      · right
        have : l.length * 1 ≤ l.length * (l.length + 1) := Nat.mul_le_mul_left _ (by omega)
        omega
    unfold shr
    exact ⟨fun j h1 => hj j (by simp only at h1; omega), by simp only; omega⟩
  | n + 1, l, i, u, h, hu, hi, hj => by
    unfold shr
    split
    · rename_i hlt
      have hlen := leftOut_len hlt
      split
      · refine shr_enough n _ 0 (u + 1) ?_ (by omega) (by omega) (fun j h1 => by omega)
        have e : l.length = (leftOut l i).length + 1 := hlen.symm
        rw [e] at h hlt
        have e2 : ((leftOut l i).length + 1) * ((leftOut l i).length + 1 + 1) = (leftOut l i).length * ((leftOut l i).length + 1) + 2 * ((leftOut l i).length + 1) := by
          generalize (leftOut l i).length = k
          rw [Nat.add_mul, Nat.mul_add k, Nat.mul_add k]; omega
        omega
      · rename_i hn
        refine shr_enough n l (i + 1) (u + 1) (by omega) (by omega) (by omega) (fun j h1 => ?_)
        by_cases e : j = i
        · subst e; simpa using hn
        · exact hj j (by omega)
    · rename_i hlt
      exact ⟨fun j h1 => hj j (by simp only at h1; omega), by simp only; omega⟩
end

/-- What was cut off was nothing to the run. -/
theorem run_cut (p : List (List Ins)) (s : List Int) : runS p (s.take (cameTo (runS p s))) = runS p s ∧ cameTo (runS p s) ≤ s.length := by
  have hc := follow_cases p s 0 St.zero []
  change ∃ xs s', RunE p St.zero xs s' ∧ (runS p s).steps = [] ++ xs.map Ev.pr ∧ (runS p s).st = s' ∧ ((good xs ∧ xs.map Ev.tI = s ∧ (runS p s).kind = endingS p s' ∧ (runS p s).thread = 0 ∧ (runS p s).at_ = 0) ∨ (good xs ∧ (∃ u r, s = xs.map Ev.tI ++ u :: r ∧ okAt p s' u = false) ∧ (runS p s).kind = 2 ∧ (runS p s).thread = 0 ∧ (runS p s).at_ = 0 + xs.length) ∨ (∃ ys z r, xs = ys ++ [z] ∧ good ys ∧ z.bad = true ∧ s = xs.map Ev.tI ++ r ∧ (runS p s).kind = 1 ∧ (runS p s).thread = z.tI ∧ (runS p s).at_ = z.k)) at hc
  obtain ⟨xs, s', hr, hs, hst, hc⟩ := hc
  rw [List.nil_append] at hs
  have hl : (runS p s).steps.length = xs.length := by rw [hs]; simp
  have eq_of : ∀ o : Out, o.steps = (runS p s).steps → o.kind = (runS p s).kind → o.thread = (runS p s).thread → o.at_ = (runS p s).at_ → o.st = (runS p s).st → o = runS p s := by
    intro o h1 h2 h3 h4 h5
    cases o
    generalize runS p s = q at *
    cases q
    simp at *; exact ⟨h1, h2, h3, h4, h5⟩
  rcases hc with ⟨g1, g2, g3, g4, g5⟩ | ⟨g1, ⟨u, r, g2, g2'⟩, g3, g4, g5⟩ | ⟨us, z, r, g1, g2, g3, g4, g5, g6, g7⟩
  · have hk : cameTo (runS p s) = s.length := by
      unfold cameTo
      rw [if_neg (by have := endingS_range p s'; omega), hl, ← g2]; simp
    rw [hk, List.take_length]
    exact ⟨rfl, Nat.le_refl _⟩
  · have hk : cameTo (runS p s) = xs.length + 1 := by unfold cameTo; rw [if_pos g3, hl]
    have ht : s.take (xs.length + 1) = xs.map Ev.tI ++ [u] := by
      rw [g2, List.take_append, List.take_of_length_le (by simp)]; simp
    rw [hk, ht]
    refine ⟨?_, by rw [g2]; simp⟩
    have e1 : runS p (xs.map Ev.tI ++ [u]) = ⟨xs.map Ev.pr, 2, 0, 0 + xs.length, s'⟩ := by
      unfold runS; rw [follow_of_good p xs [u] 0 St.zero s' [] g1 hr, follow_wrong p u [] _ _ _ g2']; simp
    rw [e1]
    exact eq_of _ hs.symm g3.symm g4.symm g5.symm hst.symm
  · have hk : cameTo (runS p s) = xs.length := by unfold cameTo; rw [if_neg (by omega), hl]
    have ht : s.take xs.length = xs.map Ev.tI := by
      rw [g4, List.take_append, List.take_of_length_le (by simp)]; simp
    rw [hk, ht]
    refine ⟨?_, by rw [g4]; simp⟩
    subst g1
    have e1 : runS p ((us ++ [z]).map Ev.tI) = ⟨(us ++ [z]).map Ev.pr, 1, z.tI, z.k, s'⟩ := by
      unfold runS; rw [follow_bad g2 g3 hr]; simp
    rw [e1]
    exact eq_of _ hs.symm g5.symm g6.symm g7.symm hst.symm

theorem likeV_refl (o : Out) : likeV o o = true := by
  unfold likeV; split
  · simpa using ‹_›
  · simp

/-- P7, P8: what Shorten tells. -/
theorem short_all (p : List (List Ins)) (s : List Int) (n m : Nat) (hn : s.length * (s.length + 1) ≤ n) (hm : m ≤ n) :
    (shortS p s n).1.length ≤ (shortS p s m).1.length ∧ (shortS p s m).1.length ≤ s.length ∧ (shortS p s n).1.length ≤ (shortS p s n).2 ∧ (shortS p s m).2 ≤ (shortS p s n).2 ∧ (shortS p s m).2 ≤ m ∧
    likeV (runS p (shortS p s n).1) (runS p s) = true ∧ likeV (runS p (shortS p s m).1) (runS p s) = true ∧ ∀ j, j < (shortS p s n).1.length → likeV (runS p (leftOut (shortS p s n).1 j)) (runS p s) = false := by
  obtain ⟨hc1, hc2⟩ := run_cut p s
  have hlen : (s.take (cameTo (runS p s))).length ≤ s.length := by simp; omega
  have hl0 : likeV (runS p (s.take (cameTo (runS p s)))) (runS p s) = true := by rw [hc1]; exact likeV_refl _
  have hb : (s.take (cameTo (runS p s))).length * ((s.take (cameTo (runS p s))).length + 1) ≤ n := Nat.le_trans (Nat.mul_le_mul hlen (by omega)) hn
  unfold shortS
  have h1 := shr_more (p := p) (V := runS p s) m n (s.take (cameTo (runS p s))) 0 0 hm
  have h2 := shr_len (p := p) (V := runS p s) m (s.take (cameTo (runS p s))) 0 0
  have h3 := shr_enough (p := p) (V := runS p s) n (s.take (cameTo (runS p s))) 0 0 (by omega) (by omega) (by omega) (fun j h => by omega)
  have h4 := shr_used (p := p) (V := runS p s) m (s.take (cameTo (runS p s))) 0 0
  exact ⟨h1.1, by omega, h3.2, h1.2, by omega, shr_like _ _ _ _ hl0, shr_like _ _ _ _ hl0, h3.1⟩

end Go.Proofs.YtklenjmfalljgaaDoor

/- The walk of SameVerdict. -/
namespace Go.Proofs.YtklenjmfalljgaaDoor
open Go.RowKit
attribute [local go_sem] Go.World.cell?_alloc_some

def verdV (o : Out) : Value := .agg #[.int .i64 o.kind, .int .i64 o.thread, .int .i64 o.at_]

set_option maxHeartbeats 1000000 in
set_option maxRecDepth 100000 in
theorem sameVerdict_m (a b : Out) (w : World) : Calls Tryd.prog 69 #[verdV a, verdV b] w fun e w' => e = .returned (.bool (likeV a b)) ∧ w.grownBy w' none := by
  obtain ⟨al, ak, av, aa, ast⟩ := a
  obtain ⟨bs, bk, bt, ba, bst⟩ := b
  unfold verdV
  simp only
  have HG : Hid (∀ x y, w.grownBy ((w.alloc x).alloc y) none) := fun x y => grown_alloc (grown_alloc (grown_refl _ _))
  by_cases h2 : ak = 2
  · by_cases h3 : bk = 2
    · have HE : Hid (likeV ⟨al, ak, av, aa, ast⟩ ⟨bs, bk, bt, ba, bst⟩ = true) := by unfold Hid likeV; simp [h2, h3]
      subst h2 h3
      go_enter Tryd.func69, Tryd.ntmps69
      go_wp2_with fail
      go_ret
      exact ⟨by rw [HE.out]; rfl, HG.out _ _⟩
    · have HE : Hid (likeV ⟨al, ak, av, aa, ast⟩ ⟨bs, bk, bt, ba, bst⟩ = false) := by unfold Hid likeV; simp [h2, h3]
      have hb : (bk == 2) = false := by simpa using h3
      subst h2
      clear h3
      go_enter Tryd.func69, Tryd.ntmps69
      go_wp2_with fail
      go_ret
      exact ⟨by rw [HE.out]; rfl, HG.out _ _⟩
  · have HE : Hid (likeV ⟨al, ak, av, aa, ast⟩ ⟨bs, bk, bt, ba, bst⟩ = (ak == bk && av == bt && aa == ba)) := by unfold Hid likeV; simp [h2]
    have ha : (ak == 2) = false := by simpa using h2
    clear h2
    go_enter Tryd.func69, Tryd.ntmps69
    go_wp2_with fail
    all_goals (go_ret; refine ⟨?_, HG.out _ _⟩; rw [HE.out]; simp [*])

end Go.Proofs.YtklenjmfalljgaaDoor

/- The walk of lengthOf. -/
namespace Go.Proofs.YtklenjmfalljgaaDoor
open Go.RowKit
attribute [local go_sem] Go.World.cell?_alloc_some

theorem rows_one {W : World} {x : Value} {l : List Int} {t : TypeId} {g : Nat} (hg : W.heap.size = g) (h : IntsAt W.heap.size W x l) (hn : nilOk x) : RowsAt (W.alloc (.cells #[x] t)) (.slice (some ⟨g, 0, none⟩) 1 1) [l] := by
  subst hg
  refine ⟨W.heap.size, 0, 1, rfl, by simp, fun k hk => ⟨x, ?_, ?_, hn⟩⟩
  · have hk0 : k = 0 := by simp at hk; omega
    subst hk0
    have h := heap_alloc_new W (.cells #[x] t)
    simp only [World.cell?, h]
    rfl
  · have hk0 : k = 0 := by simp at hk; omega
    subst hk0
    exact (h.pres (pres_grown (grown_alloc (grown_refl _ _)))).mono (by simp)
theorem rows_two {W : World} {x y : Value} {l m : List Int} {t : TypeId} {g : Nat} (hg : W.heap.size = g) (h : IntsAt W.heap.size W x l) (hn : nilOk x) (h' : IntsAt W.heap.size W y m) (hn' : nilOk y) : RowsAt (W.alloc (.cells #[x, y] t)) (.slice (some ⟨g, 0, none⟩) 2 2) [l, m] := by
  subst hg
  have hb := heap_alloc_new W (.cells #[x, y] t)
  have up : ∀ {v : Value} {l : List Int}, IntsAt W.heap.size W v l → IntsAt (W.alloc (.cells #[x, y] t)).heap.size (W.alloc (.cells #[x, y] t)) v l := fun h => (h.pres (pres_grown (grown_alloc (grown_refl _ _)))).mono (by simp)
  refine ⟨W.heap.size, 0, 2, rfl, by simp, fun k hk => ?_⟩
  have hk0 : k = 0 ∨ k = 1 := by simp at hk; omega
  rcases hk0 with rfl | rfl
  · exact ⟨x, by simp only [World.cell?, hb]; rfl, up h, hn⟩
  · exact ⟨y, by simp only [World.cell?, hb]; rfl, up h', hn'⟩

theorem MachAt.mono {B B' : Nat} {w : World} {m : Nat} {p : List (List Ins)} (H : MachAt B w m p) (hb : B ≤ B') : MachAt B' w m p := by
  obtain ⟨g, cap, h1, h2, h3, h4⟩ := H
  refine ⟨g, cap, by omega, by omega, h3, fun t ht => ?_⟩
  obtain ⟨v, k1, k2⟩ := h4 t ht
  exact ⟨v, k1, k2.mono hb⟩

theorem IntsAt.front {B : Nat} {w : World} {ao : Option Addr} {cap n : Nat} {l : List Int} (h : IntsAt B w (.slice ao l.length cap) l) (hn : n ≤ l.length) : IntsAt B w (.slice ao n cap) (l.take n) := by
  obtain ⟨a, c, e, h1, h2⟩ := h
  simp only [Value.slice.injEq, true_and] at e
  obtain ⟨rfl, rfl⟩ := e
  refine ⟨ao, cap, by simp [Nat.min_eq_left hn], by simp; omega, fun k hk => ?_⟩
  have hk' : k < l.length := by simp at hk; omega
  obtain ⟨g, o, e1, e2, e3⟩ := h2 k hk'
  exact ⟨g, o, e1, e2, by rw [List.getElem_take]; exact e3⟩

set_option maxHeartbeats 1000000 in
set_option maxRecDepth 100000 in
theorem lengthOf_m (o : Out) (w : World) (sao gao : Option Addr) (scp gl gc : Nat) (v0 v1 v2 v3 : Int) (hl : o.steps.length ≤ 1000) :
    Calls Tryd.prog 97 #[.agg #[.int .i64 o.kind, .int .i64 o.thread, .int .i64 o.at_, .slice sao o.steps.length scp, .int .i64 v0, .int .i64 v1, .int .i64 v2, .int .i64 v3, .slice gao gl gc]] w fun e w' => e = .returned (.int .i64 (cameTo o)) ∧ w.grownBy w' none := by
  have hl' : (o.steps.length : Int) ≤ 1000 := by omega
  by_cases h2 : o.kind = 2
  · have HE : Hid (((cameTo o : Nat) : Int) = o.steps.length + 1) := by unfold Hid cameTo; rw [if_pos h2]; simp
    rw [h2]
    go_enter Tryd.func97, Tryd.ntmps97
    go_wp2_with fail
    go_ret
    exact ⟨by rw [HE.out]; first | rfl | go_num, grown_alloc (grown_refl _ _)⟩
  · have HE : Hid (((cameTo o : Nat) : Int) = o.steps.length) := by unfold Hid cameTo; rw [if_neg h2]
    have hb : (o.kind == 2) = false := by simpa using h2
    clear h2
    go_enter Tryd.func97, Tryd.ntmps97
    go_wp2_with fail
    go_ret
    exact ⟨by rw [HE.out]; first | rfl | go_num, grown_alloc (grown_refl _ _)⟩

end Go.Proofs.YtklenjmfalljgaaDoor

/- A result's verdict, as a field of the value. -/
namespace Go.Proofs.YtklenjmfalljgaaDoor
open Go.RowKit

theorem run_field_verdict (k t a : Int) (sv gv : Value) (v0 v1 v2 v3 : Value) (w : World) : (Instr.field 37 (.agg #[.int .i64 k, .int .i64 t, .int .i64 a, sv, v0, v1, v2, v3, gv]) 0).run Tryd.prog w = .ok (.agg #[.int .i64 k, .int .i64 t, .int .i64 a]) w := by
  simp [Instr.field, run_underlying Tryd.underlying37, asAgg, part, Tryd.isAgg32, Tryd.sizeOf32]

end Go.Proofs.YtklenjmfalljgaaDoor
