/- The texts Ren Hld Cut Cct Cmb Tla Cmc Cmd. -/
import Derived.Test.YtklenjmfalljgaaDoorME
import Derived.Deep.DeepCutAuto
import Derived.Deep.Slices
import Derived.Lib.AppendZeros
import Derived.Control

/- The walk of Renamed. -/
namespace Go.Proofs.YtklenjmfalljgaaDoor
open Go.RowKit
attribute [local go_sem] Go.World.cell?_alloc_some run_eq4

/-- The threads, turned by d places. -/
def turnP (p : List (List Ins)) (d : Nat) : List (List Ins) := (List.range p.length).map fun j => codeOf p (turnF p.length d j)
theorem turnP_moved (p : List (List Ins)) (d : Nat) : Moved p (turnP p d) (turnF p.length d) := by
  refine ⟨by simp [turnP], fun t ht => ?_⟩
  have h : t < (turnP p d).length := by simpa [turnP] using ht
  rw [codeOf_get h]
  simp [turnP]
theorem turnP_valid {p : List (List Ins)} (h : vProg p = true) {d : Nat} (hd : d < p.length) : vProg (turnP p d) = true := by
  have hl := vProg_len h
  simp only [vProg, Bool.and_eq_true, decide_eq_true_eq, List.all_eq_true]
  refine ⟨by simp [turnP]; omega, by simp [turnP]; omega, fun c hc => ?_⟩
  simp only [turnP, List.mem_map, List.mem_range] at hc
  obtain ⟨j, hj, rfl⟩ := hc
  exact vProg_code h ((turn_ren hl.1 hl.2 hd).lt j hj)

/-- In the midst of the first loop. -/
def TurnAt (w3 : World) (V : Nat → Value) (n d t : Nat) (w' : World) : Prop :=
  ∃ tv, w'.heap[w3.heap.size]? = some (.cells #[tv] 25 (0, 0)) ∧ w'.ownsRow (w3.heap.size + 1) 29 1 tv t ((List.range t).map fun j => V (turnF n d j)) ∧ w3.grownBy w' none ∧ w3.heap.size + 1 ≤ w'.heap.size

theorem wrap_small {x : Int} (h0 : 0 ≤ x) (h1 : x ≤ 1000000) : IntKind.i64.wrap x = x := by
  simp only [IntKind.wrap, IntKind.signed, IntKind.bits]
  have e : x % (2 ^ 64 : Int) = x := Int.emod_eq_of_lt h0 (by omega)
  simp only [e]
  rw [if_neg]
  simp
  omega
theorem tmod_turn {n d t : Nat} : Int.tmod ((t : Int) + (d : Int)) (n : Int) = ((turnF n d t : Nat) : Int) := by
  rw [← Int.natCast_add, ← Int.ofNat_tmod]; rfl
theorem tmod_turnG {n d x : Nat} (h : d ≤ n) : Int.tmod ((x : Int) + (n : Int) - (d : Int)) (n : Int) = ((turnG n d x : Nat) : Int) := by
  rw [← Int.natCast_add, ← Int.natCast_sub (by omega), ← Int.ofNat_tmod]; rfl

theorem regsF_get (s : St) : ∀ (n t : Nat), t < n → (regsF n s)[t * 4]? = some (.int .i64 (s.regs t 0)) ∧ (regsF n s)[t * 4 + 1]? = some (.int .i64 (s.regs t 1)) ∧ (regsF n s)[t * 4 + 2]? = some (.int .i64 (s.regs t 2)) ∧ (regsF n s)[t * 4 + 3]? = some (.int .i64 (s.regs t 3))
  | 0, t, h => by omega
  | n + 1, t, h => by
    have e : regsF (n + 1) s = regsF n s ++ [.int .i64 (s.regs n 0), .int .i64 (s.regs n 1), .int .i64 (s.regs n 2), .int .i64 (s.regs n 3)] := by
      unfold regsF; rw [List.range_succ, List.flatMap_append]; simp
    have hl := regsF_len n s
    rw [e]
    by_cases ht : t < n
    · obtain ⟨h0, h1, h2, h3⟩ := regsF_get s n t ht
      refine ⟨?_, ?_, ?_, ?_⟩
      · rw [List.getElem?_append_left (by omega)]; exact h0
      · rw [List.getElem?_append_left (by omega)]; exact h1
      · rw [List.getElem?_append_left (by omega)]; exact h2
      · rw [List.getElem?_append_left (by omega)]; exact h3
    · have : t = n := by omega
      subst this
      refine ⟨?_, ?_, ?_, ?_⟩
      · rw [List.getElem?_append_right (by omega), hl, Nat.sub_self]; rfl
      · rw [List.getElem?_append_right (by omega), hl, Nat.add_sub_cancel_left]; rfl
      · rw [List.getElem?_append_right (by omega), hl, Nat.add_sub_cancel_left]; rfl
      · rw [List.getElem?_append_right (by omega), hl, Nat.add_sub_cancel_left]; rfl

theorem regs_cells {w : World} {base : Nat} {ao : Option Addr} {n c : Nat} {s : St} (h : w.ownsRow base 34 4 (.slice ao n c) n (regsF n s)) {t : Nat} (ht : t < n) :
    ∃ g, ao = some ⟨g, 0, none⟩ ∧ w.cell? ⟨g, t * 4, none⟩ = some (.int .i64 (s.regs t 0)) ∧ w.cell? ⟨g, t * 4 + 1, none⟩ = some (.int .i64 (s.regs t 1)) ∧ w.cell? ⟨g, t * 4 + 2, none⟩ = some (.int .i64 (s.regs t 2)) ∧ w.cell? ⟨g, t * 4 + 3, none⟩ = some (.int .i64 (s.regs t 3)) := by
  obtain ⟨g, cap, e, _, _⟩ := h.form (by omega)
  simp at e
  obtain ⟨rfl, rfl⟩ := e
  obtain ⟨h0, h1, h2, h3⟩ := regsF_get s n t ht
  exact ⟨g, rfl, by rw [h.cellAt _ (by omega)]; exact h0, by rw [h.cellAt _ (by omega)]; exact h1, by rw [h.cellAt _ (by omega)]; exact h2, by rw [h.cellAt _ (by omega)]; exact h3⟩

theorem int_cell' {w : World} {base : Nat} {ao : Option Addr} {n c m : Nat} {l : List Int} (h : w.ownsRow base 3 1 (.slice ao n c) m (ints l)) (hm : m = l.length) {j : Nat} (hj : j < l.length) :
    ∃ g, ao = some ⟨g, 0, none⟩ ∧ g < w.heap.size ∧ w.cell? ⟨g, j, none⟩ = some (.int .i64 l[j]) := by
  obtain ⟨g, cap, e, _, hlt⟩ := h.form (by omega)
  simp at e
  obtain ⟨rfl, rfl, rfl⟩ := e
  exact ⟨g, rfl, hlt, by rw [h.cellAt _ (by omega)]; simp [ints, hj]⟩

set_option maxHeartbeats 8000000 in
set_option maxRecDepth 100000 in
theorem renamed_m (raw : List (List Int)) (ch : List Int) (by_ : Int) (rawv chv : Value) (w : World) (hS : ShpAt w) (hR : RawAt w rawv raw) (hbR : ∀ t (ht : t < raw.length) k (hk : k < raw[t].length), isInt raw[t][k])
    (hC : IntsAt w.heap.size w chv ch) (hbC : ∀ k (hk : k < ch.length), -9223372036854775808 ≤ ch[k] ∧ ch[k] ≤ 9223372036854775807) (hby : isInt by_) :
    Calls Tryd.prog 4 #[rawv, chv, .int .i64 by_] w fun e w' => e = .returned (.bool true) ∧ w.grownBy w' none := by
  obtain ⟨i0, hi0, hz0, hz1, hz2⟩ := info_parts info_int
  obtain ⟨i1, hi1, hy0, hy1, hy2⟩ := info_parts info_code
  have HSh := hide hS
  have HC := hide hC
  have HBC := hide hbC
  have HA := hide hby
  have HPR := hide (program_m raw rawv w hR hbR)
  have hvp := progN_valid raw
  clear hS hR hbR hC hbC hby
  generalize progN raw = p at *
  have HVP := hide hvp
  have hlen := vProg_len hvp
  clear hvp
  go_enter Tryd.func4, Tryd.ntmps4
  go_wp2_with fail
  refine HPR.out.mono ?_
  clear HPR
  rintro e w1 ⟨tv, rfl, hP, hg1⟩
  have hform := hP.form
  obtain ⟨pao, pcap, htv⟩ := hform
  have htv2 : tv = .slice pao p.length pcap := by simpa using htv
  subst htv2
  have HP1 := hide hP
  have HG1 := hide hg1
  have hs1 := hg1.size
  clear hP hg1 htv
  go_wp2_with fail
  have HSC := hide (schedule_m p ch (.agg #[.slice pao p.length pcap]) chv (w1.alloc (.cells #[.slice pao p.length pcap] 25)) (HSh.out.pres (pres_grown (grown_alloc HG1.out))) HVP.out (HP1.out.pres (pres_grown (grown_alloc (grown_refl _ _)))) ((HC.out.pres (pres_grown (grown_alloc HG1.out))).mono (by simp; omega)) HBC.out)
  refine HSC.out.mono ?_
  clear HSC
  rintro e w2 ⟨sv, rv, a, rfl, hrow, ⟨st, gt, rfl, ho1, ho2⟩, hsd, h200, _, hg2⟩
  have HSD := hide hsd
  have hsz2 : w1.heap.size + 1 ≤ w2.heap.size := by have := hg2.size; simpa using this
  obtain ⟨s1, s2, s3, rfl⟩ := owns_form hrow
  have e2 := owns_lenq hrow
  subst e2
  obtain ⟨x1, x2, x3, rfl⟩ := owns_form ho1
  have e3 := (owns_lenq ho1).trans hsd.2
  subst e3
  obtain ⟨y1, y2, y3, rfl⟩ := owns_form ho2
  have e4 := owns_lenq ho2
  subst e4
  have HRow := hide hrow
  have HO2 := hide ho2
  have HPB : Hid (w2.heap[w1.heap.size]? = some (.cells #[.slice pao p.length pcap] 25 (0, 0))) := by
    unfold Hid; rw [hg2.block _ (by simp) (by simp)]; exact heap_alloc_new w1 _
  have HG2 : Hid (w.grownBy w2 none) := grown_trans (grown_alloc HG1.out) hg2
  have HGW : Hid ((w1.alloc (.cells #[.slice pao p.length pcap] 25)).grownBy w2 none) := hg2
  clear hrow ho1 ho2 hsd hg2
  obtain ⟨d, hd⟩ := Int.eq_ofNat_of_zero_le (pickN_range by_ p.length (by omega)).1
  have hd2 : d < p.length := by have := (pickN_range by_ p.length (by omega)).2; omega
  have HPK := hide (pick_m by_ p.length (by omega) (by omega) HA.out.1 HA.out.2)
  rw [hd] at HPK
  clear hd
  have R := turn_ren hlen.1 hlen.2 hd2
  obtain ⟨pg, po, hpao⟩ : ∃ g o, pao = some ⟨g, o, none⟩ := by
    obtain ⟨ao, cap, e, h⟩ := HP1.out
    simp at e
    obtain ⟨g, o, e1, _⟩ := h 0 (by omega)
    exact ⟨g, o, e.1.trans e1⟩
  subst hpao
  obtain ⟨V, hV⟩ := Deep.choose_lt (α := Value) (n := p.length) (p := fun j v => w1.cell? ⟨pg, po + j, none⟩ = some v ∧ CodeAt w1 v (codeOf p j)) (fun j hj => by
    obtain ⟨ao, cap, e, h⟩ := HP1.out
    simp at e
    obtain ⟨g, o, e1, rv, e2, e3⟩ := h j hj
    rw [← e.1] at e1
    simp at e1
    obtain ⟨rfl, rfl⟩ := e1
    exact ⟨rv, e2, by rw [codeOf_get hj]; exact e3⟩)
  have HV := hide hV
  clear hV
  have hpb2 : w2.cell? ⟨w1.heap.size, 0, none⟩ = some (.slice (some ⟨pg, po, none⟩) p.length pcap) := by simp [World.cell?, HPB.out]
  go_wp2_with fail
  refine (HPK.out _).mono ?_
  clear HPK
  rintro e w3 ⟨rfl, rfl⟩
  generalize hw3 : w2.alloc (Obj.cells #[Value.int IntKind.i64 (runS p a).kind, Value.int IntKind.i64 (runS p a).thread, Value.int IntKind.i64 (runS p a).at_, Value.slice x1 a.length x3, Value.int IntKind.i64 ((runS p a).st.vars 0), Value.int IntKind.i64 ((runS p a).st.vars 1), Value.int IntKind.i64 ((runS p a).st.vars 2), Value.int IntKind.i64 ((runS p a).st.vars 3), Value.slice y1 p.length y3] 37) = w3
  have hsz3 : w2.heap.size < w3.heap.size := by rw [← hw3]; simp
  have HG23 : Hid (w2.grownBy w3 none) := by unfold Hid; rw [← hw3]; exact grown_alloc (grown_refl _ _)
  have HRB : Hid (w3.heap[w2.heap.size]? = some (.cells (resCells (runS p a) (.slice x1 a.length x3) (.slice y1 p.length y3)) 37 (0, 0))) := by
    unfold Hid; rw [← hw3]; exact heap_alloc_new w2 _
  have hpb : w3.cell? ⟨w1.heap.size, 0, none⟩ = some (.slice (some ⟨pg, po, none⟩) p.length pcap) := pres_grown HG23.out _ _ hpb2
  have HG13 : Hid (w1.grownBy w3 none) := grown_trans (grown_trans (grown_alloc (grown_refl _ _)) HGW.out) HG23.out
  clear hw3 hpb2
  go_wp2_with fail
  go_loopw [14] (fun i w' => ∃ t : Nat, t ≤ p.length ∧ i = .int .i64 t ∧ Hid (TurnAt w3 V p.length d t w')) (fun i _ => p.length - (intOf i).toNat)
  case atStart =>
    exact ⟨0, Nat.zero_le _, rfl, .slice none 0 0, heap_alloc_new w3 _, ⟨rfl, Or.inl ⟨rfl, rfl⟩⟩, grown_alloc (grown_refl _ _), by simp⟩
  case round =>
    obtain ⟨t, ht, rfl, HT⟩ := hrel
    obtain ⟨w4, hw4⟩ : ∃ w4, w4 = wr := ⟨_, rfl⟩
    subst hw4
    by_cases hlt : t < p.length
    · obtain ⟨tv, j1, j2, j3, j4⟩ := HT.out
      have HXS : Hid (((List.range (t + 1)).map fun j => V (turnF p.length d j)) = ((List.range t).map fun j => V (turnF p.length d j)) ++ [V (turnF p.length d t)]) := by
        unfold Hid; rw [List.range_succ, List.map_append]; rfl
      have hx := R.lt t hlt
      have hcv := (HV.out _ hx).1
      have hpgl := World.block_lt_of_cell? _ _ hcv
      simp only at hpgl
      obtain ⟨la, ln, lc, hVf⟩ : ∃ la ln lc, V (turnF p.length d t) = .slice la ln lc := by
        obtain ⟨_, la, lc, e, _⟩ := HV.out _ hx
        exact ⟨la, _, lc, e⟩
      have hm := tmod_turn (n := p.length) (d := d) (t := t)
      generalize ((List.range t).map fun j => V (turnF p.length d j)) = xs at *
      generalize turnF p.length d t = x at *
      obtain ⟨t1, t2, t3, rfl⟩ := owns_form j2
      have et := owns_lenq j2
      subst et
      have c1 : w4.cell? ⟨w1.heap.size, 0, none⟩ = some (.slice (some ⟨pg, po, none⟩) p.length pcap) := pres_grown j3 _ _ hpb
      have c2 : w4.cell? ⟨pg, po + x, none⟩ = some (.slice la ln lc) := by rw [← hVf]; exact pres_grown j3 _ _ (pres_grown HG13.out _ _ hcv)
      have cq : w4.cell? ⟨w3.heap.size, 0, none⟩ = some (.slice t1 t2 t3) := by simp [World.cell?, j1]
      have cqf : w4.frozen? ⟨w3.heap.size, 0, none⟩ = false := by simp [World.frozen?, j1]
      rw [hVf] at HXS
      have J1 := hide j1
      have J2 := hide j2
      have J3 := hide j3
      clear j1 j2 j3 hcv hVf
      have q0 : (0 : Int) ≤ (t2 : Int) := by omega
      have q1 : (t2 : Int) < p.length := by omega
      have q2 : (0 : Int) ≤ (x : Int) := by omega
      have q3 : (x : Int) < p.length := by omega
      have q4 : (p.length : Int) ≠ 0 := by omega
      have q5 : (d : Int) < 4 := by omega
      have q6 : (p.length : Int) ≤ 4 := by omega
      have q7 : (0 : Int) ≤ (d : Int) := by omega
      have q8 : p ≠ [] := fun e => by rw [e] at q4; simp at q4
      have q9 : IntKind.i64.wrap ((t2 : Int) + (d : Int)) = (t2 : Int) + (d : Int) := wrap_small (by omega) (by omega)
      go_wp2_with fail
      refine wp_region_head (fun u => u.cell? ⟨w3.heap.size, 0, none⟩ = some (.slice t1 t2 t3) ∧ u.cell? ⟨w1.heap.size, 0, none⟩ = some (.slice (some ⟨pg, po, none⟩) p.length pcap) ∧ u.cell? ⟨pg, po + x, none⟩ = some (.slice la ln lc)) 14 (by kernel_rfl) (by kernel_rfl) ?_ ?_
      · refine ⟨?_, ?_, ?_⟩ <;> simp [go_sem, c1, c2, cq]
      intro hHeld
      refine wpHead_take (i := 0) (v := ?vv0) rfl (by kernel_rfl) (fun _ _ _ h => h) (Or.inl ⟨by rfl, ?hy0⟩) (by assumption) ?rest0
      case hy0 => (intro u hu; obtain ⟨g1, g2, g3⟩ := hu; go_simp; try with_reducible rfl)
      simp only [Act.put, List.setIfInBounds_toArray]
      refine wpHead_take (i := 1) (v := ?vv1) rfl (by kernel_rfl) (fun _ _ _ h => h) (Or.inl ⟨by rfl, ?hy1⟩) (by assumption) ?rest1
      case hy1 => (intro u hu; obtain ⟨g1, g2, g3⟩ := hu; go_simp; try with_reducible rfl)
      simp only [Act.put]
      refine wpHead_take (i := 2) (v := ?vv2) rfl (by kernel_rfl) (fun _ _ _ h => h) (Or.inl ⟨by rfl, ?hy2⟩) (by assumption) ?rest2
      case hy2 => (intro u hu; obtain ⟨g1, g2, g3⟩ := hu; go_simp; try with_reducible rfl)
      simp only [Act.put]
      refine wpHead_take (i := 3) (v := ?vv3) rfl (by kernel_rfl) (fun _ _ _ h => h) (Or.inl ⟨by rfl, ?hy3⟩) (by assumption) ?rest3
      case hy3 => (intro u hu; obtain ⟨g1, g2, g3⟩ := hu; go_simp; try with_reducible rfl)
      simp only [Act.put]
      refine wpHead_take (i := 4) (v := ?vv4) rfl (by kernel_rfl) (fun _ _ _ h => h) (Or.inl ⟨by rfl, ?hy4⟩) (by assumption) ?rest4
      case hy4 => (intro u hu; obtain ⟨g1, g2, g3⟩ := hu; go_simp; try with_reducible rfl)
      simp only [Act.put]
      refine wpHead_take (i := 5) (v := ?vv5) rfl (by kernel_rfl) (fun _ _ _ h => h) (Or.inl ⟨by rfl, ?hy5⟩) (by assumption) ?rest5
      case hy5 => (intro u hu; obtain ⟨g1, g2, g3⟩ := hu; go_simp; try with_reducible rfl)
      simp only [Act.put]
      refine wpHead_take (i := 6) (v := ?vv6) rfl (by kernel_rfl) (fun _ _ _ h => h) (Or.inl ⟨by rfl, ?hy6⟩) (by assumption) ?rest6
      case hy6 => (intro u hu; obtain ⟨g1, g2, g3⟩ := hu; go_simp; try with_reducible rfl)
      simp only [Act.put]
      refine wpHead_take (i := 7) (v := ?vv7) rfl (by kernel_rfl) (fun _ _ _ h => h) (Or.inl ⟨by rfl, ?hy7⟩) (by assumption) ?rest7
      case hy7 => (intro u hu; obtain ⟨g1, g2, g3⟩ := hu; go_simp; try with_reducible rfl)
      simp only [Act.put]
      refine wpHead_take (i := 8) (v := ?vv8) rfl (by kernel_rfl) (fun _ _ _ h => h) (Or.inl ⟨by rfl, ?hy8⟩) (by assumption) ?rest8
      case hy8 => (intro u hu; obtain ⟨g1, g2, g3⟩ := hu; go_simp; try with_reducible rfl)
      simp only [Act.put]
      refine wpHead_take (i := 9) (v := ?vv9) rfl (by kernel_rfl) (fun _ _ _ h => h) (Or.inl ⟨by rfl, ?hy9⟩) (by assumption) ?rest9
      case hy9 => (intro u hu; obtain ⟨g1, g2, g3⟩ := hu; go_simp; try with_reducible rfl)
      simp only [Act.put]
      refine wpHead_take (i := 10) (v := ?vv10) rfl (by kernel_rfl) (fun _ _ _ h => h) (Or.inl ⟨by rfl, ?hy10⟩) (by assumption) ?rest10
      case hy10 => (intro u hu; obtain ⟨g1, g2, g3⟩ := hu; go_simp; try with_reducible rfl)
      simp only [Act.put]
      refine wpHead_alone (i := 11) rfl (by kernel_rfl) (by kernel_rfl) (by rfl) ?_
      intro K15 hK15
      have HK15 := hide hK15
      clear hK15
      go_simp
      have hgA : w4.grownBy ((w4.alloc (.cells #[.slice la ln lc] 29)).drew) none := grown_drew (grown_alloc (grown_refl _ _))
      have hS5 : (w4.alloc (.cells #[.slice la ln lc] 29)).drew.cell? ⟨w3.heap.size, 0, none⟩ = some (.slice t1 t2 t3) ∧ (w4.alloc (.cells #[.slice la ln lc] 29)).drew.cell? ⟨w1.heap.size, 0, none⟩ = some (.slice (some ⟨pg, po, none⟩) p.length pcap) ∧ (w4.alloc (.cells #[.slice la ln lc] 29)).drew.cell? ⟨pg, po + x, none⟩ = some (.slice la ln lc) :=
        ⟨pres_grown hgA _ _ cq, pres_grown hgA _ _ c1, pres_grown hgA _ _ c2⟩
      refine HK15.out _ _ hS5 ?_
      clear HK15
      have HGA := hide hgA
      clear hgA
      have h63 : t2 + 1 ≤ maxLen := by unfold maxLen; omega
      have hby : (t2 + 1) * 24 ≤ 140737488355328 := by omega
      refine wpHead_alone (i := 12) rfl (by kernel_rfl) (by kernel_rfl) (by rfl) ?_
      intro K16 hK16
      have HK16 := hide hK16
      clear hK16
      refine wp_append_lies _ (.tmp 44) (.tmp 54) 23 (by rfl) (w3.heap.size + 1) 29 i1 _ 1 24 Tryd.underlying23 hi1 hy0 hy1 hy2 rfl (by omega) (.slice t1 t2 t3) t2 xs (by rfl) (owns_grown J2.out HGA.out (fun _ e => by cases e)) ⟨w4.heap.size, 0, none⟩ 1 1 [.slice la ln lc] (by rfl) (by rfl) (World.news_of_block (cs := #[.slice la ln lc]) (t := 29) (fr := (0, 0)) (heap_alloc_new w4 _)) (by simp [Value.oneCell']) (by omega) h63 hby (by simp; omega) (w4.heap.size + 1) (by simp) ?_
      intro g2 cap2 w5 hown5 hgrow hat hlt5
      have hob : ∀ q, (Value.slice t1 t2 t3).ownBlock = some q → w3.heap.size + 1 ≤ q := fun q e => owns_block J2.out q e
      have hS6 : w5.cell? ⟨w3.heap.size, 0, none⟩ = some (.slice t1 t2 t3) ∧ w5.cell? ⟨w1.heap.size, 0, none⟩ = some (.slice (some ⟨pg, po, none⟩) p.length pcap) ∧ w5.cell? ⟨pg, po + x, none⟩ = some (.slice la ln lc) := by
        obtain ⟨z1, z2, z3⟩ := hS5
        refine ⟨?_, ?_, ?_⟩
        · rw [hgrow.cell_far _ (World.block_lt_of_cell? _ _ z1) (fun e => by have := hob _ e.symm; simp only at this; omega)]; exact z1
        · rw [hgrow.cell_far _ (World.block_lt_of_cell? _ _ z2) (fun e => by have := hob _ e.symm; simp only at this; omega)]; exact z2
        · rw [hgrow.cell_far _ (World.block_lt_of_cell? _ _ z3) (fun e => by have := hob _ e.symm; simp only at this; omega)]; exact z3
      have hsz5 : w4.heap.size + 1 ≤ w5.heap.size := by have := hgrow.size; simpa using this
      have HB5 : Hid (w5.heap[w3.heap.size]? = some (.cells #[.slice t1 t2 t3] 25 (0, 0))) := by
        unfold Hid
        rw [hgrow.block _ (by have := HGA.out.size; omega) (fun e => by have := hob _ e.symm; omega), HGA.out.block _ (by omega) (by simp)]
        exact J1.out
      have HOW5 := hide hown5
      have HGR := hide hgrow
      clear hown5 hgrow hat
      refine HK16.out _ _ hS6 ?_
      clear HK16
      simp only [Act.put, List.setIfInBounds_toArray]
      refine wpHead_take (i := 13) (v := ?vv13) rfl (by kernel_rfl) (fun _ _ _ h => h) (Or.inl ⟨by rfl, ?hy13⟩) (by assumption) ?rest13
      case hy13 => (intro u hu; obtain ⟨g1, g2, g3⟩ := hu; go_simp; try with_reducible rfl)
      simp only [Act.put]
      refine wpHead_last rfl (by kernel_rfl) (by kernel_rfl) (by rfl) ?_
      obtain ⟨s1, _, _⟩ := hS6
      have s2f : w5.frozen? ⟨w3.heap.size, 0, none⟩ = false := by
        simp [World.frozen?, HB5.out]
      have HNX : Hid (TurnAt w3 V p.length d (t2 + 1) (w5.setCell ⟨w3.heap.size, 0, none⟩ (.slice (some ⟨g2, 0, none⟩) (t2 + 1) cap2))) := by
        refine ⟨.slice (some ⟨g2, 0, none⟩) (t2 + 1) cap2, ?_, ?_, grown_setNew (grown_row (grown_trans J3.out HGA.out) HGR.out (fun q e => by have := hob q e; omega)) (by omega), by simp; omega⟩
        · have := heap_setCell_same w5 w3.heap.size 0 _ _ (.slice (some ⟨g2, 0, none⟩) (t2 + 1) cap2) HB5.out
          simpa using this
        · rw [HXS.out]
          exact ownsRow_setCell_below HOW5.out (by simp) _
      clear J1 J2 J3 HOW5 HGR HGA HB5 HXS
      go_simp
      go_wp2
      go_roundw
      case rel => exact ⟨t2 + 1, by omega, by go_num, HNX⟩
      case measure => simp [intOf]; omega
    · have et : t = p.length := by omega
      have q1 : (p.length : Int) ≤ (t : Int) := by omega
      obtain ⟨tv, j1, j2, j3, j4⟩ := HT.out
      obtain ⟨t1, t2, t3, rfl⟩ := owns_form j2
      have et2 := (owns_lenq j2).trans et
      subst et2
      have HPQ : Hid (ProgAt w4 (.agg #[.slice t1 p.length t3]) (turnP p d)) := by
        rw [et] at j2
        have hl : (turnP p d).length = p.length := by simp [turnP]
        refine ⟨t1, t3, by rw [hl], fun k hk => ?_⟩
        rw [hl] at hk
        obtain ⟨g, cap, e, _, _⟩ := j2.form (by omega)
        simp at e
        obtain ⟨rfl, rfl⟩ := e
        refine ⟨g, 0, rfl, V (turnF p.length d k), ?_, ?_⟩
        · rw [Nat.zero_add, j2.cellAt k (by omega)]
          simp [hk]
        · have := ((HV.out _ (R.lt k hk)).2).pres (pres_grown (grown_trans HG13.out j3))
          simpa [turnP] using this
      have cq : w4.cell? ⟨w3.heap.size, 0, none⟩ = some (.slice t1 p.length t3) := by simp [World.cell?, j1]
      have HG34 := hide j3
      clear j1 j2 j3 HT et
      have HRN := hide (sched_range HSD.out)
      have HR4 : Hid (w4.ownsRow (w1.heap.size + 1) 3 1 (.slice s1 a.length s3) a.length (ints a)) := by
        have h := owns_grown HRow.out (grown_trans HG23.out HG34.out) (fun _ e => by cases e)
        unfold Hid
        simpa using h
      have hs14 : w1.heap.size + 1 ≤ w4.heap.size := by omega
      go_wp2_with fail
      go_loopw [15, 16] (fun lv i w' => ∃ k : Nat, k ≤ a.length ∧ i = .int .i64 k ∧ Hid (w'.ownsRow w4.heap.size 3 1 lv k (ints ((a.take k).map fun x => (turnG p.length d x.toNat : Int))) ∧ w4.grownBy w' none)) (fun _ i _ => a.length - (intOf i).toNat)
      case atStart => exact ⟨0, Nat.zero_le _, rfl, ⟨rfl, Or.inl ⟨rfl, rfl⟩⟩, grown_refl _ _⟩
      case round =>
        obtain ⟨k, hk, rfl, HL⟩ := hrel
        obtain ⟨w5, hw5⟩ : ∃ w5, w5 = wr := ⟨_, rfl⟩
        subst hw5
        by_cases hkl : k < a.length
        · obtain ⟨l1, l2⟩ := HL.out
          obtain ⟨g3, e1, _, c3⟩ := int_cell' HR4.out rfl hkl
          subst e1
          have d3 : w5.cell? ⟨g3, k, none⟩ = some (.int .i64 a[k]) := pres_grown l2 _ _ c3
          obtain ⟨r0, r1⟩ := HRN.out a[k] (List.getElem_mem hkl)
          have HXS : Hid (ints ((a.take (k + 1)).map fun x => (turnG p.length d x.toNat : Int)) = ints ((a.take k).map fun x => (turnG p.length d x.toNat : Int)) ++ [.int .i64 (turnG p.length d a[k].toNat : Int)]) := by
            unfold Hid ints; rw [List.take_succ_eq_append_getElem hkl, List.map_append, List.map_append]; rfl
          have hm := tmod_turnG (n := p.length) (d := d) (x := a[k].toNat) (by omega)
          obtain ⟨y, hy⟩ := Int.eq_ofNat_of_zero_le r0
          rw [hy] at d3 hm HXS r1
          simp only [Int.toNat_natCast] at hm HXS
          clear c3 hy r0
          generalize turnG p.length d y = z at *
          have q2 : (0 : Int) ≤ (k : Int) := by omega
          have q3 : (k : Int) < a.length := by omega
          have q4 : (p.length : Int) ≠ 0 := by omega
          have q5 : (d : Int) < p.length := by omega
          have q6 : (p.length : Int) ≤ 4 := by omega
          have q7 : (0 : Int) ≤ (d : Int) := by omega
          have q8 : p ≠ [] := fun e => by rw [e] at q4; simp at q4
          have h63 : k + 1 ≤ maxLen := by unfold maxLen; omega
          have hob := owns_block l1
          have L1 := hide l1
          have L2 := hide l2
          clear l1 l2
          go_wp2_with (at_builtin; refine wpList_append_lies _ rfl _ _ _ rfl w4.heap.size 3 i0 _ 1 8 Tryd.underlying22 hi0 hz0 hz1 hz2 rfl (by omega) u15 k (ints ((a.take k).map fun x => (turnG p.length d x.toNat : Int))) rfl (owns_alloc L1.out) ⟨w5.heap.size, 0, none⟩ 1 1 [.int .i64 z] rfl rfl (World.news_of_block (cs := #[.int .i64 z]) (t := 3) (fr := (0, 0)) (heap_alloc_new w5 _)) (by simp [Value.oneCell']) (by omega) h63 (by omega) (by simp; have := L2.out.size; omega) (w5.heap.size + 1) (by simp) ?_; intro g6 cap6 w6 hown6 hgrow hat hlt6)
          have HNX : Hid (w6.ownsRow w4.heap.size 3 1 (.slice (some ⟨g6, 0, none⟩) (k + 1) cap6) (k + 1) (ints ((a.take (k + 1)).map fun x => (turnG p.length d x.toNat : Int))) ∧ w4.grownBy w6 none) := by
            refine ⟨?_, grown_row (grown_alloc L2.out) hgrow (fun q e => hob q e)⟩
            rw [HXS.out]; exact hown6
          clear hown6 hgrow hat
          go_wp2
          go_roundw
          case rel => exact ⟨k + 1, by omega, by go_num, HNX⟩
          case measure => simp [intOf]; omega
        · have ek : k = a.length := by omega
          have q2 : (a.length : Int) ≤ (k : Int) := by omega
          obtain ⟨l1, l2⟩ := HL.out
          rw [ek, List.take_length] at l1
          obtain ⟨m1, m2, m3, rfl⟩ := owns_form l1
          have em := owns_lenq l1
          subst em
          have hll : (a.map fun x => (turnG p.length d x.toNat : Int)).length = a.length := by simp
          have HIL : Hid (IntsAt w5.heap.size w5 (.slice m1 a.length m3) (a.map fun x => (turnG p.length d x.toNat : Int))) := by
            apply owns_ints (base := w4.heap.size)
            rw [hll]; exact l1
          have HRP := hide (replay_m (turnP p d) (a.map fun x => (turnG p.length d x.toNat : Int)) (.agg #[.slice t1 p.length t3]) (.slice m1 a.length m3) w5 (HSh.out.pres (pres_grown (grown_trans (grown_trans (grown_trans HG2.out HG23.out) HG34.out) l2))) (HPQ.out.pres (pres_grown l2)) HIL.out)
          have HSR := hide (run_ren R (turnP_moved p d) HSD.out)
          have hb5 : (a.map fun x => (turnG p.length d x.toNat : Int)).length ≤ 500 := by omega
          have cq5 : w5.cell? ⟨w3.heap.size, 0, none⟩ = some (.slice t1 p.length t3) := pres_grown l2 _ _ cq
          have HG25 : Hid (w2.grownBy w5 none) := grown_trans (grown_trans HG23.out HG34.out) l2
          have HRB5 : Hid (w5.heap[w2.heap.size]? = some (.cells (resCells (runS p a) (.slice x1 a.length x3) (.slice y1 p.length y3)) 37 (0, 0))) := by
            unfold Hid; rw [(grown_trans HG34.out l2).block _ hsz3 (by simp)]; exact HRB.out
          have hs5 : w2.heap.size < w5.heap.size := (Array.getElem?_eq_some_iff.1 HRB5.out).1
          clear l1 l2 ek HL cq HIL HR4 HRN HRow
          go_wp2_with fail
          refine HRP.out.mono ?_
          clear HRP
          rintro e w6 ⟨hg6, h⟩
          rcases h with ⟨_, rv6, rfl, sy, gy, rfl, ho6, hp6⟩ | ⟨h, _⟩
          case inr => exact absurd (checkRun_ok (turnP_valid HVP.out hd2) hb5) h
          obtain ⟨u1, u2, u3, rfl⟩ := owns_form ho6
          have hu2 := (owns_lenq ho6).trans (HSR.out.len.trans HSD.out.2)
          subst hu2
          obtain ⟨v1, v2, v3, rfl⟩ := owns_form hp6
          have htl : (turnP p d).length = p.length := by simp [turnP]
          rw [htl] at hp6
          have hv2 := owns_lenq hp6
          subst hv2
          have hr6 : w6.heap[w2.heap.size]? = some (.cells (resCells (runS p a) (.slice x1 a.length x3) (.slice y1 p.length y3)) 37 (0, 0)) := by
            rw [hg6.block _ hs5 (by simp)]; exact HRB5.out
          have HQ2 : Hid (w6.ownsRow (w1.heap.size + 1) 34 4 (.slice y1 p.length y3) p.length (regsF p.length (runS p a).st)) := by
            have h := owns_grown HO2.out (grown_trans HG25.out hg6) (fun _ e => by cases e)
            unfold Hid
            simpa using h
          have HQ6 := hide hp6
          have HEND : Hid (w.grownBy w6 none) := grown_trans (grown_trans HG2.out HG25.out) hg6
          clear ho6 hp6 hg6 cq5
          generalize runS (turnP p d) (a.map fun x => (turnG p.length d x.toNat : Int)) = o' at *
          generalize runS p a = o at *
          obtain ⟨n0, n1, n2, n3, n4, n5, n6, n7, n8, _⟩ := nine_cells hr6
          rw [← HSR.out.kind] at n0
          rw [← HSR.out.at_] at n2
          rw [← HSR.out.st.vars] at n4 n5 n6 n7
          have hs26 : w2.heap.size < w6.heap.size := (Array.getElem?_eq_some_iff.1 hr6).1
          have hne : w2.heap.size ≠ w6.heap.size := by omega
          have q4 : (p.length : Int) ≠ 0 := by omega
          have q5 : (d : Int) < p.length := by omega
          have q6 : (p.length : Int) ≤ 4 := by omega
          have q7 : (0 : Int) ≤ (d : Int) := by omega
          have q8 : p ≠ [] := fun e => by rw [e] at q4; simp at q4
          go_upto_region 20 with fail
          generalize hwx : w6.alloc (Obj.cells #[Value.int IntKind.i64 o'.kind, Value.int IntKind.i64 o'.thread, Value.int IntKind.i64 o'.at_, Value.slice u1 a.length u3, Value.int IntKind.i64 (o'.st.vars 0), Value.int IntKind.i64 (o'.st.vars 1), Value.int IntKind.i64 (o'.st.vars 2), Value.int IntKind.i64 (o'.st.vars 3), Value.slice v1 p.length v3] 37) = wx
          have HG6x : Hid (w6.grownBy wx none) := by unfold Hid; rw [← hwx]; exact grown_alloc (grown_refl _ _)
          have hxb : wx.heap[w6.heap.size]? = some (.cells (resCells o' (.slice u1 a.length u3) (.slice v1 p.length v3)) 37 (0, 0)) := by rw [← hwx]; exact heap_alloc_new w6 _
          clear hwx
          obtain ⟨b0, b1, b2, b3, b4, b5, b6, b7, b8, _⟩ := nine_cells hxb
          have m0 := pres_grown HG6x.out _ _ n0
          have m1 := pres_grown HG6x.out _ _ n1
          have m8 := pres_grown HG6x.out _ _ n8
          clear n0 n1 n2 n3 n4 n5 n6 n7 n8 hr6 hxb b0 b2 b3 b4 b5 b6 b7 q2 hb5
          have B8 := hide b8
          have M8 := hide m8
          clear b8 m8
          go_cut [136] (fun b w' => b = .bool false ∧ Hid (Like w' wx))
          case first =>
            by_cases hk1 : o'.kind = 1
            · obtain ⟨r0, r1, r2⟩ := HSR.out.thread (by rw [← HSR.out.kind]; exact hk1)
              have hm := tmod_turnG (n := p.length) (d := d) (x := o.thread.toNat) (by omega)
              obtain ⟨y, hy⟩ := Int.eq_ofNat_of_zero_le r0
              rw [hy] at m1 hm r1 r2
              simp only [Int.toNat_natCast] at hm r2
              rw [r2] at b1
              rw [hk1] at m0
              clear hy r0 r2
              generalize turnG p.length d y = z at *
              go_quiet (fail)
              go_wp2
              go_meet
              exact ⟨rfl, rfl, rfl, rfl, rfl⟩
            · have hk1' : (o'.kind == 1) = false := by simpa using hk1
              go_quiet (fail)
              go_wp2
              go_meet
              exact ⟨rfl, rfl, rfl, rfl, rfl⟩
          case rest =>
          obtain ⟨rfl, HLx⟩ := hcut
          clear m0 m1 b1
          go_wp2_with fail
          go_loopw [19] (fun i w' => ∃ t : Nat, t ≤ p.length ∧ i = .int .i64 t ∧ Hid (Like w' wx)) (fun i _ => p.length - (intOf i).toNat)
          case atStart => exact ⟨0, Nat.zero_le _, rfl, HLx.out⟩
          case round =>
            obtain ⟨j, hj, rfl, HL⟩ := hrel
            have cL : ∀ x, wr.cell? x = wx.cell? x := fun x => by simp [World.cell?, HL.out.1]
            by_cases hjl : j < p.length
            · obtain ⟨g1, e1, a0, a1, a2, a3⟩ := regs_cells HQ6.out hjl
              obtain ⟨g2, e2, c0, c1, c2, c3⟩ := regs_cells HQ2.out (R.lt j hjl)
              subst e1 e2
              rw [HSR.out.st.regs j hjl] at a0 a1 a2 a3
              have hm := tmod_turn (n := p.length) (d := d) (t := j)
              have hx := R.lt j hjl
              generalize turnF p.length d j = x at *
              have f1 : wr.cell? ⟨w6.heap.size, 8, none⟩ = some (.slice (some ⟨g1, 0, none⟩) p.length v3) := by rw [cL]; exact B8.out
              have f2 : wr.cell? ⟨w2.heap.size, 8, none⟩ = some (.slice (some ⟨g2, 0, none⟩) p.length y3) := by rw [cL]; exact M8.out
              have a0' : wr.cell? ⟨g1, j * 4, none⟩ = some (.int .i64 (o.st.regs x 0)) := by rw [cL]; exact pres_grown HG6x.out _ _ a0
              have a1' : wr.cell? ⟨g1, j * 4 + 1, none⟩ = some (.int .i64 (o.st.regs x 1)) := by rw [cL]; exact pres_grown HG6x.out _ _ a1
              have a2' : wr.cell? ⟨g1, j * 4 + 2, none⟩ = some (.int .i64 (o.st.regs x 2)) := by rw [cL]; exact pres_grown HG6x.out _ _ a2
              have a3' : wr.cell? ⟨g1, j * 4 + 3, none⟩ = some (.int .i64 (o.st.regs x 3)) := by rw [cL]; exact pres_grown HG6x.out _ _ a3
              have c0' : wr.cell? ⟨g2, x * 4, none⟩ = some (.int .i64 (o.st.regs x 0)) := by rw [cL]; exact pres_grown HG6x.out _ _ c0
              have c1' : wr.cell? ⟨g2, x * 4 + 1, none⟩ = some (.int .i64 (o.st.regs x 1)) := by rw [cL]; exact pres_grown HG6x.out _ _ c1
              have c2' : wr.cell? ⟨g2, x * 4 + 2, none⟩ = some (.int .i64 (o.st.regs x 2)) := by rw [cL]; exact pres_grown HG6x.out _ _ c2
              have c3' : wr.cell? ⟨g2, x * 4 + 3, none⟩ = some (.int .i64 (o.st.regs x 3)) := by rw [cL]; exact pres_grown HG6x.out _ _ c3
              generalize o.st.regs x 0 = z0 at *
              generalize o.st.regs x 1 = z1 at *
              generalize o.st.regs x 2 = z2 at *
              generalize o.st.regs x 3 = z3 at *
              clear cL a0 a1 a2 a3 c0 c1 c2 c3
              have k0 : (0 : Int) ≤ (j : Int) := by omega
              have k1 : (j : Int) < p.length := by omega
              have k2 : (0 : Int) ≤ (x : Int) := by omega
              have k3 : (x : Int) < p.length := by omega
              go_wp2_with fail
              go_quiet (fail)
              go_wp2
              go_roundw
              case rel => exact ⟨j + 1, by omega, by go_num, HL.out⟩
              case measure => simp [intOf]; omega
            · have k1 : (p.length : Int) ≤ (j : Int) := by omega
              go_wp2_with fail
              go_ret
              exact ⟨rfl, grown_like (grown_trans HEND.out HG6x.out) HL.out⟩

end Go.Proofs.YtklenjmfalljgaaDoor

/- The walk of held, of two results that hold the same. -/
namespace Go.Proofs.YtklenjmfalljgaaDoor
open Go.RowKit
attribute [local go_sem] Go.World.cell?_alloc_some run_eq4

set_option maxHeartbeats 4000000 in
set_option maxRecDepth 100000 in
theorem held_m {n : Nat} (hn : n ≤ 4) (o o' : Out) (hk : o'.kind = o.kind) (ht : o'.thread = o.thread) (ha : o'.at_ = o.at_) (hst : o'.st = o.st) (w : World) (base base' : Nat) (sl : Nat) (s1 s1' g1 g1' : Option Addr) (s3 s3' g3 g3' : Nat)
    (hr : w.ownsRow base 34 4 (.slice g1 n g3) n (regsF n o.st)) (hr' : w.ownsRow base' 34 4 (.slice g1' n g3') n (regsF n o'.st)) :
    Calls Tryd.prog 33 #[.agg (resCells o (.slice s1 sl s3) (.slice g1 n g3)), .agg (resCells o' (.slice s1' sl s3') (.slice g1' n g3'))] w fun e w' => e = .returned (.bool true) ∧ w.grownBy w' none := by
  have HR := hide hr
  have HR' := hide hr'
  unfold resCells
  rw [hk, ht, ha, hst]
  rw [hst] at HR'
  have hn' : (n : Int) ≤ 4 := by omega
  clear hr hr' hk ht ha hst
  go_enter Tryd.func33, Tryd.ntmps33
  go_wp2_with fail
  have HA : Hid (∀ x y, w.grownBy ((w.alloc x).alloc y) none) := fun x y => grown_alloc (grown_alloc (grown_refl _ _))
  have hX : ∀ x y : Obj, ((w.alloc x).alloc y).heap[w.heap.size]? = some x := fun x y => by rw [Below.heap_alloc _ _ _ (by simp)]; exact heap_alloc_new _ _
  have hY : ∀ x y : Obj, ((w.alloc x).alloc y).heap[w.heap.size + 1]? = some y := fun x y => by have := heap_alloc_new (w.alloc x) y; simpa using this
  have HX := hide (hX (.cells #[.int .i64 o.kind, .int .i64 o.thread, .int .i64 o.at_, .slice s1 sl s3, .int .i64 (o.st.vars 0), .int .i64 (o.st.vars 1), .int .i64 (o.st.vars 2), .int .i64 (o.st.vars 3), .slice g1 n g3] 37) (.cells #[.int .i64 o.kind, .int .i64 o.thread, .int .i64 o.at_, .slice s1' sl s3', .int .i64 (o.st.vars 0), .int .i64 (o.st.vars 1), .int .i64 (o.st.vars 2), .int .i64 (o.st.vars 3), .slice g1' n g3'] 37))
  have HY := hide (hY (.cells #[.int .i64 o.kind, .int .i64 o.thread, .int .i64 o.at_, .slice s1 sl s3, .int .i64 (o.st.vars 0), .int .i64 (o.st.vars 1), .int .i64 (o.st.vars 2), .int .i64 (o.st.vars 3), .slice g1 n g3] 37) (.cells #[.int .i64 o.kind, .int .i64 o.thread, .int .i64 o.at_, .slice s1' sl s3', .int .i64 (o.st.vars 0), .int .i64 (o.st.vars 1), .int .i64 (o.st.vars 2), .int .i64 (o.st.vars 3), .slice g1' n g3'] 37))
  have HG2 := hide (HA.out (.cells #[.int .i64 o.kind, .int .i64 o.thread, .int .i64 o.at_, .slice s1 sl s3, .int .i64 (o.st.vars 0), .int .i64 (o.st.vars 1), .int .i64 (o.st.vars 2), .int .i64 (o.st.vars 3), .slice g1 n g3] 37) (.cells #[.int .i64 o.kind, .int .i64 o.thread, .int .i64 o.at_, .slice s1' sl s3', .int .i64 (o.st.vars 0), .int .i64 (o.st.vars 1), .int .i64 (o.st.vars 2), .int .i64 (o.st.vars 3), .slice g1' n g3'] 37))
  clear hX hY HA
  generalize (w.alloc (.cells #[.int .i64 o.kind, .int .i64 o.thread, .int .i64 o.at_, .slice s1 sl s3, .int .i64 (o.st.vars 0), .int .i64 (o.st.vars 1), .int .i64 (o.st.vars 2), .int .i64 (o.st.vars 3), .slice g1 n g3] 37)).alloc (.cells #[.int .i64 o.kind, .int .i64 o.thread, .int .i64 o.at_, .slice s1' sl s3', .int .i64 (o.st.vars 0), .int .i64 (o.st.vars 1), .int .i64 (o.st.vars 2), .int .i64 (o.st.vars 3), .slice g1' n g3'] 37) = w2 at *
  go_loopw [5] (fun iv w' => ∃ i : Nat, i ≤ n ∧ iv = .int .i64 i ∧ Hid (Like w' w2)) (fun iv _ => n - (intOf iv).toNat)
  case atStart => exact ⟨0, Nat.zero_le _, rfl, rfl, rfl, rfl, rfl⟩
  case round =>
    obtain ⟨i, hi, rfl, HL⟩ := hrel
    obtain ⟨w5, hw5⟩ : ∃ w5, w5 = wr := ⟨_, rfl⟩
    rw [← hw5] at HL ⊢
    clear hw5
    have cL : ∀ a, w5.cell? a = w2.cell? a := fun a => by simp [World.cell?, HL.out.1]
    have k0 : w5.cell? ⟨w.heap.size, 8, none⟩ = some (.slice g1 n g3) := by rw [cL]; have := HX.out; simp [World.cell?, this]
    have k1 : w5.cell? ⟨w.heap.size + 1, 8, none⟩ = some (.slice g1' n g3') := by rw [cL]; have := HY.out; simp [World.cell?, this]
    by_cases hlt : i < n
    · obtain ⟨ga, rfl, a0, a1, a2, a3⟩ := regs_cells HR.out hlt
      obtain ⟨gb, rfl, b0, b1, b2, b3⟩ := regs_cells HR'.out hlt
      have up : ∀ x v, w.cell? x = some v → w5.cell? x = some v := fun x v h => by rw [cL]; exact pres_grown HG2.out _ _ h
      have a0' := up _ _ a0
      have a1' := up _ _ a1
      have a2' := up _ _ a2
      have a3' := up _ _ a3
      have b0' := up _ _ b0
      have b1' := up _ _ b1
      have b2' := up _ _ b2
      have b3' := up _ _ b3
      have t0 : (0 : Int) ≤ (i : Int) := by omega
      have t1 : (i : Int) < n := by omega
      clear a0 a1 a2 a3 b0 b1 b2 b3 up cL
      go_wp2_with fail
      go_quiet (fail)
      go_wp2_with fail
      go_roundw
      case rel => exact ⟨i + 1, by omega, by go_num, by
        have h := HL.out
        have hd := like_drewN w5
        unfold Hid
        first | exact h | exact ⟨h.1, h.2.1, h.2.2.1, h.2.2.2⟩⟩
      case measure => simp [intOf]; omega
    · have t1 : (n : Int) ≤ (i : Int) := by omega
      clear cL
      go_wp2_with fail
      go_ret
      exact ⟨rfl, grown_trans HG2.out (grown_of_like HL.out)⟩

end Go.Proofs.YtklenjmfalljgaaDoor

/- The walk of Cut. -/
namespace Go.Proofs.YtklenjmfalljgaaDoor
open Go.RowKit
attribute [local go_sem] Go.World.cell?_alloc_some run_eq4

section
variable {P : Program} {w : World} {ops : Array Oper} {rest : List Oper} {o : Oper} {a : Act} {Q : Exit → Act → World → Prop}
/-- append of a slice (nil, empty or not) onto a row of the call's own. -/
theorem wpList_append_any (hgd : o.guard = none) (s x : Operand) (t : TypeId) (ho : o.op = .call { callee := .builtin .append, args := #[s, x], argTypes := #[t, t] })
    (base : Nat) (e : TypeId) (i : TypeInfo) (z : Value) (size bytes : Nat) (ht : P.underlying t = some (.slice e)) (hi : P.info? e = some i) (hz : i.zero = some z) (hsize : i.size = size) (hby : i.bytes = bytes) (hzs : z.cells.size = size) (hsz : 0 < size)
    (v : Value) (n : Nat) (xs : List Value) (hs : a.eval s = v) (hown : w.ownsRow base e size v n xs) (so : Option Addr) (m c : Nat) (news : List Value) (hx : a.eval x = .slice so m c) (hl : news.length = m * size)
    (hso : so = none → m = 0 ∧ c = 0) (hnews : ∀ ad, so = some ad → ∀ j u, news[j]? = some u → w.cell? (ad.add j) = some u) (h1 : ∀ u ∈ news, u.oneCell' = true) (h63 : n + m ≤ maxLen) (hbytes : (n + m) * bytes ≤ 140737488355328) (hbase : base ≤ w.heap.size)
    (h : ∀ ta tn tc w', w'.ownsRow base e size (.slice ta tn tc) (n + m) (xs ++ news) → w.grownBy w' v.ownBlock → wpList P ops Q rest (a.put o.dst (.slice ta tn tc)) w') : wpList P ops Q (o :: rest) a w := by
  refine wpList_plain hgd fun K hK => ?_
  cases so with
  | none =>
    obtain ⟨rfl, rfl⟩ := hso rfl
    have hrun := run_append_owned_none (P := P) w base t o.type e i size ht hi v n xs hown
    have hx0 : news = [] := List.length_eq_zero_iff.1 (by omega)
    obtain ⟨ta, tn, tc, rfl⟩ := owns_form hown
    unfold Oper.wp
    simp [execOp, ho, resolve, invoke, builtin, hs, hx, hrun, Result.andThen]
    exact hK _ _ (h _ _ _ w (by rw [hx0]; simpa using hown) (grown_refl _ _))
  | some ad =>
    obtain ⟨v', w', hrun, h2, h3, h4, h5⟩ := run_append_own_at (P := P) w base t o.type e i z size bytes ht hi hz hsize hby hzs hsz v n xs hown ad m c news hl (hnews ad rfl) h1 h63 hbytes hbase
    obtain ⟨ta, tn, tc, rfl⟩ := owns_form h2
    unfold Oper.wp
    simp [execOp, ho, resolve, invoke, builtin, hs, hx, hrun, Result.andThen]
    exact hK _ _ (h _ _ _ w' h2 h3)
end

theorem flatS_get : ∀ (l : List (Int × Int)) (j : Nat) (hj : j < l.length), (flatS l)[j * 2]? = some (.int .i64 l[j].1) ∧ (flatS l)[j * 2 + 1]? = some (.int .i64 l[j].2)
  | [], j, hj => by simp at hj
  | x :: l, 0, hj => by simp [flatS]
  | x :: l, j + 1, hj => by
    have h := flatS_get l j (by simpa using hj)
    have e : flatS (x :: l) = [.int .i64 x.1, .int .i64 x.2] ++ flatS l := by simp [flatS]
    have e2 : ∀ q, (flatS (x :: l))[(j + 1) * 2 + q]? = (flatS l)[j * 2 + q]? := fun q => by
      rw [e, List.getElem?_append_right (by simp; omega)]
      congr 1
      simp; omega
    refine ⟨?_, ?_⟩
    · have := e2 0; simp only [Nat.add_zero] at this; rw [this]; simpa using h.1
    · rw [e2 1]; simpa using h.2

theorem ints_take {a : List Int} {k j : Nat} {u : Value} (h : (ints (a.take k))[j]? = some u) : (ints a)[j]? = some u := by
  have hj := (List.getElem?_eq_some_iff.1 h).1
  rw [ints_len] at hj
  have hj2 : j < k ∧ j < a.length := by simp at hj; omega
  simp only [ints, List.getElem?_map, List.getElem?_take] at h ⊢
  simpa [hj2.1] using h
theorem ints_drop {a : List Int} {k j : Nat} {u : Value} (h : (ints (a.drop k))[j]? = some u) : (ints a)[k + j]? = some u := by
  simpa [ints, List.getElem?_drop] using h

/-- The cells of a row of steps. -/
theorem step_cells {w : World} {base : Nat} {ao : Option Addr} {n c m : Nat} {l : List (Int × Int)} (h : w.ownsRow base 48 2 (.slice ao n c) m (flatS l)) (hm : m = l.length) {j : Nat} (hj : j < l.length) :
    ∃ g, ao = some ⟨g, 0, none⟩ ∧ g < w.heap.size ∧ w.cell? ⟨g, j * 2, none⟩ = some (.int .i64 l[j].1) ∧ w.cell? ⟨g, j * 2 + 1, none⟩ = some (.int .i64 l[j].2) := by
  obtain ⟨g, cap, e, _, hlt⟩ := h.form (by omega)
  simp at e
  obtain ⟨rfl, rfl, rfl⟩ := e
  have q := flatS_get l j hj
  exact ⟨g, rfl, hlt, by rw [h.cellAt _ (by omega)]; exact q.1, by rw [h.cellAt _ (by omega)]; exact q.2⟩

theorem int_cell {w : World} {base : Nat} {ao : Option Addr} {n c m : Nat} {l : List Int} (h : w.ownsRow base 3 1 (.slice ao n c) m (ints l)) (hm : m = l.length) {j : Nat} (hj : j < l.length) :
    ∃ g, ao = some ⟨g, 0, none⟩ ∧ g < w.heap.size ∧ w.cell? ⟨g, j, none⟩ = some (.int .i64 l[j]) := by
  obtain ⟨g, cap, e, _, hlt⟩ := h.form (by omega)
  simp at e
  obtain ⟨rfl, rfl, rfl⟩ := e
  exact ⟨g, rfl, hlt, by rw [h.cellAt _ (by omega)]; simp [ints, hj]⟩

set_option maxHeartbeats 8000000 in
set_option maxRecDepth 100000 in
theorem cut_m (raw : List (List Int)) (ch : List Int) (at_ wrong : Int) (rawv chv : Value) (w : World) (hS : ShpAt w) (hR : RawAt w rawv raw) (hbR : ∀ t (ht : t < raw.length) k (hk : k < raw[t].length), isInt raw[t][k])
    (hC : IntsAt w.heap.size w chv ch) (hbC : ∀ k (hk : k < ch.length), -9223372036854775808 ≤ ch[k] ∧ ch[k] ≤ 9223372036854775807) (hat : isInt at_) (hwr : isInt wrong) :
    Calls Tryd.prog 5 #[rawv, chv, .int .i64 at_, .int .i64 wrong] w fun e w' => e = .returned (.bool true) ∧ w.grownBy w' none := by
  obtain ⟨i0, hi0, hz0, hz1, hz2⟩ := info_parts info_int
  have HSh := hide hS
  have HC := hide hC
  have HBC := hide hbC
  have HA := hide hat
  have HW := hide hwr
  have HPR := hide (program_m raw rawv w hR hbR)
  have hvp := progN_valid raw
  clear hS hR hbR hC hbC hat hwr
  generalize progN raw = p at *
  have HVP := hide hvp
  have hlen := vProg_len hvp
  clear hvp
  go_enter Tryd.func5, Tryd.ntmps5
  go_wp2_with fail
  refine HPR.out.mono ?_
  clear HPR
  rintro e w1 ⟨tv, rfl, hP, hg1⟩
  have hform := hP.form
  obtain ⟨pao, pcap, htv⟩ := hform
  have htv2 : tv = .slice pao p.length pcap := by simpa using htv
  subst htv2
  have HP1 := hide hP
  have HG1 := hide hg1
  have hs1 := hg1.size
  clear hP hg1 htv
  go_wp2_with fail
  have HSC := hide (schedule_m p ch (.agg #[.slice pao p.length pcap]) chv (w1.alloc (.cells #[.slice pao p.length pcap] 25)) (HSh.out.pres (pres_grown (grown_alloc HG1.out))) HVP.out (HP1.out.pres (pres_grown (grown_alloc (grown_refl _ _)))) ((HC.out.pres (pres_grown (grown_alloc HG1.out))).mono (by simp; omega)) HBC.out)
  refine HSC.out.mono ?_
  clear HSC
  rintro e w2 ⟨sv, rv, a, rfl, hrow, ⟨st, gt, rfl, ho1, ho2⟩, hsd, h200, _, hg2⟩
  have HSD := hide hsd
  have hsz2 : w1.heap.size + 1 ≤ w2.heap.size := by have := hg2.size; simpa using this
  obtain ⟨s1, s2, s3, rfl⟩ := owns_form hrow
  have e2 := owns_lenq hrow
  subst e2
  obtain ⟨x1, x2, x3, rfl⟩ := owns_form ho1
  have e3 := (owns_lenq ho1).trans hsd.2
  subst e3
  obtain ⟨y1, y2, y3, rfl⟩ := owns_form ho2
  have HRow := hide hrow
  have HO1 := hide ho1
  have HPB : Hid (w2.heap[w1.heap.size]? = some (.cells #[.slice pao p.length pcap] 25 (0, 0))) := by
    unfold Hid; rw [hg2.block _ (by simp) (by simp)]; exact heap_alloc_new w1 _
  have HG2 : Hid (w.grownBy w2 none) := grown_trans (grown_alloc HG1.out) hg2
  have HGW : Hid ((w1.alloc (.cells #[.slice pao p.length pcap] 25)).grownBy w2 none) := hg2
  have HII := hide (owns_ints hrow)
  have hcap : a.length ≤ s3 := by
    obtain ⟨ao', cap', e, hc, _⟩ := HII.out
    simp at e; omega
  clear hrow ho1 ho2 hsd hg2
  obtain ⟨k, hk⟩ := Int.eq_ofNat_of_zero_le (pickN_range at_ (a.length + 1) (by omega)).1
  have hk2 : k ≤ a.length := by have := (pickN_range at_ (a.length + 1) (by omega)).2; omega
  have HPK := hide (pick_m at_ (a.length + 1) (by omega) (by omega) HA.out.1 HA.out.2)
  rw [hk] at HPK
  clear hk
  go_wp2_with fail
  refine (HPK.out _).mono ?_
  clear HPK
  rintro e w3 ⟨rfl, rfl⟩
  have q0 : (0 : Int) ≤ (k : Int) := by omega
  have q1 : (k : Int) ≤ a.length := by omega
  have q2 : (a.length : Int) ≤ s3 := by omega
  have q3 : (k : Int) ≤ s3 := by omega
  go_wp2_with fail
  generalize hw3 : w2.alloc (Obj.cells #[Value.int IntKind.i64 (runS p a).kind, Value.int IntKind.i64 (runS p a).thread, Value.int IntKind.i64 (runS p a).at_, Value.slice x1 a.length x3, Value.int IntKind.i64 ((runS p a).st.vars 0), Value.int IntKind.i64 ((runS p a).st.vars 1), Value.int IntKind.i64 ((runS p a).st.vars 2), Value.int IntKind.i64 ((runS p a).st.vars 3), Value.slice y1 y2 y3] 37) = w3
  have hsz3 : w3.heap.size = w2.heap.size + 1 := by rw [← hw3]; simp
  have HG23 : Hid (w2.grownBy w3 none) := by unfold Hid; rw [← hw3]; exact grown_alloc (grown_refl _ _)
  have HRB : Hid (w3.heap[w2.heap.size]? = some (.cells (resCells (runS p a) (.slice x1 a.length x3) (.slice y1 y2 y3)) 37 (0, 0))) := by
    unfold Hid; rw [← hw3]; exact heap_alloc_new w2 _
  have hpb : w3.cell? ⟨w1.heap.size, 0, none⟩ = some (.slice pao p.length pcap) := by
    rw [World.cell?_of_block (HG23.out.block _ (by simp; omega) (by simp))]
    simp [World.cell?, HPB.out]
  clear hw3
  have HSZ3 := hide hsz3
  clear hsz3
  have hsz3 : w2.heap.size < w3.heap.size := by rw [HSZ3.out]; omega
  -- the beginning of s, as it lies
  have HTK : Hid (IntsAt w2.heap.size w2 (.slice s1 k s3) (a.take k)) := by
    obtain ⟨ao', cap', e, hc, h⟩ := HII.out
    simp at e
    obtain ⟨rfl, rfl⟩ := e
    refine ⟨s1, s3, by simp; omega, by simp; omega, fun j hj => ?_⟩
    have hj2 : j < a.length := by simp at hj; omega
    obtain ⟨g, o, e1, e2, e3⟩ := h j hj2
    exact ⟨g, o, e1, e2, by simpa using e3⟩
  have HALL : Hid (∀ u, w3.grownBy u none → Calls Tryd.prog 16 #[.agg #[.slice pao p.length pcap], .slice s1 k s3] u (Replayed p (a.take k) u)) := fun u hu => by
    have hg : w2.grownBy u none := grown_trans HG23.out hu
    exact replay_m p (a.take k) _ _ u (HSh.out.pres (pres_grown (grown_trans HG2.out hg))) (HP1.out.pres (pres_grown (grown_trans (grown_trans (grown_alloc (grown_refl _ _)) (HGW.out)) hg))) ((HTK.out.pres (pres_grown hg)).mono (by have := hg.size; omega))
  have hne31 : w3.heap.size ≠ w1.heap.size := by omega
  have htk : (a.take k).length ≤ 500 := by rw [List.length_take]; omega
  go_cut [14, 15] (fun xb ev w' => ev = .int .i64 0 ∧ ∃ b, xb = .pointer (some ⟨b, 0, none⟩) ∧ Hid (w3.grownBy w' none ∧ w3.heap.size ≤ b ∧ ∃ sx gx, w'.heap[b]? = some (.cells (resCells (runS p (a.take k)) sx gx) 37 (0, 0)) ∧ w'.ownsRow w3.heap.size 48 2 sx (runS p (a.take k)).steps.length (flatS (runS p (a.take k)).steps)))
  case first =>
    go_region_held3 (fun u => u.cell? ⟨w1.heap.size, 0, none⟩ = some (.slice pao p.length pcap)) (go_keep)
      (first
        | (go_at_call 16; refine (HALL.out _ (grown_drew (grown_refl _ _))).mono ?_; rintro e w5 ⟨hg5, h5⟩; rcases h5 with ⟨_, rv5, rfl, sx, gx, rfl, ho5, hp5⟩ | ⟨h5, _⟩; (case inr => exact absurd (checkRun_ok HVP.out htk) h5); have s5 : w5.cell? ⟨w1.heap.size, 0, none⟩ = some (.slice pao p.length pcap) := (pres_grown hg5 _ _ (by simp [go_sem, hpb])); obtain ⟨z1, z2, z3, rfl⟩ := owns_form ho5; obtain ⟨z4, z5, z6, rfl⟩ := owns_form hp5)
        | (go_at_call 16; refine (HALL.out _ (grown_drew (grown_alloc (grown_refl _ _)))).mono ?_; rintro e w5 ⟨hg5, h5⟩; rcases h5 with ⟨_, rv5, rfl, sx, gx, rfl, ho5, hp5⟩ | ⟨h5, _⟩; (case inr => exact absurd (checkRun_ok HVP.out htk) h5); have s5 : w5.cell? ⟨w1.heap.size, 0, none⟩ = some (.slice pao p.length pcap) := (pres_grown hg5 _ _ (by simp [go_sem, hpb])); obtain ⟨z1, z2, z3, rfl⟩ := owns_form ho5; obtain ⟨z4, z5, z6, rfl⟩ := owns_form hp5; have hX : w5.heap[w3.heap.size]? = some (.cells zeroRes 37 (0, 0)) := (by rw [hg5.block _ (by simp) (by simp)]; exact heap_alloc_new w3 _); obtain ⟨m0, m1, m2, m3, m4, m5, m6, m7, m8, mf⟩ := nine_cells hX; have mf0 := mf 0; have mf1 := mf 1; have mf2 := mf 2; have mf3 := mf 3; have mf4 := mf 4; have mf5 := mf 5; have mf6 := mf 6; have mf7 := mf 7; have mf8 := mf 8; clear mf))
    all_goals (try go_wp2_with fail)
    all_goals go_meet
    · exact ⟨rfl, _, rfl, grown_alloc (grown_trans (grown_drew (grown_refl _ _)) hg5), (by have := hg5.size; simpa using this), _, _, heap_alloc_new w5 _, owns_alloc (owns_mono ho5 (by simp))⟩
    · refine ⟨rfl, _, rfl, ?_, Nat.le_refl _, _, _, set9 hX, ?_⟩
      · iterate 9 refine grown_setNew ?_ (by omega)
        exact grown_trans (grown_drew (grown_alloc (grown_refl _ _))) hg5
      · refine owns_mono (base := w3.heap.size + 1) ?_ (by omega)
        iterate 9 refine ownsRow_setCell_below ?_ (by simp) _
        exact owns_mono ho5 (by simp)
  case rest =>
    obtain ⟨rfl, xb, rfl, HX⟩ := hcut
    obtain ⟨hgx, hxb, sx, gx, hxc, hxo⟩ := HX.out
    obtain ⟨z1, kk, z3, rfl⟩ := owns_form hxo
    have ez := owns_lenq hxo
    obtain ⟨hck, hcv⟩ := cut_run HSD.out hk2
    have hlk : (runS p (a.take k)).steps.length = k := by rw [hck]; simp [HSD.out.2]; omega
    rw [hlk] at ez
    subst ez
    obtain ⟨n0, n1, n2, n3, n4, n5, n6, n7, n8, _⟩ := nine_cells hxc
    have hrbc : wc.heap[w2.heap.size]? = some (.cells (resCells (runS p a) (.slice x1 a.length x3) (.slice y1 y2 y3)) 37 (0, 0)) := by
      rw [hgx.block _ (by omega) (by simp)]; exact HRB.out
    obtain ⟨r0, r1, r2, r3, r4, r5, r6, r7, r8, _⟩ := nine_cells hrbc
    have HGX := hide hgx
    have HXO := hide hxo
    have HXC := hide hxc
    have HCK := hide hck
    have HCV := hide hcv
    clear HX hgx hxo hck hcv hrbc hxc HALL
    go_wp2_with fail
    go_loopw [16] (fun i w' => ∃ j : Nat, j ≤ kk ∧ i = .int .i64 j ∧ Hid (Like w' wc)) (fun i _ => kk - (intOf i).toNat)
    case atStart => exact ⟨0, Nat.zero_le _, rfl, rfl, rfl, rfl, rfl⟩
    case round =>
      obtain ⟨j, hj, rfl, HL⟩ := hrel
      have cL : ∀ x, wr.cell? x = wc.cell? x := fun x => by simp [World.cell?, HL.out.1]
      by_cases hlt : j < kk
      · have hjs : j < (runS p a).steps.length := by have := HSD.out.2; omega
        have hj2 : j < (runS p (a.take kk)).steps.length := by omega
        obtain ⟨g1, rfl, _, u1, u2⟩ := step_cells HXO.out rfl hj2
        obtain ⟨g2, rfl, hg2, u3, u4⟩ := step_cells HO1.out rfl hjs
        obtain ⟨g3, rfl, hg3, u5⟩ := int_cell HRow.out rfl (by omega : j < a.length)
        have e1 : (runS p (a.take kk)).steps[j] = (runS p a).steps[j] := by simp [HCK.out]
        have e2 : a[j] = ((runS p a).steps[j]).1 := by
          have h := sched_fst HSD.out
          have h2 : ((runS p a).steps.map (·.1))[j]? = a[j]? := by rw [h]
          rw [List.getElem?_map, List.getElem?_eq_getElem hjs, List.getElem?_eq_getElem (by omega : j < a.length)] at h2
          simpa using h2.symm
        rw [e1] at u1 u2
        rw [e2] at u5
        have hgc : w2.grownBy wc none := grown_trans HG23.out HGX.out
        have t3 := pres_grown hgc _ _ u3
        have t4 := pres_grown hgc _ _ u4
        have t5 := pres_grown hgc _ _ u5
        generalize ((runS p a).steps[j]).1 = T at *
        generalize ((runS p a).steps[j]).2 = A at *
        have q5 : (0 : Int) ≤ (j : Int) := by omega
        have q6 : (j : Int) < kk := by omega
        have q7 : (j : Int) < a.length := by omega
        have v1 : wr.cell? ⟨g1, j * 2, none⟩ = some (.int .i64 T) := by rw [cL]; exact u1
        have v2 : wr.cell? ⟨g1, j * 2 + 1, none⟩ = some (.int .i64 A) := by rw [cL]; exact u2
        have v3 : wr.cell? ⟨g2, j * 2, none⟩ = some (.int .i64 T) := by rw [cL]; exact t3
        have v4 : wr.cell? ⟨g2, j * 2 + 1, none⟩ = some (.int .i64 A) := by rw [cL]; exact t4
        have v5 : wr.cell? ⟨g3, j, none⟩ = some (.int .i64 T) := by rw [cL]; exact t5
        have v6 : wr.cell? ⟨xb, 3, none⟩ = some (.slice (some ⟨g1, 0, none⟩) kk z3) := by rw [cL]; exact n3
        have v7 : wr.cell? ⟨w2.heap.size, 3, none⟩ = some (.slice (some ⟨g2, 0, none⟩) a.length x3) := by rw [cL]; exact r3
        clear e1 e2 u1 u2 u3 u4 u5 t3 t4 t5 hgc cL n0 n1 n2 n3 n4 n5 n6 n7 n8 r0 r1 r2 r3 r4 r5 r6 r7 r8
        go_wp2_with fail
        go_quiet (fail)
        go_wp2
        go_roundw
        case rel => exact ⟨j + 1, by omega, by go_num, HL.out⟩
        case measure => simp [intOf]; omega
      · have ejk : j = kk := by omega
        have q5 : (kk : Int) ≤ (j : Int) := by omega
        clear ejk hj
        obtain ⟨w6, hw6⟩ : ∃ w6, w6 = wr := ⟨_, rfl⟩
        subst hw6
        have m3 : w6.cell? ⟨xb, 3, none⟩ = some (.slice z1 kk z3) := by rw [cL]; exact n3
        have m0 : w6.cell? ⟨xb, 0, none⟩ = some (.int .i64 (runS p (a.take kk)).kind) := by rw [cL]; exact n0
        have m1 : w6.cell? ⟨xb, 1, none⟩ = some (.int .i64 (runS p (a.take kk)).thread) := by rw [cL]; exact n1
        have m2 : w6.cell? ⟨xb, 2, none⟩ = some (.int .i64 (runS p (a.take kk)).at_) := by rw [cL]; exact n2
        have HXC6 : Hid (w6.heap[xb]? = some (.cells (resCells (runS p (a.take kk)) (.slice z1 kk z3) gx) 37 (0, 0))) := by
          unfold Hid; rw [HL.out.1]; exact HXC.out
        have HG26 : Hid (w2.grownBy w6 none) := grown_like (grown_trans HG23.out HGX.out) HL.out
        have hxl : xb < w6.heap.size := (Array.getElem?_eq_some_iff.1 HXC6.out).1
        have hpb6 : w6.cell? ⟨w1.heap.size, 0, none⟩ = some (.slice pao p.length pcap) := by
          rw [cL]; exact pres_grown HGX.out _ _ hpb
        have HR6 : Hid (w6.ownsRow (w1.heap.size + 1) 3 1 (.slice s1 a.length s3) a.length (ints a)) := by
          have h := owns_grown HRow.out HG26.out (fun _ e => by cases e)
          unfold Hid
          simpa using h
        have HN1 : Hid (s1 = none → a.length = 0 ∧ s3 = 0) := fun e => by
          rcases HR6.out.2 with ⟨e1, e2⟩ | ⟨g, c, cur, hv, _⟩
          · simp at e1; exact ⟨e2, e1.2.2⟩
          · rw [e] at hv; simp at hv
        have HN2 : Hid (∀ ad, s1 = some ad → ∃ g, ad = ⟨g, 0, none⟩ ∧ g < w6.heap.size ∧ ∀ j u, (ints a)[j]? = some u → w6.cell? ⟨g, j, none⟩ = some u) := fun ad e => by
          rcases HR6.out.2 with ⟨e1, e2⟩ | ⟨g, c, cur, hv, _, hh, _⟩
          · rw [e] at e1; simp at e1
          · rw [e] at hv
            simp at hv
            obtain ⟨rfl, rfl⟩ := hv
            have hcu := HR6.out
            rw [e] at hcu
            refine ⟨g, rfl, (Array.getElem?_eq_some_iff.1 hh).1, fun j u hu => ?_⟩
            have hjl := (List.getElem?_eq_some_iff.1 hu).1
            rw [ints_len] at hjl
            rw [hcu.cellAt j (by omega)]; exact hu
        clear cL n0 n1 n2 n3 n4 n5 n6 n7 n8 r0 r1 r2 r3 r4 r5 r6 r7 r8 HL hpb
        have HSO : Hid (s1 = none → kk = 0 ∧ s3 = 0) := fun e => by have := HN1.out e; omega
        have HNW : Hid (∀ ad, s1 = some ad → ∀ j u, (ints (a.take kk))[j]? = some u → w6.cell? (ad.add j) = some u) := fun ad e j u hu => by
          obtain ⟨g, rfl, _, h⟩ := HN2.out ad e
          have hadd : (⟨g, 0, none⟩ : Addr).add j = ⟨g, j, none⟩ := by unfold Addr.add; split <;> simp_all
          rw [hadd]; exact h j u (ints_take hu)
        have hilk : (ints (a.take kk)).length = kk * 1 := by rw [ints_len, List.length_take]; omega
        have h63 : 0 + kk ≤ maxLen := by unfold maxLen; omega
        have hpw := pickN_range wrong 1000 (by omega)
        have HPW := hide (pick_m wrong 1000 (by omega) (by omega) HW.out.1 HW.out.2)
        have HM0 := hide m0
        have HM1 := hide m1
        have HM2 := hide m2
        clear m0 m1 m2 m3
        go_upto_region 14 with fail
        go_cut [92] (fun b w' => b = .bool false ∧ w' = w6)
        case first =>
          have m0 := HM0.out
          have m1 := HM1.out
          have m2 := HM2.out
          by_cases hfull : kk < a.length
          · obtain ⟨f1, f2, f3⟩ := HCV.out hfull
            rw [f1] at m0
            rw [f2] at m1
            rw [f3] at m2
            have q6 : (kk : Int) < a.length := by omega
            clear f1 f2 f3 HM0 HM1 HM2
            go_wp2
            go_meet
            exact ⟨rfl, rfl⟩
          · have q6 : (a.length : Int) ≤ kk := by omega
            go_wp2
            go_meet
            exact ⟨rfl, rfl⟩
        case rest =>
        obtain ⟨rfl, hwc⟩ := hcut
        have hwc2 := hwc.symm
        subst hwc2
        clear HM0 HM1 HM2
        go_upto_if 102 with (first
          | (at_builtin; refine wpList_append_any rfl _ _ _ rfl w6.heap.size 3 i0 _ 1 8 Tryd.underlying22 hi0 hz0 hz1 hz2 rfl (by omega) (.slice none 0 0) 0 [] rfl ⟨rfl, Or.inl ⟨rfl, rfl⟩⟩ s1 kk s3 (ints (a.take kk)) rfl hilk HSO.out HNW.out (ints_one _) h63 (by omega) (Nat.le_refl _) ?_; intro ta tn tc w7 hown7 hg7)
          | (go_at_call 12; refine (HPW.out _).mono ?_; rintro e w8 ⟨rfl, hw8⟩; have hw9 := hw8.symm; subst hw9))
        go_cut [18] (fun xv w' => (∃ y : Int, xv = .int .i64 y ∧ (y < 0 ∨ (p.length : Int) ≤ y)) ∧ w' = w7)
        case first =>
          by_cases hng : wrong < 0
          · go_wp2_with (go_at_call 12; refine (HPW.out _).mono ?_; rintro e w8 ⟨rfl, hw8⟩; have hw9 := hw8.symm; subst hw9)
            go_meet
            exact ⟨⟨_, rfl, by omega⟩, rfl⟩
          · go_wp2_with fail
            go_meet
            exact ⟨⟨_, rfl, by omega⟩, rfl⟩
        case rest =>
        obtain ⟨⟨x, rfl, hxx⟩, hwc⟩ := hcut
        have hwc2 := hwc.symm
        subst hwc2
        have HXX := hide hxx
        clear hpw HPW hxx
        simp only [Nat.zero_add, List.nil_append] at hown7
        have c7 : w7.cell? ⟨w1.heap.size, 0, none⟩ = some (.slice pao p.length pcap) := pres_grown hg7 _ _ hpb6
        have h63b : kk + 1 ≤ maxLen := by unfold maxLen; omega
        have hs7 := hg7.size
        go_upto_region 22 with (at_builtin; refine wpList_append_lies _ rfl _ _ _ rfl w6.heap.size 3 i0 _ 1 8 Tryd.underlying22 hi0 hz0 hz1 hz2 rfl (by omega) (.slice ta tn tc) kk (ints (a.take kk)) rfl (owns_alloc hown7) ⟨w7.heap.size, 0, none⟩ 1 1 [.int .i64 x] rfl rfl (World.news_of_block (cs := #[.int .i64 x]) (t := 3) (fr := (0, 0)) (heap_alloc_new w7 _)) (by simp [Value.oneCell']) (by omega) h63b (by omega) (by simp; omega) (w7.heap.size + 1) (by simp) ?_; intro g8 cap8 w8 hown8 hgrow8 hat8 hlt8)
        have HO8 := hide hown8
        have HG68 : Hid (w6.grownBy w8 none) := grown_row (grown_alloc hg7) hgrow8 (fun q e => owns_block hown7 q e)
        have hs68 := HG68.out.size
        have hidl : (ints (a.drop kk)).length = (a.length - kk) * 1 := by rw [ints_len, List.length_drop]; omega
        have h63c : kk + 1 + (a.length - kk) ≤ maxLen := by unfold maxLen; omega
        have HSD1 : Hid (Option.map (fun x => x.add kk) s1 = none → a.length - kk = 0 ∧ s3 - kk = 0) := fun e => by
          have e1 : s1 = none := by simpa using e
          have := HN1.out e1; omega
        have HND1 : Hid (∀ ad, Option.map (fun x => x.add kk) s1 = some ad → ∀ j u, (ints (a.drop kk))[j]? = some u → w8.cell? (ad.add j) = some u) := fun ad e j u hu => by
          obtain ⟨ad0, e1, e2⟩ := Option.map_eq_some_iff.1 e
          obtain ⟨g, rfl, _, h⟩ := HN2.out ad0 e1
          have hadd : ((⟨g, 0, none⟩ : Addr).add kk).add j = ⟨g, kk + j, none⟩ := by
            have h1 : (⟨g, 0, none⟩ : Addr).add kk = ⟨g, kk, none⟩ := by unfold Addr.add; split <;> simp_all
            rw [h1]; unfold Addr.add; split <;> simp_all
          rw [← e2, hadd]
          exact pres_grown HG68.out _ _ (h (kk + j) u (ints_drop hu))
        clear hown8 hgrow8 hat8 hown7 hg7 c7
        go_cut [17] (fun tv w' => Hid (∃ tb tm td, tv = .slice tb tm td ∧ w'.ownsRow w6.heap.size 3 1 tv (kk + 1 + (a.length - kk)) (ints (a.take kk) ++ [.int .i64 x] ++ ints (a.drop kk)) ∧ w6.grownBy w' none))
        case first =>
          by_cases hsk : s3 - kk = 0
          · have hdr : a.drop kk = [] := List.drop_of_length_le (by omega)
            have HSD2 : Hid (s1 = none → a.length - kk = 0 ∧ s3 - kk = 0) := fun e => by have := HN1.out e; omega
            have HND2 : Hid (∀ ad, s1 = some ad → ∀ j u, (ints (a.drop kk))[j]? = some u → w8.cell? (ad.add j) = some u) := fun ad e j u hu => by rw [hdr] at hu; simp [ints] at hu
            have HSD3 : Hid (s1 = none → a.length - kk = 0 ∧ (0 : Nat) = 0) := fun e => ⟨(HSD2.out e).1, rfl⟩
            clear hdr
            go_wp2_with (at_builtin; refine wpList_append_any rfl _ _ _ rfl w6.heap.size 3 i0 _ 1 8 Tryd.underlying22 hi0 hz0 hz1 hz2 rfl (by omega) (.slice (some ⟨g8, 0, none⟩) (kk + 1) cap8) (kk + 1) (ints (a.take kk) ++ [.int .i64 x]) rfl HO8.out s1 (a.length - kk) 0 (ints (a.drop kk)) rfl hidl HSD3.out HND2.out (ints_one _) h63c (by omega) hs68 ?_; intro tb tm td w9 hown9 hg9)
            go_meet
            exact ⟨tb, tm, td, rfl, hown9, grown_row HG68.out hg9 (fun q e => by have := owns_block HO8.out q e; omega)⟩
          · have HSD2 := HSD1
            have HND2 := HND1
            go_wp2_with (first | (at_builtin; refine wpList_append_any rfl _ _ _ rfl w6.heap.size 3 i0 _ 1 8 Tryd.underlying22 hi0 hz0 hz1 hz2 rfl (by omega) (.slice (some ⟨g8, 0, none⟩) (kk + 1) cap8) (kk + 1) (ints (a.take kk) ++ [.int .i64 x]) rfl HO8.out (Option.map (fun x => x.add kk) s1) (a.length - kk) (s3 - kk) (ints (a.drop kk)) rfl hidl (by first | exact HSD1.out | exact HSD2.out) (by first | exact HND1.out | exact HND2.out) (ints_one _) h63c (by omega) hs68 ?_; intro tb tm td w9 hown9 hg9))
            go_meet
            exact ⟨tb, tm, td, rfl, hown9, grown_row HG68.out hg9 (fun q e => by have := owns_block HO8.out q e; omega)⟩
        case rest =>
        obtain ⟨tb, tm, td, rfl, hown9, hg9⟩ := hcut
        obtain ⟨w9, hw9⟩ : ∃ w9, w9 = wc := ⟨_, rfl⟩
        subst hw9
        have hbl : (a.take kk ++ [x] ++ a.drop kk).length = kk + 1 + (a.length - kk) := by simp; omega
        have HI9 : Hid (IntsAt w9.heap.size w9 (.slice tb tm td) (a.take kk ++ [x] ++ a.drop kk)) := by
          apply owns_ints (base := w6.heap.size)
          rw [hbl]
          have e : ints (a.take kk ++ [x] ++ a.drop kk) = ints (a.take kk) ++ [.int .i64 x] ++ ints (a.drop kk) := by simp [ints]
          rw [e]; exact hown9
        have hmm := owns_lenq hown9
        have htm : tm = (a.take kk ++ [x] ++ a.drop kk).length := by omega
        have c9 : w9.cell? ⟨w1.heap.size, 0, none⟩ = some (.slice pao p.length pcap) := pres_grown hg9 _ _ hpb6
        have HG29 : Hid (w2.grownBy w9 none) := grown_trans HG26.out hg9
        have HX9 : Hid (w9.heap[xb]? = some (.cells (resCells (runS p (a.take kk)) (.slice z1 kk z3) gx) 37 (0, 0))) := by
          unfold Hid; rw [hg9.block _ hxl (by simp)]; exact HXC6.out
        have HRP := hide (replay_m p (a.take kk ++ [x] ++ a.drop kk) (.agg #[.slice pao p.length pcap]) (.slice tb tm td) w9 (HSh.out.pres (pres_grown (grown_trans HG2.out HG29.out))) (HP1.out.pres (pres_grown (grown_trans (grown_trans (grown_alloc (grown_refl _ _)) HGW.out) HG29.out))) HI9.out)
        have hb5 : (a.take kk ++ [x] ++ a.drop kk).length ≤ 500 := by omega
        have HCW := hide (cut_wrong HSD.out (by omega : kk ≤ a.length) x HXX.out)
        have hxl9 : xb < w9.heap.size := by have := hg9.size; omega
        have hlkk := hlk
        clear hown9 hg9 hmm htm hbl HI9 HSO HNW HN1 HN2 HND1 HSD1 hidl hilk h63 h63b h63c HO8 HG68
        go_wp2_with fail
        refine HRP.out.mono ?_
        clear HRP
        rintro e w10 ⟨hg10, h⟩
        rcases h with ⟨_, rv10, rfl, sy, gy, rfl, ho10, hp10⟩ | ⟨h, _⟩
        case inr => exact absurd (checkRun_ok HVP.out hb5) h
        have hx10 : w10.heap[xb]? = some (.cells (resCells (runS p (a.take kk)) (.slice z1 kk z3) gx) 37 (0, 0)) := by
          rw [hg10.block _ hxl9 (by simp)]; exact HX9.out
        obtain ⟨n0, n1, n2, n3, n4, n5, n6, n7, n8, _⟩ := nine_cells hx10
        obtain ⟨u1, u2, u3, rfl⟩ := owns_form ho10
        have hu2 := owns_lenq ho10
        obtain ⟨v1, v2, v3, rfl⟩ := owns_form hp10
        have HEND : Hid (w.grownBy w10 none) := grown_trans (grown_trans HG2.out HG29.out) hg10
        clear hx10 ho10 hp10 hg10 c9 hpb6
        by_cases hk1 : (runS p (a.take kk)).kind = 1
        · have hoy := HCW.out.1 hk1
          rw [hoy] at hu2 ⊢
          have hu3 : u2 = kk := hu2.trans hlkk
          subst hu3
          clear hoy hu2
          generalize runS p (a.take u2) = o at *
          rw [hk1] at n0 ⊢
          go_wp2_with fail
          go_ret
          exact ⟨rfl, grown_alloc HEND.out⟩
        · have hoy := HCW.out.2 hk1
          rw [hoy] at hu2 ⊢
          have hu3 : u2 = kk := hu2.trans hlkk
          subst hu3
          have hk1' : ((runS p (a.take u2)).kind == 1) = false := by simpa using hk1
          clear hoy hu2 hk1
          generalize runS p (a.take u2) = o at *
          go_wp2_with fail
          go_ret
          exact ⟨rfl, grown_alloc HEND.out⟩

end Go.Proofs.YtklenjmfalljgaaDoor

/- The walks of slices.Grow (of nothing) and slices.Concat, at lists of numbers. -/
namespace Go.Proofs.YtklenjmfalljgaaDoor
open Go.RowKit
attribute [local go_sem] Go.World.cell?_alloc_some

theorem info_intC : ((Tryd.prog.info? 3).map fun i => (i.zero, i.size, i.bytes)) = some (some (.int .i64 0), 1, 8) := by kernel_rfl

set_option maxHeartbeats 1000000 in
set_option maxRecDepth 100000 in
theorem grow_m (n : Nat) (w : World) (hn : n ≤ 1000000) :
    Calls Tryd.prog 132 #[.slice none 0 0, .int .i64 n] w fun e w' => ∃ v, e = .returned v ∧ w'.ownsRow w.heap.size 3 1 v 0 [] ∧ w.grownBy w' none := by
  obtain ⟨i0, hi0, hz0, hz1, hz2⟩ := info_parts info_intC
  rcases Nat.eq_zero_or_pos n with e | h0
  · subst e
    go_enter Tryd.func132, Tryd.ntmps132
    go_wp2
    go_ret
    exact ⟨_, rfl, ⟨rfl, Or.inl ⟨rfl, rfl⟩⟩, grown_refl _ _⟩
  · have hr : ∀ ty, (Builtin.append_ #[22, 3] ty #[.slice none 0 0, .int .i64 (n : Int)]).run Tryd.prog w = _ := fun ty => Lib.run_append_nil_zeros w 22 3 ty 3 i0 _ .i64 .i64 Tryd.underlying22 Tryd.underlying3 hi0 hz0 n h0 (by omega) (by omega) (by rw [hz2]; omega)
    have hGn : n ≤ grownCap w n 0 3 := grownCap_ge w _ _ _
    have hG63 : grownCap w n 0 3 ≤ maxLen := grownCap_le_maxLen w n 0 3 (by unfold maxLen; omega)
    generalize grownCap w n 0 3 = G at *
    have HF : Hid ((w.drew.alloc (.cells (Builtin.zeroCells (Value.int .i64 0).cells n ++ Builtin.zeroCells (Value.int .i64 0).cells (G - n)) 3)).ownsRow w.heap.size 3 1 (.slice (some ⟨w.heap.size, 0, none⟩) 0 G) 0 []) := by
      refine ⟨rfl, Or.inr ⟨w.heap.size, G, _, rfl, Nat.le_refl _, heap_alloc_new w.drew _, Nat.zero_le _, hG63, ?_, by simp⟩⟩
      simp [Builtin.zeroCells, Value.cells]; omega
    have HG : Hid (w.grownBy (w.drew.alloc (.cells (Builtin.zeroCells (Value.int .i64 0).cells n ++ Builtin.zeroCells (Value.int .i64 0).cells (G - n)) 3)) none) := ⟨rfl, rfl, rfl, by simp, fun k hk _ => heap_alloc_old w.drew _ hk⟩
    have h1 : (0 : Int) < (n : Int) := by omega
    have h2 : (n : Int) ≤ 1000000 := by omega
    have h3 : (0 : Int) ≤ (n : Int) := by omega
    generalize w.drew.alloc (.cells (Builtin.zeroCells (Value.int .i64 0).cells n ++ Builtin.zeroCells (Value.int .i64 0).cells (G - n)) 3) = w' at *
    have h5 : G ≤ 9223372036854775807 := by unfold maxLen at hG63; omega
    clear hG63
    go_enter Tryd.func132, Tryd.ntmps132
    go_wp2_with (at_builtin; refine Lib.wpList_append_run _ rfl _ _ _ _ rfl _ _ rfl rfl _ _ (hr _) ?_)
    go_ret
    exact ⟨_, rfl, HF.out, HG.out⟩

def nilOk (x : Value) : Prop := ∀ n c, x = .slice none n c → n = 0 ∧ c = 0
/-- Lists of numbers in a row. -/
def RowsAt (w : World) (v : Value) (ss : List (List Int)) : Prop :=
  ∃ g o cap, v = .slice (some ⟨g, o, none⟩) ss.length cap ∧ g < w.heap.size ∧ ∀ k (hk : k < ss.length), ∃ x, w.cell? ⟨g, o + k, none⟩ = some x ∧ IntsAt w.heap.size w x ss[k] ∧ nilOk x

theorem flat_step (ss : List (List Int)) (k : Nat) (hk : k < ss.length) : (ss.take (k + 1)).flatten = (ss.take k).flatten ++ ss[k] := by
  rw [List.take_succ_eq_append_getElem hk, List.flatten_append]; simp
theorem flat_le (ss : List (List Int)) (k : Nat) : (ss.take k).flatten.length ≤ ss.flatten.length := by
  conv => rhs; rw [← List.take_append_drop k ss, List.flatten_append, List.length_append]
  omega
theorem ints_news {w : World} {g o c : Nat} {l : List Int} (h : IntsAt w.heap.size w (.slice (some ⟨g, o, none⟩) l.length c) l) : ∀ j u, (ints l)[j]? = some u → w.cell? ((⟨g, o, none⟩ : Addr).add j) = some u := by
  intro j u hj
  obtain ⟨ao, cap, e, _, h2⟩ := h
  have hl := (List.getElem?_eq_some_iff.1 hj).1
  rw [ints_len] at hl
  obtain ⟨g', o', e1, e2, e3⟩ := h2 j hl
  simp only [Value.slice.injEq] at e
  rw [e1] at e
  simp only [Option.some.injEq, Addr.mk.injEq, and_true] at e
  obtain ⟨⟨rfl, rfl⟩, _⟩ := e
  have hadd : (⟨g, o, none⟩ : Addr).add j = ⟨g, o + j, none⟩ := by unfold Addr.add; split <;> simp_all
  rw [hadd, e3]
  have : (ints l)[j]? = some (.int .i64 l[j]) := by simp [ints, hl]
  rw [this] at hj; exact hj

set_option maxHeartbeats 2000000 in
set_option maxRecDepth 100000 in
theorem concat_m (ss : List (List Int)) (sv : Value) (w : World) (hR : RowsAt w sv ss) (hn : ss.length ≤ 1000) (ht : ss.flatten.length ≤ 1000000) :
    Calls Tryd.prog 96 #[sv] w fun e w' => ∃ v, e = .returned v ∧ w'.ownsRow w.heap.size 3 1 v ss.flatten.length (ints ss.flatten) ∧ w.grownBy w' none := by
  obtain ⟨i0, hi0, hz0, hz1, hz2⟩ := info_parts info_intC
  obtain ⟨g, o, cap, rfl, hg, hc⟩ := hR
  have HC := hide hc
  have hn' : (ss.length : Int) ≤ 1000 := by omega
  clear hc
  go_enter Tryd.func96, Tryd.ntmps96
  go_wp2_with fail
  go_loopw [3, 11] (fun z i w' => ∃ k n : Nat, k ≤ ss.length ∧ i = .int .i64 k ∧ z = .int .i64 n ∧ Hid (n = (ss.take k).flatten.length) ∧ Hid (w' = w)) (fun _ i _ => ss.length - (intOf i).toNat)
  case atStart => exact ⟨0, 0, Nat.zero_le _, rfl, rfl, rfl, rfl⟩
  case round =>
    obtain ⟨k, n, hk, rfl, rfl, HN, HW⟩ := hrel
    obtain rfl := HW.out.symm
    clear HW
    have hnb : n ≤ 1000000 := by have := HN.out; have := flat_le ss k; omega
    have hnb' : (n : Int) ≤ 1000000 := by omega
    have hn0 : (0 : Int) ≤ (n : Int) := by omega
    by_cases hlt : k < ss.length
    · obtain ⟨x, c0, hI, hno⟩ := HC.out k hlt
      obtain ⟨so, sc, rfl⟩ := hI.form
      have hle : n + ss[k].length ≤ 1000000 := by
        have h1 := flat_le ss (k + 1)
        rw [flat_step ss k hlt, List.length_append] at h1
        have := HN.out; omega
      have HNX : Hid (n + ss[k].length = (ss.take (k + 1)).flatten.length) := by
        unfold Hid; rw [flat_step ss k hlt, List.length_append, HN.out]
      clear hI hno
      generalize ss[k] = s at *
      have hs0 : (0 : Int) ≤ (s.length : Int) := by omega
      have hs1 : (n : Int) + (s.length : Int) ≤ 1000000 := by omega
      have hs2 : (0 : Int) ≤ (n : Int) + (s.length : Int) := by omega
      have hk0 : (0 : Int) ≤ (k : Int) := by omega
      have hk1 : (k : Int) < ss.length := by omega
      go_wp2_with fail
      go_roundw
      case rel => exact ⟨k + 1, n + s.length, by omega, by go_num, by go_num, HNX, (by first | exact trivial | rfl)⟩
      case measure => simp [intOf]; omega
    · have hk1 : (ss.length : Int) ≤ (k : Int) := by omega
      have HNE : Hid (n = ss.flatten.length) := by unfold Hid; rw [HN.out, List.take_of_length_le (by omega)]
      go_wp2_with (go_at_call 132; refine (grow_m n _ hnb).mono ?_; rintro e w1 ⟨v1, rfl, hown1, hg1⟩)
      obtain ⟨a1, a2, a3, rfl⟩ := owns_form hown1
      have HO1 := hide hown1
      have HG1 := hide hg1
      clear hown1 hg1 HN HNE hnb hnb' hn0 hk hlt hk1
      go_wp2_with fail
      go_loopw [6, 27] (fun v i w' => ∃ k : Nat, k ≤ ss.length ∧ i = .int .i64 k ∧ Hid (w'.ownsRow w.heap.size 3 1 v (ss.take k).flatten.length (ints (ss.take k).flatten)) ∧ Hid (w.grownBy w' none)) (fun _ i _ => ss.length - (intOf i).toNat)
      case atStart => exact ⟨0, Nat.zero_le _, rfl, HO1, HG1⟩
      case round =>
        clear HO1 HG1
        obtain ⟨k, hk, rfl, HO, HG⟩ := hrel
        obtain ⟨w5, hw5⟩ : ∃ w5, w5 = wr := ⟨_, rfl⟩
        rw [← hw5] at HO HG ⊢
        clear hw5
        by_cases hlt : k < ss.length
        · obtain ⟨x, c0, hI, hno⟩ := HC.out k hlt
          obtain ⟨so, sc, rfl⟩ := hI.form
          have d0 := pres_grown HG.out _ _ c0
          have hle : (ss.take k).flatten.length + ss[k].length ≤ 1000000 := by
            have h1 := flat_le ss (k + 1)
            rw [flat_step ss k hlt, List.length_append] at h1
            omega
          have HNX : Hid ((ss.take (k + 1)).flatten = (ss.take k).flatten ++ ss[k]) := flat_step ss k hlt
          have HI5 : Hid (IntsAt w5.heap.size w5 (.slice so ss[k].length sc) ss[k]) := (hI.pres (pres_grown HG.out)).mono HG.out.size
          have HSO : Hid (so = none → ss[k].length = 0 ∧ sc = 0) := fun e => hno _ _ (by rw [e])
          have HNW : Hid (∀ ad, so = some ad → ∀ j u, (ints ss[k])[j]? = some u → w5.cell? (ad.add j) = some u) := by
            rintro ad rfl j u hj
            have hl := (List.getElem?_eq_some_iff.1 hj).1
            rw [ints_len] at hl
            obtain ⟨ao, cp, e, _, h2⟩ := HI5.out
            obtain ⟨g', o', e1, _⟩ := h2 0 (by omega)
            simp only [Value.slice.injEq] at e
            rw [e1] at e
            simp only [Option.some.injEq] at e
            obtain ⟨rfl, _⟩ := e
            exact ints_news HI5.out j u hj
          clear c0 hI hno
          generalize ss[k] = s at *
          obtain ⟨b1, b2, b3, hv⟩ := owns_form HO.out
          have hk0 : (0 : Int) ≤ (k : Int) := by omega
          have hk1 : (k : Int) < ss.length := by omega
          have hil : (ints s).length = s.length * 1 := by rw [ints_len]; omega
          have h63 : (ss.take k).flatten.length + s.length ≤ maxLen := by unfold maxLen; omega
          have hbs : w.heap.size ≤ w5.heap.size := HG.out.size
          have HOB := hide (owns_block HO.out)
          go_wp2_with (at_builtin; refine wpList_append_any rfl _ _ _ rfl w.heap.size 3 i0 _ 1 8 Tryd.underlying22 hi0 hz0 hz1 hz2 rfl (by omega) u6 (ss.take k).flatten.length (ints (ss.take k).flatten) rfl HO.out so s.length sc (ints s) rfl hil HSO.out HNW.out (ints_one _) h63 (by omega) hbs ?_; intro ta tn tc w7 hown7 hg7)
          have HO7 : Hid (w7.ownsRow w.heap.size 3 1 (.slice ta tn tc) (ss.take (k + 1)).flatten.length (ints (ss.take (k + 1)).flatten)) := by
            unfold Hid; rw [HNX.out, List.length_append]
            have : ints ((ss.take k).flatten ++ s) = ints (ss.take k).flatten ++ ints s := by simp [ints]
            rw [this]; exact hown7
          have HG7 : Hid (w.grownBy w7 none) := grown_row HG.out hg7 HOB.out
          clear hown7 hg7 HO HG HNX HI5 HSO HNW
          go_wp2_with fail
          go_roundw
          case rel => exact ⟨k + 1, by omega, by go_num, HO7, HG7⟩
          case measure => simp [intOf]; omega
        · have hk1 : (ss.length : Int) ≤ (k : Int) := by omega
          have HOE : Hid (w5.ownsRow w.heap.size 3 1 u6 ss.flatten.length (ints ss.flatten)) := by
            have := HO.out
            rwa [List.take_of_length_le (by omega)] at this
          go_wp2_with fail
          go_ret
          exact ⟨_, rfl, HOE.out, HG.out⟩

end Go.Proofs.YtklenjmfalljgaaDoor

/- The walk of Commuted. -/
namespace Go.Proofs.YtklenjmfalljgaaDoor
open Go.RowKit
attribute [local go_sem] Go.World.cell?_alloc_some

theorem ints_ofC {B : Nat} {w : World} {ao : Option Addr} {cap : Nat} {l : List Int} (h : IntsAt B w (.slice ao l.length cap) l) : ∀ b, ao = some b → ∀ j u, (ints l)[j]? = some u → w.cell? (b.add j) = some u := by
  rintro b rfl j u hj
  obtain ⟨a, c, e, _, h2⟩ := h
  have hl := (List.getElem?_eq_some_iff.1 hj).1
  rw [ints_len] at hl
  obtain ⟨g', o', e1, e2, e3⟩ := h2 j hl
  simp only [Value.slice.injEq] at e
  rw [e1] at e
  simp only [Option.some.injEq] at e
  obtain ⟨rfl, _⟩ := e
  have hadd : (⟨g', o', none⟩ : Addr).add j = ⟨g', o' + j, none⟩ := by unfold Addr.add; split <;> simp_all
  rw [hadd, e3]
  have : (ints l)[j]? = some (.int .i64 l[j]) := by simp [ints, hl]
  rw [this] at hj; exact hj
theorem IntsAt.setAwayC {B X o : Nat} {w : World} {v u : Value} {l : List Int} (h : IntsAt B w v l) (hx : ∀ g, v.ownBlock = some g → g ≠ X) : IntsAt B (w.setCell ⟨X, o, none⟩ u) v l := by
  obtain ⟨ao, cap, rfl, h1, h2⟩ := h
  refine ⟨ao, cap, rfl, h1, fun k hk => ?_⟩
  obtain ⟨g, o', e1, e2, e3⟩ := h2 k hk
  refine ⟨g, o', e1, e2, ?_⟩
  rw [World.cell?_of_block (Below.heap_setCell _ _ _ _ (by simp only; exact hx g (by rw [e1]; rfl)))]; exact e3
theorem owns_ltC {w : World} {base : Nat} {e : TypeId} {size : Nat} {v : Value} {n : Nat} {xs : List Value} (h : w.ownsRow base e size v n xs) : ∀ g, v.ownBlock = some g → g < w.heap.size := by
  intro g e
  rcases h.2 with ⟨e1, _⟩ | ⟨g', cap, cur, hv, _, hh, _⟩
  · rw [e1] at e; cases e
  · rw [hv] at e
    simp only [Value.ownBlock, Option.some.injEq] at e
    subst e
    exact (Array.getElem?_eq_some_iff.1 hh).1
theorem owns_nilC {w : World} {base : Nat} {e : TypeId} {size : Nat} {v : Value} {n : Nat} {xs : List Value} (h : w.ownsRow base e size v n xs) : nilOk v := by
  intro n' c' e
  rcases h.2 with ⟨e1, _⟩ | ⟨g, cap, cur, hv, _⟩
  · rw [e1] at e; simp at e; omega
  · rw [hv] at e; simp at e
theorem owns_putC {w : World} {base : Nat} {e : TypeId} {size g n cap : Nat} {xs : List Value} (h : w.ownsRow base e size (.slice (some ⟨g, 0, none⟩) n cap) n xs) (j : Nat) (u : Value) :
    (w.setCell ⟨g, j, none⟩ u).ownsRow base e size (.slice (some ⟨g, 0, none⟩) n cap) n (xs.set j u) := by
  obtain ⟨h1, h2⟩ := h
  refine ⟨by simpa using h1, ?_⟩
  rcases h2 with ⟨e1, _⟩ | ⟨g', cap', cur, hv, hb, hh, h3, h4, h5, h6⟩
  · cases e1
  · simp only [Value.slice.injEq, Option.some.injEq, Addr.mk.injEq, true_and, and_true] at hv
    obtain ⟨rfl, rfl⟩ := hv
    exact Or.inr ⟨g, cap, cur.setIfInBounds j u, rfl, hb, heap_setCell_same w g j cur e u hh, h3, h4, by simpa using h5, by rw [← h6, Array.toList_setIfInBounds, List.take_set]⟩
theorem ints_swap (a : List Int) (k : Nat) {x y : Int} (hx : a[k]? = some x) (hy : a[k + 1]? = some y) : ((ints a).set k (.int .i64 y)).set (k + 1) (.int .i64 x) = ints (swapL a k) := by
  unfold swapL
  rw [hx, hy]
  simp [ints, List.map_set]

/-- How things stand at the head of a round. -/
structure CmI (p : List (List Ins)) (f : List Int) (X B : Nat) (w2 : World) (fv sv : Value) (b : List Int) (w' : World) : Prop where
  sch : Sched p b
  fm : formS p (runS p b) = f
  row : IntsAt w'.heap.size w' sv b
  nok : nilOk sv
  away : ∀ g, sv.ownBlock = some g → g ≠ X
  gr : w2.grownBy w' none
  frow : IntsAt w'.heap.size w' fv f
  blk : ∃ x1 x3 y1 y3, w'.heap[X]? = some (.cells (resCells (runS p b) (.slice x1 b.length x3) (.slice y1 p.length y3)) 37 (0, 0)) ∧ w'.ownsRow B 48 2 (.slice x1 b.length x3) (runS p b).steps.length (flatS (runS p b).steps) ∧ w'.ownsRow B 34 4 (.slice y1 p.length y3) p.length (regsF p.length (runS p b).st)
theorem CmI.grow {p : List (List Ins)} {f : List Int} {X B : Nat} {w2 : World} {fv sv : Value} {b : List Int} {w' w'' : World} (h : CmI p f X B w2 fv sv b w') (hg : w'.grownBy w'' none) : CmI p f X B w2 fv sv b w'' := by
  obtain ⟨x1, x3, y1, y3, h1, h2, h3⟩ := h.blk
  exact ⟨h.sch, h.fm, (h.row.pres (pres_grown hg)).mono hg.size, h.nok, h.away, grown_trans h.gr hg, (h.frow.pres (pres_grown hg)).mono hg.size,
    x1, x3, y1, y3, by rw [hg.block _ (Array.getElem?_eq_some_iff.1 h1).1 (by simp)]; exact h1, owns_grown h2 hg (fun _ e => by cases e), owns_grown h3 hg (fun _ e => by cases e)⟩
/-- The block of r is written over. -/
theorem CmI.next {p : List (List Ins)} {f : List Int} {X B : Nat} {w2 w : World} {fv sv : Value} {b : List Int} (hs : Sched p b) (hf : formS p (runS p b) = f) (hr : IntsAt w.heap.size w sv b) (hn : nilOk sv) (ha : ∀ g, sv.ownBlock = some g → g ≠ X) (hg : w2.grownBy w none) (hX : w2.heap.size ≤ X)
    (hfr : IntsAt w.heap.size w fv f) (hfa : ∀ g, fv.ownBlock = some g → g ≠ X) {c0 c1 c2 c3 c4 c5 c6 c7 c8 : Value} (hb : w.heap[X]? = some (.cells #[c0, c1, c2, c3, c4, c5, c6, c7, c8] 37 (0, 0))) {x1 y1 : Option Addr} {x3 y3 : Nat}
    (h1 : w.ownsRow B 48 2 (.slice x1 b.length x3) (runS p b).steps.length (flatS (runS p b).steps)) (a1 : (Value.slice x1 b.length x3).ownBlock ≠ some X) (h2 : w.ownsRow B 34 4 (.slice y1 p.length y3) p.length (regsF p.length (runS p b).st)) (a2 : (Value.slice y1 p.length y3).ownBlock ≠ some X) :
    CmI p f X B w2 fv sv b ((((((((w.setCell ⟨X, 0, none⟩ (.int .i64 (runS p b).kind)).setCell ⟨X, 1, none⟩ (.int .i64 (runS p b).thread)).setCell ⟨X, 2, none⟩ (.int .i64 (runS p b).at_)).setCell ⟨X, 3, none⟩ (.slice x1 b.length x3)).setCell ⟨X, 4, none⟩ (.int .i64 ((runS p b).st.vars 0))).setCell ⟨X, 5, none⟩ (.int .i64 ((runS p b).st.vars 1))).setCell ⟨X, 6, none⟩ (.int .i64 ((runS p b).st.vars 2))).setCell ⟨X, 7, none⟩ (.int .i64 ((runS p b).st.vars 3)) |>.setCell ⟨X, 8, none⟩ (.slice y1 p.length y3)) := by
  refine ⟨hs, hf, ?_, hn, ha, ?_, ?_, x1, x3, y1, y3, set9 hb, ?_, ?_⟩
  · have e : ((((((((w.setCell ⟨X, 0, none⟩ (.int .i64 (runS p b).kind)).setCell ⟨X, 1, none⟩ (.int .i64 (runS p b).thread)).setCell ⟨X, 2, none⟩ (.int .i64 (runS p b).at_)).setCell ⟨X, 3, none⟩ (.slice x1 b.length x3)).setCell ⟨X, 4, none⟩ (.int .i64 ((runS p b).st.vars 0))).setCell ⟨X, 5, none⟩ (.int .i64 ((runS p b).st.vars 1))).setCell ⟨X, 6, none⟩ (.int .i64 ((runS p b).st.vars 2))).setCell ⟨X, 7, none⟩ (.int .i64 ((runS p b).st.vars 3)) |>.setCell ⟨X, 8, none⟩ (.slice y1 p.length y3)).heap.size = w.heap.size := by simp
    rw [e]
    iterate 9 refine IntsAt.setAwayC ?_ ha
    exact hr
  · iterate 9 refine grown_setNew ?_ hX
    exact hg
  · have e : ((((((((w.setCell ⟨X, 0, none⟩ (.int .i64 (runS p b).kind)).setCell ⟨X, 1, none⟩ (.int .i64 (runS p b).thread)).setCell ⟨X, 2, none⟩ (.int .i64 (runS p b).at_)).setCell ⟨X, 3, none⟩ (.slice x1 b.length x3)).setCell ⟨X, 4, none⟩ (.int .i64 ((runS p b).st.vars 0))).setCell ⟨X, 5, none⟩ (.int .i64 ((runS p b).st.vars 1))).setCell ⟨X, 6, none⟩ (.int .i64 ((runS p b).st.vars 2))).setCell ⟨X, 7, none⟩ (.int .i64 ((runS p b).st.vars 3)) |>.setCell ⟨X, 8, none⟩ (.slice y1 p.length y3)).heap.size = w.heap.size := by simp
    rw [e]
    iterate 9 refine IntsAt.setAwayC ?_ hfa
    exact hfr
  · iterate 9 refine owns_setCell_ne ?_ a1
    exact h1
  · iterate 9 refine owns_setCell_ne ?_ a2
    exact h2

end Go.Proofs.YtklenjmfalljgaaDoor

/- What stands behind a place of a function's text. -/
namespace Go.Proofs.YtklenjmfalljgaaDoor

/-- Does the text begin with region n? -/
def atR (n : Nat) : Code → Bool
  | .region k _ _ => Nat.beq k n
  | .seq a _ => atR n a
  | .block _ c => atR n c
  | .scope c => atR n c
  | .loop c => atR n c
  | _ => false
/-- The statements from region n on, to the end of their row. -/
def tailAt (n : Nat) : Code → Option Code
  | .seq a b => match atR n a with
    | true => some (.seq a b)
    | false => match tailAt n a with
      | some c => some c
      | none => tailAt n b
  | .block _ c => tailAt n c
  | .scope c => tailAt n c
  | .loop c => tailAt n c
  | .cond _ a b => match tailAt n a with
    | some c => some c
    | none => tailAt n b
  | _ => none
/-- The statements of a function from region n on. -/
def tailOf (f : Func) (n : Nat) : Code := match f.body with
  | some c => (tailAt n c).getD .skip
  | none => .skip

end Go.Proofs.YtklenjmfalljgaaDoor

/- Commuted: the two have nothing to do with one another. -/
namespace Go.Proofs.YtklenjmfalljgaaDoor
open Go.RowKit
attribute [local go_sem] Go.World.cell?_alloc_some

set_option maxHeartbeats 8000000 in
set_option maxRecDepth 100000 in
theorem commT {p : List (List Ins)} {f b t : List Int} {ot : Out} {n1 n5 n12 n13 i k tg tc bc f3 j3 o3 : Nat} {bo f1 j1 o1 : Option Addr} {w2 w17 : World} (hlen : 1 ≤ p.length ∧ p.length ≤ 4) (hb : b.length ≤ 200) (HTL : Hid (t.length = b.length)) (HOT : Hid (runS p t = ot))
    (HRD : Hid (Sched p t ∧ ot.kind = (runS p b).kind ∧ ot.thread = (runS p b).thread ∧ ot.at_ = (runS p b).at_ ∧ ot.st = (runS p b).st ∧ formS p ot = formS p (runS p b)))
    (HI17 : Hid (CmI p f w2.heap.size (n1 + 1) w2 (.slice f1 f.length f3) (.slice bo b.length bc) b w17)) (HXB17 : Hid (w17.heap[n13]? = some (.cells (resCells ot (.slice j1 ot.steps.length j3) (.slice o1 p.length o3)) 37 (0, 0))))
    (HP17 : Hid (w17.ownsRow n12 48 2 (.slice j1 ot.steps.length j3) ot.steps.length (flatS ot.steps))) (HQ17 : Hid (w17.ownsRow n12 34 4 (.slice o1 p.length o3) p.length (regsF p.length ot.st)))
    (HT17 : Hid (IntsAt w17.heap.size w17 (.slice (some ⟨tg, 0, none⟩) b.length tc) t)) (hbx : w2.heap.size < n12) (_h1213 : n12 ≤ n13) (hB2 : n1 + 1 ≤ n12) (htw : w2.heap.size < tg)
    (HFA : Hid (∀ g, (Value.slice f1 f.length f3).ownBlock = some g → g ≠ w2.heap.size))
    {K : Act → World → Prop} {Q' : Exit → Act → World → Prop} {c0 c1 c2 c3 c4 c5 c6 c10 c12 c17 c18 c19 c20 c24 c25 c26 c28 c30 c31 c32 c33 c34 c35 c36 c37 c38 c39 c40 c41 c42 c43 c44 c45 c46 c47 c48 c49 c50 c51 c52 c53 c54 c55 c56 c57 c58 c59 c60 c61 c62 c63 c64 c65 c66 c67 c68 c69 c70 c71 c72 c73 c74 c75 c76 c77 c78 c79 c80 c81 c82 c83 c84 c85 c86 c87 c88 c89 c90 c91 c92 c93 c94 c95 c96 c97 c98 c99 c100 c101 c102 c103 c104 c105 c106 c107 c108 c109 c110 c111 c112 c113 c114 c115 c116 c117 c118 c119 c120 c121 c122 c123 c124 c125 c126 c127 c128 c129 c130 c131 c132 c133 c134 c135 c136 c137 c138 c139 c140 c141 c142 c143 c144 c145 c146 c147 c148 c149 c150 c151 c152 c153 c154 c155 c156 c157 c158 c159 c160 c161 c162 c163 c164 c165 c166 c167 c168 c169 c170 c171 c172 c173 c174 c175 c176 c177 c178 c179 c180 c181 c182 c183 c184 c185 c186 c187 c188 c189 c190 c191 c192 c193 c194 c195 c196 c197 c198 c199 c200 c201 c202 c203 c204 c205 c206 c207 c208 c209 c210 c211 c212 c213 c214 c215 c216 c217 c218 c219 c220 c221 c222 c223 c224 c225 c226 c227 c228 c229 c230 c231 c232 c233 c234 c235 c236 c237 c238 c239 c240 c241 c242 c243 c244 c245 c246 c247 c248 c249 c250 c251 c252 c253 c254 c255 c256 c257 c258 c259 : Value}
    (HK : Hid (∀ {z6 z17 z18 z19 z20 z21 z22 z23 z24 z25 z26 z27 z28 z29 z30 z102 z103 z104 z105 z106 z107 z108 z109 z110 z111 z112 z113 z114 z115 z116 z117 z118 z119 z120 z121 z122 z123 z124 z125 z126 z127 z128 z129 z130 z131 z132 z133 z134 z135 z136 z137 z138 z139 z140 z141 z142 z143 z144 z145 z146 z147 z148 z149 z150 z151 z152 z153 z154 z155 z156 z157 z158 z159 z160 z161 z162 z163 z164 z165 z166 z167 z168 z169 z170 z171 z172 z173 z174 z175 z176 z177 z178 z179 z180 z181 z182 z183 z184 z185 z186 z187 z188 z189 z190 z191 z192 z193 z194 z195 z196 z197 z198 z199 z200 z201 z202 z203 z204 z205 z206 z207 z208 z209 z210 z211 z212 z213 z214 z215 z216 z217 z218 z219 z220 z221 z222 z223 z224 z225 z226 z227 z228 z229 z230 z231 z232 z233 z234 z235 z236 z237 z238 z239 z240 z241 z242 z243 z244 z245 z246 z247 z248 z249 z250 z251 z252 z253 z254 z255 z256 z257 z258 z259 : Value} (t2 : List Int) (bo2 : Option Addr) (L bc2 : Nat) (w' : World), L = t2.length → L ≤ 200 → CmI p f w2.heap.size (n1 + 1) w2 (.slice f1 f.length f3) (.slice bo2 L bc2) t2 w' → K ⟨#[c0, c1, c2, c3, c4, c5, z6, .pointer (some ⟨n1, 0, none⟩), .slice bo2 L bc2, .pointer (some ⟨w2.heap.size, 0, none⟩), c10, .slice f1 f.length f3, c12, .int .i64 (i : Int), .int .i64 (k : Int), .pointer (some ⟨n5, 0, none⟩), .pointer (some ⟨n5 + 1, 0, none⟩), z17, z18, z19, z20, z21, z22, z23, z24, z25, z26, z27, z28, z29, z30, c31, c32, c33, c34, c35, c36, c37, c38, c39, c40, c41, c42, c43, c44, c45, c46, c47, c48, c49, c50, c51, c52, c53, c54, c55, c56, c57, c58, c59, c60, c61, c62, c63, c64, c65, c66, c67, c68, c69, c70, c71, c72, c73, c74, c75, c76, c77, c78, c79, c80, c81, c82, c83, c84, c85, c86, c87, c88, c89, c90, c91, c92, c93, c94, c95, c96, c97, c98, c99, c100, c101, z102, z103, z104, z105, z106, z107, z108, z109, z110, z111, z112, z113, z114, z115, z116, z117, z118, z119, z120, z121, z122, z123, z124, z125, z126, z127, z128, z129, z130, z131, z132, z133, z134, z135, z136, z137, z138, z139, z140, z141, z142, z143, z144, z145, z146, z147, z148, z149, z150, z151, z152, z153, z154, z155, z156, z157, z158, z159, z160, z161, z162, z163, z164, z165, z166, z167, z168, z169, z170, z171, z172, z173, z174, z175, z176, z177, z178, z179, z180, z181, z182, z183, z184, z185, z186, z187, z188, z189, z190, z191, z192, z193, z194, z195, z196, z197, z198, z199, z200, z201, z202, z203, z204, z205, z206, z207, z208, z209, z210, z211, z212, z213, z214, z215, z216, z217, z218, z219, z220, z221, z222, z223, z224, z225, z226, z227, z228, z229, z230, z231, z232, z233, z234, z235, z236, z237, z238, z239, z240, z241, z242, z243, z244, z245, z246, z247, z248, z249, z250, z251, z252, z253, z254, z255, z256, z257, z258, z259], []⟩ w')) :
    Code.wp Tryd.prog (tailOf Tryd.f10 28) (Exit.inBlock 1 (Exit.then K Q')) ⟨#[c0, c1, c2, c3, c4, c5, c6, .pointer (some ⟨n1, 0, none⟩), .slice bo b.length bc, .pointer (some ⟨w2.heap.size, 0, none⟩), c10, .slice f1 f.length f3, c12, .int .i64 (i : Int), .int .i64 (k : Int), .pointer (some ⟨n5, 0, none⟩), .pointer (some ⟨n5 + 1, 0, none⟩), c17, c18, c19, c20, .bool true, .slice (some ⟨tg, 0, none⟩) b.length tc, .pointer (some ⟨n13, 0, none⟩), c24, c25, c26, .bool true, c28, .bool true, c30, c31, c32, c33, c34, c35, c36, c37, c38, c39, c40, c41, c42, c43, c44, c45, c46, c47, c48, c49, c50, c51, c52, c53, c54, c55, c56, c57, c58, c59, c60, c61, c62, c63, c64, c65, c66, c67, c68, c69, c70, c71, c72, c73, c74, c75, c76, c77, c78, c79, c80, c81, c82, c83, c84, c85, c86, c87, c88, c89, c90, c91, c92, c93, c94, c95, c96, c97, c98, c99, c100, c101, c102, c103, c104, c105, c106, c107, c108, c109, c110, c111, c112, c113, c114, c115, c116, c117, c118, c119, c120, c121, c122, c123, c124, c125, c126, c127, c128, c129, c130, c131, c132, c133, c134, c135, c136, c137, c138, c139, c140, c141, c142, c143, c144, c145, c146, c147, c148, c149, c150, c151, c152, c153, c154, c155, c156, c157, c158, c159, c160, c161, c162, c163, c164, c165, c166, c167, c168, c169, c170, c171, c172, c173, c174, c175, c176, c177, c178, c179, c180, c181, c182, c183, c184, c185, c186, c187, c188, c189, c190, c191, c192, c193, c194, c195, c196, c197, c198, c199, c200, c201, c202, c203, c204, c205, c206, c207, c208, c209, c210, c211, c212, c213, c214, c215, c216, c217, c218, c219, c220, c221, c222, c223, c224, c225, c226, c227, c228, c229, c230, c231, c232, c233, c234, c235, c236, c237, c238, c239, c240, c241, c242, c243, c244, c245, c246, c247, c248, c249, c250, c251, c252, c253, c254, c255, c256, c257, c258, c259], []⟩ w17 := by
  conv => arg 2; whnf
  obtain ⟨hsch, kd, th_, at1, stq, fmq⟩ := HRD.out
  have hsl : ot.steps.length = b.length := by have := hsch.2; have h2 := HTL.out; rw [HOT.out] at this; omega
  obtain ⟨ax1, ax3, ay1, ay3, hbk, hsr, hrr⟩ := HI17.out.blk
  have HHD := hide (held_m (n := p.length) (by omega) (runS p b) ot kd th_ at1 stq w17 _ _ b.length ax1 j1 ay1 o1 ax3 j3 ay3 o3 hrr HQ17.out)
  have HSCH := hide hsch
  have HFM : Hid (formS p ot = f) := by unfold Hid; rw [fmq]; exact HI17.out.fm
  rw [hsl] at HXB17 HP17
  have HP17b : Hid (w17.ownsRow n12 48 2 (.slice j1 b.length j3) ot.steps.length (flatS ot.steps)) := by unfold Hid; rw [hsl]; exact HP17.out
  have HBK17 := hide hbk
  obtain ⟨r0, r1, r2, r3, r4, r5, r6, r7, r8, _⟩ := nine_cells hbk
  obtain ⟨z0, z1, z2, z3, z4, z5, z6, z7, z8, _⟩ := nine_cells HXB17.out
  have hxl : n13 < w17.heap.size := (Array.getElem?_eq_some_iff.1 HXB17.out).1
  have hrl : w2.heap.size < w17.heap.size := (Array.getElem?_eq_some_iff.1 hbk).1
  unfold resCells at HHD
  clear hsch kd th_ at1 stq fmq hsr hrr hbk HRD HP17
  go_wp2_with fail
  refine HHD.out.mono ?_
  clear HHD r0 r1 r2 r3 r4 r5 r6 r7 r8 z0 z1 z2 z3 z4 z5 z6 z7 z8
  rintro e w18 ⟨rfl, hg18⟩
  have hbk18 : w18.heap[w2.heap.size]? = some (.cells (resCells (runS p b) (.slice ax1 b.length ax3) (.slice ay1 p.length ay3)) 37 (0, 0)) := by
    rw [hg18.block _ hrl (by simp)]; exact HBK17.out
  have hxb18 : w18.heap[n13]? = some (.cells (resCells ot (.slice j1 b.length j3) (.slice o1 p.length o3)) 37 (0, 0)) := by
    rw [hg18.block _ hxl (by simp)]; exact HXB17.out
  obtain ⟨r0, r1, r2, r3, r4, r5, r6, r7, r8, rf⟩ := nine_cells hbk18
  obtain ⟨z0, z1, z2, z3, z4, z5, z6, z7, z8, _⟩ := nine_cells hxb18
  have f0 := rf 0
  have f1' := rf 1
  have f2 := rf 2
  have f3' := rf 3
  have f4 := rf 4
  have f5 := rf 5
  have f6 := rf 6
  have f7 := rf 7
  have f8 := rf 8
  have HNX : Hid (CmI p f w2.heap.size (n1 + 1) w2 (.slice f1 f.length f3) (.slice (some ⟨tg, 0, none⟩) b.length tc) t ((((((((w18.setCell ⟨w2.heap.size, 0, none⟩ (.int .i64 ot.kind)).setCell ⟨w2.heap.size, 1, none⟩ (.int .i64 ot.thread)).setCell ⟨w2.heap.size, 2, none⟩ (.int .i64 ot.at_)).setCell ⟨w2.heap.size, 3, none⟩ (.slice j1 b.length j3)).setCell ⟨w2.heap.size, 4, none⟩ (.int .i64 (ot.st.vars 0))).setCell ⟨w2.heap.size, 5, none⟩ (.int .i64 (ot.st.vars 1))).setCell ⟨w2.heap.size, 6, none⟩ (.int .i64 (ot.st.vars 2))).setCell ⟨w2.heap.size, 7, none⟩ (.int .i64 (ot.st.vars 3)) |>.setCell ⟨w2.heap.size, 8, none⟩ (.slice o1 p.length o3))) := by
    have hI18 := HI17.out.grow hg18
    have hT18 := (HT17.out.pres (pres_grown hg18)).mono hg18.size
    have hp18 : w18.ownsRow (n1 + 1) 48 2 (.slice j1 t.length j3) (runS p t).steps.length (flatS (runS p t).steps) := by
      rw [HTL.out, HOT.out]
      exact owns_mono (owns_grown HP17b.out hg18 (fun _ e => by cases e)) hB2
    have hq18 : w18.ownsRow (n1 + 1) 34 4 (.slice o1 p.length o3) p.length (regsF p.length (runS p t).st) := by
      rw [HOT.out]
      exact owns_mono (owns_grown HQ17.out hg18 (fun _ e => by cases e)) hB2
    have ha1 : (Value.slice j1 t.length j3).ownBlock ≠ some w2.heap.size := fun e => by
      have e' : (Value.slice j1 b.length j3).ownBlock = some w2.heap.size := by rw [HTL.out] at e; exact e
      have := owns_block HP17b.out _ e'; omega
    have ha2 : (Value.slice o1 p.length o3).ownBlock ≠ some w2.heap.size := fun e => by
      have := owns_block HQ17.out _ e; omega
    have hat : ∀ g, (Value.slice (some ⟨tg, 0, none⟩) b.length tc).ownBlock = some g → g ≠ w2.heap.size := fun g e => by
      have h1 : tg = g := by simpa [Value.ownBlock] using e
      omega
    have hn := CmI.next (b := t) (x1 := j1) (x3 := j3) (y1 := o1) (y3 := o3) HSCH.out (by rw [HOT.out]; exact HFM.out) hT18 (fun _ _ e => by cases e) hat hI18.gr (Nat.le_refl _) hI18.frow HFA.out hbk18 hp18 ha1 hq18 ha2
    rw [HTL.out, HOT.out] at hn
    exact hn
  clear hbk18 hxb18 rf
  go_wp2_with fail
  exact HK.out t _ _ _ _ HTL.out.symm (by have := HTL.out; omega) HNX.out

end Go.Proofs.YtklenjmfalljgaaDoor

/- Commuted: the two have to do with one another. -/
namespace Go.Proofs.YtklenjmfalljgaaDoor
open Go.RowKit
attribute [local go_sem] Go.World.cell?_alloc_some

set_option maxHeartbeats 8000000 in
set_option maxRecDepth 100000 in
theorem commF {p : List (List Ins)} {f b t : List Int} {ot : Out} {IS EQ : Bool} {n1 n5 n12 n13 i k t1 k1 t2 k2 tg tc bc f3 j3 o3 : Nat} {bo f1 j1 o1 : Option Addr} {w2 w17 : World} (hb : b.length ≤ 200) (hk1 : k + 1 < b.length) (HEQ : Hid (EQ = (f == formS p ot))) (HIS : Hid (IS = sameS p b t))
    (HNO : Hid (ot.kind ≠ 2 → ot.steps.length = b.length → ot.steps[k]? = some ((t2 : Int), (k2 : Int)) → ot.steps[k + 1]? = some ((t1 : Int), (k1 : Int)) → (formS p (runS p b) == formS p ot) = false ∧ sameS p b t = false))
    (HI17 : Hid (CmI p f w2.heap.size (n1 + 1) w2 (.slice f1 f.length f3) (.slice bo b.length bc) b w17)) (HXB17 : Hid (w17.heap[n13]? = some (.cells (resCells ot (.slice j1 ot.steps.length j3) (.slice o1 p.length o3)) 37 (0, 0))))
    (HP17 : Hid (w17.ownsRow n12 48 2 (.slice j1 ot.steps.length j3) ot.steps.length (flatS ot.steps)))
    (HY : Hid ((w17.cell? ⟨n5, 0, none⟩ = some (.int .i64 (t1 : Int)) ∧ w17.cell? ⟨n5, 1, none⟩ = some (.int .i64 (k1 : Int))) ∧ w17.cell? ⟨n5 + 1, 0, none⟩ = some (.int .i64 (t2 : Int)) ∧ w17.cell? ⟨n5 + 1, 1, none⟩ = some (.int .i64 (k2 : Int))))
    {K : Act → World → Prop} {Q' : Exit → Act → World → Prop} {c0 c1 c2 c3 c4 c5 c6 c10 c12 c17 c18 c19 c20 c24 c25 c26 c28 c30 c31 c32 c33 c34 c35 c36 c37 c38 c39 c40 c41 c42 c43 c44 c45 c46 c47 c48 c49 c50 c51 c52 c53 c54 c55 c56 c57 c58 c59 c60 c61 c62 c63 c64 c65 c66 c67 c68 c69 c70 c71 c72 c73 c74 c75 c76 c77 c78 c79 c80 c81 c82 c83 c84 c85 c86 c87 c88 c89 c90 c91 c92 c93 c94 c95 c96 c97 c98 c99 c100 c101 c102 c103 c104 c105 c106 c107 c108 c109 c110 c111 c112 c113 c114 c115 c116 c117 c118 c119 c120 c121 c122 c123 c124 c125 c126 c127 c128 c129 c130 c131 c132 c133 c134 c135 c136 c137 c138 c139 c140 c141 c142 c143 c144 c145 c146 c147 c148 c149 c150 c151 c152 c153 c154 c155 c156 c157 c158 c159 c160 c161 c162 c163 c164 c165 c166 c167 c168 c169 c170 c171 c172 c173 c174 c175 c176 c177 c178 c179 c180 c181 c182 c183 c184 c185 c186 c187 c188 c189 c190 c191 c192 c193 c194 c195 c196 c197 c198 c199 c200 c201 c202 c203 c204 c205 c206 c207 c208 c209 c210 c211 c212 c213 c214 c215 c216 c217 c218 c219 c220 c221 c222 c223 c224 c225 c226 c227 c228 c229 c230 c231 c232 c233 c234 c235 c236 c237 c238 c239 c240 c241 c242 c243 c244 c245 c246 c247 c248 c249 c250 c251 c252 c253 c254 c255 c256 c257 c258 c259 : Value}
    (HK : Hid (∀ {z6 z17 z18 z19 z20 z21 z22 z23 z24 z25 z26 z27 z28 z29 z30 z102 z103 z104 z105 z106 z107 z108 z109 z110 z111 z112 z113 z114 z115 z116 z117 z118 z119 z120 z121 z122 z123 z124 z125 z126 z127 z128 z129 z130 z131 z132 z133 z134 z135 z136 z137 z138 z139 z140 z141 z142 z143 z144 z145 z146 z147 z148 z149 z150 z151 z152 z153 z154 z155 z156 z157 z158 z159 z160 z161 z162 z163 z164 z165 z166 z167 z168 z169 z170 z171 z172 z173 z174 z175 z176 z177 z178 z179 z180 z181 z182 z183 z184 z185 z186 z187 z188 z189 z190 z191 z192 z193 z194 z195 z196 z197 z198 z199 z200 z201 z202 z203 z204 z205 z206 z207 z208 z209 z210 z211 z212 z213 z214 z215 z216 z217 z218 z219 z220 z221 z222 z223 z224 z225 z226 z227 z228 z229 z230 z231 z232 z233 z234 z235 z236 z237 z238 z239 z240 z241 z242 z243 z244 z245 z246 z247 z248 z249 z250 z251 z252 z253 z254 z255 z256 z257 z258 z259 : Value} (t2 : List Int) (bo2 : Option Addr) (L bc2 : Nat) (w' : World), L = t2.length → L ≤ 200 → CmI p f w2.heap.size (n1 + 1) w2 (.slice f1 f.length f3) (.slice bo2 L bc2) t2 w' → K ⟨#[c0, c1, c2, c3, c4, c5, z6, .pointer (some ⟨n1, 0, none⟩), .slice bo2 L bc2, .pointer (some ⟨w2.heap.size, 0, none⟩), c10, .slice f1 f.length f3, c12, .int .i64 (i : Int), .int .i64 (k : Int), .pointer (some ⟨n5, 0, none⟩), .pointer (some ⟨n5 + 1, 0, none⟩), z17, z18, z19, z20, z21, z22, z23, z24, z25, z26, z27, z28, z29, z30, c31, c32, c33, c34, c35, c36, c37, c38, c39, c40, c41, c42, c43, c44, c45, c46, c47, c48, c49, c50, c51, c52, c53, c54, c55, c56, c57, c58, c59, c60, c61, c62, c63, c64, c65, c66, c67, c68, c69, c70, c71, c72, c73, c74, c75, c76, c77, c78, c79, c80, c81, c82, c83, c84, c85, c86, c87, c88, c89, c90, c91, c92, c93, c94, c95, c96, c97, c98, c99, c100, c101, z102, z103, z104, z105, z106, z107, z108, z109, z110, z111, z112, z113, z114, z115, z116, z117, z118, z119, z120, z121, z122, z123, z124, z125, z126, z127, z128, z129, z130, z131, z132, z133, z134, z135, z136, z137, z138, z139, z140, z141, z142, z143, z144, z145, z146, z147, z148, z149, z150, z151, z152, z153, z154, z155, z156, z157, z158, z159, z160, z161, z162, z163, z164, z165, z166, z167, z168, z169, z170, z171, z172, z173, z174, z175, z176, z177, z178, z179, z180, z181, z182, z183, z184, z185, z186, z187, z188, z189, z190, z191, z192, z193, z194, z195, z196, z197, z198, z199, z200, z201, z202, z203, z204, z205, z206, z207, z208, z209, z210, z211, z212, z213, z214, z215, z216, z217, z218, z219, z220, z221, z222, z223, z224, z225, z226, z227, z228, z229, z230, z231, z232, z233, z234, z235, z236, z237, z238, z239, z240, z241, z242, z243, z244, z245, z246, z247, z248, z249, z250, z251, z252, z253, z254, z255, z256, z257, z258, z259], []⟩ w')) :
    Code.wp Tryd.prog (tailOf Tryd.f10 28) (Exit.inBlock 1 (Exit.then K Q')) ⟨#[c0, c1, c2, c3, c4, c5, c6, .pointer (some ⟨n1, 0, none⟩), .slice bo b.length bc, .pointer (some ⟨w2.heap.size, 0, none⟩), c10, .slice f1 f.length f3, c12, .int .i64 (i : Int), .int .i64 (k : Int), .pointer (some ⟨n5, 0, none⟩), .pointer (some ⟨n5 + 1, 0, none⟩), c17, c18, c19, c20, .bool false, .slice (some ⟨tg, 0, none⟩) b.length tc, .pointer (some ⟨n13, 0, none⟩), c24, c25, c26, .bool IS, c28, .bool EQ, c30, c31, c32, c33, c34, c35, c36, c37, c38, c39, c40, c41, c42, c43, c44, c45, c46, c47, c48, c49, c50, c51, c52, c53, c54, c55, c56, c57, c58, c59, c60, c61, c62, c63, c64, c65, c66, c67, c68, c69, c70, c71, c72, c73, c74, c75, c76, c77, c78, c79, c80, c81, c82, c83, c84, c85, c86, c87, c88, c89, c90, c91, c92, c93, c94, c95, c96, c97, c98, c99, c100, c101, c102, c103, c104, c105, c106, c107, c108, c109, c110, c111, c112, c113, c114, c115, c116, c117, c118, c119, c120, c121, c122, c123, c124, c125, c126, c127, c128, c129, c130, c131, c132, c133, c134, c135, c136, c137, c138, c139, c140, c141, c142, c143, c144, c145, c146, c147, c148, c149, c150, c151, c152, c153, c154, c155, c156, c157, c158, c159, c160, c161, c162, c163, c164, c165, c166, c167, c168, c169, c170, c171, c172, c173, c174, c175, c176, c177, c178, c179, c180, c181, c182, c183, c184, c185, c186, c187, c188, c189, c190, c191, c192, c193, c194, c195, c196, c197, c198, c199, c200, c201, c202, c203, c204, c205, c206, c207, c208, c209, c210, c211, c212, c213, c214, c215, c216, c217, c218, c219, c220, c221, c222, c223, c224, c225, c226, c227, c228, c229, c230, c231, c232, c233, c234, c235, c236, c237, c238, c239, c240, c241, c242, c243, c244, c245, c246, c247, c248, c249, c250, c251, c252, c253, c254, c255, c256, c257, c258, c259], []⟩ w17 := by
  conv => arg 2; whnf
  obtain ⟨z0, _, _, z3, -⟩ := nine_cells HXB17.out
  obtain ⟨⟨y0, y1⟩, y2, y3⟩ := HY.out
  have q0 : (b.length : Int) ≤ 200 := by omega
  have v0 : (0 : Int) ≤ (k : Int) := by omega
  have v1 : (k : Int) + 1 < b.length := by omega
  have v2 : (k : Int) < b.length := by omega
  have hfm := HI17.out.fm
  have HFM := hide hfm
  clear hfm
  go_upto_region 34 with fail
  by_cases hk2 : ot.kind = 2
  · rw [hk2] at z0
    go_quiet (fail)
    go_wp2_with fail
    exact HK.out b _ _ _ _ rfl hb (HI17.out.grow (grown_dn (grown_refl _ _) _))
  · have hk2a : (ot.kind != 2) = true := by simpa using hk2
    have hk2b : (ot.kind == 2) = false := by simpa using hk2
    by_cases hsl : ot.steps.length = b.length
    · obtain ⟨xg, hxg, _, d0, d1⟩ := step_cells HP17.out rfl (by omega : k < ot.steps.length)
      obtain ⟨xg', hxg', _, d2, d3⟩ := step_cells HP17.out rfl (by omega : k + 1 < ot.steps.length)
      subst hxg
      simp only [Option.some.injEq, Addr.mk.injEq, and_true] at hxg'
      subst hxg'
      have HNO2 := hide (HNO.out hk2 hsl)
      rw [List.getElem?_eq_getElem (by omega : k < ot.steps.length), List.getElem?_eq_getElem (by omega : k + 1 < ot.steps.length)] at HNO2
      generalize ot.steps[k] = sa at *
      generalize ot.steps[k + 1] = sb at *
      obtain ⟨A1, B1⟩ := sa
      obtain ⟨A2, B2⟩ := sb
      simp only at d0 d1 d2 d3
      rw [hsl] at z3
      have hsl' : ((b.length : Int) == (b.length : Int)) = true := by simp
      clear hk2 hsl HNO
      by_cases x1 : A1 = (t2 : Int)
      · by_cases x2 : B1 = (k2 : Int)
        · by_cases x3 : A2 = (t1 : Int)
          · by_cases x4 : B2 = (k1 : Int)
            · subst x1
              subst x2
              subst x3
              subst x4
              have hno := HNO2.out rfl rfl
              have hEQ : EQ = false := by rw [HEQ.out, ← HFM.out]; exact hno.1
              have hIS : IS = false := by rw [HIS.out]; exact hno.2
              rw [hEQ, hIS]
              clear hno HNO2 HEQ HIS hEQ hIS
              go_quiet (fail)
              go_wp2_with fail
              exact HK.out b _ _ _ _ rfl hb (HI17.out.grow (grown_dn (grown_refl _ _) _))
            · subst x1
              subst x2
              subst x3
              have x4' : (B2 == (k1 : Int)) = false := by simpa using x4
              clear x4 HNO2
              go_quiet (fail)
              go_wp2_with fail
              exact HK.out b _ _ _ _ rfl hb (HI17.out.grow (grown_dn (grown_refl _ _) _))
          · subst x1
            subst x2
            have x3' : (A2 == (t1 : Int)) = false := by simpa using x3
            clear x3 HNO2
            go_quiet (fail)
            go_wp2_with fail
            exact HK.out b _ _ _ _ rfl hb (HI17.out.grow (grown_dn (grown_refl _ _) _))
        · subst x1
          have x2' : (B1 == (k2 : Int)) = false := by simpa using x2
          clear x2 HNO2
          go_quiet (fail)
          go_wp2_with fail
          exact HK.out b _ _ _ _ rfl hb (HI17.out.grow (grown_dn (grown_refl _ _) _))
      · have x1' : (A1 == (t2 : Int)) = false := by simpa using x1
        clear x1 HNO2
        go_quiet (fail)
        go_wp2_with fail
        exact HK.out b _ _ _ _ rfl hb (HI17.out.grow (grown_dn (grown_refl _ _) _))
    · have hsl' : ((ot.steps.length : Int) == (b.length : Int)) = false := by simp; omega
      clear hk2 hsl
      go_quiet (fail)
      go_wp2_with fail
      exact HK.out b _ _ _ _ rfl hb (HI17.out.grow (grown_dn (grown_refl _ _) _))

end Go.Proofs.YtklenjmfalljgaaDoor
