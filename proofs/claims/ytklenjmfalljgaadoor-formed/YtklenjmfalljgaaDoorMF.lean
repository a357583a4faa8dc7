/- Proved: rerunkeep.Formed answers true and never panics, whatever its arguments are: no condition. -/
import Derived.Test.YtklenjmfalljgaaDoorME
import Derived.Deep.DeepCutAuto
import Derived.Deep.Slices
import Derived.Test.YtklenjmfalljgaaDoorRows
import Derived.Deep.DeepHandedRow
import Derived.Deep.DeepWitnessRowRef
import Derived.LaidMore
import Derived.Carry
import Derived.ProofKit
import Derived.OpenShut
import Derived.Test.YtklenjmfalljgaaDoorCards
import Derived.Test.YtklenjmfalljgaaDoorTie

/- The walk of Renamed. -/
namespace Go.Proofs.YtklenjmfalljgaaDoor
open Go.RowKit
attribute [local go_sem] Go.World.cell?_alloc_some run_eq4

/-- The threads, turned by d places. -/
def turnP (p : List (List Ins)) (d : Nat) : List (List Ins) := (List.range p.length).map fun j => codeOf p (turnF p.length d j)
theorem turnP_moved (p : List (List Ins)) (d : Nat) : Moved p (turnP p d) (turnF p.length d) := by
  refine ⟨by simp [turnP], fun t ht => ?_⟩
  have h : t < (turnP p d).length := by simpa [turnP] using ht
  rw [codeOf_get h]
  simp [turnP]
theorem turnP_valid {p : List (List Ins)} (h : vProg p = true) {d : Nat} (hd : d < p.length) : vProg (turnP p d) = true := by
  have hl := vProg_len h
  simp only [vProg, Bool.and_eq_true, decide_eq_true_eq, List.all_eq_true]
  refine ⟨by simp [turnP]; omega, by simp [turnP]; omega, fun c hc => ?_⟩
  simp only [turnP, List.mem_map, List.mem_range] at hc
  obtain ⟨j, hj, rfl⟩ := hc
  exact vProg_code h ((turn_ren hl.1 hl.2 hd).lt j hj)

/-- In the midst of the first loop. -/
def TurnAt (w3 : World) (V : Nat → Value) (n d t : Nat) (w' : World) : Prop :=
  ∃ tv, w'.heap[w3.heap.size]? = some (.cells #[tv] 25 (0, 0)) ∧ w'.ownsRow (w3.heap.size + 1) 29 1 tv t ((List.range t).map fun j => V (turnF n d j)) ∧ w3.grownBy w' none ∧ w3.heap.size + 1 ≤ w'.heap.size

theorem wrap_small {x : Int} (h0 : 0 ≤ x) (h1 : x ≤ 1000000) : IntKind.i64.wrap x = x := by
  simp only [IntKind.wrap, IntKind.signed, IntKind.bits]
  have e : x % (2 ^ 64 : Int) = x := Int.emod_eq_of_lt h0 (by omega)
  simp only [e]
  rw [if_neg]
  simp
  omega
theorem tmod_turn {n d t : Nat} : Int.tmod ((t : Int) + (d : Int)) (n : Int) = ((turnF n d t : Nat) : Int) := by
  rw [← Int.natCast_add, ← Int.ofNat_tmod]; rfl
theorem tmod_turnG {n d x : Nat} (h : d ≤ n) : Int.tmod ((x : Int) + (n : Int) - (d : Int)) (n : Int) = ((turnG n d x : Nat) : Int) := by
  rw [← Int.natCast_add, ← Int.natCast_sub (by omega), ← Int.ofNat_tmod]; rfl

theorem regsF_get (s : St) : ∀ (n t : Nat), t < n → (regsF n s)[t * 4]? = some (.int .i64 (s.regs t 0)) ∧ (regsF n s)[t * 4 + 1]? = some (.int .i64 (s.regs t 1)) ∧ (regsF n s)[t * 4 + 2]? = some (.int .i64 (s.regs t 2)) ∧ (regsF n s)[t * 4 + 3]? = some (.int .i64 (s.regs t 3))
  | 0, t, h => by omega
  | n + 1, t, h => by
    have e : regsF (n + 1) s = regsF n s ++ [.int .i64 (s.regs n 0), .int .i64 (s.regs n 1), .int .i64 (s.regs n 2), .int .i64 (s.regs n 3)] := by
      unfold regsF; rw [List.range_succ, List.flatMap_append]; simp
    have hl := regsF_len n s
    rw [e]
    by_cases ht : t < n
    · obtain ⟨h0, h1, h2, h3⟩ := regsF_get s n t ht
      refine ⟨?_, ?_, ?_, ?_⟩
      · rw [List.getElem?_append_left (by omega)]; exact h0
      · rw [List.getElem?_append_left (by omega)]; exact h1
      · rw [List.getElem?_append_left (by omega)]; exact h2
      · rw [List.getElem?_append_left (by omega)]; exact h3
    · have : t = n := by omega
      subst this
      refine ⟨?_, ?_, ?_, ?_⟩
      · rw [List.getElem?_append_right (by omega), hl, Nat.sub_self]; rfl
      · rw [List.getElem?_append_right (by omega), hl, Nat.add_sub_cancel_left]; rfl
      · rw [List.getElem?_append_right (by omega), hl, Nat.add_sub_cancel_left]; rfl
      · rw [List.getElem?_append_right (by omega), hl, Nat.add_sub_cancel_left]; rfl

theorem regs_cells {w : World} {base : Nat} {ao : Option Addr} {n c : Nat} {s : St} (h : w.ownsRow base 34 4 (.slice ao n c) n (regsF n s)) {t : Nat} (ht : t < n) :
    ∃ g, ao = some ⟨g, 0, none⟩ ∧ w.cell? ⟨g, t * 4, none⟩ = some (.int .i64 (s.regs t 0)) ∧ w.cell? ⟨g, t * 4 + 1, none⟩ = some (.int .i64 (s.regs t 1)) ∧ w.cell? ⟨g, t * 4 + 2, none⟩ = some (.int .i64 (s.regs t 2)) ∧ w.cell? ⟨g, t * 4 + 3, none⟩ = some (.int .i64 (s.regs t 3)) := by
  obtain ⟨g, cap, e, _, _⟩ := h.form (by omega)
  simp at e
  obtain ⟨rfl, rfl⟩ := e
  obtain ⟨h0, h1, h2, h3⟩ := regsF_get s n t ht
  exact ⟨g, rfl, by rw [h.cellAt _ (by omega)]; exact h0, by rw [h.cellAt _ (by omega)]; exact h1, by rw [h.cellAt _ (by omega)]; exact h2, by rw [h.cellAt _ (by omega)]; exact h3⟩

theorem int_cell' {w : World} {base : Nat} {ao : Option Addr} {n c m : Nat} {l : List Int} (h : w.ownsRow base 3 1 (.slice ao n c) m (ints l)) (hm : m = l.length) {j : Nat} (hj : j < l.length) :
    ∃ g, ao = some ⟨g, 0, none⟩ ∧ g < w.heap.size ∧ w.cell? ⟨g, j, none⟩ = some (.int .i64 l[j]) := by
  obtain ⟨g, cap, e, _, hlt⟩ := h.form (by omega)
  simp at e
  obtain ⟨rfl, rfl, rfl⟩ := e
  exact ⟨g, rfl, hlt, by rw [h.cellAt _ (by omega)]; simp [ints, hj]⟩

set_option maxHeartbeats 8000000 in
set_option maxRecDepth 100000 in
theorem renamed_m (raw : List (List Int)) (ch : List Int) (by_ : Int) (rawv chv : Value) (w : World) (hS : ShpAt w) (hR : RawAt w rawv raw) (hbR : ∀ t (ht : t < raw.length) k (hk : k < raw[t].length), isInt raw[t][k])
    (hC : IntsAt w.heap.size w chv ch) (hbC : ∀ k (hk : k < ch.length), -9223372036854775808 ≤ ch[k] ∧ ch[k] ≤ 9223372036854775807) (hby : isInt by_) :
    Calls Tryd.prog 4 #[rawv, chv, .int .i64 by_] w fun e w' => e = .returned (.bool true) ∧ w.grownBy w' none := by
  obtain ⟨i0, hi0, hz0, hz1, hz2⟩ := info_parts info_int
  obtain ⟨i1, hi1, hy0, hy1, hy2⟩ := info_parts info_code
  have HSh := hide hS
  have HC := hide hC
  have HBC := hide hbC
  have HA := hide hby
  have HPR := hide (program_m raw rawv w hR hbR)
  have hvp := progN_valid raw
  clear hS hR hbR hC hbC hby
  generalize progN raw = p at *
  have HVP := hide hvp
  have hlen := vProg_len hvp
  clear hvp
  go_enter Tryd.func4, Tryd.ntmps4
  go_wp2_with fail
  refine HPR.out.mono ?_
  clear HPR
  rintro e w1 ⟨tv, rfl, hP, hg1⟩
  have hform := hP.form
  obtain ⟨pao, pcap, htv⟩ := hform
  have htv2 : tv = .slice pao p.length pcap := by simpa using htv
  subst htv2
  have HP1 := hide hP
  have HG1 := hide hg1
  have hs1 := hg1.size
  clear hP hg1 htv
  go_wp2_with fail
  have HSC := hide (schedule_m p ch (.agg #[.slice pao p.length pcap]) chv (w1.alloc (.cells #[.slice pao p.length pcap] 25)) (HSh.out.pres (pres_grown (grown_alloc HG1.out))) HVP.out (HP1.out.pres (pres_grown (grown_alloc (grown_refl _ _)))) ((HC.out.pres (pres_grown (grown_alloc HG1.out))).mono (by simp; omega)) HBC.out)
  refine HSC.out.mono ?_
  clear HSC
  rintro e w2 ⟨sv, rv, a, rfl, hrow, ⟨st, gt, rfl, ho1, ho2⟩, hsd, h200, _, hg2⟩
  have HSD := hide hsd
  have hsz2 : w1.heap.size + 1 ≤ w2.heap.size := by have := hg2.size; simpa using this
  obtain ⟨s1, s2, s3, rfl⟩ := owns_form hrow
  have e2 := owns_lenq hrow
  subst e2
  obtain ⟨x1, x2, x3, rfl⟩ := owns_form ho1
  have e3 := (owns_lenq ho1).trans hsd.2
  subst e3
  obtain ⟨y1, y2, y3, rfl⟩ := owns_form ho2
  have e4 := owns_lenq ho2
  subst e4
  have HRow := hide hrow
  have HO2 := hide ho2
  have HPB : Hid (w2.heap[w1.heap.size]? = some (.cells #[.slice pao p.length pcap] 25 (0, 0))) := by
    unfold Hid; rw [hg2.block _ (by simp) (by simp)]; exact heap_alloc_new w1 _
  have HG2 : Hid (w.grownBy w2 none) := grown_trans (grown_alloc HG1.out) hg2
  have HGW : Hid ((w1.alloc (.cells #[.slice pao p.length pcap] 25)).grownBy w2 none) := hg2
  clear hrow ho1 ho2 hsd hg2
  obtain ⟨d, hd⟩ := Int.eq_ofNat_of_zero_le (pickN_range by_ p.length (by omega)).1
  have hd2 : d < p.length := by have := (pickN_range by_ p.length (by omega)).2; omega
  have HPK := hide (pick_m by_ p.length (by omega) (by omega) HA.out.1 HA.out.2)
  rw [hd] at HPK
  clear hd
  have R := turn_ren hlen.1 hlen.2 hd2
  obtain ⟨pg, po, hpao⟩ : ∃ g o, pao = some ⟨g, o, none⟩ := by
    obtain ⟨ao, cap, e, h⟩ := HP1.out
    simp at e
    obtain ⟨g, o, e1, _⟩ := h 0 (by omega)
    exact ⟨g, o, e.1.trans e1⟩
  subst hpao
  obtain ⟨V, hV⟩ := Deep.choose_lt (α := Value) (n := p.length) (p := fun j v => w1.cell? ⟨pg, po + j, none⟩ = some v ∧ CodeAt w1 v (codeOf p j)) (fun j hj => by
    obtain ⟨ao, cap, e, h⟩ := HP1.out
    simp at e
    obtain ⟨g, o, e1, rv, e2, e3⟩ := h j hj
    rw [← e.1] at e1
    simp at e1
    obtain ⟨rfl, rfl⟩ := e1
    exact ⟨rv, e2, by rw [codeOf_get hj]; exact e3⟩)
  have HV := hide hV
  clear hV
  have hpb2 : w2.cell? ⟨w1.heap.size, 0, none⟩ = some (.slice (some ⟨pg, po, none⟩) p.length pcap) := by simp [World.cell?, HPB.out]
  go_wp2_with fail
  refine (HPK.out _).mono ?_
  clear HPK
  rintro e w3 ⟨rfl, rfl⟩
  generalize hw3 : w2.alloc (Obj.cells #[Value.int IntKind.i64 (runS p a).kind, Value.int IntKind.i64 (runS p a).thread, Value.int IntKind.i64 (runS p a).at_, Value.slice x1 a.length x3, Value.int IntKind.i64 ((runS p a).st.vars 0), Value.int IntKind.i64 ((runS p a).st.vars 1), Value.int IntKind.i64 ((runS p a).st.vars 2), Value.int IntKind.i64 ((runS p a).st.vars 3), Value.slice y1 p.length y3] 37) = w3
  have hsz3 : w2.heap.size < w3.heap.size := by rw [← hw3]; simp
  have HG23 : Hid (w2.grownBy w3 none) := by unfold Hid; rw [← hw3]; exact grown_alloc (grown_refl _ _)
  have HRB : Hid (w3.heap[w2.heap.size]? = some (.cells (resCells (runS p a) (.slice x1 a.length x3) (.slice y1 p.length y3)) 37 (0, 0))) := by
    unfold Hid; rw [← hw3]; exact heap_alloc_new w2 _
  have hpb : w3.cell? ⟨w1.heap.size, 0, none⟩ = some (.slice (some ⟨pg, po, none⟩) p.length pcap) := pres_grown HG23.out _ _ hpb2
  have HG13 : Hid (w1.grownBy w3 none) := grown_trans (grown_trans (grown_alloc (grown_refl _ _)) HGW.out) HG23.out
  clear hw3 hpb2
  go_wp2_with fail
  go_loopw [14] (fun i w' => ∃ t : Nat, t ≤ p.length ∧ i = .int .i64 t ∧ Hid (TurnAt w3 V p.length d t w')) (fun i _ => p.length - (intOf i).toNat)
  case atStart =>
    exact ⟨0, Nat.zero_le _, rfl, .slice none 0 0, heap_alloc_new w3 _, ⟨rfl, Or.inl ⟨rfl, rfl⟩⟩, grown_alloc (grown_refl _ _), by simp⟩
  case round =>
    obtain ⟨t, ht, rfl, HT⟩ := hrel
    obtain ⟨w4, hw4⟩ : ∃ w4, w4 = wr := ⟨_, rfl⟩
    subst hw4
    by_cases hlt : t < p.length
    · obtain ⟨tv, j1, j2, j3, j4⟩ := HT.out
      have HXS : Hid (((List.range (t + 1)).map fun j => V (turnF p.length d j)) = ((List.range t).map fun j => V (turnF p.length d j)) ++ [V (turnF p.length d t)]) := by
        unfold Hid; rw [List.range_succ, List.map_append]; rfl
      have hx := R.lt t hlt
      have hcv := (HV.out _ hx).1
      have hpgl := World.block_lt_of_cell? _ _ hcv
      simp only at hpgl
      obtain ⟨la, ln, lc, hVf⟩ : ∃ la ln lc, V (turnF p.length d t) = .slice la ln lc := by
        obtain ⟨_, la, lc, e, _⟩ := HV.out _ hx
        exact ⟨la, _, lc, e⟩
      have hm := tmod_turn (n := p.length) (d := d) (t := t)
      generalize ((List.range t).map fun j => V (turnF p.length d j)) = xs at *
      generalize turnF p.length d t = x at *
      obtain ⟨t1, t2, t3, rfl⟩ := owns_form j2
      have et := owns_lenq j2
      subst et
      have c1 : w4.cell? ⟨w1.heap.size, 0, none⟩ = some (.slice (some ⟨pg, po, none⟩) p.length pcap) := pres_grown j3 _ _ hpb
      have c2 : w4.cell? ⟨pg, po + x, none⟩ = some (.slice la ln lc) := by rw [← hVf]; exact pres_grown j3 _ _ (pres_grown HG13.out _ _ hcv)
      have cq : w4.cell? ⟨w3.heap.size, 0, none⟩ = some (.slice t1 t2 t3) := by simp [World.cell?, j1]
      have cqf : w4.frozen? ⟨w3.heap.size, 0, none⟩ = false := by simp [World.frozen?, j1]
      rw [hVf] at HXS
      have J1 := hide j1
      have J2 := hide j2
      have J3 := hide j3
      clear j1 j2 j3 hcv hVf
      have q0 : (0 : Int) ≤ (t2 : Int) := by omega
      have q1 : (t2 : Int) < p.length := by omega
      have q2 : (0 : Int) ≤ (x : Int) := by omega
      have q3 : (x : Int) < p.length := by omega
      have q4 : (p.length : Int) ≠ 0 := by omega
      have q5 : (d : Int) < 4 := by omega
      have q6 : (p.length : Int) ≤ 4 := by omega
      have q7 : (0 : Int) ≤ (d : Int) := by omega
      have q8 : p ≠ [] := fun e => by rw [e] at q4; simp at q4
      have q9 : IntKind.i64.wrap ((t2 : Int) + (d : Int)) = (t2 : Int) + (d : Int) := wrap_small (by omega) (by omega)
      go_wp2_with fail
      refine wp_region_head (fun u => u.cell? ⟨w3.heap.size, 0, none⟩ = some (.slice t1 t2 t3) ∧ u.cell? ⟨w1.heap.size, 0, none⟩ = some (.slice (some ⟨pg, po, none⟩) p.length pcap) ∧ u.cell? ⟨pg, po + x, none⟩ = some (.slice la ln lc)) 14 (by kernel_rfl) (by kernel_rfl) ?_ ?_
      · refine ⟨?_, ?_, ?_⟩ <;> simp [go_sem, c1, c2, cq]
      intro hHeld
      refine wpHead_take (i := 0) (v := ?vv0) rfl (by kernel_rfl) (fun _ _ _ h => h) (Or.inl ⟨by rfl, ?hy0⟩) (by assumption) ?rest0
      case hy0 => (intro u hu; obtain ⟨g1, g2, g3⟩ := hu; go_simp; try with_reducible rfl)
      simp only [Act.put, List.setIfInBounds_toArray]
      refine wpHead_take (i := 1) (v := ?vv1) rfl (by kernel_rfl) (fun _ _ _ h => h) (Or.inl ⟨by rfl, ?hy1⟩) (by assumption) ?rest1
      case hy1 => (intro u hu; obtain ⟨g1, g2, g3⟩ := hu; go_simp; try with_reducible rfl)
      simp only [Act.put]
      refine wpHead_take (i := 2) (v := ?vv2) rfl (by kernel_rfl) (fun _ _ _ h => h) (Or.inl ⟨by rfl, ?hy2⟩) (by assumption) ?rest2
      case hy2 => (intro u hu; obtain ⟨g1, g2, g3⟩ := hu; go_simp; try with_reducible rfl)
      simp only [Act.put]
      refine wpHead_take (i := 3) (v := ?vv3) rfl (by kernel_rfl) (fun _ _ _ h => h) (Or.inl ⟨by rfl, ?hy3⟩) (by assumption) ?rest3
      case hy3 => (intro u hu; obtain ⟨g1, g2, g3⟩ := hu; go_simp; try with_reducible rfl)
      simp only [Act.put]
      refine wpHead_take (i := 4) (v := ?vv4) rfl (by kernel_rfl) (fun _ _ _ h => h) (Or.inl ⟨by rfl, ?hy4⟩) (by assumption) ?rest4
      case hy4 => (intro u hu; obtain ⟨g1, g2, g3⟩ := hu; go_simp; try with_reducible rfl)
      simp only [Act.put]
      refine wpHead_take (i := 5) (v := ?vv5) rfl (by kernel_rfl) (fun _ _ _ h => h) (Or.inl ⟨by rfl, ?hy5⟩) (by assumption) ?rest5
      case hy5 => (intro u hu; obtain ⟨g1, g2, g3⟩ := hu; go_simp; try with_reducible rfl)
      simp only [Act.put]
      refine wpHead_take (i := 6) (v := ?vv6) rfl (by kernel_rfl) (fun _ _ _ h => h) (Or.inl ⟨by rfl, ?hy6⟩) (by assumption) ?rest6
      case hy6 => (intro u hu; obtain ⟨g1, g2, g3⟩ := hu; go_simp; try with_reducible rfl)
      simp only [Act.put]
      refine wpHead_take (i := 7) (v := ?vv7) rfl (by kernel_rfl) (fun _ _ _ h => h) (Or.inl ⟨by rfl, ?hy7⟩) (by assumption) ?rest7
      case hy7 => (intro u hu; obtain ⟨g1, g2, g3⟩ := hu; go_simp; try with_reducible rfl)
      simp only [Act.put]
      refine wpHead_take (i := 8) (v := ?vv8) rfl (by kernel_rfl) (fun _ _ _ h => h) (Or.inl ⟨by rfl, ?hy8⟩) (by assumption) ?rest8
      case hy8 => (intro u hu; obtain ⟨g1, g2, g3⟩ := hu; go_simp; try with_reducible rfl)
      simp only [Act.put]
      refine wpHead_take (i := 9) (v := ?vv9) rfl (by kernel_rfl) (fun _ _ _ h => h) (Or.inl ⟨by rfl, ?hy9⟩) (by assumption) ?rest9
      case hy9 => (intro u hu; obtain ⟨g1, g2, g3⟩ := hu; go_simp; try with_reducible rfl)
      simp only [Act.put]
      refine wpHead_take (i := 10) (v := ?vv10) rfl (by kernel_rfl) (fun _ _ _ h => h) (Or.inl ⟨by rfl, ?hy10⟩) (by assumption) ?rest10
      case hy10 => (intro u hu; obtain ⟨g1, g2, g3⟩ := hu; go_simp; try with_reducible rfl)
      simp only [Act.put]
      refine wpHead_alone (i := 11) rfl (by kernel_rfl) (by kernel_rfl) (by rfl) ?_
      intro K15 hK15
      have HK15 := hide hK15
      clear hK15
      go_simp
      have hgA : w4.grownBy ((w4.alloc (.cells #[.slice la ln lc] 29)).drew) none := grown_drew (grown_alloc (grown_refl _ _))
      have hS5 : (w4.alloc (.cells #[.slice la ln lc] 29)).drew.cell? ⟨w3.heap.size, 0, none⟩ = some (.slice t1 t2 t3) ∧ (w4.alloc (.cells #[.slice la ln lc] 29)).drew.cell? ⟨w1.heap.size, 0, none⟩ = some (.slice (some ⟨pg, po, none⟩) p.length pcap) ∧ (w4.alloc (.cells #[.slice la ln lc] 29)).drew.cell? ⟨pg, po + x, none⟩ = some (.slice la ln lc) :=
        ⟨pres_grown hgA _ _ cq, pres_grown hgA _ _ c1, pres_grown hgA _ _ c2⟩
      refine HK15.out _ _ hS5 ?_
      clear HK15
      have HGA := hide hgA
      clear hgA
      have h63 : t2 + 1 ≤ maxLen := by unfold maxLen; omega
      have hby : (t2 + 1) * 24 ≤ 140737488355328 := by omega
      refine wpHead_alone (i := 12) rfl (by kernel_rfl) (by kernel_rfl) (by rfl) ?_
      intro K16 hK16
      have HK16 := hide hK16
      clear hK16
      refine wp_append_lies _ (.tmp 44) (.tmp 54) 23 (by rfl) (w3.heap.size + 1) 29 i1 _ 1 24 Tryd.underlying23 hi1 hy0 hy1 hy2 rfl (by omega) (.slice t1 t2 t3) t2 xs (by rfl) (owns_grown J2.out HGA.out (fun _ e => by cases e)) ⟨w4.heap.size, 0, none⟩ 1 1 [.slice la ln lc] (by rfl) (by rfl) (World.news_of_block (cs := #[.slice la ln lc]) (t := 29) (fr := (0, 0)) (heap_alloc_new w4 _)) (by simp [Value.oneCell']) (by omega) h63 hby (by simp; omega) (w4.heap.size + 1) (by simp) ?_
      intro g2 cap2 w5 hown5 hgrow hat hlt5
      have hob : ∀ q, (Value.slice t1 t2 t3).ownBlock = some q → w3.heap.size + 1 ≤ q := fun q e => owns_block J2.out q e
      have hS6 : w5.cell? ⟨w3.heap.size, 0, none⟩ = some (.slice t1 t2 t3) ∧ w5.cell? ⟨w1.heap.size, 0, none⟩ = some (.slice (some ⟨pg, po, none⟩) p.length pcap) ∧ w5.cell? ⟨pg, po + x, none⟩ = some (.slice la ln lc) := by
        obtain ⟨z1, z2, z3⟩ := hS5
        refine ⟨?_, ?_, ?_⟩
        · rw [hgrow.cell_far _ (World.block_lt_of_cell? _ _ z1) (fun e => by have := hob _ e.symm; simp only at this; omega)]; exact z1
        · rw [hgrow.cell_far _ (World.block_lt_of_cell? _ _ z2) (fun e => by have := hob _ e.symm; simp only at this; omega)]; exact z2
        · rw [hgrow.cell_far _ (World.block_lt_of_cell? _ _ z3) (fun e => by have := hob _ e.symm; simp only at this; omega)]; exact z3
      have hsz5 : w4.heap.size + 1 ≤ w5.heap.size := by have := hgrow.size; simpa using this
      have HB5 : Hid (w5.heap[w3.heap.size]? = some (.cells #[.slice t1 t2 t3] 25 (0, 0))) := by
        unfold Hid
        rw [hgrow.block _ (by have := HGA.out.size; omega) (fun e => by have := hob _ e.symm; omega), HGA.out.block _ (by omega) (by simp)]
        exact J1.out
      have HOW5 := hide hown5
      have HGR := hide hgrow
      clear hown5 hgrow hat
      refine HK16.out _ _ hS6 ?_
      clear HK16
      simp only [Act.put, List.setIfInBounds_toArray]
      refine wpHead_take (i := 13) (v := ?vv13) rfl (by kernel_rfl) (fun _ _ _ h => h) (Or.inl ⟨by rfl, ?hy13⟩) (by assumption) ?rest13
      case hy13 => (intro u hu; obtain ⟨g1, g2, g3⟩ := hu; go_simp; try with_reducible rfl)
      simp only [Act.put]
      refine wpHead_last rfl (by kernel_rfl) (by kernel_rfl) (by rfl) ?_
      obtain ⟨s1, _, _⟩ := hS6
      have s2f : w5.frozen? ⟨w3.heap.size, 0, none⟩ = false := by
        simp [World.frozen?, HB5.out]
      have HNX : Hid (TurnAt w3 V p.length d (t2 + 1) (w5.setCell ⟨w3.heap.size, 0, none⟩ (.slice (some ⟨g2, 0, none⟩) (t2 + 1) cap2))) := by
        refine ⟨.slice (some ⟨g2, 0, none⟩) (t2 + 1) cap2, ?_, ?_, grown_setNew (grown_row (grown_trans J3.out HGA.out) HGR.out (fun q e => by have := hob q e; omega)) (by omega), by simp; omega⟩
        · have := heap_setCell_same w5 w3.heap.size 0 _ _ (.slice (some ⟨g2, 0, none⟩) (t2 + 1) cap2) HB5.out
          simpa using this
        · rw [HXS.out]
          exact ownsRow_setCell_below HOW5.out (by simp) _
      clear J1 J2 J3 HOW5 HGR HGA HB5 HXS
      go_simp
      go_wp2
      go_roundw
      case rel => exact ⟨t2 + 1, by omega, by go_num, HNX⟩
      case measure => simp [intOf]; omega
    · have et : t = p.length := by omega
      have q1 : (p.length : Int) ≤ (t : Int) := by omega
      obtain ⟨tv, j1, j2, j3, j4⟩ := HT.out
      obtain ⟨t1, t2, t3, rfl⟩ := owns_form j2
      have et2 := (owns_lenq j2).trans et
      subst et2
      have HPQ : Hid (ProgAt w4 (.agg #[.slice t1 p.length t3]) (turnP p d)) := by
        rw [et] at j2
        have hl : (turnP p d).length = p.length := by simp [turnP]
        refine ⟨t1, t3, by rw [hl], fun k hk => ?_⟩
        rw [hl] at hk
        obtain ⟨g, cap, e, _, _⟩ := j2.form (by omega)
        simp at e
        obtain ⟨rfl, rfl⟩ := e
        refine ⟨g, 0, rfl, V (turnF p.length d k), ?_, ?_⟩
        · rw [Nat.zero_add, j2.cellAt k (by omega)]
          simp [hk]
        · have := ((HV.out _ (R.lt k hk)).2).pres (pres_grown (grown_trans HG13.out j3))
          simpa [turnP] using this
      have cq : w4.cell? ⟨w3.heap.size, 0, none⟩ = some (.slice t1 p.length t3) := by simp [World.cell?, j1]
      have HG34 := hide j3
      clear j1 j2 j3 HT et
      have HRN := hide (sched_range HSD.out)
      have HR4 : Hid (w4.ownsRow (w1.heap.size + 1) 3 1 (.slice s1 a.length s3) a.length (ints a)) := by
        have h := owns_grown HRow.out (grown_trans HG23.out HG34.out) (fun _ e => by cases e)
        unfold Hid
        simpa using h
      have hs14 : w1.heap.size + 1 ≤ w4.heap.size := by omega
      go_wp2_with fail
      go_loopw [15, 16] (fun lv i w' => ∃ k : Nat, k ≤ a.length ∧ i = .int .i64 k ∧ Hid (w'.ownsRow w4.heap.size 3 1 lv k (ints ((a.take k).map fun x => (turnG p.length d x.toNat : Int))) ∧ w4.grownBy w' none)) (fun _ i _ => a.length - (intOf i).toNat)
      case atStart => exact ⟨0, Nat.zero_le _, rfl, ⟨rfl, Or.inl ⟨rfl, rfl⟩⟩, grown_refl _ _⟩
      case round =>
        obtain ⟨k, hk, rfl, HL⟩ := hrel
        obtain ⟨w5, hw5⟩ : ∃ w5, w5 = wr := ⟨_, rfl⟩
        subst hw5
        by_cases hkl : k < a.length
        · obtain ⟨l1, l2⟩ := HL.out
          obtain ⟨g3, e1, _, c3⟩ := int_cell' HR4.out rfl hkl
          subst e1
          have d3 : w5.cell? ⟨g3, k, none⟩ = some (.int .i64 a[k]) := pres_grown l2 _ _ c3
          obtain ⟨r0, r1⟩ := HRN.out a[k] (List.getElem_mem hkl)
          have HXS : Hid (ints ((a.take (k + 1)).map fun x => (turnG p.length d x.toNat : Int)) = ints ((a.take k).map fun x => (turnG p.length d x.toNat : Int)) ++ [.int .i64 (turnG p.length d a[k].toNat : Int)]) := by
            unfold Hid ints; rw [List.take_succ_eq_append_getElem hkl, List.map_append, List.map_append]; rfl
          have hm := tmod_turnG (n := p.length) (d := d) (x := a[k].toNat) (by omega)
          obtain ⟨y, hy⟩ := Int.eq_ofNat_of_zero_le r0
          rw [hy] at d3 hm HXS r1
          simp only [Int.toNat_natCast] at hm HXS
          clear c3 hy r0
          generalize turnG p.length d y = z at *
          have q2 : (0 : Int) ≤ (k : Int) := by omega
          have q3 : (k : Int) < a.length := by omega
          have q4 : (p.length : Int) ≠ 0 := by omega
          have q5 : (d : Int) < p.length := by omega
          have q6 : (p.length : Int) ≤ 4 := by omega
          have q7 : (0 : Int) ≤ (d : Int) := by omega
          have q8 : p ≠ [] := fun e => by rw [e] at q4; simp at q4
          have h63 : k + 1 ≤ maxLen := by unfold maxLen; omega
          have hob := owns_block l1
          have L1 := hide l1
          have L2 := hide l2
          clear l1 l2
          go_wp2_with (at_builtin; refine wpList_append_lies _ rfl _ _ _ rfl w4.heap.size 3 i0 _ 1 8 Tryd.underlying22 hi0 hz0 hz1 hz2 rfl (by omega) u15 k (ints ((a.take k).map fun x => (turnG p.length d x.toNat : Int))) rfl (owns_alloc L1.out) ⟨w5.heap.size, 0, none⟩ 1 1 [.int .i64 z] rfl rfl (World.news_of_block (cs := #[.int .i64 z]) (t := 3) (fr := (0, 0)) (heap_alloc_new w5 _)) (by simp [Value.oneCell']) (by omega) h63 (by omega) (by simp; have := L2.out.size; omega) (w5.heap.size + 1) (by simp) ?_; intro g6 cap6 w6 hown6 hgrow hat hlt6)
          have HNX : Hid (w6.ownsRow w4.heap.size 3 1 (.slice (some ⟨g6, 0, none⟩) (k + 1) cap6) (k + 1) (ints ((a.take (k + 1)).map fun x => (turnG p.length d x.toNat : Int))) ∧ w4.grownBy w6 none) := by
            refine ⟨?_, grown_row (grown_alloc L2.out) hgrow (fun q e => hob q e)⟩
            rw [HXS.out]; exact hown6
          clear hown6 hgrow hat
          go_wp2
          go_roundw
          case rel => exact ⟨k + 1, by omega, by go_num, HNX⟩
          case measure => simp [intOf]; omega
        · have ek : k = a.length := by omega
          have q2 : (a.length : Int) ≤ (k : Int) := by omega
          obtain ⟨l1, l2⟩ := HL.out
          rw [ek, List.take_length] at l1
          obtain ⟨m1, m2, m3, rfl⟩ := owns_form l1
          have em := owns_lenq l1
          subst em
          have hll : (a.map fun x => (turnG p.length d x.toNat : Int)).length = a.length := by simp
          have HIL : Hid (IntsAt w5.heap.size w5 (.slice m1 a.length m3) (a.map fun x => (turnG p.length d x.toNat : Int))) := by
            apply owns_ints (base := w4.heap.size)
            rw [hll]; exact l1
          have HRP := hide (replay_m (turnP p d) (a.map fun x => (turnG p.length d x.toNat : Int)) (.agg #[.slice t1 p.length t3]) (.slice m1 a.length m3) w5 (HSh.out.pres (pres_grown (grown_trans (grown_trans (grown_trans HG2.out HG23.out) HG34.out) l2))) (HPQ.out.pres (pres_grown l2)) HIL.out)
          have HSR := hide (run_ren R (turnP_moved p d) HSD.out)
          have hb5 : (a.map fun x => (turnG p.length d x.toNat : Int)).length ≤ 500 := by omega
          have cq5 : w5.cell? ⟨w3.heap.size, 0, none⟩ = some (.slice t1 p.length t3) := pres_grown l2 _ _ cq
          have HG25 : Hid (w2.grownBy w5 none) := grown_trans (grown_trans HG23.out HG34.out) l2
          have HRB5 : Hid (w5.heap[w2.heap.size]? = some (.cells (resCells (runS p a) (.slice x1 a.length x3) (.slice y1 p.length y3)) 37 (0, 0))) := by
            unfold Hid; rw [(grown_trans HG34.out l2).block _ hsz3 (by simp)]; exact HRB.out
          have hs5 : w2.heap.size < w5.heap.size := (Array.getElem?_eq_some_iff.1 HRB5.out).1
          clear l1 l2 ek HL cq HIL HR4 HRN HRow
          go_wp2_with fail
          refine HRP.out.mono ?_
          clear HRP
          rintro e w6 ⟨hg6, h⟩
          rcases h with ⟨_, rv6, rfl, sy, gy, rfl, ho6, hp6⟩ | ⟨h, _⟩
          case inr => exact absurd (checkRun_ok (turnP_valid HVP.out hd2) hb5) h
          obtain ⟨u1, u2, u3, rfl⟩ := owns_form ho6
          have hu2 := (owns_lenq ho6).trans (HSR.out.len.trans HSD.out.2)
          subst hu2
          obtain ⟨v1, v2, v3, rfl⟩ := owns_form hp6
          have htl : (turnP p d).length = p.length := by simp [turnP]
          rw [htl] at hp6
          have hv2 := owns_lenq hp6
          subst hv2
          have hr6 : w6.heap[w2.heap.size]? = some (.cells (resCells (runS p a) (.slice x1 a.length x3) (.slice y1 p.length y3)) 37 (0, 0)) := by
            rw [hg6.block _ hs5 (by simp)]; exact HRB5.out
          have HQ2 : Hid (w6.ownsRow (w1.heap.size + 1) 34 4 (.slice y1 p.length y3) p.length (regsF p.length (runS p a).st)) := by
            have h := owns_grown HO2.out (grown_trans HG25.out hg6) (fun _ e => by cases e)
            unfold Hid
            simpa using h
          have HQ6 := hide hp6
          have HEND : Hid (w.grownBy w6 none) := grown_trans (grown_trans HG2.out HG25.out) hg6
          clear ho6 hp6 hg6 cq5
          generalize runS (turnP p d) (a.map fun x => (turnG p.length d x.toNat : Int)) = o' at *
          generalize runS p a = o at *
          obtain ⟨n0, n1, n2, n3, n4, n5, n6, n7, n8, _⟩ := nine_cells hr6
          rw [← HSR.out.kind] at n0
          rw [← HSR.out.at_] at n2
          rw [← HSR.out.st.vars] at n4 n5 n6 n7
          have hs26 : w2.heap.size < w6.heap.size := (Array.getElem?_eq_some_iff.1 hr6).1
          have hne : w2.heap.size ≠ w6.heap.size := by omega
          have q4 : (p.length : Int) ≠ 0 := by omega
          have q5 : (d : Int) < p.length := by omega
          have q6 : (p.length : Int) ≤ 4 := by omega
          have q7 : (0 : Int) ≤ (d : Int) := by omega
          have q8 : p ≠ [] := fun e => by rw [e] at q4; simp at q4
          go_upto_region 20 with fail
          generalize hwx : w6.alloc (Obj.cells #[Value.int IntKind.i64 o'.kind, Value.int IntKind.i64 o'.thread, Value.int IntKind.i64 o'.at_, Value.slice u1 a.length u3, Value.int IntKind.i64 (o'.st.vars 0), Value.int IntKind.i64 (o'.st.vars 1), Value.int IntKind.i64 (o'.st.vars 2), Value.int IntKind.i64 (o'.st.vars 3), Value.slice v1 p.length v3] 37) = wx
          have HG6x : Hid (w6.grownBy wx none) := by unfold Hid; rw [← hwx]; exact grown_alloc (grown_refl _ _)
          have hxb : wx.heap[w6.heap.size]? = some (.cells (resCells o' (.slice u1 a.length u3) (.slice v1 p.length v3)) 37 (0, 0)) := by rw [← hwx]; exact heap_alloc_new w6 _
          clear hwx
          obtain ⟨b0, b1, b2, b3, b4, b5, b6, b7, b8, _⟩ := nine_cells hxb
          have m0 := pres_grown HG6x.out _ _ n0
          have m1 := pres_grown HG6x.out _ _ n1
          have m8 := pres_grown HG6x.out _ _ n8
          clear n0 n1 n2 n3 n4 n5 n6 n7 n8 hr6 hxb b0 b2 b3 b4 b5 b6 b7 q2 hb5
          have B8 := hide b8
          have M8 := hide m8
          clear b8 m8
          go_cut [136] (fun b w' => b = .bool false ∧ Hid (Like w' wx))
          case first =>
            by_cases hk1 : o'.kind = 1
            · obtain ⟨r0, r1, r2⟩ := HSR.out.thread (by rw [← HSR.out.kind]; exact hk1)
              have hm := tmod_turnG (n := p.length) (d := d) (x := o.thread.toNat) (by omega)
              obtain ⟨y, hy⟩ := Int.eq_ofNat_of_zero_le r0
              rw [hy] at m1 hm r1 r2
              simp only [Int.toNat_natCast] at hm r2
              rw [r2] at b1
              rw [hk1] at m0
              clear hy r0 r2
              generalize turnG p.length d y = z at *
              go_quiet (fail)
              go_wp2
              go_meet
              exact ⟨rfl, rfl, rfl, rfl, rfl⟩
            · have hk1' : (o'.kind == 1) = false := by simpa using hk1
              go_quiet (fail)
              go_wp2
              go_meet
              exact ⟨rfl, rfl, rfl, rfl, rfl⟩
          case rest =>
          obtain ⟨rfl, HLx⟩ := hcut
          clear m0 m1 b1
          go_wp2_with fail
          go_loopw [19] (fun i w' => ∃ t : Nat, t ≤ p.length ∧ i = .int .i64 t ∧ Hid (Like w' wx)) (fun i _ => p.length - (intOf i).toNat)
          case atStart => exact ⟨0, Nat.zero_le _, rfl, HLx.out⟩
          case round =>
            obtain ⟨j, hj, rfl, HL⟩ := hrel
            have cL : ∀ x, wr.cell? x = wx.cell? x := fun x => by simp [World.cell?, HL.out.1]
            by_cases hjl : j < p.length
            · obtain ⟨g1, e1, a0, a1, a2, a3⟩ := regs_cells HQ6.out hjl
              obtain ⟨g2, e2, c0, c1, c2, c3⟩ := regs_cells HQ2.out (R.lt j hjl)
              subst e1 e2
              rw [HSR.out.st.regs j hjl] at a0 a1 a2 a3
              have hm := tmod_turn (n := p.length) (d := d) (t := j)
              have hx := R.lt j hjl
              generalize turnF p.length d j = x at *
              have f1 : wr.cell? ⟨w6.heap.size, 8, none⟩ = some (.slice (some ⟨g1, 0, none⟩) p.length v3) := by rw [cL]; exact B8.out
              have f2 : wr.cell? ⟨w2.heap.size, 8, none⟩ = some (.slice (some ⟨g2, 0, none⟩) p.length y3) := by rw [cL]; exact M8.out
              have a0' : wr.cell? ⟨g1, j * 4, none⟩ = some (.int .i64 (o.st.regs x 0)) := by rw [cL]; exact pres_grown HG6x.out _ _ a0
              have a1' : wr.cell? ⟨g1, j * 4 + 1, none⟩ = some (.int .i64 (o.st.regs x 1)) := by rw [cL]; exact pres_grown HG6x.out _ _ a1
              have a2' : wr.cell? ⟨g1, j * 4 + 2, none⟩ = some (.int .i64 (o.st.regs x 2)) := by rw [cL]; exact pres_grown HG6x.out _ _ a2
              have a3' : wr.cell? ⟨g1, j * 4 + 3, none⟩ = some (.int .i64 (o.st.regs x 3)) := by rw [cL]; exact pres_grown HG6x.out _ _ a3
              have c0' : wr.cell? ⟨g2, x * 4, none⟩ = some (.int .i64 (o.st.regs x 0)) := by rw [cL]; exact pres_grown HG6x.out _ _ c0
              have c1' : wr.cell? ⟨g2, x * 4 + 1, none⟩ = some (.int .i64 (o.st.regs x 1)) := by rw [cL]; exact pres_grown HG6x.out _ _ c1
              have c2' : wr.cell? ⟨g2, x * 4 + 2, none⟩ = some (.int .i64 (o.st.regs x 2)) := by rw [cL]; exact pres_grown HG6x.out _ _ c2
              have c3' : wr.cell? ⟨g2, x * 4 + 3, none⟩ = some (.int .i64 (o.st.regs x 3)) := by rw [cL]; exact pres_grown HG6x.out _ _ c3
              generalize o.st.regs x 0 = z0 at *
              generalize o.st.regs x 1 = z1 at *
              generalize o.st.regs x 2 = z2 at *
              generalize o.st.regs x 3 = z3 at *
              clear cL a0 a1 a2 a3 c0 c1 c2 c3
              have k0 : (0 : Int) ≤ (j : Int) := by omega
              have k1 : (j : Int) < p.length := by omega
              have k2 : (0 : Int) ≤ (x : Int) := by omega
              have k3 : (x : Int) < p.length := by omega
              go_wp2_with fail
              go_quiet (fail)
              go_wp2
              go_roundw
              case rel => exact ⟨j + 1, by omega, by go_num, HL.out⟩
              case measure => simp [intOf]; omega
            · have k1 : (p.length : Int) ≤ (j : Int) := by omega
              go_wp2_with fail
              go_ret
              exact ⟨rfl, grown_like (grown_trans HEND.out HG6x.out) HL.out⟩

end Go.Proofs.YtklenjmfalljgaaDoor

/- The walk of held, of two results that hold the same. -/
namespace Go.Proofs.YtklenjmfalljgaaDoor
open Go.RowKit
attribute [local go_sem] Go.World.cell?_alloc_some run_eq4

set_option maxHeartbeats 4000000 in
set_option maxRecDepth 100000 in
theorem held_m {n : Nat} (hn : n ≤ 4) (o o' : Out) (hk : o'.kind = o.kind) (ht : o'.thread = o.thread) (ha : o'.at_ = o.at_) (hst : o'.st = o.st) (w : World) (base base' : Nat) (sl : Nat) (s1 s1' g1 g1' : Option Addr) (s3 s3' g3 g3' : Nat)
    (hr : w.ownsRow base 34 4 (.slice g1 n g3) n (regsF n o.st)) (hr' : w.ownsRow base' 34 4 (.slice g1' n g3') n (regsF n o'.st)) :
    Calls Tryd.prog 33 #[.agg (resCells o (.slice s1 sl s3) (.slice g1 n g3)), .agg (resCells o' (.slice s1' sl s3') (.slice g1' n g3'))] w fun e w' => e = .returned (.bool true) ∧ w.grownBy w' none := by
  have HR := hide hr
  have HR' := hide hr'
  unfold resCells
  rw [hk, ht, ha, hst]
  rw [hst] at HR'
  have hn' : (n : Int) ≤ 4 := by omega
  clear hr hr' hk ht ha hst
  go_enter Tryd.func33, Tryd.ntmps33
  go_wp2_with fail
  have HA : Hid (∀ x y, w.grownBy ((w.alloc x).alloc y) none) := fun x y => grown_alloc (grown_alloc (grown_refl _ _))
  have hX : ∀ x y : Obj, ((w.alloc x).alloc y).heap[w.heap.size]? = some x := fun x y => by rw [Below.heap_alloc _ _ _ (by simp)]; exact heap_alloc_new _ _
  have hY : ∀ x y : Obj, ((w.alloc x).alloc y).heap[w.heap.size + 1]? = some y := fun x y => by have := heap_alloc_new (w.alloc x) y; simpa using this
  have HX := hide (hX (.cells #[.int .i64 o.kind, .int .i64 o.thread, .int .i64 o.at_, .slice s1 sl s3, .int .i64 (o.st.vars 0), .int .i64 (o.st.vars 1), .int .i64 (o.st.vars 2), .int .i64 (o.st.vars 3), .slice g1 n g3] 37) (.cells #[.int .i64 o.kind, .int .i64 o.thread, .int .i64 o.at_, .slice s1' sl s3', .int .i64 (o.st.vars 0), .int .i64 (o.st.vars 1), .int .i64 (o.st.vars 2), .int .i64 (o.st.vars 3), .slice g1' n g3'] 37))
  have HY := hide (hY (.cells #[.int .i64 o.kind, .int .i64 o.thread, .int .i64 o.at_, .slice s1 sl s3, .int .i64 (o.st.vars 0), .int .i64 (o.st.vars 1), .int .i64 (o.st.vars 2), .int .i64 (o.st.vars 3), .slice g1 n g3] 37) (.cells #[.int .i64 o.kind, .int .i64 o.thread, .int .i64 o.at_, .slice s1' sl s3', .int .i64 (o.st.vars 0), .int .i64 (o.st.vars 1), .int .i64 (o.st.vars 2), .int .i64 (o.st.vars 3), .slice g1' n g3'] 37))
  have HG2 := hide (HA.out (.cells #[.int .i64 o.kind, .int .i64 o.thread, .int .i64 o.at_, .slice s1 sl s3, .int .i64 (o.st.vars 0), .int .i64 (o.st.vars 1), .int .i64 (o.st.vars 2), .int .i64 (o.st.vars 3), .slice g1 n g3] 37) (.cells #[.int .i64 o.kind, .int .i64 o.thread, .int .i64 o.at_, .slice s1' sl s3', .int .i64 (o.st.vars 0), .int .i64 (o.st.vars 1), .int .i64 (o.st.vars 2), .int .i64 (o.st.vars 3), .slice g1' n g3'] 37))
  clear hX hY HA
  generalize (w.alloc (.cells #[.int .i64 o.kind, .int .i64 o.thread, .int .i64 o.at_, .slice s1 sl s3, .int .i64 (o.st.vars 0), .int .i64 (o.st.vars 1), .int .i64 (o.st.vars 2), .int .i64 (o.st.vars 3), .slice g1 n g3] 37)).alloc (.cells #[.int .i64 o.kind, .int .i64 o.thread, .int .i64 o.at_, .slice s1' sl s3', .int .i64 (o.st.vars 0), .int .i64 (o.st.vars 1), .int .i64 (o.st.vars 2), .int .i64 (o.st.vars 3), .slice g1' n g3'] 37) = w2 at *
  go_loopw [5] (fun iv w' => ∃ i : Nat, i ≤ n ∧ iv = .int .i64 i ∧ Hid (Like w' w2)) (fun iv _ => n - (intOf iv).toNat)
  case atStart => exact ⟨0, Nat.zero_le _, rfl, rfl, rfl, rfl, rfl⟩
  case round =>
    obtain ⟨i, hi, rfl, HL⟩ := hrel
    obtain ⟨w5, hw5⟩ : ∃ w5, w5 = wr := ⟨_, rfl⟩
    rw [← hw5] at HL ⊢
    clear hw5
    have cL : ∀ a, w5.cell? a = w2.cell? a := fun a => by simp [World.cell?, HL.out.1]
    have k0 : w5.cell? ⟨w.heap.size, 8, none⟩ = some (.slice g1 n g3) := by rw [cL]; have := HX.out; simp [World.cell?, this]
    have k1 : w5.cell? ⟨w.heap.size + 1, 8, none⟩ = some (.slice g1' n g3') := by rw [cL]; have := HY.out; simp [World.cell?, this]
    by_cases hlt : i < n
    · obtain ⟨ga, rfl, a0, a1, a2, a3⟩ := regs_cells HR.out hlt
      obtain ⟨gb, rfl, b0, b1, b2, b3⟩ := regs_cells HR'.out hlt
      have up : ∀ x v, w.cell? x = some v → w5.cell? x = some v := fun x v h => by rw [cL]; exact pres_grown HG2.out _ _ h
      have a0' := up _ _ a0
      have a1' := up _ _ a1
      have a2' := up _ _ a2
      have a3' := up _ _ a3
      have b0' := up _ _ b0
      have b1' := up _ _ b1
      have b2' := up _ _ b2
      have b3' := up _ _ b3
      have t0 : (0 : Int) ≤ (i : Int) := by omega
      have t1 : (i : Int) < n := by omega
      clear a0 a1 a2 a3 b0 b1 b2 b3 up cL
      go_wp2_with fail
      go_quiet (fail)
      go_wp2_with fail
      go_roundw
      case rel => exact ⟨i + 1, by omega, by go_num, by
        have h := HL.out
        have hd := like_drewN w5
        unfold Hid
        first | exact h | exact ⟨h.1, h.2.1, h.2.2.1, h.2.2.2⟩⟩
      case measure => simp [intOf]; omega
    · have t1 : (n : Int) ≤ (i : Int) := by omega
      clear cL
      go_wp2_with fail
      go_ret
      exact ⟨rfl, grown_trans HG2.out (grown_of_like HL.out)⟩

end Go.Proofs.YtklenjmfalljgaaDoor

/- The walk of Formed. -/
namespace Go.Proofs.YtklenjmfalljgaaDoor
open Go.RowKit
attribute [local go_sem] Go.World.cell?_alloc_some

theorem same_form {p : List (List Ins)} {a : List Int} (h : Sched p a) : sameS p a (formS p (runS p a)) = true := by
  obtain ⟨h1, h2, h3, _, _, h6, _⟩ := formed_run h
  unfold sameS
  rw [h6]
  have : likeV (runS p a) (runS p (formS p (runS p a))) = true := by
    unfold likeV
    rw [h1, h2, h3]
    by_cases e : (runS p a).kind = 2 <;> simp [e]
  rw [this]; simp

set_option maxHeartbeats 8000000 in
set_option maxRecDepth 100000 in
theorem formed_m (raw : List (List Int)) (ch : List Int) (rawv chv : Value) (w : World) (hS : ShpAt w) (hR : RawAt w rawv raw) (hbR : ∀ t (ht : t < raw.length) k (hk : k < raw[t].length), isInt raw[t][k])
    (hC : IntsAt w.heap.size w chv ch) (hbC : ∀ k (hk : k < ch.length), -9223372036854775808 ≤ ch[k] ∧ ch[k] ≤ 9223372036854775807) :
    Calls Tryd.prog 9 #[rawv, chv] w fun e w' => e = .returned (.bool true) ∧ w.grownBy w' none := by
  have HSh := hide hS
  have HC := hide hC
  have HBC := hide hbC
  have HPR := hide (program_m raw rawv w hR hbR)
  have hvp := progN_valid raw
  clear hS hR hbR hC hbC
  generalize progN raw = p at *
  have HVP := hide hvp
  have hlen := vProg_len hvp
  clear hvp
  go_enter Tryd.func9, Tryd.ntmps9
  go_wp2_with fail
  refine HPR.out.mono ?_
  clear HPR
  rintro e w1 ⟨tv, rfl, hP, hg1⟩
  have hform := hP.form
  obtain ⟨pao, pcap, htv⟩ := hform
  have htv2 : tv = .slice pao p.length pcap := by simpa using htv
  subst htv2
  have HP1 := hide hP
  have HG1 := hide hg1
  have hs1 := hg1.size
  clear hP hg1 htv
  go_wp2_with fail
  have HSC := hide (schedule_m p ch (.agg #[.slice pao p.length pcap]) chv (w1.alloc (.cells #[.slice pao p.length pcap] 25)) (HSh.out.pres (pres_grown (grown_alloc HG1.out))) HVP.out (HP1.out.pres (pres_grown (grown_alloc (grown_refl _ _)))) ((HC.out.pres (pres_grown (grown_alloc HG1.out))).mono (by simp; omega)) HBC.out)
  refine HSC.out.mono ?_
  clear HSC HC HBC
  rintro e w2 ⟨sv, rv, a, rfl, hrow, ⟨st, gt, rfl, ho1, ho2⟩, hsd, h200, _, hg2⟩
  have hsz2 : w1.heap.size + 1 ≤ w2.heap.size := by have := hg2.size; simpa using this
  obtain ⟨s1, s2, s3, rfl⟩ := owns_form hrow
  have e2 := owns_lenq hrow
  subst e2
  obtain ⟨x1, x2, x3, rfl⟩ := owns_form ho1
  have e3 := owns_lenq ho1
  subst e3
  obtain ⟨y1, y2, y3, rfl⟩ := owns_form ho2
  have e4 := owns_lenq ho2
  subst e4
  have HPB : Hid (w2.heap[w1.heap.size]? = some (.cells #[.slice pao p.length pcap] 25 (0, 0))) := by
    unfold Hid; rw [hg2.block _ (by simp) (by simp)]; exact heap_alloc_new w1 _
  have HG2 : Hid (w.grownBy w2 none) := grown_trans (grown_alloc HG1.out) hg2
  have HP2 : Hid (ProgAt w2 (.agg #[.slice pao p.length pcap]) p) := HP1.out.pres (pres_grown (grown_trans (grown_alloc (grown_refl _ _)) hg2))
  have HSh2 : Hid (ShpAt w2) := HSh.out.pres (pres_grown HG2.out)
  have HII := hide (owns_ints hrow)
  have HRG := hide ho2
  have HFM := hide (formed_run hsd)
  have HSF := hide (same_form hsd)
  have HSL := hide hsd.2
  clear hrow ho1 ho2 hsd hg2 HP1 HG1 HSh
  have hck : checkRunN p a = 0 := checkRun_ok HVP.out (by omega)
  obtain ⟨m1, m2, m3, m4, m5, m6, m7⟩ := HFM.out
  have HSame : Hid (checkRunsN p [a, formS p (runS p a)] = 0) := by
    unfold Hid checkRunsN; rw [if_pos HVP.out]; simp; omega
  have hckf : checkRunN p (formS p (runS p a)) = 0 := checkRun_ok HVP.out (by omega)
  have HM := hide (And.intro m1 (And.intro m2 (And.intro m3 (And.intro m4 (And.intro m5 m6)))))
  have HCA := hide hck
  have HCF := hide hckf
  clear m1 m2 m3 m4 m5 m6 HFM hck hckf
  obtain ⟨f, hf⟩ : ∃ f, f = formS p (runS p a) := ⟨_, rfl⟩
  rw [← hf] at HM m7 HSF HSame HCF
  have HM7 := hide m7
  clear m7
  have HFQ := hide hf
  clear hf
  have q1 : (a.length : Int) ≤ 200 := by omega
  generalize hO : runS p a = o at *
  have HOE := hide hO
  clear hO
  go_upto_region 5 with fail
  generalize hw3 : w2.alloc (Obj.cells #[Value.int IntKind.i64 o.kind, Value.int IntKind.i64 o.thread, Value.int IntKind.i64 o.at_, Value.slice x1 o.steps.length x3, Value.int IntKind.i64 (o.st.vars 0), Value.int IntKind.i64 (o.st.vars 1), Value.int IntKind.i64 (o.st.vars 2), Value.int IntKind.i64 (o.st.vars 3), Value.slice y1 p.length y3] 37) = w3
  have HG23 : Hid (w2.grownBy w3 none) := by unfold Hid; rw [← hw3]; exact grown_alloc (grown_refl _ _)
  have HRB : Hid (w3.heap[w2.heap.size]? = some (.cells (resCells o (.slice x1 o.steps.length x3) (.slice y1 p.length y3)) 37 (0, 0))) := by
    unfold Hid; rw [← hw3]; exact heap_alloc_new w2 _
  clear hw3
  have HPC : Hid (∀ u, w3.grownBy u none → u.cell? ⟨w1.heap.size, 0, none⟩ = some (.slice pao p.length pcap)) := fun u hu => by
    rw [World.cell?_of_block ((grown_trans HG23.out hu).block _ (by simp; omega) (by simp))]
    simp [World.cell?, HPB.out]
  have HPP : Hid (∀ u, w3.grownBy u none → ShpAt u ∧ ProgAt u (.agg #[.slice pao p.length pcap]) p ∧ IntsAt u.heap.size u (.slice s1 a.length s3) a ∧ u.ownsRow (w1.alloc (.cells #[.slice pao p.length pcap] 25)).heap.size 34 4 (.slice y1 p.length y3) p.length (regsF p.length o.st) ∧ u.heap[w2.heap.size]? = some (.cells (resCells o (.slice x1 o.steps.length x3) (.slice y1 p.length y3)) 37 (0, 0))) := fun u hu =>
    ⟨HSh2.out.pres (pres_grown (grown_trans HG23.out hu)), HP2.out.pres (pres_grown (grown_trans HG23.out hu)), (HII.out.pres (pres_grown (grown_trans HG23.out hu))).mono (grown_trans HG23.out hu).size, owns_grown HRG.out (grown_trans HG23.out hu) (fun _ e => by cases e), by rw [hu.block _ (Array.getElem?_eq_some_iff.1 HRB.out).1 (by simp)]; exact HRB.out⟩
  have c3 := HPC.out w3 (grown_refl _ _)
  have HF3 : Hid (Calls Tryd.prog 31 #[.agg #[.slice pao p.length pcap], .slice s1 a.length s3] w3 (fun e w' => w3.grownBy w' none ∧ ∃ v, e = .returned (.tuple #[v, .int .i64 0]) ∧ w'.ownsRow w3.heap.size 3 1 v f.length (ints f))) := by
    obtain ⟨k1, k2, k3, _⟩ := HPP.out w3 (grown_refl _ _)
    refine (form_m p a _ _ w3 k1 k2 k3).mono ?_
    rintro e w' ⟨hg, h⟩
    rcases h with ⟨_, v, he, ho⟩ | ⟨h, _⟩
    · rw [HOE.out, ← HFQ.out] at ho; exact ⟨hg, v, he, ho⟩
    · exact absurd HCA.out h
  clear HII HRG HRB HSh2 HP2
  go_wp2_with fail
  refine HF3.out.mono ?_
  clear HF3 c3
  rintro e w4 ⟨hg4, fv, rfl, hown4⟩
  obtain ⟨f1, f2, f3, rfl⟩ := owns_form hown4
  have hf2 := owns_lenq hown4
  subst hf2
  have HO4 := hide hown4
  have HG4 := hide hg4
  have c4 := HPC.out w4 hg4
  clear hown4 hg4
  have HIF : Hid (∀ u, w4.grownBy u none → IntsAt u.heap.size u (.slice f1 f.length f3) f) := fun u hu => ((owns_ints HO4.out).pres (pres_grown hu)).mono hu.size
  have HR4 : Hid (Calls Tryd.prog 16 #[.agg #[.slice pao p.length pcap], .slice f1 f.length f3] w4 (fun e w' => w4.grownBy w' none ∧ ∃ rv, e = .returned (.tuple #[rv, .int .i64 0]) ∧ ResAt w4.heap.size w' (runS p f) p.length rv)) := by
    obtain ⟨k1, k2, _⟩ := HPP.out w4 HG4.out
    refine (replay_m p f _ _ w4 k1 k2 (HIF.out w4 (grown_refl _ _))).mono ?_
    rintro e w' ⟨hg, h⟩
    rcases h with ⟨_, rv, he, ho⟩ | ⟨h, _⟩
    · exact ⟨hg, rv, he, ho⟩
    · exact absurd HCF.out h
  go_wp2_with fail
  refine HR4.out.mono ?_
  clear HR4 c4
  rintro e w5 ⟨hg5, rv, rfl, sv5, gv5, rfl, hp5, hq5⟩
  obtain ⟨j1, j2, j3, rfl⟩ := owns_form hp5
  have hj2 := owns_lenq hp5
  subst hj2
  obtain ⟨i1, i2, i3, rfl⟩ := owns_form hq5
  have hi2 := owns_lenq hq5
  subst hi2
  have HQ5 := hide hq5
  have HG5 : Hid (w3.grownBy w5 none) := grown_trans HG4.out hg5
  have HG45 := hide hg5
  have c5 := HPC.out w5 HG5.out
  have HLEN : Hid ((runS p f).steps.length = o.steps.length) := HM.out.2.2.2.2.1
  rw [HLEN.out]
  have HKq : Hid ((runS p f).kind = o.kind ∧ (runS p f).thread = o.thread ∧ (runS p f).at_ = o.at_ ∧ (runS p f).st = o.st) := ⟨HM.out.1, HM.out.2.1, HM.out.2.2.1, HM.out.2.2.2.1⟩
  have HFF : Hid (formS p (runS p f) = f) := HM.out.2.2.2.2.2
  clear hp5 hq5 hg5 HLEN HM
  go_upto_region 7 with fail
  generalize hw6 : w5.alloc (Obj.cells #[Value.int IntKind.i64 (runS p f).kind, Value.int IntKind.i64 (runS p f).thread, Value.int IntKind.i64 (runS p f).at_, Value.slice j1 o.steps.length j3, Value.int IntKind.i64 ((runS p f).st.vars 0), Value.int IntKind.i64 ((runS p f).st.vars 1), Value.int IntKind.i64 ((runS p f).st.vars 2), Value.int IntKind.i64 ((runS p f).st.vars 3), Value.slice i1 p.length i3] 37) = w6
  have HG56 : Hid (w5.grownBy w6 none) := by unfold Hid; rw [← hw6]; exact grown_alloc (grown_refl _ _)
  have HXB : Hid (w6.heap[w5.heap.size]? = some (.cells (resCells (runS p f) (.slice j1 o.steps.length j3) (.slice i1 p.length i3)) 37 (0, 0))) := by
    unfold Hid; rw [← hw6]; exact heap_alloc_new w5 _
  clear hw6 c5
  have HG6 : Hid (w3.grownBy w6 none) := grown_trans HG5.out HG56.out
  have HG46 : Hid (w4.grownBy w6 none) := grown_trans HG45.out HG56.out
  have c6 := HPC.out w6 HG6.out
  have HF6 : Hid (Calls Tryd.prog 31 #[.agg #[.slice pao p.length pcap], .slice f1 f.length f3] w6 (fun e w' => w6.grownBy w' none ∧ ∃ v, e = .returned (.tuple #[v, .int .i64 0]) ∧ w'.ownsRow w6.heap.size 3 1 v f.length (ints f))) := by
    obtain ⟨k1, k2, _⟩ := HPP.out w6 HG6.out
    refine (form_m p f _ _ w6 k1 k2 (HIF.out w6 HG46.out)).mono ?_
    rintro e w' ⟨hg, h⟩
    rcases h with ⟨_, v, he, ho⟩ | ⟨h, _⟩
    · rw [HFF.out] at ho; exact ⟨hg, v, he, ho⟩
    · exact absurd HCF.out h
  go_wp2_with fail
  refine HF6.out.mono ?_
  clear HF6 c6
  rintro e w7 ⟨hg7, gv7, rfl, hown7⟩
  obtain ⟨g1, g2, g3, rfl⟩ := owns_form hown7
  have hg2' := owns_lenq hown7
  subst hg2'
  have HO7 := hide (owns_ints hown7)
  have HG67 := hide hg7
  have HG7 : Hid (w3.grownBy w7 none) := grown_trans HG6.out hg7
  have HG47 : Hid (w4.grownBy w7 none) := grown_trans HG46.out hg7
  have c7 := HPC.out w7 HG7.out
  clear hown7 hg7
  have HS7 : Hid (Calls Tryd.prog 32 #[.agg #[.slice pao p.length pcap], .slice s1 a.length s3, .slice f1 f.length f3] w7 (fun e w' => w7.grownBy w' none ∧ e = .returned (.tuple #[.bool true, .int .i64 0]))) := by
    obtain ⟨k1, k2, k3, _⟩ := HPP.out w7 HG7.out
    refine (sameP_m p a f _ _ _ w7 k1 k2 k3 (HIF.out w7 HG47.out)).mono ?_
    rintro e w' ⟨hg, h⟩
    rcases h with ⟨_, he⟩ | ⟨h, _⟩
    · rw [HSF.out] at he; exact ⟨hg, he⟩
    · exact absurd HSame.out h
  go_wp2_with fail
  refine HS7.out.mono ?_
  clear HS7 c7
  rintro e w8 ⟨hg8, rfl⟩
  have HG8 : Hid (w3.grownBy w8 none) := grown_trans HG7.out hg8
  have HG68 : Hid (w6.grownBy w8 none) := grown_trans HG67.out hg8
  have HG78 := hide hg8
  clear hg8
  obtain ⟨_, _, _, hrg8, hrb8⟩ := HPP.out w8 HG8.out
  have hxb8 : w8.heap[w5.heap.size]? = some (.cells (resCells (runS p f) (.slice j1 o.steps.length j3) (.slice i1 p.length i3)) 37 (0, 0)) := by
    rw [HG68.out.block _ (Array.getElem?_eq_some_iff.1 HXB.out).1 (by simp)]; exact HXB.out
  obtain ⟨r0, r1, r2, r3, r4, r5, r6, r7, r8, _⟩ := nine_cells hrb8
  obtain ⟨z0, z1, z2, z3, z4, z5, z6, z7, z8, _⟩ := nine_cells hxb8
  have HHD := hide (held_m (by omega : p.length ≤ 4) o (runS p f) HKq.out.1 HKq.out.2.1 HKq.out.2.2.1 HKq.out.2.2.2 w8 _ _ o.steps.length x1 j1 y1 i1 x3 j3 y3 i3 hrg8 (owns_grown HQ5.out (grown_trans HG56.out HG68.out) (fun _ e => by cases e)))
  unfold resCells at HHD
  clear hrg8 hrb8 hxb8 HQ5 HXB
  generalize runS p f = of at *
  go_wp2_with fail
  refine HHD.out.mono ?_
  clear HHD r0 r1 r2 r3 r4 r5 r6 r7 r8 z0 z1 z2 z3 z4 z5 z6 z7 z8
  rintro e w9 ⟨rfl, hg9⟩
  have HG9 : Hid (w3.grownBy w9 none) := grown_trans HG8.out hg9
  have HG49 : Hid (w4.grownBy w9 none) := grown_trans HG47.out (grown_trans HG78.out hg9)
  have HG79 : Hid (w7.grownBy w9 none) := grown_trans HG78.out hg9
  clear hg9
  have HKS : Hid (Calls Tryd.prog 34 #[.slice f1 f.length f3, .slice g1 f.length g3] w9 (fun e w' => e = .returned (.bool true) ∧ w9.grownBy w' none)) := by
    refine (keepSame_m f f _ _ w9 (HIF.out w9 HG49.out) ((HO7.out.pres (pres_grown HG79.out)).mono HG79.out.size) (by have := HM7.out; omega)).mono ?_
    rintro e w' ⟨rfl, hl⟩
    exact ⟨by simp, grown_of_like hl⟩
  go_wp2_with fail
  refine HKS.out.mono ?_
  clear HKS
  rintro e w10 ⟨rfl, hg10⟩
  have HG10 : Hid (w.grownBy w10 none) := grown_trans HG2.out (grown_trans HG23.out (grown_trans HG9.out hg10))
  have hfl : ((f.length : Int) == (a.length : Int)) = true := by have := HM7.out; simp; omega
  clear hg10
  go_wp2_with fail
  go_ret
  refine ⟨?_, HG10.out⟩
  first | rfl | (simp; omega)

end Go.Proofs.YtklenjmfalljgaaDoor

/- From the rows' readings to the walks' facts. -/
namespace Go.Proofs.YtklenjmfalljgaaDoor
open Go.ChangeShapes Go.WideShapes Go.ChangeAt Go.RowKit

theorem own : ownKnob Tryd.prog.godebug = none := by kernel_rfl
theorem laidOut : laidOutB Tryd.prog = true := by kernel_rfl
theorem gShp : Tryd.prog.globalNamed "rerun/machine.shapes" = some 0 := by kernel_rfl
theorem tShp : (Tryd.prog.globals[0]?).map (·.type) = some 263 := by kernel_rfl
theorem cInt : Tryd.prog.cellsOf 3 = 1 := by kernel_rfl
theorem cInts : Tryd.prog.cellsOf 22 = 1 := by kernel_rfl
theorem cShape : Tryd.prog.cellsOf 262 = 3 := by kernel_rfl
theorem cKind : Tryd.prog.cellsOf 260 = 1 := by kernel_rfl

theorem grown_below {w w' : World} (h : w.grownBy w' none) : Below w.heap.size w w' := ⟨h.os, h.tape, h.output, h.size, fun k hk => h.block k hk (by simp)⟩

theorem lt_cell {w : World} {a : Addr} {v : Value} (h : w.cell? a = some v) : a.block < w.heap.size := by
  unfold World.cell? at h
  split at h
  · rename_i hh; exact (Array.getElem?_eq_some_iff.1 hh).1
  · cases h

theorem addr_form {w : World} {a : Addr} {j : Nat} {v : Value} (h0 : a.spot = none) (h : w.cell? (a.add j) = some v) : w.cell? ⟨a.block, a.off + j, none⟩ = some v := by
  have e : a.add j = ⟨a.block, a.off + j, none⟩ := by
    obtain ⟨b, o, s⟩ := a
    simp only at h0
    subst h0
    unfold Addr.add; split <;> simp_all
  rw [e] at h; exact h

section
variable {H : Type} {enc : TypeId × Value → H} {W : World}

theorem intsAt_of {fuel : Nat} {cs : List Value} {x : DataW H × List MemPlace} (h : DataW.trod enc Tryd.prog W 0 (fun _ => true) true fuel 22 cs = some x) :
    ∃ v l, cs = [v] ∧ IntsAt W.heap.size W v l ∧ ∀ k (hk : k < l.length), isInt l[k] := by
  rcases open_ints Tryd.underlying22 Tryd.underlying3 cInt h with ⟨rfl, _⟩ | ⟨a, len, cap, zs, rfl, _, hl, _, hz, _, hc, hw⟩
  · exact ⟨_, [], rfl, ⟨none, 0, rfl, Nat.le_refl _, fun k hk => by simp at hk⟩, fun k hk => by simp at hk⟩
  · simp only [if_true] at hz
    have hlen : (zs.take len).length = len := by simp; omega
    refine ⟨_, zs.take len, rfl, ⟨some a, cap, by rw [hlen], by omega, fun k hk => ?_⟩, fun k hk => ?_⟩
    · have h0 : a.spot = none := by
        have := hc 0 (by omega)
        exact World.cell?_spot (w := W) (by simpa [Addr.add] using this)
      have hkz : k < zs.length := by omega
      have := hc k hkz
      refine ⟨a.block, a.off, ?_, lt_cell (a := ⟨a.block, a.off + k, none⟩) (addr_form h0 this), ?_⟩
      · obtain ⟨b, o, s⟩ := a
        simp only at h0; subst h0; rfl
      · rw [addr_form h0 this]
        simp [List.getD, hkz]
    · have hkz : k < zs.length := by omega
      have := hw zs[k] (List.getElem_mem hkz)
      simp only [List.getElem_take]
      simpa [Lit.wf, IntKind.min, IntKind.max, IntKind.signed, IntKind.bits, isInt] using this

theorem rawAt_of {fuel : Nat} {cs : List Value} {x : DataW H × List MemPlace} (h : DataW.trod enc Tryd.prog W 0 (fun _ => true) true fuel 41 cs = some x) :
    ∃ v l, cs = [v] ∧ RawAt W v l ∧ ∀ t (ht : t < l.length) k (hk : k < l[t].length), isInt l[t][k] := by
  rcases Deep.open_slice1 Tryd.underlying41 cInts h with ⟨rfl, _⟩ | ⟨a, len, cap, m, n, V, D, Pl, rfl, _, hl, _, hm, _, hx⟩
  · exact ⟨_, [], rfl, ⟨none, 0, rfl, fun k hk => by simp at hk⟩, fun k hk => by simp at hk⟩
  · simp only [if_true] at hm
    obtain ⟨f, hf⟩ := Deep.choose_lt (α := List Int) (n := len) (p := fun i l => IntsAt W.heap.size W (V i) l ∧ ∀ k (hk : k < l.length), isInt l[k]) (fun i hi => by
      obtain ⟨v, l, e, h1, h2⟩ := intsAt_of (hx i (by omega)).2
      simp only [List.cons.injEq, and_true] at e
      rw [← e] at h1
      exact ⟨l, h1, h2⟩)
    have hlen : ((List.range len).map f).length = len := by simp
    refine ⟨_, (List.range len).map f, rfl, ⟨some a, cap, by rw [hlen], fun t ht => ?_⟩, fun t ht => ?_⟩
    · have ht' : t < len := by omega
      have h0 : a.spot = none := by
        have := (hx 0 (by omega)).1
        exact World.cell?_spot (w := W) (by simpa [Addr.add] using this)
      refine ⟨a.block, a.off, ?_, V t, addr_form h0 (hx t (by omega)).1, ?_⟩
      · obtain ⟨b, o, s⟩ := a
        simp only at h0; subst h0; rfl
      · simpa using (hf t ht').1
    · have ht' : t < len := by omega
      simpa using (hf t ht').2

set_option maxRecDepth 100000 in
theorem ints_arg {v : Value} {d : DataW H} {ps : List MemPlace} {base : Nat} (hval : Value.okWide Tryd.prog W .any base 22 v) (h : DataW.Trod enc Tryd.prog W 0 (fun _ => true) true 22 v d ps) :
    ∃ l, IntsAt W.heap.size W v l ∧ ∀ k (hk : k < l.length), isInt l[k] := by
  obtain ⟨a, len, cap, rfl⟩ := okWide_slice Tryd.underlying22 hval
  obtain ⟨fuel, hf⟩ := h
  obtain ⟨v', l, e, h1, h2⟩ := intsAt_of hf
  simp [Value.cells] at e
  rw [← e] at h1
  exact ⟨l, h1, h2⟩
set_option maxRecDepth 100000 in
theorem raw_arg {v : Value} {d : DataW H} {ps : List MemPlace} {base : Nat} (hval : Value.okWide Tryd.prog W .any base 41 v) (h : DataW.Trod enc Tryd.prog W 0 (fun _ => true) true 41 v d ps) :
    ∃ l, RawAt W v l ∧ ∀ t (ht : t < l.length) k (hk : k < l[t].length), isInt l[t][k] := by
  obtain ⟨a, len, cap, rfl⟩ := okWide_slice Tryd.underlying41 hval
  obtain ⟨fuel, hf⟩ := h
  obtain ⟨v', l, e, h1, h2⟩ := rawAt_of hf
  simp [Value.cells] at e
  rw [← e] at h1
  exact ⟨l, h1, h2⟩
set_option maxRecDepth 100000 in
theorem int_arg {v : Value} {d : DataW H} {ps : List MemPlace} {base : Nat} (hval : Value.okWide Tryd.prog W .any base 3 v) (h : DataW.Trod enc Tryd.prog W 0 (fun _ => true) true 3 v d ps) :
    ∃ n, v = .int .i64 n ∧ isInt n := by
  obtain ⟨n, rfl, _, _, hw⟩ := open_int Tryd.underlying3 hval h
  exact ⟨n, rfl, by simpa [Lit.wf, IntKind.min, IntKind.max, IntKind.signed, IntKind.bits, isInt] using hw⟩
end

theorem shp_tab (o j : Nat) (ho : o < 12) (hj : j < 3) (l : List (DataW Unit)) (h : (DataW.agg l : DataW Unit) = (match (Rows.laid_rerun_machine_shapes : DataW Unit) with | .agg l => l[o]?.getD .nil | _ => .nil)) : l[j]? = some (.lit (.int .i64 (shp o j))) := by
  have ho' : o = 0 ∨ o = 1 ∨ o = 2 ∨ o = 3 ∨ o = 4 ∨ o = 5 ∨ o = 6 ∨ o = 7 ∨ o = 8 ∨ o = 9 ∨ o = 10 ∨ o = 11 := by omega
  have hj' : j = 0 ∨ j = 1 ∨ j = 2 := by omega
  rcases ho' with rfl | rfl | rfl | rfl | rfl | rfl | rfl | rfl | rfl | rfl | rfl | rfl <;> (simp [Rows.laid_rerun_machine_shapes] at h; subst h; rcases hj' with rfl | rfl | rfl <;> rfl)

theorem shp_one {W : World} {g0 : Nat} {t0 : TypeId} {cs0 : Array Value} {f0 : Nat} {p0 : List MemPlace} (hg0 : Tryd.prog.globalNamed "rerun/machine.shapes" = some g0) (ht0 : (Tryd.prog.globals[g0]?).map (·.type) = some t0) (hv0 : W.var? Tryd.prog "rerun/machine.shapes" = some cs0)
    (hd0 : DataW.trod (fun _ => ()) Tryd.prog W 0 (fun _ => true) false f0 t0 cs0.toList = some (Rows.laid_rerun_machine_shapes, p0)) : ShpAt W := by
  obtain rfl := Option.some.inj (gShp.symm.trans hg0)
  obtain rfl := Option.some.inj (tShp.symm.trans ht0)
  obtain ⟨xs, m1, rfl, hx1, hlen, hn12, hel⟩ := DataW.trod_array Tryd.underlying263 hd0
  simp only [Prod.mk.injEq] at hx1
  intro o j ho hj
  have hox : o < xs.length := by omega
  have h1 := hel o ho
  rw [cShape, List.getElem?_eq_getElem hox] at h1
  obtain ⟨ys, m2, rfl, hy1, hylen, hn3, hfe⟩ := DataW.trod_struct Tryd.underlying262 h1
  have hdo : (DataW.agg (ys.map (·.1)) : DataW Unit) = xs[o].1 := by rw [hy1]
  have hxo : (xs.map (·.1))[o]? = some xs[o].1 := by simp [hox]
  have hdat : (DataW.agg (ys.map (·.1)) : DataW Unit) = (match (Rows.laid_rerun_machine_shapes : DataW Unit) with | .agg l => l[o]?.getD .nil | _ => .nil) := by
    rw [hdo, hx1.1]; simp [hox]
  have hyj := shp_tab o j ho hj _ hdat
  have hjl : j < ys.length := by rw [hn3]; simpa using hj
  have hf : DataW.trod (fun _ => ()) Tryd.prog W 0 (fun _ => true) false m2 260 ((((cs0.toList.drop (o * 3)).take 3).drop j).take 1) = some ys[j] := by
    have hj' : j = 0 ∨ j = 1 ∨ j = 2 := by omega
    rcases hj' with rfl | rfl | rfl
    · have := hfe 0 _ rfl; rw [List.getElem?_eq_getElem hjl] at this; simpa [cKind] using this
    · have := hfe 1 _ rfl; rw [List.getElem?_eq_getElem hjl] at this; simpa [cKind] using this
    · have := hfe 2 _ rfl; rw [List.getElem?_eq_getElem hjl] at this; simpa [cKind] using this
  obtain ⟨k, e1, e2, _⟩ := DataW.trod_int Tryd.underlying260 hf
  have hk : k = shp o j := by
    rw [List.getElem?_map, List.getElem?_eq_getElem hjl, e2] at hyj
    simpa using hyj
  have hcell := World.var?_cell hg0 hv0 (o * 3 + j)
  have hc : cs0[o * 3 + j]? = some (.int .i64 k) := by
    have h0 := congrArg (fun l => l[0]?) e1
    simp [hj] at h0
    exact h0
  rw [hk] at hc
  rw [hcell]; exact hc

theorem shp_of_laid {W : World} (h : laidMetH Tryd.prog [("rerun/machine.shapes", Rows.laid_rerun_machine_shapes)] W) : ShpAt W := by
  rw [MakeChecks.laidMetH_plain _ _ _ (by kernel_rfl)] at h
  obtain ⟨ps, ⟨g0, t0, cs0, f0, p0, q0, hg0, ht0, hv0, hd0, _, _⟩, _, _⟩ := h
  exact shp_one hg0 ht0 hv0 hd0

end Go.Proofs.YtklenjmfalljgaaDoor

/- Proved: rerunkeep.Formed answers true and never panics, whatever its arguments are: no condition. -/
namespace Go.Proofs.YtklenjmfalljgaaDoor
open Go.ChangeShapes Go.WideShapes Go.ChangeAt Go.RowKit

set_option maxRecDepth 100000 in
/-- What the walk gives, for every argument and every world that holds the table. -/
theorem formed_contract (H : Type) (enc : TypeId × Value → H) (W : World) (base : Nat) (args : Array Value) (ds gs : List (DataW H)) (before : List MemPlace)
    (hval : ∀ (j : Nat) t v, Tryd.f9.params[j]? = some t → args[j]? = some v → Value.okWide Tryd.prog W .any base t v)
    (hW : DataW.Whole enc Tryd.prog Tryd.f9.params.toList Rows.formedSpec.vars false W args.toList ds gs before) (hL : laidMetH Tryd.prog Rows.formedRow.laid W) :
    Calls Tryd.prog 9 args W fun e W' => ∃ v, e = .returned v ∧ Rows.formedSpec.post enc Tryd.prog Tryd.f9 false true false false W args v W' := by
  have hW' := hW
  obtain ⟨p, q, hA0, hV, rfl, hfz, hnd⟩ := hW
  have hA : DataW.TrodAll enc Tryd.prog W 0 (fun _ => true) true Tryd.f9.params.toList args.toList ds p := hA0
  rw [Tryd.params9] at hA hval
  obtain ⟨v0, v1, d0, d1, p0, p1, rfl, rfl, rfl, h0, h1⟩ := trodAll_two hA
  obtain ⟨rfl, rfl⟩ := trodVars_none hV
  clear hA0
  obtain ⟨raw, hr, hbr⟩ := raw_arg (hval 0 41 v0 rfl rfl) h0
  obtain ⟨ch, hc, hbc⟩ := ints_arg (hval 1 22 v1 rfl rfl) h1
  refine (formed_m raw ch v0 v1 W (shp_of_laid hL) hr hbr hc hbc).mono fun e W' ⟨he, hg⟩ => ?_
  subst he
  have hb := grown_below hg
  have hlt : ∀ x ∈ p0 ++ p1, x.block < W.heap.size := fun x hx => by simpa using hW'.lt x (by simpa using hx)
  refine ⟨_, rfl, _, _, _, [] ++ [], p0 ++ p1, [], hW', trodAll_cons_mk (shut_bool Tryd.underlying4 _) trodAll_mk0, ?_, rfl, hb.frame _, fun h => by cases h⟩
  rw [Tryd.params9]
  exact trodAll_mk2 (p := p0) (p' := p1) (Below.trod laidOut (by kernel_rfl) (of_decide_eq_true (by kernel_rfl)) h0 hb (fun x hx => hlt x (by simp [hx]))) (Below.trod laidOut (by kernel_rfl) (of_decide_eq_true (by kernel_rfl)) h1 hb (fun x hx => hlt x (by simp [hx])))

theorem formed_laid (os : Os) : laidMetH Tryd.prog Rows.formedRow.laid ((World.doorLaid Tryd.prog 400 os).forCall (fun _ _ => 0) ⟨#[], #[.slice none 0 0, .slice none 0 0], []⟩).memory :=
  laidMetH_of_parts3 (fuel := 8) (laidMet_of_run' 8 (by kernel_rfl) (by kernel_rfl)) (by kernel_rfl) (by kernel_rfl)
theorem formed_reads (os : Os) {H : Type} (enc : TypeId × Value → H) : ∃ places, DataW.whole enc Tryd.prog ((World.doorLaid Tryd.prog 400 os).forCall (fun _ _ => 0) ⟨#[], #[.slice none 0 0, .slice none 0 0], []⟩).memory Tryd.f9.params.toList Rows.formedSpec.vars false #[Value.slice none 0 0, .slice none 0 0].toList 8 = some ([.nil, .nil], [], places) :=
  ⟨[], by kernel_rfl⟩

set_option maxRecDepth 100000 in
theorem formed_lifted (os : Os) (started : os.Started) (H : Type) (enc : TypeId × Value → H) (F : Stop.Interp) :
    ReturnsInHanded {} Tryd.checked os 9 .any ((OpenSpec.ofChange Rows.formedSpec).preRow enc Tryd.prog Tryd.f9 Rows.formedRow.domain false Rows.formedRow.laid) (((OpenSpec.ofChange Rows.formedSpec).at F).post enc Tryd.prog Tryd.f9 false true false false) := by
  obtain ⟨places, hx⟩ := formed_reads os enc
  refine returnsInHanded_of_row (C := Tryd.checked) (s := OpenSpec.ofChange Rows.formedSpec) own started (by kernel_rfl) Tryd.func9
    (witness_row_atRef (enc := enc) (C := Tryd.checked) false (World.doorLaid Tryd.prog 400 os) #[.slice none 0 0, .slice none 0 0] rfl (by kernel_rfl) (by kernel_rfl) (by kernel_rfl)
      (OpenSpec.preRow_of_cond 8 hx (by kernel_rfl) (fun k hk => by cases hk) (by kernel_rfl) (formed_laid os))) ?_
  intro W base args ds gs before hval hW _ _ _ hL _ _
  exact formed_contract H enc W base args ds gs before hval hW hL

theorem formed_said : Rows.FormedSaid :=
  OpenClaim.holds_of_cond 9 Tryd.f9 rfl rfl rfl rfl rfl rfl rfl ⟨rfl, rfl, rfl, rfl, rfl⟩ rfl rfl rfl rfl rfl (by kernel_rfl) Tryd.func9 (by kernel_rfl)
    (of_decide_eq_true (by kernel_rfl)) (by unfold Func.isWrapper; first | (rw [if_pos (by decide +kernel)]; kernel_rfl) | (rw [if_neg (by decide +kernel)]; exact ⟨rfl, rfl⟩))
    (fun os started H enc _ F => by rw [OpenClaim.pre_eq_preRow]; exact formed_lifted os started H enc F)

theorem formed_plain (f : FuncId) (fn : Func) (hf : Tryd.pinned.checked.prog.funcNamed "rerun/rerunkeep.Formed" = some f) (hfn : Tryd.pinned.checked.prog.funcs[f]? = some fn) :
    Rows.formedCard.stood.looks = Tryd.pinned.checked.prog.looks [] ∧ ∀ (j : Nat) t, fn.params[j]? = some t → Tryd.pinned.checked.prog.wantsStandIn t = false := by
  obtain rfl : f = 9 := Option.some.inj ((show Tryd.prog.funcNamed "rerun/rerunkeep.Formed" = some 9 by kernel_rfl).symm.trans hf) |>.symm
  obtain rfl : fn = Tryd.f9 := (Option.some.inj (Tryd.func9.symm.trans hfn)).symm
  refine ⟨by kernel_rfl, fun j t ht => ?_⟩
  rw [Tryd.params9] at ht
  have hm : t ∈ [41, 22] := by simpa using Array.mem_of_getElem? ht
  have hall : ([41, 22].all fun u => !Tryd.prog.wantsStandIn u) = true := by kernel_rfl
  exact (show Tryd.prog.wantsStandIn t = false by simpa using List.all_eq_true.1 hall t hm)

theorem formed_card : Rows.FormedCardSaid :=
  Claim7.holds_tied_plain_at .later [] _ _ _ _ formed_said (fun _ h => by cases h) (by kernel_rfl) (fun _ h => by cases h) formed_row_tie rfl ⟨rfl, rfl⟩ (by kernel_rfl) rfl formed_plain (by kernel_rfl)
#print axioms formed_card

end Go.Proofs.YtklenjmfalljgaaDoor
