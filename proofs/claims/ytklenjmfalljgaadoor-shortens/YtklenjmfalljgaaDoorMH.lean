/- For every program and all schedules: every Shorten is as the reference says, whatever the owner does with what came out and with what was lent. The row of Shortens, and its card. -/
import Derived.Test.YtklenjmfalljgaaDoorMG
import Derived.Test.YtklenjmfalljgaaDoorRows
import Derived.Deep.Slices
import Derived.Deep.DeepHandedRow
import Derived.Deep.DeepWitnessRowRef
import Derived.LaidMore
import Derived.Carry
import Derived.ProofKit
import Derived.OpenShut
import Derived.Lib.SmallJoins
import Derived.Test.YtklenjmfalljgaaDoorCards
import Derived.Test.YtklenjmfalljgaaDoorTie

/- The walk of shorten.Schedule. -/
namespace Go.Proofs.YtklenjmfalljgaaDoor
open Go.RowKit
attribute [local go_sem] Go.World.cell?_alloc_some run_field_verdict

theorem follow_len (p : List (List Ins)) (l : List Int) : (runS p l).steps.length ≤ l.length := by
  obtain ⟨m, h1, h2, h3, _⟩ := follow_fst p l 0 St.zero []
  unfold runS
  simp at h3
  omega

def resCl (o : Out) (sv gv : Value) : Array Value := #[.int .i64 o.kind, .int .i64 o.thread, .int .i64 o.at_, sv, .int .i64 (o.st.vars 0), .int .i64 (o.st.vars 1), .int .i64 (o.st.vars 2), .int .i64 (o.st.vars 3), gv]

theorem drop_at {B : Nat} {w : World} {g cap i : Nat} {l : List Int} (h : IntsAt B w (.slice (some ⟨g, 0, none⟩) l.length cap) l) (hi : i < l.length) :
    IntsAt B w (.slice (some ⟨g, i + 1, none⟩) (l.length - (i + 1)) (cap - (i + 1))) (l.drop (i + 1)) := by
  obtain ⟨a, c, e, h1, h2⟩ := h
  simp only [Value.slice.injEq, true_and] at e
  obtain ⟨rfl, rfl⟩ := e
  refine ⟨some ⟨g, i + 1, none⟩, cap - (i + 1), by simp, by simp; omega, fun k hk => ?_⟩
  have hk' : i + 1 + k < l.length := by simp at hk; omega
  obtain ⟨g', o', e1, e2, e3⟩ := h2 (i + 1 + k) hk'
  simp only [Option.some.injEq, Addr.mk.injEq, and_true] at e1
  obtain ⟨rfl, rfl⟩ := e1
  refine ⟨g, i + 1, rfl, e2, ?_⟩
  rw [List.getElem_drop]
  simpa using e3
theorem grown_drewAlloc {w : World} {o : Obj} : w.grownBy (w.drew.alloc o) none := ⟨rfl, rfl, rfl, by simp, fun k hk _ => heap_alloc_old w.drew _ hk⟩
theorem grown_undrew {w w' : World} (h : w.drew.grownBy w' none) : w.grownBy w' none := ⟨h.os, h.tape, h.output, h.size, h.block⟩
theorem nil_at {B : Nat} {w : World} {a : Option Addr} {c : Nat} : IntsAt B w (.slice a 0 c) [] := ⟨a, c, rfl, Nat.zero_le _, fun k hk => by simp at hk⟩
theorem nilOk_some {a : Addr} {n c : Nat} : nilOk (.slice (some a) n c) := fun n' c' e => by simp at e

set_option maxHeartbeats 4000000 in
set_option maxRecDepth 100000 in
theorem short_m {m : Nat} {w : World} {p : List (List Ins)} {v : Value} {sch : List Int} {fuel : Int} (hp : vProg p = true) (hM : MachAt w.heap.size w m p) (hv : IntsAt w.heap.size w v sch) (hno : nilOk v) (h500 : sch.length ≤ 500)
    (hf0 : 0 ≤ fuel) (hf1 : fuel ≤ 9223372036854775807) :
    Calls Tryd.prog 65 #[.pointer (some ⟨m, 0, none⟩), v, .int .i64 fuel] w fun e w' => ∃ sv, e = .returned (.tuple #[sv, .int .i64 ((shortS p sch fuel.toNat).2 : Nat)]) ∧ w'.ownsRow w.heap.size 3 1 sv (shortS p sch fuel.toNat).1.length (ints (shortS p sch fuel.toNat).1) ∧ w.grownBy w' none := by
  have HP := hide hp
  have HM := hide hM
  have HV := hide hv
  have HN := hide hno
  obtain ⟨so, sc, rfl⟩ := hv.form
  have hcap : sch.length ≤ sc := by
    obtain ⟨a, c, e, h1, _⟩ := hv
    simp only [Value.slice.injEq] at e
    omega
  clear hp hM hv hno
  have HC := hide (run_cut p sch)
  go_enter Tryd.func65, Tryd.ntmps65
  go_wp2_with fail
  refine (run_m HP.out HM.out (Nat.le_refl _) HV.out h500).mono ?_
  rintro e w1 ⟨rv, rfl, ⟨sv, gv, rfl, ho1, ho2⟩, hg1⟩
  obtain ⟨x1, x2, x3, rfl⟩ := owns_form ho1
  obtain ⟨y1, y2, y3, rfl⟩ := owns_form ho2
  have hx2 := owns_lenq ho1
  subst hx2
  have HG1 := hide hg1
  have hln := follow_len p sch
  have hcl := HC.out.2
  have HSS : Hid (∀ n, shortS p sch n = shr p (runS p sch) n (sch.take (cameTo (runS p sch))) 0 0) := fun n => rfl
  clear ho1 ho2 hg1
  generalize hO : runS p sch = o at *
  clear hO
  have hl1 : o.steps.length ≤ 1000 := by omega
  have ec : ∃ cn : Nat, cn = cameTo o := ⟨_, rfl⟩
  obtain ⟨cn, hcn⟩ := ec
  rw [← hcn] at hcl HSS
  have HCN := hide hcn
  clear hcn
  have c0 : (cn : Int) ≤ sc := by omega
  have c1 : (0 : Int) ≤ (cn : Int) := by omega
  go_wp2_with (go_at_call 97; refine (lengthOf_m o _ _ _ _ _ _ _ _ _ _ hl1).mono ?_; rintro e w2 ⟨rfl, hg2⟩; rw [← HCN.out])
  have HG2 : Hid (w.grownBy w2 none) := grown_trans (grown_trans HG1.out (grown_alloc (grown_refl _ _))) hg2
  have hs1 : w1.heap.size < w2.heap.size := by have := hg2.size; simp at this; omega
  have HB2 : Hid (w2.heap[w1.heap.size]? = some (.cells (resCl o (.slice x1 o.steps.length x3) (.slice y1 y2 y3)) 37 (0, 0))) := by
    unfold Hid; rw [hg2.block _ (by simp) (by simp)]; exact heap_alloc_new w1 _
  have HM2 : Hid (MachAt w.heap.size w2 m p) := HM.out.grown' (Nat.le_refl _) HG2.out
  have HI2 : Hid (IntsAt w2.heap.size w2 (.slice so cn sc) (sch.take cn)) := ((HV.out.pres (pres_grown HG2.out)).mono HG2.out.size).front hcl
  have HN2 : Hid (nilOk (.slice so cn sc)) := fun n c e => by
    simp only [Value.slice.injEq] at e
    have := HN.out sch.length sc (by rw [e.1])
    omega
  clear hg2 HG1
  have hfl : ([sch.take cn] : List (List Int)).flatten = sch.take cn := by simp
  refine (concat_m [sch.take cn] _ _ (rows_one rfl HI2.out HN2.out) (by simp) (by rw [hfl]; simp; omega)).mono ?_
  rintro e w3 ⟨sv3, rfl, hown3, hg3⟩
  rw [hfl] at hown3
  obtain ⟨z1, z2, z3, rfl⟩ := owns_form hown3
  have HO3 : Hid (w3.ownsRow w.heap.size 3 1 (.slice z1 z2 z3) (sch.take cn).length (ints (sch.take cn))) := owns_mono hown3 (by have := HG2.out.size; simp; omega)
  have HG3 : Hid (w2.grownBy w3 none) := grown_trans (grown_alloc (grown_refl _ _)) hg3
  have hl0 : (sch.take cn).length ≤ 500 := by simp; omega
  clear hown3 hg3 HI2 HN2 hfl
  go_wp2_with fail
  go_loopw [9, 10, 11] (fun sv r iv w' => ∃ (l : List Int) (i u : Nat), r = .int .i64 u ∧ iv = .int .i64 i ∧ l.length ≤ 500 ∧ i ≤ l.length ∧ (u : Int) ≤ fuel ∧ Hid (w'.ownsRow w.heap.size 3 1 sv l.length (ints l)) ∧ Hid (w2.grownBy w' none) ∧ Hid (shr p o (fuel.toNat - u) l i u = shr p o fuel.toNat (sch.take cn) 0 0)) (fun _ r _ _ => fuel.toNat - (intOf r).toNat)
  case atStart => exact ⟨sch.take cn, 0, 0, rfl, rfl, hl0, Nat.zero_le _, by omega, HO3, HG3, rfl⟩
  case round =>
    clear HO3 HG3
    obtain ⟨l, i, u, rfl, rfl, hl5, hil, hu, HO, HG, HS⟩ := hrel
    obtain ⟨w5, hw5⟩ : ∃ w5, w5 = wr := ⟨_, rfl⟩
    rw [← hw5] at HO HG ⊢
    clear hw5
    have q0 : (0 : Int) ≤ (i : Int) := by omega
    have q1 : (0 : Int) ≤ (u : Int) := by omega
    have q2 : (l.length : Int) ≤ 500 := by omega
    by_cases hgo : i < l.length ∧ (u : Int) < fuel
    · obtain ⟨hlt, huf⟩ := hgo
      obtain ⟨gg, gc, hvv⟩ : ∃ gg gc, u9 = .slice (some ⟨gg, 0, none⟩) l.length gc := by
        rcases HO.out.2 with ⟨_, e⟩ | ⟨gg, gc, _, e, _⟩
        · omega
        · exact ⟨gg, gc, e⟩
      subst hvv
      have HI5 := hide (owns_ints HO.out)
      have hcp : l.length ≤ gc := by
        obtain ⟨a, c, e, h1, _⟩ := HI5.out
        simp only [Value.slice.injEq] at e
        omega
      have q3 : (i : Int) < l.length := by omega
      have q4 : (i : Int) ≤ gc := by omega
      have q5 : (i : Int) + 1 ≤ l.length := by omega
      have q6 : (l.length : Int) ≤ gc := by omega
      have hnx : fuel.toNat - u = (fuel.toNat - (u + 1)) + 1 := by omega
      have HST : Hid (shr p o fuel.toNat (sch.take cn) 0 0 = if likeV (runS p (leftOut l i)) o = true then shr p o (fuel.toNat - (u + 1)) (leftOut l i) 0 (u + 1) else shr p o (fuel.toNat - (u + 1)) l (i + 1) (u + 1)) := by
        unfold Hid
        rw [← HS.out, hnx, shr, if_pos hlt]
      have hll := leftOut_len hlt
      clear HS hnx
      go_upto_region 7 with fail
      have HA : Hid (IntsAt w5.drew.heap.size w5.drew (.slice (some ⟨gg, 0, none⟩) i gc) (l.take i)) := HI5.out.front (by omega)
      go_cut [12] (fun tv w' => Hid (w'.ownsRow w.heap.size 3 1 tv (leftOut l i).length (ints (leftOut l i)) ∧ w5.grownBy w' none))
      case first =>
        have hwr : IntKind.i64.wrap ((i : Int) + 1) = (i : Int) + 1 := by rw [IntKind.wrap_i64]; omega
        have htn : ((i : Int) + 1).toNat = i + 1 := by omega
        by_cases hsk : gc - (i + 1) = 0
        · have HD : Hid (IntsAt w5.drew.heap.size w5.drew (.slice (some ⟨gg, 0, none⟩) (l.length - (i + 1)) 0) (l.drop (i + 1))) := by
            have e1 : l.drop (i + 1) = [] := List.drop_of_length_le (by omega)
            have e2 : l.length - (i + 1) = 0 := by omega
            unfold Hid; rw [e1, e2]; exact nil_at
          have HGC : Hid (gc = i + 1) := by unfold Hid; omega
          refine wp_region_head (fun _ => True) 9 (by kernel_rfl) (by kernel_rfl) trivial ?_
          intro hHeld
          refine wpHead_take (i := 0) (v := ?vva0) rfl (by kernel_rfl) (fun _ _ _ h => h) (Or.inl ⟨by rfl, ?hya0⟩) hHeld ?resta0
          case hya0 => (intro u hu; go_simp; try with_reducible rfl)
          simp only [Act.put, List.setIfInBounds_toArray]
          refine wpHead_take (i := 1) (v := ?vva1) rfl (by kernel_rfl) (fun _ _ _ h => h) (Or.inl ⟨by rfl, ?hya1⟩) hHeld ?resta1
          case hya1 => (intro u hu; go_simp; try with_reducible rfl)
          simp only [Act.put]
          refine wpHead_take (i := 2) (v := ?vva2) rfl (by kernel_rfl) (fun _ _ _ h => h) (Or.inl ⟨by rfl, ?hya2⟩) hHeld ?resta2
          case hya2 => (intro u hu; go_simp; try with_reducible rfl)
          simp only [Act.put]
          refine wpHead_take (i := 3) (v := ?vva3) rfl (by kernel_rfl) (fun _ _ _ h => h) (Or.inl ⟨by rfl, ?hya3⟩) hHeld ?resta3
          case hya3 => (intro u hu; go_simp; try with_reducible rfl)
          simp only [Act.put]
          refine wpHead_take (i := 4) (v := ?vva4) rfl (by kernel_rfl) (fun _ _ _ h => h) (Or.inl ⟨by rfl, ?hya4⟩) hHeld ?resta4
          case hya4 => (intro u hu; go_simp; try with_reducible rfl)
          simp only [Act.put]
          refine wpHead_take (i := 5) (v := .int .i64 ((i : Int) + 1)) rfl (by kernel_rfl) (fun _ _ _ h => h) (Or.inl ⟨by rfl, ?hya5⟩) hHeld ?resta5
          case hya5 => (intro u hu; go_simp; try rw [hwr])
          simp only [Act.put]
          refine wpHead_take (i := 6) (v := .slice (some ⟨gg, 0, none⟩) (l.length - (i + 1)) 0) rfl (by kernel_rfl) (fun _ _ _ h => h) (Or.inl ⟨by rfl, ?hya6⟩) hHeld ?resta6
          case hya6 => (intro u hu; have hgc := HGC.out; go_simp; first | done | (intro h; exfalso; omega))
          simp only [Act.put]
          refine wpHead_alone (i := 7) rfl (by kernel_rfl) (by kernel_rfl) (by rfl) ?_
          intro K7 hK7
          have HK7 := hide hK7
          clear hK7
          go_simp
          refine HK7.out _ _ trivial ?_
          clear HK7
          try simp only [Act.put, List.setIfInBounds_toArray]
          refine wpHead_alone (i := 8) rfl (by kernel_rfl) (by kernel_rfl) (by rfl) ?_
          intro K8 hK8
          have HK8 := hide hK8
          clear hK8
          go_simp
          refine (concat_m [l.take i, l.drop (i + 1)] _ _ (rows_two (W := w5.drew) rfl HA.out nilOk_some HD.out nilOk_some) (by simp) (by simp; omega)).mono ?_
          rintro e w6 ⟨tv, rfl, hown6, hg6⟩
          have hfl : ([l.take i, l.drop (i + 1)] : List (List Int)).flatten = leftOut l i := by simp [leftOut]
          rw [hfl] at hown6
          refine HK8.out _ _ trivial ?_
          clear HK8
          try simp only [Act.put, List.setIfInBounds_toArray]
          refine wpHead_last rfl (by kernel_rfl) (by kernel_rfl) (by rfl) ?_
          go_simp
          go_wp2
          go_meet
          exact ⟨owns_mono hown6 (by have := HG2.out.size; have := HG.out.size; simp; omega), grown_trans grown_drewAlloc hg6⟩
        · have HD : Hid (IntsAt w5.drew.heap.size w5.drew (.slice (some ⟨gg, i + 1, none⟩) (l.length - (i + 1)) (gc - (i + 1))) (l.drop (i + 1))) := drop_at HI5.out hlt
          have HGC : Hid (¬ gc = i + 1) := by unfold Hid; omega
          refine wp_region_head (fun _ => True) 9 (by kernel_rfl) (by kernel_rfl) trivial ?_
          intro hHeld
          refine wpHead_take (i := 0) (v := ?vvb0) rfl (by kernel_rfl) (fun _ _ _ h => h) (Or.inl ⟨by rfl, ?hyb0⟩) hHeld ?restb0
          case hyb0 => (intro u hu; go_simp; try with_reducible rfl)
          simp only [Act.put, List.setIfInBounds_toArray]
          refine wpHead_take (i := 1) (v := ?vvb1) rfl (by kernel_rfl) (fun _ _ _ h => h) (Or.inl ⟨by rfl, ?hyb1⟩) hHeld ?restb1
          case hyb1 => (intro u hu; go_simp; try with_reducible rfl)
          simp only [Act.put]
          refine wpHead_take (i := 2) (v := ?vvb2) rfl (by kernel_rfl) (fun _ _ _ h => h) (Or.inl ⟨by rfl, ?hyb2⟩) hHeld ?restb2
          case hyb2 => (intro u hu; go_simp; try with_reducible rfl)
          simp only [Act.put]
          refine wpHead_take (i := 3) (v := ?vvb3) rfl (by kernel_rfl) (fun _ _ _ h => h) (Or.inl ⟨by rfl, ?hyb3⟩) hHeld ?restb3
          case hyb3 => (intro u hu; go_simp; try with_reducible rfl)
          simp only [Act.put]
          refine wpHead_take (i := 4) (v := ?vvb4) rfl (by kernel_rfl) (fun _ _ _ h => h) (Or.inl ⟨by rfl, ?hyb4⟩) hHeld ?restb4
          case hyb4 => (intro u hu; go_simp; try with_reducible rfl)
          simp only [Act.put]
          refine wpHead_take (i := 5) (v := .int .i64 ((i : Int) + 1)) rfl (by kernel_rfl) (fun _ _ _ h => h) (Or.inl ⟨by rfl, ?hyb5⟩) hHeld ?restb5
          case hyb5 => (intro u hu; go_simp; try rw [hwr])
          simp only [Act.put]
          refine wpHead_take (i := 6) (v := .slice (some ⟨gg, i + 1, none⟩) (l.length - (i + 1)) (gc - (i + 1))) rfl (by kernel_rfl) (fun _ _ _ h => h) (Or.inl ⟨by rfl, ?hyb6⟩) hHeld ?restb6
          case hyb6 => (intro u hu; have hgc := HGC.out; go_simp; first | done | (intro h; exfalso; omega))
          simp only [Act.put]
          refine wpHead_alone (i := 7) rfl (by kernel_rfl) (by kernel_rfl) (by rfl) ?_
          intro K7 hK7
          have HK7 := hide hK7
          clear hK7
          go_simp
          refine HK7.out _ _ trivial ?_
          clear HK7
          try simp only [Act.put, List.setIfInBounds_toArray]
          refine wpHead_alone (i := 8) rfl (by kernel_rfl) (by kernel_rfl) (by rfl) ?_
          intro K8 hK8
          have HK8 := hide hK8
          clear hK8
          go_simp
          refine (concat_m [l.take i, l.drop (i + 1)] _ _ (rows_two (W := w5.drew) rfl HA.out nilOk_some HD.out nilOk_some) (by simp) (by simp; omega)).mono ?_
          rintro e w6 ⟨tv, rfl, hown6, hg6⟩
          have hfl : ([l.take i, l.drop (i + 1)] : List (List Int)).flatten = leftOut l i := by simp [leftOut]
          rw [hfl] at hown6
          refine HK8.out _ _ trivial ?_
          clear HK8
          try simp only [Act.put, List.setIfInBounds_toArray]
          refine wpHead_last rfl (by kernel_rfl) (by kernel_rfl) (by rfl) ?_
          go_simp
          go_wp2
          go_meet
          exact ⟨owns_mono hown6 (by have := HG2.out.size; have := HG.out.size; simp; omega), grown_trans grown_drewAlloc hg6⟩
      case rest =>
      obtain ⟨hown6, hg6⟩ := hcut
      obtain ⟨w6, hw6⟩ : ∃ w6, w6 = wc := ⟨_, rfl⟩
      rw [← hw6] at hown6 hg6 ⊢
      clear hw6 HA
      obtain ⟨t1, t2, t3, rfl⟩ := owns_form hown6
      have ht2 := owns_lenq hown6
      subst ht2
      have HO6 := hide hown6
      have HG5 := hide hg6
      have HG6 : Hid (w2.grownBy w6 none) := grown_trans HG.out hg6
      have hb6 : w6.heap[w1.heap.size]? = some (.cells (resCl o (.slice x1 o.steps.length x3) (.slice y1 y2 y3)) 37 (0, 0)) := by
        rw [HG6.out.block _ hs1 (by simp)]; exact HB2.out
      have k0 : w6.cell? ⟨w1.heap.size, 0, none⟩ = some (.int .i64 o.kind) := by simp only [World.cell?, hb6]; rfl
      have k1 : w6.cell? ⟨w1.heap.size, 1, none⟩ = some (.int .i64 o.thread) := by simp only [World.cell?, hb6]; rfl
      have k2 : w6.cell? ⟨w1.heap.size, 2, none⟩ = some (.int .i64 o.at_) := by simp only [World.cell?, hb6]; rfl
      have HM6 : Hid (MachAt w6.drew.heap.size w6.drew m p) := (HM2.out.grown' HG2.out.size HG6.out).mono (Nat.le_trans HG2.out.size HG6.out.size)
      have HI6 : Hid (IntsAt w6.drew.heap.size w6.drew (.slice t1 (leftOut l i).length t3) (leftOut l i)) := owns_ints HO6.out
      have h56 : (leftOut l i).length ≤ 500 := by omega
      clear hown6 hg6 hb6
      go_upto_region 8 with fail
      refine wp_region_head (fun u => u.cell? ⟨w1.heap.size, 0, none⟩ = some (.int .i64 o.kind) ∧ u.cell? ⟨w1.heap.size, 1, none⟩ = some (.int .i64 o.thread) ∧ u.cell? ⟨w1.heap.size, 2, none⟩ = some (.int .i64 o.at_)) 6 (by kernel_rfl) (by kernel_rfl) ⟨k0, k1, k2⟩ ?_
      intro hHeld
      refine wpHead_take (i := 0) (v := ?vvc0) rfl (by kernel_rfl) (fun _ _ _ h => h) (Or.inl ⟨by rfl, ?hyc0⟩) hHeld ?restc0
      case hyc0 => (rintro u ⟨hu0, hu1, hu2⟩; go_simp; try with_reducible rfl)
      simp only [Act.put, List.setIfInBounds_toArray]
      refine wpHead_take (i := 1) (v := ?vvc1) rfl (by kernel_rfl) (fun _ _ _ h => h) (Or.inl ⟨by rfl, ?hyc1⟩) hHeld ?restc1
      case hyc1 => (rintro u ⟨hu0, hu1, hu2⟩; go_simp; try with_reducible rfl)
      simp only [Act.put]
      refine wpHead_take (i := 4) (v := ?vvc4) rfl (by kernel_rfl) (fun _ _ _ h => h) (Or.inl ⟨by rfl, ?hyc4⟩) hHeld ?restc4
      case hyc4 => (rintro u ⟨hu0, hu1, hu2⟩; go_simp; try with_reducible rfl)
      simp only [Act.put]
      refine wpHead_take (i := 5) (v := ?vvc5) rfl (by kernel_rfl) (fun _ _ _ h => h) (Or.inl ⟨by rfl, ?hyc5⟩) hHeld ?restc5
      case hyc5 => (rintro u ⟨hu0, hu1, hu2⟩; go_simp; try with_reducible rfl)
      simp only [Act.put]
      refine wpHead_alone (i := 2) rfl (by kernel_rfl) (by kernel_rfl) (by rfl) ?_
      intro K2 hK2
      have HK2 := hide hK2
      clear hK2
      go_simp
      refine (run_m HP.out HM6.out (Nat.le_refl _) HI6.out h56).mono ?_
      rintro e w7 ⟨rv7, rfl, ⟨sv7, gv7, rfl, hs7, hr7⟩, hg7⟩
      obtain ⟨sa7, sb7, sc7, rfl⟩ := owns_form hs7
      obtain ⟨ra7, rb7, rc7, rfl⟩ := owns_form hr7
      clear hs7 hr7
      have HG7 : Hid (w6.grownBy w7 none) := grown_undrew hg7
      have hHeld7 : w7.cell? ⟨w1.heap.size, 0, none⟩ = some (.int .i64 o.kind) ∧ w7.cell? ⟨w1.heap.size, 1, none⟩ = some (.int .i64 o.thread) ∧ w7.cell? ⟨w1.heap.size, 2, none⟩ = some (.int .i64 o.at_) := ⟨pres_grown HG7.out _ _ k0, pres_grown HG7.out _ _ k1, pres_grown HG7.out _ _ k2⟩
      refine HK2.out _ _ hHeld7 ?_
      clear HK2 hg7
      try simp only [Act.put, List.setIfInBounds_toArray]
      refine wpHead_take (i := 3) (v := ?vvd3) rfl (by kernel_rfl) (fun _ _ _ h => h) (Or.inl ⟨by rfl, ?hyd3⟩) hHeld7 ?restd3
      case hyd3 => (rintro u ⟨hu0, hu1, hu2⟩; go_simp; try with_reducible rfl)
      simp only [Act.put, List.setIfInBounds_toArray]
      refine wpHead_last rfl (by kernel_rfl) (by kernel_rfl) (by rfl) ?_
      go_simp
      refine (sameVerdict_m (runS p (leftOut l i)) o w7).mono ?_
      rintro e w8 ⟨rfl, hg8⟩
      have HG8 : Hid (w6.grownBy w8 none) := grown_trans HG7.out hg8
      clear hg8 hHeld hHeld7 HG7 k0 k1 k2
      have q7 : (u : Int) + 1 ≤ 9223372036854775807 := by omega
      cases hlk : likeV (runS p (leftOut l i)) o
      · have HS2 : Hid (shr p o (fuel.toNat - (u + 1)) l (i + 1) (u + 1) = shr p o fuel.toNat (sch.take cn) 0 0) := by
          unfold Hid; rw [HST.out, hlk]; simp
        clear hlk
        go_wp2_with fail
        go_roundw
        case rel => exact ⟨l, i + 1, u + 1, by go_num, by go_num, hl5, by omega, by omega, owns_grown (owns_grown HO.out HG5.out (fun _ e => by cases e)) HG8.out (fun _ e => by cases e), grown_trans HG6.out HG8.out, HS2⟩
        case measure => simp [intOf]; omega
      · have HS2 : Hid (shr p o (fuel.toNat - (u + 1)) (leftOut l i) 0 (u + 1) = shr p o fuel.toNat (sch.take cn) 0 0) := by
          unfold Hid; rw [HST.out, hlk]; simp
        clear hlk
        go_wp2_with fail
        go_roundw
        case rel => exact ⟨leftOut l i, 0, u + 1, by go_num, rfl, h56, by omega, by omega, owns_grown HO6.out HG8.out (fun _ e => by cases e), grown_trans HG6.out HG8.out, HS2⟩
        case measure => simp [intOf]; omega
    · have HE : Hid (shr p o fuel.toNat (sch.take cn) 0 0 = (l, u)) := by
        unfold Hid
        rw [← HS.out]
        cases hn : fuel.toNat - u with
        | zero => rfl
        | succ n => rw [shr, if_neg (fun h => hgo ⟨h, by omega⟩)]
      have HFIN : Hid (shortS p sch fuel.toNat = (l, u)) := by unfold Hid; rw [HSS.out, HE.out]
      obtain ⟨b1, b2, b3, rfl⟩ := owns_form HO.out
      have hb2 := owns_lenq HO.out
      subst hb2
      by_cases hlt : i < l.length
      · have q3 : (i : Int) < l.length := by omega
        have q4 : fuel ≤ (u : Int) := by omega
        go_wp2_with fail
        rw [HFIN.out]
        exact bodyPost_ret (v := .tuple #[.slice b1 l.length b3, .int .i64 u]) (by simp [results, Tryd.results65, go_sem]) rfl ⟨_, rfl, HO.out, grown_trans HG2.out HG.out⟩
      · have q3 : (l.length : Int) ≤ (i : Int) := by omega
        go_wp2_with fail
        rw [HFIN.out]
        exact bodyPost_ret (v := .tuple #[.slice b1 l.length b3, .int .i64 u]) (by simp [results, Tryd.results65, go_sem]) rfl ⟨_, rfl, HO.out, grown_trans HG2.out HG.out⟩

end Go.Proofs.YtklenjmfalljgaaDoor

/- The walk of Shorten. -/
namespace Go.Proofs.YtklenjmfalljgaaDoor
open Go.RowKit
attribute [local go_sem] Go.World.cell?_alloc_some

/-- What Shorten answers. -/
def Shortened (p : List (List Ins)) (s : List Int) (fuel : Int) (w : World) (e : Ending) (w' : World) : Prop :=
  w.grownBy w' none ∧
  ((checkRunN p s = 0 ∧ 0 ≤ fuel ∧ ∃ sv, e = .returned (.tuple #[sv, .int .i64 ((shortS p s fuel.toNat).2 : Nat), .int .i64 0]) ∧ w'.ownsRow w.heap.size 3 1 sv (shortS p s fuel.toNat).1.length (ints (shortS p s fuel.toNat).1)) ∨
   (checkRunN p s = 0 ∧ fuel < 0 ∧ e = .returned (.tuple #[.slice none 0 0, .int .i64 0, .int .i64 2])) ∨
   (checkRunN p s ≠ 0 ∧ e = .returned (.tuple #[.slice none 0 0, .int .i64 0, .int .i64 (checkRunN p s)])))

theorem check_zero {p : List (List Ins)} {s : List Int} (h0 : checkRunN p s = 0) : vProg p = true ∧ s.length ≤ 500 := by
  unfold checkRunN at h0
  by_cases hv : vProg p = true
  · by_cases h5 : s.length ≤ 500
    · exact ⟨hv, h5⟩
    · simp [hv, h5] at h0
  · simp [hv] at h0

set_option maxHeartbeats 4000000 in
set_option maxRecDepth 100000 in
theorem shorten_m (p : List (List Ins)) (s : List Int) (pv sv : Value) (fuel : Int) (w : World) (hS : ShpAt w) (hP : ProgAt w pv p) (hI : IntsAt w.heap.size w sv s) (hno : nilOk sv) (hf1 : fuel ≤ 9223372036854775807) :
    Calls Tryd.prog 28 #[pv, sv, .int .i64 fuel] w (Shortened p s fuel w) := by
  have HSh := hide hS
  have HP := hide hP
  have HI := hide hI
  have HN := hide hno
  obtain ⟨ao, cap, rfl⟩ := hP.form
  obtain ⟨so, sc, rfl⟩ := hI.form
  clear hS hP hI hno
  go_enter Tryd.func28, Tryd.ntmps28
  go_wp2_with fail
  have hg0 : ∀ a b, w.grownBy ((w.alloc a).alloc b) none := fun a b => grown_alloc (grown_alloc (grown_refl _ _))
  refine (checkRun_m p [s] _ _ _ (HSh.out.pres (pres_grown (hg0 _ _))) (HP.out.pres (pres_grown (hg0 _ _))) (lists_one (by simp)) (by simp)).mono ?_
  rw [checkRuns_one]
  rintro e w1 ⟨rfl, hg1⟩
  have HG1 : Hid (w.grownBy w1 none) := grown_trans (hg0 _ _) hg1
  have hb0 : w1.heap[w.heap.size]? = some (.cells #[.slice ao p.length cap] 25 (0, 0)) := by
    rw [hg1.block w.heap.size (by simp; omega) (by simp), Below.heap_alloc _ _ _ (by simp)]; exact heap_alloc_new w _
  have c0 : w1.cell? ⟨w.heap.size, 0, none⟩ = some (.slice ao p.length cap) := by simp [World.cell?, hb0]
  clear hb0 hg1
  by_cases h0 : checkRunN p s = 0
  · have H0 := hide h0
    obtain ⟨hv, h5⟩ := check_zero h0
    have HV := hide hv
    rw [h0]
    clear h0 hv
    by_cases hf : fuel < 0
    · go_wp2_with fail
      exact bodyPost_ret (v := .tuple #[.slice none 0 0, .int .i64 0, .int .i64 2]) (by simp [results, Tryd.results28, go_sem]) rfl ⟨HG1.out, Or.inr (Or.inl ⟨H0.out, hf, rfl⟩)⟩
    · have hf0 : 0 ≤ fuel := by omega
      go_wp2_with fail
      refine (new_m HV.out (HP.out.pres (pres_grown HG1.out))).mono ?_
      rintro e w2 ⟨m, rfl, hM, hg2⟩
      have HM := hide hM
      have HG2 : Hid (w.grownBy w2 none) := grown_trans HG1.out hg2
      clear hM hg2 c0
      go_wp2_with fail
      refine (short_m HV.out HM.out ((HI.out.pres (pres_grown HG2.out)).mono HG2.out.size) HN.out h5 hf0 hf1).mono ?_
      rintro e w3 ⟨rv, rfl, hown3, hg3⟩
      obtain ⟨r1, r2, r3, rfl⟩ := owns_form hown3
      have HO3 := hide hown3
      have HG3 : Hid (w.grownBy w3 none) := grown_trans HG2.out hg3
      clear hown3 hg3
      go_wp2_with fail
      exact bodyPost_ret (v := .tuple #[.slice r1 r2 r3, .int .i64 ((shortS p s fuel.toNat).2 : Nat), .int .i64 0]) (by simp [results, Tryd.results28, go_sem]) rfl ⟨HG3.out, Or.inl ⟨H0.out, hf0, _, rfl, owns_mono HO3.out HG2.out.size⟩⟩
  · have H0 := hide h0
    have hne : (checkRunN p s != 0) = true := by simpa using h0
    clear h0
    generalize hE : checkRunN p s = e at *
    have HE := hide hE
    clear hE
    go_wp2_with fail
    exact bodyPost_ret (v := .tuple #[.slice none 0 0, .int .i64 0, .int .i64 e]) (by simp [results, Tryd.results28, go_sem]) rfl ⟨HG1.out, Or.inr (Or.inr ⟨by rw [HE.out]; exact H0.out, by rw [HE.out]⟩)⟩

end Go.Proofs.YtklenjmfalljgaaDoor

/- The walk of the reference's Shorten. -/
namespace Go.Proofs.YtklenjmfalljgaaDoor
open Go.RowKit
attribute [local go_sem] Go.World.cell?_alloc_some

theorem ints_ofS {B : Nat} {w : World} {ao : Option Addr} {cap n : Nat} {l : List Int} (h : IntsAt B w (.slice ao n cap) l) : ∀ b, ao = some b → ∀ j u, (ints l)[j]? = some u → w.cell? (b.add j) = some u := by
  rintro b rfl j u hj
  obtain ⟨a, c, e, _, h2⟩ := h
  have hl := (List.getElem?_eq_some_iff.1 hj).1
  rw [ints_len] at hl
  obtain ⟨g', o', e1, e2, e3⟩ := h2 j hl
  simp only [Value.slice.injEq] at e
  rw [e1] at e
  simp only [Option.some.injEq] at e
  obtain ⟨rfl, _⟩ := e
  have hadd : (⟨g', o', none⟩ : Addr).add j = ⟨g', o' + j, none⟩ := by unfold Addr.add; split <;> simp_all
  rw [hadd, e3]
  have : (ints l)[j]? = some (.int .i64 l[j]) := by simp [ints, hl]
  rw [this] at hj; exact hj
theorem grown_dnS {w : World} (n : Nat) : w.grownBy (w.drewN n) none := grown_of_like (by have := like_drewN w n; exact this)
theorem like_test (a b : Out) : likeV a b = ((a.kind == b.kind && (a.thread == b.thread && a.at_ == b.at_)) || (a.kind == 2 && b.kind == 2)) := by
  unfold likeV
  by_cases h : a.kind = 2
  · rw [if_pos h, h]
    by_cases h2 : b.kind = 2
    · simp [h2]
    · have h3 : ((2 : Int) == b.kind) = false := by simp; omega
      have h4 : (b.kind == 2) = false := by simpa using h2
      simp [h3, h4]
  · have h4 : (a.kind == 2) = false := by simpa using h
    rw [if_neg h, h4]
    simp [Bool.and_assoc]

set_option maxHeartbeats 4000000 in
set_option maxRecDepth 100000 in
theorem refshorten_m (p : List (List Ins)) (s : List Int) (pv sv : Value) (fuel : Int) (w : World) (hP : ProgAt w pv p) (hI : IntsAt w.heap.size w sv s) (hno : nilOk sv) (hf1 : fuel ≤ 9223372036854775807) (hpl : p.length ≤ 5864062014634) (hpc : ∀ c ∈ p, c.length ≤ 4398046510976) :
    Calls Tryd.prog 66 #[pv, sv, .int .i64 fuel] w (Shortened p s fuel w) := by
  obtain ⟨i0, hi0, hz0, hz1, hz2⟩ := info_parts info_int
  have HP := hide hP
  have HI := hide hI
  have HN := hide hno
  have HPC := hide hpc
  obtain ⟨ao, cap, rfl⟩ := hP.form
  obtain ⟨so, sc, rfl⟩ := hI.form
  have hcap : s.length ≤ sc := by
    obtain ⟨a, c, e, h1, _⟩ := hI
    simp only [Value.slice.injEq] at e
    omega
  clear hP hI hno hpc
  go_enter Tryd.func66, Tryd.ntmps66
  go_wp2_with fail
  have hg0 : ∀ a, w.grownBy (w.alloc a) none := fun a => grown_alloc (grown_refl _ _)
  refine (refcheck_m p _ _ (HP.out.pres (pres_grown (hg0 _))) hpl HPC.out).mono ?_
  rintro e w1 ⟨rfl, hg1⟩
  have HG1 : Hid (w.grownBy w1 none) := grown_trans (hg0 _) hg1
  have hb0 : w1.heap[w.heap.size]? = some (.cells #[.slice ao p.length cap] 25 (0, 0)) := by
    rw [hg1.block w.heap.size (by simp) (by simp)]; exact heap_alloc_new w _
  have c0 : w1.cell? ⟨w.heap.size, 0, none⟩ = some (.slice ao p.length cap) := by simp [World.cell?, hb0]
  clear hb0 hg1
  by_cases hv : vProg p = true
  · have e0 : checkN p = 0 := by simp [checkN, hv]
    have HV := hide hv
    rw [e0]
    clear e0 hv
    by_cases h5 : s.length ≤ 500
    · have h5' : (s.length : Int) ≤ 500 := by omega
      have H0 : Hid (checkRunN p s = 0) := by unfold Hid checkRunN; simp [HV.out, h5]
      by_cases hf : fuel < 0
      · go_wp2_with fail
        exact bodyPost_ret (v := .tuple #[.slice none 0 0, .int .i64 0, .int .i64 2]) (by simp [results, Tryd.results66, go_sem]) rfl ⟨HG1.out, Or.inr (Or.inl ⟨H0.out, hf, rfl⟩)⟩
      · have hf0 : 0 ≤ fuel := by omega
        have HPl := hide (play_m w1 ao cap p (.slice so s.length sc) s HV.out (HP.out.pres (pres_grown HG1.out)) ((HI.out.pres (pres_grown HG1.out)).mono HG1.out.size) (by omega))
        go_wp2_with fail
        refine (unhide HPl).mono ?_
        clear HPl
        rintro e w2 ⟨b, ab, rb, st, rfl, hR⟩
        obtain ⟨x1, x2, x3, rfl⟩ := owns_form hR.row
        have hx2 := owns_lenq hR.row
        subst hx2
        have HG2 : Hid (w.grownBy w2 none) := grown_trans HG1.out hR.frame
        obtain ⟨c10, c11, c12, c13, _, _, _⟩ := hR.vcells
        have HC2 := hide (pres_grown hR.frame _ _ c0)
        have HRC : Hid (∀ u, w2.grownBy u none → u.cell? ⟨b, 11, none⟩ = some (.int .i64 (runS p s).kind) ∧ u.cell? ⟨b, 12, none⟩ = some (.int .i64 (runS p s).thread) ∧ u.cell? ⟨b, 13, none⟩ = some (.int .i64 (runS p s).at_)) := fun u hu => ⟨pres_grown hu _ _ c11, pres_grown hu _ _ c12, pres_grown hu _ _ c13⟩
        have HCT := hide (run_cut p s)
        have hln := follow_len p s
        have HSS : Hid (∀ n, shortS p s n = shr p (runS p s) n (s.take (cameTo (runS p s))) 0 0) := fun n => rfl
        clear hR c0 c12 c13
        have hcl := HCT.out.2
        generalize hO : runS p s = o at *
        clear hO
        obtain ⟨cn, hcn⟩ : ∃ cn : Nat, cn = cameTo o := ⟨_, rfl⟩
        rw [← hcn] at hcl HSS
        have HCN := hide hcn
        clear hcn HCT
        have hl1 : (o.steps.length : Int) ≤ 500 := by omega
        go_upto_if 42 with fail
        go_cut [11] (fun nv w' => nv = .int .i64 (cn : Int) ∧ w' = w2)
        case first =>
          by_cases hk : o.kind = 2
          · have hc : cn = o.steps.length + 1 := by rw [HCN.out]; unfold cameTo; rw [if_pos hk]
            have HC := hide hc
            clear hc
            go_wp2_with fail
            go_meet
            exact ⟨by rw [HC.out]; go_num, rfl⟩
          · have hk2 : (o.kind == 2) = false := by simpa using hk
            have hc : cn = o.steps.length := by rw [HCN.out]; unfold cameTo; rw [if_neg hk]
            have HC := hide hc
            clear hc hk
            go_wp2_with fail
            go_meet
            exact ⟨by rw [HC.out], rfl⟩
        case rest =>
        obtain ⟨rfl, hwc⟩ := hcut
        have hwc2 := hwc.symm
        subst hwc2
        have HI2 : Hid (IntsAt w2.heap.size w2 (.slice so cn sc) (s.take cn)) := ((HI.out.pres (pres_grown HG2.out)).mono HG2.out.size).front hcl
        have HSO : Hid (so = none → cn = 0 ∧ sc = 0) := fun e => by
          have := HN.out s.length sc (by rw [e])
          omega
        have HNW : Hid (∀ ad, so = some ad → ∀ j u, (ints (s.take cn))[j]? = some u → w2.cell? (ad.add j) = some u) := ints_ofS HI2.out
        have hil : (ints (s.take cn)).length = cn * 1 := by rw [ints_len]; simp; omega
        have h63 : 0 + cn ≤ maxLen := by unfold maxLen; omega
        have q0 : (cn : Int) ≤ sc := by omega
        have q1 : (0 : Int) ≤ (cn : Int) := by omega
        have hs2 := HG2.out.size
        clear c10 c11
        go_upto_region 12 with (at_builtin; refine wpList_append_any rfl _ _ _ rfl w.heap.size 3 i0 _ 1 8 Tryd.underlying22 hi0 hz0 hz1 hz2 rfl (by omega) (.slice none 0 0) 0 [] rfl ⟨rfl, Or.inl ⟨rfl, rfl⟩⟩ so cn sc (ints (s.take cn)) rfl hil HSO.out HNW.out (ints_one _) h63 (by omega) hs2 ?_; intro z1 z2 z3 w3 hown3 hg3)
        simp only [Nat.zero_add, List.nil_append] at hown3
        have htk : (s.take cn).length = cn := by simp; omega
        have HO3 : Hid (w3.ownsRow w.heap.size 3 1 (.slice z1 z2 z3) (s.take cn).length (ints (s.take cn))) := by unfold Hid; rw [htk]; exact hown3
        have HG3 : Hid (w2.grownBy w3 none) := hg3
        have hl0 : (s.take cn).length ≤ 500 := by omega
        clear hown3 hg3 hil h63 HSO HNW HI2 htk
        go_wp2_with fail
        go_loopw [12, 13, 14] (fun lv uv kv w' => ∃ (l : List Int) (i u : Nat), uv = .int .i64 u ∧ kv = .int .i64 i ∧ l.length ≤ 500 ∧ i ≤ l.length ∧ (u : Int) ≤ fuel ∧ Hid (w'.ownsRow w.heap.size 3 1 lv l.length (ints l)) ∧ Hid (w2.grownBy w' none) ∧ Hid (shr p o (fuel.toNat - u) l i u = shr p o fuel.toNat (s.take cn) 0 0)) (fun _ uv _ _ => fuel.toNat - (intOf uv).toNat)
        case atStart => exact ⟨s.take cn, 0, 0, rfl, rfl, hl0, Nat.zero_le _, by omega, HO3, HG3, rfl⟩
        case round =>
          clear HO3 HG3
          obtain ⟨l, i, u, rfl, rfl, hl5, hil, hu, HO, HG, HS⟩ := hrel
          obtain ⟨w5, hw5⟩ : ∃ w5, w5 = wr := ⟨_, rfl⟩
          rw [← hw5] at HO HG ⊢
          clear hw5
          have r0 : (0 : Int) ≤ (i : Int) := by omega
          have r1 : (0 : Int) ≤ (u : Int) := by omega
          have r2 : (l.length : Int) ≤ 500 := by omega
          by_cases hgo : i < l.length ∧ (u : Int) < fuel
          · obtain ⟨hlt, huf⟩ := hgo
            obtain ⟨gg, gc, hvv⟩ : ∃ gg gc, u12 = .slice (some ⟨gg, 0, none⟩) l.length gc := by
              rcases HO.out.2 with ⟨_, e⟩ | ⟨gg, gc, _, e, _⟩
              · omega
              · exact ⟨gg, gc, e⟩
            subst hvv
            have HI5 := hide (owns_ints HO.out)
            have hcp : l.length ≤ gc := by
              obtain ⟨a, c, e, h1, _⟩ := HI5.out
              simp only [Value.slice.injEq] at e
              omega
            have r3 : (i : Int) < l.length := by omega
            have r4 : (i : Int) ≤ gc := by omega
            have r5 : (i : Int) + 1 ≤ l.length := by omega
            have r6 : (l.length : Int) ≤ gc := by omega
            have hnx : fuel.toNat - u = (fuel.toNat - (u + 1)) + 1 := by omega
            have HST : Hid (shr p o fuel.toNat (s.take cn) 0 0 = if likeV (runS p (leftOut l i)) o = true then shr p o (fuel.toNat - (u + 1)) (leftOut l i) 0 (u + 1) else shr p o (fuel.toNat - (u + 1)) l (i + 1) (u + 1)) := by
              unfold Hid
              rw [← HS.out, hnx, shr, if_pos hlt]
            have hll := leftOut_len hlt
            have HLL := hide hll
            have hs5 : w.heap.size ≤ w5.heap.size := by have := HG.out.size; omega
            have HNW : Hid (∀ ad, some (⟨gg, 0, none⟩ : Addr) = some ad → ∀ j v, (ints (l.take i))[j]? = some v → w5.cell? (ad.add j) = some v) := ints_ofS (IntsAt.front HI5.out (by omega))
            have hil1 : (ints (l.take i)).length = i * 1 := by rw [ints_len]; simp; omega
            have h63a : 0 + i ≤ maxLen := by unfold maxLen; omega
            clear HS hnx hll
            go_upto_region 17 with (at_builtin; refine wpList_append_any rfl _ _ _ rfl w5.heap.size 3 i0 _ 1 8 Tryd.underlying22 hi0 hz0 hz1 hz2 rfl (by omega) (.slice none 0 0) 0 [] rfl ⟨rfl, Or.inl ⟨rfl, rfl⟩⟩ (some ⟨gg, 0, none⟩) i gc (ints (l.take i)) rfl hil1 (fun e => by cases e) HNW.out (ints_one _) h63a (by omega) (Nat.le_refl _) ?_; intro ta tn tc w6 hown6 hg6)
            simp only [Nat.zero_add, List.nil_append] at hown6
            have HO6 := hide hown6
            have HG56 : Hid (w5.grownBy w6 none) := hg6
            have hs6 : w5.heap.size ≤ w6.heap.size := hg6.size
            have HI6 : Hid (IntsAt w6.heap.size w6 (.slice (some ⟨gg, 0, none⟩) l.length gc) l) := (HI5.out.pres (pres_grown hg6)).mono hg6.size
            have hfl : ints (l.take i) ++ ints (l.drop (i + 1)) = ints (leftOut l i) := by simp [ints, leftOut]
            have hfn : i + (l.length - (i + 1)) = (leftOut l i).length := by have := HLL.out; omega
            have h63b : i + (l.length - (i + 1)) ≤ maxLen := by unfold maxLen; omega
            have hil2 : (ints (l.drop (i + 1))).length = (l.length - (i + 1)) * 1 := by rw [ints_len]; simp
            clear hown6 hg6 hil1 h63a HNW
            go_cut [15] (fun tv w' => Hid (w'.ownsRow w5.heap.size 3 1 tv (leftOut l i).length (ints (leftOut l i)) ∧ w5.grownBy w' none))
            case first =>
              by_cases hsk : gc - (i + 1) = 0
              · have hgc : gc = i + 1 := by omega
                have hdr : l.drop (i + 1) = [] := List.drop_of_length_le (by omega)
                have HE : Hid (ints (leftOut l i) = ints (l.take i) ∧ (leftOut l i).length = i) := ⟨by rw [← hfl, hdr]; simp [ints], by omega⟩
                clear hdr
                subst hgc
                go_wp2_with (at_builtin; refine wpList_append_any rfl _ _ _ rfl w5.heap.size 3 i0 _ 1 8 Tryd.underlying22 hi0 hz0 hz1 hz2 rfl (by omega) (.slice ta tn tc) i (ints (l.take i)) rfl HO6.out (some ⟨gg, 0, none⟩) 0 0 [] rfl rfl (fun e => by cases e) (fun ad e j v hj => by simp at hj) (fun v hv => by cases hv) (by omega) (by omega) hs6 ?_; intro tb tm td w7 hown7 hg7)
                go_meet
                exact ⟨by rw [HE.out.1, HE.out.2]; simpa using hown7, grown_row HG56.out hg7 (fun q e => owns_block HO6.out q e)⟩
              · have HDD : Hid (IntsAt w6.heap.size w6 (.slice (some ⟨gg, i + 1, none⟩) (l.length - (i + 1)) (gc - (i + 1))) (l.drop (i + 1))) := drop_at HI6.out hlt
                have HNW : Hid (∀ ad, some (⟨gg, i + 1, none⟩ : Addr) = some ad → ∀ j v, (ints (l.drop (i + 1)))[j]? = some v → w6.cell? (ad.add j) = some v) := ints_ofS HDD.out
                have hgc : ¬ gc = i + 1 := by omega
                go_wp2_with (at_builtin; refine wpList_append_any rfl _ _ _ rfl w5.heap.size 3 i0 _ 1 8 Tryd.underlying22 hi0 hz0 hz1 hz2 rfl (by omega) (.slice ta tn tc) i (ints (l.take i)) rfl HO6.out (some ⟨gg, i + 1, none⟩) (l.length - (i + 1)) (gc - (i + 1)) (ints (l.drop (i + 1))) rfl hil2 (fun e => by cases e) HNW.out (ints_one _) h63b (by omega) hs6 ?_; intro tb tm td w7 hown7 hg7)
                go_meet
                exact ⟨by rw [← hfl, ← hfn]; exact hown7, grown_row HG56.out hg7 (fun q e => owns_block HO6.out q e)⟩
            case rest =>
            obtain ⟨ho7, hg7⟩ := hcut.out
            clear hcut HO6 HG56 HI6 hfl hfn h63b hil2 hs6
            obtain ⟨w7, hw7⟩ : ∃ w7, w7 = wc := ⟨_, rfl⟩
            rw [← hw7] at ho7 hg7 ⊢
            clear hw7
            obtain ⟨t1, t2, t3, ht⟩ := owns_form ho7
            subst ht
            have HO7 := hide ho7
            have HG57 := hide hg7
            have HG27 : Hid (w2.grownBy w7 none) := grown_trans HG.out hg7
            have HGW7 : Hid (w.grownBy w7 none) := grown_trans HG2.out HG27.out
            have c7 := pres_grown HG27.out _ _ HC2.out
            have HPl := hide (play_m w7 ao cap p (.slice t1 t2 t3) (leftOut l i) HV.out (HP.out.pres (pres_grown HGW7.out)) (owns_ints ho7) (by have := HLL.out; omega))
            clear ho7 hg7
            go_wp2_with fail
            refine (unhide HPl).mono ?_
            clear HPl c7
            rintro e w8 ⟨b8, ab8, rb8, st8, rfl, hR8⟩
            obtain ⟨_, k1, k2, k3, _, _, _⟩ := hR8.vcells
            have HG78 := hide hR8.frame
            have HLT := hide (like_test (runS p (leftOut l i)) o)
            have HLV : Hid (∃ LK, LK = likeV (runS p (leftOut l i)) o) := ⟨_, rfl⟩
            clear hR8
            generalize hq : runS p (leftOut l i) = q at *
            obtain ⟨LK, hLK⟩ := HLV.out
            rw [← hLK] at HST HLT
            clear HLV hLK hq
            go_upto_region 20 with fail
            obtain ⟨w9, hw9⟩ : ∃ w9, w9 = w8.alloc (.cells #[.int .i64 q.kind, .int .i64 q.thread, .int .i64 q.at_] 32) := ⟨_, rfl⟩
            have HG89 : Hid (w8.grownBy w9 none) := by unfold Hid; rw [hw9]; exact grown_alloc (grown_refl _ _)
            have zb : w9.heap[w8.heap.size]? = some (.cells #[.int .i64 q.kind, .int .i64 q.thread, .int .i64 q.at_] 32 (0, 0)) := by rw [hw9]; exact heap_alloc_new w8 _
            rw [← hw9]
            clear hw9 k1 k2 k3
            have HG29 : Hid (w2.grownBy w9 none) := grown_trans HG27.out (grown_trans HG78.out HG89.out)
            obtain ⟨m1, m2, m3⟩ := HRC.out w9 HG29.out
            have n0 : w9.cell? ⟨w8.heap.size, 0, none⟩ = some (.int .i64 q.kind) := by simp [World.cell?, zb]
            have n1 : w9.cell? ⟨w8.heap.size, 1, none⟩ = some (.int .i64 q.thread) := by simp [World.cell?, zb]
            have n2 : w9.cell? ⟨w8.heap.size, 2, none⟩ = some (.int .i64 q.at_) := by simp [World.cell?, zb]
            clear zb
            generalize q.kind = qk at *
            generalize q.thread = qt at *
            generalize q.at_ = qa at *
            generalize o.kind = ok at *
            generalize o.thread = ot at *
            generalize o.at_ = oa at *
            go_cut [96] (fun x w' => x = .bool LK ∧ Hid (w9.grownBy w' none))
            case first =>
              by_cases e1 : qk = ok
              · subst e1
                by_cases e2 : qt = ot
                · subst e2
                  by_cases e3 : qa = oa
                  · subst e3
                    have HL : Hid (LK = true) := by unfold Hid; rw [HLT.out]; simp
                    go_quiet (fail)
                    go_wp2_with fail
                    go_meet
                    exact ⟨by rw [HL.out], grown_dnS _⟩
                  · have e3' : (qa == oa) = false := by simpa using e3
                    by_cases e4 : qk = 2
                    · subst e4
                      have HL : Hid (LK = true) := by unfold Hid; rw [HLT.out]; simp
                      clear e3
                      go_quiet (fail)
                      go_wp2_with fail
                      go_meet
                      exact ⟨by rw [HL.out], grown_dnS _⟩
                    · have e4' : (qk == 2) = false := by simpa using e4
                      have HL : Hid (LK = false) := by unfold Hid; rw [HLT.out]; simp [e3', e4']
                      clear e3 e4
                      go_quiet (fail)
                      go_wp2_with fail
                      go_meet
                      exact ⟨by rw [HL.out], grown_dnS _⟩
                · have e2' : (qt == ot) = false := by simpa using e2
                  by_cases e4 : qk = 2
                  · subst e4
                    have HL : Hid (LK = true) := by unfold Hid; rw [HLT.out]; simp
                    clear e2
                    go_quiet (fail)
                    go_wp2_with fail
                    go_meet
                    exact ⟨by rw [HL.out], grown_dnS _⟩
                  · have e4' : (qk == 2) = false := by simpa using e4
                    have HL : Hid (LK = false) := by unfold Hid; rw [HLT.out]; simp [e2', e4']
                    clear e2 e4
                    go_quiet (fail)
                    go_wp2_with fail
                    go_meet
                    exact ⟨by rw [HL.out], grown_dnS _⟩
              · have e1' : (qk == ok) = false := by simpa using e1
                by_cases e4 : qk = 2
                · subst e4
                  have e5' : (ok == 2) = false := by simpa using fun h : ok = 2 => e1 h.symm
                  have HL : Hid (LK = false) := by unfold Hid; rw [HLT.out]; simp [e1', e5']
                  clear e1
                  go_quiet (fail)
                  go_wp2_with fail
                  go_meet
                  exact ⟨by rw [HL.out], grown_dnS _⟩
                · have e4' : (qk == 2) = false := by simpa using e4
                  have HL : Hid (LK = false) := by unfold Hid; rw [HLT.out]; simp [e1', e4']
                  clear e1 e4
                  go_quiet (fail)
                  go_wp2_with fail
                  go_meet
                  exact ⟨by rw [HL.out], grown_dnS _⟩
            case rest =>
            obtain ⟨rfl, HGc⟩ := hcut
            obtain ⟨w10, hw10⟩ : ∃ w10, w10 = wc := ⟨_, rfl⟩
            rw [← hw10] at HGc ⊢
            clear hw10 m1 m2 m3 n0 n1 n2 HLT
            have HG210 : Hid (w2.grownBy w10 none) := grown_trans HG29.out HGc.out
            have HG710 : Hid (w7.grownBy w10 none) := grown_trans HG78.out (grown_trans HG89.out HGc.out)
            have huf' : (u : Int) + 1 ≤ fuel := by omega
            cases LK with
            | true =>
              have HS1 : Hid (shr p o (fuel.toNat - (u + 1)) (leftOut l i) 0 (u + 1) = shr p o fuel.toNat (s.take cn) 0 0) := by unfold Hid; rw [HST.out]; rfl
              have HON : Hid (w10.ownsRow w.heap.size 3 1 (.slice t1 t2 t3) (leftOut l i).length (ints (leftOut l i))) := owns_mono (owns_grown HO7.out HG710.out (fun _ e => by cases e)) hs5
              clear HST
              go_wp2_with fail
              go_roundw
              case rel => exact ⟨leftOut l i, 0, u + 1, by go_num, rfl, by have := HLL.out; omega, Nat.zero_le _, by omega, HON, HG210, HS1⟩
              case measure => simp [intOf]; omega
            | false =>
              have HS1 : Hid (shr p o (fuel.toNat - (u + 1)) l (i + 1) (u + 1) = shr p o fuel.toNat (s.take cn) 0 0) := by unfold Hid; rw [HST.out]; rfl
              have HON : Hid (w10.ownsRow w.heap.size 3 1 (.slice (some ⟨gg, 0, none⟩) l.length gc) l.length (ints l)) := owns_grown (owns_grown HO.out HG57.out (fun _ e => by cases e)) HG710.out (fun _ e => by cases e)
              clear HST
              go_wp2_with fail
              go_roundw
              case rel => exact ⟨l, i + 1, u + 1, by go_num, by go_num, hl5, by omega, by omega, HON, HG210, HS1⟩
              case measure => simp [intOf]; omega
          · have HE : Hid (shortS p s fuel.toNat = (l, u)) := by
              unfold Hid
              rw [HSS.out, ← HS.out]
              cases hd : fuel.toNat - u with
              | zero => rfl
              | succ d => rw [shr, if_neg (by omega)]
            have HGW : Hid (w.grownBy w5 none) := grown_trans HG2.out HG.out
            obtain ⟨l1, l2, l3, hlv⟩ := owns_form HO.out
            subst hlv
            have hl2 := owns_lenq HO.out
            subst hl2
            by_cases hA : (u : Int) < fuel
            · have r7 : (l.length : Int) ≤ (i : Int) := by omega
              go_wp2_with fail
              exact bodyPost_ret (v := .tuple #[.slice l1 l.length l3, .int .i64 (u : Int), .int .i64 0]) (by simp [results, Tryd.results66, go_sem]) rfl ⟨HGW.out, Or.inl ⟨H0.out, hf0, _, by rw [HE.out], by rw [HE.out]; exact HO.out⟩⟩
            · have r7 : fuel ≤ (u : Int) := by omega
              go_wp2_with fail
              exact bodyPost_ret (v := .tuple #[.slice l1 l.length l3, .int .i64 (u : Int), .int .i64 0]) (by simp [results, Tryd.results66, go_sem]) rfl ⟨HGW.out, Or.inl ⟨H0.out, hf0, _, by rw [HE.out], by rw [HE.out]; exact HO.out⟩⟩
    · have h5' : (500 : Int) < s.length := by omega
      have H0 : Hid (checkRunN p s = 2) := by unfold Hid checkRunN; simp [HV.out, h5]
      go_wp2_with fail
      exact bodyPost_ret (v := .tuple #[.slice none 0 0, .int .i64 0, .int .i64 2]) (by simp [results, Tryd.results66, go_sem]) rfl ⟨HG1.out, Or.inr (Or.inr ⟨by rw [H0.out]; decide, by rw [H0.out]⟩)⟩
  · have e0 : checkN p = 1 := by simp [checkN, hv]
    have H0 : Hid (checkRunN p s = 1) := by unfold Hid checkRunN; simp [hv]
    rw [e0]
    clear e0 hv
    go_wp2_with fail
    exact bodyPost_ret (v := .tuple #[.slice none 0 0, .int .i64 0, .int .i64 1]) (by simp [results, Tryd.results66, go_sem]) rfl ⟨HG1.out, Or.inr (Or.inr ⟨by rw [H0.out]; decide, by rw [H0.out]⟩)⟩

end Go.Proofs.YtklenjmfalljgaaDoor

/- The walk of the hands' shortened. -/
namespace Go.Proofs.YtklenjmfalljgaaDoor
open Go.RowKit
attribute [local go_sem] Go.World.cell?_alloc_some

/-- What Shorten answers: the list, the trials, the number. -/
def shOut (p : List (List Ins)) (s : List Int) (fuel : Int) : List Int := if checkRunN p s = 0 ∧ 0 ≤ fuel then (shortS p s fuel.toNat).1 else []
def shNum (p : List (List Ins)) (s : List Int) (fuel : Int) : Int := if checkRunN p s = 0 ∧ 0 ≤ fuel then (((shortS p s fuel.toNat).2 : Nat) : Int) else 0
def shErr (p : List (List Ins)) (s : List Int) (fuel : Int) : Int := if checkRunN p s = 0 then (if 0 ≤ fuel then 0 else 2) else checkRunN p s
theorem Shortened.form {p : List (List Ins)} {s : List Int} {fuel : Int} {w w' : World} {e : Ending} (h : Shortened p s fuel w e w') :
    w.grownBy w' none ∧ ∃ v, e = .returned (.tuple #[v, .int .i64 (shNum p s fuel), .int .i64 (shErr p s fuel)]) ∧ w'.ownsRow w.heap.size 3 1 v (shOut p s fuel).length (ints (shOut p s fuel)) := by
  obtain ⟨hg, h⟩ := h
  rcases h with ⟨h0, hf, v, he, ho⟩ | ⟨h0, hf, he⟩ | ⟨h0, he⟩
  · refine ⟨hg, v, ?_, ?_⟩
    · unfold shNum shErr; rw [if_pos ⟨h0, hf⟩, if_pos h0, if_pos hf]; exact he
    · unfold shOut; rw [if_pos ⟨h0, hf⟩]; exact ho
  · have hn : ¬ (checkRunN p s = 0 ∧ 0 ≤ fuel) := by omega
    refine ⟨hg, .slice none 0 0, ?_, ?_⟩
    · unfold shNum shErr; rw [if_neg hn, if_pos h0, if_neg (by omega)]; exact he
    · unfold shOut; rw [if_neg hn]; exact ⟨rfl, Or.inl ⟨rfl, rfl⟩⟩
  · have hn : ¬ (checkRunN p s = 0 ∧ 0 ≤ fuel) := fun e => h0 e.1
    refine ⟨hg, .slice none 0 0, ?_, ?_⟩
    · unfold shNum shErr; rw [if_neg hn, if_neg h0]; exact he
    · unfold shOut; rw [if_neg hn]; exact ⟨rfl, Or.inl ⟨rfl, rfl⟩⟩
theorem shOut_le (p : List (List Ins)) (s : List Int) (fuel : Int) : (shOut p s fuel).length ≤ 500 := by
  unfold shOut
  by_cases h : checkRunN p s = 0 ∧ 0 ≤ fuel
  · rw [if_pos h]
    have h5 := (check_zero h.1).2
    unfold shortS
    have h1 := shr_len (p := p) (V := runS p s) fuel.toNat (s.take (cameTo (runS p s))) 0 0
    have h2 : (s.take (cameTo (runS p s))).length ≤ s.length := by simp; omega
    omega
  · rw [if_neg h]; simp

set_option maxHeartbeats 4000000 in
set_option maxRecDepth 100000 in
theorem shortened_f (W : World) (B : Nat) (w : World) (b : Nat) (who : Nat → Role) (n : Int) (f : Nat → Value) (K : Nat → List (Value × Int)) (pv sv : Value) (p : List (List Ins)) (s : List Int) (fuel : Int)
    (h : Hz B w b who n f K) (hW : W.grownBy w none) (hWB : W.heap.size ≤ B) (hS : ShpAt W) (hP : ProgAt W pv p) (hI : IntsAt W.heap.size W sv s) (hnil : nilOk sv) (hfu : fuel ≤ 9223372036854775807) (hpl : p.length ≤ 5864062014634) (hpc : ∀ c ∈ p, c.length ≤ 4398046510976) (hsl : s.length ≤ 17592186043904) (hn0 : 0 ≤ n) (hn1 : n ≤ 9000000000000) (hK : ∀ c, c < 5 → (K c).length ≤ 4900000000000) :
    Calls Tryd.prog 29 #[pt b, pv, sv, .int .i64 fuel] w (HzF W B b (n + 1) K w who) := by
  have HH := hide h
  have HW := hide hW
  have HS := hide hS
  have HP := hide hP
  have HI := hide hI
  have HNL := hide hnil
  have HPC := hide hpc
  have HK := hide hK
  obtain ⟨ao, cap, rfl⟩ := hP.form
  obtain ⟨so, sc, rfl⟩ := hI.form
  have hpt : pt b = .pointer (some ⟨b, 0, none⟩) := rfl
  have HPG := hide (program_g W B (w.alloc (.cells #[.slice ao p.length cap] 25)) b who n f K [] [] [] (.agg #[.slice ao p.length cap]) p (h.lx.grown (grown_alloc (grown_refl _ _))) (grown_alloc hW) hWB hP hpl hpc (by simpa using hpl) (by simp))
  clear h hW hS hP hI hnil hpc hK
  rw [hpt] at HPG ⊢
  go_enter Tryd.func29, Tryd.ntmps29
  go_wp2_with fail
  refine HPG.out.mono ?_
  clear HPG
  rintro e w1 ⟨g, LC1, who1, f1, rfl, hx1, hlc, hf1, hb1⟩
  have hwo : who w.heap.size = .other := by
    by_cases e : who w.heap.size = .other
    · exact e
    · exact absurd (HH.out.1.1.dom _ e).2 (by omega)
  obtain ⟨hbx, hwx⟩ := hf1.oth w.heap.size (by simp) hwo (fun e => e)
  have HW1 : Hid (W.grownBy w1 none) := hf1.base (grown_alloc HW.out) hWB (fun g e => (HH.out.1.1.dom g e).1) (fun _ e => e.elim)
  have HF1 : Hid (Fr w w1 who who1 (fun g => w.heap.size ≤ g)) := (Fr.grown (grown_alloc (grown_refl _ _))).step0 hf1
  have c1 : w1.cell? ⟨w.heap.size, 0, none⟩ = some (.slice ao p.length cap) := by
    simp only [World.cell?, hbx, heap_alloc_new]; rfl
  have hlt1 : w.heap.size < w1.heap.size := World.block_lt_of_cell? w1 _ c1
  have hll : LC1.length = p.length := by rw [← hlc]; simp
  simp only [List.nil_append] at hx1
  have HSG := hide (schedule_g B w1 b who1 n f1 K [] LC1 [(g, p.length)] 0 (.slice so s.length sc) s hx1 ((HI.out.pres (pres_grown HW1.out)).mono HW1.out.size) (val_other hx1.hs hWB HI.out) hsl (by simp))
  have HX1 := hide hx1
  have HLC := hide hlc
  have HWX := hide hwx
  have HLL := hide hll
  have HC1 := hide c1
  clear hx1 hlc hf1 hb1 hbx hwo hwx hll c1
  rw [hpt] at HSG
  go_wp2_with fail
  refine HSG.out.mono ?_
  clear HSG
  rintro e w2 ⟨gs, who2, f2, rfl, hx2, hf2⟩
  simp only [List.nil_append] at hx2
  have HW2 : Hid (W.grownBy w2 none) := hf2.base HW1.out hWB (fun g e => (HX1.out.hs.1.dom g e).1) (fun _ e => e.elim)
  have HF2 : Hid (Fr w w2 who who2 (fun g => w.heap.size ≤ g)) := HF1.out.step0 hf2
  obtain ⟨hbx, hwx⟩ := hf2.oth w.heap.size hlt1 HWX.out (fun e => e)
  have HWX2 := hide hwx
  have HC2 : Hid (w2.cell? ⟨w.heap.size, 0, none⟩ = some (.slice ao p.length cap)) := by
    unfold Hid; rw [World.cell?_of_block hbx]; exact HC1.out
  have hlt2 : w.heap.size < w2.heap.size := World.block_lt_of_cell? w2 _ HC2.out
  have hgb : w2.heap[g]? = some (.cells (lentRows LC1) 29 (0, 0)) := by
    have := (hx2.le.lr 0 (by simp)).1
    simp only [List.getElem_cons_zero, List.take_zero, List.map_nil, List.sum_nil, List.drop_zero] at this
    rw [List.take_of_length_le (by rw [HLL.out]; omega)] at this
    exact this
  have hPx : ProgAt w2 (.agg #[.slice (some ⟨g, 0, none⟩) p.length (p.length + 2)]) p := lent_prog (LC0 := []) (by simpa using hx2.le) hgb HLC.out _
  have hIx : IntsAt w2.heap.size w2 (.slice (some ⟨gs, 0, none⟩) s.length (s.length + 2)) s := lent_ints (hx2.le.li (gs, s, .slice so s.length sc) (by simp)).1
  have HFM := hide (shorten_m p s _ _ fuel w2 (HS.out.pres (pres_grown HW2.out)) hPx hIx (fun _ _ e => by simp at e) hfu)
  have HX2 := hide hx2
  clear hx2 hf2 hbx hwx hgb hPx hIx HX1 HC1 HWX hlt1
  go_wp2_with fail
  refine HFM.out.mono ?_
  clear HFM
  intro e w3 hF
  obtain ⟨hg3, v, he, ho3⟩ := hF.form
  clear hF
  subst he
  obtain ⟨x1, x2, x3, rfl⟩ := owns_form ho3
  have HO3 := hide ho3
  have HG23 := hide hg3
  have HW3 : Hid (W.grownBy w3 none) := grown_trans HW2.out hg3
  have HBK := hide (back_g B w3 b who2 n f2 K _ _ _ (HX2.out.grown hg3) (by simp) (by rw [HLL.out]; omega) (by simp))
  clear ho3 hg3
  rw [hpt] at HBK
  generalize hcr : shErr p s fuel = cr at *
  generalize hnm : shNum p s fuel = nm at *
  have HCR := hide hcr
  have HNM := hide hnm
  clear hcr hnm
  go_wp2_with fail
  refine HBK.out.mono ?_
  clear HBK
  rintro e w4 ⟨rfl, f4, hz4, hf4⟩
  have HW4 : Hid (W.grownBy w4 none) := hf4.base HW3.out hWB (fun g e => (HX2.out.hs.1.dom g e).1) (fun _ e => e.elim)
  have HF4 : Hid (Fr w w4 who who2 (fun g => w.heap.size ≤ g)) := (HF2.out.stepG HG23.out).step0 hf4
  have hbo : ∀ q, (Value.slice x1 x2 x3).ownBlock = some q → w2.heap.size ≤ q ∧ q < w3.heap.size ∧ who2 q = .other := fun q e => by
    have h1 := owns_block HO3.out q e
    refine ⟨h1, owns_ltH HO3.out q e, ?_⟩
    by_cases ho : who2 q = .other
    · exact ho
    · exact absurd (HX2.out.hs.1.dom q ho).2 (by omega)
  have HBO := hide hbo
  have HO4 : Hid (w4.ownsRow w2.heap.size 3 1 (.slice x1 x2 x3) (shOut p s fuel).length (ints (shOut p s fuel))) := owns_same HO3.out (fun q e => (hf4.oth q (hbo q e).2.1 (hbo q e).2.2 (fun e => e)).1)
  have c4 : w4.cell? ⟨w.heap.size, 0, none⟩ = some (.slice ao p.length cap) := by
    rw [World.cell?_of_block (hf4.oth w.heap.size (by have := HG23.out.size; omega) HWX2.out (fun e => e)).1]
    exact pres_grown HG23.out _ _ HC2.out
  have HZ4 := hide hz4
  have HRF := hide (refshorten_m p s _ _ fuel w4 (HP.out.pres (pres_grown HW4.out)) ((HI.out.pres (pres_grown HW4.out)).mono HW4.out.size) HNL.out hfu hpl HPC.out)
  have HD2 : Hid (B ≤ w2.heap.size) := by
    have := HX2.out.low
    unfold Hid; omega
  clear hz4 hf4 hbo HO3 HX2 HC2
  go_wp2_with fail
  refine HRF.out.mono ?_
  clear HRF
  intro e w5 hF
  obtain ⟨hg5, v', he, ho5⟩ := hF.form
  clear hF
  subst he
  rw [HCR.out, HNM.out]
  obtain ⟨y1, y2, y3, rfl⟩ := owns_form ho5
  have HG45 := hide hg5
  have HO5 : Hid (w5.ownsRow w2.heap.size 3 1 (.slice x1 x2 x3) (shOut p s fuel).length (ints (shOut p s fuel))) := owns_grown HO4.out hg5 (fun _ e => by cases e)
  have HSM := hide (same_m (shOut p s fuel) (shOut p s fuel) _ _ w5 (owns_ints HO5.out) (owns_ints ho5) (by have := shOut_le p s fuel; omega))
  rw [show (shOut p s fuel == shOut p s fuel) = true by simp] at HSM
  clear hg5 ho5 HO4 c4
  go_wp2_with fail
  refine HSM.out.mono ?_
  clear HSM
  rintro e w6 ⟨rfl, hl6⟩
  have HG56 : Hid (w5.grownBy w6 none) := grown_of_like hl6
  have HG46 : Hid (w4.grownBy w6 none) := grown_trans HG45.out HG56.out
  have HO6 : Hid (w6.ownsRow B 3 1 (.slice x1 x2 x3) (shOut p s fuel).length (ints (shOut p s fuel))) := owns_mono (owns_grown HO5.out HG56.out (fun _ e => by cases e)) HD2.out
  have HKI := hide (keepInts_g B w6 b who2 n f4 K (.slice x1 x2 x3) (shOut p s fuel).length _ (HZ4.out.1.grown HG46.out) HO6.out (fun q e => (HBO.out q e).2.2) hn0 (by omega) (by have := HK.out 0 (by omega); omega) (by have := shOut_le p s fuel; omega))
  clear hl6 HO5 HO6
  rw [hpt] at HKI
  go_wp2_with fail
  refine HKI.out.mono ?_
  clear HKI
  rintro e w7 ⟨⟨rv, rfl⟩, who7, f7, K7, hH7, hA7⟩
  have HW6 : Hid (W.grownBy w6 none) := grown_trans HW4.out HG46.out
  have HW7 : Hid (W.grownBy w7 none) := hA7.fr.base HW6.out hWB (fun g e => (HZ4.out.1.1.dom g e).1) (fun q e => by have := (HBO.out q e).1; have := HW2.out.size; omega)
  have HF7 : Hid (Fr w w7 who who7 (fun g => w.heap.size ≤ g)) := (HF4.out.stepG HG46.out).trans (hA7.fr.mono fun q e => by have := (HBO.out q e).1; have := HF2.out.size; omega)
  have HZ7 : Hid (Hz B w7 b who7 (n + 1) f7 K7) := ⟨hH7, fun k hk => by rw [hA7.lent k hk]; exact HZ4.out.2 k hk⟩
  have HK7 : Hid (∀ c, c < 5 → (K7 c).length ≤ (K c).length + 4) := fun c hc => by
    by_cases e : c = 0
    · subst e; have := hA7.len; omega
    · rw [hA7.oth c e]; omega
  have HHO := hide (holds_g B w7 b who7 (n + 1) f7 K7 hH7 (fun c hc => by have := HK7.out c hc; have := HK.out c hc; omega))
  clear hH7 hA7
  rw [hpt] at HHO
  go_wp2_with fail
  refine HHO.out.mono ?_
  clear HHO
  rintro e w8 ⟨rfl, hl8⟩
  have HG78 : Hid (w7.grownBy w8 none) := grown_of_like hl8
  clear hl8
  go_wp2_with (go_at_call 47; refine (num_mR _ _).mono ?_; rintro e w9 ⟨rfl, hw9⟩; have hw9' := hw9.symm; subst hw9')
  go_ret
  exact ⟨by simp, who7, f7, K7, ⟨HZ7.out.1.grown HG78.out, HZ7.out.2⟩, grown_trans HW7.out HG78.out, HK7.out, HF7.out.stepG HG78.out⟩
theorem shortened_g (W : World) (B : Nat) (w : World) (b : Nat) (who : Nat → Role) (n : Int) (f : Nat → Value) (K : Nat → List (Value × Int)) (pv sv : Value) (p : List (List Ins)) (s : List Int) (fuel : Int)
    (h : Hz B w b who n f K) (hW : W.grownBy w none) (hWB : W.heap.size ≤ B) (hS : ShpAt W) (hP : ProgAt W pv p) (hI : IntsAt W.heap.size W sv s) (hnil : nilOk sv) (hfu : fuel ≤ 9223372036854775807) (hpl : p.length ≤ 5864062014634) (hpc : ∀ c ∈ p, c.length ≤ 4398046510976) (hsl : s.length ≤ 17592186043904) (hn0 : 0 ≤ n) (hn1 : n ≤ 9000000000000) (hK : ∀ c, c < 5 → (K c).length ≤ 4900000000000) :
    Calls Tryd.prog 29 #[pt b, pv, sv, .int .i64 fuel] w (HzG W B b (n + 1) K) :=
  (shortened_f W B w b who n f K pv sv p s fuel h hW hWB hS hP hI hnil hfu hpl hpc hsl hn0 hn1 hK).mono fun _ _ h => h.g

end Go.Proofs.YtklenjmfalljgaaDoor

/- The walk of the law's asked: Shorten. -/
namespace Go.Proofs.YtklenjmfalljgaaDoor
open Go.RowKit
attribute [local go_sem] Go.World.cell?_alloc_some

set_option maxHeartbeats 4000000 in
set_option maxRecDepth 100000 in
theorem askedS_m (p : List (List Ins)) (s : List Int) (xv lv pv sv : Value) (w : World) (hS : ShpAt w) (hX : ProgAt w xv p) (hL : IntsAt w.heap.size w lv s) (hln : nilOk lv) (hP : ProgAt w pv p) (hI : IntsAt w.heap.size w sv s) (hsn : nilOk sv) (hpl : p.length ≤ 5864062014634) (hpc : ∀ c ∈ p, c.length ≤ 4398046510976) :
    Calls Tryd.prog 67 #[.int .i64 2, xv, lv, pv, sv] w fun e w' => e = .returned (.bool true) ∧ w.grownBy w' none := by
  have HS := hide hS
  have HX := hide hX
  have HL := hide hL
  have HP := hide hP
  have HI := hide hI
  have HPC := hide hpc
  have HLN := hide hln
  have HSN := hide hsn
  obtain ⟨ao, cap, rfl⟩ := hX.form
  obtain ⟨ao2, cap2, rfl⟩ := hP.form
  obtain ⟨so, sc, rfl⟩ := hL.form
  obtain ⟨so2, sc2, rfl⟩ := hI.form
  clear hS hX hL hP hI hpc hln hsn
  go_enter Tryd.func67, Tryd.ntmps67
  go_wp2_with fail
  have hg0 : w.grownBy ((w.alloc (.cells #[.slice ao p.length cap] 25)).alloc (.cells #[.slice ao2 p.length cap2] 25)) none := grown_alloc (grown_alloc (grown_refl _ _))
  have hb8 : ((w.alloc (.cells #[.slice ao p.length cap] 25)).alloc (.cells #[.slice ao2 p.length cap2] 25)).cell? ⟨w.heap.size + 1, 0, none⟩ = some (.slice ao2 p.length cap2) := by
    have := heap_alloc_new (w.alloc (.cells #[.slice ao p.length cap] 25)) (.cells #[.slice ao2 p.length cap2] 25)
    simp only [World.size_alloc] at this
    simp only [World.cell?, this]
    rfl
  generalize (w.alloc (.cells #[.slice ao p.length cap] 25)).alloc (.cells #[.slice ao2 p.length cap2] 25) = w1 at hg0 hb8 ⊢
  have HG1 := hide hg0
  clear hg0
  refine (shorten_m p s _ _ 50 w1 (HS.out.pres (pres_grown HG1.out)) (HX.out.pres (pres_grown HG1.out)) ((HL.out.pres (pres_grown HG1.out)).mono HG1.out.size) HLN.out (by omega)).mono ?_
  intro e w2 hF
  obtain ⟨hg2, v, he, ho2⟩ := hF.form
  clear hF
  subst he
  obtain ⟨x1, x2, x3, rfl⟩ := owns_form ho2
  have HO2 := hide ho2
  have HG2 := hide (grown_trans HG1.out hg2)
  replace hb8 := pres_grown hg2 _ _ hb8
  clear ho2 hg2
  obtain ⟨cr, hcr⟩ : ∃ cr, cr = shErr p s 50 := ⟨_, rfl⟩
  obtain ⟨nm, hnm⟩ : ∃ nm, nm = shNum p s 50 := ⟨_, rfl⟩
  rw [← hcr, ← hnm]
  have HCQ := hide hcr
  have HNQ := hide hnm
  clear hcr hnm
  go_wp2_with fail
  refine (refshorten_m p s _ _ 50 w2 (HP.out.pres (pres_grown HG2.out)) ((HI.out.pres (pres_grown HG2.out)).mono HG2.out.size) HSN.out (by omega) hpl HPC.out).mono ?_
  intro e w3 hF
  obtain ⟨hg3, v', he, ho3⟩ := hF.form
  clear hF
  subst he
  rw [← HCQ.out, ← HNQ.out]
  obtain ⟨y1, y2, y3, rfl⟩ := owns_form ho3
  have HG3 := hide (grown_trans HG2.out hg3)
  have HSM := hide (same_m (shOut p s 50) (shOut p s 50) _ _ w3 (owns_ints (owns_grown HO2.out hg3 (fun _ e => by cases e))) (owns_ints ho3) (by have := shOut_le p s 50; omega))
  rw [show (shOut p s 50 == shOut p s 50) = true by simp] at HSM
  clear hg3 ho3 hb8
  go_wp2_with fail
  refine HSM.out.mono ?_
  clear HSM
  rintro e w4 ⟨rfl, hl4⟩
  have HG4 : Hid (w.grownBy w4 none) := grown_trans HG3.out (grown_of_like hl4)
  clear hl4
  go_wp2_with (go_at_call 47; refine (num_mR _ _).mono ?_; rintro e w9 ⟨rfl, hw9⟩; have hw9' := hw9.symm; subst hw9')
  go_ret
  exact ⟨by simp, HG4.out⟩

end Go.Proofs.YtklenjmfalljgaaDoor

/- Hands that were just made. -/
namespace Go.Proofs.YtklenjmfalljgaaDoor
open Go.RowKit

def f00 : Nat → Value := fun k => if k = 5 then .int .i64 0 else .slice none 0 0
/-- Hands that were just made. -/
theorem Hz.start {w : World} {b : Nat} (h : w.heap[b]? = some (.cells (hcl f00) 62 (0, 0))) : Hz b w b (setW (fun _ => .other) b .hands) 0 f00 (fun _ => []) := by
  have hnil : ∀ k, k ≠ 5 → f00 k = .slice none 0 0 := fun k hk => by unfold f00; rw [if_neg hk]
  refine ⟨⟨⟨h, rfl, fun c hc => ?_, fun c hc => ?_, fun c hc g e => ?_, fun c hc g e => ?_, setW_at _ _ _, fun c hc x hx => (by cases hx), fun g e => ?_⟩, fun c hc x hx => (by cases hx)⟩, fun k hk => hnil k (by omega)⟩
  · rw [hnil _ (by omega)]; exact ⟨rfl, Or.inl ⟨rfl, rfl⟩⟩
  · rw [hnil _ (by omega)]; exact ⟨rfl, Or.inl ⟨rfl, rfl⟩⟩
  · rw [hnil _ (by omega)] at e; cases e
  · rw [hnil _ (by omega)] at e; cases e
  · by_cases e2 : g = b
    · subst e2; exact ⟨Nat.le_refl _, (Array.getElem?_eq_some_iff.1 h).1⟩
    · rw [setW_ne _ _ e2] at e; exact absurd rfl e

end Go.Proofs.YtklenjmfalljgaaDoor

/- The walk of Shortens. -/
namespace Go.Proofs.YtklenjmfalljgaaDoor
open Go.RowKit
attribute [local go_sem] Go.World.cell?_alloc_some

theorem ctr_err : shErr ctrP [0, 0, 1, 2, 0] 9 = 0 := by decide +kernel
theorem ctr_num : shNum ctrP [0, 0, 1, 2, 0] 9 = 4 := by decide +kernel
theorem ctr_short : shOut ctrP [0, 0, 1, 2, 0] 9 = [2] := by decide +kernel
theorem ints_lit5 {w : World} {g : Nat} {ty : TypeId} (h : w.heap[g]? = some (.cells #[.int .i64 0, .int .i64 0, .int .i64 1, .int .i64 2, .int .i64 0] ty (0, 0))) : IntsAt w.heap.size w (.slice (some ⟨g, 0, none⟩) 5 5) [0, 0, 1, 2, 0] := by
  refine ⟨some ⟨g, 0, none⟩, 5, rfl, Nat.le_refl _, fun k hk => ⟨g, 0, rfl, (Array.getElem?_eq_some_iff.1 h).1, ?_⟩⟩
  simp only [World.cell?, h]
  have hk' : k < 5 := hk
  rcases (by omega : k = 0 ∨ k = 1 ∨ k = 2 ∨ k = 3 ∨ k = 4) with rfl | rfl | rfl | rfl | rfl <;> rfl

set_option maxHeartbeats 4000000 in
set_option maxRecDepth 100000 in
theorem shortens_m (W : World) (pv av : Value) (fuel : Int) (p : List (List Ins)) (a : List Int) (hS : ShpAt W) (hP : ProgAt W pv p) (hPN : ProgNil W pv) (hI : IntsAt W.heap.size W av a) (hnil : nilA av) (hfu : fuel ≤ 9223372036854775807) (hpl : p.length ≤ 5864062014634) (hpc : ∀ c ∈ p, c.length ≤ 4398046510976) (hal : a.length ≤ 17592186043904) :
    Calls Tryd.prog 8 #[pv, av, .int .i64 fuel] W fun e w' => e = .returned (.bool true) ∧ W.grownBy w' none := by
  have HS := hide hS
  have HP := hide hP
  have HPN := hide hPN
  have HI := hide hI
  have HNL := hide hnil
  have HPC := hide hpc
  obtain ⟨ao, cap, rfl⟩ := hP.form
  obtain ⟨so, sc, rfl⟩ := hI.form
  have hpt : ∀ q, pt q = .pointer (some ⟨q, 0, none⟩) := fun _ => rfl
  clear hS hP hPN hI hnil hpc
  go_enter Tryd.func8, Tryd.ntmps8
  go_wp2_with fail
  refine (counter_m _).mono ?_
  rintro e w1 ⟨cv, rfl, hcp, hg1⟩
  have HG1 : Hid (W.grownBy w1 none) := grown_trans (grown_alloc (grown_refl _ _)) hg1
  have hb1 : w1.heap[W.heap.size]? = some (.cells #[.slice ao p.length cap] 25 (0, 0)) := by
    rw [hg1.block W.heap.size (by simp) (by simp)]; exact heap_alloc_new W _
  have c1 : w1.cell? ⟨W.heap.size, 0, none⟩ = some (.slice ao p.length cap) := by simp [World.cell?, hb1]
  have HC1 := hide c1
  have HCP := hide hcp
  obtain ⟨cao, ccp, hcv⟩ := hcp.form
  subst hcv
  clear hg1 hb1 hcp c1
  go_wp2_with fail
  obtain ⟨w2, hw2⟩ : ∃ w2, w2 = w1.alloc (.cells #[.int .i64 0, .int .i64 0, .int .i64 1, .int .i64 2, .int .i64 0] 3) := ⟨_, rfl⟩
  rw [← hw2]
  have HG12 : Hid (w1.grownBy w2 none) := by unfold Hid; rw [hw2]; exact grown_alloc (grown_refl _ _)
  have HL2 : Hid (IntsAt w2.heap.size w2 (.slice (some ⟨w1.heap.size, 0, none⟩) 5 5) [0, 0, 1, 2, 0]) := by
    unfold Hid; rw [hw2]; exact ints_lit5 (heap_alloc_new w1 _)
  clear hw2
  refine (shorten_m ctrP [0, 0, 1, 2, 0] _ _ 9 w2 (HS.out.pres (pres_grown (grown_trans HG1.out HG12.out))) (HCP.out.pres (pres_grown HG12.out)) HL2.out (fun _ _ e => by simp at e) (by omega)).mono ?_
  intro e w3 hF
  obtain ⟨hg3, v, he, ho3⟩ := hF.form
  clear hF
  subst he
  rw [ctr_err, ctr_num]
  rw [ctr_short] at ho3
  obtain ⟨x1, x2, x3, rfl⟩ := owns_form ho3
  have hx2 := owns_lenq ho3
  subst hx2
  obtain ⟨vg, hvg⟩ : ∃ vg, x1 = some ⟨vg, 0, none⟩ := by
    rcases ho3.2 with ⟨_, e⟩ | ⟨g, cap, cur, hv, hb', hh, _⟩
    · simp at e
    · simp only [Value.slice.injEq] at hv
      exact ⟨g, hv.1⟩
  subst hvg
  have k1 : w3.cell? ⟨vg, 0, none⟩ = some (.int .i64 2) := by rw [ho3.cellAt _ (by simp)]; rfl
  have HG3 : Hid (W.grownBy w3 none) := grown_trans HG1.out (grown_trans HG12.out hg3)
  have HC3 := hide (pres_grown (grown_trans HG12.out hg3) _ _ HC1.out)
  clear ho3 hg3 HC1 HCP HL2 HG12 HG1
  go_upto_region 5 with fail
  clear k1
  obtain ⟨w4, hw4⟩ : ∃ w4, w4 = w3.alloc (.cells (hcl f00) 62) := ⟨_, rfl⟩
  have hw4' : w3.alloc (.cells #[.slice none 0 0, .slice none 0 0, .slice none 0 0, .slice none 0 0, .slice none 0 0, .int .i64 0, .slice none 0 0, .slice none 0 0, .slice none 0 0, .slice none 0 0, .slice none 0 0, .slice none 0 0, .slice none 0 0, .slice none 0 0, .slice none 0 0, .slice none 0 0] 62) = w4 := by rw [hw4]; rfl
  rw [hw4']
  have HG34 : Hid (w3.grownBy w4 none) := by unfold Hid; rw [hw4]; exact grown_alloc (grown_refl _ _)
  have hz4 : Hz w3.heap.size w4 w3.heap.size (setW (fun _ => .other) w3.heap.size .hands) 0 f00 (fun _ => []) := Hz.start (by rw [hw4]; exact heap_alloc_new w3 _)
  have HS3 := hide (HS.out.pres (pres_grown HG3.out))
  have HP3 : Hid (ProgAt w3 (.agg #[.slice ao p.length cap]) p) := HP.out.pres (pres_grown HG3.out)
  have HI3 : Hid (IntsAt w3.heap.size w3 (.slice so a.length sc) a) := (HI.out.pres (pres_grown HG3.out)).mono HG3.out.size
  have HN3 : Hid (ProgNil w3 (.agg #[.slice ao p.length cap])) := fun g o n cp t rv e ht hc => by
    simp only [Value.agg.injEq, Array.mk.injEq, List.cons.injEq, Value.slice.injEq, and_true] at e
    obtain ⟨e1, e2, e3⟩ := e
    subst e1 e2 e3
    obtain ⟨ao', cap', e, hh⟩ := HP.out
    simp only [Value.agg.injEq, Array.mk.injEq, List.cons.injEq, Value.slice.injEq, and_true, true_and] at e
    obtain ⟨g', o', e1, rv', e2, _⟩ := hh t ht
    rw [← e.1] at e1
    simp only [Option.some.injEq, Addr.mk.injEq, and_true] at e1
    obtain ⟨rfl, rfl⟩ := e1
    have e3 := pres_grown HG3.out _ _ e2
    rw [e3] at hc
    simp only [Option.some.injEq] at hc
    rw [← hc]
    exact HPN.out g o p.length cap t rv' rfl ht e2
  have HF1 := hide (shortened_g w3 w3.heap.size w4 w3.heap.size _ 0 f00 _ _ _ p a fuel hz4 HG34.out (Nat.le_refl _) HS3.out HP3.out HI3.out HNL.out hfu hpl HPC.out hal (by omega) (by omega) (fun c _ => by simp))
  rw [hpt] at HF1
  clear hw4 hw4' hz4
  have c4 := pres_grown HG34.out _ _ HC3.out
  go_wp2_with fail
  refine HF1.out.mono ?_
  clear HF1 c4
  rintro e w5 ⟨rfl, who5, f5, K5, hz5, hg5, hk5⟩
  have c5 := pres_grown hg5 _ _ HC3.out
  have HK5 : Hid (∀ c, c < 5 → (K5 c).length ≤ 4) := fun c hc => by have := hk5 c hc; simpa using this
  have HF2 := hide (shortened_g w3 w3.heap.size w5 w3.heap.size _ _ f5 K5 _ _ p a 3 hz5 hg5 (Nat.le_refl _) HS3.out HP3.out HI3.out HNL.out (by omega) hpl HPC.out hal (by omega) (by omega) (fun c hc => by have := HK5.out c hc; omega))
  rw [hpt] at HF2
  clear hz5 hg5 hk5
  go_wp2_with fail
  refine HF2.out.mono ?_
  clear HF2 c5
  rintro e w6 ⟨rfl, who6, f6, K6, hz6, hg6, hk6⟩
  have c6 := pres_grown hg6 _ _ HC3.out
  have HK6 : Hid (∀ c, c < 5 → (K6 c).length ≤ 8) := fun c hc => by have := hk6 c hc; have := HK5.out c hc; omega
  have HF3 := hide (shortened_g w3 w3.heap.size w6 w3.heap.size _ _ f6 K6 _ _ p a fuel hz6 hg6 (Nat.le_refl _) HS3.out HP3.out HI3.out HNL.out hfu hpl HPC.out hal (by omega) (by omega) (fun c hc => by have := HK6.out c hc; omega))
  rw [hpt] at HF3
  clear hz6 hg6 hk6 HK5
  go_wp2_with fail
  refine HF3.out.mono ?_
  clear HF3 c6
  rintro e w10 ⟨rfl, who10, f10, K10, hz10, hg10, hk10⟩
  have c10 := pres_grown hg10 _ _ HC3.out
  have HF6 := hide (again_g w3 w3.heap.size w10 w3.heap.size _ _ f10 K10 _ _ p a 2 hz10 hg10 (Nat.le_refl _) HS3.out HP3.out HN3.out HI3.out HNL.out hpl HPC.out hal askedS_m)
  rw [hpt] at HF6
  clear hz10 hg10 hk10 HK6
  go_wp2_with fail
  refine HF6.out.mono ?_
  clear HF6 c10
  rintro e w11 ⟨rfl, who11, f11, K11, hz11, hg11, hk11⟩
  have HG11 : Hid (W.grownBy w11 none) := grown_trans HG3.out hg11
  clear hz11 hg11 hk11
  go_wp2_with fail
  go_ret
  exact ⟨rfl, HG11.out⟩

end Go.Proofs.YtklenjmfalljgaaDoor

/- From the rows' readings to the walks' facts. -/
namespace Go.Proofs.YtklenjmfalljgaaDoor
open Go.ChangeShapes Go.WideShapes Go.ChangeAt Go.RowKit

theorem own : ownKnob Tryd.prog.godebug = none := by kernel_rfl
theorem laidOut : laidOutB Tryd.prog = true := by kernel_rfl
theorem gShp : Tryd.prog.globalNamed "rerun/machine.shapes" = some 0 := by kernel_rfl
theorem tShp : (Tryd.prog.globals[0]?).map (·.type) = some 263 := by kernel_rfl
theorem cInt : Tryd.prog.cellsOf 3 = 1 := by kernel_rfl
theorem cShape : Tryd.prog.cellsOf 262 = 3 := by kernel_rfl
theorem cKind : Tryd.prog.cellsOf 260 = 1 := by kernel_rfl

theorem grown_below {w w' : World} (h : w.grownBy w' none) : Below w.heap.size w w' := ⟨h.os, h.tape, h.output, h.size, fun k hk => h.block k hk (by simp)⟩

theorem lt_cell {w : World} {a : Addr} {v : Value} (h : w.cell? a = some v) : a.block < w.heap.size := by
  unfold World.cell? at h
  split at h
  · rename_i hh; exact (Array.getElem?_eq_some_iff.1 hh).1
  · cases h

theorem addr_form {w : World} {a : Addr} {j : Nat} {v : Value} (h0 : a.spot = none) (h : w.cell? (a.add j) = some v) : w.cell? ⟨a.block, a.off + j, none⟩ = some v := by
  have e : a.add j = ⟨a.block, a.off + j, none⟩ := by
    obtain ⟨b, o, s⟩ := a
    simp only at h0
    subst h0
    unfold Addr.add; split <;> simp_all
  rw [e] at h; exact h

section
variable {H : Type} {enc : TypeId × Value → H} {W : World}

set_option maxRecDepth 100000 in
theorem int_arg {v : Value} {d : DataW H} {ps : List MemPlace} {base : Nat} (hval : Value.okWide Tryd.prog W .any base 3 v) (h : DataW.Trod enc Tryd.prog W 0 (fun _ => true) true 3 v d ps) :
    ∃ n, v = .int .i64 n ∧ isInt n := by
  obtain ⟨n, rfl, _, _, hw⟩ := open_int Tryd.underlying3 hval h
  exact ⟨n, rfl, by simpa [Lit.wf, IntKind.min, IntKind.max, IntKind.signed, IntKind.bits, isInt] using hw⟩
end

theorem shp_tab (o j : Nat) (ho : o < 12) (hj : j < 3) (l : List (DataW Unit)) (h : (DataW.agg l : DataW Unit) = (match (Rows.laid_rerun_machine_shapes : DataW Unit) with | .agg l => l[o]?.getD .nil | _ => .nil)) : l[j]? = some (.lit (.int .i64 (shp o j))) := by
  have ho' : o = 0 ∨ o = 1 ∨ o = 2 ∨ o = 3 ∨ o = 4 ∨ o = 5 ∨ o = 6 ∨ o = 7 ∨ o = 8 ∨ o = 9 ∨ o = 10 ∨ o = 11 := by omega
  have hj' : j = 0 ∨ j = 1 ∨ j = 2 := by omega
  rcases ho' with rfl | rfl | rfl | rfl | rfl | rfl | rfl | rfl | rfl | rfl | rfl | rfl <;> (simp [Rows.laid_rerun_machine_shapes] at h; subst h; rcases hj' with rfl | rfl | rfl <;> rfl)

theorem shp_one {W : World} {g0 : Nat} {t0 : TypeId} {cs0 : Array Value} {f0 : Nat} {p0 : List MemPlace} (hg0 : Tryd.prog.globalNamed "rerun/machine.shapes" = some g0) (ht0 : (Tryd.prog.globals[g0]?).map (·.type) = some t0) (hv0 : W.var? Tryd.prog "rerun/machine.shapes" = some cs0)
    (hd0 : DataW.trod (fun _ => ()) Tryd.prog W 0 (fun _ => true) false f0 t0 cs0.toList = some (Rows.laid_rerun_machine_shapes, p0)) : ShpAt W := by
  obtain rfl := Option.some.inj (gShp.symm.trans hg0)
  obtain rfl := Option.some.inj (tShp.symm.trans ht0)
  obtain ⟨xs, m1, rfl, hx1, hlen, hn12, hel⟩ := DataW.trod_array Tryd.underlying263 hd0
  simp only [Prod.mk.injEq] at hx1
  intro o j ho hj
  have hox : o < xs.length := by omega
  have h1 := hel o ho
  rw [cShape, List.getElem?_eq_getElem hox] at h1
  obtain ⟨ys, m2, rfl, hy1, hylen, hn3, hfe⟩ := DataW.trod_struct Tryd.underlying262 h1
  have hdo : (DataW.agg (ys.map (·.1)) : DataW Unit) = xs[o].1 := by rw [hy1]
  have hxo : (xs.map (·.1))[o]? = some xs[o].1 := by simp [hox]
  have hdat : (DataW.agg (ys.map (·.1)) : DataW Unit) = (match (Rows.laid_rerun_machine_shapes : DataW Unit) with | .agg l => l[o]?.getD .nil | _ => .nil) := by
    rw [hdo, hx1.1]; simp [hox]
  have hyj := shp_tab o j ho hj _ hdat
  have hjl : j < ys.length := by rw [hn3]; simpa using hj
  have hf : DataW.trod (fun _ => ()) Tryd.prog W 0 (fun _ => true) false m2 260 ((((cs0.toList.drop (o * 3)).take 3).drop j).take 1) = some ys[j] := by
    have hj' : j = 0 ∨ j = 1 ∨ j = 2 := by omega
    rcases hj' with rfl | rfl | rfl
    · have := hfe 0 _ rfl; rw [List.getElem?_eq_getElem hjl] at this; simpa [cKind] using this
    · have := hfe 1 _ rfl; rw [List.getElem?_eq_getElem hjl] at this; simpa [cKind] using this
    · have := hfe 2 _ rfl; rw [List.getElem?_eq_getElem hjl] at this; simpa [cKind] using this
  obtain ⟨k, e1, e2, _⟩ := DataW.trod_int Tryd.underlying260 hf
  have hk : k = shp o j := by
    rw [List.getElem?_map, List.getElem?_eq_getElem hjl, e2] at hyj
    simpa using hyj
  have hcell := World.var?_cell hg0 hv0 (o * 3 + j)
  have hc : cs0[o * 3 + j]? = some (.int .i64 k) := by
    have h0 := congrArg (fun l => l[0]?) e1
    simp [hj] at h0
    exact h0
  rw [hk] at hc
  rw [hcell]; exact hc

theorem shp_of_laid {W : World} (h : laidMetH Tryd.prog [("rerun/machine.shapes", Rows.laid_rerun_machine_shapes)] W) : ShpAt W := by
  rw [MakeChecks.laidMetH_plain _ _ _ (by kernel_rfl)] at h
  obtain ⟨ps, ⟨g0, t0, cs0, f0, p0, q0, hg0, ht0, hv0, hd0, _, _⟩, _, _⟩ := h
  exact shp_one hg0 ht0 hv0 hd0

end Go.Proofs.YtklenjmfalljgaaDoor

/- Programs as arguments, and how great they are. -/
namespace Go.Proofs.YtklenjmfalljgaaDoor
open Go.ChangeShapes Go.WideShapes Go.ChangeAt Go.RowKit Go.Joins

theorem bulkOne {H : Type} (d : DataW H) : 1 ≤ Rows.uptoBulk d := by
  cases d with
  | lit l => cases l <;> simp [Rows.uptoBulk]
  | nil => simp [Rows.uptoBulk]
  | ptr d => simp [Rows.uptoBulk]
  | slice elems spare => simp [Rows.uptoBulk]
  | agg parts => simp [Rows.uptoBulk]
  | iface t d => simp [Rows.uptoBulk]
  | map entries => simp [Rows.uptoBulk]
  | held h => simp [Rows.uptoBulk]
theorem bulkLen {H : Type} (l : List (DataW H)) : l.length ≤ Rows.uptoBulkAll l := by
  induction l with
  | nil => simp [Rows.uptoBulkAll]
  | cons x r ih => have := bulkOne x; simp only [Rows.uptoBulkAll, List.length_cons]; omega
theorem bulkIn {H : Type} (l : List (DataW H)) (d : DataW H) (h : d ∈ l) : Rows.uptoBulk d ≤ Rows.uptoBulkAll l := by
  induction l with
  | nil => cases h
  | cons x r ih =>
    simp only [Rows.uptoBulkAll]
    rcases List.mem_cons.1 h with rfl | h
    · omega
    · have := ih h; omega

theorem cIns : Tryd.prog.cellsOf 28 = 4 := by kernel_rfl
theorem cCode : Tryd.prog.cellsOf 29 = 1 := by kernel_rfl
theorem cRows : Tryd.prog.cellsOf 23 = 1 := by kernel_rfl
theorem cProg : Tryd.prog.cellsOf 25 = 1 := by kernel_rfl

section
variable {H : Type} {enc : TypeId × Value → H} {W : World}

set_option maxRecDepth 100000 in
theorem ins_of {fuel : Nat} {cs : List Value} {x : DataW H × List MemPlace} (h : DataW.trod enc Tryd.prog W 0 (fun _ => true) true fuel 28 cs = some x) : ∃ i : Ins, cs = [.int .i64 i.op, .int .i64 i.a, .int .i64 i.b, .int .i64 i.n] ∧ isInt i.n := by
  obtain ⟨y0, y1, y2, y3, n, _, hl, h0, h1, h2, h3⟩ := trod_struct4 Tryd.underlying28 h
  rw [cIns] at hl
  match cs, hl with
  | [v0, v1, v2, v3], _ =>
    simp only [cInt, List.drop_zero, List.drop_succ_cons, List.take_succ_cons, List.take_zero] at h0 h1 h2 h3
    obtain ⟨k0, e0, _⟩ := DataW.trod_int Tryd.underlying3 h0
    obtain ⟨k1, e1, _⟩ := DataW.trod_int Tryd.underlying3 h1
    obtain ⟨k2, e2, _⟩ := DataW.trod_int Tryd.underlying3 h2
    obtain ⟨k3, e3, _, hw3⟩ := DataW.trod_int Tryd.underlying3 h3
    simp only [List.cons.injEq, and_true] at e0 e1 e2 e3
    subst e0 e1 e2 e3
    exact ⟨⟨k0, k1, k2, k3⟩, rfl, by simpa [Lit.wf, IntKind.min, IntKind.max, IntKind.signed, IntKind.bits, isInt] using hw3⟩

set_option maxRecDepth 100000 in
theorem codeAt_of {fuel : Nat} {v : Value} {x : DataW H × List MemPlace} (h : DataW.trod enc Tryd.prog W 0 (fun _ => true) true fuel 29 [v] = some x) : ∃ c, CodeAt W v c ∧ nilA v ∧ c.length ≤ Rows.uptoBulk x.1 ∧ ∀ i ∈ c, isInt i.n := by
  rcases Deep.open_slice Tryd.underlying29 h with ⟨e, _⟩ | ⟨a, len, cap, m, n, D, Pl, e, _, hl, _, hm, hx, hel⟩
  · simp only [List.cons.injEq, and_true] at e
    subst e
    exact ⟨[], ⟨none, 0, rfl, fun k hk => by simp at hk⟩, fun n c e => by simp at e; omega, by simp, fun i hi => by cases hi⟩
  · simp only [List.cons.injEq, and_true] at e
    subst e
    simp only [if_true] at hm
    rw [cIns] at hel
    have hinh : Inhabited Ins := ⟨⟨0, 0, 0, 0⟩⟩
    obtain ⟨f, hf⟩ := Deep.choose_lt (α := Ins) (n := len) (p := fun k i => W.cell? (a.add (k * 4)) = some (.int .i64 i.op) ∧ W.cell? (a.add (k * 4 + 1)) = some (.int .i64 i.a) ∧ W.cell? (a.add (k * 4 + 2)) = some (.int .i64 i.b) ∧ W.cell? (a.add (k * 4 + 3)) = some (.int .i64 i.n) ∧ isInt i.n) (fun k hk => by
      obtain ⟨cs', h1, h2⟩ := hel k (by omega)
      obtain ⟨i, rfl, hin⟩ := ins_of h2
      obtain ⟨_, _, h3⟩ := World.cells?_some h1
      refine ⟨i, ?_, ?_, ?_, ?_, hin⟩
      · have := h3 0 (by omega); rw [Deep.add_add] at this; simpa using this
      · have := h3 1 (by omega); rw [Deep.add_add] at this; simpa using this
      · have := h3 2 (by omega); rw [Deep.add_add] at this; simpa using this
      · have := h3 3 (by omega); rw [Deep.add_add] at this; simpa using this)
    have hlen : ((List.range len).map f).length = len := by simp
    refine ⟨(List.range len).map f, ⟨some a, cap, by rw [hlen], fun k hk => ?_⟩, fun n c e => by simp at e, ?_, fun i hi => ?_⟩
    · have hk' : k < len := by omega
      obtain ⟨h0, h1, h2, h3, _⟩ := hf k hk'
      have hs : a.spot = none := by
        have := (hf 0 (by omega)).1
        exact World.cell?_spot (w := W) (by simpa [Addr.add] using this)
      refine ⟨a.block, a.off, ?_, ?_, ?_, ?_, ?_⟩
      · obtain ⟨b, o, s⟩ := a
        simp only at hs; subst hs; rfl
      · simpa using addr_form hs h0
      · simpa [Nat.add_assoc] using addr_form hs h1
      · simpa [Nat.add_assoc] using addr_form hs h2
      · simpa [Nat.add_assoc] using addr_form hs h3
    · rw [hlen, hx]
      have := bulkLen ((List.range len).map D)
      simp only [Rows.uptoBulk]
      simp at this
      omega
    · obtain ⟨k, hk, rfl⟩ := List.mem_map.1 hi
      exact (hf k (by simpa using hk)).2.2.2.2

set_option maxRecDepth 100000 in
theorem rowsAt_of {fuel : Nat} {v : Value} {x : DataW H × List MemPlace} (h : DataW.trod enc Tryd.prog W 0 (fun _ => true) true fuel 23 [v] = some x) :
    ∃ p, ProgAt W (.agg #[v]) p ∧ ProgNil W (.agg #[v]) ∧ p.length ≤ Rows.uptoBulk x.1 ∧ ∀ c ∈ p, c.length ≤ Rows.uptoBulk x.1 ∧ ∀ i ∈ c, isInt i.n := by
  rcases Deep.open_slice1 Tryd.underlying23 cCode h with ⟨e, _⟩ | ⟨a, len, cap, m, n, V, D, Pl, e, _, hl, _, hm, hx, hel⟩
  · simp only [List.cons.injEq, and_true] at e
    subst e
    exact ⟨[], ⟨none, 0, rfl, fun k hk => by simp at hk⟩, fun g o n cap t rv e => by simp at e, by simp, fun c hc => by cases hc⟩
  · simp only [List.cons.injEq, and_true] at e
    subst e
    simp only [if_true] at hm
    obtain ⟨f, hf⟩ := Deep.choose_lt (α := List Ins) (n := len) (p := fun k c => CodeAt W (V k) c ∧ nilA (V k) ∧ c.length ≤ Rows.uptoBulk (D k) ∧ ∀ i ∈ c, isInt i.n) (fun k hk => codeAt_of (hel k (by omega)).2)
    have hlen : ((List.range len).map f).length = len := by simp
    have hs : 0 < len → a.spot = none := fun h0 => by
      have := (hel 0 (by omega)).1
      exact World.cell?_spot (w := W) (by simpa [Addr.add] using this)
    have hall : len + 0 ≤ Rows.uptoBulkAll ((List.range len).map D) := by
      have := bulkLen ((List.range len).map D)
      simp at this; omega
    refine ⟨(List.range len).map f, ⟨some a, cap, by rw [hlen], fun k hk => ?_⟩, fun g o n cp t rv e ht hc => ?_, ?_, fun c hc => ?_⟩
    · have hk' : k < len := by omega
      have h0 := hs (by omega)
      refine ⟨a.block, a.off, ?_, V k, addr_form h0 (hel k (by omega)).1, ?_⟩
      · obtain ⟨b, o, s⟩ := a
        simp only at h0; subst h0; rfl
      · simpa using (hf k hk').1
    · simp only [Value.agg.injEq, Array.mk.injEq, List.cons.injEq, Value.slice.injEq, Option.some.injEq, and_true] at e
      obtain ⟨rfl, rfl, rfl⟩ := e
      have h1 := addr_form rfl (hel t (by omega)).1
      simp only at h1
      rw [h1] at hc
      simp only [Option.some.injEq] at hc
      rw [← hc]
      exact (hf t ht).2.1
    · rw [hlen, hx]
      simp only [Rows.uptoBulk]
      omega
    · obtain ⟨k, hk, rfl⟩ := List.mem_map.1 hc
      have hk' : k < len := by simpa using hk
      obtain ⟨h1, h3⟩ := (hf k hk').2.2
      have h2 := bulkIn ((List.range len).map D) (D k) (List.mem_map.2 ⟨k, hk, rfl⟩)
      refine ⟨?_, h3⟩
      rw [hx]
      simp only [Rows.uptoBulk]
      omega

set_option maxRecDepth 100000 in
theorem ints_argN {v : Value} {d : DataW H} {ps : List MemPlace} {base : Nat} (hval : Value.okWide Tryd.prog W .any base 22 v) (h : DataW.Trod enc Tryd.prog W 0 (fun _ => true) true 22 v d ps) :
    ∃ l, IntsAt W.heap.size W v l ∧ nilA v ∧ l.length ≤ Rows.uptoBulk d := by
  obtain ⟨a0, len0, cap0, rfl⟩ := okWide_slice Tryd.underlying22 hval
  obtain ⟨fuel, hf⟩ := h
  rcases open_ints Tryd.underlying22 Tryd.underlying3 cInt hf with ⟨e, _⟩ | ⟨a, len, cap, zs, e, _, hl, _, hz, hx, hc, hw⟩
  · simp [Value.cells] at e
    rw [e.1, e.2.1, e.2.2]
    exact ⟨[], ⟨none, 0, rfl, Nat.le_refl _, fun k hk => by simp at hk⟩, fun n c e => by simp at e; omega, by simp⟩
  · simp [Value.cells] at e
    rw [e.1, e.2.1, e.2.2]
    simp only [if_true] at hz
    have hlen : (zs.take len).length = len := by simp; omega
    refine ⟨zs.take len, ⟨some a, cap, by rw [hlen], by omega, fun k hk => ?_⟩, fun n c e => by simp at e, ?_⟩
    · have h0 : a.spot = none := by
        have := hc 0 (by omega)
        exact World.cell?_spot (w := W) (by simpa [Addr.add] using this)
      have hkz : k < zs.length := by omega
      have := hc k hkz
      refine ⟨a.block, a.off, ?_, lt_cell (a := ⟨a.block, a.off + k, none⟩) (addr_form h0 this), ?_⟩
      · obtain ⟨b, o, s⟩ := a
        simp only at h0; subst h0; rfl
      · rw [addr_form h0 this]
        simp [List.getD, hkz]
    · have hd : d = .slice (lits .i64 (zs.take len)) (lits .i64 (zs.drop len)) := congrArg Prod.fst hx
      rw [hd]
      have := bulkLen (lits (H := H) .i64 (zs.take len))
      have hll : (lits (H := H) .i64 (zs.take len)).length = (zs.take len).length := by simp [lits]
      simp only [Rows.uptoBulk]
      omega
end

end Go.Proofs.YtklenjmfalljgaaDoor

/- How long arguments are, by what they may weigh. -/
namespace Go.Proofs.YtklenjmfalljgaaDoor
open Go.ChangeShapes Go.WideShapes Go.ChangeAt Go.RowKit Go.Joins

theorem bIns : Tryd.prog.bytesOf 28 = 32 := by kernel_rfl
theorem bCode : Tryd.prog.bytesOf 29 = 24 := by kernel_rfl
theorem bInt : Tryd.prog.bytesOf 3 = 8 := by kernel_rfl

/-- All that is met weighs no more than a process reaches. -/
def Light {H : Type} (t : TypeId) (d : DataW H) : Prop := ∀ n ∈ DataW.weights Tryd.prog t d, n ≤ 140737488351232

theorem light_all {H : Type} {e : TypeId} {l : List (DataW H)} {d : DataW H} (hd : d ∈ l) : ∀ {n : Nat}, n ∈ DataW.weights Tryd.prog e d → n ∈ DataW.weightsAll Tryd.prog e l := by
  intro n hn
  induction l with
  | nil => cases hd
  | cons x r ih =>
    unfold DataW.weightsAll
    rcases List.mem_cons.1 hd with rfl | hd
    · exact List.mem_append.2 (Or.inl hn)
    · exact List.mem_append.2 (Or.inr (ih hd))

theorem light_slice {H : Type} {t e : TypeId} {l sp : List (DataW H)} (ht : Tryd.prog.underlying t = some (.slice e)) (h : Light t (.slice l sp)) : (l.length + sp.length) * Tryd.prog.bytesOf e ≤ 140737488351232 ∧ ∀ d ∈ l, Light e d := by
  unfold Light at h
  simp only [DataW.weights, ht] at h
  refine ⟨h _ List.mem_cons_self, fun d hd n hn => h n (List.mem_cons_of_mem _ (List.mem_append.2 (Or.inl (light_all hd hn))))⟩

section
variable {H : Type} {enc : TypeId × Value → H} {W : World}

theorem ints_w {fuel : Nat} {a : Option Addr} {len cap : Nat} {x : DataW H × List MemPlace} (h : DataW.trod enc Tryd.prog W 0 (fun _ => true) true fuel 22 [.slice a len cap] = some x) (hw : Light 22 x.1) : len ≤ 17592186043904 := by
  rcases Deep.open_slice Tryd.underlying22 h with ⟨e, _⟩ | ⟨a', len', cap', m, n, D, Pl, e, _, hl, _, hm, hx, hel⟩
  · simp only [List.cons.injEq, Value.slice.injEq, and_true] at e
    omega
  · simp only [List.cons.injEq, Value.slice.injEq, and_true] at e
    rw [hx] at hw
    have := (light_slice Tryd.underlying22 hw).1
    rw [bInt] at this
    simp only [List.length_map, List.length_range] at this
    omega

theorem code_w {fuel : Nat} {a : Option Addr} {len cap : Nat} {x : DataW H × List MemPlace} (h : DataW.trod enc Tryd.prog W 0 (fun _ => true) true fuel 29 [.slice a len cap] = some x) (hw : Light 29 x.1) : len ≤ 4398046510976 := by
  rcases Deep.open_slice Tryd.underlying29 h with ⟨e, _⟩ | ⟨a', len', cap', m, n, D, Pl, e, _, hl, _, hm, hx, hel⟩
  · simp only [List.cons.injEq, Value.slice.injEq, and_true] at e
    omega
  · simp only [List.cons.injEq, Value.slice.injEq, and_true] at e
    rw [hx] at hw
    have := (light_slice Tryd.underlying29 hw).1
    rw [bIns] at this
    simp only [List.length_map, List.length_range] at this
    omega

theorem rows_w {fuel : Nat} {v : Value} {p : List (List Ins)} {x : DataW H × List MemPlace} (h : DataW.trod enc Tryd.prog W 0 (fun _ => true) true fuel 23 [v] = some x) (hp : ProgAt W (.agg #[v]) p) (hw : Light 23 x.1) : p.length ≤ 5864062014634 ∧ ∀ c ∈ p, c.length ≤ 4398046510976 := by
  obtain ⟨ao, cp, e0, hh⟩ := hp
  simp only [Value.agg.injEq, Array.mk.injEq, List.cons.injEq, and_true] at e0
  subst e0
  rcases Deep.open_slice1 Tryd.underlying23 cCode h with ⟨e, _⟩ | ⟨a, len, cap, m, n, V, D, Pl, e, _, hl, _, hm, hx, hel⟩
  · simp only [List.cons.injEq, Value.slice.injEq, and_true] at e
    have : p = [] := List.length_eq_zero_iff.1 e.2.1
    subst this
    exact ⟨by simp, fun c hc => by cases hc⟩
  · simp only [List.cons.injEq, Value.slice.injEq, and_true] at e
    obtain ⟨ea, el, ec⟩ := e
    rw [hx] at hw
    obtain ⟨h1, h2⟩ := light_slice Tryd.underlying23 hw
    rw [bCode] at h1
    simp only [List.length_map, List.length_range] at h1
    simp only [if_true] at hm
    refine ⟨by omega, fun c hc => ?_⟩
    obtain ⟨k, hk, rfl⟩ := List.getElem_of_mem hc
    obtain ⟨g, o, e1, rv, e2, e3⟩ := hh k hk
    obtain ⟨hc1, hc2⟩ := hel k (by omega)
    rw [ea] at e1
    simp only [Option.some.injEq] at e1
    subst e1
    have e4 : V k = rv := by
      have e5 : (Addr.mk g o none).add k = ⟨g, o + k, none⟩ := by simp [Addr.add]
      rw [e5, e2] at hc1
      simpa using hc1.symm
    obtain ⟨ca, cc, e6, _⟩ := e3
    rw [e4, e6] at hc2
    exact code_w hc2 (h2 (D k) (List.mem_map.2 ⟨k, List.mem_range.2 (by omega), rfl⟩))

set_option maxRecDepth 100000 in
theorem prog_argW {v : Value} {d : DataW H} {ps : List MemPlace} {base : Nat} (hval : Value.okWide Tryd.prog W .any base 25 v) (h : DataW.Trod enc Tryd.prog W 0 (fun _ => true) true 25 v d ps) (hw : Light 25 d) :
    ∃ p, ProgAt W v p ∧ ProgNil W v ∧ p.length ≤ 5864062014634 ∧ ∀ c ∈ p, c.length ≤ 4398046510976 := by
  obtain ⟨cs, rfl, hsz⟩ := okWide_struct Tryd.underlying25 hval
  obtain ⟨fuel, hf⟩ := h
  obtain ⟨y0, n, hx, hl, h0⟩ := trod_struct1 Tryd.underlying25 hf
  rw [cProg] at hsz
  obtain ⟨l⟩ := cs
  match l, hsz with
  | [c0], _ =>
    have h0' : DataW.trod enc Tryd.prog W 0 (fun _ => true) true n 23 [c0] = some y0 := by simpa [Value.cells, cRows] using h0
    obtain ⟨p, h1, h2, _, _⟩ := rowsAt_of h0'
    have hd : d = .agg [y0.1] := congrArg Prod.fst hx
    subst hd
    obtain ⟨h3, h4⟩ := rows_w h0' h1 (fun m hm => hw m (by simp [DataW.weights, Tryd.underlying25, DataW.weightsEach, hm]))
    exact ⟨p, h1, h2, h3, h4⟩

set_option maxRecDepth 100000 in
theorem ints_argW {v : Value} {d : DataW H} {ps : List MemPlace} {base : Nat} (hval : Value.okWide Tryd.prog W .any base 22 v) (h : DataW.Trod enc Tryd.prog W 0 (fun _ => true) true 22 v d ps) (hw : Light 22 d) :
    ∃ l, IntsAt W.heap.size W v l ∧ nilA v ∧ l.length ≤ 17592186043904 := by
  obtain ⟨l, h1, h2, _⟩ := ints_argN hval h
  obtain ⟨a, len, cap, rfl⟩ := okWide_slice Tryd.underlying22 hval
  have h1' := h1
  obtain ⟨ao, cp, e, _⟩ := h1
  simp only [Value.slice.injEq] at e
  obtain ⟨fuel, hf⟩ := h
  have := ints_w (by simpa [Value.cells] using hf) hw
  exact ⟨l, h1', h2, by omega⟩
end

end Go.Proofs.YtklenjmfalljgaaDoor

/- For every program and all schedules: every Shorten is as the reference says, whatever the owner does with what came out and with what was lent. The row of Shortens, and its card. -/
namespace Go.Proofs.YtklenjmfalljgaaDoor
open Go.ChangeShapes Go.WideShapes Go.ChangeAt Go.RowKit

set_option maxRecDepth 100000 in
/-- What the walk gives, for every argument and every world that holds the table. -/
theorem shortens_contract (H : Type) (enc : TypeId × Value → H) (W : World) (base : Nat) (args : Array Value) (ds gs : List (DataW H)) (before : List MemPlace)
    (hval : ∀ (j : Nat) t v, Tryd.f8.params[j]? = some t → args[j]? = some v → Value.okWide Tryd.prog W .any base t v)
    (hW : DataW.Whole enc Tryd.prog Tryd.f8.params.toList Rows.shortensSpec.vars false W args.toList ds gs before) 
    (hwt : (DataW.weightsEach Tryd.prog (Tryd.f8.params.toList ++ (OpenSpec.ofChange Rows.shortensSpec).bare.plain.varTypes Tryd.prog) (ds ++ gs)).all (· ≤ reachBytes) = true) (hL : laidMetH Tryd.prog Rows.shortensRow.laid W) :
    Calls Tryd.prog 8 args W fun e W' => ∃ v, e = .returned v ∧ Rows.shortensSpec.post enc Tryd.prog Tryd.f8 false true false false W args v W' := by
  have hW' := hW
  obtain ⟨p, q, hA0, hV, rfl, hfz, hnd⟩ := hW
  have hA : DataW.TrodAll enc Tryd.prog W 0 (fun _ => true) true Tryd.f8.params.toList args.toList ds p := hA0
  rw [Tryd.params8] at hA hval hwt
  obtain ⟨v0, v1, v2, d0, d1, d2, p0, p1, p2, rfl, rfl, rfl, h0, h1, h2⟩ := trodAll_three hA
  obtain ⟨rfl, rfl⟩ := trodVars_none hV
  clear hA0
  rw [List.all_eq_true] at hwt
  have hre : reachBytes = 140737488351232 := by decide
  have hl0 : Light 25 d0 := fun n hn => by
    have := of_decide_eq_true (hwt n (by simp [DataW.weightsEach, hn]))
    omega
  have hl1 : Light 22 d1 := fun n hn => by
    have := of_decide_eq_true (hwt n (by simp [DataW.weightsEach, hn]))
    omega
  obtain ⟨p, hp, hpn, hpl, hpc⟩ := prog_argW (hval 0 25 v0 rfl rfl) h0 hl0
  obtain ⟨a, ha, han, hal⟩ := ints_argW (hval 1 22 v1 rfl rfl) h1 hl1
  obtain ⟨n, hn0, hn⟩ := int_arg (hval 2 3 v2 rfl rfl) h2
  subst hn0
  refine (shortens_m W v0 v1 n p a (shp_of_laid hL) hp hpn ha han hn.2 (by omega) (fun c hc => by have := hpc c hc; omega) (by omega)).mono fun e W' ⟨he, hg⟩ => ?_
  subst he
  have hb := grown_below hg
  have hlt : ∀ x ∈ p0 ++ p1 ++ p2, x.block < W.heap.size := fun x hx => by simpa using hW'.lt x (by simpa using hx)
  refine ⟨_, rfl, _, _, _, [] ++ [], p0 ++ (p1 ++ p2), [], hW', trodAll_cons_mk (shut_bool Tryd.underlying4 _) trodAll_mk0, ?_, rfl, hb.frame _, fun h => by cases h⟩
  rw [Tryd.params8]
  exact trodAll_mk3 (p := p0) (p' := p1) (p'' := p2) (Below.trod laidOut (by kernel_rfl) (of_decide_eq_true (by kernel_rfl)) h0 hb (fun x hx => hlt x (by simp [hx]))) (Below.trod laidOut (by kernel_rfl) (of_decide_eq_true (by kernel_rfl)) h1 hb (fun x hx => hlt x (by simp [hx])))
    (Below.trod laidOut (by kernel_rfl) (of_decide_eq_true (by kernel_rfl)) h2 hb (fun x hx => hlt x (by simp [hx])))

theorem shortens_laid (os : Os) : laidMetH Tryd.prog Rows.shortensRow.laid ((World.doorLaid Tryd.prog 400 os).forCall (fun _ _ => 0) ⟨#[], #[.agg #[.slice none 0 0], .slice none 0 0, .int .i64 0], []⟩).memory :=
  laidMetH_of_parts3 (fuel := 8) (laidMet_of_run' 8 (by kernel_rfl) (by kernel_rfl)) (by kernel_rfl) (by kernel_rfl)
theorem shortens_reads (os : Os) {H : Type} (enc : TypeId × Value → H) : ∃ places, DataW.whole enc Tryd.prog ((World.doorLaid Tryd.prog 400 os).forCall (fun _ _ => 0) ⟨#[], #[.agg #[.slice none 0 0], .slice none 0 0, .int .i64 0], []⟩).memory Tryd.f8.params.toList Rows.shortensSpec.vars false #[Value.agg #[.slice none 0 0], .slice none 0 0, .int .i64 0].toList 8 = some ([.agg [.nil], .nil, .lit (.int .i64 0)], [], places) :=
  ⟨[], by kernel_rfl⟩

set_option maxRecDepth 100000 in
theorem shortens_lifted (os : Os) (started : os.Started) (H : Type) (enc : TypeId × Value → H) (F : Stop.Interp) :
    ReturnsInHanded {} Tryd.checked os 8 .any ((OpenSpec.ofChange Rows.shortensSpec).preRow enc Tryd.prog Tryd.f8 Rows.shortensRow.domain false Rows.shortensRow.laid) (((OpenSpec.ofChange Rows.shortensSpec).at F).post enc Tryd.prog Tryd.f8 false true false false) := by
  obtain ⟨places, hx⟩ := shortens_reads os enc
  refine returnsInHanded_of_row (C := Tryd.checked) (s := OpenSpec.ofChange Rows.shortensSpec) own started (by kernel_rfl) Tryd.func8
    (witness_row_atRef (enc := enc) (C := Tryd.checked) false (World.doorLaid Tryd.prog 400 os) #[.agg #[.slice none 0 0], .slice none 0 0, .int .i64 0] rfl (by kernel_rfl) (by kernel_rfl) (by kernel_rfl)
      (OpenSpec.preRow_of_cond 8 hx (by kernel_rfl) (fun k hk => by cases hk) (by kernel_rfl) (shortens_laid os))) ?_
  intro W base args ds gs before hval hW _ _ hwt hL _ _
  exact shortens_contract H enc W base args ds gs before hval hW hwt hL

theorem shortens_said : Rows.ShortensSaid :=
  OpenClaim.holds_of_cond 8 Tryd.f8 rfl rfl rfl rfl rfl rfl rfl ⟨rfl, rfl, rfl, rfl, rfl⟩ rfl rfl rfl rfl rfl (by kernel_rfl) Tryd.func8 (by kernel_rfl)
    (of_decide_eq_true (by kernel_rfl)) (by unfold Func.isWrapper; first | (rw [if_pos (by decide +kernel)]; kernel_rfl) | (rw [if_neg (by decide +kernel)]; exact ⟨rfl, rfl⟩))
    (fun os started H enc _ F => by rw [OpenClaim.pre_eq_preRow]; exact shortens_lifted os started H enc F)

theorem shortens_plain (f : FuncId) (fn : Func) (hf : Tryd.pinned.checked.prog.funcNamed "rerun/rerunlaw.Shortens" = some f) (hfn : Tryd.pinned.checked.prog.funcs[f]? = some fn) :
    Rows.shortensCard.stood.looks = Tryd.pinned.checked.prog.looks [] ∧ ∀ (j : Nat) t, fn.params[j]? = some t → Tryd.pinned.checked.prog.wantsStandIn t = false := by
  obtain rfl : f = 8 := Option.some.inj ((show Tryd.prog.funcNamed "rerun/rerunlaw.Shortens" = some 8 by kernel_rfl).symm.trans hf) |>.symm
  obtain rfl : fn = Tryd.f8 := (Option.some.inj (Tryd.func8.symm.trans hfn)).symm
  refine ⟨by kernel_rfl, fun j t ht => ?_⟩
  rw [Tryd.params8] at ht
  have hm : t ∈ [25, 22, 3] := by simpa using Array.mem_of_getElem? ht
  have hall : ([25, 22, 3].all fun u => !Tryd.prog.wantsStandIn u) = true := by kernel_rfl
  exact (show Tryd.prog.wantsStandIn t = false by simpa using List.all_eq_true.1 hall t hm)

theorem shortens_card : Rows.ShortensCardSaid :=
  Claim7.holds_tied_plain_at .later [] _ _ _ _ shortens_said (fun _ h => by cases h) (by kernel_rfl) (fun _ h => by cases h) shortens_row_tie rfl ⟨rfl, rfl⟩ (by kernel_rfl) rfl shortens_plain (by kernel_rfl)
#print axioms shortens_card

end Go.Proofs.YtklenjmfalljgaaDoor
