/- Proved: rerunkeep.Enough answers true and never panics, whatever its arguments are: no condition. -/
import Derived.Test.YtklenjmfalljgaaDoorMD
import Derived.ArgAppend
import Derived.Test.YtklenjmfalljgaaDoorRows
import Derived.Deep.Slices
import Derived.Deep.DeepHandedRow
import Derived.Deep.DeepWitnessRowRef
import Derived.LaidMore
import Derived.Carry
import Derived.ProofKit
import Derived.OpenShut
import Derived.Test.YtklenjmfalljgaaDoorCards
import Derived.Test.YtklenjmfalljgaaDoorTie

/- The walk of shorten.Schedule. -/
namespace Go.Proofs.YtklenjmfalljgaaDoor
open Go.RowKit
attribute [local go_sem] Go.World.cell?_alloc_some run_field_verdict

theorem follow_len (p : List (List Ins)) (l : List Int) : (runS p l).steps.length ≤ l.length := by
  obtain ⟨m, h1, h2, h3, _⟩ := follow_fst p l 0 St.zero []
  unfold runS
  simp at h3
  omega

def resCl (o : Out) (sv gv : Value) : Array Value := #[.int .i64 o.kind, .int .i64 o.thread, .int .i64 o.at_, sv, .int .i64 (o.st.vars 0), .int .i64 (o.st.vars 1), .int .i64 (o.st.vars 2), .int .i64 (o.st.vars 3), gv]

theorem drop_at {B : Nat} {w : World} {g cap i : Nat} {l : List Int} (h : IntsAt B w (.slice (some ⟨g, 0, none⟩) l.length cap) l) (hi : i < l.length) :
    IntsAt B w (.slice (some ⟨g, i + 1, none⟩) (l.length - (i + 1)) (cap - (i + 1))) (l.drop (i + 1)) := by
  obtain ⟨a, c, e, h1, h2⟩ := h
  simp only [Value.slice.injEq, true_and] at e
  obtain ⟨rfl, rfl⟩ := e
  refine ⟨some ⟨g, i + 1, none⟩, cap - (i + 1), by simp, by simp; omega, fun k hk => ?_⟩
  have hk' : i + 1 + k < l.length := by simp at hk; omega
  obtain ⟨g', o', e1, e2, e3⟩ := h2 (i + 1 + k) hk'
  simp only [Option.some.injEq, Addr.mk.injEq, and_true] at e1
  obtain ⟨rfl, rfl⟩ := e1
  refine ⟨g, i + 1, rfl, e2, ?_⟩
  rw [List.getElem_drop]
  simpa using e3
theorem grown_drewAlloc {w : World} {o : Obj} : w.grownBy (w.drew.alloc o) none := ⟨rfl, rfl, rfl, by simp, fun k hk _ => heap_alloc_old w.drew _ hk⟩
theorem grown_undrew {w w' : World} (h : w.drew.grownBy w' none) : w.grownBy w' none := ⟨h.os, h.tape, h.output, h.size, h.block⟩
theorem nil_at {B : Nat} {w : World} {a : Option Addr} {c : Nat} : IntsAt B w (.slice a 0 c) [] := ⟨a, c, rfl, Nat.zero_le _, fun k hk => by simp at hk⟩
theorem nilOk_some {a : Addr} {n c : Nat} : nilOk (.slice (some a) n c) := fun n' c' e => by simp at e

set_option maxHeartbeats 4000000 in
set_option maxRecDepth 100000 in
theorem short_m {m : Nat} {w : World} {p : List (List Ins)} {v : Value} {sch : List Int} {fuel : Int} (hp : vProg p = true) (hM : MachAt w.heap.size w m p) (hv : IntsAt w.heap.size w v sch) (hno : nilOk v) (h500 : sch.length ≤ 500)
    (hf0 : 0 ≤ fuel) (hf1 : fuel ≤ 9223372036854775807) :
    Calls Tryd.prog 65 #[.pointer (some ⟨m, 0, none⟩), v, .int .i64 fuel] w fun e w' => ∃ sv, e = .returned (.tuple #[sv, .int .i64 ((shortS p sch fuel.toNat).2 : Nat)]) ∧ w'.ownsRow w.heap.size 3 1 sv (shortS p sch fuel.toNat).1.length (ints (shortS p sch fuel.toNat).1) ∧ w.grownBy w' none := by
  have HP := hide hp
  have HM := hide hM
  have HV := hide hv
  have HN := hide hno
  obtain ⟨so, sc, rfl⟩ := hv.form
  have hcap : sch.length ≤ sc := by
    obtain ⟨a, c, e, h1, _⟩ := hv
    simp only [Value.slice.injEq] at e
    omega
  clear hp hM hv hno
  have HC := hide (run_cut p sch)
  go_enter Tryd.func65, Tryd.ntmps65
  go_wp2_with fail
  refine (run_m HP.out HM.out (Nat.le_refl _) HV.out h500).mono ?_
  rintro e w1 ⟨rv, rfl, ⟨sv, gv, rfl, ho1, ho2⟩, hg1⟩
  obtain ⟨x1, x2, x3, rfl⟩ := owns_form ho1
  obtain ⟨y1, y2, y3, rfl⟩ := owns_form ho2
  have hx2 := owns_lenq ho1
  subst hx2
  have HG1 := hide hg1
  have hln := follow_len p sch
  have hcl := HC.out.2
  have HSS : Hid (∀ n, shortS p sch n = shr p (runS p sch) n (sch.take (cameTo (runS p sch))) 0 0) := fun n => rfl
  clear ho1 ho2 hg1
  generalize hO : runS p sch = o at *
  clear hO
  have hl1 : o.steps.length ≤ 1000 := by omega
  have ec : ∃ cn : Nat, cn = cameTo o := ⟨_, rfl⟩
  obtain ⟨cn, hcn⟩ := ec
  rw [← hcn] at hcl HSS
  have HCN := hide hcn
  clear hcn
  have c0 : (cn : Int) ≤ sc := by omega
  have c1 : (0 : Int) ≤ (cn : Int) := by omega
  go_wp2_with (go_at_call 97; refine (lengthOf_m o _ _ _ _ _ _ _ _ _ _ hl1).mono ?_; rintro e w2 ⟨rfl, hg2⟩; rw [← HCN.out])
  have HG2 : Hid (w.grownBy w2 none) := grown_trans (grown_trans HG1.out (grown_alloc (grown_refl _ _))) hg2
  have hs1 : w1.heap.size < w2.heap.size := by have := hg2.size; simp at this; omega
  have HB2 : Hid (w2.heap[w1.heap.size]? = some (.cells (resCl o (.slice x1 o.steps.length x3) (.slice y1 y2 y3)) 37 (0, 0))) := by
    unfold Hid; rw [hg2.block _ (by simp) (by simp)]; exact heap_alloc_new w1 _
  have HM2 : Hid (MachAt w.heap.size w2 m p) := HM.out.grown' (Nat.le_refl _) HG2.out
  have HI2 : Hid (IntsAt w2.heap.size w2 (.slice so cn sc) (sch.take cn)) := ((HV.out.pres (pres_grown HG2.out)).mono HG2.out.size).front hcl
  have HN2 : Hid (nilOk (.slice so cn sc)) := fun n c e => by
    simp only [Value.slice.injEq] at e
    have := HN.out sch.length sc (by rw [e.1])
    omega
  clear hg2 HG1
  have hfl : ([sch.take cn] : List (List Int)).flatten = sch.take cn := by simp
  refine (concat_m [sch.take cn] _ _ (rows_one rfl HI2.out HN2.out) (by simp) (by rw [hfl]; simp; omega)).mono ?_
  rintro e w3 ⟨sv3, rfl, hown3, hg3⟩
  rw [hfl] at hown3
  obtain ⟨z1, z2, z3, rfl⟩ := owns_form hown3
  have HO3 : Hid (w3.ownsRow w.heap.size 3 1 (.slice z1 z2 z3) (sch.take cn).length (ints (sch.take cn))) := owns_mono hown3 (by have := HG2.out.size; simp; omega)
  have HG3 : Hid (w2.grownBy w3 none) := grown_trans (grown_alloc (grown_refl _ _)) hg3
  have hl0 : (sch.take cn).length ≤ 500 := by simp; omega
  clear hown3 hg3 HI2 HN2 hfl
  go_wp2_with fail
  go_loopw [9, 10, 11] (fun sv r iv w' => ∃ (l : List Int) (i u : Nat), r = .int .i64 u ∧ iv = .int .i64 i ∧ l.length ≤ 500 ∧ i ≤ l.length ∧ (u : Int) ≤ fuel ∧ Hid (w'.ownsRow w.heap.size 3 1 sv l.length (ints l)) ∧ Hid (w2.grownBy w' none) ∧ Hid (shr p o (fuel.toNat - u) l i u = shr p o fuel.toNat (sch.take cn) 0 0)) (fun _ r _ _ => fuel.toNat - (intOf r).toNat)
  case atStart => exact ⟨sch.take cn, 0, 0, rfl, rfl, hl0, Nat.zero_le _, by omega, HO3, HG3, rfl⟩
  case round =>
    clear HO3 HG3
    obtain ⟨l, i, u, rfl, rfl, hl5, hil, hu, HO, HG, HS⟩ := hrel
    obtain ⟨w5, hw5⟩ : ∃ w5, w5 = wr := ⟨_, rfl⟩
    rw [← hw5] at HO HG ⊢
    clear hw5
    have q0 : (0 : Int) ≤ (i : Int) := by omega
    have q1 : (0 : Int) ≤ (u : Int) := by omega
    have q2 : (l.length : Int) ≤ 500 := by omega
    by_cases hgo : i < l.length ∧ (u : Int) < fuel
    · obtain ⟨hlt, huf⟩ := hgo
      obtain ⟨gg, gc, hvv⟩ : ∃ gg gc, u9 = .slice (some ⟨gg, 0, none⟩) l.length gc := by
        rcases HO.out.2 with ⟨_, e⟩ | ⟨gg, gc, _, e, _⟩
        · omega
        · exact ⟨gg, gc, e⟩
      subst hvv
      have HI5 := hide (owns_ints HO.out)
      have hcp : l.length ≤ gc := by
        obtain ⟨a, c, e, h1, _⟩ := HI5.out
        simp only [Value.slice.injEq] at e
        omega
      have q3 : (i : Int) < l.length := by omega
      have q4 : (i : Int) ≤ gc := by omega
      have q5 : (i : Int) + 1 ≤ l.length := by omega
      have q6 : (l.length : Int) ≤ gc := by omega
      have hnx : fuel.toNat - u = (fuel.toNat - (u + 1)) + 1 := by omega
      have HST : Hid (shr p o fuel.toNat (sch.take cn) 0 0 = if likeV (runS p (leftOut l i)) o = true then shr p o (fuel.toNat - (u + 1)) (leftOut l i) 0 (u + 1) else shr p o (fuel.toNat - (u + 1)) l (i + 1) (u + 1)) := by
        unfold Hid
        rw [← HS.out, hnx, shr, if_pos hlt]
      have hll := leftOut_len hlt
      clear HS hnx
      go_upto_region 7 with fail
      have HA : Hid (IntsAt w5.drew.heap.size w5.drew (.slice (some ⟨gg, 0, none⟩) i gc) (l.take i)) := HI5.out.front (by omega)
      go_cut [12] (fun tv w' => Hid (w'.ownsRow w.heap.size 3 1 tv (leftOut l i).length (ints (leftOut l i)) ∧ w5.grownBy w' none))
      case first =>
        have hwr : IntKind.i64.wrap ((i : Int) + 1) = (i : Int) + 1 := by rw [IntKind.wrap_i64]; omega
        have htn : ((i : Int) + 1).toNat = i + 1 := by omega
        by_cases hsk : gc - (i + 1) = 0
        · have HD : Hid (IntsAt w5.drew.heap.size w5.drew (.slice (some ⟨gg, 0, none⟩) (l.length - (i + 1)) 0) (l.drop (i + 1))) := by
            have e1 : l.drop (i + 1) = [] := List.drop_of_length_le (by omega)
            have e2 : l.length - (i + 1) = 0 := by omega
            unfold Hid; rw [e1, e2]; exact nil_at
          have HGC : Hid (gc = i + 1) := by unfold Hid; omega
          refine wp_region_head (fun _ => True) 9 (by kernel_rfl) (by kernel_rfl) trivial ?_
          intro hHeld
          refine wpHead_take (i := 0) (v := ?vva0) rfl (by kernel_rfl) (fun _ _ _ h => h) (Or.inl ⟨by rfl, ?hya0⟩) hHeld ?resta0
          case hya0 => (intro u hu; go_simp; try with_reducible rfl)
          simp only [Act.put, List.setIfInBounds_toArray]
          refine wpHead_take (i := 1) (v := ?vva1) rfl (by kernel_rfl) (fun _ _ _ h => h) (Or.inl ⟨by rfl, ?hya1⟩) hHeld ?resta1
          case hya1 => (intro u hu; go_simp; try with_reducible rfl)
          simp only [Act.put]
          refine wpHead_take (i := 2) (v := ?vva2) rfl (by kernel_rfl) (fun _ _ _ h => h) (Or.inl ⟨by rfl, ?hya2⟩) hHeld ?resta2
          case hya2 => (intro u hu; go_simp; try with_reducible rfl)
          simp only [Act.put]
          refine wpHead_take (i := 3) (v := ?vva3) rfl (by kernel_rfl) (fun _ _ _ h => h) (Or.inl ⟨by rfl, ?hya3⟩) hHeld ?resta3
          case hya3 => (intro u hu; go_simp; try with_reducible rfl)
          simp only [Act.put]
          refine wpHead_take (i := 4) (v := ?vva4) rfl (by kernel_rfl) (fun _ _ _ h => h) (Or.inl ⟨by rfl, ?hya4⟩) hHeld ?resta4
          case hya4 => (intro u hu; go_simp; try with_reducible rfl)
          simp only [Act.put]
          refine wpHead_take (i := 5) (v := .int .i64 ((i : Int) + 1)) rfl (by kernel_rfl) (fun _ _ _ h => h) (Or.inl ⟨by rfl, ?hya5⟩) hHeld ?resta5
          case hya5 => (intro u hu; go_simp; try rw [hwr])
          simp only [Act.put]
          refine wpHead_take (i := 6) (v := .slice (some ⟨gg, 0, none⟩) (l.length - (i + 1)) 0) rfl (by kernel_rfl) (fun _ _ _ h => h) (Or.inl ⟨by rfl, ?hya6⟩) hHeld ?resta6
          case hya6 => (intro u hu; have hgc := HGC.out; go_simp; first | done | (intro h; exfalso; omega))
          simp only [Act.put]
          refine wpHead_alone (i := 7) rfl (by kernel_rfl) (by kernel_rfl) (by rfl) ?_
          intro K7 hK7
          have HK7 := hide hK7
          clear hK7
          go_simp
          refine HK7.out _ _ trivial ?_
          clear HK7
          try simp only [Act.put, List.setIfInBounds_toArray]
          refine wpHead_alone (i := 8) rfl (by kernel_rfl) (by kernel_rfl) (by rfl) ?_
          intro K8 hK8
          have HK8 := hide hK8
          clear hK8
          go_simp
          refine (concat_m [l.take i, l.drop (i + 1)] _ _ (rows_two (W := w5.drew) rfl HA.out nilOk_some HD.out nilOk_some) (by simp) (by simp; omega)).mono ?_
          rintro e w6 ⟨tv, rfl, hown6, hg6⟩
          have hfl : ([l.take i, l.drop (i + 1)] : List (List Int)).flatten = leftOut l i := by simp [leftOut]
          rw [hfl] at hown6
          refine HK8.out _ _ trivial ?_
          clear HK8
          try simp only [Act.put, List.setIfInBounds_toArray]
          refine wpHead_last rfl (by kernel_rfl) (by kernel_rfl) (by rfl) ?_
          go_simp
          go_wp2
          go_meet
          exact ⟨owns_mono hown6 (by have := HG2.out.size; have := HG.out.size; simp; omega), grown_trans grown_drewAlloc hg6⟩
        · have HD : Hid (IntsAt w5.drew.heap.size w5.drew (.slice (some ⟨gg, i + 1, none⟩) (l.length - (i + 1)) (gc - (i + 1))) (l.drop (i + 1))) := drop_at HI5.out hlt
          have HGC : Hid (¬ gc = i + 1) := by unfold Hid; omega
          refine wp_region_head (fun _ => True) 9 (by kernel_rfl) (by kernel_rfl) trivial ?_
          intro hHeld
          refine wpHead_take (i := 0) (v := ?vvb0) rfl (by kernel_rfl) (fun _ _ _ h => h) (Or.inl ⟨by rfl, ?hyb0⟩) hHeld ?restb0
          case hyb0 => (intro u hu; go_simp; try with_reducible rfl)
          simp only [Act.put, List.setIfInBounds_toArray]
          refine wpHead_take (i := 1) (v := ?vvb1) rfl (by kernel_rfl) (fun _ _ _ h => h) (Or.inl ⟨by rfl, ?hyb1⟩) hHeld ?restb1
          case hyb1 => (intro u hu; go_simp; try with_reducible rfl)
          simp only [Act.put]
          refine wpHead_take (i := 2) (v := ?vvb2) rfl (by kernel_rfl) (fun _ _ _ h => h) (Or.inl ⟨by rfl, ?hyb2⟩) hHeld ?restb2
          case hyb2 => (intro u hu; go_simp; try with_reducible rfl)
          simp only [Act.put]
          refine wpHead_take (i := 3) (v := ?vvb3) rfl (by kernel_rfl) (fun _ _ _ h => h) (Or.inl ⟨by rfl, ?hyb3⟩) hHeld ?restb3
          case hyb3 => (intro u hu; go_simp; try with_reducible rfl)
          simp only [Act.put]
          refine wpHead_take (i := 4) (v := ?vvb4) rfl (by kernel_rfl) (fun _ _ _ h => h) (Or.inl ⟨by rfl, ?hyb4⟩) hHeld ?restb4
          case hyb4 => (intro u hu; go_simp; try with_reducible rfl)
          simp only [Act.put]
          refine wpHead_take (i := 5) (v := .int .i64 ((i : Int) + 1)) rfl (by kernel_rfl) (fun _ _ _ h => h) (Or.inl ⟨by rfl, ?hyb5⟩) hHeld ?restb5
          case hyb5 => (intro u hu; go_simp; try rw [hwr])
          simp only [Act.put]
          refine wpHead_take (i := 6) (v := .slice (some ⟨gg, i + 1, none⟩) (l.length - (i + 1)) (gc - (i + 1))) rfl (by kernel_rfl) (fun _ _ _ h => h) (Or.inl ⟨by rfl, ?hyb6⟩) hHeld ?restb6
          case hyb6 => (intro u hu; have hgc := HGC.out; go_simp; first | done | (intro h; exfalso; omega))
          simp only [Act.put]
          refine wpHead_alone (i := 7) rfl (by kernel_rfl) (by kernel_rfl) (by rfl) ?_
          intro K7 hK7
          have HK7 := hide hK7
          clear hK7
          go_simp
          refine HK7.out _ _ trivial ?_
          clear HK7
          try simp only [Act.put, List.setIfInBounds_toArray]
          refine wpHead_alone (i := 8) rfl (by kernel_rfl) (by kernel_rfl) (by rfl) ?_
          intro K8 hK8
          have HK8 := hide hK8
          clear hK8
          go_simp
          refine (concat_m [l.take i, l.drop (i + 1)] _ _ (rows_two (W := w5.drew) rfl HA.out nilOk_some HD.out nilOk_some) (by simp) (by simp; omega)).mono ?_
          rintro e w6 ⟨tv, rfl, hown6, hg6⟩
          have hfl : ([l.take i, l.drop (i + 1)] : List (List Int)).flatten = leftOut l i := by simp [leftOut]
          rw [hfl] at hown6
          refine HK8.out _ _ trivial ?_
          clear HK8
          try simp only [Act.put, List.setIfInBounds_toArray]
          refine wpHead_last rfl (by kernel_rfl) (by kernel_rfl) (by rfl) ?_
          go_simp
          go_wp2
          go_meet
          exact ⟨owns_mono hown6 (by have := HG2.out.size; have := HG.out.size; simp; omega), grown_trans grown_drewAlloc hg6⟩
      case rest =>
      obtain ⟨hown6, hg6⟩ := hcut
      obtain ⟨w6, hw6⟩ : ∃ w6, w6 = wc := ⟨_, rfl⟩
      rw [← hw6] at hown6 hg6 ⊢
      clear hw6 HA
      obtain ⟨t1, t2, t3, rfl⟩ := owns_form hown6
      have ht2 := owns_lenq hown6
      subst ht2
      have HO6 := hide hown6
      have HG5 := hide hg6
      have HG6 : Hid (w2.grownBy w6 none) := grown_trans HG.out hg6
      have hb6 : w6.heap[w1.heap.size]? = some (.cells (resCl o (.slice x1 o.steps.length x3) (.slice y1 y2 y3)) 37 (0, 0)) := by
        rw [HG6.out.block _ hs1 (by simp)]; exact HB2.out
      have k0 : w6.cell? ⟨w1.heap.size, 0, none⟩ = some (.int .i64 o.kind) := by simp only [World.cell?, hb6]; rfl
      have k1 : w6.cell? ⟨w1.heap.size, 1, none⟩ = some (.int .i64 o.thread) := by simp only [World.cell?, hb6]; rfl
      have k2 : w6.cell? ⟨w1.heap.size, 2, none⟩ = some (.int .i64 o.at_) := by simp only [World.cell?, hb6]; rfl
      have HM6 : Hid (MachAt w6.drew.heap.size w6.drew m p) := (HM2.out.grown' HG2.out.size HG6.out).mono (Nat.le_trans HG2.out.size HG6.out.size)
      have HI6 : Hid (IntsAt w6.drew.heap.size w6.drew (.slice t1 (leftOut l i).length t3) (leftOut l i)) := owns_ints HO6.out
      have h56 : (leftOut l i).length ≤ 500 := by omega
      clear hown6 hg6 hb6
      go_upto_region 8 with fail
      refine wp_region_head (fun u => u.cell? ⟨w1.heap.size, 0, none⟩ = some (.int .i64 o.kind) ∧ u.cell? ⟨w1.heap.size, 1, none⟩ = some (.int .i64 o.thread) ∧ u.cell? ⟨w1.heap.size, 2, none⟩ = some (.int .i64 o.at_)) 6 (by kernel_rfl) (by kernel_rfl) ⟨k0, k1, k2⟩ ?_
      intro hHeld
      refine wpHead_take (i := 0) (v := ?vvc0) rfl (by kernel_rfl) (fun _ _ _ h => h) (Or.inl ⟨by rfl, ?hyc0⟩) hHeld ?restc0
      case hyc0 => (rintro u ⟨hu0, hu1, hu2⟩; go_simp; try with_reducible rfl)
      simp only [Act.put, List.setIfInBounds_toArray]
      refine wpHead_take (i := 1) (v := ?vvc1) rfl (by kernel_rfl) (fun _ _ _ h => h) (Or.inl ⟨by rfl, ?hyc1⟩) hHeld ?restc1
      case hyc1 => (rintro u ⟨hu0, hu1, hu2⟩; go_simp; try with_reducible rfl)
      simp only [Act.put]
      refine wpHead_take (i := 4) (v := ?vvc4) rfl (by kernel_rfl) (fun _ _ _ h => h) (Or.inl ⟨by rfl, ?hyc4⟩) hHeld ?restc4
      case hyc4 => (rintro u ⟨hu0, hu1, hu2⟩; go_simp; try with_reducible rfl)
      simp only [Act.put]
      refine wpHead_take (i := 5) (v := ?vvc5) rfl (by kernel_rfl) (fun _ _ _ h => h) (Or.inl ⟨by rfl, ?hyc5⟩) hHeld ?restc5
      case hyc5 => (rintro u ⟨hu0, hu1, hu2⟩; go_simp; try with_reducible rfl)
      simp only [Act.put]
      refine wpHead_alone (i := 2) rfl (by kernel_rfl) (by kernel_rfl) (by rfl) ?_
      intro K2 hK2
      have HK2 := hide hK2
      clear hK2
      go_simp
      refine (run_m HP.out HM6.out (Nat.le_refl _) HI6.out h56).mono ?_
      rintro e w7 ⟨rv7, rfl, ⟨sv7, gv7, rfl, hs7, hr7⟩, hg7⟩
      obtain ⟨sa7, sb7, sc7, rfl⟩ := owns_form hs7
      obtain ⟨ra7, rb7, rc7, rfl⟩ := owns_form hr7
      clear hs7 hr7
      have HG7 : Hid (w6.grownBy w7 none) := grown_undrew hg7
      have hHeld7 : w7.cell? ⟨w1.heap.size, 0, none⟩ = some (.int .i64 o.kind) ∧ w7.cell? ⟨w1.heap.size, 1, none⟩ = some (.int .i64 o.thread) ∧ w7.cell? ⟨w1.heap.size, 2, none⟩ = some (.int .i64 o.at_) := ⟨pres_grown HG7.out _ _ k0, pres_grown HG7.out _ _ k1, pres_grown HG7.out _ _ k2⟩
      refine HK2.out _ _ hHeld7 ?_
      clear HK2 hg7
      try simp only [Act.put, List.setIfInBounds_toArray]
      refine wpHead_take (i := 3) (v := ?vvd3) rfl (by kernel_rfl) (fun _ _ _ h => h) (Or.inl ⟨by rfl, ?hyd3⟩) hHeld7 ?restd3
      case hyd3 => (rintro u ⟨hu0, hu1, hu2⟩; go_simp; try with_reducible rfl)
      simp only [Act.put, List.setIfInBounds_toArray]
      refine wpHead_last rfl (by kernel_rfl) (by kernel_rfl) (by rfl) ?_
      go_simp
      refine (sameVerdict_m (runS p (leftOut l i)) o w7).mono ?_
      rintro e w8 ⟨rfl, hg8⟩
      have HG8 : Hid (w6.grownBy w8 none) := grown_trans HG7.out hg8
      clear hg8 hHeld hHeld7 HG7 k0 k1 k2
      have q7 : (u : Int) + 1 ≤ 9223372036854775807 := by omega
      cases hlk : likeV (runS p (leftOut l i)) o
      · have HS2 : Hid (shr p o (fuel.toNat - (u + 1)) l (i + 1) (u + 1) = shr p o fuel.toNat (sch.take cn) 0 0) := by
          unfold Hid; rw [HST.out, hlk]; simp
        clear hlk
        go_wp2_with fail
        go_roundw
        case rel => exact ⟨l, i + 1, u + 1, by go_num, by go_num, hl5, by omega, by omega, owns_grown (owns_grown HO.out HG5.out (fun _ e => by cases e)) HG8.out (fun _ e => by cases e), grown_trans HG6.out HG8.out, HS2⟩
        case measure => simp [intOf]; omega
      · have HS2 : Hid (shr p o (fuel.toNat - (u + 1)) (leftOut l i) 0 (u + 1) = shr p o fuel.toNat (sch.take cn) 0 0) := by
          unfold Hid; rw [HST.out, hlk]; simp
        clear hlk
        go_wp2_with fail
        go_roundw
        case rel => exact ⟨leftOut l i, 0, u + 1, by go_num, rfl, h56, by omega, by omega, owns_grown HO6.out HG8.out (fun _ e => by cases e), grown_trans HG6.out HG8.out, HS2⟩
        case measure => simp [intOf]; omega
    · have HE : Hid (shr p o fuel.toNat (sch.take cn) 0 0 = (l, u)) := by
        unfold Hid
        rw [← HS.out]
        cases hn : fuel.toNat - u with
        | zero => rfl
        | succ n => rw [shr, if_neg (fun h => hgo ⟨h, by omega⟩)]
      have HFIN : Hid (shortS p sch fuel.toNat = (l, u)) := by unfold Hid; rw [HSS.out, HE.out]
      obtain ⟨b1, b2, b3, rfl⟩ := owns_form HO.out
      have hb2 := owns_lenq HO.out
      subst hb2
      by_cases hlt : i < l.length
      · have q3 : (i : Int) < l.length := by omega
        have q4 : fuel ≤ (u : Int) := by omega
        go_wp2_with fail
        rw [HFIN.out]
        exact bodyPost_ret (v := .tuple #[.slice b1 l.length b3, .int .i64 u]) (by simp [results, Tryd.results65, go_sem]) rfl ⟨_, rfl, HO.out, grown_trans HG2.out HG.out⟩
      · have q3 : (l.length : Int) ≤ (i : Int) := by omega
        go_wp2_with fail
        rw [HFIN.out]
        exact bodyPost_ret (v := .tuple #[.slice b1 l.length b3, .int .i64 u]) (by simp [results, Tryd.results65, go_sem]) rfl ⟨_, rfl, HO.out, grown_trans HG2.out HG.out⟩

end Go.Proofs.YtklenjmfalljgaaDoor

/- The walk of Shorten. -/
namespace Go.Proofs.YtklenjmfalljgaaDoor
open Go.RowKit
attribute [local go_sem] Go.World.cell?_alloc_some

/-- What Shorten answers. -/
def Shortened (p : List (List Ins)) (s : List Int) (fuel : Int) (w : World) (e : Ending) (w' : World) : Prop :=
  w.grownBy w' none ∧
  ((checkRunN p s = 0 ∧ 0 ≤ fuel ∧ ∃ sv, e = .returned (.tuple #[sv, .int .i64 ((shortS p s fuel.toNat).2 : Nat), .int .i64 0]) ∧ w'.ownsRow w.heap.size 3 1 sv (shortS p s fuel.toNat).1.length (ints (shortS p s fuel.toNat).1)) ∨
   (checkRunN p s = 0 ∧ fuel < 0 ∧ e = .returned (.tuple #[.slice none 0 0, .int .i64 0, .int .i64 2])) ∨
   (checkRunN p s ≠ 0 ∧ e = .returned (.tuple #[.slice none 0 0, .int .i64 0, .int .i64 (checkRunN p s)])))

theorem check_zero {p : List (List Ins)} {s : List Int} (h0 : checkRunN p s = 0) : vProg p = true ∧ s.length ≤ 500 := by
  unfold checkRunN at h0
  by_cases hv : vProg p = true
  · by_cases h5 : s.length ≤ 500
    · exact ⟨hv, h5⟩
    · simp [hv, h5] at h0
  · simp [hv] at h0

set_option maxHeartbeats 4000000 in
set_option maxRecDepth 100000 in
theorem shorten_m (p : List (List Ins)) (s : List Int) (pv sv : Value) (fuel : Int) (w : World) (hS : ShpAt w) (hP : ProgAt w pv p) (hI : IntsAt w.heap.size w sv s) (hno : nilOk sv) (hf1 : fuel ≤ 9223372036854775807) :
    Calls Tryd.prog 28 #[pv, sv, .int .i64 fuel] w (Shortened p s fuel w) := by
  have HSh := hide hS
  have HP := hide hP
  have HI := hide hI
  have HN := hide hno
  obtain ⟨ao, cap, rfl⟩ := hP.form
  obtain ⟨so, sc, rfl⟩ := hI.form
  clear hS hP hI hno
  go_enter Tryd.func28, Tryd.ntmps28
  go_wp2_with fail
  have hg0 : ∀ a b, w.grownBy ((w.alloc a).alloc b) none := fun a b => grown_alloc (grown_alloc (grown_refl _ _))
  refine (checkRun_m p [s] _ _ _ (HSh.out.pres (pres_grown (hg0 _ _))) (HP.out.pres (pres_grown (hg0 _ _))) (lists_one (by simp)) (by simp)).mono ?_
  rw [checkRuns_one]
  rintro e w1 ⟨rfl, hg1⟩
  have HG1 : Hid (w.grownBy w1 none) := grown_trans (hg0 _ _) hg1
  have hb0 : w1.heap[w.heap.size]? = some (.cells #[.slice ao p.length cap] 25 (0, 0)) := by
    rw [hg1.block w.heap.size (by simp; omega) (by simp), Below.heap_alloc _ _ _ (by simp)]; exact heap_alloc_new w _
  have c0 : w1.cell? ⟨w.heap.size, 0, none⟩ = some (.slice ao p.length cap) := by simp [World.cell?, hb0]
  clear hb0 hg1
  by_cases h0 : checkRunN p s = 0
  · have H0 := hide h0
    obtain ⟨hv, h5⟩ := check_zero h0
    have HV := hide hv
    rw [h0]
    clear h0 hv
    by_cases hf : fuel < 0
    · go_wp2_with fail
      exact bodyPost_ret (v := .tuple #[.slice none 0 0, .int .i64 0, .int .i64 2]) (by simp [results, Tryd.results28, go_sem]) rfl ⟨HG1.out, Or.inr (Or.inl ⟨H0.out, hf, rfl⟩)⟩
    · have hf0 : 0 ≤ fuel := by omega
      go_wp2_with fail
      refine (new_m HV.out (HP.out.pres (pres_grown HG1.out))).mono ?_
      rintro e w2 ⟨m, rfl, hM, hg2⟩
      have HM := hide hM
      have HG2 : Hid (w.grownBy w2 none) := grown_trans HG1.out hg2
      clear hM hg2 c0
      go_wp2_with fail
      refine (short_m HV.out HM.out ((HI.out.pres (pres_grown HG2.out)).mono HG2.out.size) HN.out h5 hf0 hf1).mono ?_
      rintro e w3 ⟨rv, rfl, hown3, hg3⟩
      obtain ⟨r1, r2, r3, rfl⟩ := owns_form hown3
      have HO3 := hide hown3
      have HG3 : Hid (w.grownBy w3 none) := grown_trans HG2.out hg3
      clear hown3 hg3
      go_wp2_with fail
      exact bodyPost_ret (v := .tuple #[.slice r1 r2 r3, .int .i64 ((shortS p s fuel.toNat).2 : Nat), .int .i64 0]) (by simp [results, Tryd.results28, go_sem]) rfl ⟨HG3.out, Or.inl ⟨H0.out, hf0, _, rfl, owns_mono HO3.out HG2.out.size⟩⟩
  · have H0 := hide h0
    have hne : (checkRunN p s != 0) = true := by simpa using h0
    clear h0
    generalize hE : checkRunN p s = e at *
    have HE := hide hE
    clear hE
    go_wp2_with fail
    exact bodyPost_ret (v := .tuple #[.slice none 0 0, .int .i64 0, .int .i64 e]) (by simp [results, Tryd.results28, go_sem]) rfl ⟨HG1.out, Or.inr (Or.inr ⟨by rw [HE.out]; exact H0.out, by rw [HE.out]⟩)⟩

end Go.Proofs.YtklenjmfalljgaaDoor

/- The walk of Enough. -/
namespace Go.Proofs.YtklenjmfalljgaaDoor
open Go.RowKit
attribute [local go_sem] Go.World.cell?_alloc_some

set_option maxHeartbeats 1000000 in
set_option maxRecDepth 100000 in
theorem alike_m (a b : Out) (w : World) : Calls Tryd.prog 36 #[verdV a, verdV b] w fun e w' => e = .returned (.bool (likeV a b)) ∧ w.grownBy w' none := by
  obtain ⟨al, ak, av, aa, ast⟩ := a
  obtain ⟨bl, bk, bv, ba, bst⟩ := b
  unfold verdV
  simp only
  have HG : Hid (∀ x y, w.grownBy ((w.alloc x).alloc y) none) := fun x y => grown_alloc (grown_alloc (grown_refl _ _))
  by_cases heq : ak = bk ∧ av = bv ∧ aa = ba
  · obtain ⟨rfl, rfl, rfl⟩ := heq
    have HE : Hid (likeV ⟨al, ak, av, aa, ast⟩ ⟨bl, ak, av, aa, bst⟩ = true) := by unfold Hid likeV; by_cases h : ak = 2 <;> simp [h]
    go_enter Tryd.func36, Tryd.ntmps36
    go_wp2_with fail
    all_goals (go_ret; exact ⟨by rw [HE.out]; rfl, HG.out _ _⟩)
  · by_cases h2 : ak = 2
    · by_cases h3 : bk = 2
      · have HE : Hid (likeV ⟨al, ak, av, aa, ast⟩ ⟨bl, bk, bv, ba, bst⟩ = true) := by unfold Hid likeV; simp [h2, h3]
        subst h2 h3
        clear heq
        go_enter Tryd.func36, Tryd.ntmps36
        go_wp2_with fail
        all_goals (go_ret; exact ⟨by rw [HE.out]; rfl, HG.out _ _⟩)
      · have HE : Hid (likeV ⟨al, ak, av, aa, ast⟩ ⟨bl, bk, bv, ba, bst⟩ = false) := by unfold Hid likeV; simp [h2, h3]
        have hb : (bk == 2) = false := by simpa using h3
        have hb2 : ((2 : Int) == bk) = false := by simp; omega
        subst h2
        clear heq
        go_enter Tryd.func36, Tryd.ntmps36
        go_wp2_with fail
        all_goals first | (go_ret; exact ⟨by rw [HE.out]; rfl, HG.out _ _⟩) | (exfalso; omega)
    · have HE : Hid (likeV ⟨al, ak, av, aa, ast⟩ ⟨bl, bk, bv, ba, bst⟩ = false) := by
        unfold Hid likeV
        rw [if_neg h2]
        cases hc : (ak == bk && av == bv && aa == ba) with
        | false => rfl
        | true =>
          simp at hc
          exact absurd ⟨hc.1.1, hc.1.2, hc.2⟩ heq
      have hb : (ak == 2) = false := by simpa using h2
      have HN := hide heq
      clear heq h2
      go_enter Tryd.func36, Tryd.ntmps36
      go_wp2_with fail
      all_goals first | (go_ret; exact ⟨by rw [HE.out]; rfl, HG.out _ _⟩) | (exfalso; exact HN.out ⟨by assumption, by assumption, by assumption⟩) | (exfalso; have hz : ¬ ak = 2 := (by simpa using hb); omega)

end Go.Proofs.YtklenjmfalljgaaDoor

/- The walk of Enough. -/
namespace Go.Proofs.YtklenjmfalljgaaDoor
open Go.RowKit
attribute [local go_sem] Go.World.cell?_alloc_some

theorem ints_of {B : Nat} {w : World} {ao : Option Addr} {cap : Nat} {l : List Int} (h : IntsAt B w (.slice ao l.length cap) l) : ∀ b, ao = some b → ∀ j u, (ints l)[j]? = some u → w.cell? (b.add j) = some u := by
  rintro b rfl j u hj
  obtain ⟨a, c, e, _, h2⟩ := h
  have hl := (List.getElem?_eq_some_iff.1 hj).1
  rw [ints_len] at hl
  obtain ⟨g', o', e1, e2, e3⟩ := h2 j hl
  simp only [Value.slice.injEq] at e
  rw [e1] at e
  simp only [Option.some.injEq] at e
  obtain ⟨rfl, _⟩ := e
  have hadd : (⟨g', o', none⟩ : Addr).add j = ⟨g', o' + j, none⟩ := by unfold Addr.add; split <;> simp_all
  rw [hadd, e3]
  have : (ints l)[j]? = some (.int .i64 l[j]) := by simp [ints, hl]
  rw [this] at hj; exact hj

/-- A schedule of the owner's own. -/
def MySch (X : Nat) (w2 : World) (v : Value) (b : List Int) (w' : World) : Prop := IntsAt w'.heap.size w' v b ∧ nilOk v ∧ w2.grownBy w' none ∧ ∀ g, v.ownBlock = some g → g ≠ X
theorem IntsAt.setAway {B X o : Nat} {w : World} {v u : Value} {l : List Int} (h : IntsAt B w v l) (hx : ∀ g, v.ownBlock = some g → g ≠ X) : IntsAt B (w.setCell ⟨X, o, none⟩ u) v l := by
  obtain ⟨ao, cap, rfl, h1, h2⟩ := h
  refine ⟨ao, cap, rfl, h1, fun k hk => ?_⟩
  obtain ⟨g, o', e1, e2, e3⟩ := h2 k hk
  refine ⟨g, o', e1, e2, ?_⟩
  rw [World.cell?_of_block (Below.heap_setCell _ _ _ _ (by simp only; exact hx g (by rw [e1]; rfl)))]; exact e3
theorem owns_ltE {w : World} {base : Nat} {e : TypeId} {size : Nat} {v : Value} {n : Nat} {xs : List Value} (h : w.ownsRow base e size v n xs) : ∀ g, v.ownBlock = some g → g < w.heap.size := by
  intro g e
  rcases h.2 with ⟨e1, _⟩ | ⟨g', cap, cur, hv, _, hh, _⟩
  · rw [e1] at e; cases e
  · rw [hv] at e
    simp only [Value.ownBlock, Option.some.injEq] at e
    subst e
    exact (Array.getElem?_eq_some_iff.1 hh).1
theorem own_same {s : Option Addr} {n c n' c' : Nat} {g : Nat} (h : (Value.slice s n c).ownBlock = some g) : (Value.slice s n' c').ownBlock = some g := by cases s <;> exact h
theorem owns_nilOk {w : World} {base : Nat} {e : TypeId} {size : Nat} {v : Value} {n : Nat} {xs : List Value} (h : w.ownsRow base e size v n xs) : nilOk v := by
  intro n' c' e
  rcases h.2 with ⟨e1, _⟩ | ⟨g, cap, cur, hv, _⟩
  · rw [e1] at e; simp at e; omega
  · rw [hv] at e; simp at e

set_option maxHeartbeats 8000000 in
set_option maxRecDepth 100000 in
theorem enough_m (raw : List (List Int)) (ch : List Int) (spoil fuel : Int) (rawv chv : Value) (w : World) (hS : ShpAt w) (hR : RawAt w rawv raw) (hbR : ∀ t (ht : t < raw.length) k (hk : k < raw[t].length), isInt raw[t][k])
    (hC : IntsAt w.heap.size w chv ch) (hbC : ∀ k (hk : k < ch.length), -9223372036854775808 ≤ ch[k] ∧ ch[k] ≤ 9223372036854775807) (_hsp : isInt spoil) (hfu : isInt fuel) :
    Calls Tryd.prog 11 #[rawv, chv, .int .i64 spoil, .int .i64 fuel] w fun e w' => e = .returned (.bool true) ∧ w.grownBy w' none := by
  obtain ⟨i0, hi0, hz0, hz1, hz2⟩ := info_parts info_int
  have HSh := hide hS
  have HC := hide hC
  have HBC := hide hbC
  have HPR := hide (program_m raw rawv w hR hbR)
  have hvp := progN_valid raw
  clear hS hR hbR hC hbC
  generalize progN raw = p at *
  have HVP := hide hvp
  have hlen := vProg_len hvp
  clear hvp
  go_enter Tryd.func11, Tryd.ntmps11
  go_wp2_with fail
  refine HPR.out.mono ?_
  clear HPR
  rintro e w1 ⟨tv, rfl, hP, hg1⟩
  have hform := hP.form
  obtain ⟨pao, pcap, htv⟩ := hform
  have htv2 : tv = .slice pao p.length pcap := by simpa using htv
  subst htv2
  have HP1 := hide hP
  have HG1 := hide hg1
  have hs1 := hg1.size
  clear hP hg1 htv
  go_wp2_with fail
  have HSC := hide (schedule_m p ch (.agg #[.slice pao p.length pcap]) chv (w1.alloc (.cells #[.slice pao p.length pcap] 25)) (HSh.out.pres (pres_grown (grown_alloc HG1.out))) HVP.out (HP1.out.pres (pres_grown (grown_alloc (grown_refl _ _)))) ((HC.out.pres (pres_grown (grown_alloc HG1.out))).mono (by simp; omega)) HBC.out)
  refine HSC.out.mono ?_
  clear HSC HC HBC
  rintro e w2 ⟨sv, rv, a, rfl, hrow, ⟨st, gt, rfl, ho1, ho2⟩, hsd, h200, _, hg2⟩
  have hsz2 : w1.heap.size + 1 ≤ w2.heap.size := by have := hg2.size; simpa using this
  obtain ⟨s1, s2, s3, rfl⟩ := owns_form hrow
  have e2 := owns_lenq hrow
  subst e2
  obtain ⟨x1, x2, x3, rfl⟩ := owns_form ho1
  obtain ⟨y1, y2, y3, rfl⟩ := owns_form ho2
  have HPB : Hid (w2.heap[w1.heap.size]? = some (.cells #[.slice pao p.length pcap] 25 (0, 0))) := by
    unfold Hid; rw [hg2.block _ (by simp) (by simp)]; exact heap_alloc_new w1 _
  have HG2 : Hid (w.grownBy w2 none) := grown_trans (grown_alloc HG1.out) hg2
  have HP2 : Hid (ProgAt w2 (.agg #[.slice pao p.length pcap]) p) := HP1.out.pres (pres_grown (grown_trans (grown_alloc (grown_refl _ _)) hg2))
  have HSh2 : Hid (ShpAt w2) := HSh.out.pres (pres_grown HG2.out)
  have HII := hide (owns_ints hrow)
  have HNO := hide (owns_nilOk hrow)
  have HAW : Hid (∀ g, (Value.slice s1 a.length s3).ownBlock = some g → g ≠ w2.heap.size) := fun g e => by have := owns_ltE hrow g e; omega
  have hcap : a.length ≤ s3 := by
    obtain ⟨ao', cap', e, hc, _⟩ := HII.out
    simp at e; omega
  clear hrow ho1 ho2 hsd hg2 HP1 HG1 HSh
  have q0 : (a.length : Int) ≤ s3 := by omega
  have q1 : (a.length : Int) ≤ 200 := by omega
  generalize hO : runS p a = o at *
  clear hO
  go_upto_region 5 with fail
  generalize hw3 : w2.alloc (Obj.cells #[Value.int IntKind.i64 o.kind, Value.int IntKind.i64 o.thread, Value.int IntKind.i64 o.at_, Value.slice x1 x2 x3, Value.int IntKind.i64 (o.st.vars 0), Value.int IntKind.i64 (o.st.vars 1), Value.int IntKind.i64 (o.st.vars 2), Value.int IntKind.i64 (o.st.vars 3), Value.slice y1 y2 y3] 37) = w3
  have HG23 : Hid (w2.grownBy w3 none) := by unfold Hid; rw [← hw3]; exact grown_alloc (grown_refl _ _)
  have hsz3 : w2.heap.size < w3.heap.size := by rw [← hw3]; simp
  have HRB : Hid (w3.heap[w2.heap.size]? = some (.cells (resCells o (.slice x1 x2 x3) (.slice y1 y2 y3)) 37 (0, 0))) := by
    unfold Hid; rw [← hw3]; exact heap_alloc_new w2 _
  clear hw3
  -- its first 40 numbers
  go_upto_if 44 with fail
  go_cut [10] (fun v w' => ∃ (b : List Int) (bo : Option Addr) (bc : Nat), v = .slice bo b.length bc ∧ b.length ≤ bc ∧ b.length ≤ 40 ∧ Hid (MySch w2.heap.size w3 v b w'))
  case first =>
    by_cases h40 : 40 < a.length
    · have h41 : (40 : Int) < a.length := by omega
      have h42 : (40 : Int) ≤ s3 := by omega
      have HB : Hid (IntsAt w2.heap.size w2 (.slice s1 40 s3) (a.take 40)) := HII.out.front (by omega)
      go_wp2_with fail
      go_meet
      refine ⟨a.take 40, s1, s3, by simp; omega, by simp; omega, by simp; omega, (HB.out.pres (pres_grown HG23.out)).mono HG23.out.size, fun n c e => ?_, grown_refl _ _, fun g e => HAW.out g (own_same e)⟩
      simp only [Value.slice.injEq] at e
      have := HNO.out a.length s3 (by rw [e.1])
      omega
    · have h41 : (a.length : Int) ≤ 40 := by omega
      go_wp2_with fail
      go_meet
      exact ⟨a, s1, s3, rfl, hcap, by omega, (HII.out.pres (pres_grown HG23.out)).mono HG23.out.size, HNO.out, grown_refl _ _, HAW.out⟩
  case rest =>
  clear HII HNO HAW hcap q0 q1
  obtain ⟨a', bo, bc, rfl, hbc, hb40, HY⟩ := hcut
  obtain ⟨w4, hw4⟩ : ∃ w4, w4 = wc := ⟨_, rfl⟩
  rw [← hw4] at HY ⊢
  clear hw4
  have q0 : (a'.length : Int) ≤ bc := by omega
  have q1 : (a'.length : Int) ≤ 40 := by omega
  have q2 : (0 : Int) ≤ (a'.length : Int) := by omega
  go_upto_if 49 with fail
  go_cut [10] (fun v w' => ∃ (b : List Int) (bo : Option Addr) (bc : Nat), v = .slice bo b.length bc ∧ b.length ≤ bc ∧ b.length ≤ 41 ∧ Hid (MySch w2.heap.size w3 v b w'))
  case first =>
    by_cases hodd : spoil.tmod 2 = 0
    · go_wp2_with fail
      go_meet
      exact ⟨a', bo, bc, rfl, hbc, by omega, HY.out⟩
    · have hod : (spoil.tmod 2 != 0) = true := by simpa using hodd
      have HOI : Hid (∀ b, bo = some b → ∀ j u, (ints a')[j]? = some u → w4.cell? (b.add j) = some u) := ints_of HY.out.1
      have HNO : Hid (bo = none → a'.length = 0 ∧ a'.length = 0) := fun e => by
        have := HY.out.2.1 a'.length bc (by rw [e]); omega
      have hil : (ints a').length = a'.length * 1 := by rw [ints_len]; omega
      have h63 : a'.length + 1 ≤ maxLen := by unfold maxLen; omega
      go_wp2_with (at_builtin; refine wpList_append_grows _ rfl _ _ _ rfl 3 i0 _ 1 8 Tryd.underlying22 hi0 hz0 hz1 hz2 rfl (by omega) bo a'.length a'.length (ints a') rfl HNO.out hil (fun b e j u hj => pres_grown (grown_alloc (grown_refl _ _)) _ _ (HOI.out b e j u hj)) ⟨w4.heap.size, 0, none⟩ 1 1 [.int .i64 9] rfl rfl (World.news_of_block (cs := #[.int .i64 9]) (t := 3) (fr := (0, 0)) (heap_alloc_new w4 _)) (by simp [Value.oneCell']) (by omega) h63 (by omega) ?_; intro v5 w5 hown5 hg5)
      go_meet
      obtain ⟨v1, v2, v3, rfl⟩ := owns_form hown5
      have hv2 := owns_lenq hown5
      subst hv2
      have e9 : ints a' ++ [.int .i64 9] = ints (a' ++ [9]) := by simp [ints]
      rw [e9] at hown5
      have hown6 : w5.ownsRow (w4.alloc (.cells #[.int .i64 9] 3)).heap.size 3 1 (.slice v1 (a'.length + 1) v3) (a' ++ [9]).length (ints (a' ++ [9])) := by
        have el : (a' ++ [(9 : Int)]).length = a'.length + 1 := by simp
        rw [el]; exact hown5
      have hI := owns_ints hown6
      refine ⟨a' ++ [9], v1, v3, by simp, ?_, by simp; omega, hI, owns_nilOk hown5, grown_trans HY.out.2.2.1 (grown_trans (grown_alloc (grown_refl _ _)) hg5), fun g e => (by have h1 := owns_block hown5 g e; have h2 := HY.out.2.2.1.size; simp at h1; omega)⟩
      obtain ⟨_, c', e, h1, _⟩ := hI
      simp only [Value.slice.injEq] at e
      omega
  case rest =>
  clear HY hbc hb40 q0 q1 q2
  obtain ⟨b, bo', bc', rfl, hbc, hb41, HY⟩ := hcut
  obtain ⟨w5, hw5⟩ : ∃ w5, w5 = wc := ⟨_, rfl⟩
  rw [← hw5] at HY ⊢
  clear hw5
  have HG5 : Hid (w2.grownBy w5 none) := grown_trans HG23.out HY.out.2.2.1
  have hrb5 : w5.heap[w2.heap.size]? = some (.cells (resCells o (.slice x1 x2 x3) (.slice y1 y2 y3)) 37 (0, 0)) := by
    rw [HY.out.2.2.1.block _ hsz3 (by simp)]; exact HRB.out
  have HRB5 := hide hrb5
  have hpb5 : w5.cell? ⟨w1.heap.size, 0, none⟩ = some (.slice pao p.length pcap) := by
    rw [World.cell?_of_block (HG5.out.block _ (by simp; omega) (by simp))]
    simp [World.cell?, HPB.out]
  have hb5 : b.length ≤ 500 := by omega
  have hsz5 : w2.heap.size < w5.heap.size := by have := HY.out.2.2.1.size; omega
  clear hrb5
  go_wp2_with fail
  refine (replay_m p b _ _ w5 (HSh2.out.pres (pres_grown HG5.out)) (HP2.out.pres (pres_grown HG5.out)) HY.out.1).mono ?_
  rintro e w6 ⟨hg6, h6⟩
  rcases h6 with ⟨_, rv6, rfl, sx, gx, rfl, ho6, hp6⟩ | ⟨h6, _⟩
  case inr => exact absurd (checkRun_ok HVP.out hb5) h6
  obtain ⟨z1, z2, z3, rfl⟩ := owns_form ho6
  obtain ⟨v1, v2, v3, rfl⟩ := owns_form hp6
  clear ho6 hp6
  have hrb6 : w6.heap[w2.heap.size]? = some (.cells (resCells o (.slice x1 x2 x3) (.slice y1 y2 y3)) 37 (0, 0)) := by
    rw [hg6.block _ hsz5 (by simp)]; exact HRB5.out
  have HG6 : Hid (w5.grownBy w6 none) := hg6
  obtain ⟨r0, r1, r2, r3, r4, r5, r6, r7, r8, rf⟩ := nine_cells hrb6
  have f0 := rf 0
  have f1 := rf 1
  have f2 := rf 2
  have f3 := rf 3
  have f4 := rf 4
  have f5 := rf 5
  have f6 := rf 6
  have f7 := rf 7
  have f8 := rf 8
  have HRB6 := hide hrb6
  have HV : Hid (likeV (runS p b) (runS p b) = true) := likeV_refl _
  have HALL := hide (short_all p b 1099511627776 (pickN fuel 50).toNat)
  generalize hO6 : runS p b = o6 at *
  have HO6 := hide hO6
  clear hO6
  clear hg6 hrb6 hpb5 rf
  go_upto_region 10 with fail
  generalize hw7 : ((((((((w6.setCell ⟨w2.heap.size, 0, none⟩ (Value.int .i64 o6.kind)).setCell ⟨w2.heap.size, 1, none⟩ (.int .i64 o6.thread)).setCell ⟨w2.heap.size, 2, none⟩ (.int .i64 o6.at_)).setCell ⟨w2.heap.size, 3, none⟩ (.slice z1 z2 z3)).setCell ⟨w2.heap.size, 4, none⟩ (.int .i64 (o6.st.vars 0))).setCell ⟨w2.heap.size, 5, none⟩ (.int .i64 (o6.st.vars 1))).setCell ⟨w2.heap.size, 6, none⟩ (.int .i64 (o6.st.vars 2))).setCell ⟨w2.heap.size, 7, none⟩ (.int .i64 (o6.st.vars 3))).setCell ⟨w2.heap.size, 8, none⟩ (.slice v1 v2 v3) = w7
  have HRB7 : Hid (w7.heap[w2.heap.size]? = some (.cells (resCells o6 (.slice z1 z2 z3) (.slice v1 v2 v3)) 37 (0, 0))) := by
    unfold Hid; rw [← hw7]; exact set9 HRB6.out
  have HG7 : Hid (w2.grownBy w7 none) := by
    unfold Hid; rw [← hw7]
    iterate 9 refine grown_setNew ?_ (Nat.le_refl _)
    exact grown_trans HG5.out HG6.out
  have HI7 : Hid (IntsAt w7.heap.size w7 (.slice bo' b.length bc') b) := by
    have h5 : IntsAt w6.heap.size w6 (.slice bo' b.length bc') b := (HY.out.1.pres (pres_grown HG6.out)).mono HG6.out.size
    have hs : w7.heap.size = w6.heap.size := by rw [← hw7]; simp
    unfold Hid; rw [hs, ← hw7]
    iterate 9 refine IntsAt.setAway ?_ HY.out.2.2.2
    exact h5
  have HN7 : Hid (nilOk (.slice bo' b.length bc')) := HY.out.2.1
  have hsz7 : w2.heap.size < w7.heap.size := by have := HG6.out.size; rw [← hw7]; simp; omega
  clear hw7 r0 r1 r2 r3 r4 r5 r6 r7 r8 f0 f1 f2 f3 f4 f5 f6 f7 f8 HRB6 HRB5 HY HG6 HG5 HRB HG23
  have HPC : Hid (∀ u, w7.grownBy u none → u.cell? ⟨w1.heap.size, 0, none⟩ = some (.slice pao p.length pcap)) := fun u hu => by
    rw [World.cell?_of_block ((grown_trans HG7.out hu).block _ (by simp; omega) (by simp))]
    simp [World.cell?, HPB.out]
  have HSH7 : Hid (∀ u, w7.grownBy u none → ShpAt u ∧ ProgAt u (.agg #[.slice pao p.length pcap]) p ∧ IntsAt u.heap.size u (.slice bo' b.length bc') b) := fun u hu =>
    ⟨HSh2.out.pres (pres_grown (grown_trans HG7.out hu)), HP2.out.pres (pres_grown (grown_trans HG7.out hu)), (HI7.out.pres (pres_grown hu)).mono hu.size⟩
  have c7 := HPC.out w7 (grown_refl _ _)
  have HCK : Hid (checkRunN p b = 0) := checkRun_ok HVP.out hb5
  -- the pure part
  obtain ⟨pk, hpk⟩ := Int.eq_ofNat_of_zero_le (pickN_range fuel 50 (by omega)).1
  have hpk50 : pk < 50 := by have := (pickN_range fuel 50 (by omega)).2; omega
  have HPK := hide (pick_m fuel 50 (by omega) (by omega) hfu.1 hfu.2)
  rw [hpk] at HPK HALL
  clear hpk
  have HAL := hide (HALL.out (by have : b.length * (b.length + 1) ≤ 41 * 42 := Nat.mul_le_mul hb41 (by omega); omega) (by simp; omega))
  clear HALL
  simp only [Int.toNat_natCast] at HAL
  have HSO : Hid (Calls Tryd.prog 28 #[.agg #[.slice pao p.length pcap], .slice bo' b.length bc', .int .i64 1099511627776] w7 (Shortened p b 1099511627776 w7)) := by
    obtain ⟨k1, k2, k3⟩ := HSH7.out w7 (grown_refl _ _)
    exact shorten_m p b _ _ _ w7 k1 k2 k3 HN7.out (by omega)
  have HSF : Hid (∀ u, w7.grownBy u none → Calls Tryd.prog 28 #[.agg #[.slice pao p.length pcap], .slice bo' b.length bc', .int .i64 (pk : Int)] u (Shortened p b (pk : Int) u)) := fun u hu => by
    obtain ⟨k1, k2, k3⟩ := HSH7.out u hu
    exact shorten_m p b _ _ _ u k1 k2 k3 HN7.out (by omega)
  go_wp2_with fail
  refine HSO.out.mono ?_
  clear HSO
  rintro e w8 ⟨hg8, h8⟩
  rcases h8 with ⟨_, _, sv8, rfl, hown8⟩ | ⟨_, h8, _⟩ | ⟨h8, _⟩
  case inr.inl => omega
  case inr.inr => exact absurd HCK.out h8
  have e40 : (1099511627776 : Int).toNat = 1099511627776 := rfl
  rw [e40] at hown8 ⊢
  clear e40
  obtain ⟨l1, l2, l3, rfl⟩ := owns_form hown8
  have hl2 := owns_lenq hown8
  subst hl2
  have HO8 := hide hown8
  have HG8 := hide hg8
  clear hown8 hg8 c7
  obtain ⟨SL, hSL⟩ : ∃ SL, SL = shortS p b 1099511627776 := ⟨_, rfl⟩
  rw [← hSL] at HO8 HAL ⊢
  clear hSL
  obtain ⟨L, N⟩ := SL
  obtain ⟨SM, hSM⟩ : ∃ SM, SM = shortS p b pk := ⟨_, rfl⟩
  rw [← hSM] at HAL
  have HSM := hide hSM
  clear hSM
  obtain ⟨M, Kn⟩ := SM
  simp only at HO8 HAL ⊢
  obtain ⟨al1, al2, al3, al4, al5, al6, al7, al8⟩ := HAL.out
  have HL6 := hide al6
  have HL7 := hide al7
  have HL8 := hide al8
  clear HAL al6 al7 al8
  have p8 := HPC.out w8 HG8.out
  go_wp2_with fail
  refine wp_region_head (fun u => u.cell? ⟨w1.heap.size, 0, none⟩ = some (.slice pao p.length pcap)) 11 (by kernel_rfl) (by kernel_rfl) p8 ?_
  intro hHeld
  refine wpHead_take (i := 0) (v := ?vva0) rfl (by kernel_rfl) (fun _ _ _ h => h) (Or.inl ⟨by rfl, ?hya0⟩) hHeld ?resta0
  case hya0 => (intro u hu; go_simp; try with_reducible rfl)
  simp only [Act.put, List.setIfInBounds_toArray]
  refine wpHead_take (i := 1) (v := ?vva1) rfl (by kernel_rfl) (fun _ _ _ h => h) (Or.inl ⟨by rfl, ?hya1⟩) hHeld ?resta1
  case hya1 => (intro u hu; go_simp; try with_reducible rfl)
  simp only [Act.put]
  refine wpHead_take (i := 2) (v := ?vva2) rfl (by kernel_rfl) (fun _ _ _ h => h) (Or.inl ⟨by rfl, ?hya2⟩) hHeld ?resta2
  case hya2 => (intro u hu; go_simp; try with_reducible rfl)
  simp only [Act.put]
  refine wpHead_alone (i := 3) rfl (by kernel_rfl) (by kernel_rfl) (by rfl) ?_
  intro K3 hK3
  have HK3 := hide hK3
  clear hK3
  go_simp
  refine (HPK.out _).mono ?_
  rintro e w9 ⟨rfl, hw9⟩
  obtain rfl := hw9.symm
  refine HK3.out _ _ hHeld ?_
  clear HK3
  try simp only [Act.put, List.setIfInBounds_toArray]
  refine wpHead_alone (i := 4) rfl (by kernel_rfl) (by kernel_rfl) (by rfl) ?_
  intro K4 hK4
  have HK4 := hide hK4
  clear hK4
  go_simp
  refine (HSF.out _ (grown_drew (grown_trans HG8.out (grown_refl _ _)))).mono ?_
  rintro e w9 ⟨hg9, h9⟩
  rcases h9 with ⟨_, _, sv9, rfl, hown9⟩ | ⟨_, h9, _⟩ | ⟨h9, _⟩
  case inr.inl => omega
  case inr.inr => exact absurd HCK.out h9
  simp only [Int.toNat_natCast] at hown9 ⊢
  rw [← HSM.out] at hown9 ⊢
  obtain ⟨m1, m2, m3, rfl⟩ := owns_form hown9
  have hm2 := owns_lenq hown9
  subst hm2
  simp only at hown9 ⊢
  have HO9 := hide hown9
  have HG9 : Hid (w8.grownBy w9 none) := grown_undrew hg9
  have hHeld9 : w9.cell? ⟨w1.heap.size, 0, none⟩ = some (.slice pao p.length pcap) := HPC.out w9 (grown_trans HG8.out HG9.out)
  refine HK4.out _ _ hHeld9 ?_
  clear HK4 hown9 hg9
  try simp only [Act.put, List.setIfInBounds_toArray]
  refine wpHead_take (i := 5) (v := ?vvb5) rfl (by kernel_rfl) (fun _ _ _ h => h) (Or.inl ⟨by rfl, ?hyb5⟩) hHeld9 ?restb5
  case hyb5 => (intro u hu; go_simp; try with_reducible rfl)
  simp only [Act.put, List.setIfInBounds_toArray]
  refine wpHead_take (i := 6) (v := ?vvb6) rfl (by kernel_rfl) (fun _ _ _ h => h) (Or.inl ⟨by rfl, ?hyb6⟩) hHeld9 ?restb6
  case hyb6 => (intro u hu; go_simp; try with_reducible rfl)
  simp only [Act.put]
  refine wpHead_take (i := 7) (v := ?vvb7) rfl (by kernel_rfl) (fun _ _ _ h => h) (Or.inl ⟨by rfl, ?hyb7⟩) hHeld9 ?restb7
  case hyb7 => (intro u hu; go_simp; try with_reducible rfl)
  simp only [Act.put]
  refine wpHead_take (i := 8) (v := ?vvb8) rfl (by kernel_rfl) (fun _ _ _ h => h) (Or.inl ⟨by rfl, ?hyb8⟩) hHeld9 ?restb8
  case hyb8 => (intro u hu; go_simp; try with_reducible rfl)
  simp only [Act.put]
  refine wpHead_take (i := 9) (v := ?vvb9) rfl (by kernel_rfl) (fun _ _ _ h => h) (Or.inl ⟨by rfl, ?hyb9⟩) hHeld9 ?restb9
  case hyb9 => (intro u hu; go_simp; try with_reducible rfl)
  simp only [Act.put]
  refine wpHead_take (i := 10) (v := ?vvb10) rfl (by kernel_rfl) (fun _ _ _ h => h) (Or.inl ⟨by rfl, ?hyb10⟩) hHeld9 ?restb10
  case hyb10 => (intro u hu; go_simp; try with_reducible rfl)
  simp only [Act.put]
  refine wpHead_last rfl (by kernel_rfl) (by kernel_rfl) (by rfl) ?_
  go_simp
  clear hHeld HSF HSM p8
  have HI9 : Hid (IntsAt w9.heap.size w9 (.slice l1 L.length l3) L ∧ IntsAt w9.heap.size w9 (.slice m1 M.length m3) M) :=
    ⟨((owns_ints HO8.out).pres (pres_grown HG9.out)).mono HG9.out.size, owns_ints HO9.out⟩
  have HOL : Hid (w9.ownsRow w7.heap.size 3 1 (.slice l1 L.length l3) L.length (ints L)) := owns_grown HO8.out HG9.out (fun _ e => by cases e)
  have HG79 : Hid (w7.grownBy w9 none) := grown_trans HG8.out HG9.out
  clear HO8 HO9 HG8 HG9
  have hL5 : L.length ≤ 500 := by omega
  have hM5 : M.length ≤ 500 := by omega
  have HRp : Hid (∀ (x : List Int) (v : Value) (u : World), x.length ≤ 500 → w7.grownBy u none → IntsAt u.heap.size u v x → Calls Tryd.prog 16 #[.agg #[.slice pao p.length pcap], v] u (fun e u' => u.grownBy u' none ∧ ∃ sx gx, e = .returned (.tuple #[.agg (resCells (runS p x) sx gx), .int .i64 0]) ∧ (∃ s1 s2 s3, sx = .slice s1 s2 s3) ∧ (∃ s1 s2 s3, gx = .slice s1 s2 s3))) := fun x v u hx hu hI => by
    obtain ⟨k1, k2, _⟩ := HSH7.out u hu
    refine (replay_m p x _ v u k1 k2 hI).mono ?_
    rintro e u' ⟨hg, h⟩
    refine ⟨hg, ?_⟩
    rcases h with ⟨_, rv, rfl, sx, gx, rfl, h1, h2⟩ | ⟨h, _⟩
    · exact ⟨sx, gx, rfl, owns_form h1, owns_form h2⟩
    · exact absurd (checkRun_ok HVP.out hx) h
  have p9 := hHeld9
  clear hHeld9
  go_wp2_with fail
  refine (HRp.out L _ w9 hL5 HG79.out HI9.out.1).mono ?_
  rintro e w10 ⟨hg10, sx, gx, rfl, ⟨b1, b2, b3, rfl⟩, ⟨d1, d2, d3, rfl⟩⟩
  have HG10 := hide (grown_trans HG79.out hg10)
  have HG910 := hide hg10
  have p10 := HPC.out w10 HG10.out
  clear hg10 p9
  unfold resCells
  go_wp2_with fail
  have hXb : ∀ R : Obj, (w10.alloc R).heap[w10.heap.size]? = some R := fun R => heap_alloc_new w10 R
  have HX11 := hide (hXb (.cells (resCells (runS p L) (.slice b1 b2 b3) (.slice d1 d2 d3)) 37))
  have hg11 : w10.grownBy (w10.alloc (.cells (resCells (runS p L) (.slice b1 b2 b3) (.slice d1 d2 d3)) 37)) none := grown_alloc (grown_refl _ _)
  have hs11 : w10.heap.size < (w10.alloc (.cells (resCells (runS p L) (.slice b1 b2 b3) (.slice d1 d2 d3)) 37)).heap.size := by simp
  unfold resCells at HX11 hg11 hs11
  clear hXb p10
  generalize w10.alloc (.cells #[.int .i64 (runS p L).kind, .int .i64 (runS p L).thread, .int .i64 (runS p L).at_, .slice b1 b2 b3, .int .i64 ((runS p L).st.vars 0), .int .i64 ((runS p L).st.vars 1), .int .i64 ((runS p L).st.vars 2), .int .i64 ((runS p L).st.vars 3), .slice d1 d2 d3] 37) = w11 at *
  have HG11 := hide (grown_trans HG10.out hg11)
  have HG9B := hide (grown_trans HG910.out hg11)
  refine (HRp.out M _ w11 hM5 HG11.out ((HI9.out.2.pres (pres_grown HG9B.out)).mono HG9B.out.size)).mono ?_
  rintro e w12 ⟨hg12, sx, gx, rfl, ⟨f1, f2, f3, rfl⟩, ⟨j1, j2, j3, rfl⟩⟩
  have HG12 := hide (grown_trans HG11.out hg12)
  have HG912 := hide (grown_trans HG9B.out hg12)
  have HX12 : Hid (w12.heap[w10.heap.size]? = some (.cells (resCells (runS p L) (.slice b1 b2 b3) (.slice d1 d2 d3)) 37 (0, 0))) := by
    unfold Hid; rw [hg12.block _ hs11 (by simp)]; exact HX11.out
  have hs12 : w10.heap.size < w12.heap.size := by have := hg12.size; omega
  clear HX11 hg11 hs11 hg12 HG9B HG910 HG10 HI9
  unfold resCells
  have t1 : (L.length : Int) ≤ M.length := by omega
  have t2 : (M.length : Int) ≤ b.length := by omega
  have t3 : (L.length : Int) ≤ N := by omega
  have t4 : (Kn : Int) ≤ N := by omega
  have t5 : (Kn : Int) ≤ pk := by omega
  have HAR : Hid ((L.length ≤ M.length ∧ M.length ≤ b.length ∧ L.length ≤ N ∧ Kn ≤ N ∧ Kn ≤ pk) ∧ b.length ≤ 41 ∧ b.length ≤ bc' ∧ w2.heap.size < w7.heap.size ∧ w10.heap.size < w12.heap.size ∧ L.length ≤ 500 ∧ M.length ≤ 500 ∧ pk < 50) := ⟨⟨al1, al2, al3, al4, al5⟩, hb41, hbc, hsz7, hs12, hL5, hM5, hpk50⟩
  have HS2 : Hid (w1.heap.size + 1 ≤ w2.heap.size ∧ w.heap.size ≤ w1.heap.size ∧ w2.heap.size < w3.heap.size ∧ w2.heap.size < w5.heap.size) := ⟨hsz2, hs1, hsz3, hsz5⟩
  clear al1 al2 al3 al4 al5 hb41 hbc hsz7 hs12 hL5 hM5 hpk50 hsz2 hs1 hsz3 hsz5 h200 hlen hb5 hfu
  go_upto_region 14 with fail
  generalize hw13 : w12.alloc (.cells #[.int .i64 (runS p M).kind, .int .i64 (runS p M).thread, .int .i64 (runS p M).at_, .slice f1 f2 f3, .int .i64 ((runS p M).st.vars 0), .int .i64 ((runS p M).st.vars 1), .int .i64 ((runS p M).st.vars 2), .int .i64 ((runS p M).st.vars 3), .slice j1 j2 j3] 37) = w13
  have HW13 := hide hw13
  clear hw13
  go_cut [140] (fun q w' => q = .bool false ∧ w' = w13)
  case first =>
    clear HAR HS2 HX12 HG12 HG11 HRp HL6 HL7 HL8 HSH7 HPC HOL HG79 HW13
    go_wp2_with (go_at_call 12; refine (HPK.out _).mono ?_; rintro e w9 ⟨rfl, hw9⟩; obtain rfl := hw9.symm)
    go_meet
    exact ⟨by simp; omega, rfl⟩
  case rest =>
  obtain ⟨rfl, hwc⟩ := hcut
  have hwc2 := hwc.symm
  subst hwc2
  clear t1 t2 t3 t4 t5 HPK
  have HG1213 : Hid (w12.grownBy w13 none) := by unfold Hid; rw [← HW13.out]; exact grown_alloc (grown_refl _ _)
  have hbx : w13.heap[w10.heap.size]? = some (.cells (resCells (runS p L) (.slice b1 b2 b3) (.slice d1 d2 d3)) 37 (0, 0)) := by
    rw [HG1213.out.block _ HAR.out.2.2.2.2.1 (by simp)]; exact HX12.out
  have hby : w13.heap[w12.heap.size]? = some (.cells (resCells (runS p M) (.slice f1 f2 f3) (.slice j1 j2 j3)) 37 (0, 0)) := by
    rw [← HW13.out]; exact heap_alloc_new w12 _
  have HG913 : Hid (w9.grownBy w13 none) := grown_trans HG912.out HG1213.out
  have HG13 : Hid (w7.grownBy w13 none) := grown_trans HG12.out HG1213.out
  have hbr : w13.heap[w2.heap.size]? = some (.cells (resCells o6 (.slice z1 z2 z3) (.slice v1 v2 v3)) 37 (0, 0)) := by
    rw [HG13.out.block _ HAR.out.2.2.2.1 (by simp)]; exact HRB7.out
  have HBR := hide hbr
  have HBY := hide hby
  obtain ⟨nx0, nx1, nx2, -⟩ := nine_cells hbx
  obtain ⟨nr0, nr1, nr2, -⟩ := nine_cells hbr
  have hy13 : w12.heap.size < w13.heap.size := (Array.getElem?_eq_some_iff.1 hby).1
  have hr13 : w2.heap.size < w13.heap.size := (Array.getElem?_eq_some_iff.1 hbr).1
  clear hbx hby hbr HX12 HG12 HG11 HG1213 HW13 HG79 HRB7
  have HAK : Hid (∀ (x y : Out) (u : World), likeV x y = true → Calls Tryd.prog 36 #[.agg #[.int .i64 x.kind, .int .i64 x.thread, .int .i64 x.at_], .agg #[.int .i64 y.kind, .int .i64 y.thread, .int .i64 y.at_]] u fun e w' => e = .returned (.bool true) ∧ u.grownBy w' none) := fun x y u h => by
    refine (alike_m x y u).mono ?_
    rintro e u' ⟨rfl, hg⟩
    exact ⟨by rw [h], hg⟩
  go_wp2_with fail
  refine (HAK.out _ _ _ HL6.out).mono ?_
  rintro e w14 ⟨rfl, hg14⟩
  have HG14 := hide hg14
  clear hg14 nx0 nx1 nx2 nr0 nr1 nr2
  have hby14 : w14.heap[w12.heap.size]? = some (.cells (resCells (runS p M) (.slice f1 f2 f3) (.slice j1 j2 j3)) 37 (0, 0)) := by
    rw [HG14.out.block _ hy13 (by simp)]; exact HBY.out
  have hbr14 : w14.heap[w2.heap.size]? = some (.cells (resCells o6 (.slice z1 z2 z3) (.slice v1 v2 v3)) 37 (0, 0)) := by
    rw [HG14.out.block _ hr13 (by simp)]; exact HBR.out
  have HBR14 := hide hbr14
  obtain ⟨ny0, ny1, ny2, -⟩ := nine_cells hby14
  obtain ⟨nr0, nr1, nr2, -⟩ := nine_cells hbr14
  clear hby14 hbr14
  go_wp2_with fail
  refine (HAK.out _ _ _ HL7.out).mono ?_
  rintro e w15 ⟨rfl, hg15⟩
  have HG15 : Hid (w7.grownBy w15 none) := grown_trans HG13.out (grown_trans HG14.out hg15)
  have HBR15 : Hid (w15.heap[w2.heap.size]? = some (.cells (resCells o6 (.slice z1 z2 z3) (.slice v1 v2 v3)) 37 (0, 0))) := by
    unfold Hid; rw [hg15.block _ (Array.getElem?_eq_some_iff.1 HBR14.out).1 (by simp)]; exact HBR14.out
  have HOL15 : Hid (w15.ownsRow w7.heap.size 3 1 (.slice l1 L.length l3) L.length (ints L)) := owns_grown (owns_grown HOL.out HG913.out (fun _ e => by cases e)) (grown_trans HG14.out hg15) (fun _ e => by cases e)
  clear hg15 ny0 ny1 ny2 nr0 nr1 nr2 HAK HL6 HL7 HBR HBY HBR14 HG14 HG13 HOL hy13 hr13
  go_wp2_with fail
  go_loopw [26] (fun iv w' => ∃ i : Nat, i ≤ L.length ∧ iv = .int .i64 i ∧ Hid (w15.grownBy w' none)) (fun iv _ => L.length - (intOf iv).toNat)
  case atStart => exact ⟨0, Nat.zero_le _, rfl, grown_refl _ _⟩
  case round =>
    obtain ⟨i, hi, rfl, HGr⟩ := hrel
    obtain ⟨w16, hw16⟩ : ∃ w16, w16 = wr := ⟨_, rfl⟩
    rw [← hw16] at HGr ⊢
    clear hw16
    have hL41 : L.length ≤ 41 := by have := HAR.out; omega
    by_cases hlt : i < L.length
    · have HOL16 : Hid (w16.ownsRow w7.heap.size 3 1 (.slice l1 L.length l3) L.length (ints L)) := owns_grown HOL15.out HGr.out (fun _ e => by cases e)
      obtain ⟨gg, hvv⟩ : ∃ gg, l1 = some ⟨gg, 0, none⟩ := by
        rcases HOL16.out.2 with ⟨_, e⟩ | ⟨gg, gc, _, e, _⟩
        · omega
        · simp only [Value.slice.injEq] at e; exact ⟨gg, e.1⟩
      have HI16 := hide (owns_ints HOL16.out)
      have hcp : L.length ≤ l3 := by
        obtain ⟨a, c, e, h1, _⟩ := HI16.out
        simp only [Value.slice.injEq] at e
        omega
      subst hvv
      have HG716 : Hid (w7.grownBy w16 none) := grown_trans HG15.out HGr.out
      have p16 := HPC.out w16 HG716.out
      have HNW1 : Hid (∀ ad, some (⟨gg, 0, none⟩ : Addr) = some ad → ∀ j u, (ints (L.take i))[j]? = some u → w16.cell? (ad.add j) = some u) := fun ad e j u hj => by
        have h := ints_of HI16.out ad e j u
        exact h (ints_take hj)
      have hid1 : (ints (L.take i)).length = i * 1 := by rw [ints_len]; simp; omega
      have h63a : 0 + i ≤ maxLen := by unfold maxLen; omega
      have q0 : (0 : Int) ≤ (i : Int) := by omega
      have q1 : (i : Int) < L.length := by omega
      have q2 : (i : Int) ≤ l3 := by omega
      have q3 : (L.length : Int) ≤ 41 := by omega
      have q4 : (L.length : Int) ≤ l3 := by omega
      have q5 : (i : Int) + 1 ≤ L.length := by omega
      go_upto_region 25 with (at_builtin; refine wpList_append_any rfl _ _ _ rfl w16.heap.size 3 i0 _ 1 8 Tryd.underlying22 hi0 hz0 hz1 hz2 rfl (by omega) (.slice none 0 0) 0 [] rfl ⟨rfl, Or.inl ⟨rfl, rfl⟩⟩ (some ⟨gg, 0, none⟩) i l3 (ints (L.take i)) rfl hid1 (fun e => by cases e) HNW1.out (ints_one _) h63a (by omega) (Nat.le_refl _) ?_; intro ta tn tc w17 hown17 hg17)
      simp only [Nat.zero_add, List.nil_append] at hown17
      have HO17 := hide hown17
      have HG17 : Hid (w16.grownBy w17 none) := hg17
      have HOB := hide (owns_block hown17)
      have hs167 : w16.heap.size ≤ w17.heap.size := hg17.size
      have hid2 : (ints (L.drop (i + 1))).length = (L.length - (i + 1)) * 1 := by rw [ints_len]; simp
      have h63b : i + (L.length - (i + 1)) ≤ maxLen := by unfold maxLen; omega
      clear hown17 hg17 HNW1 hid1 h63a
      go_cut [27] (fun tv w' => ∃ tb td, tv = .slice tb (leftOut L i).length td ∧ Hid (w'.ownsRow w16.heap.size 3 1 tv (leftOut L i).length (ints (leftOut L i)) ∧ w16.grownBy w' none))
      case first =>
        have HLO : Hid ((leftOut L i).length = i + (L.length - (i + 1)) ∧ ints (leftOut L i) = ints (L.take i) ++ ints (L.drop (i + 1))) := by
          refine ⟨?_, by simp [leftOut, ints]⟩
          unfold leftOut; simp; omega
        by_cases hsk : l3 - (i + 1) = 0
        · have hdr : L.drop (i + 1) = [] := List.drop_of_length_le (by omega)
          have HND : Hid (∀ ad, some (⟨gg, 0, none⟩ : Addr) = some ad → ∀ j u, (ints (L.drop (i + 1)))[j]? = some u → w17.cell? (ad.add j) = some u) := fun ad e j u hu => by rw [hdr] at hu; simp [ints] at hu
          clear hdr
          go_wp2_with (at_builtin; refine wpList_append_any rfl _ _ _ rfl w16.heap.size 3 i0 _ 1 8 Tryd.underlying22 hi0 hz0 hz1 hz2 rfl (by omega) (.slice ta tn tc) i (ints (L.take i)) rfl HO17.out (some ⟨gg, 0, none⟩) (L.length - (i + 1)) 0 (ints (L.drop (i + 1))) rfl hid2 (fun e => by cases e) HND.out (ints_one _) h63b (by omega) hs167 ?_; intro tb tm td w18 hown18 hg18)
          go_meet
          have htm := owns_lenq hown18
          subst htm
          rw [HLO.out.1, HLO.out.2]
          exact ⟨tb, td, rfl, hown18, grown_row HG17.out hg18 HOB.out⟩
        · have HND : Hid (∀ ad, some (⟨gg, i + 1, none⟩ : Addr) = some ad → ∀ j u, (ints (L.drop (i + 1)))[j]? = some u → w17.cell? (ad.add j) = some u) := by
            have hD := drop_at (HI16.out) hlt
            have e1 : L.length - (i + 1) = (L.drop (i + 1)).length := by simp
            rw [e1] at hD
            exact ints_of ((hD.pres (pres_grown HG17.out)))
          go_wp2_with (at_builtin; refine wpList_append_any rfl _ _ _ rfl w16.heap.size 3 i0 _ 1 8 Tryd.underlying22 hi0 hz0 hz1 hz2 rfl (by omega) (.slice ta tn tc) i (ints (L.take i)) rfl HO17.out (some ⟨gg, i + 1, none⟩) (L.length - (i + 1)) (l3 - (i + 1)) (ints (L.drop (i + 1))) rfl hid2 (fun e => by cases e) HND.out (ints_one _) h63b (by omega) hs167 ?_; intro tb tm td w18 hown18 hg18)
          go_meet
          have htm := owns_lenq hown18
          subst htm
          rw [HLO.out.1, HLO.out.2]
          exact ⟨tb, td, rfl, hown18, grown_row HG17.out hg18 HOB.out⟩
      case rest =>
      obtain ⟨tb, td, rfl, HC⟩ := hcut
      obtain ⟨w18, hw18⟩ : ∃ w18, w18 = wc := ⟨_, rfl⟩
      rw [← hw18] at HC ⊢
      clear hw18 hid2 h63b hs167 HOB HG17 HO17
      have HG718 : Hid (w7.grownBy w18 none) := grown_trans HG716.out HC.out.2
      have p18 := HPC.out w18 HG718.out
      have hl5 : (leftOut L i).length ≤ 500 := by have := leftOut_len hlt; omega
      clear p16
      go_wp2_with fail
      refine (HRp.out (leftOut L i) _ w18 hl5 HG718.out (owns_ints HC.out.1)).mono ?_
      rintro e w19 ⟨hg19, sx, gx, rfl, ⟨g1, g2, g3, rfl⟩, ⟨k1, k2, k3, rfl⟩⟩
      have HG1519 : Hid (w15.grownBy w19 none) := grown_trans HGr.out (grown_trans HC.out.2 hg19)
      have hbr19 : w19.heap[w2.heap.size]? = some (.cells (resCells o6 (.slice z1 z2 z3) (.slice v1 v2 v3)) 37 (0, 0)) := by
        rw [HG1519.out.block _ (Array.getElem?_eq_some_iff.1 HBR15.out).1 (by simp)]; exact HBR15.out
      have hr19 : w2.heap.size < w19.heap.size := (Array.getElem?_eq_some_iff.1 hbr19).1
      obtain ⟨nr0, nr1, nr2, -⟩ := nine_cells hbr19
      have hnr : w19.heap.size ≠ w2.heap.size := by omega
      clear hbr19 p18 hg19
      have HNA : Hid (∀ (x y : Out) (u : World), likeV x y = false → Calls Tryd.prog 36 #[.agg #[.int .i64 x.kind, .int .i64 x.thread, .int .i64 x.at_], .agg #[.int .i64 y.kind, .int .i64 y.thread, .int .i64 y.at_]] u fun e w' => e = .returned (.bool false) ∧ u.grownBy w' none) := fun x y u h => by
        refine (alike_m x y u).mono ?_
        rintro e u' ⟨rfl, hg⟩
        exact ⟨by rw [h], hg⟩
      unfold resCells
      go_wp2_with (go_at_call 36; refine (HNA.out _ _ _ (HL8.out i hlt)).mono ?_; rintro e w20 ⟨rfl, hg20⟩)
      go_roundw
      case rel => exact ⟨i + 1, by omega, by go_num, grown_trans HG1519.out (grown_trans (grown_alloc (grown_refl _ _)) hg20)⟩
      case measure => simp [intOf]; omega
    · have q1 : (L.length : Int) ≤ (i : Int) := by omega
      have q3 : (L.length : Int) ≤ 41 := by omega
      go_wp2_with fail
      go_ret
      exact ⟨rfl, grown_trans HG2.out (grown_trans HG7.out (grown_trans HG15.out HGr.out))⟩

end Go.Proofs.YtklenjmfalljgaaDoor

/- From the rows' readings to the walks' facts. -/
namespace Go.Proofs.YtklenjmfalljgaaDoor
open Go.ChangeShapes Go.WideShapes Go.ChangeAt Go.RowKit

theorem own : ownKnob Tryd.prog.godebug = none := by kernel_rfl
theorem laidOut : laidOutB Tryd.prog = true := by kernel_rfl
theorem gShp : Tryd.prog.globalNamed "rerun/machine.shapes" = some 0 := by kernel_rfl
theorem tShp : (Tryd.prog.globals[0]?).map (·.type) = some 263 := by kernel_rfl
theorem cInt : Tryd.prog.cellsOf 3 = 1 := by kernel_rfl
theorem cInts : Tryd.prog.cellsOf 22 = 1 := by kernel_rfl
theorem cShape : Tryd.prog.cellsOf 262 = 3 := by kernel_rfl
theorem cKind : Tryd.prog.cellsOf 260 = 1 := by kernel_rfl

theorem grown_below {w w' : World} (h : w.grownBy w' none) : Below w.heap.size w w' := ⟨h.os, h.tape, h.output, h.size, fun k hk => h.block k hk (by simp)⟩

theorem lt_cell {w : World} {a : Addr} {v : Value} (h : w.cell? a = some v) : a.block < w.heap.size := by
  unfold World.cell? at h
  split at h
  · rename_i hh; exact (Array.getElem?_eq_some_iff.1 hh).1
  · cases h

theorem addr_form {w : World} {a : Addr} {j : Nat} {v : Value} (h0 : a.spot = none) (h : w.cell? (a.add j) = some v) : w.cell? ⟨a.block, a.off + j, none⟩ = some v := by
  have e : a.add j = ⟨a.block, a.off + j, none⟩ := by
    obtain ⟨b, o, s⟩ := a
    simp only at h0
    subst h0
    unfold Addr.add; split <;> simp_all
  rw [e] at h; exact h

section
variable {H : Type} {enc : TypeId × Value → H} {W : World}

theorem intsAt_of {fuel : Nat} {cs : List Value} {x : DataW H × List MemPlace} (h : DataW.trod enc Tryd.prog W 0 (fun _ => true) true fuel 22 cs = some x) :
    ∃ v l, cs = [v] ∧ IntsAt W.heap.size W v l ∧ ∀ k (hk : k < l.length), isInt l[k] := by
  rcases open_ints Tryd.underlying22 Tryd.underlying3 cInt h with ⟨rfl, _⟩ | ⟨a, len, cap, zs, rfl, _, hl, _, hz, _, hc, hw⟩
  · exact ⟨_, [], rfl, ⟨none, 0, rfl, Nat.le_refl _, fun k hk => by simp at hk⟩, fun k hk => by simp at hk⟩
  · simp only [if_true] at hz
    have hlen : (zs.take len).length = len := by simp; omega
    refine ⟨_, zs.take len, rfl, ⟨some a, cap, by rw [hlen], by omega, fun k hk => ?_⟩, fun k hk => ?_⟩
    · have h0 : a.spot = none := by
        have := hc 0 (by omega)
        exact World.cell?_spot (w := W) (by simpa [Addr.add] using this)
      have hkz : k < zs.length := by omega
      have := hc k hkz
      refine ⟨a.block, a.off, ?_, lt_cell (a := ⟨a.block, a.off + k, none⟩) (addr_form h0 this), ?_⟩
      · obtain ⟨b, o, s⟩ := a
        simp only at h0; subst h0; rfl
      · rw [addr_form h0 this]
        simp [List.getD, hkz]
    · have hkz : k < zs.length := by omega
      have := hw zs[k] (List.getElem_mem hkz)
      simp only [List.getElem_take]
      simpa [Lit.wf, IntKind.min, IntKind.max, IntKind.signed, IntKind.bits, isInt] using this

theorem rawAt_of {fuel : Nat} {cs : List Value} {x : DataW H × List MemPlace} (h : DataW.trod enc Tryd.prog W 0 (fun _ => true) true fuel 41 cs = some x) :
    ∃ v l, cs = [v] ∧ RawAt W v l ∧ ∀ t (ht : t < l.length) k (hk : k < l[t].length), isInt l[t][k] := by
  rcases Deep.open_slice1 Tryd.underlying41 cInts h with ⟨rfl, _⟩ | ⟨a, len, cap, m, n, V, D, Pl, rfl, _, hl, _, hm, _, hx⟩
  · exact ⟨_, [], rfl, ⟨none, 0, rfl, fun k hk => by simp at hk⟩, fun k hk => by simp at hk⟩
  · simp only [if_true] at hm
    obtain ⟨f, hf⟩ := Deep.choose_lt (α := List Int) (n := len) (p := fun i l => IntsAt W.heap.size W (V i) l ∧ ∀ k (hk : k < l.length), isInt l[k]) (fun i hi => by
      obtain ⟨v, l, e, h1, h2⟩ := intsAt_of (hx i (by omega)).2
      simp only [List.cons.injEq, and_true] at e
      rw [← e] at h1
      exact ⟨l, h1, h2⟩)
    have hlen : ((List.range len).map f).length = len := by simp
    refine ⟨_, (List.range len).map f, rfl, ⟨some a, cap, by rw [hlen], fun t ht => ?_⟩, fun t ht => ?_⟩
    · have ht' : t < len := by omega
      have h0 : a.spot = none := by
        have := (hx 0 (by omega)).1
        exact World.cell?_spot (w := W) (by simpa [Addr.add] using this)
      refine ⟨a.block, a.off, ?_, V t, addr_form h0 (hx t (by omega)).1, ?_⟩
      · obtain ⟨b, o, s⟩ := a
        simp only at h0; subst h0; rfl
      · simpa using (hf t ht').1
    · have ht' : t < len := by omega
      simpa using (hf t ht').2

set_option maxRecDepth 100000 in
theorem ints_arg {v : Value} {d : DataW H} {ps : List MemPlace} {base : Nat} (hval : Value.okWide Tryd.prog W .any base 22 v) (h : DataW.Trod enc Tryd.prog W 0 (fun _ => true) true 22 v d ps) :
    ∃ l, IntsAt W.heap.size W v l ∧ ∀ k (hk : k < l.length), isInt l[k] := by
  obtain ⟨a, len, cap, rfl⟩ := okWide_slice Tryd.underlying22 hval
  obtain ⟨fuel, hf⟩ := h
  obtain ⟨v', l, e, h1, h2⟩ := intsAt_of hf
  simp [Value.cells] at e
  rw [← e] at h1
  exact ⟨l, h1, h2⟩
set_option maxRecDepth 100000 in
theorem raw_arg {v : Value} {d : DataW H} {ps : List MemPlace} {base : Nat} (hval : Value.okWide Tryd.prog W .any base 41 v) (h : DataW.Trod enc Tryd.prog W 0 (fun _ => true) true 41 v d ps) :
    ∃ l, RawAt W v l ∧ ∀ t (ht : t < l.length) k (hk : k < l[t].length), isInt l[t][k] := by
  obtain ⟨a, len, cap, rfl⟩ := okWide_slice Tryd.underlying41 hval
  obtain ⟨fuel, hf⟩ := h
  obtain ⟨v', l, e, h1, h2⟩ := rawAt_of hf
  simp [Value.cells] at e
  rw [← e] at h1
  exact ⟨l, h1, h2⟩
set_option maxRecDepth 100000 in
theorem int_arg {v : Value} {d : DataW H} {ps : List MemPlace} {base : Nat} (hval : Value.okWide Tryd.prog W .any base 3 v) (h : DataW.Trod enc Tryd.prog W 0 (fun _ => true) true 3 v d ps) :
    ∃ n, v = .int .i64 n ∧ isInt n := by
  obtain ⟨n, rfl, _, _, hw⟩ := open_int Tryd.underlying3 hval h
  exact ⟨n, rfl, by simpa [Lit.wf, IntKind.min, IntKind.max, IntKind.signed, IntKind.bits, isInt] using hw⟩
end

theorem shp_tab (o j : Nat) (ho : o < 12) (hj : j < 3) (l : List (DataW Unit)) (h : (DataW.agg l : DataW Unit) = (match (Rows.laid_rerun_machine_shapes : DataW Unit) with | .agg l => l[o]?.getD .nil | _ => .nil)) : l[j]? = some (.lit (.int .i64 (shp o j))) := by
  have ho' : o = 0 ∨ o = 1 ∨ o = 2 ∨ o = 3 ∨ o = 4 ∨ o = 5 ∨ o = 6 ∨ o = 7 ∨ o = 8 ∨ o = 9 ∨ o = 10 ∨ o = 11 := by omega
  have hj' : j = 0 ∨ j = 1 ∨ j = 2 := by omega
  rcases ho' with rfl | rfl | rfl | rfl | rfl | rfl | rfl | rfl | rfl | rfl | rfl | rfl <;> (simp [Rows.laid_rerun_machine_shapes] at h; subst h; rcases hj' with rfl | rfl | rfl <;> rfl)

theorem shp_one {W : World} {g0 : Nat} {t0 : TypeId} {cs0 : Array Value} {f0 : Nat} {p0 : List MemPlace} (hg0 : Tryd.prog.globalNamed "rerun/machine.shapes" = some g0) (ht0 : (Tryd.prog.globals[g0]?).map (·.type) = some t0) (hv0 : W.var? Tryd.prog "rerun/machine.shapes" = some cs0)
    (hd0 : DataW.trod (fun _ => ()) Tryd.prog W 0 (fun _ => true) false f0 t0 cs0.toList = some (Rows.laid_rerun_machine_shapes, p0)) : ShpAt W := by
  obtain rfl := Option.some.inj (gShp.symm.trans hg0)
  obtain rfl := Option.some.inj (tShp.symm.trans ht0)
  obtain ⟨xs, m1, rfl, hx1, hlen, hn12, hel⟩ := DataW.trod_array Tryd.underlying263 hd0
  simp only [Prod.mk.injEq] at hx1
  intro o j ho hj
  have hox : o < xs.length := by omega
  have h1 := hel o ho
  rw [cShape, List.getElem?_eq_getElem hox] at h1
  obtain ⟨ys, m2, rfl, hy1, hylen, hn3, hfe⟩ := DataW.trod_struct Tryd.underlying262 h1
  have hdo : (DataW.agg (ys.map (·.1)) : DataW Unit) = xs[o].1 := by rw [hy1]
  have hxo : (xs.map (·.1))[o]? = some xs[o].1 := by simp [hox]
  have hdat : (DataW.agg (ys.map (·.1)) : DataW Unit) = (match (Rows.laid_rerun_machine_shapes : DataW Unit) with | .agg l => l[o]?.getD .nil | _ => .nil) := by
    rw [hdo, hx1.1]; simp [hox]
  have hyj := shp_tab o j ho hj _ hdat
  have hjl : j < ys.length := by rw [hn3]; simpa using hj
  have hf : DataW.trod (fun _ => ()) Tryd.prog W 0 (fun _ => true) false m2 260 ((((cs0.toList.drop (o * 3)).take 3).drop j).take 1) = some ys[j] := by
    have hj' : j = 0 ∨ j = 1 ∨ j = 2 := by omega
    rcases hj' with rfl | rfl | rfl
    · have := hfe 0 _ rfl; rw [List.getElem?_eq_getElem hjl] at this; simpa [cKind] using this
    · have := hfe 1 _ rfl; rw [List.getElem?_eq_getElem hjl] at this; simpa [cKind] using this
    · have := hfe 2 _ rfl; rw [List.getElem?_eq_getElem hjl] at this; simpa [cKind] using this
  obtain ⟨k, e1, e2, _⟩ := DataW.trod_int Tryd.underlying260 hf
  have hk : k = shp o j := by
    rw [List.getElem?_map, List.getElem?_eq_getElem hjl, e2] at hyj
    simpa using hyj
  have hcell := World.var?_cell hg0 hv0 (o * 3 + j)
  have hc : cs0[o * 3 + j]? = some (.int .i64 k) := by
    have h0 := congrArg (fun l => l[0]?) e1
    simp [hj] at h0
    exact h0
  rw [hk] at hc
  rw [hcell]; exact hc

theorem shp_of_laid {W : World} (h : laidMetH Tryd.prog [("rerun/machine.shapes", Rows.laid_rerun_machine_shapes)] W) : ShpAt W := by
  rw [MakeChecks.laidMetH_plain _ _ _ (by kernel_rfl)] at h
  obtain ⟨ps, ⟨g0, t0, cs0, f0, p0, q0, hg0, ht0, hv0, hd0, _, _⟩, _, _⟩ := h
  exact shp_one hg0 ht0 hv0 hd0

end Go.Proofs.YtklenjmfalljgaaDoor

/- Proved: rerunkeep.Enough answers true and never panics, whatever its arguments are: no condition. -/
namespace Go.Proofs.YtklenjmfalljgaaDoor
open Go.ChangeShapes Go.WideShapes Go.ChangeAt Go.RowKit

set_option maxRecDepth 100000 in
/-- What the walk gives, for every argument and every world that holds the table. -/
theorem enough_contract (H : Type) (enc : TypeId × Value → H) (W : World) (base : Nat) (args : Array Value) (ds gs : List (DataW H)) (before : List MemPlace)
    (hval : ∀ (j : Nat) t v, Tryd.f11.params[j]? = some t → args[j]? = some v → Value.okWide Tryd.prog W .any base t v)
    (hW : DataW.Whole enc Tryd.prog Tryd.f11.params.toList Rows.enoughSpec.vars false W args.toList ds gs before) (hL : laidMetH Tryd.prog Rows.enoughRow.laid W) :
    Calls Tryd.prog 11 args W fun e W' => ∃ v, e = .returned v ∧ Rows.enoughSpec.post enc Tryd.prog Tryd.f11 false true false false W args v W' := by
  have hW' := hW
  obtain ⟨p, q, hA0, hV, rfl, hfz, hnd⟩ := hW
  have hA : DataW.TrodAll enc Tryd.prog W 0 (fun _ => true) true Tryd.f11.params.toList args.toList ds p := hA0
  rw [Tryd.params11] at hA hval
  obtain ⟨v0, v1, v2, v3, d0, d1, d2, d3, p0, p1, p2, p3, rfl, rfl, rfl, h0, h1, h2, h3⟩ := trodAll_four hA
  obtain ⟨rfl, rfl⟩ := trodVars_none hV
  clear hA0
  obtain ⟨raw, hr, hbr⟩ := raw_arg (hval 0 41 v0 rfl rfl) h0
  obtain ⟨ch, hc, hbc⟩ := ints_arg (hval 1 22 v1 rfl rfl) h1
  obtain ⟨n2, rfl, hi2⟩ := int_arg (hval 2 3 v2 rfl rfl) h2
  obtain ⟨n3, rfl, hi3⟩ := int_arg (hval 3 3 v3 rfl rfl) h3
  refine (enough_m raw ch n2 n3 v0 v1 W (shp_of_laid hL) hr hbr hc hbc hi2 hi3).mono fun e W' ⟨he, hg⟩ => ?_
  subst he
  have hb := grown_below hg
  have hlt : ∀ x ∈ p0 ++ p1 ++ p2 ++ p3, x.block < W.heap.size := fun x hx => by simpa using hW'.lt x (by simpa using hx)
  refine ⟨_, rfl, _, _, _, [] ++ [], p0 ++ (p1 ++ (p2 ++ p3)), [], hW', trodAll_cons_mk (shut_bool Tryd.underlying4 _) trodAll_mk0, ?_, rfl, hb.frame _, fun h => by cases h⟩
  rw [Tryd.params11]
  exact trodAll_mk4 (p := p0) (p' := p1) (p'' := p2) (p3 := p3) (Below.trod laidOut (by kernel_rfl) (of_decide_eq_true (by kernel_rfl)) h0 hb (fun x hx => hlt x (by simp [hx]))) (Below.trod laidOut (by kernel_rfl) (of_decide_eq_true (by kernel_rfl)) h1 hb (fun x hx => hlt x (by simp [hx])))
    (Below.trod laidOut (by kernel_rfl) (of_decide_eq_true (by kernel_rfl)) h2 hb (fun x hx => hlt x (by simp [hx]))) (Below.trod laidOut (by kernel_rfl) (of_decide_eq_true (by kernel_rfl)) h3 hb (fun x hx => hlt x (by simp [hx])))

theorem enough_laid (os : Os) : laidMetH Tryd.prog Rows.enoughRow.laid ((World.doorLaid Tryd.prog 400 os).forCall (fun _ _ => 0) ⟨#[], #[.slice none 0 0, .slice none 0 0, .int .i64 0, .int .i64 0], []⟩).memory :=
  laidMetH_of_parts3 (fuel := 8) (laidMet_of_run' 8 (by kernel_rfl) (by kernel_rfl)) (by kernel_rfl) (by kernel_rfl)
theorem enough_reads (os : Os) {H : Type} (enc : TypeId × Value → H) : ∃ places, DataW.whole enc Tryd.prog ((World.doorLaid Tryd.prog 400 os).forCall (fun _ _ => 0) ⟨#[], #[.slice none 0 0, .slice none 0 0, .int .i64 0, .int .i64 0], []⟩).memory Tryd.f11.params.toList Rows.enoughSpec.vars false #[Value.slice none 0 0, .slice none 0 0, .int .i64 0, .int .i64 0].toList 8 = some ([.nil, .nil, .lit (.int .i64 0), .lit (.int .i64 0)], [], places) :=
  ⟨[], by kernel_rfl⟩

set_option maxRecDepth 100000 in
theorem enough_lifted (os : Os) (started : os.Started) (H : Type) (enc : TypeId × Value → H) (F : Stop.Interp) :
    ReturnsInHanded {} Tryd.checked os 11 .any ((OpenSpec.ofChange Rows.enoughSpec).preRow enc Tryd.prog Tryd.f11 Rows.enoughRow.domain false Rows.enoughRow.laid) (((OpenSpec.ofChange Rows.enoughSpec).at F).post enc Tryd.prog Tryd.f11 false true false false) := by
  obtain ⟨places, hx⟩ := enough_reads os enc
  refine returnsInHanded_of_row (C := Tryd.checked) (s := OpenSpec.ofChange Rows.enoughSpec) own started (by kernel_rfl) Tryd.func11
    (witness_row_atRef (enc := enc) (C := Tryd.checked) false (World.doorLaid Tryd.prog 400 os) #[.slice none 0 0, .slice none 0 0, .int .i64 0, .int .i64 0] rfl (by kernel_rfl) (by kernel_rfl) (by kernel_rfl)
      (OpenSpec.preRow_of_cond 8 hx (by kernel_rfl) (fun k hk => by cases hk) (by kernel_rfl) (enough_laid os))) ?_
  intro W base args ds gs before hval hW _ _ _ hL _ _
  exact enough_contract H enc W base args ds gs before hval hW hL

theorem enough_said : Rows.EnoughSaid :=
  OpenClaim.holds_of_cond 11 Tryd.f11 rfl rfl rfl rfl rfl rfl rfl ⟨rfl, rfl, rfl, rfl, rfl⟩ rfl rfl rfl rfl rfl (by kernel_rfl) Tryd.func11 (by kernel_rfl)
    (of_decide_eq_true (by kernel_rfl)) (by unfold Func.isWrapper; first | (rw [if_pos (by decide +kernel)]; kernel_rfl) | (rw [if_neg (by decide +kernel)]; exact ⟨rfl, rfl⟩))
    (fun os started H enc _ F => by rw [OpenClaim.pre_eq_preRow]; exact enough_lifted os started H enc F)

theorem enough_plain (f : FuncId) (fn : Func) (hf : Tryd.pinned.checked.prog.funcNamed "rerun/rerunkeep.Enough" = some f) (hfn : Tryd.pinned.checked.prog.funcs[f]? = some fn) :
    Rows.enoughCard.stood.looks = Tryd.pinned.checked.prog.looks [] ∧ ∀ (j : Nat) t, fn.params[j]? = some t → Tryd.pinned.checked.prog.wantsStandIn t = false := by
  obtain rfl : f = 11 := Option.some.inj ((show Tryd.prog.funcNamed "rerun/rerunkeep.Enough" = some 11 by kernel_rfl).symm.trans hf) |>.symm
  obtain rfl : fn = Tryd.f11 := (Option.some.inj (Tryd.func11.symm.trans hfn)).symm
  refine ⟨by kernel_rfl, fun j t ht => ?_⟩
  rw [Tryd.params11] at ht
  have hm : t ∈ [41, 22, 3, 3] := by simpa using Array.mem_of_getElem? ht
  have hall : ([41, 22, 3, 3].all fun u => !Tryd.prog.wantsStandIn u) = true := by kernel_rfl
  exact (show Tryd.prog.wantsStandIn t = false by simpa using List.all_eq_true.1 hall t hm)

theorem enough_card : Rows.EnoughCardSaid :=
  Claim7.holds_tied_plain_at .later [] _ _ _ _ enough_said (fun _ h => by cases h) (by kernel_rfl) (fun _ h => by cases h) enough_row_tie rfl ⟨rfl, rfl⟩ (by kernel_rfl) rfl enough_plain (by kernel_rfl)
#print axioms enough_card

end Go.Proofs.YtklenjmfalljgaaDoor
