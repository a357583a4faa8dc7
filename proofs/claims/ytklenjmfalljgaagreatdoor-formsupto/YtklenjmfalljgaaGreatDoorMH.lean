/- The texts Rdp Rfm Frt Fhe Fhf Fhg Tla Rfo Rfn PureC. -/
import Derived.Test.YtklenjmfalljgaaGreatDoorMG
import Derived.Sort.Grow
import Derived.Deep.Draws
import Derived.Test.YtklenjmfalljgaaGreatDoorSrt
import Derived.Control

/- The walk of the reference's depend. -/
namespace Go.Proofs.YtklenjmfalljgaaGreatDoor
open Go.RowKit
attribute [local go_sem] Go.World.cell?_alloc_some

/-- Do two instructions have to do with one another, as the document's answer tells it? -/
def depR (i j : Ins) : Bool :=
  if (i.op = 9 ∨ i.op = 10) ∧ (j.op = 9 ∨ j.op = 10) then i.a == j.a
  else if i.op = 3 ∧ j.op = 3 then i.a == j.a
  else if i.op = 3 ∧ j.op = 2 then i.a == j.b
  else if i.op = 2 ∧ j.op = 3 then i.b == j.a
  else false
theorem depR_clash {i j : Ins} (h1 : 0 ≤ i.a) (h2 : 0 ≤ i.b) (h3 : 0 ≤ j.a) (h4 : 0 ≤ j.b) : depR i j = clash (tou i) (tou j) := by
  unfold depR clash tou
  rw [Bool.eq_iff_iff]
  by_cases i9 : i.op = 9 ∨ i.op = 10
  · by_cases j9 : j.op = 9 ∨ j.op = 10
    · simp [i9, j9]; omega
    · have n3 : ¬ i.op = 3 := by omega
      have n2 : ¬ i.op = 2 := by omega
      by_cases j2 : j.op = 2
      · simp [i9, n3, n2, j2]
      · by_cases j3 : j.op = 3
        · simp [i9, n3, n2, j3]
        · simp [i9, n3, n2, j9, j2, j3]
  · by_cases i2 : i.op = 2
    · by_cases j9 : j.op = 9 ∨ j.op = 10
      · have m3 : ¬ j.op = 3 := by omega
        simp [i2, j9, m3]
      · by_cases j2 : j.op = 2
        · simp [i2, j2]
        · by_cases j3 : j.op = 3
          · simp [i2, j3]; omega
          · simp [i2, j9, j2, j3]
    · by_cases i3 : i.op = 3
      · by_cases j9 : j.op = 9 ∨ j.op = 10
        · have m3 : ¬ j.op = 3 := by omega
          have m2 : ¬ j.op = 2 := by omega
          simp [i3, j9, m3, m2]
        · by_cases j2 : j.op = 2
          · simp [i3, j2]; omega
          · by_cases j3 : j.op = 3
            · simp [i3, j3]; omega
            · simp [i3, j9, j2, j3]
      · simp [i9, i2, i3]

theorem four_cellsR {w : World} {g : Nat} {x0 x1 x2 x3 : Value} {t : TypeId} (h : w.heap[g]? = some (.cells #[x0, x1, x2, x3] t (0, 0))) :
    w.cell? ⟨g, 0, none⟩ = some x0 ∧ w.cell? ⟨g, 1, none⟩ = some x1 ∧ w.cell? ⟨g, 2, none⟩ = some x2 ∧ w.cell? ⟨g, 3, none⟩ = some x3 ∧ w.frozen? ⟨g, 0, none⟩ = false ∧ w.frozen? ⟨g, 1, none⟩ = false ∧ w.frozen? ⟨g, 2, none⟩ = false ∧ w.frozen? ⟨g, 3, none⟩ = false := by
  simp [World.cell?, World.frozen?, h]
theorem set4 {w : World} {g : Nat} {x0 x1 x2 x3 y0 y1 y2 y3 : Value} {t : TypeId} (h : w.heap[g]? = some (.cells #[x0, x1, x2, x3] t (0, 0))) :
    ((((w.setCell ⟨g, 0, none⟩ y0).setCell ⟨g, 1, none⟩ y1).setCell ⟨g, 2, none⟩ y2).setCell ⟨g, 3, none⟩ y3).heap[g]? = some (.cells #[y0, y1, y2, y3] t (0, 0)) := by
  have h0 := heap_setCell_same w g 0 _ t y0 h
  have h1 := heap_setCell_same _ g 1 _ t y1 h0
  have h2 := heap_setCell_same _ g 2 _ t y2 h1
  have h3 := heap_setCell_same _ g 3 _ t y3 h2
  simpa using h3

set_option maxHeartbeats 4000000 in
set_option maxRecDepth 100000 in
theorem depend_m {p : List (List Ins)} (w : World) (pv : Value) (hP : ProgAt w pv p) (_hp : p.length ≤ 4) (t1 k1 t2 k2 : Nat) (h1 : t1 < p.length) (h2 : k1 < (codeOf p t1).length) (h3 : t2 < p.length) (h4 : k2 < (codeOf p t2).length) (_hl1 : (codeOf p t1).length ≤ 16) (_hl2 : (codeOf p t2).length ≤ 16) :
    Calls Tryz.prog 83 #[pv, .agg #[.int .i64 (t1 : Int), .int .i64 (k1 : Int)], .agg #[.int .i64 (t2 : Int), .int .i64 (k2 : Int)]] w fun e w' => e = .returned (.bool (t1 == t2 || depR (insAt p t1 k1) (insAt p t2 k2))) ∧ w.grownBy w' none := by
  obtain ⟨ao, cap, rfl⟩ := hP.form
  obtain ⟨pg, po, ca, cc, cg, co, rfl, rfl, m0, m1, m2, m3, m4⟩ := ins_at hP h1 h2
  obtain ⟨pg', po', da, dc, dg, dq, he, rfl, n0, n1, n2, n3, n4⟩ := ins_at hP h3 h4
  simp only [Option.some.injEq, Addr.mk.injEq, and_true] at he
  obtain ⟨rfl, rfl⟩ := he
  have HM := hide (And.intro m0 (And.intro m1 (And.intro m2 (And.intro m3 m4))))
  have HN := hide (And.intro n0 (And.intro n1 (And.intro n2 (And.intro n3 n4))))
  clear m0 m1 m2 m3 m4 n0 n1 n2 n3 n4 hP
  generalize hcl : (codeOf p t1).length = cl at *
  generalize hdl : (codeOf p t2).length = dl at *
  generalize hix : insAt p t1 (k1 : Int) = i at *
  generalize hjx : insAt p t2 (k2 : Int) = j at *
  clear hcl hdl hix hjx
  have q1 : (t1 : Int) < p.length := by omega
  have q2 : (k1 : Int) < cl := by omega
  have q3 : (t2 : Int) < p.length := by omega
  have q4 : (k2 : Int) < dl := by omega
  have q5 : (0 : Int) ≤ (t1 : Int) := by omega
  have q6 : (0 : Int) ≤ (k1 : Int) := by omega
  have q7 : (0 : Int) ≤ (t2 : Int) := by omega
  have q8 : (0 : Int) ≤ (k2 : Int) := by omega
  have HA : Hid (∀ a b c, w.grownBy (((w.alloc a).alloc b).alloc c) none) := fun a b c => grown_alloc (grown_alloc (grown_alloc (grown_refl _ _)))
  by_cases ht : t1 = t2
  · subst ht
    go_enter Tryz.func83, Tryz.ntmps83
    go_wp2_with fail
    go_ret
    exact ⟨by simp, HA.out _ _ _⟩
  · have hti : ((t1 : Int) == (t2 : Int)) = false := by simp; omega
    have HT : Hid ((t1 == t2) = false) := by unfold Hid; simpa using ht
    clear ht
    go_enter Tryz.func83, Tryz.ntmps83
    go_upto_region 3 with fail
    obtain ⟨w3, hw3⟩ : ∃ w3, w3 = ((w.alloc (.cells #[.slice (some ⟨pg, po, none⟩) p.length cap] 24)).alloc (.cells #[.int .i64 (t1 : Int), .int .i64 (k1 : Int)] 84)).alloc (.cells #[.int .i64 (t2 : Int), .int .i64 (k2 : Int)] 84) := ⟨_, rfl⟩
    have HW3 : Hid (w.grownBy w3 none) := by unfold Hid; rw [hw3]; exact HA.out _ _ _
    have hz3 : w3.heap.size = w.heap.size + 3 := by rw [hw3]; simp
    have b0 : w3.heap[w.heap.size]? = some (.cells #[.slice (some ⟨pg, po, none⟩) p.length cap] 24 (0, 0)) := by
      rw [hw3, Below.heap_alloc _ _ _ (by simp; omega), Below.heap_alloc _ _ _ (by simp)]; exact heap_alloc_new _ _
    have b1 : w3.heap[w.heap.size + 1]? = some (.cells #[.int .i64 (t1 : Int), .int .i64 (k1 : Int)] 84 (0, 0)) := by
      rw [hw3, Below.heap_alloc _ _ _ (by simp)]
      have := heap_alloc_new (w.alloc (.cells #[.slice (some ⟨pg, po, none⟩) p.length cap] 24)) (.cells #[.int .i64 (t1 : Int), .int .i64 (k1 : Int)] 84)
      simpa using this
    have b2 : w3.heap[w.heap.size + 2]? = some (.cells #[.int .i64 (t2 : Int), .int .i64 (k2 : Int)] 84 (0, 0)) := by
      have := heap_alloc_new ((w.alloc (.cells #[.slice (some ⟨pg, po, none⟩) p.length cap] 24)).alloc (.cells #[.int .i64 (t1 : Int), .int .i64 (k1 : Int)] 84)) (.cells #[.int .i64 (t2 : Int), .int .i64 (k2 : Int)] 84)
      rw [hw3]
      simpa using this
    rw [← hw3]
    clear hw3
    have HS1 : Hid (∀ u, w3.grownBy u none → u.cell? ⟨w.heap.size + 1, 0, none⟩ = some (.int .i64 (t1 : Int)) ∧ u.cell? ⟨w.heap.size + 1, 1, none⟩ = some (.int .i64 (k1 : Int)) ∧ u.cell? ⟨w.heap.size, 0, none⟩ = some (.slice (some ⟨pg, po, none⟩) p.length cap) ∧ u.cell? ⟨pg, po + t1, none⟩ = some (.slice (some ⟨cg, co, none⟩) cl cc) ∧ u.cell? ⟨cg, co + k1 * 4, none⟩ = some (.int .i64 i.op) ∧ u.cell? ⟨cg, co + k1 * 4 + 1, none⟩ = some (.int .i64 i.a) ∧ u.cell? ⟨cg, co + k1 * 4 + 2, none⟩ = some (.int .i64 i.b) ∧ u.cell? ⟨cg, co + k1 * 4 + 3, none⟩ = some (.int .i64 i.n)) := fun u hu => by
      have up : ∀ x v, w.cell? x = some v → u.cell? x = some v := fun x v h => pres_grown (grown_trans HW3.out hu) _ _ h
      have bl : ∀ k, k < w3.heap.size → u.heap[k]? = w3.heap[k]? := fun k hk => hu.block k hk (by simp)
      refine ⟨?_, ?_, ?_, up _ _ HM.out.1, up _ _ HM.out.2.1, up _ _ HM.out.2.2.1, up _ _ HM.out.2.2.2.1, up _ _ HM.out.2.2.2.2⟩
      · simp only [World.cell?, bl _ (by omega : w.heap.size + 1 < w3.heap.size), b1]; rfl
      · simp only [World.cell?, bl _ (by omega : w.heap.size + 1 < w3.heap.size), b1]; rfl
      · simp only [World.cell?, bl _ (by omega : w.heap.size < w3.heap.size), b0]; rfl
    have HS2 : Hid (∀ u, w3.grownBy u none → u.cell? ⟨w.heap.size + 2, 0, none⟩ = some (.int .i64 (t2 : Int)) ∧ u.cell? ⟨w.heap.size + 2, 1, none⟩ = some (.int .i64 (k2 : Int)) ∧ u.cell? ⟨w.heap.size, 0, none⟩ = some (.slice (some ⟨pg, po, none⟩) p.length cap) ∧ u.cell? ⟨pg, po + t2, none⟩ = some (.slice (some ⟨dg, dq, none⟩) dl dc) ∧ u.cell? ⟨dg, dq + k2 * 4, none⟩ = some (.int .i64 j.op) ∧ u.cell? ⟨dg, dq + k2 * 4 + 1, none⟩ = some (.int .i64 j.a) ∧ u.cell? ⟨dg, dq + k2 * 4 + 2, none⟩ = some (.int .i64 j.b) ∧ u.cell? ⟨dg, dq + k2 * 4 + 3, none⟩ = some (.int .i64 j.n)) := fun u hu => by
      have up : ∀ x v, w.cell? x = some v → u.cell? x = some v := fun x v h => pres_grown (grown_trans HW3.out hu) _ _ h
      have bl : ∀ k, k < w3.heap.size → u.heap[k]? = w3.heap[k]? := fun k hk => hu.block k hk (by simp)
      refine ⟨?_, ?_, ?_, up _ _ HN.out.1, up _ _ HN.out.2.1, up _ _ HN.out.2.2.1, up _ _ HN.out.2.2.2.1, up _ _ HN.out.2.2.2.2⟩
      · simp only [World.cell?, bl _ (by omega : w.heap.size + 2 < w3.heap.size), b2]; rfl
      · simp only [World.cell?, bl _ (by omega : w.heap.size + 2 < w3.heap.size), b2]; rfl
      · simp only [World.cell?, bl _ (by omega : w.heap.size < w3.heap.size), b0]; rfl
    clear b0 b1 b2 hz3 HM HN HA
    refine wp_region_head (fun u => u.cell? ⟨w.heap.size + 1, 0, none⟩ = some (.int .i64 (t1 : Int)) ∧ u.cell? ⟨w.heap.size + 1, 1, none⟩ = some (.int .i64 (k1 : Int)) ∧ u.cell? ⟨w.heap.size, 0, none⟩ = some (.slice (some ⟨pg, po, none⟩) p.length cap) ∧ u.cell? ⟨pg, po + t1, none⟩ = some (.slice (some ⟨cg, co, none⟩) cl cc) ∧ u.cell? ⟨cg, co + k1 * 4, none⟩ = some (.int .i64 i.op) ∧ u.cell? ⟨cg, co + k1 * 4 + 1, none⟩ = some (.int .i64 i.a) ∧ u.cell? ⟨cg, co + k1 * 4 + 2, none⟩ = some (.int .i64 i.b) ∧ u.cell? ⟨cg, co + k1 * 4 + 3, none⟩ = some (.int .i64 i.n)) 11 (by kernel_rfl) (by kernel_rfl) (HS1.out w3.drew (grown_drew (grown_refl _ _))) ?_
    intro hHeld
    refine wpHead_take (i := 0) (v := ?vva0) rfl (by kernel_rfl) (fun _ _ _ h => h) (Or.inl ⟨by rfl, ?hya0⟩) hHeld ?resta0
    case hya0 => (rintro u ⟨hu0, hu1, hu2, hu3, hu4, hu5, hu6, hu7⟩; go_simp; try with_reducible rfl)
    simp only [Act.put, List.setIfInBounds_toArray]
    refine wpHead_take (i := 1) (v := ?vva1) rfl (by kernel_rfl) (fun _ _ _ h => h) (Or.inl ⟨by rfl, ?hya1⟩) hHeld ?resta1
    case hya1 => (rintro u ⟨hu0, hu1, hu2, hu3, hu4, hu5, hu6, hu7⟩; go_simp; try with_reducible rfl)
    simp only [Act.put]
    refine wpHead_take (i := 2) (v := ?vva2) rfl (by kernel_rfl) (fun _ _ _ h => h) (Or.inl ⟨by rfl, ?hya2⟩) hHeld ?resta2
    case hya2 => (rintro u ⟨hu0, hu1, hu2, hu3, hu4, hu5, hu6, hu7⟩; go_simp; try with_reducible rfl)
    simp only [Act.put]
    refine wpHead_take (i := 3) (v := ?vva3) rfl (by kernel_rfl) (fun _ _ _ h => h) (Or.inl ⟨by rfl, ?hya3⟩) hHeld ?resta3
    case hya3 => (rintro u ⟨hu0, hu1, hu2, hu3, hu4, hu5, hu6, hu7⟩; go_simp; try with_reducible rfl)
    simp only [Act.put]
    refine wpHead_take (i := 4) (v := ?vva4) rfl (by kernel_rfl) (fun _ _ _ h => h) (Or.inl ⟨by rfl, ?hya4⟩) hHeld ?resta4
    case hya4 => (rintro u ⟨hu0, hu1, hu2, hu3, hu4, hu5, hu6, hu7⟩; go_simp; try with_reducible rfl)
    simp only [Act.put]
    refine wpHead_take (i := 5) (v := ?vva5) rfl (by kernel_rfl) (fun _ _ _ h => h) (Or.inl ⟨by rfl, ?hya5⟩) hHeld ?resta5
    case hya5 => (rintro u ⟨hu0, hu1, hu2, hu3, hu4, hu5, hu6, hu7⟩; go_simp; try with_reducible rfl)
    simp only [Act.put]
    refine wpHead_take (i := 6) (v := ?vva6) rfl (by kernel_rfl) (fun _ _ _ h => h) (Or.inl ⟨by rfl, ?hya6⟩) hHeld ?resta6
    case hya6 => (rintro u ⟨hu0, hu1, hu2, hu3, hu4, hu5, hu6, hu7⟩; go_simp; try with_reducible rfl)
    simp only [Act.put]
    refine wpHead_take (i := 7) (v := ?vva7) rfl (by kernel_rfl) (fun _ _ _ h => h) (Or.inl ⟨by rfl, ?hya7⟩) hHeld ?resta7
    case hya7 => (rintro u ⟨hu0, hu1, hu2, hu3, hu4, hu5, hu6, hu7⟩; go_simp; try with_reducible rfl)
    simp only [Act.put]
    refine wpHead_take (i := 8) (v := ?vva8) rfl (by kernel_rfl) (fun _ _ _ h => h) (Or.inl ⟨by rfl, ?hya8⟩) hHeld ?resta8
    case hya8 => (rintro u ⟨hu0, hu1, hu2, hu3, hu4, hu5, hu6, hu7⟩; go_simp; try with_reducible rfl)
    simp only [Act.put]
    refine wpHead_take (i := 9) (v := ?vva9) rfl (by kernel_rfl) (fun _ _ _ h => h) (Or.inl ⟨by rfl, ?hya9⟩) hHeld ?resta9
    case hya9 => (rintro u ⟨hu0, hu1, hu2, hu3, hu4, hu5, hu6, hu7⟩; go_simp; try with_reducible rfl)
    simp only [Act.put]
    refine wpHead_alone (i := 10) rfl (by kernel_rfl) (by kernel_rfl) (by rfl) ?_
    intro Ka hKa
    have HKa := hide hKa
    clear hKa
    go_simp
    refine HKa.out _ _ (HS1.out (w3.drew.alloc (.cells #[.int .i64 0, .int .i64 0, .int .i64 0, .int .i64 0] 74)) (grown_trans (grown_refl _ _) (grown_trans (grown_drew (grown_refl _ _)) (grown_alloc (grown_refl _ _))))) ?_
    clear HKa
    try simp only [Act.put, List.setIfInBounds_toArray]
    refine wpHead_last rfl (by kernel_rfl) (by kernel_rfl) (by rfl) ?_
    go_simp
    clear hHeld
    have HYa : Hid ((w3.alloc (.cells #[.int .i64 i.op, .int .i64 i.a, .int .i64 i.b, .int .i64 i.n] 74)).drew.heap[w3.heap.size]? = some (.cells #[.int .i64 i.op, .int .i64 i.a, .int .i64 i.b, .int .i64 i.n] 74 (0, 0))) := heap_alloc_new w3 (.cells #[.int .i64 i.op, .int .i64 i.a, .int .i64 i.b, .int .i64 i.n] 74)
    have HGga : Hid (w3.grownBy (w3.alloc (.cells #[.int .i64 i.op, .int .i64 i.a, .int .i64 i.b, .int .i64 i.n] 74)).drew none) := grown_drew (grown_alloc (grown_refl _ _))
    generalize (w3.alloc (.cells #[.int .i64 i.op, .int .i64 i.a, .int .i64 i.b, .int .i64 i.n] 74)).drew = w4 at *
    go_wp2_with fail
    refine wp_region_head (fun u => u.cell? ⟨w.heap.size + 2, 0, none⟩ = some (.int .i64 (t2 : Int)) ∧ u.cell? ⟨w.heap.size + 2, 1, none⟩ = some (.int .i64 (k2 : Int)) ∧ u.cell? ⟨w.heap.size, 0, none⟩ = some (.slice (some ⟨pg, po, none⟩) p.length cap) ∧ u.cell? ⟨pg, po + t2, none⟩ = some (.slice (some ⟨dg, dq, none⟩) dl dc) ∧ u.cell? ⟨dg, dq + k2 * 4, none⟩ = some (.int .i64 j.op) ∧ u.cell? ⟨dg, dq + k2 * 4 + 1, none⟩ = some (.int .i64 j.a) ∧ u.cell? ⟨dg, dq + k2 * 4 + 2, none⟩ = some (.int .i64 j.b) ∧ u.cell? ⟨dg, dq + k2 * 4 + 3, none⟩ = some (.int .i64 j.n)) 11 (by kernel_rfl) (by kernel_rfl) (HS2.out w4.drew (grown_drew HGga.out)) ?_
    intro hHeld
    refine wpHead_take (i := 0) (v := ?vvb0) rfl (by kernel_rfl) (fun _ _ _ h => h) (Or.inl ⟨by rfl, ?hyb0⟩) hHeld ?restb0
    case hyb0 => (rintro u ⟨hu0, hu1, hu2, hu3, hu4, hu5, hu6, hu7⟩; go_simp; try with_reducible rfl)
    simp only [Act.put, List.setIfInBounds_toArray]
    refine wpHead_take (i := 1) (v := ?vvb1) rfl (by kernel_rfl) (fun _ _ _ h => h) (Or.inl ⟨by rfl, ?hyb1⟩) hHeld ?restb1
    case hyb1 => (rintro u ⟨hu0, hu1, hu2, hu3, hu4, hu5, hu6, hu7⟩; go_simp; try with_reducible rfl)
    simp only [Act.put]
    refine wpHead_take (i := 2) (v := ?vvb2) rfl (by kernel_rfl) (fun _ _ _ h => h) (Or.inl ⟨by rfl, ?hyb2⟩) hHeld ?restb2
    case hyb2 => (rintro u ⟨hu0, hu1, hu2, hu3, hu4, hu5, hu6, hu7⟩; go_simp; try with_reducible rfl)
    simp only [Act.put]
    refine wpHead_take (i := 3) (v := ?vvb3) rfl (by kernel_rfl) (fun _ _ _ h => h) (Or.inl ⟨by rfl, ?hyb3⟩) hHeld ?restb3
    case hyb3 => (rintro u ⟨hu0, hu1, hu2, hu3, hu4, hu5, hu6, hu7⟩; go_simp; try with_reducible rfl)
    simp only [Act.put]
    refine wpHead_take (i := 4) (v := ?vvb4) rfl (by kernel_rfl) (fun _ _ _ h => h) (Or.inl ⟨by rfl, ?hyb4⟩) hHeld ?restb4
    case hyb4 => (rintro u ⟨hu0, hu1, hu2, hu3, hu4, hu5, hu6, hu7⟩; go_simp; try with_reducible rfl)
    simp only [Act.put]
    refine wpHead_take (i := 5) (v := ?vvb5) rfl (by kernel_rfl) (fun _ _ _ h => h) (Or.inl ⟨by rfl, ?hyb5⟩) hHeld ?restb5
    case hyb5 => (rintro u ⟨hu0, hu1, hu2, hu3, hu4, hu5, hu6, hu7⟩; go_simp; try with_reducible rfl)
    simp only [Act.put]
    refine wpHead_take (i := 6) (v := ?vvb6) rfl (by kernel_rfl) (fun _ _ _ h => h) (Or.inl ⟨by rfl, ?hyb6⟩) hHeld ?restb6
    case hyb6 => (rintro u ⟨hu0, hu1, hu2, hu3, hu4, hu5, hu6, hu7⟩; go_simp; try with_reducible rfl)
    simp only [Act.put]
    refine wpHead_take (i := 7) (v := ?vvb7) rfl (by kernel_rfl) (fun _ _ _ h => h) (Or.inl ⟨by rfl, ?hyb7⟩) hHeld ?restb7
    case hyb7 => (rintro u ⟨hu0, hu1, hu2, hu3, hu4, hu5, hu6, hu7⟩; go_simp; try with_reducible rfl)
    simp only [Act.put]
    refine wpHead_take (i := 8) (v := ?vvb8) rfl (by kernel_rfl) (fun _ _ _ h => h) (Or.inl ⟨by rfl, ?hyb8⟩) hHeld ?restb8
    case hyb8 => (rintro u ⟨hu0, hu1, hu2, hu3, hu4, hu5, hu6, hu7⟩; go_simp; try with_reducible rfl)
    simp only [Act.put]
    refine wpHead_take (i := 9) (v := ?vvb9) rfl (by kernel_rfl) (fun _ _ _ h => h) (Or.inl ⟨by rfl, ?hyb9⟩) hHeld ?restb9
    case hyb9 => (rintro u ⟨hu0, hu1, hu2, hu3, hu4, hu5, hu6, hu7⟩; go_simp; try with_reducible rfl)
    simp only [Act.put]
    refine wpHead_alone (i := 10) rfl (by kernel_rfl) (by kernel_rfl) (by rfl) ?_
    intro Kb hKb
    have HKb := hide hKb
    clear hKb
    go_simp
    refine HKb.out _ _ (HS2.out (w4.drew.alloc (.cells #[.int .i64 0, .int .i64 0, .int .i64 0, .int .i64 0] 74)) (grown_trans HGga.out (grown_trans (grown_drew (grown_refl _ _)) (grown_alloc (grown_refl _ _))))) ?_
    clear HKb
    try simp only [Act.put, List.setIfInBounds_toArray]
    refine wpHead_last rfl (by kernel_rfl) (by kernel_rfl) (by rfl) ?_
    go_simp
    clear hHeld
    have HYb : Hid ((w4.alloc (.cells #[.int .i64 j.op, .int .i64 j.a, .int .i64 j.b, .int .i64 j.n] 74)).drew.heap[w4.heap.size]? = some (.cells #[.int .i64 j.op, .int .i64 j.a, .int .i64 j.b, .int .i64 j.n] 74 (0, 0))) := heap_alloc_new w4 (.cells #[.int .i64 j.op, .int .i64 j.a, .int .i64 j.b, .int .i64 j.n] 74)
    have HGgb : Hid (w4.grownBy (w4.alloc (.cells #[.int .i64 j.op, .int .i64 j.a, .int .i64 j.b, .int .i64 j.n] 74)).drew none) := grown_drew (grown_alloc (grown_refl _ _))
    generalize (w4.alloc (.cells #[.int .i64 j.op, .int .i64 j.a, .int .i64 j.b, .int .i64 j.n] 74)).drew = w5 at *
    have HI5 : Hid (w5.heap[w3.heap.size]? = some (.cells #[.int .i64 i.op, .int .i64 i.a, .int .i64 i.b, .int .i64 i.n] 74 (0, 0))) := by
      unfold Hid; rw [HGgb.out.block _ (Array.getElem?_eq_some_iff.1 HYa.out).1 (by simp)]; exact HYa.out
    have HG5 : Hid (w.grownBy w5 none) := grown_trans HW3.out (grown_trans HGga.out HGgb.out)
    obtain ⟨i0, i1, i2, i3, -⟩ := four_cellsR HI5.out
    obtain ⟨j0, j1, j2, j3, -⟩ := four_cellsR HYb.out
    clear HS1 HS2
    have HR : Hid ((t1 == t2 || depR i j) = depR i j) := by unfold Hid; rw [HT.out]; rfl
    go_upto_region 5 with fail
    obtain ⟨bl, hbl⟩ : ∃ bl : Bool, bl = decide ((i.op = 9 ∨ i.op = 10) ∧ (j.op = 9 ∨ j.op = 10)) := ⟨_, rfl⟩
    have HBL := hide hbl
    clear hbl
    go_cut [51] (fun q w' => q = .bool bl ∧ w' = w5)
    case first =>
      by_cases i9 : i.op = 9
      · rw [i9] at i0
        by_cases j9 : j.op = 9
        · rw [j9] at j0
          go_wp2_with fail
          go_meet
          exact ⟨by rw [HBL.out]; simp [i9, j9], rfl⟩
        · have e9 : (j.op == 9) = false := by simpa using j9
          by_cases j10 : j.op = 10
          · rw [j10] at j0
            go_wp2_with fail
            go_meet
            exact ⟨by rw [HBL.out]; simp [i9, j10], rfl⟩
          · have e10 : (j.op == 10) = false := by simpa using j10
            go_wp2_with fail
            go_meet
            exact ⟨by rw [HBL.out]; simp [j9, j10], rfl⟩
      · have d9 : (i.op == 9) = false := by simpa using i9
        by_cases i10 : i.op = 10
        · rw [i10] at i0
          clear d9
          by_cases j9 : j.op = 9
          · rw [j9] at j0
            go_wp2_with fail
            go_meet
            exact ⟨by rw [HBL.out]; simp [i10, j9], rfl⟩
          · have e9 : (j.op == 9) = false := by simpa using j9
            by_cases j10 : j.op = 10
            · rw [j10] at j0
              clear e9
              go_wp2_with fail
              go_meet
              exact ⟨by rw [HBL.out]; simp [i10, j10], rfl⟩
            · have e10 : (j.op == 10) = false := by simpa using j10
              go_wp2_with fail
              go_meet
              exact ⟨by rw [HBL.out]; simp [j9, j10], rfl⟩
        · have d10 : (i.op == 10) = false := by simpa using i10
          go_wp2_with fail
          go_meet
          exact ⟨by rw [HBL.out]; simp [i9, i10], rfl⟩
    case rest =>
    obtain ⟨rfl, hwc⟩ := hcut
    have hwc2 := hwc.symm
    subst hwc2
    cases bl with
    | true =>
      have hh : (i.op = 9 ∨ i.op = 10) ∧ (j.op = 9 ∨ j.op = 10) := by have := HBL.out.symm; simpa using this
      have HL : Hid (depR i j = (i.a == j.a)) := by unfold Hid depR; simp [hh]
      by_cases he : i.a = j.a
      · have hb : (i.a == j.a) = true := by simpa using he
        clear he
        go_wp2_with fail
        all_goals (go_ret; exact ⟨by rw [HR.out, HL.out, hb]; first | rfl | simp [*], HG5.out⟩)
      · have hb : (i.a == j.a) = false := by simpa using he
        clear he
        go_wp2_with fail
        all_goals (go_ret; exact ⟨by rw [HR.out, HL.out, hb]; first | rfl | simp [*], HG5.out⟩)
    | false =>
      have hn : ¬ ((i.op = 9 ∨ i.op = 10) ∧ (j.op = 9 ∨ j.op = 10)) := by have := HBL.out.symm; simpa using this
      by_cases i3 : i.op = 3
      · rw [i3] at i0
        by_cases j3 : j.op = 3
        · rw [j3] at j0
          have HL : Hid (depR i j = (i.a == j.a)) := by unfold Hid depR; simp [i3, j3]
          by_cases he : i.a = j.a
          · have hb : (i.a == j.a) = true := by simpa using he
            clear he
            go_wp2_with fail
            all_goals (go_ret; exact ⟨by rw [HR.out, HL.out, hb]; first | rfl | simp [*], HG5.out⟩)
          · have hb : (i.a == j.a) = false := by simpa using he
            clear he
            go_wp2_with fail
            all_goals (go_ret; exact ⟨by rw [HR.out, HL.out, hb]; first | rfl | simp [*], HG5.out⟩)
        · have e3 : (j.op == 3) = false := by simpa using j3
          by_cases j2 : j.op = 2
          · rw [j2] at j0
            clear e3
            have HL : Hid (depR i j = (i.a == j.b)) := by unfold Hid depR; simp [i3, j2]
            by_cases he : i.a = j.b
            · have hb : (i.a == j.b) = true := by simpa using he
              clear he
              go_wp2_with fail
              all_goals (go_ret; exact ⟨by rw [HR.out, HL.out, hb]; first | rfl | simp [*], HG5.out⟩)
            · have hb : (i.a == j.b) = false := by simpa using he
              clear he
              go_wp2_with fail
              all_goals (go_ret; exact ⟨by rw [HR.out, HL.out, hb]; first | rfl | simp [*], HG5.out⟩)
          · have e2 : (j.op == 2) = false := by simpa using j2
            have HL : Hid (depR i j = false) := by unfold Hid depR; simp [i3, j3, j2]
            go_wp2_with fail
            go_ret
            exact ⟨by rw [HR.out, HL.out]; rfl, HG5.out⟩
      · have d3 : (i.op == 3) = false := by simpa using i3
        by_cases i2' : i.op = 2
        · rw [i2'] at i0
          clear d3
          by_cases j3 : j.op = 3
          · rw [j3] at j0
            have HL : Hid (depR i j = (i.b == j.a)) := by unfold Hid depR; simp [i2', j3]
            by_cases he : i.b = j.a
            · have hb : (i.b == j.a) = true := by simpa using he
              clear he
              go_wp2_with fail
              all_goals (go_ret; exact ⟨by rw [HR.out, HL.out, hb]; first | rfl | simp [*], HG5.out⟩)
            · have hb : (i.b == j.a) = false := by simpa using he
              clear he
              go_wp2_with fail
              all_goals (go_ret; exact ⟨by rw [HR.out, HL.out, hb]; first | rfl | simp [*], HG5.out⟩)
          · have e3 : (j.op == 3) = false := by simpa using j3
            have HL : Hid (depR i j = false) := by unfold Hid depR; simp [i2', j3]
            go_wp2_with fail
            go_ret
            exact ⟨by rw [HR.out, HL.out]; rfl, HG5.out⟩
        · have d2 : (i.op == 2) = false := by simpa using i2'
          have HL : Hid (depR i j = false) := by unfold Hid depR; rw [if_neg hn]; simp [i3, i2']
          go_wp2_with fail
          go_ret
          exact ⟨by rw [HR.out, HL.out]; rfl, HG5.out⟩

end Go.Proofs.YtklenjmfalljgaaGreatDoor

/- Layers as the document's answer reckons them, front by front (no dump is named here). -/
namespace Go.Proofs.YtklenjmfalljgaaGreatDoor

/-- The layer of x so far: behind the first k of a past. -/
theorem lay_front (d : Ev → Ev → Bool) (L : List (Ev × Nat)) (x : Ev) (k : Nat) (hk : k < L.length) : layIn d (L.take (k + 1)) x = if d L[k].1 x = true then max (layIn d (L.take k) x) (L[k].2 + 1) else layIn d (L.take k) x := by
  rw [List.take_succ_eq_append_getElem hk, layIn_append]
  have e : layIn d [L[k]] x = if d L[k].1 x = true then L[k].2 + 1 else 0 := by simp [layIn]
  rw [e]
  by_cases h : d L[k].1 x = true
  · rw [if_pos h, if_pos h]
  · rw [if_neg h, if_neg h]; omega
theorem lay_front_le (p : List (List Ins)) (xs : List Ev) (x : Ev) (k : Nat) : layIn (depE p) ((tl (depE p) [] xs).take k) x ≤ xs.length := by
  apply layIn_le
  intro q hq _
  have hq' : q ∈ tl (depE p) [] xs := List.mem_of_mem_take hq
  obtain ⟨j, hj, rfl⟩ := List.getElem_of_mem hq'
  have := lay_lt (depE p) xs [] 0 (by simp) j _ (List.getElem?_eq_getElem hj)
  rw [tl_length] at hj
  omega
/-- Steps ahead of one another: do they depend? -/
theorem dep_steps {p : List (List Ins)} {o : Out} {xs : List Ev} (h : Stood p o xs) {k i : Nat} (hki : k < i) (hi : i < xs.length) :
    depE p (xs[k]'(by omega)) xs[i] = ((decide (o.kind = 1) && decide (i + 1 = xs.length)) || ((xs[k]'(by omega)).t == xs[i].t || clash (tou (insAt p (xs[k]'(by omega)).t (xs[k]'(by omega)).k)) (tou (insAt p xs[i].t xs[i].k)))) := by
  have h1 := h.gd k (by omega)
  have h2 := h.gd i hi
  have e1 : (xs[k]'(by omega)).bad = false := by rw [h1]; simp; intro _; omega
  unfold depE
  rw [e1, h2]
  simp [Bool.or_assoc]

end Go.Proofs.YtklenjmfalljgaaGreatDoor

/- Going through all layers, threads and places, one by one (no dump is named here). -/
namespace Go.Proofs.YtklenjmfalljgaaGreatDoor

def pickT (ks : List (Nat × Nat)) (l t : Nat) : List (Nat × Nat) := ks.filter fun k => k.1 == l && k.2 == t
/-- What stands in the row ahead of layer l, thread t, place i. -/
def goAt (ks : List (Nat × Nat)) (l t i : Nat) : List (Nat × Nat) := goThrough l ks ++ ((List.range t).flatMap (pickT ks l) ++ pickT (ks.take i) l t)
theorem goAt_zero (ks : List (Nat × Nat)) : goAt ks 0 0 0 = [] := by simp [goAt, goThrough, pickT]
theorem goAt_next (ks : List (Nat × Nat)) (l t i : Nat) (hi : i < ks.length) : goAt ks l t (i + 1) = goAt ks l t i ++ (if ks[i].1 == l && ks[i].2 == t then [ks[i]] else []) := by
  unfold goAt pickT
  rw [List.take_succ_eq_append_getElem hi, List.filter_append]
  simp only [List.append_assoc, List.filter_cons, List.filter_nil]
theorem goAt_thread (ks : List (Nat × Nat)) (l t i : Nat) (hi : ks.length ≤ i) : goAt ks l t i = goAt ks l (t + 1) 0 := by
  unfold goAt
  rw [List.take_of_length_le hi, List.range_succ, List.flatMap_append]
  simp [pickT]
theorem goAt_layer (ks : List (Nat × Nat)) (l : Nat) : goAt ks l 4 0 = goAt ks (l + 1) 0 0 := by
  have e : goThrough (l + 1) ks = goThrough l ks ++ (List.range 4).flatMap (pickT ks l) := by
    unfold goThrough
    rw [List.range_succ (n := l), List.flatMap_append]
    congr 1
    rw [List.flatMap_cons, List.flatMap_nil, List.append_nil]
    rfl
  unfold goAt
  rw [e]
  simp [pickT]
theorem goAt_end (ks : List (Nat × Nat)) (n : Nat) : goAt ks n 0 0 = goThrough n ks := by simp [goAt, pickT]
theorem pickT_le (ks : List (Nat × Nat)) (l t : Nat) : (pickT ks l t).length ≤ ks.length := List.length_filter_le ..
theorem flat_le {f : Nat → List (Nat × Nat)} {m : Nat} (h : ∀ l, (f l).length ≤ m) : ∀ n, ((List.range n).flatMap f).length ≤ n * m
  | 0 => by simp
  | n + 1 => by
    rw [List.range_succ, List.flatMap_append, List.length_append]
    have h1 := flat_le h n
    have h2 := h n
    have h3 : (n + 1) * m = n * m + m := by rw [Nat.add_mul]; omega
    simp only [List.flatMap_cons, List.flatMap_nil, List.append_nil]
    omega
theorem goAt_le (ks : List (Nat × Nat)) (l t i : Nat) (hl : l ≤ 500) (ht : t ≤ 4) (hk : ks.length ≤ 500) : (goAt ks l t i).length ≤ 2000000 := by
  unfold goAt
  rw [List.length_append, List.length_append]
  have h1 : (goThrough l ks).length ≤ l * (4 * ks.length) := by
    unfold goThrough
    exact flat_le (fun _ => flat_le (fun _ => List.length_filter_le ..) 4) l
  have h2 : ((List.range t).flatMap (pickT ks l)).length ≤ t * ks.length := flat_le (fun _ => pickT_le ..) t
  have h3 : (pickT (ks.take i) l t).length ≤ ks.length := Nat.le_trans (pickT_le ..) (by simp; omega)
  have h4 : l * (4 * ks.length) ≤ 500 * (4 * 500) := Nat.mul_le_mul hl (by omega)
  have h5 : t * ks.length ≤ 4 * 500 := Nat.mul_le_mul ht hk
  omega
/-- The row of threads. -/
def thr (L : List (Nat × Nat)) : List Int := L.map fun x => (x.2 : Int)
theorem thr_next (ks : List (Nat × Nat)) (l t i : Nat) (hi : i < ks.length) : thr (goAt ks l t (i + 1)) = if ks[i].1 == l && ks[i].2 == t then thr (goAt ks l t i) ++ [(t : Int)] else thr (goAt ks l t i) := by
  rw [goAt_next ks l t i hi]
  unfold thr
  by_cases h : (ks[i].1 == l && ks[i].2 == t) = true
  · rw [if_pos h, if_pos h, List.map_append]
    simp at h
    simp [h.2]
  · rw [if_neg h, if_neg h]; simp

/-- The layers of the first i steps. -/
def labsE (p : List (List Ins)) (xs : List Ev) (i : Nat) : List Nat := (tl (depE p) [] (xs.take i)).map (·.2)
theorem labsE_len (p : List (List Ins)) (xs : List Ev) (i : Nat) (h : i ≤ xs.length) : (labsE p xs i).length = i := by unfold labsE; rw [List.length_map, tl_length]; simp; omega
theorem labsE_next (p : List (List Ins)) (xs : List Ev) (i : Nat) (h : i < xs.length) : labsE p xs (i + 1) = labsE p xs i ++ [layIn (depE p) ((tl (depE p) [] (xs.take i)).take i) xs[i]] := by
  unfold labsE
  have e : (tl (depE p) [] (xs.take i)).take i = tl (depE p) [] (xs.take i) := List.take_of_length_le (by rw [tl_length]; simp; omega)
  rw [keys_next h, List.map_append, e]
  rfl
theorem keysE_len (p : List (List Ins)) (xs : List Ev) : (keysE p xs).length = xs.length := by unfold keysE; rw [List.length_map, tl_length]
theorem keys_at (p : List (List Ins)) (xs : List Ev) (i : Nat) (h : i < xs.length) : (keysE p xs)[i]'(by rw [keysE_len]; exact h) = ((labsE p xs xs.length)[i]'(by rw [labsE_len _ _ _ (Nat.le_refl _)]; exact h), xs[i].t) := by
  have hL : i < (tl (depE p) [] xs).length := by rw [tl_length]; exact h
  have e2 : ((tl (depE p) [] xs)[i]'hL).1 = xs[i] := by
    have h1 := tl_fst (depE p) [] xs
    have h2 : ((tl (depE p) [] xs).map (·.1))[i]'(by rw [h1]; exact h) = xs[i] := by congr 1
    simpa using h2
  simp [keysE, labsE, keyE, e2]
theorem labs_le (p : List (List Ins)) (xs : List Ev) (i : Nat) (h : i < xs.length) : (labsE p xs xs.length)[i]'(by rw [labsE_len _ _ _ (Nat.le_refl _)]; exact h) ≤ xs.length := by
  have hL : i < (tl (depE p) [] xs).length := by rw [tl_length]; exact h
  have := lay_lt (depE p) xs [] 0 (by simp) i _ (List.getElem?_eq_getElem hL)
  simp [labsE]; omega

end Go.Proofs.YtklenjmfalljgaaGreatDoor

/- The walks of cmp.Compare, cmp.Or and compare. -/
namespace Go.Proofs.YtklenjmfalljgaaGreatDoor
open Go.RowKit
attribute [local go_sem] Go.World.cell?_alloc_some

theorem three_laid (W : World) (a b c : Obj) : ((W.alloc a).alloc b).drew.alloc c = Sort.grow (W.drewN 1) #[a, b, c] := by
  have d : ∀ (w : World) os, (Sort.grow w os).drew = Sort.grow w.drew os := fun _ _ => rfl
  rw [Sort.alloc_eq_grow W a, Sort.alloc_eq_grow _ b, Sort.grow_grow, d, Sort.alloc_eq_grow _ c, Sort.grow_grow]
  rfl
def cmpI (x y : Int) : Int := if x < y then -1 else if y < x then 1 else 0
def orI (x y : Int) : Int := if x = 0 then y else x
def cmpP (x y : Int × Int) : Int := orI (cmpI x.1 y.1) (cmpI x.2 y.2)

theorem isNaN_m (x : Int) (w : World) : Calls Tryz.prog 153 #[.int .i64 x] w fun e w' => e = .returned (.bool false) ∧ w' = w := by
  go_enter Tryz.func153, Tryz.ntmps153
  go_wp2
  go_ret
  exact ⟨rfl, rfl⟩

set_option maxHeartbeats 1000000 in
theorem cmpCompare_m (x y : Int) (w : World) : Calls Tryz.prog 113 #[.int .i64 x, .int .i64 y] w fun e w' => e = .returned (.int .i64 (cmpI x y)) ∧ w' = w := by
  by_cases h1 : x < y
  · have HE : Hid (cmpI x y = -1) := by unfold Hid cmpI; simp [h1]
    go_enter Tryz.func113, Tryz.ntmps113
    go_wp2_with (go_at_call 153; refine (isNaN_m _ _).mono ?_; rintro e w' ⟨rfl, rfl⟩)
    go_ret
    exact ⟨by rw [HE.out]; rfl, rfl⟩
  · by_cases h2 : y < x
    · have HE : Hid (cmpI x y = 1) := by unfold Hid cmpI; simp [h1, h2]
      go_enter Tryz.func113, Tryz.ntmps113
      go_wp2_with (go_at_call 153; refine (isNaN_m _ _).mono ?_; rintro e w' ⟨rfl, rfl⟩)
      go_ret
      exact ⟨by rw [HE.out]; rfl, rfl⟩
    · have HE : Hid (cmpI x y = 0) := by unfold Hid cmpI; simp [h1, h2]
      have h3 : x ≤ y := by omega
      have h4 : y ≤ x := by omega
      go_enter Tryz.func113, Tryz.ntmps113
      go_wp2_with (go_at_call 153; refine (isNaN_m _ _).mono ?_; rintro e w' ⟨rfl, rfl⟩)
      go_ret
      exact ⟨by rw [HE.out]; rfl, rfl⟩

set_option maxHeartbeats 1000000 in
theorem cmpOr_m (x y : Int) (g : Nat) (w : World) (h0 : w.cell? ⟨g, 0, none⟩ = some (.int .i64 x)) (h1 : w.cell? ⟨g, 1, none⟩ = some (.int .i64 y)) :
    Calls Tryz.prog 112 #[.slice (some ⟨g, 0, none⟩) 2 2] w fun e w' => e = .returned (.int .i64 (orI x y)) ∧ w' = w := by
  have HA := hide h0
  have HB := hide h1
  go_enter Tryz.func112, Tryz.ntmps112
  go_wp2_with fail
  go_loopw [8] (fun i w' => ∃ k : Nat, k ≤ 2 ∧ i = .int .i64 k ∧ Hid (w' = w) ∧ Hid ((0 < k → x = 0) ∧ (1 < k → y = 0))) (fun i _ => 2 - (intOf i).toNat)
  case atStart => exact ⟨0, by omega, rfl, rfl, by omega, by omega⟩
  case round =>
    obtain ⟨k, hk, rfl, HW, HZ⟩ := hrel
    obtain rfl := HW.out.symm
    clear HW
    rcases (by omega : k = 0 ∨ k = 1 ∨ k = 2) with rfl | rfl | rfl
    · by_cases hx : x = 0
      · subst hx
        go_wp2_with fail
        go_roundw
        case rel => exact ⟨1, by omega, by go_num, (by first | exact trivial | rfl), by unfold Hid; simp⟩
        case measure => simp [intOf]
      · have hb : (x != 0) = true := by simpa using hx
        have HE : Hid (orI x y = x) := by unfold Hid orI; rw [if_neg hx]
        clear hx
        go_wp2_with fail
        go_ret
        exact ⟨by rw [HE.out]; rfl, rfl⟩
    · have HE : Hid (orI x y = y) := by unfold Hid orI; rw [if_pos (HZ.out.1 (by omega))]
      by_cases hy : y = 0
      · subst hy
        have HX := hide (HZ.out.1 (by omega))
        go_wp2_with fail
        go_roundw
        case rel => exact ⟨2, by omega, by go_num, (by first | exact trivial | rfl), by unfold Hid; simp [HX.out]⟩
        case measure => simp [intOf]
      · have hb : (y != 0) = true := by simpa using hy
        clear hy
        go_wp2_with fail
        go_ret
        exact ⟨by rw [HE.out]; rfl, rfl⟩
    · have HE : Hid (orI x y = 0) := by unfold Hid orI; rw [if_pos (HZ.out.1 (by omega))]; exact HZ.out.2 (by omega)
      go_wp2_with fail
      go_ret
      exact ⟨by rw [HE.out]; rfl, rfl⟩

set_option maxHeartbeats 2000000 in
set_option maxRecDepth 100000 in
/-- compare, in whatever world: three blocks are laid. -/
theorem compare_m (x y : Int × Int) (W : World) :
    Calls Tryz.prog 76 #[.agg #[.int .i64 x.1, .int .i64 x.2], .agg #[.int .i64 y.1, .int .i64 y.2]] W fun e w' => e = .returned (.int .i64 (cmpP x y)) ∧ ∃ q os', w' = Sort.grow (W.drewN q) os' := by
  go_enter Tryz.func76, Tryz.ntmps76
  go_upto_region 1 with fail
  have HA := hide (heap_alloc_new W (.cells #[.int .i64 x.1, .int .i64 x.2] 161))
  have HB := hide (heap_alloc_new (W.alloc (.cells #[.int .i64 x.1, .int .i64 x.2] 161)) (.cells #[.int .i64 y.1, .int .i64 y.2] 161))
  have hsz : (W.alloc (.cells #[.int .i64 x.1, .int .i64 x.2] 161)).heap.size = W.heap.size + 1 := by simp
  rw [hsz] at HB
  have HA2 : Hid (((W.alloc (.cells #[.int .i64 x.1, .int .i64 x.2] 161)).alloc (.cells #[.int .i64 y.1, .int .i64 y.2] 161)).heap[W.heap.size]? = some (.cells #[.int .i64 x.1, .int .i64 x.2] 161 (0, 0))) := by
    unfold Hid; rw [Below.heap_alloc _ _ _ (by simp)]; exact HA.out
  have HEND : Hid (∀ c, ∃ q os', ((((W.alloc (.cells #[.int .i64 x.1, .int .i64 x.2] 161)).alloc (.cells #[.int .i64 y.1, .int .i64 y.2] 161)).drew).alloc c) = Sort.grow (W.drewN q) os') := fun c => by
    exact ⟨1, _, three_laid _ _ _ _⟩
  have hHeld0 : ((W.alloc (.cells #[.int .i64 x.1, .int .i64 x.2] 161)).alloc (.cells #[.int .i64 y.1, .int .i64 y.2] 161)).drew.cell? ⟨W.heap.size, 0, none⟩ = some (.int .i64 x.1) ∧ ((W.alloc (.cells #[.int .i64 x.1, .int .i64 x.2] 161)).alloc (.cells #[.int .i64 y.1, .int .i64 y.2] 161)).drew.cell? ⟨W.heap.size, 1, none⟩ = some (.int .i64 x.2) ∧ ((W.alloc (.cells #[.int .i64 x.1, .int .i64 x.2] 161)).alloc (.cells #[.int .i64 y.1, .int .i64 y.2] 161)).drew.cell? ⟨W.heap.size + 1, 0, none⟩ = some (.int .i64 y.1) ∧ ((W.alloc (.cells #[.int .i64 x.1, .int .i64 x.2] 161)).alloc (.cells #[.int .i64 y.1, .int .i64 y.2] 161)).drew.cell? ⟨W.heap.size + 1, 1, none⟩ = some (.int .i64 y.2) := by
    have ha : ((W.alloc (.cells #[.int .i64 x.1, .int .i64 x.2] 161)).alloc (.cells #[.int .i64 y.1, .int .i64 y.2] 161)).drew.heap[W.heap.size]? = some (.cells #[.int .i64 x.1, .int .i64 x.2] 161 (0, 0)) := HA2.out
    have hb : ((W.alloc (.cells #[.int .i64 x.1, .int .i64 x.2] 161)).alloc (.cells #[.int .i64 y.1, .int .i64 y.2] 161)).drew.heap[W.heap.size + 1]? = some (.cells #[.int .i64 y.1, .int .i64 y.2] 161 (0, 0)) := HB.out
    refine ⟨?_, ?_, ?_, ?_⟩
    · simp only [World.cell?, ha]; rfl
    · simp only [World.cell?, ha]; rfl
    · simp only [World.cell?, hb]; rfl
    · simp only [World.cell?, hb]; rfl
  generalize ((W.alloc (.cells #[.int .i64 x.1, .int .i64 x.2] 161)).alloc (.cells #[.int .i64 y.1, .int .i64 y.2] 161)) = w2 at *
  have HC0 : Hid ((w2.drew.alloc (.cells #[.int .i64 (cmpI x.1 y.1), .int .i64 (cmpI x.2 y.2)] 3)).cell? ⟨w2.heap.size, 0, none⟩ = some (.int .i64 (cmpI x.1 y.1))) := by
    have h := heap_alloc_new w2.drew (.cells #[.int .i64 (cmpI x.1 y.1), .int .i64 (cmpI x.2 y.2)] 3)
    unfold Hid
    have h2 : (w2.drew.alloc (.cells #[.int .i64 (cmpI x.1 y.1), .int .i64 (cmpI x.2 y.2)] 3)).heap[w2.heap.size]? = _ := h
    simp only [World.cell?, h2]; rfl
  have HC1 : Hid ((w2.drew.alloc (.cells #[.int .i64 (cmpI x.1 y.1), .int .i64 (cmpI x.2 y.2)] 3)).cell? ⟨w2.heap.size, 1, none⟩ = some (.int .i64 (cmpI x.2 y.2))) := by
    have h := heap_alloc_new w2.drew (.cells #[.int .i64 (cmpI x.1 y.1), .int .i64 (cmpI x.2 y.2)] 3)
    unfold Hid
    have h2 : (w2.drew.alloc (.cells #[.int .i64 (cmpI x.1 y.1), .int .i64 (cmpI x.2 y.2)] 3)).heap[w2.heap.size]? = _ := h
    simp only [World.cell?, h2]; rfl
  clear HA HB HA2 hsz
  refine wp_region_head (fun u => u.cell? ⟨W.heap.size, 0, none⟩ = some (.int .i64 x.1) ∧ u.cell? ⟨W.heap.size, 1, none⟩ = some (.int .i64 x.2) ∧ u.cell? ⟨W.heap.size + 1, 0, none⟩ = some (.int .i64 y.1) ∧ u.cell? ⟨W.heap.size + 1, 1, none⟩ = some (.int .i64 y.2)) 12 (by kernel_rfl) (by kernel_rfl) hHeld0 ?_
  intro hHeld
  refine wpHead_take (i := 0) (v := ?vva0) rfl (by kernel_rfl) (fun _ _ _ h => h) (Or.inl ⟨by rfl, ?hya0⟩) hHeld ?resta0
  case hya0 => (rintro u ⟨hu0, hu1, hu2, hu3⟩; go_simp; try with_reducible rfl)
  simp only [Act.put, List.setIfInBounds_toArray]
  refine wpHead_take (i := 1) (v := ?vva1) rfl (by kernel_rfl) (fun _ _ _ h => h) (Or.inl ⟨by rfl, ?hya1⟩) hHeld ?resta1
  case hya1 => (rintro u ⟨hu0, hu1, hu2, hu3⟩; go_simp; try with_reducible rfl)
  simp only [Act.put]
  refine wpHead_take (i := 2) (v := ?vva2) rfl (by kernel_rfl) (fun _ _ _ h => h) (Or.inl ⟨by rfl, ?hya2⟩) hHeld ?resta2
  case hya2 => (rintro u ⟨hu0, hu1, hu2, hu3⟩; go_simp; try with_reducible rfl)
  simp only [Act.put]
  refine wpHead_take (i := 3) (v := ?vva3) rfl (by kernel_rfl) (fun _ _ _ h => h) (Or.inl ⟨by rfl, ?hya3⟩) hHeld ?resta3
  case hya3 => (rintro u ⟨hu0, hu1, hu2, hu3⟩; go_simp; try with_reducible rfl)
  simp only [Act.put]
  refine wpHead_take (i := 5) (v := ?vva5) rfl (by kernel_rfl) (fun _ _ _ h => h) (Or.inl ⟨by rfl, ?hya5⟩) hHeld ?resta5
  case hya5 => (rintro u ⟨hu0, hu1, hu2, hu3⟩; go_simp; try with_reducible rfl)
  simp only [Act.put]
  refine wpHead_take (i := 6) (v := ?vva6) rfl (by kernel_rfl) (fun _ _ _ h => h) (Or.inl ⟨by rfl, ?hya6⟩) hHeld ?resta6
  case hya6 => (rintro u ⟨hu0, hu1, hu2, hu3⟩; go_simp; try with_reducible rfl)
  simp only [Act.put]
  refine wpHead_take (i := 7) (v := ?vva7) rfl (by kernel_rfl) (fun _ _ _ h => h) (Or.inl ⟨by rfl, ?hya7⟩) hHeld ?resta7
  case hya7 => (rintro u ⟨hu0, hu1, hu2, hu3⟩; go_simp; try with_reducible rfl)
  simp only [Act.put]
  refine wpHead_take (i := 8) (v := ?vva8) rfl (by kernel_rfl) (fun _ _ _ h => h) (Or.inl ⟨by rfl, ?hya8⟩) hHeld ?resta8
  case hya8 => (rintro u ⟨hu0, hu1, hu2, hu3⟩; go_simp; try with_reducible rfl)
  simp only [Act.put]
  refine wpHead_alone (i := 4) rfl (by kernel_rfl) (by kernel_rfl) (by rfl) ?_
  intro K4 hK4
  have HK4 := hide hK4
  clear hK4
  go_simp
  refine (cmpCompare_m x.1 y.1 _).mono ?_
  rintro e w4 ⟨rfl, hw4⟩
  obtain rfl := hw4.symm
  refine HK4.out _ _ hHeld ?_
  clear HK4
  try simp only [Act.put, List.setIfInBounds_toArray]
  refine wpHead_alone (i := 9) rfl (by kernel_rfl) (by kernel_rfl) (by rfl) ?_
  intro K9 hK9
  have HK9 := hide hK9
  clear hK9
  go_simp
  refine (cmpCompare_m x.2 y.2 _).mono ?_
  rintro e w9 ⟨rfl, hw9⟩
  obtain rfl := hw9.symm
  refine HK9.out _ _ hHeld ?_
  clear HK9
  try simp only [Act.put, List.setIfInBounds_toArray]
  refine wpHead_alone (i := 10) rfl (by kernel_rfl) (by kernel_rfl) (by rfl) ?_
  intro Kpa hKpa
  have HKpa := hide hKpa
  clear hKpa
  go_simp
  refine HKpa.out _ _ ⟨pres_grown (grown_alloc (grown_refl _ _)) _ _ hHeld.1, pres_grown (grown_alloc (grown_refl _ _)) _ _ hHeld.2.1, pres_grown (grown_alloc (grown_refl _ _)) _ _ hHeld.2.2.1, pres_grown (grown_alloc (grown_refl _ _)) _ _ hHeld.2.2.2⟩ ?_
  clear HKpa
  try simp only [Act.put, List.setIfInBounds_toArray]
  refine wpHead_alone (i := 11) rfl (by kernel_rfl) (by kernel_rfl) (by rfl) ?_
  intro Kpb hKpb
  have HKpb := hide hKpb
  clear hKpb
  go_simp
  refine (cmpOr_m (cmpI x.1 y.1) (cmpI x.2 y.2) _ _ (HC0.out) (HC1.out)).mono ?_
  rintro e wpb ⟨rfl, hwpb⟩
  obtain rfl := hwpb.symm
  refine HKpb.out _ _ ⟨pres_grown (grown_alloc (grown_refl _ _)) _ _ hHeld.1, pres_grown (grown_alloc (grown_refl _ _)) _ _ hHeld.2.1, pres_grown (grown_alloc (grown_refl _ _)) _ _ hHeld.2.2.1, pres_grown (grown_alloc (grown_refl _ _)) _ _ hHeld.2.2.2⟩ ?_
  clear HKpb
  try simp only [Act.put, List.setIfInBounds_toArray]
  refine wpHead_last rfl (by kernel_rfl) (by kernel_rfl) (by rfl) ?_
  go_simp
  go_wp2_with fail
  go_ret
  exact ⟨rfl, HEND.out _⟩

end Go.Proofs.YtklenjmfalljgaaGreatDoor

/- Sorting what place tells: slices.SortFunc by its contract. -/
namespace Go.Proofs.YtklenjmfalljgaaGreatDoor
open Go.RowKit

def encP (x : Int × Int) : List Value := [.int .i64 x.1, .int .i64 x.2]

theorem ltP (x y : Int × Int) : ltOf cmpP x y = decide (x.1 < y.1 ∨ (x.1 = y.1 ∧ x.2 < y.2)) := by
  unfold ltOf cmpP orI cmpI
  rw [Bool.eq_iff_iff]
  simp only [decide_eq_true_eq]
  repeat' split
  all_goals omega
theorem swoP : Sort.SWO (ltOf cmpP) where
  irrefl x := by rw [ltP]; simp
  trans x y z h1 h2 := by rw [ltP] at *; simp only [decide_eq_true_eq] at *; omega
  ntrans x y z h1 h2 := by rw [ltP] at *; simp only [decide_eq_false_iff_not] at *; omega

/-- What comes out of the sort is the pairs in order. -/
theorem sorted_pairs {ks : List (Nat × Nat)} {d' : Array (Int × Int)} (hp : Sort.PermIn 0 (ks.map pairI).toArray.size (ks.map pairI).toArray d') (hs : Sort.SortedIn (ltOf cmpP) 0 (ks.map pairI).toArray.size d') : d'.toList = (sortK ks).map pairI := by
  obtain ⟨h1, _, h3⟩ := hp
  have hsz : d'.size = ks.length := by rw [h1]; simp
  have hperm : d'.toList.Perm (ks.map pairI) := by
    have e1 : (d'.extract 0 (ks.map pairI).toArray.size).toList = d'.toList := by rw [Array.toList_extract]; simp [List.extract]; rw [List.take_of_length_le (by simp [hsz])]
    have e2 : ((ks.map pairI).toArray.extract 0 (ks.map pairI).toArray.size).toList = ks.map pairI := by rw [Array.toList_extract]; simp [List.extract]; rw [List.take_of_length_le (by simp)]
    rw [e1, e2] at h3; exact h3
  have hback : ∀ x ∈ d'.toList, pairI (x.1.toNat, x.2.toNat) = x := fun x hx => by
    obtain ⟨q, _, rfl⟩ := List.mem_map.1 (hperm.mem_iff.1 hx)
    simp [pairI]
  have hqs : (d'.toList.map fun x => (x.1.toNat, x.2.toNat)).map pairI = d'.toList := by
    rw [List.map_map]
    conv => rhs; rw [← List.map_id d'.toList]
    exact List.map_congr_left (fun x hx => hback x hx)
  have hqp : (d'.toList.map fun x => (x.1.toNat, x.2.toNat)).Perm ks := by
    have := hperm.map (fun x : Int × Int => (x.1.toNat, x.2.toNat))
    have e : (ks.map pairI).map (fun x : Int × Int => (x.1.toNat, x.2.toNat)) = ks := by
      rw [List.map_map]
      conv => rhs; rw [← List.map_id ks]
      exact List.map_congr_left (fun x _ => by simp [pairI])
    rw [e] at this; exact this
  have hso : (d'.toList.map fun x => (x.1.toNat, x.2.toNat)).Pairwise leP := by
    rw [List.pairwise_map, List.pairwise_iff_getElem]
    intro i j hi hj hij
    have hi' : i < d'.size := by simpa using hi
    have hj' : j < d'.size := by simpa using hj
    have := hs i j (Nat.zero_le _) hij (by simp; omega)
    rw [ltP, getElem!_pos d' i hi', getElem!_pos d' j hj'] at this
    have b1 := hback d'[i] (by simp)
    have b2 := hback d'[j] (by simp)
    simp only [decide_eq_false_iff_not] at this
    simp only [pairI, Prod.ext_iff] at b1 b2
    unfold leP
    simp only [Array.getElem_toList]
    omega
  rw [sortK_one hqp.symm hso, hqs]

theorem grown_row' {w0 w w' : World} {g : Nat} (h : w0.grownBy w none) (hg : w.grownBy w' (some g)) (hl : w0.heap.size ≤ g) : w0.grownBy w' none :=
  ⟨hg.os.trans h.os, hg.tape.trans h.tape, hg.output.trans h.output, Nat.le_trans h.size hg.size, fun k hk _ => by
    rw [hg.block k (Nat.lt_of_lt_of_le hk h.size) (by simp; omega)]; exact h.block k hk (by simp)⟩

set_option maxRecDepth 100000 in
theorem sort_m (ks : List (Nat × Nat)) (g : Nat) (w : World) (hb : w.heap[g]? = some (.cells (flatK ks).toArray 161 (0, 0))) (hn : ks.length ≤ 1000000) :
    Calls Tryz.prog 75 #[.slice (some ⟨g, 0, none⟩) ks.length ks.length, .func (.func 76) #[] #[]] w fun e w' => e = .returned (.tuple #[]) ∧ (∀ j (hj : j < (sortK ks).length), w'.cell? ⟨g, j * 2, none⟩ = some (.int .i64 ((sortK ks)[j].1 : Int)) ∧ w'.cell? ⟨g, j * 2 + 1, none⟩ = some (.int .i64 ((sortK ks)[j].2 : Int))) ∧ w.grownBy w' (some g) := by
  have hblk : g < w.heap.size := (Array.getElem?_eq_some_iff.1 hb).1
  have eg : ∀ args w, (callFunc 76 args).run Tryz.prog w = .ok (.enter 76 args) w := enters_of Tryz.func76 (by kernel_rfl) rfl
  have hsz : (ks.map pairI).toArray.size = ks.length := by simp
  have hH : Sort.HoldsK encP 2 w g 0 (ks.map pairI).toArray := by
    intro t ht
    rw [Sort.size_flatK, hsz] at ht
    rw [Sort.get_flatK _ _ _ _ (by rw [hsz]; exact ht)]
    refine ⟨?_, by simp [World.frozen?, hb]⟩
    have hj : t / 2 < (ks.map pairI).length := by simp; omega
    have hq := flatS_at (ks.map pairI) (t / 2) hj
    have e1 : ((ks.map pairI).toArray)[t / 2]! = (ks.map pairI)[t / 2] := by rw [getElem!_pos _ _ (by simpa using hj)]; simp
    rw [e1]
    simp only [World.cell?, hb]
    unfold flatK
    rcases (by omega : t % 2 = 0 ∨ t % 2 = 1) with h | h
    · have et : 0 + t = t / 2 * 2 := by omega
      rw [h, et]
      simpa [encP] using hq.1
    · have et : 0 + t = t / 2 * 2 + 1 := by omega
      rw [h, et]
      simpa [encP] using hq.2
  have hcon := AnyQ.slices_SortFunc Tryz.srt 2 Tryz.isAgg161 Tryz.sizeOf161 encP (fun _ => rfl) (fun x v hv => by simp [encP] at hv; rcases hv with rfl | rfl <;> rfl) cmpP swoP 76 #[] g 0 ks.length (ks.map pairI).toArray w eg (fun _ _ _ _ x y => compare_m x y _) hH hblk (by rw [hsz]; omega)
  change Calls Tryz.prog 75 _ _ _ at hcon
  rw [hsz] at hcon
  refine hcon.mono ?_
  rintro e w' ⟨rfl, d', n, os, hp, hs, rfl⟩
  have hd := sorted_pairs (by rw [hsz]; exact hp) (by rw [hsz]; exact hs)
  have hds : d'.size = ks.length := by have := congrArg List.length hd; simpa [(sortK_perm ks).length_eq] using this
  have hHa : Sort.HoldsK encP 2 (Sort.ahead w n) g 0 (ks.map pairI).toArray := hH
  have hH2 : Sort.HoldsK encP 2 (Sort.putRowK encP 2 (Sort.ahead w n) g 0 d') g 0 d' := Sort.holdsK_putRowK encP 2 _ _ _ _ _ hHa (by rw [hsz, hds])
  have hps : (Sort.putRowK encP 2 (Sort.ahead w n) g 0 d').heap.size = w.heap.size := by unfold Sort.putRowK; rw [Sort.size_putRow]; rfl
  refine ⟨rfl, fun j hj => ?_, ?_⟩
  · have hj2 : j < d'.size := by rw [hds, ← (sortK_perm ks).length_eq]; exact hj
    have hx : d'[j]! = pairI (sortK ks)[j] := by
      rw [getElem!_pos d' j hj2]
      have e1 : d'.toList[j]'(by simpa using hj2) = ((sortK ks).map pairI)[j]'(by simpa using hj) := by congr 1
      simpa using e1
    have up : ∀ o v, (Sort.putRowK encP 2 (Sort.ahead w n) g 0 d').cell? ⟨g, o, none⟩ = some v → (sortWorldK encP 2 w g 0 n d' os).cell? ⟨g, o, none⟩ = some v := fun o v hc => by
      unfold sortWorldK
      rw [World.cell?_of_block (w := Sort.putRowK encP 2 (Sort.ahead w n) g 0 d') (by
        show ((Sort.putRowK encP 2 (Sort.ahead w n) g 0 d').heap ++ os)[g]? = _
        rw [Array.getElem?_append_left (by rw [hps]; exact hblk)])]
      exact hc
    have k0 := (hH2 (j * 2) (by rw [Sort.size_flatK]; omega)).1
    have k1 := (hH2 (j * 2 + 1) (by rw [Sort.size_flatK]; omega)).1
    rw [Sort.get_flatK _ _ _ _ (by omega)] at k0 k1
    have d0 : j * 2 / 2 = j := by omega
    have d1 : (j * 2 + 1) / 2 = j := by omega
    have m0 : j * 2 % 2 = 0 := by omega
    have m1 : (j * 2 + 1) % 2 = 1 := by omega
    rw [d0, m0, hx] at k0
    rw [d1, m1, hx] at k1
    simp only [Nat.zero_add] at k0 k1
    exact ⟨up _ _ k0, up _ _ k1⟩
  · refine ⟨rfl, rfl, rfl, ?_, fun k hk hne => ?_⟩
    · show w.heap.size ≤ ((Sort.putRowK encP 2 (Sort.ahead w n) g 0 d').heap ++ os).size
      rw [Array.size_append, hps]; omega
    · show ((Sort.putRowK encP 2 (Sort.ahead w n) g 0 d').heap ++ os)[k]? = w.heap[k]?
      rw [Array.getElem?_append_left (by rw [hps]; exact hk)]
      show (w.heap.modify g _)[k]? = w.heap[k]?
      rw [Array.getElem?_modify, if_neg (fun e => hne (by rw [e]))]

end Go.Proofs.YtklenjmfalljgaaGreatDoor

/- The walk of layers.Form. -/
namespace Go.Proofs.YtklenjmfalljgaaGreatDoor
open Go.RowKit
attribute [local go_sem] Go.World.cell?_alloc_some

theorem info_intF : ((Tryz.prog.info? 3).map fun i => (i.zero, i.size, i.bytes)) = some (some (.int .i64 0), 1, 8) := by kernel_rfl
def intsF (a : List Int) : List Value := a.map fun x => .int .i64 x
theorem row_set1 (L : List Value) (x : Value) (i n : Nat) (hl : L.length = i) (hi : i < n) : (L ++ List.replicate (n - i) (Value.int .i64 0)).set i x = (L ++ [x]) ++ List.replicate (n - (i + 1)) (Value.int .i64 0) := by
  obtain ⟨k, hk⟩ : ∃ k, n - i = k + 1 ∧ n - (i + 1) = k := ⟨n - (i + 1), by omega, rfl⟩
  rw [hk.1, hk.2, List.set_append, if_neg (by omega), hl, Nat.sub_self, List.replicate_succ, List.set_cons_zero]
  simp

/-- In the midst of Form: i numbers stand. -/
structure FmIn (fs : List Int) (W w' : World) (gf i : Nat) : Prop where
  row : w'.heap[gf]? = some (.cells (intsF (fs.take i) ++ List.replicate (fs.length - i) (Value.int .i64 0)).toArray 3 (0, 0))
  gr : W.grownBy w' (some gf)

set_option maxHeartbeats 4000000 in
set_option maxRecDepth 100000 in
theorem layForm_m {p : List (List Ins)} {o : Out} {xs : List Ev} (hp : vProg p = true) (hSt : Stood p o xs) (h500 : xs.length ≤ 500) (w : World) (pv : Value) (hP : ProgAt w pv p) (base : Nat) (sao : Option Addr) (scp : Nat)
    (hs : w.ownsRow base 84 2 (.slice sao xs.length scp) xs.length (flatS o.steps)) (v0 v1 v2 v3 : Int) (gao : Option Addr) (gn gc : Nat) :
    Calls Tryz.prog 44 #[pv, .agg #[.int .i64 o.kind, .int .i64 o.thread, .int .i64 o.at_, .slice sao xs.length scp, .int .i64 v0, .int .i64 v1, .int .i64 v2, .int .i64 v3, .slice gao gn gc]] w fun e w' => ∃ v, e = .returned v ∧ w'.ownsRow w.heap.size 3 1 v (formE p xs).length (intsF (formE p xs)) ∧ w.grownBy w' none := by
  obtain ⟨i0, hi0, hz0, hz1, hz2⟩ := info_parts info_intF
  obtain ⟨ao, cap, rfl⟩ := hP.form
  have HP := hide hP
  have HV := hide hp
  have HSt := hide hSt
  have HR := hide hs
  have hfl := formE_length p xs
  have q0 : (xs.length : Int) ≤ 500 := by omega
  have q1 : (0 : Int) ≤ (xs.length : Int) := by omega
  clear hP hp hSt hs
  go_enter Tryz.func44, Tryz.ntmps44
  go_wp2_with fail
  have hg0 : ∀ a b, w.grownBy ((w.alloc a).alloc b) none := fun a b => grown_alloc (grown_alloc (grown_refl _ _))
  refine (place_m HV.out HSt.out h500 _ _ (HP.out.pres (pres_grown (hg0 _ _))) base sao scp (owns_alloc (owns_alloc HR.out)) v0 v1 v2 v3 gao gn gc).mono ?_
  rintro e w1 ⟨g, rfl, hg, hrow1, hg1⟩
  have HG1 : Hid (w.grownBy w1 none) := grown_trans (hg0 _ _) hg1
  have hgw : w.heap.size ≤ g := by simp at hg; omega
  have hkl : (keysE p xs).length = xs.length := by unfold keysE; rw [List.length_map, tl_length]
  have HSO := hide (sort_m (keysE p xs) g w1 hrow1 (by omega))
  rw [hkl] at HSO
  have hgs : g < w1.heap.size := (Array.getElem?_eq_some_iff.1 hrow1).1
  clear hg1 hrow1 hg hg0
  go_wp2_with fail
  refine HSO.out.mono ?_
  clear HSO
  rintro e w2 ⟨rfl, hc2, hg2⟩
  have hsl : (sortK (keysE p xs)).length = xs.length := by rw [(sortK_perm _).length_eq, hkl]
  have HFE : Hid (formE p xs = (sortK (keysE p xs)).map fun x => (x.2 : Int)) := rfl
  generalize sortK (keysE p xs) = qs at *
  have HC2 := hide hc2
  have HG2 : Hid (w.grownBy w2 none) := grown_row' HG1.out hg2 hgw
  obtain ⟨fs, hfs⟩ : ∃ fs, fs = formE p xs := ⟨_, rfl⟩
  rw [← hfs] at HFE hfl
  have HFS := hide hfs
  clear hfs
  have hgs2 : g < w2.heap.size := Nat.lt_of_lt_of_le hgs hg2.size
  clear hc2 hg2 hkl
  go_upto_region 4 with (at_make; refine wpList_make_full _ rfl _ _ _ rfl w2.heap.size 3 i0 _ 1 Tryz.underlying25 hi0 hz0 hz1 .i64 .i64 _ _ xs.length rfl rfl rfl rfl (by rw [hz2]; omega) (by unfold maxLen; omega) (by simp) ?_; intro w3 hown3 hg3)
  have hrow3 : w3.heap[w2.heap.size]? = some (.cells (List.replicate xs.length (Value.int .i64 0)).toArray 3 (0, 0)) := by
    rcases hown3.2 with ⟨e, _⟩ | ⟨g', cap', cur, hv, _, hh, _, _, hcs, htk⟩
    · cases e
    · simp only [Value.slice.injEq, Option.some.injEq, Addr.mk.injEq, true_and, and_true] at hv
      obtain ⟨rfl, rfl⟩ := hv
      rw [hh]
      have e1 : cur.toList = List.replicate xs.length (Value.int .i64 0) := by
        have e2 : (madeCells #[Value.int .i64 0] (xs.length * 1)).toList = List.replicate (xs.length * 1) (Value.int .i64 0) := by
          apply List.ext_getElem (by simp [madeCells])
          intro i h1 h2
          simp only [madeCells, Array.toList_map, List.getElem_map, List.getElem_replicate, Array.toList_range, List.getElem_range]
          simp [Nat.mod_one]
        rw [Nat.mul_one] at e2
        rw [← e2]
        simp only [Value.cells, Nat.mul_one] at htk hcs
        rw [← htk, List.take_of_length_le (by simp; omega)]
      rw [← e1]
  have HC3 : Hid (∀ j (hj : j < qs.length), w3.cell? ⟨g, j * 2, none⟩ = some (.int .i64 (qs[j].1 : Int)) ∧ w3.cell? ⟨g, j * 2 + 1, none⟩ = some (.int .i64 (qs[j].2 : Int))) := fun j hj => ⟨pres_grown hg3 _ _ (HC2.out j hj).1, pres_grown hg3 _ _ (HC2.out j hj).2⟩
  have HG3 : Hid (w.grownBy w3 none) := grown_trans HG2.out hg3
  have H0 : Hid (FmIn fs w3 w3 w2.heap.size 0) := ⟨by simpa [intsF, hfl] using hrow3, grown_refl _ _⟩
  obtain ⟨gf, hgf⟩ : ∃ gf, gf = w2.heap.size := ⟨_, rfl⟩
  have hgf3 : gf < w3.heap.size := by rw [hgf]; exact (Array.getElem?_eq_some_iff.1 hrow3).1
  have hgne : g ≠ gf := by omega
  have hgfw : w.heap.size ≤ gf := by have := HG2.out.size; omega
  have hg3s : g < w3.heap.size := by omega
  rw [← hgf] at H0 ⊢
  clear hown3 hg3 hrow3 HC2 hgf hgs hgs2
  go_wp2_with fail
  go_loopw [19] (fun iv w' => ∃ i : Nat, i ≤ xs.length ∧ iv = .int .i64 i ∧ Hid (FmIn fs w3 w' gf i)) (fun iv _ => xs.length - (intOf iv).toNat)
  case atStart => exact ⟨0, Nat.zero_le _, rfl, H0⟩
  case round =>
    clear H0
    obtain ⟨i, hi, rfl, HI⟩ := hrel
    obtain ⟨w5, hw5⟩ : ∃ w5, w5 = wr := ⟨_, rfl⟩
    rw [← hw5] at HI ⊢
    clear hw5
    by_cases hlt : i < xs.length
    · have hiq : i < qs.length := by omega
      obtain ⟨c0, c1⟩ := HC3.out i hiq
      have hblk := HI.out.gr.block g hg3s (by simpa using hgne)
      have d0 : w5.cell? ⟨g, i * 2, none⟩ = some (.int .i64 (qs[i].1 : Int)) := by rw [World.cell?_of_block hblk]; exact c0
      have d1 : w5.cell? ⟨g, i * 2 + 1, none⟩ = some (.int .i64 (qs[i].2 : Int)) := by rw [World.cell?_of_block hblk]; exact c1
      have hfi : i < fs.length := by omega
      have HFI : Hid (fs.take (i + 1) = fs.take i ++ [(qs[i].2 : Int)]) := by
        unfold Hid
        rw [List.take_succ_eq_append_getElem hfi]
        congr 2
        simp [HFE.out]
      have hs5 : w3.heap.size ≤ w5.heap.size := HI.out.gr.size
      obtain ⟨R, hR⟩ : ∃ R : List Value, R = intsF (fs.take i) ++ List.replicate (fs.length - i) (Value.int .i64 0) := ⟨_, rfl⟩
      have hRl : R.length = fs.length := by rw [hR]; simp [intsF]; omega
      have hr5 := HI.out.row
      rw [← hR] at hr5
      clear c0 c1 hblk
      generalize qs[i] = q at *
      obtain ⟨q1', q2'⟩ := q
      simp only at d0 d1 HFI
      have hr6 : (w5.alloc (.cells #[.int .i64 (q1' : Int), .int .i64 (q2' : Int)] 161)).heap[gf]? = some (.cells R.toArray 3 (0, 0)) := by
        rw [Below.heap_alloc _ _ _ (by omega)]; exact hr5
      have z0 : ∃ z, (w5.alloc (.cells #[.int .i64 (q1' : Int), .int .i64 (q2' : Int)] 161)).cell? ⟨gf, i, none⟩ = some z := ⟨R[i]'(by omega), by simp only [World.cell?, hr6]; simp⟩
      obtain ⟨z, z0⟩ := z0
      have fz0 : (w5.alloc (.cells #[.int .i64 (q1' : Int), .int .i64 (q2' : Int)] 161)).frozen? ⟨gf, i, none⟩ = false := by simp [World.frozen?, hr6]
      have HNX : Hid (FmIn fs w3 ((w5.alloc (.cells #[.int .i64 (q1' : Int), .int .i64 (q2' : Int)] 161)).setCell ⟨gf, i, none⟩ (.int .i64 (q2' : Int))) gf (i + 1)) := by
        refine ⟨?_, grown_trans HI.out.gr (grown_trans (grown_alloc (grown_refl _ _)) grown_cell)⟩
        rw [heap_setCell_same _ gf i _ _ _ hr6, HFI.out]
        simp only [List.setIfInBounds_toArray]
        rw [hR, row_set1 _ _ i fs.length (by simp [intsF]; omega) hfi]
        simp [intsF]
      have t0 : (0 : Int) ≤ (i : Int) := by omega
      have t1 : (i : Int) < xs.length := by omega
      have hne5 : gf ≠ w5.heap.size := by omega
      have hne6 : w5.heap.size ≠ gf := by omega
      clear hr5 hr6 hR hRl
      go_wp2_with fail
      go_roundw
      case rel => exact ⟨i + 1, by omega, by go_num, HNX⟩
      case measure => simp [intOf]; omega
    · have t1 : (xs.length : Int) ≤ (i : Int) := by omega
      have ei : i = xs.length := by omega
      have HE : Hid (w5.ownsRow w.heap.size 3 1 (.slice (some ⟨gf, 0, none⟩) xs.length xs.length) fs.length (intsF fs) ∧ w.grownBy w5 none) := by
        have hr := HI.out.row
        rw [List.take_of_length_le (by omega), show fs.length - i = 0 by omega] at hr
        refine ⟨⟨by simp [intsF], Or.inr ⟨gf, xs.length, _, by rw [hfl], hgfw, hr, by omega, by unfold maxLen; omega, by simp [intsF, hfl], ?_⟩⟩, grown_row' HG3.out HI.out.gr hgfw⟩
        simp [intsF]
        rw [List.take_of_length_le (by simp)]
      go_wp2_with fail
      go_ret
      refine ⟨.slice (some ⟨gf, 0, none⟩) xs.length xs.length, rfl, ?_, HE.out.2⟩
      rw [← HFS.out]
      exact HE.out.1

end Go.Proofs.YtklenjmfalljgaaGreatDoor

/- What stands behind a place of a function's text. -/
namespace Go.Proofs.YtklenjmfalljgaaGreatDoor

/-- Does the text begin with region n? -/
def atR (n : Nat) : Code → Bool
  | .region k _ _ => Nat.beq k n
  | .seq a _ => atR n a
  | .block _ c => atR n c
  | .scope c => atR n c
  | .loop c => atR n c
  | _ => false
/-- The statements from region n on, to the end of their row. -/
def tailAt (n : Nat) : Code → Option Code
  | .seq a b => match atR n a with
    | true => some (.seq a b)
    | false => match tailAt n a with
      | some c => some c
      | none => tailAt n b
  | .block _ c => tailAt n c
  | .scope c => tailAt n c
  | .loop c => tailAt n c
  | .cond _ a b => match tailAt n a with
    | some c => some c
    | none => tailAt n b
  | _ => none
/-- The statements of a function from region n on. -/
def tailOf (f : Func) (n : Nat) : Code := match f.body with
  | some c => (tailAt n c).getD .skip
  | none => .skip

end Go.Proofs.YtklenjmfalljgaaGreatDoor

/- The second part of the reference's form: layer by layer, thread by thread. -/
namespace Go.Proofs.YtklenjmfalljgaaGreatDoor
open Go.RowKit
attribute [local go_sem] Go.World.cell?_alloc_some

/-- In the midst of the second part: the row out stands. -/
structure OtIn (W w' : World) (v : Value) (L : List Int) : Prop where
  row : w'.ownsRow W.heap.size 3 1 v L.length (ints L)
  gr : W.grownBy w' none

set_option maxHeartbeats 4000000 in
set_option maxRecDepth 100000 in
theorem refTail {p : List (List Ins)} {xs : List Ev} (h500 : xs.length ≤ 500) {W : World} {b gl gc sc : Nat} {sao : Option Addr} (hst : W.cell? ⟨b, 10, none⟩ = some (.slice sao xs.length sc))
    (HL : Hid (∀ i, i < xs.length → ∃ g lay th, (keysE p xs)[i]? = some (lay, th) ∧ sao = some ⟨g, 0, none⟩ ∧ W.cell? ⟨gl, i, none⟩ = some (.int .i64 (lay : Int)) ∧ W.cell? ⟨g, i * 2, none⟩ = some (.int .i64 (th : Int)) ∧ lay ≤ 500 ∧ th < 4))
    {Q : Exit → Act → World → Prop} {c1 c2 c5 c6 c7 c8 c9 c10 c11 c12 c13 c14 c15 c16 c17 c18 c19 c20 c21 c22 c23 c24 c25 c26 c27 c28 c29 c30 c31 c32 c33 c34 c35 c36 c37 c38 c39 c40 c41 c42 c43 c44 c45 c46 c47 c48 c49 c50 c51 c52 c53 c54 c55 c56 c57 c58 c59 c60 c61 c62 c63 c64 c65 c66 c67 c68 c69 c70 c71 c72 c73 c74 c75 c76 c77 c78 c79 c80 c81 c82 c83 c84 c85 c86 c87 c88 c89 c90 c91 c92 c93 c94 c95 c96 c97 c98 c99 c100 c101 c102 c103 c104 c105 c106 c107 c108 c109 c110 c111 c112 c113 c114 c115 c116 : Value}
    (HQ : Hid (∀ {z0 z1 z3 z4 z5 z6 z7 z8 z9 z10 z11 z12 z13 z14 z15 z16 z17 z18 z19 z20 z21 z22 z23 z24 z25 z26 z27 z28 z29 z30 z31 z32 z33 z34 z35 z36 z37 z38 z39 z40 z41 z42 z43 z44 z45 z46 z47 z48 z49 z50 z51 z52 z53 z54 z55 z56 z57 z58 z59 z60 z61 z62 z63 z64 z65 z66 z67 z68 z69 z70 z71 z72 z73 z74 z75 z76 z77 z78 z79 z80 z81 z82 z83 z84 z85 z86 z87 z88 z89 z90 z91 z92 z93 z94 z95 z96 z97 z98 z99 z100 z101 z102 z103 z104 z105 z106 z107 z108 z109 z110 z111 z112 z113 z114 z115 z116 : Value} (v : Value) (w' : World), OtIn W w' v (thr (goThrough xs.length (keysE p xs))) → Q .ret ⟨#[z0, z1, v, z3, z4, z5, z6, z7, z8, z9, z10, z11, z12, z13, z14, z15, z16, z17, z18, z19, z20, z21, z22, z23, z24, z25, z26, z27, z28, z29, z30, z31, z32, z33, z34, z35, z36, z37, z38, z39, z40, z41, z42, z43, z44, z45, z46, z47, z48, z49, z50, z51, z52, z53, z54, z55, z56, z57, z58, z59, z60, z61, z62, z63, z64, z65, z66, z67, z68, z69, z70, z71, z72, z73, z74, z75, z76, z77, z78, z79, z80, z81, z82, z83, z84, z85, z86, z87, z88, z89, z90, z91, z92, z93, z94, z95, z96, z97, z98, z99, z100, z101, z102, z103, z104, z105, z106, z107, z108, z109, z110, z111, z112, z113, z114, z115, z116], []⟩ w')) :
    Code.wp Tryz.prog (tailOf Tryz.f50 14) Q ⟨#[.pointer (some ⟨b, 0, none⟩), c1, c2, .int .i64 (xs.length : Int), .slice (some ⟨gl, 0, none⟩) xs.length gc, c5, c6, c7, c8, c9, c10, c11, c12, c13, c14, c15, c16, c17, c18, c19, c20, c21, c22, c23, c24, c25, c26, c27, c28, c29, c30, c31, c32, c33, c34, c35, c36, c37, c38, c39, c40, c41, c42, c43, c44, c45, c46, c47, c48, c49, c50, c51, c52, c53, c54, c55, c56, c57, c58, c59, c60, c61, c62, c63, c64, c65, c66, c67, c68, c69, c70, c71, c72, c73, c74, c75, c76, c77, c78, c79, c80, c81, c82, c83, c84, c85, c86, c87, c88, c89, c90, c91, c92, c93, c94, c95, c96, c97, c98, c99, c100, c101, c102, c103, c104, c105, c106, c107, c108, c109, c110, c111, c112, c113, c114, c115, c116], []⟩ W := by
  conv => arg 2; whnf
  obtain ⟨i0, hi0, hz0, hz1, hz2⟩ := info_parts info_intF
  have q0 : (xs.length : Int) ≤ 500 := by omega
  have q1 : (0 : Int) ≤ (xs.length : Int) := by omega
  have hkl := keysE_len p xs
  have HKL := hide hkl
  have HGE := hide (fun l t i hl ht => goAt_le (keysE p xs) l t i hl ht (by omega))
  have H0 : Hid (OtIn W W (.slice none 0 0) (thr (goAt (keysE p xs) 0 0 0))) := ⟨by rw [goAt_zero]; exact ⟨rfl, Or.inl ⟨rfl, rfl⟩⟩, grown_refl _ _⟩
  have HC10 := hide hst
  clear hkl hst
  go_wp2_with fail
  go_loopw [8, 9] (fun ov lv w' => ∃ l : Nat, l ≤ xs.length ∧ lv = .int .i64 l ∧ Hid (OtIn W w' ov (thr (goAt (keysE p xs) l 0 0)))) (fun _ lv _ => xs.length - (intOf lv).toNat)
  case atStart => exact ⟨0, Nat.zero_le _, rfl, H0⟩
  case round =>
    clear H0
    obtain ⟨l, hl, rfl, HI⟩ := hrel
    obtain ⟨w1, hw1⟩ : ∃ w1, w1 = wr := ⟨_, rfl⟩
    rw [← hw1] at HI ⊢
    clear hw1
    by_cases hlt : l < xs.length
    · have t0 : (0 : Int) ≤ (l : Int) := by omega
      have t1 : (l : Int) < xs.length := by omega
      go_wp2_with fail
      go_loopw [8, 10] (fun ov tv w' => ∃ t : Nat, t ≤ 4 ∧ tv = .int .i64 t ∧ Hid (OtIn W w' ov (thr (goAt (keysE p xs) l t 0)))) (fun _ tv _ => 4 - (intOf tv).toNat)
      case atStart => exact ⟨0, Nat.zero_le _, rfl, HI⟩
      case round =>
        clear HI
        obtain ⟨t, ht, rfl, HT⟩ := hrel
        obtain ⟨w2, hw2⟩ : ∃ w2, w2 = wr := ⟨_, rfl⟩
        rw [← hw2] at HT ⊢
        clear hw2
        by_cases htl : t < 4
        · have t2 : (t : Int) < 4 := by omega
          go_wp2_with fail
          go_loopw [8, 11] (fun ov iv w' => ∃ i : Nat, i ≤ xs.length ∧ iv = .int .i64 i ∧ Hid (OtIn W w' ov (thr (goAt (keysE p xs) l t i)))) (fun _ iv _ => xs.length - (intOf iv).toNat)
          case atStart => exact ⟨0, Nat.zero_le _, rfl, HT⟩
          case round =>
            clear HT
            obtain ⟨i, hi, rfl, HJ⟩ := hrel
            obtain ⟨w3, hw3⟩ : ∃ w3, w3 = wr := ⟨_, rfl⟩
            rw [← hw3] at HJ ⊢
            clear hw3
            by_cases hil : i < xs.length
            · have t3 : (0 : Int) ≤ (i : Int) := by omega
              have t4 : (i : Int) < xs.length := by omega
              obtain ⟨g, lay, th, hk, hsa, hc1, hc2, hla, hth⟩ := HL.out i hil
              subst hsa
              have d1 := pres_grown HJ.out.gr _ _ hc1
              have d2 := pres_grown HJ.out.gr _ _ hc2
              have d3 := pres_grown HJ.out.gr _ _ HC10.out
              have hik : i < (keysE p xs).length := by have := HKL.out; omega
              have hke : (keysE p xs)[i] = (lay, th) := by rw [List.getElem?_eq_getElem hik] at hk; simpa using hk
              have HN := hide (thr_next (keysE p xs) l t i hik)
              rw [hke] at HN
              clear hk hke hc1 hc2
              obtain ⟨ao, an, ac, hov⟩ := owns_form HJ.out.row
              subst hov
              have han := owns_lenq HJ.out.row
              subst han
              by_cases e1 : lay = l
              · by_cases e2 : th = t
                · have hN2 : thr (goAt (keysE p xs) l t (i + 1)) = thr (goAt (keysE p xs) l t i) ++ [(t : Int)] := by rw [HN.out, e1, e2]; simp
                  have HN2 := hide hN2
                  have hle := HGE.out l t i (by omega) (by omega)
                  have hle2 : (thr (goAt (keysE p xs) l t i)).length ≤ 2000000 := by unfold thr; rw [List.length_map]; exact hle
                  have h63 : (thr (goAt (keysE p xs) l t i)).length + 1 ≤ maxLen := by unfold maxLen; omega
                  have hsz : W.heap.size ≤ w3.heap.size := HJ.out.gr.size
                  rw [e1] at d1
                  rw [e2] at d2
                  clear HN hN2 hle e1 e2 hla hth
                  go_wp2_with (at_builtin; refine wpList_append_lies _ rfl _ _ _ rfl W.heap.size 3 i0 _ 1 8 Tryz.underlying25 hi0 hz0 hz1 hz2 rfl (by omega) (.slice ao (thr (goAt (keysE p xs) l t i)).length ac) (thr (goAt (keysE p xs) l t i)).length (ints (thr (goAt (keysE p xs) l t i))) rfl (owns_alloc HJ.out.row) ⟨w3.heap.size, 0, none⟩ 1 1 [.int .i64 (t : Int)] rfl rfl (World.news_of_block (cs := #[.int .i64 (t : Int)]) (t := 3) (fr := (0, 0)) (heap_alloc_new w3 _)) (by simp [Value.oneCell']) (by omega) h63 (by omega) (by simp; omega) (w3.heap.size + 1) (by simp) ?_; intro g8 cap8 w8 hown8 hgrow8 hat8 hlt8; have HO8 := hide hown8; have HG8 : Hid (W.grownBy w8 none) := grown_row (grown_alloc HJ.out.gr) hgrow8 (fun q e => owns_block HJ.out.row q e); clear hown8 hgrow8 hat8 hlt8)
                  go_roundw
                  case rel => exact ⟨i + 1, by omega, by go_num, ⟨by rw [HN2.out, List.length_append]; simpa [ints] using HO8.out, HG8.out⟩⟩
                  case measure => simp [intOf]; omega
                · have hN2 : thr (goAt (keysE p xs) l t (i + 1)) = thr (goAt (keysE p xs) l t i) := by rw [HN.out]; simp [e2]
                  have HN2 := hide hN2
                  have e2' : ((th : Int) == (t : Int)) = false := by simp; omega
                  rw [e1] at d1
                  clear HN hN2 e1 e2 hla hth
                  go_wp2_with fail
                  go_roundw
                  case rel => exact ⟨i + 1, by omega, by go_num, by rw [HN2.out]; exact HJ.out⟩
                  case measure => simp [intOf]; omega
              · have hN2 : thr (goAt (keysE p xs) l t (i + 1)) = thr (goAt (keysE p xs) l t i) := by rw [HN.out]; simp [e1]
                have HN2 := hide hN2
                have e1' : ((lay : Int) == (l : Int)) = false := by simp; omega
                clear HN hN2 e1 hla hth
                go_wp2_with fail
                go_roundw
                case rel => exact ⟨i + 1, by omega, by go_num, by rw [HN2.out]; exact HJ.out⟩
                case measure => simp [intOf]; omega
            · have t4 : (xs.length : Int) ≤ (i : Int) := by omega
              have HE : Hid (goAt (keysE p xs) l t i = goAt (keysE p xs) l (t + 1) 0) := goAt_thread _ _ _ _ (by rw [HKL.out]; omega)
              go_wp2_with fail
              go_roundw
              case rel => exact ⟨t + 1, by omega, by go_num, by rw [← HE.out]; exact HJ.out⟩
              case measure => simp [intOf]; omega
        · have t2 : (4 : Int) ≤ (t : Int) := by omega
          have ht4 : t = 4 := by omega
          have HE : Hid (goAt (keysE p xs) l t 0 = goAt (keysE p xs) (l + 1) 0 0) := by unfold Hid; rw [ht4]; exact goAt_layer _ _
          clear ht4
          go_wp2_with fail
          go_roundw
          case rel => exact ⟨l + 1, by omega, by go_num, by rw [← HE.out]; exact HT.out⟩
          case measure => simp [intOf]; omega
    · have t1 : (xs.length : Int) ≤ (l : Int) := by omega
      have hle : l = xs.length := by omega
      have HE : Hid (goAt (keysE p xs) l 0 0 = goThrough xs.length (keysE p xs)) := by unfold Hid; rw [hle]; exact goAt_end _ _
      clear hle
      go_wp2_with fail
      exact HQ.out _ _ (by rw [← HE.out]; exact HI.out)

end Go.Proofs.YtklenjmfalljgaaGreatDoor

/- The walk of the reference's form: its layers. -/
namespace Go.Proofs.YtklenjmfalljgaaGreatDoor
open Go.RowKit
attribute [local go_sem] Go.World.cell?_alloc_some

/-- What form reads of a run. -/
structure RunRead (w : World) (b : Nat) (p : List (List Ins)) (xs : List Ev) (o : Out) (ao : Option Addr) (cap : Nat) (sao : Option Addr) (sc : Nat) : Prop where
  prog : ProgAt w (.agg #[.slice ao p.length cap]) p
  c0 : w.cell? ⟨b, 0, none⟩ = some (.slice ao p.length cap)
  c10 : w.cell? ⟨b, 10, none⟩ = some (.slice sao xs.length sc)
  c11 : w.cell? ⟨b, 11, none⟩ = some (.int .i64 o.kind)
  row : ∃ base, w.ownsRow base 84 2 (.slice sao xs.length sc) xs.length (flatS o.steps)
theorem RunRead.grown {w w' : World} {b : Nat} {p : List (List Ins)} {xs : List Ev} {o : Out} {ao : Option Addr} {cap : Nat} {sao : Option Addr} {sc : Nat} (h : RunRead w b p xs o ao cap sao sc) (hg : w.grownBy w' none) : RunRead w' b p xs o ao cap sao sc := by
  obtain ⟨base, hr⟩ := h.row
  exact ⟨h.prog.pres (pres_grown hg), pres_grown hg _ _ h.c0, pres_grown hg _ _ h.c10, pres_grown hg _ _ h.c11, base, owns_grown hr hg (fun _ e => by cases e)⟩

theorem grown_fromDrew' {w w' : World} (h : w.drew.grownBy w' none) : w.grownBy w' none := ⟨h.os, h.tape, h.output, h.size, h.block⟩
theorem grown_dnR {w : World} (n : Nat) : w.grownBy (w.drewN n) none := grown_of_like (by have := like_drewN w n; exact this)
/-- Numbers that stand, noughts behind them. -/
def rowL (L : List Nat) (n : Nat) : List Value := L.map (fun x : Nat => Value.int .i64 (x : Int)) ++ List.replicate (n - L.length) (Value.int .i64 0)
theorem rowL_len (L : List Nat) (n : Nat) (h : L.length ≤ n) : (rowL L n).length = n := by unfold rowL; simp; omega
theorem rowL_zero (L : List Nat) (n : Nat) (h : L.length < n) : rowL (L ++ [0]) n = rowL L n := by
  unfold rowL
  have e : n - L.length = (n - (L ++ [0]).length) + 1 := by simp; omega
  rw [e, List.replicate_succ]
  simp
theorem rowL_set (L : List Nat) (x y n : Nat) : (rowL (L ++ [x]) n).set L.length (.int .i64 (y : Int)) = rowL (L ++ [y]) n := by
  unfold rowL
  have e : (L ++ [x]).length = (L ++ [y]).length := by simp
  rw [e]
  simp
theorem rowL_get (L : List Nat) (n k : Nat) (h : k < L.length) : (rowL L n)[k]? = some (.int .i64 (L[k] : Int)) := by
  unfold rowL
  rw [List.getElem?_append_left (by simpa using h)]
  simp [h]

/-- In the midst: the numbers L stand. -/
structure LyIn (W w' : World) (gl n : Nat) (L : List Nat) : Prop where
  row : w'.heap[gl]? = some (.cells (rowL L n).toArray 3 (0, 0))
  gr : W.grownBy w' (some gl)
theorem LyIn.grown {W w w' : World} {gl n : Nat} {L : List Nat} (h : LyIn W w gl n L) (hg : w.grownBy w' none) : LyIn W w' gl n L :=
  ⟨by rw [hg.block _ (Array.getElem?_eq_some_iff.1 h.row).1 (by simp)]; exact h.row, grown_trans h.gr (grown_none hg)⟩

theorem grown_setRow {W w : World} {gl o : Nat} {u : Value} (h : W.grownBy w (some gl)) : W.grownBy (w.setCell ⟨gl, o, none⟩ u) (some gl) :=
  ⟨h.os, h.tape, h.output, by simpa using h.size, fun k hk hr => by rw [Below.heap_setCell _ _ _ _ (by simpa using hr)]; exact h.block k hk hr⟩
theorem LyIn.put {W w : World} {gl n i : Nat} {L : List Nat} {x : Nat} (h : LyIn W w gl n (L ++ [x])) (hi : L.length = i) (y : Nat) (z : Int) (hz : z = (y : Int)) : LyIn W (w.setCell ⟨gl, i, none⟩ (.int .i64 z)) gl n (L ++ [y]) := by
  subst hi hz
  refine ⟨?_, grown_setRow h.gr⟩
  rw [heap_setCell_same w gl L.length _ _ _ h.row, ← rowL_set L x y n]
  simp
set_option maxHeartbeats 4000000 in
set_option maxRecDepth 100000 in
theorem refform_m {p : List (List Ins)} {o : Out} {xs : List Ev} (hp : vProg p = true) (hSt : Stood p o xs) (h500 : xs.length ≤ 500) (w : World) (b : Nat) (ao : Option Addr) (cap : Nat) (sao : Option Addr) (sc : Nat) (hR : RunRead w b p xs o ao cap sao sc) :
    Calls Tryz.prog 50 #[.pointer (some ⟨b, 0, none⟩)] w fun e w' => ∃ v, e = .returned v ∧ w'.ownsRow w.heap.size 3 1 v (formE p xs).length (ints (formE p xs)) ∧ w.grownBy w' none := by
  obtain ⟨i0, hi0, hz0, hz1, hz2⟩ := info_parts info_intF
  have HR := hide hR
  have HV := hide hp
  have HSt := hide hSt
  have hlen := vProg_len hp
  have c10 := hR.c10
  have q0 : (xs.length : Int) ≤ 500 := by omega
  have q1 : (0 : Int) ≤ (xs.length : Int) := by omega
  clear hR hp hSt
  go_enter Tryz.func50, Tryz.ntmps50
  go_upto_region 3 with (at_make; refine wpList_make_full _ rfl _ _ _ rfl w.heap.size 3 i0 _ 1 Tryz.underlying25 hi0 hz0 hz1 .i64 .i64 _ _ xs.length rfl rfl rfl rfl (by rw [hz2]; omega) (by unfold maxLen; omega) (by simp) ?_; intro w3 hown3 hg3)
  have hrow3 : w3.heap[w.heap.size]? = some (.cells (List.replicate xs.length (Value.int .i64 0)).toArray 3 (0, 0)) := by
    rcases hown3.2 with ⟨e, _⟩ | ⟨g', cap', cur, hv, _, hh, _, _, hcs, htk⟩
    · cases e
    · simp only [Value.slice.injEq, Option.some.injEq, Addr.mk.injEq, true_and, and_true] at hv
      obtain ⟨rfl, rfl⟩ := hv
      rw [hh]
      have e1 : cur.toList = List.replicate xs.length (Value.int .i64 0) := by
        have e2 : (madeCells #[Value.int .i64 0] (xs.length * 1)).toList = List.replicate (xs.length * 1) (Value.int .i64 0) := by
          apply List.ext_getElem (by simp [madeCells])
          intro i h1 h2
          simp only [madeCells, Array.toList_map, List.getElem_map, List.getElem_replicate, Array.toList_range, List.getElem_range]
          simp [Nat.mod_one]
        rw [Nat.mul_one] at e2
        rw [← e2]
        simp only [Value.cells, Nat.mul_one] at htk hcs
        rw [← htk, List.take_of_length_le (by simp; omega)]
      rw [← e1]
  have HR3 : Hid (RunRead w3 b p xs o ao cap sao sc) := HR.out.grown hg3
  have HG3 : Hid (w.grownBy w3 none) := hg3
  have H0 : Hid (LyIn w3 w3 w.heap.size xs.length (labsE p xs 0)) := ⟨by simpa [labsE, tl, rowL] using hrow3, grown_refl _ _⟩
  obtain ⟨gl, hgl⟩ : ∃ gl, gl = w.heap.size := ⟨_, rfl⟩
  have hgl3 : gl < w3.heap.size := by rw [hgl]; exact (Array.getElem?_eq_some_iff.1 hrow3).1
  have HGL : Hid (∀ x v, w.cell? x = some v → ∀ u, w3.grownBy u (some gl) → u.cell? x = some v) := fun x v hc u hu => by
    have hx := World.block_lt_of_cell? w _ hc
    rw [World.cell?_of_block (hu.block x.block (Nat.lt_of_lt_of_le hx HG3.out.size) (by simp; omega))]
    exact pres_grown HG3.out _ _ hc
  rw [← hgl] at H0 ⊢
  have HGLQ := hide hgl
  clear hown3 hg3 hrow3 c10 hgl
  go_wp2_with fail
  go_loopw [5] (fun iv w' => ∃ i : Nat, i ≤ xs.length ∧ iv = .int .i64 i ∧ Hid (LyIn w3 w' gl xs.length (labsE p xs i))) (fun iv _ => xs.length - (intOf iv).toNat)
  case atStart => exact ⟨0, Nat.zero_le _, rfl, H0⟩
  case round =>
    clear H0
    obtain ⟨i, hi, rfl, HI⟩ := hrel
    obtain ⟨w5, hw5⟩ : ∃ w5, w5 = wr := ⟨_, rfl⟩
    rw [← hw5] at HI ⊢
    clear hw5
    by_cases hlt : i < xs.length
    · have t0 : (0 : Int) ≤ (i : Int) := by omega
      have t1 : (i : Int) < xs.length := by omega
      have hll := labsE_len p xs i hi
      have H5 : Hid (LyIn w3 w5 gl xs.length (labsE p xs i ++ [layIn (depE p) ((tl (depE p) [] (xs.take i)).take 0) xs[i]])) := by
        have e : layIn (depE p) ((tl (depE p) [] (xs.take i)).take 0) xs[i] = 0 := by simp [layIn]
        unfold Hid; rw [e]
        exact ⟨by rw [rowL_zero _ _ (by omega)]; exact HI.out.row, HI.out.gr⟩
      go_wp2_with fail
      go_loopw [6] (fun kv w' => ∃ k : Nat, k ≤ i ∧ kv = .int .i64 k ∧ Hid (LyIn w3 w' gl xs.length (labsE p xs i ++ [layIn (depE p) ((tl (depE p) [] (xs.take i)).take k) xs[i]]))) (fun kv _ => i - (intOf kv).toNat)
      case atStart => exact ⟨0, Nat.zero_le _, rfl, H5⟩
      case round =>
        clear H5 HI
        obtain ⟨k, hk, rfl, HK⟩ := hrel
        obtain ⟨w6, hw6⟩ : ∃ w6, w6 = wr := ⟨_, rfl⟩
        rw [← hw6] at HK ⊢
        clear hw6
        by_cases hkl : k < i
        · have hkx : k < xs.length := by omega
          obtain ⟨hti, hki0, hki1⟩ := HSt.out.th _ (List.getElem_mem hlt)
          obtain ⟨htk, hkk0, hkk1⟩ := HSt.out.th _ (List.getElem_mem hkx)
          obtain ⟨base, hrow⟩ := HR.out.row
          obtain ⟨g, hg, s0, s1⟩ := steps_at hrow HSt.out.st hlt
          obtain ⟨g', hg', r0, r1⟩ := steps_at hrow HSt.out.st hkx
          rw [hg] at hg'
          simp only [Option.some.injEq, Addr.mk.injEq, and_true] at hg'
          subst hg' hg
          obtain ⟨ki, hki⟩ := Int.eq_ofNat_of_zero_le hki0
          obtain ⟨kk, hkk⟩ := Int.eq_ofNat_of_zero_le hkk0
          have HDS := hide (dep_steps HSt.out hkl hlt)
          have HLF := hide (lay_front (depE p) (tl (depE p) [] (xs.take i)) xs[i] k (by rw [tl_length]; simp; omega))
          have hLk : ((tl (depE p) [] (xs.take i))[k]'(by rw [tl_length]; simp; omega)).1 = xs[k] := by
            have h1 := tl_fst (depE p) [] (xs.take i)
            have h2 : ((tl (depE p) [] (xs.take i)).map (·.1))[k]'(by rw [h1]; simp; omega) = (xs.take i)[k]'(by simp; omega) := by congr 1
            simpa using h2
          rw [hLk] at HLF
          have hlab : (labsE p xs i)[k]'(by omega) = ((tl (depE p) [] (xs.take i))[k]'(by rw [tl_length]; simp; omega)).2 := by simp [labsE]
          have HLB := hide hlab
          have hcur := lay_front_le p (xs.take i) xs[i] k
          have hcur' : layIn (depE p) ((tl (depE p) [] (xs.take i)).take k) xs[i] ≤ 500 := by simp at hcur; omega
          have hlk5 : (labsE p xs i)[k]'(by omega) ≤ 500 := by
            rw [hlab]
            have := lay_lt (depE p) (xs.take i) [] 0 (by simp) k _ (List.getElem?_eq_getElem (by rw [tl_length]; simp; omega))
            omega
          have hvi : vIns (insAt p xs[i].t (ki : Int)) (codeOf p xs[i].t).length = true := vProg_ins HV.out hti (by simp; omega)
          have hvk : vIns (insAt p xs[k].t (kk : Int)) (codeOf p xs[k].t).length = true := vProg_ins HV.out htk (by simp; omega)
          have hai := vIns_ab hvi
          have hak := vIns_ab hvk
          have HCL := hide (depR_clash (i := insAt p xs[k].t (kk : Int)) (j := insAt p xs[i].t (ki : Int)) hak.1 hak.2.2.1 hai.1 hai.2.2.1)
          rw [hki, hkk] at HDS
          rw [← HCL.out] at HDS
          have up : ∀ x v, w.cell? x = some v → w6.cell? x = some v := fun x v hc => HGL.out x v hc w6 HK.out.gr
          have s0' := up _ _ s0
          have s1' := up _ _ s1
          have r0' := up _ _ r0
          have r1' := up _ _ r1
          rw [hki] at s1'
          rw [hkk] at r1'
          have c0 := up _ _ HR.out.c0
          have c10 := up _ _ HR.out.c10
          have c11 := up _ _ HR.out.c11
          have HPu : Hid (ProgAt w6 (.agg #[.slice ao p.length cap]) p) := HR.out.prog.pres up
          have HDP := hide (fun (u : World) (hu : w6.grownBy u none) => depend_m u (.agg #[.slice ao p.length cap]) (HPu.out.pres (pres_grown hu)) hlen.2 xs[k].t kk xs[i].t ki htk (by omega) hti (by omega) (vCode_len (vProg_code HV.out htk)) (vCode_len (vProg_code HV.out hti)))
          clear s0 s1 r0 r1 hrow hai hak hvi hvk up hcur hlab hLk hki0 hki1 hkk0 hkk1 hki hkk HCL HPu
          generalize hxi : xs[i] = xi at *
          generalize hxk : xs[k] = xk at *
          clear hxi hxk
          generalize insAt p xk.t (kk : Int) = ik at *
          generalize insAt p xi.t (ki : Int) = ii at *
          have u0 : (0 : Int) ≤ (k : Int) := by omega
          have u1 : (k : Int) < (i : Int) := by omega
          have u2 : (k : Int) < (xs.length : Int) := by omega
          go_upto_region 9 with fail
          refine wp_region_head (fun u => u.cell? ⟨b, 0, none⟩ = some (.slice ao p.length cap) ∧ u.cell? ⟨b, 10, none⟩ = some (.slice (some ⟨g, 0, none⟩) xs.length sc) ∧ u.cell? ⟨g, k * 2, none⟩ = some (.int .i64 (xk.t : Int)) ∧ u.cell? ⟨g, k * 2 + 1, none⟩ = some (.int .i64 (kk : Int)) ∧ u.cell? ⟨g, i * 2, none⟩ = some (.int .i64 (xi.t : Int)) ∧ u.cell? ⟨g, i * 2 + 1, none⟩ = some (.int .i64 (ki : Int))) 19 (by kernel_rfl) (by kernel_rfl) ⟨c0, c10, r0', r1', s0', s1'⟩ ?_
          intro hHeld
          refine wpHead_take (i := 0) (v := ?vva0) rfl (by kernel_rfl) (fun _ _ _ h => h) (Or.inl ⟨by rfl, ?hya0⟩) hHeld ?resta0
          case hya0 => (rintro u ⟨hu0, hu1, hu2, hu3, hu4, hu5⟩; go_simp; try with_reducible rfl)
          simp only [Act.put, List.setIfInBounds_toArray]
          refine wpHead_take (i := 1) (v := ?vva1) rfl (by kernel_rfl) (fun _ _ _ h => h) (Or.inl ⟨by rfl, ?hya1⟩) hHeld ?resta1
          case hya1 => (rintro u ⟨hu0, hu1, hu2, hu3, hu4, hu5⟩; go_simp; try with_reducible rfl)
          simp only [Act.put]
          refine wpHead_take (i := 2) (v := ?vva2) rfl (by kernel_rfl) (fun _ _ _ h => h) (Or.inl ⟨by rfl, ?hya2⟩) hHeld ?resta2
          case hya2 => (rintro u ⟨hu0, hu1, hu2, hu3, hu4, hu5⟩; go_simp; try with_reducible rfl)
          simp only [Act.put]
          refine wpHead_take (i := 3) (v := ?vva3) rfl (by kernel_rfl) (fun _ _ _ h => h) (Or.inl ⟨by rfl, ?hya3⟩) hHeld ?resta3
          case hya3 => (rintro u ⟨hu0, hu1, hu2, hu3, hu4, hu5⟩; go_simp; try with_reducible rfl)
          simp only [Act.put]
          refine wpHead_take (i := 4) (v := ?vva4) rfl (by kernel_rfl) (fun _ _ _ h => h) (Or.inl ⟨by rfl, ?hya4⟩) hHeld ?resta4
          case hya4 => (rintro u ⟨hu0, hu1, hu2, hu3, hu4, hu5⟩; go_simp; try with_reducible rfl)
          simp only [Act.put]
          refine wpHead_take (i := 5) (v := ?vva5) rfl (by kernel_rfl) (fun _ _ _ h => h) (Or.inl ⟨by rfl, ?hya5⟩) hHeld ?resta5
          case hya5 => (rintro u ⟨hu0, hu1, hu2, hu3, hu4, hu5⟩; go_simp; try with_reducible rfl)
          simp only [Act.put]
          refine wpHead_take (i := 6) (v := ?vva6) rfl (by kernel_rfl) (fun _ _ _ h => h) (Or.inl ⟨by rfl, ?hya6⟩) hHeld ?resta6
          case hya6 => (rintro u ⟨hu0, hu1, hu2, hu3, hu4, hu5⟩; go_simp; try with_reducible rfl)
          simp only [Act.put]
          refine wpHead_take (i := 7) (v := ?vva7) rfl (by kernel_rfl) (fun _ _ _ h => h) (Or.inl ⟨by rfl, ?hya7⟩) hHeld ?resta7
          case hya7 => (rintro u ⟨hu0, hu1, hu2, hu3, hu4, hu5⟩; go_simp; try with_reducible rfl)
          simp only [Act.put]
          refine wpHead_take (i := 8) (v := ?vva8) rfl (by kernel_rfl) (fun _ _ _ h => h) (Or.inl ⟨by rfl, ?hya8⟩) hHeld ?resta8
          case hya8 => (rintro u ⟨hu0, hu1, hu2, hu3, hu4, hu5⟩; go_simp; try with_reducible rfl)
          simp only [Act.put]
          refine wpHead_take (i := 9) (v := ?vva9) rfl (by kernel_rfl) (fun _ _ _ h => h) (Or.inl ⟨by rfl, ?hya9⟩) hHeld ?resta9
          case hya9 => (rintro u ⟨hu0, hu1, hu2, hu3, hu4, hu5⟩; go_simp; try with_reducible rfl)
          simp only [Act.put]
          refine wpHead_take (i := 10) (v := ?vva10) rfl (by kernel_rfl) (fun _ _ _ h => h) (Or.inl ⟨by rfl, ?hya10⟩) hHeld ?resta10
          case hya10 => (rintro u ⟨hu0, hu1, hu2, hu3, hu4, hu5⟩; go_simp; try with_reducible rfl)
          simp only [Act.put]
          refine wpHead_take (i := 11) (v := ?vva11) rfl (by kernel_rfl) (fun _ _ _ h => h) (Or.inl ⟨by rfl, ?hya11⟩) hHeld ?resta11
          case hya11 => (rintro u ⟨hu0, hu1, hu2, hu3, hu4, hu5⟩; go_simp; try with_reducible rfl)
          simp only [Act.put]
          refine wpHead_take (i := 12) (v := ?vva12) rfl (by kernel_rfl) (fun _ _ _ h => h) (Or.inl ⟨by rfl, ?hya12⟩) hHeld ?resta12
          case hya12 => (rintro u ⟨hu0, hu1, hu2, hu3, hu4, hu5⟩; go_simp; try with_reducible rfl)
          simp only [Act.put]
          refine wpHead_take (i := 13) (v := ?vva13) rfl (by kernel_rfl) (fun _ _ _ h => h) (Or.inl ⟨by rfl, ?hya13⟩) hHeld ?resta13
          case hya13 => (rintro u ⟨hu0, hu1, hu2, hu3, hu4, hu5⟩; go_simp; try with_reducible rfl)
          simp only [Act.put]
          refine wpHead_take (i := 14) (v := ?vva14) rfl (by kernel_rfl) (fun _ _ _ h => h) (Or.inl ⟨by rfl, ?hya14⟩) hHeld ?resta14
          case hya14 => (rintro u ⟨hu0, hu1, hu2, hu3, hu4, hu5⟩; go_simp; try with_reducible rfl)
          simp only [Act.put]
          refine wpHead_take (i := 15) (v := ?vva15) rfl (by kernel_rfl) (fun _ _ _ h => h) (Or.inl ⟨by rfl, ?hya15⟩) hHeld ?resta15
          case hya15 => (rintro u ⟨hu0, hu1, hu2, hu3, hu4, hu5⟩; go_simp; try with_reducible rfl)
          simp only [Act.put]
          refine wpHead_take (i := 16) (v := ?vva16) rfl (by kernel_rfl) (fun _ _ _ h => h) (Or.inl ⟨by rfl, ?hya16⟩) hHeld ?resta16
          case hya16 => (rintro u ⟨hu0, hu1, hu2, hu3, hu4, hu5⟩; go_simp; try with_reducible rfl)
          simp only [Act.put]
          refine wpHead_take (i := 17) (v := ?vva17) rfl (by kernel_rfl) (fun _ _ _ h => h) (Or.inl ⟨by rfl, ?hya17⟩) hHeld ?resta17
          case hya17 => (rintro u ⟨hu0, hu1, hu2, hu3, hu4, hu5⟩; go_simp; try with_reducible rfl)
          simp only [Act.put]
          refine wpHead_alone (i := 18) rfl (by kernel_rfl) (by kernel_rfl) (by rfl) ?_
          intro K18 hK18
          have HK18 := hide hK18
          clear hK18
          go_simp
          refine (HDP.out _ (grown_drew (grown_refl _ _))).mono ?_
          rintro e w7 ⟨rfl, hg7⟩
          have HG7 : Hid (w6.grownBy w7 none) := grown_fromDrew' hg7
          refine HK18.out _ _ ⟨pres_grown HG7.out _ _ c0, pres_grown HG7.out _ _ c10, pres_grown HG7.out _ _ r0', pres_grown HG7.out _ _ r1', pres_grown HG7.out _ _ s0', pres_grown HG7.out _ _ s1'⟩ ?_
          clear HK18 hg7
          try simp only [Act.put, List.setIfInBounds_toArray]
          refine wpHead_last rfl (by kernel_rfl) (by kernel_rfl) (by rfl) ?_
          go_simp
          have k11 := pres_grown HG7.out _ _ c11
          have HK7 := hide (HK.out.grown HG7.out)
          clear hHeld c0 c10 c11 r0' r1' s0' s1' HDP HK
          generalize hdd : (xk.t == xi.t || depR ik ii) = dd at *
          clear hdd
          obtain ⟨bl, hbl⟩ : ∃ bl : Bool, bl = (decide (o.kind = 1) && decide (i + 1 = xs.length)) := ⟨_, rfl⟩
          rw [← hbl] at HDS
          have HBL := hide hbl
          clear hbl
          go_upto_region 10 with fail
          go_cut [59] (fun q w' => q = .bool bl ∧ w' = w7)
          case first =>
            by_cases e2 : o.kind = 1
            · rw [e2] at k11
              by_cases e1 : i + 1 = xs.length
              · have e3 : (xs.length : Int) - 1 = (i : Int) := by omega
                have hb : bl = true := by rw [HBL.out]; simp [e1, e2]
                go_wp2_with fail
                all_goals first | (go_meet; exact ⟨by rw [hb], rfl⟩) | (exfalso; omega)
              · have hb : bl = false := by rw [HBL.out]; simp [e1]
                have e4 : ((i : Int) == (xs.length : Int) - 1) = false := by simp; omega
                go_wp2_with fail
                all_goals first | (go_meet; exact ⟨by rw [hb], rfl⟩) | (exfalso; omega)
            · have hb : bl = false := by rw [HBL.out]; simp [e2]
              have hb2 : (o.kind == 1) = false := by simpa using e2
              go_wp2_with fail
              all_goals first | (go_meet; exact ⟨by rw [hb], rfl⟩) | (exfalso; omega)
          case rest =>
          obtain ⟨rfl, hwc⟩ := hcut
          have hwc2 := hwc.symm
          subst hwc2
          obtain ⟨D, hD⟩ : ∃ D : Bool, D = depE p xk xi := ⟨_, rfl⟩
          rw [← hD] at HDS HLF
          clear hD
          go_upto_if 59 with fail
          go_cut [7] (fun q w' => q = .bool D ∧ w' = w7)
          case first =>
            cases bl with
            | true =>
              have hDt : D = true := by rw [HDS.out]; rfl
              go_wp2_with fail
              go_meet
              exact ⟨by rw [hDt], rfl⟩
            | false =>
              have hDt : D = dd := by rw [HDS.out]; rfl
              go_wp2_with fail
              go_meet
              exact ⟨by rw [hDt], rfl⟩
          case rest =>
          obtain ⟨rfl, hwc⟩ := hcut
          have hwc2 := hwc.symm
          subst hwc2
          clear k11 HBL HDS
          rw [← HLB.out] at HLF
          have hkL : k < (labsE p xs i).length := by omega
          have HRS := hide (fun y : Nat => rowL_set (labsE p xs i) (layIn (depE p) ((tl (depE p) [] (xs.take i)).take k) xi) y xs.length)
          have hrw := HK7.out.row
          have ck : w7.cell? ⟨gl, k, none⟩ = some (.int .i64 ((labsE p xs i)[k] : Int)) := by
            simp only [World.cell?, hrw]
            have := rowL_get (labsE p xs i ++ [layIn (depE p) ((tl (depE p) [] (xs.take i)).take k) xi]) xs.length k (by simp; omega)
            rw [List.getElem_append_left hkL] at this
            simpa using this
          have ci : w7.cell? ⟨gl, i, none⟩ = some (.int .i64 (layIn (depE p) ((tl (depE p) [] (xs.take i)).take k) xi : Int)) := by
            simp only [World.cell?, hrw]
            have := rowL_get (labsE p xs i ++ [layIn (depE p) ((tl (depE p) [] (xs.take i)).take k) xi]) xs.length i (by simp; omega)
            have e : (labsE p xs i ++ [layIn (depE p) ((tl (depE p) [] (xs.take i)).take k) xi])[i]'(by simp; omega) = layIn (depE p) ((tl (depE p) [] (xs.take i)).take k) xi := by
              rw [List.getElem_append_right (by omega)]; simp
            rw [e] at this
            simpa using this
          have fi : w7.frozen? ⟨gl, i, none⟩ = false := by simp [World.frozen?, hrw]
          clear hrw
          generalize hlk : (labsE p xs i)[k] = lk at *
          generalize hc : layIn (depE p) ((tl (depE p) [] (xs.take i)).take k) xi = c at *
          generalize hc1 : layIn (depE p) ((tl (depE p) [] (xs.take i)).take (k + 1)) xi = c1 at *
          have HC1 := hide hc1
          clear hlk hc hc1
          have v0 : (lk : Int) ≤ 500 := by omega
          have v1 : (c : Int) ≤ 500 := by omega
          cases D with
          | false =>
            have hcc : c1 = c := by have := HLF.out; simpa using this
            go_wp2_with fail
            go_quiet (fail)
            go_wp2_with fail
            go_roundw
            case rel => exact ⟨k + 1, by omega, by go_num, by rw [HC1.out, hcc]; exact HK7.out.grown (grown_dnR _)⟩
            case measure => simp [intOf]; omega
          | true =>
            have hcm : c1 = max c (lk + 1) := by have := HLF.out; simpa using this
            by_cases hle : c ≤ lk
            · have v2 : (c : Int) ≤ (lk : Int) := by omega
              have hcc : c1 = lk + 1 := by omega
              go_wp2_with fail
              go_quiet (fail)
              go_wp2_with fail
              go_roundw
              case rel => exact ⟨k + 1, by omega, by go_num, by rw [HC1.out, hcc]; exact LyIn.put (HK7.out.grown (grown_dnR _)) hll (lk + 1) _ (by omega)⟩
              case measure => simp [intOf]; omega
            · have v2 : (lk : Int) < (c : Int) := by omega
              have hcc : c1 = c := by omega
              go_wp2_with fail
              go_quiet (fail)
              go_wp2_with fail
              go_roundw
              case rel => exact ⟨k + 1, by omega, by go_num, by rw [HC1.out, hcc]; exact HK7.out.grown (grown_dnR _)⟩
              case measure => simp [intOf]; omega
        · have u1 : (i : Int) ≤ (k : Int) := by omega
          have hki : k = i := by omega
          have HLN : Hid (labsE p xs (i + 1) = labsE p xs i ++ [layIn (depE p) ((tl (depE p) [] (xs.take i)).take k) xs[i]]) := by unfold Hid; rw [hki]; exact labsE_next p xs i hlt
          clear hki
          go_wp2_with fail
          go_roundw
          case rel => exact ⟨i + 1, by omega, by go_num, by rw [HLN.out]; exact HK.out⟩
          case measure => simp [intOf]; omega
    · have t1 : (xs.length : Int) ≤ (i : Int) := by omega
      have hin : i = xs.length := by omega
      have HIN := hide hin
      clear hin
      go_upto_if 21 with fail
      refine wp_cond_false rfl ?_
      refine wp_exit ?_
      refine ‹∀ a w, Code.wp Tryz.prog _ _ a w → _› _ _ ?_
      obtain ⟨base, hrow⟩ := HR.out.row
      refine refTail (p := p) h500 (HGL.out _ _ HR.out.c10 w5 HI.out.gr) ?_ ?_
      · intro j hj
        obtain ⟨g, hg, s0, s1⟩ := steps_at hrow HSt.out.st hj
        have hjl : j < (labsE p xs xs.length).length := by rw [labsE_len _ _ _ (Nat.le_refl _)]; exact hj
        have hti := (HSt.out.th _ (List.getElem_mem hj)).1
        refine ⟨g, (labsE p xs xs.length)[j], xs[j].t, ?_, hg, ?_, HGL.out _ _ s0 w5 HI.out.gr, Nat.le_trans (labs_le p xs j hj) h500, by omega⟩
        · rw [List.getElem?_eq_getElem (by rw [keysE_len]; exact hj), keys_at p xs j hj]
        · have hr := HI.out.row
          rw [HIN.out] at hr
          simp only [World.cell?, hr]
          have := rowL_get (labsE p xs xs.length) xs.length j hjl
          simpa using this
      · intro z0 z1 z3 z4 z5 z6 z7 z8 z9 z10 z11 z12 z13 z14 z15 z16 z17 z18 z19 z20 z21 z22 z23 z24 z25 z26 z27 z28 z29 z30 z31 z32 z33 z34 z35 z36 z37 z38 z39 z40 z41 z42 z43 z44 z45 z46 z47 z48 z49 z50 z51 z52 z53 z54 z55 z56 z57 z58 z59 z60 z61 z62 z63 z64 z65 z66 z67 z68 z69 z70 z71 z72 z73 z74 z75 z76 z77 z78 z79 z80 z81 z82 z83 z84 z85 z86 z87 z88 z89 z90 z91 z92 z93 z94 z95 z96 z97 z98 z99 z100 z101 z102 z103 z104 z105 z106 z107 z108 z109 z110 z111 z112 z113 z114 z115 z116 v w' hO
        have HO := hide hO
        clear hO
        go_ret
        refine ⟨v, rfl, ?_, ?_⟩
        · have hf := form_through (p := p) (xs := xs) (fun e he => by have := (HSt.out.th e he).1; omega)
          have hr := HO.out.row
          unfold thr at hr
          rw [← hf] at hr
          exact owns_mono hr (by have := HI.out.gr.size; have := HG3.out.size; omega)
        · exact grown_trans (grown_row' HG3.out HI.out.gr (by have := HGLQ.out; omega)) HO.out.gr

end Go.Proofs.YtklenjmfalljgaaGreatDoor

/- On beginnings of runs. -/
namespace Go.Proofs.YtklenjmfalljgaaGreatDoor

theorem follow_fst (p : List (List Ins)) : ∀ (l : List Int) (i : Int) (s : St) (acc : List (Int × Int)), ∃ m, m ≤ l.length ∧ (follow p l i s acc).steps.map (·.1) = acc.map (·.1) ++ l.take m ∧ acc.length + m = (follow p l i s acc).steps.length ∧ ∃ more, (follow p l i s acc).steps = acc ++ more
  | [], i, s, acc => ⟨0, Nat.le_refl _, by simp [follow_nil], by simp [follow_nil], [], by simp [follow_nil]⟩
  | t :: r, i, s, acc => by
    by_cases h1 : okAt p s t = true
    · by_cases h2 : (stepS p s t.toNat).1 = true
      · rw [follow_go p t r i s acc h1 h2]
        obtain ⟨m, q1, q2, q3, more, q4⟩ := follow_fst p r (i + 1) (stepS p s t.toNat).2 (acc ++ [(t, s.next t.toNat)])
        refine ⟨m + 1, by simp; omega, by rw [q2]; simp, by rw [← q3]; simp; omega, (t, s.next t.toNat) :: more, by rw [q4]; simp⟩
      · have h3 : (stepS p s t.toNat).1 = false := by simpa using h2
        rw [follow_fail p t r i s acc h1 h3]
        exact ⟨1, by simp, by simp, by simp, _, rfl⟩
    · have h3 : okAt p s t = false := by simpa using h1
      rw [follow_wrong p t r i s acc h3]
      exact ⟨0, by simp, by simp, by simp, [], by simp⟩

theorem sched_fst {p : List (List Ins)} {a : List Int} (h : Sched p a) : (runS p a).steps.map (·.1) = a := by
  obtain ⟨m, q1, q2, q3, _⟩ := follow_fst p a 0 St.zero []
  have h2 := h.2
  unfold runS at *
  simp at q2 q3
  have : m = a.length := by omega
  rw [q2, this]; simp

theorem stp_steps {p : List (List Ins)} {a b : List Int} {s' : St} {acc' : List (Int × Int)} (h : stp p a St.zero [] = some (s', acc')) : ∃ more, (runS p (a ++ b)).steps = acc' ++ more := by
  have e : runS p (a ++ b) = follow p b (0 + a.length) s' acc' := follow_stp p a b 0 St.zero [] s' acc' h
  obtain ⟨_, _, _, _, more, q⟩ := follow_fst p b (0 + a.length) s' acc'
  exact ⟨more, by rw [e]; exact q⟩

/-- A beginning of such a schedule goes through, and the next number may go on. -/
theorem sched_prefix {p : List (List Ins)} {a : List Int} (h : Sched p a) {k : Nat} (hk : k < a.length) :
    ∃ s' acc', stp p (a.take k) St.zero [] = some (s', acc') ∧ acc' = (runS p a).steps.take k ∧ okAt p s' a[k] = true := by
  have ea : a = a.take k ++ a.drop k := (List.take_append_drop k a).symm
  have ed : a.drop k = a[k] :: a.drop (k + 1) := List.drop_eq_getElem_cons hk
  have hlk : (a.take k).length = k := by simp; omega
  cases hs : stp p (a.take k) St.zero [] with
  | none =>
    exfalso
    have e1 := (follow_none p (a.take k) (a.drop k) 0 St.zero [] hs).1
    rw [← ea] at e1
    obtain ⟨m, q1, _, q3, _⟩ := follow_fst p (a.take k) 0 St.zero []
    have h2 := h.2
    unfold runS at h2
    rw [e1, ← q3] at h2
    simp at h2 q1
    omega
  | some x =>
    obtain ⟨s', acc'⟩ := x
    have hl := stp_len p _ _ _ _ _ hs
    have e1 : runS p a = follow p (a.drop k) (0 + (a.take k).length) s' acc' := by
      have := follow_stp p (a.take k) (a.drop k) 0 St.zero [] s' acc' hs
      rw [← ea] at this; exact this
    refine ⟨s', acc', rfl, ?_, ?_⟩
    · obtain ⟨more, q⟩ := stp_steps (b := a.drop k) hs
      rw [← ea] at q
      rw [q, List.take_left' (by simpa [hlk] using hl)]
    · cases ho : okAt p s' a[k] with
      | true => rfl
      | false =>
        exfalso
        rw [ed, follow_wrong p _ _ _ _ _ ho] at e1
        have := h.1
        rw [e1] at this
        exact this rfl

/-- The beginning: its run. -/
theorem cut_run {p : List (List Ins)} {a : List Int} (h : Sched p a) {k : Nat} (hk : k ≤ a.length) :
    (runS p (a.take k)).steps = (runS p a).steps.take k ∧ (k < a.length → (runS p (a.take k)).kind = 5 ∧ (runS p (a.take k)).thread = 0 ∧ (runS p (a.take k)).at_ = 0) := by
  by_cases hlt : k < a.length
  · obtain ⟨s', acc', h1, h2, h3⟩ := sched_prefix h hlt
    rw [run_stp h1]
    refine ⟨h2, fun _ => ⟨?_, rfl, rfl⟩⟩
    simp only [okAt, Bool.and_eq_true, belowB, decide_eq_true_eq] at h3
    have hr : (List.range p.length).any (readyB p s') = true := List.any_eq_true.2 ⟨a[k].toNat, List.mem_range.2 (by omega), h3.2⟩
    simp [endingS, hr]
  · have e : k = a.length := by omega
    subst e
    have := h.2
    refine ⟨?_, fun h => absurd h hlt⟩
    rw [List.take_length, List.take_of_length_le (by omega)]

/-- With a number that is nobody's in between. -/
theorem cut_wrong {p : List (List Ins)} {a : List Int} (h : Sched p a) {k : Nat} (hk : k ≤ a.length) (x : Int) (hx : x < 0 ∨ (p.length : Int) ≤ x) :
    ((runS p (a.take k)).kind = 1 → runS p (a.take k ++ [x] ++ a.drop k) = runS p (a.take k)) ∧
    ((runS p (a.take k)).kind ≠ 1 → runS p (a.take k ++ [x] ++ a.drop k) = ⟨(runS p (a.take k)).steps, 2, 0, k, (runS p (a.take k)).st⟩) := by
  have hlk : (a.take k).length = k := by simp; omega
  cases hs : stp p (a.take k) St.zero [] with
  | none =>
    have e1 := follow_none p (a.take k) ([x] ++ a.drop k) 0 St.zero [] hs
    rw [← List.append_assoc] at e1
    refine ⟨fun _ => e1.1, fun hne => ?_⟩
    exfalso
    have hk2 : (runS p (a.take k)).kind = 2 := by
      rcases e1.2 with e | e
      · exact absurd e hne
      · exact e
    by_cases hlt : k < a.length
    · obtain ⟨s', acc', h1, _⟩ := sched_prefix h hlt
      rw [hs] at h1; cases h1
    · have e : k = a.length := by omega
      subst e
      rw [List.take_length] at hk2
      exact h.1 hk2
  | some y =>
    obtain ⟨s', acc'⟩ := y
    have er := run_stp hs
    have e1 : runS p (a.take k ++ [x] ++ a.drop k) = follow p ([x] ++ a.drop k) (0 + (a.take k).length) s' acc' := by
      rw [List.append_assoc]
      exact follow_stp p (a.take k) ([x] ++ a.drop k) 0 St.zero [] s' acc' hs
    have ho : okAt p s' x = false := by
      simp only [okAt, belowB, Bool.and_eq_false_iff, decide_eq_false_iff_not]
      left; omega
    have hend := endingS_range p s'
    rw [er]
    refine ⟨fun h1 => by simp only at h1; omega, fun _ => ?_⟩
    rw [e1, List.singleton_append, follow_wrong p x _ _ s' acc' ho, hlk]
    simp

end Go.Proofs.YtklenjmfalljgaaGreatDoor
