/- The walk of the hands' back. -/
import Derived.Test.YthgeiolabecikaaDoorHnd2
namespace Go.Proofs.YthgeiolabecikaaDoor
open Go.RowKit
attribute [local go_sem] Go.World.cell?_alloc_some

theorem lentRow_len (l : List Int) : (lentRow l).size = l.length + 2 := by simp [lentRow, ints_len]
theorem lentRow_at (l : List Int) (k : Nat) (hk : k < l.length) : (lentRow l)[k]? = some (.int .i64 l[k]) := by
  simp [lentRow, ints, List.getElem?_append, hk]
theorem lentRow_ink0 (l : List Int) : (lentRow l)[l.length]? = some ink := by
  simp [lentRow, ints_len]
theorem lentRow_ink1 (l : List Int) : (lentRow l)[l.length + 1]? = some ink := by
  simp [lentRow, ints_len]

theorem lent_ints {w : World} {g : Nat} {l : List Int} (h : w.heap[g]? = some (.cells (lentRow l) 3 (0, 0))) : IntsAt w.heap.size w (.slice (some ⟨g, 0, none⟩) l.length (l.length + 2)) l := by
  refine ⟨some ⟨g, 0, none⟩, l.length + 2, rfl, by omega, fun k hk => ⟨g, 0, rfl, (Array.getElem?_eq_some_iff.1 h).1, ?_⟩⟩
  rw [Nat.zero_add]
  simp only [World.cell?, h]
  exact lentRow_at l k hk

def Turned (w : World) (b g : Nat) (w' : World) : Prop := w'.os = w.os ∧ w'.tape = w.tape ∧ w'.output = w.output ∧ w.heap.size ≤ w'.heap.size ∧ ∀ k, k < w.heap.size → k ≠ b → k ≠ g → w'.heap[k]? = w.heap[k]?
theorem Turned.refl (w : World) (b g : Nat) : Turned w b g w := ⟨rfl, rfl, rfl, Nat.le_refl _, fun _ _ _ _ => rfl⟩
theorem Turned.below {w w1 w2 : World} {b g : Nat} (h : Turned w b g w1) (hb : Below w1.heap.size w1 w2) : Turned w b g w2 :=
  ⟨hb.os.trans h.1, hb.tape.trans h.2.1, hb.output.trans h.2.2.1, Nat.le_trans h.2.2.2.1 hb.size, fun k hk h1 h2 => by rw [hb.block k (Nat.lt_of_lt_of_le hk h.2.2.2.1)]; exact h.2.2.2.2 k hk h1 h2⟩
theorem Turned.set {w w1 : World} {b g c o : Nat} {v : Value} (h : Turned w b g w1) (hc : c = b ∨ c = g) : Turned w b g (w1.setCell ⟨c, o, none⟩ v) :=
  ⟨h.1, h.2.1, h.2.2.1, by simpa using h.2.2.2.1, fun k hk h1 h2 => by rw [Below.heap_setCell _ _ _ _ (by rcases hc with rfl | rfl <;> simpa using by assumption)]; exact h.2.2.2.2 k hk h1 h2⟩
theorem Turned.like {w w1 w2 : World} {b g : Nat} (h : Turned w b g w1) (hl : Like w2 w1) : Turned w b g w2 :=
  ⟨hl.2.1.trans h.1, hl.2.2.2.trans h.2.1, hl.2.2.1.trans h.2.2.1, by rw [hl.1]; exact h.2.2.2.1, fun k hk h1 h2 => by rw [hl.1]; exact h.2.2.2.2 k hk h1 h2⟩

/-- In the midst of the writing over: the first k are 3. -/
structure OverIn (w : World) (b g : Nat) (iv wv : Value) (n : Int) (ov mv : Value) (sz : Nat) (w' : World) : Prop where
  turned : Turned w b g w'
  h : HAt w' b iv wv n ov mv
  row : ∃ R : Array Value, R.size = sz ∧ w'.heap[g]? = some (.cells R 3 (0, 0))

set_option maxRecDepth 100000 in
set_option maxHeartbeats 1000000 in
theorem back_h (b g g1 c1 g2 c2 : Nat) (n : Int) (ov mv lv : Value) (l : List Int) (w : World) (hln : l.length ≤ 1048576)
    (h : HAt w b (.slice (some ⟨g1, 0, none⟩) 1 c1) (.slice (some ⟨g2, 0, none⟩) 1 c2) n ov mv) (h1 : w.cell? ⟨g1, 0, none⟩ = some (.slice (some ⟨g, 0, none⟩) (l.length + 2) (l.length + 2))) (h2 : w.cell? ⟨g2, 0, none⟩ = some lv)
    (hr : w.heap[g]? = some (.cells (lentRow l) 3 (0, 0))) (hI : IntsAt w.heap.size w lv l) (hgb : g ≠ b) (_hg1 : g1 ≠ b) (_hg1g : g1 ≠ g) :
    Calls Tryd.prog 33 #[pt b] w fun e w' => e = .returned (.bool true) ∧ HAt w' b (.slice none 0 0) (.slice none 0 0) n ov mv ∧ Turned w b g w' := by
  have HH := hide h
  have HR := hide hr
  have HI := hide hI
  obtain ⟨ao, cap, rfl⟩ := hI.form
  have a0 : w.cell? ⟨b, 0, none⟩ = some (.slice (some ⟨g1, 0, none⟩) 1 c1) := h.cell 0
  have a1 : w.cell? ⟨b, 1, none⟩ = some (.slice (some ⟨g2, 0, none⟩) 1 c2) := h.cell 1
  have a2 : w.cell? ⟨b, 2, none⟩ = some (.slice none 0 0) := h.cell 2
  have a4 : w.cell? ⟨b, 4, none⟩ = some (.slice none 0 0) := h.cell 4
  have hpt : pt b = .pointer (some ⟨b, 0, none⟩) := rfl
  rw [hpt]
  clear h hr hI hpt
  go_enter Tryd.func33, Tryd.ntmps33
  go_wp2_with fail
  go_loopw [3, 5] (fun ok i w' => ok = .bool true ∧ i = .int .i64 0 ∧ Hid (w' = w)) (fun _ _ _ => 0)
  case atStart => exact ⟨rfl, rfl, hide rfl⟩
  case round =>
    obtain ⟨rfl, rfl, HW⟩ := hrel
    rw [HW.out]
    clear HW
    go_wp2_with fail
    go_loopw [3, 11] (fun ok i w' => ok = .bool true ∧ i = .int .i64 0 ∧ Hid (w' = w)) (fun _ _ _ => 0)
    case atStart => exact ⟨rfl, rfl, hide rfl⟩
    case round =>
      obtain ⟨rfl, rfl, HW⟩ := hrel
      rw [HW.out]
      clear HW
      go_wp2_with fail
      go_loopw [3, 16] (fun ok i w' => ok = .bool true ∧ ((i = .int .i64 0 ∧ Hid (w' = w)) ∨ (i = .int .i64 1 ∧ Hid (OverIn w b g (.slice (some ⟨g1, 0, none⟩) 1 c1) (.slice (some ⟨g2, 0, none⟩) 1 c2) n ov mv (l.length + 2) w')))) (fun _ i _ => 1 - (intOf i).toNat)
      case atStart => exact ⟨rfl, Or.inl ⟨rfl, hide rfl⟩⟩
      case round =>
        obtain ⟨rfl, hrel⟩ := hrel
        rcases hrel with ⟨rfl, HW⟩ | ⟨rfl, HO⟩
        · rw [HW.out]
          clear HW
          go_wp2_with fail
          have callS : ∀ (d : Nat) (os : Array Obj), Calls Tryd.prog 52 #[.slice (some ⟨g, 0, none⟩) l.length (l.length + 2), .slice ao l.length cap] (Sort.grow (redrawn w d) os) fun e w'' => e = .returned (.bool true) ∧ ∃ p : Regrown, w'' = Sort.grow (redrawn w p.d) p.os := by
            intro d os
            have hbel := grown_below' (below_regrown w d os)
            refine Calls.regrown_of ((same_m l l _ _ _ (((lent_ints HR.out).pres (pres_grown hbel)).mono hbel.size) ((HI.out.pres (pres_grown hbel)).mono hbel.size) (by omega)).mono ?_)
            rintro e w' ⟨rfl, hl⟩
            refine ⟨by simp, ?_⟩
            have := grown_of_like (r := none) hl
            exact ⟨this.os, this.tape, this.output, this.size, fun k hk => this.block k hk (by simp)⟩
          have k1 := fun d os => cell_regrown a1 d os
          have k2 := fun d os => cell_regrown h2 d os
          have qn0 : (0 : Int) ≤ (l.length : Int) := by omega
          have qn : (l.length : Int) ≤ (l.length : Int) + 2 := by omega
          refine wp_region_quiet_below (by kernel_rfl) (by kernel_rfl) ?_
          repeat (quiet_step (exact callS _ _))
          refine wpQuiet_nil ?_
          intro w6 hw6
          obtain ⟨⟨dq, osq⟩, hw6⟩ := hw6
          have hB6 := below_regrown w dq osq
          rw [← hw6] at hB6
          clear hw6 callS k1 k2
          have hG6 := grown_below' hB6
          have HT6 : Hid (Turned w b g w6) := (Turned.refl w b g).below hB6
          have hr6 : w6.heap[g]? = some (.cells (lentRow l) 3 (0, 0)) := by
            rw [hG6.block g (Array.getElem?_eq_some_iff.1 HR.out).1 (by simp)]; exact HR.out
          have HH6 := hide (HH.out.grown hG6 (by simp))
          have x0 : w6.cell? ⟨g, l.length, none⟩ = some (.int .i64 (-77000000)) := by simp only [World.cell?, hr6]; exact lentRow_ink0 l
          have x1 : w6.cell? ⟨g, l.length + 1, none⟩ = some (.int .i64 (-77000000)) := by simp only [World.cell?, hr6]; exact lentRow_ink1 l
          have HOV : Hid (OverIn w b g (.slice (some ⟨g1, 0, none⟩) 1 c1) (.slice (some ⟨g2, 0, none⟩) 1 c2) n ov mv (l.length + 2) w6) := ⟨HT6.out, HH6.out, lentRow l, lentRow_len l, hr6⟩
          have qn1 : (l.length : Int) < (l.length : Int) + 2 := by omega
          have qn2 : (l.length : Int) + 1 < (l.length : Int) + 2 := by omega
          clear hB6 hG6 hr6 a0 a1 a2 a4 h1 h2
          go_wp2_with fail
          go_loopw [20] (fun i w' => ∃ k : Nat, k ≤ l.length + 2 ∧ i = .int .i64 k ∧ Hid (OverIn w b g (.slice (some ⟨g1, 0, none⟩) 1 c1) (.slice (some ⟨g2, 0, none⟩) 1 c2) n ov mv (l.length + 2) w')) (fun i _ => l.length + 2 - (intOf i).toNat)
          case atStart => exact ⟨0, by omega, rfl, HOV⟩
          case round =>
            obtain ⟨k, hk, rfl, HOK⟩ := hrel
            obtain ⟨w7, hw7⟩ : ∃ w7, w7 = wr := ⟨_, rfl⟩
            rw [← hw7] at HOK ⊢
            clear hw7
            by_cases hlt : k < l.length + 2
            · obtain ⟨R, hRs, hRr⟩ := HOK.out.row
              have y0 : ∃ u, w7.cell? ⟨g, k, none⟩ = some u := ⟨R[k]'(by omega), by simp only [World.cell?, hRr]; exact Array.getElem?_eq_getElem _⟩
              obtain ⟨u, y0⟩ := y0
              have y1 : w7.frozen? ⟨g, k, none⟩ = false := by simp [World.frozen?, hRr]
              have HNX : Hid (OverIn w b g (.slice (some ⟨g1, 0, none⟩) 1 c1) (.slice (some ⟨g2, 0, none⟩) 1 c2) n ov mv (l.length + 2) (w7.setCell ⟨g, k, none⟩ (.int .i64 3))) :=
                ⟨HOK.out.turned.set (Or.inr rfl), HOK.out.h.setOther (fun e => hgb e.symm), R.setIfInBounds k (.int .i64 3), by simpa using hRs, heap_setCell_same w7 g k R _ _ hRr⟩
              have z0 : (0 : Int) ≤ (k : Int) := by omega
              have z1 : (k : Int) < (l.length : Int) + 2 := by omega
              clear hRr hRs
              go_wp2_with fail
              go_roundw
              case rel => exact ⟨k + 1, by omega, by go_num, HNX⟩
              case measure => simp [intOf]; omega
            · have z1 : (l.length : Int) + 2 ≤ (k : Int) := by omega
              go_wp2_with fail
              go_roundw
              case rel => exact ⟨rfl, Or.inr ⟨rfl, HOK⟩⟩
              case measure => simp [intOf]
        · have b0 : wr.cell? ⟨b, 0, none⟩ = some (.slice (some ⟨g1, 0, none⟩) 1 c1) := HO.out.h.cell 0
          obtain ⟨w7, hw7⟩ : ∃ w7, w7 = wr := ⟨_, rfl⟩
          rw [← hw7] at HO b0 ⊢
          clear hw7 a0 a1 a2 a4 h1 h2
          have HB0 := HO.out.h
          have e4 : w7.cell? ⟨b, 4, none⟩ = some (.slice none 0 0) := HB0.cell 4
          have e2 : w7.cell? ⟨b, 2, none⟩ = some (.slice none 0 0) := HB0.cell 2
          have e3 : w7.cell? ⟨b, 3, none⟩ = some (.slice none 0 0) := HB0.cell 3
          have e1 : w7.cell? ⟨b, 1, none⟩ = some (.slice (some ⟨g2, 0, none⟩) 1 c2) := HB0.cell 1
          have f4 := HB0.frozen 4
          have f2 := HB0.frozen 2
          have f3 := HB0.frozen 3
          have f0 := HB0.frozen 0
          have f1 := HB0.frozen 1
          clear HB0
          go_wp2_with fail
          go_ret
          refine ⟨rfl, ?_, ?_⟩
          · have HB := HO.out.h
            unfold HAt at *
            have s4 := heap_setCell_same _ b 4 _ _ (.slice none 0 0) HB
            have s2 := heap_setCell_same _ b 2 _ _ (.slice none 0 0) s4
            have s3 := heap_setCell_same _ b 3 _ _ (.slice none 0 0) s2
            have s0 := heap_setCell_same _ b 0 _ _ (.slice none 0 0) s3
            have s1 := heap_setCell_same _ b 1 _ _ (.slice none 0 0) s0
            rw [s1]; rfl
          · exact ((((HO.out.turned.set (Or.inl rfl)).set (Or.inl rfl)).set (Or.inl rfl)).set (Or.inl rfl)).set (Or.inl rfl)

end Go.Proofs.YthgeiolabecikaaDoor
