/- The walk of the hands' schedule. -/
import Derived.Test.YthgeiolabecikaaDoorHnd
namespace Go.Proofs.YthgeiolabecikaaDoor
open Go.RowKit
attribute [local go_sem] Go.World.cell?_alloc_some

/-- copy of a list of numbers onto a row of one's own. -/
theorem run_copy_ints {P : Program} (w : World) (t ty elem : TypeId) (hu : P.underlying t = some (.slice elem)) (hsz : (P.info? elem).map (·.size) = some 1) (g dLen dCap : Nat) (sv : Value) (B : Nat) (l : List Int) (hI : IntsAt B w sv l) (cur : Array Value) (ct : TypeId) (hg : w.heap[g]? = some (.cells cur ct (0, 0))) (hln : l.length ≤ dLen) (hfit : l.length ≤ cur.size) :
    ∃ w', (Builtin.copy_ #[t, t] ty #[.slice (some ⟨g, 0, none⟩) dLen dCap, sv]).run P w = .ok (goInt l.length) w' ∧ w'.heap[g]? = some (.cells (ints l ++ cur.toList.drop l.length).toArray ct (0, 0)) ∧ w.grownBy w' (some g) := by
  obtain ⟨ao, cap, e, hcap, hc⟩ := hI
  subst e
  by_cases h0 : l.length = 0
  · have hl : l = [] := List.length_eq_zero_iff.1 h0
    subst hl
    refine ⟨w, run_copy_none (P := P) w t t ty elem _ _ dLen dCap _ cap hu hsz (by simp), ?_, grown_refl _ _⟩
    rw [hg]; simp [ints]
  · obtain ⟨g', o', e', _, _⟩ := hc 0 (by omega)
    subst e'
    have hcc : ∀ k (hk : k < l.length), w.cell? ⟨g', o' + k, none⟩ = some (.int .i64 l[k]) := by
      intro k hk
      obtain ⟨g2, o2, e2, _, c⟩ := hc k hk
      simp only [Option.some.injEq, Addr.mk.injEq, and_true] at e2
      obtain ⟨rfl, rfl⟩ := e2
      exact c
    have hmin : Nat.min l.length dLen = l.length := Nat.min_eq_left hln
    have hr := run_copy_row (P := P) w t t ty elem g 0 dLen dCap ⟨g', o', none⟩ l.length cap cur ct (ints l) hu hsz hg (by rw [ints_len, hmin]) (fun j v hj => by
      have hjl : j < l.length := by have := (List.getElem?_eq_some_iff.1 hj).1; rwa [ints_len] at this
      have hadd : (⟨g', o', none⟩ : Addr).add j = ⟨g', o' + j, none⟩ := by unfold Addr.add; split <;> simp_all
      rw [hadd, hcc j hjl, ← hj]
      simp [ints, hjl]) (by rw [ints_len]; omega) (ints_one l)
    rw [ints_len] at hr
    simp only [List.take_zero, List.nil_append, Nat.zero_add] at hr
    exact ⟨_, hr, setRow_heap w g cur _ ct (0, 0) hg, ⟨rfl, rfl, rfl, by simp, fun k hk hr => setRow_other w g k _ (fun e => hr (by rw [e]))⟩⟩

def ink : Value := .int .i64 (-77000000)
def lentRow (l : List Int) : Array Value := (ints l ++ [ink, ink]).toArray

theorem info_ints : ((Tryd.prog.info? 25).map fun i => (i.zero, i.size, i.bytes)) = some (some (.slice none 0 0), 1, 24) := by kernel_rfl

/-- What the hands' schedule leaves: the list x that was lent lies at g; the hands hold it, and what stood in it. -/
structure LentAt (w : World) (b g : Nat) (n : Int) (ov mv lv : Value) (l : List Int) (w' : World) : Prop where
  h : ∃ g1 c1 g2 c2, HAt w' b (.slice (some ⟨g1, 0, none⟩) 1 c1) (.slice (some ⟨g2, 0, none⟩) 1 c2) n ov mv ∧ w'.cell? ⟨g1, 0, none⟩ = some (.slice (some ⟨g, 0, none⟩) (l.length + 2) (l.length + 2)) ∧ w'.cell? ⟨g2, 0, none⟩ = some lv ∧ g1 ≠ b ∧ g2 ≠ b ∧ g1 ≠ g ∧ g2 ≠ g
  row : w'.heap[g]? = some (.cells (lentRow l) 3 (0, 0))
  gb : g ≠ b
  lo : w.heap.size ≤ g

theorem row_ink (l : List Int) (cur : Array Value) (hc : cur.size = l.length + 2) : ((ints l ++ cur.toList.drop l.length).toArray.setIfInBounds l.length ink).setIfInBounds (l.length + 1) ink = lentRow l := by
  obtain ⟨c⟩ := cur
  simp at hc
  obtain ⟨x, y, h1⟩ : ∃ x y, c.drop l.length = [x, y] := ⟨c[l.length]'(by omega), c[l.length + 1]'(by omega), by
    rw [List.drop_eq_getElem_cons (by omega), List.drop_eq_getElem_cons (by omega), List.drop_eq_nil_of_le (by omega)]⟩
  have e1 : ∀ (a : List Value) (x y z : Value) (k : Nat), k = a.length → (a ++ [x, y]).set k z = a ++ [z, y] := by
    intro a x y z k hk; subst hk; rw [List.set_append]; simp
  have e2 : ∀ (a : List Value) (x y z : Value) (k : Nat), k = a.length → (a ++ [x, y]).set (k + 1) z = a ++ [x, z] := by
    intro a x y z k hk; subst hk; rw [List.set_append, if_neg (by omega)]; simp
  have el := (ints_len l).symm
  simp only [h1, List.setIfInBounds_toArray, lentRow]
  rw [e1 _ _ _ _ _ el, e2 _ _ _ _ _ el]

set_option maxRecDepth 100000 in
set_option maxHeartbeats 1000000 in
theorem schedule_h (b : Nat) (n : Int) (ov mv lv : Value) (l : List Int) (w : World) (h : HAt w b (.slice none 0 0) (.slice none 0 0) n ov mv) (hI : IntsAt w.heap.size w lv l) (hln : l.length ≤ 1048576) :
    Calls Tryd.prog 32 #[pt b, lv] w fun e w' => ∃ g, e = .returned (.slice (some ⟨g, 0, none⟩) l.length (l.length + 2)) ∧ LentAt w b g n ov mv lv l w' ∧ w.grownBy w' (some b) := by
  obtain ⟨i0, hi0, hz0, hz1, hz2⟩ := info_parts info_int
  obtain ⟨i1, hi1, hy0, hy1, hy2⟩ := info_parts info_ints
  have HH := hide h
  have HI := hide hI
  have hb := h.lt
  obtain ⟨ao, cap, rfl⟩ := hI.form
  have hpt : pt b = .pointer (some ⟨b, 0, none⟩) := rfl
  rw [hpt]
  clear h hI hpt
  have q0 : (l.length : Int) ≤ 1048576 := by omega
  have q1 : (0 : Int) ≤ (l.length : Int) := by omega
  have hsz1 : (Tryd.prog.info? 3).map (·.size) = some 1 := by rw [hi0]; simp [hz1]
  go_enter Tryd.func32, Tryd.ntmps32
  go_upto_region 3 with (at_make; refine wpList_make_full _ rfl _ _ _ rfl w.heap.size 3 i0 _ 1 Tryd.underlying25 hi0 hz0 hz1 .i64 .i64 _ _ (l.length + 2) rfl rfl (by simp) (by simp) (by rw [hz2]; omega) (by unfold maxLen; omega) (by simp) ?_; intro w2 hown2 hg2)
  have hrow2 : ∃ cur, w2.heap[w.heap.size]? = some (.cells cur 3 (0, 0)) ∧ cur.size = l.length + 2 := by
    rcases hown2.2 with ⟨e, _⟩ | ⟨g', cap', cur, hv, _, hh, _, _, hcs, _⟩
    · cases e
    · simp only [Value.slice.injEq, Option.some.injEq, Addr.mk.injEq, true_and, and_true] at hv
      obtain ⟨rfl, rfl⟩ := hv
      exact ⟨cur, hh, by simpa using hcs⟩
  obtain ⟨cur, hcur, hcsz⟩ := hrow2
  have HG2 := hide hg2
  have HI2 : Hid (IntsAt w2.heap.size w2 (.slice ao l.length cap) l) := (HI.out.pres (pres_grown hg2)).mono hg2.size
  have HH2 : Hid (HAt w2 b (.slice none 0 0) (.slice none 0 0) n ov mv) := HH.out.grown hg2 (by simp)
  have HCUR := hide hcur
  clear hown2 hg2 hcur HI
  obtain ⟨w3, hrun, hrow3, hg3⟩ := run_copy_ints w2 25 3 3 Tryd.underlying25 hsz1 w.heap.size (l.length + 2) (l.length + 2) (.slice ao l.length cap) w2.heap.size l HI2.out cur 3 HCUR.out (by omega) (by omega)
  go_upto_region 4 with fail
  clear hrun
  have HH3 : Hid (HAt w3 b (.slice none 0 0) (.slice none 0 0) n ov mv) := HH2.out.grown hg3 (by simp; omega)
  have HG3 : Hid (w.grownBy w3 none) := ⟨hg3.os.trans HG2.out.os, hg3.tape.trans HG2.out.tape, hg3.output.trans HG2.out.output, Nat.le_trans HG2.out.size hg3.size, fun k hk _ => by
    rw [hg3.block k (Nat.lt_of_lt_of_le hk HG2.out.size) (by simp; omega)]; exact HG2.out.block k hk (by simp)⟩
  have hs3 : w.heap.size < w3.heap.size := (Array.getElem?_eq_some_iff.1 hrow3).1
  obtain ⟨R, hR⟩ : ∃ R : Array Value, R = (ints l ++ cur.toList.drop l.length).toArray := ⟨_, rfl⟩
  rw [← hR] at hrow3
  have hRs : R.size = l.length + 2 := by rw [hR]; simp [ints_len]; omega
  have HRI : Hid ((R.setIfInBounds l.length ink).setIfInBounds (l.length + 1) ink = lentRow l) := by unfold Hid; rw [hR]; exact row_ink l cur hcsz
  have hrow4 := heap_setCell_same w3 w.heap.size l.length R 3 ink hrow3
  have hrow5 := heap_setCell_same _ w.heap.size (l.length + 1) _ 3 ink hrow4
  rw [HRI.out] at hrow5
  have d0 : ∃ u, w3.cell? ⟨w.heap.size, l.length, none⟩ = some u := by
    refine ⟨R[l.length]'(by omega), ?_⟩
    simp [World.cell?, hrow3]
  have d1 : ∃ u, (w3.setCell ⟨w.heap.size, l.length, none⟩ ink).cell? ⟨w.heap.size, l.length + 1, none⟩ = some u := by
    refine ⟨(R.setIfInBounds l.length ink)[l.length + 1]'(by simp; omega), ?_⟩
    simp only [World.cell?, hrow4]
    exact Array.getElem?_eq_getElem _
  obtain ⟨u0, d0⟩ := d0
  obtain ⟨u1, d1⟩ := d1
  have f0 : w3.frozen? ⟨w.heap.size, l.length, none⟩ = false := by simp [World.frozen?, hrow3]
  have f1 : (w3.setCell ⟨w.heap.size, l.length, none⟩ ink).frozen? ⟨w.heap.size, l.length + 1, none⟩ = false := by simp [World.frozen?, hrow4]
  obtain ⟨w5, hw5⟩ : ∃ w5, w5 = (w3.setCell ⟨w.heap.size, l.length, none⟩ ink).setCell ⟨w.heap.size, l.length + 1, none⟩ ink := ⟨_, rfl⟩
  have HH5 : Hid (HAt w5 b (.slice none 0 0) (.slice none 0 0) n ov mv) := by rw [hw5]; exact (HH3.out.setOther (by omega)).setOther (by omega)
  have HG5 : Hid (w.grownBy w5 none) := by rw [hw5]; exact grown_setNew (grown_setNew HG3.out (Nat.le_refl _)) (Nat.le_refl _)
  have HR5 : Hid (w5.heap[w.heap.size]? = some (.cells (lentRow l) 3 (0, 0))) := by rw [hw5]; exact hrow5
  have hs5 : w.heap.size < w5.heap.size := by rw [hw5]; simpa using hs3
  have hink : ink = .int .i64 (-77000000) := rfl
  rw [hink] at hw5 d1 f1
  have HW5 := hide hw5
  clear hrow3 hg3 hR hrow4 hrow5 hw5
  have HC0 : Hid (w5.cell? ⟨b, 0, none⟩ = some (.slice none 0 0)) := HH5.out.cell 0
  go_upto_region 6 with fail
  rw [← HW5.out]
  clear d0 d1 f0 f1 HW5 HCUR HRI
  have c0 := HC0.out
  have f0 := HH5.out.frozen 0
  have hnil5 : ∀ o, (w5.alloc o).ownsRow w.heap.size 25 1 (.slice none 0 0) 0 [] := fun o => ⟨rfl, Or.inl ⟨rfl, rfl⟩⟩
  have HN5 := hide hnil5
  clear hnil5
  go_upto_region 7 with (at_builtin; refine wpList_append_lies _ rfl _ _ _ rfl w.heap.size 25 i1 _ 1 24 Tryd.underlying38 hi1 hy0 hy1 hy2 rfl (by omega) (.slice none 0 0) 0 [] rfl (HN5.out _) ⟨w5.heap.size, 0, none⟩ 1 1 [.slice (some ⟨w.heap.size, 0, none⟩) (l.length + 2) (l.length + 2)] rfl rfl (World.news_of_block (cs := #[.slice (some ⟨w.heap.size, 0, none⟩) (l.length + 2) (l.length + 2)]) (t := 25) (fr := (0, 0)) (heap_alloc_new w5 _)) (by simp [Value.oneCell']) (by omega) (by unfold maxLen; omega) (by omega) (by simp; omega) (w5.heap.size + 1) (by simp) ?_; intro g6 cap6 w6 hown6 hgrow6 hat6 hlt6; have b0 : w6.cell? ⟨b, 0, none⟩ = some (.slice none 0 0) := (pres_grown (grown_trans (grown_alloc (grown_refl w5 none)) hgrow6) _ _ c0); have b1 : w6.frozen? ⟨b, 0, none⟩ = false := ((HH5.out.grown (grown_trans (grown_alloc (grown_refl w5 none)) hgrow6) (by simp)).frozen 0))
  have HG6 : Hid (w5.grownBy w6 none) := grown_trans (grown_alloc (grown_refl w5 none)) hgrow6
  have hg6 : g6 = w5.heap.size + 1 := by
    rcases hat6 with e | e
    · cases e
    · exact e
  have hc6 : w6.cell? ⟨g6, 0, none⟩ = some (.slice (some ⟨w.heap.size, 0, none⟩) (l.length + 2) (l.length + 2)) := by
    have := hown6.cellAt 0 (by omega)
    rw [this]; rfl
  have HH6 : Hid (HAt w6 b (.slice none 0 0) (.slice none 0 0) n ov mv) := HH5.out.grown HG6.out (by simp)
  obtain ⟨w7, hw7⟩ : ∃ w7, w7 = w6.setCell ⟨b, 0, none⟩ (.slice (some ⟨g6, 0, none⟩) (0 + 1) cap6) := ⟨_, rfl⟩
  have HH7 : Hid (HAt w7 b (.slice (some ⟨g6, 0, none⟩) 1 cap6) (.slice none 0 0) n ov mv) := by rw [hw7]; exact HH6.out.set0 _
  have hs7 : w5.heap.size + 1 < w7.heap.size := by rw [hw7]; simp; omega
  have HG7 : Hid (w.grownBy w7 (some b)) := by
    rw [hw7]
    refine grown_trans (grown_trans (r := some b) ⟨HG5.out.os, HG5.out.tape, HG5.out.output, HG5.out.size, fun k hk _ => HG5.out.block k hk (by simp)⟩ ⟨HG6.out.os, HG6.out.tape, HG6.out.output, HG6.out.size, fun k hk _ => HG6.out.block k hk (by simp)⟩) grown_set
  have HR7 : Hid (w7.heap[w.heap.size]? = some (.cells (lentRow l) 3 (0, 0))) := by
    unfold Hid
    rw [hw7, Below.heap_setCell _ _ _ _ (by simp; omega), HG6.out.block _ (by omega) (by simp)]; exact HR5.out
  have hc7 : w7.cell? ⟨g6, 0, none⟩ = some (.slice (some ⟨w.heap.size, 0, none⟩) (l.length + 2) (l.length + 2)) := by
    rw [hw7, World.cell?_of_block (Below.heap_setCell _ _ _ _ (by simp; omega))]; exact hc6
  have HW7 := hide hw7
  have e01 : (0 + 1 : Nat) = 1 := rfl
  clear hown6 hgrow6 hat6 hc6 b0 b1 hw7 c0 f0
  rw [← HW7.out]
  clear HW7
  have c1 : w7.cell? ⟨b, 1, none⟩ = some (.slice none 0 0) := HH7.out.cell 1
  have hnil7 : ∀ o, (w7.alloc o).ownsRow w.heap.size 25 1 (.slice none 0 0) 0 [] := fun o => ⟨rfl, Or.inl ⟨rfl, rfl⟩⟩
  have HN7 := hide hnil7
  clear hnil7
  go_upto_region 8 with (at_builtin; refine wpList_append_lies _ rfl _ _ _ rfl w.heap.size 25 i1 _ 1 24 Tryd.underlying38 hi1 hy0 hy1 hy2 rfl (by omega) (.slice none 0 0) 0 [] rfl (HN7.out _) ⟨w7.heap.size, 0, none⟩ 1 1 [.slice ao l.length cap] rfl rfl (World.news_of_block (cs := #[.slice ao l.length cap]) (t := 25) (fr := (0, 0)) (heap_alloc_new w7 _)) (by simp [Value.oneCell']) (by omega) (by unfold maxLen; omega) (by omega) (by simp; omega) (w7.heap.size + 1) (by simp) ?_; intro g8 cap8 w8 hown8 hgrow8 hat8 hlt8; have b0 : w8.cell? ⟨b, 1, none⟩ = some (.slice none 0 0) := (pres_grown (grown_trans (grown_alloc (grown_refl w7 none)) hgrow8) _ _ c1); have b1 : w8.frozen? ⟨b, 1, none⟩ = false := ((HH7.out.grown (grown_trans (grown_alloc (grown_refl w7 none)) hgrow8) (by simp)).frozen 1))
  have HG8 : Hid (w7.grownBy w8 none) := grown_trans (grown_alloc (grown_refl w7 none)) hgrow8
  have hg8 : g8 = w7.heap.size + 1 := by
    rcases hat8 with e | e
    · cases e
    · exact e
  have hc8 : w8.cell? ⟨g8, 0, none⟩ = some (.slice ao l.length cap) := by
    have := hown8.cellAt 0 (by omega)
    rw [this]; rfl
  have HH8 : Hid (HAt w8 b (.slice (some ⟨g6, 0, none⟩) 1 cap6) (.slice none 0 0) n ov mv) := HH7.out.grown HG8.out (by simp)
  have HFIN : Hid (LentAt w b w.heap.size n ov mv (.slice ao l.length cap) l (w8.setCell ⟨b, 1, none⟩ (.slice (some ⟨g8, 0, none⟩) (0 + 1) cap8)) ∧ w.grownBy (w8.setCell ⟨b, 1, none⟩ (.slice (some ⟨g8, 0, none⟩) (0 + 1) cap8)) (some b)) := by
    refine ⟨⟨⟨g6, cap6, g8, cap8, HH8.out.set1 _, ?_, ?_, by omega, by omega, by omega, by omega⟩, ?_, by omega, Nat.le_refl _⟩, ?_⟩
    · rw [World.cell?_of_block (Below.heap_setCell _ _ _ _ (by simp; omega))]; exact pres_grown HG8.out _ _ hc7
    · rw [World.cell?_of_block (Below.heap_setCell _ _ _ _ (by simp; omega))]; exact hc8
    · rw [Below.heap_setCell _ _ _ _ (by simp; omega), HG8.out.block _ (by omega) (by simp)]; exact HR7.out
    · exact grown_trans (grown_trans HG7.out ⟨HG8.out.os, HG8.out.tape, HG8.out.output, HG8.out.size, fun k hk _ => HG8.out.block k hk (by simp)⟩) grown_set
  clear hown8 hgrow8 hat8 hc8 b0 b1 c1 hc7 hg8 hg6
  have q2 : (l.length : Int) ≤ (l.length : Int) + 2 := by omega
  go_wp2_with fail
  go_ret
  exact ⟨w.heap.size, rfl, HFIN.out.1, HFIN.out.2⟩

end Go.Proofs.YthgeiolabecikaaDoor
