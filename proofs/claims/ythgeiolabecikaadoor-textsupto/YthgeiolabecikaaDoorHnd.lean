/- The walks of the owner's hands: same, mark, schedule. -/
import Derived.Test.YthgeiolabecikaaDoorRefG
import Derived.Laws.CopyOwn
namespace Go.Proofs.YthgeiolabecikaaDoor
open Go.RowKit
attribute [local go_sem] Go.World.cell?_alloc_some

def nilV : Value := .slice none 0 0
def hc (iv wv : Value) (n : Int) (ov mv : Value) : Array Value := #[iv, wv, .slice none 0 0, .slice none 0 0, .slice none 0 0, .int .i64 n, ov, mv, .slice none 0 0, .slice none 0 0, .slice none 0 0, .slice none 0 0, .slice none 0 0, .slice none 0 0, .slice none 0 0, .slice none 0 0]

def HAt (w : World) (b : Nat) (iv wv : Value) (n : Int) (ov mv : Value) : Prop := w.heap[b]? = some (.cells (hc iv wv n ov mv) 43 (0, 0))
theorem HAt.cell {w : World} {b : Nat} {iv wv : Value} {n : Int} {ov mv : Value} (h : HAt w b iv wv n ov mv) (o : Nat) : w.cell? ⟨b, o, none⟩ = (hc iv wv n ov mv)[o]? := by
  unfold HAt at h; simp [World.cell?, h]
theorem HAt.frozen {w : World} {b : Nat} {iv wv : Value} {n : Int} {ov mv : Value} (h : HAt w b iv wv n ov mv) (o : Nat) : w.frozen? ⟨b, o, none⟩ = false := by
  unfold HAt at h; simp [World.frozen?, h]
theorem HAt.lt {w : World} {b : Nat} {iv wv : Value} {n : Int} {ov mv : Value} (h : HAt w b iv wv n ov mv) : b < w.heap.size := (Array.getElem?_eq_some_iff.1 h).1
theorem HAt.grown {w w' : World} {b : Nat} {iv wv : Value} {n : Int} {ov mv : Value} {r : Option Nat} (h : HAt w b iv wv n ov mv) (hg : w.grownBy w' r) (hr : r ≠ some b) : HAt w' b iv wv n ov mv := by
  have hl := h.lt
  unfold HAt at *; rw [hg.block b hl (fun e => hr e.symm)]; exact h
theorem HAt.setOther {w : World} {b g o : Nat} {u : Value} {iv wv : Value} {n : Int} {ov mv : Value} (h : HAt w b iv wv n ov mv) (hg : b ≠ g) : HAt (w.setCell ⟨g, o, none⟩ u) b iv wv n ov mv := by
  unfold HAt at *; rw [Below.heap_setCell _ _ _ _ (by simpa using hg)]; exact h
theorem HAt.set0 {w : World} {b : Nat} {iv wv : Value} {n : Int} {ov mv : Value} (h : HAt w b iv wv n ov mv) (u : Value) : HAt (w.setCell ⟨b, 0, none⟩ u) b u wv n ov mv := by
  unfold HAt at *; rw [heap_setCell_same w b 0 _ _ _ h]; rfl
theorem HAt.set1 {w : World} {b : Nat} {iv wv : Value} {n : Int} {ov mv : Value} (h : HAt w b iv wv n ov mv) (u : Value) : HAt (w.setCell ⟨b, 1, none⟩ u) b iv u n ov mv := by
  unfold HAt at *; rw [heap_setCell_same w b 1 _ _ _ h]; rfl
theorem HAt.set5 {w : World} {b : Nat} {iv wv : Value} {n : Int} {ov mv : Value} (h : HAt w b iv wv n ov mv) (u : Int) : HAt (w.setCell ⟨b, 5, none⟩ (.int .i64 u)) b iv wv u ov mv := by
  unfold HAt at *; rw [heap_setCell_same w b 5 _ _ _ h]; rfl
theorem HAt.set6 {w : World} {b : Nat} {iv wv : Value} {n : Int} {ov mv : Value} (h : HAt w b iv wv n ov mv) (u : Value) : HAt (w.setCell ⟨b, 6, none⟩ u) b iv wv n u mv := by
  unfold HAt at *; rw [heap_setCell_same w b 6 _ _ _ h]; rfl
theorem HAt.set7 {w : World} {b : Nat} {iv wv : Value} {n : Int} {ov mv : Value} (h : HAt w b iv wv n ov mv) (u : Value) : HAt (w.setCell ⟨b, 7, none⟩ u) b iv wv n ov u := by
  unfold HAt at *; rw [heap_setCell_same w b 7 _ _ _ h]; rfl

set_option maxHeartbeats 400000 in
theorem num_m (n : Int) (w : World) : Calls Tryd.prog 35 #[.int .i64 n] w fun e w' => e = .returned (.int .i64 n) ∧ w' = w := by
  go_enter Tryd.func35, Tryd.ntmps35
  go_wp2
  go_ret
  exact ⟨rfl, rfl⟩

set_option maxRecDepth 100000 in
set_option maxHeartbeats 1000000 in
theorem same_m (l m : List Int) (v u : Value) (w : World) (hI : IntsAt w.heap.size w v l) (hJ : IntsAt w.heap.size w u m) (hln : l.length ≤ 9223372036854775806) :
    Calls Tryd.prog 52 #[v, u] w fun e w' => e = .returned (.bool (l == m)) ∧ Like w' w := by
  obtain ⟨ao, cap, rfl, hcap, hc⟩ := hI
  obtain ⟨bo, dap, rfl, hdap, hd⟩ := hJ
  by_cases hlen : l.length = m.length
  · have HC := hide hc
    have HD := hide hd
    clear hc hd
    have hl2 : (l.length : Int) = m.length := by omega
    have hl3 : ((l.length : Int) != (m.length : Int)) = false := by simp; omega
    have HLN := hide hlen
    go_enter Tryd.func52, Tryd.ntmps52
    clear hlen hl2
    go_wp2_with fail
    go_loopw [5] (fun i w' => ∃ k : Nat, k ≤ l.length ∧ i = .int .i64 k ∧ Hid (Like w' w) ∧ Hid (l.take k = m.take k)) (fun i _ => l.length - (intOf i).toNat)
    case atStart => exact ⟨0, Nat.zero_le _, rfl, hide (like_refl _), by simp [Hid]⟩
    case round =>
      obtain ⟨k, hk, rfl, HK, HA⟩ := hrel
      obtain ⟨w5, hw5⟩ : ∃ w5, w5 = wr := ⟨_, rfl⟩
      subst hw5
      by_cases hlt : k < l.length
      · have hlt2 : k < m.length := by have := HLN.out; omega
        obtain ⟨g, o, rfl, _, c0⟩ := HC.out k hlt
        obtain ⟨g2, o2, rfl, _, c1⟩ := HD.out k hlt2
        have cL : ∀ a, w5.cell? a = w.cell? a := fun a => by simp [World.cell?, HK.out.1]
        have d0 : w5.cell? ⟨g, o + k, none⟩ = some (.int .i64 l[k]) := by rw [cL]; exact c0
        have d1 : w5.cell? ⟨g2, o2 + k, none⟩ = some (.int .i64 m[k]) := by rw [cL]; exact c1
        have hk0 : (0 : Int) ≤ (k : Int) := by omega
        have hk1 : (k : Int) < l.length := by omega
        have hk2 : (k : Int) < m.length := by omega
        have HT1 : Hid (l.take (k + 1) = l.take k ++ [l[k]]) := List.take_succ_eq_append_getElem hlt
        have HT2 : Hid (m.take (k + 1) = m.take k ++ [m[k]]) := List.take_succ_eq_append_getElem hlt2
        clear cL c0 c1
        by_cases heq : l[k] = m[k]
        · have hq : (l[k] != m[k]) = false := by simpa using heq
          have HA1 : Hid (l.take (k + 1) = m.take (k + 1)) := by unfold Hid; rw [HT1.out, HT2.out, HA.out, heq]
          clear heq HT1 HT2
          generalize l[k] = x at *
          generalize m[k] = y at *
          go_wp2_with fail
          go_quiet (fail)
          go_wp2_with fail
          go_roundw
          case rel => exact ⟨k + 1, by omega, by go_num, hide (like_dn HK.out _), HA1⟩
          case measure => simp [intOf]; omega
        · have hq : (l[k] != m[k]) = true := by simpa using heq
          have HE : Hid ((l == m) = false) := by
            unfold Hid
            simp only [beq_eq_false_iff_ne]
            intro e
            apply heq
            simp [e]
          clear heq HT1 HT2
          generalize l[k] = x at *
          generalize m[k] = y at *
          go_wp2_with fail
          go_quiet (fail)
          go_wp2_with fail
          go_ret
          exact ⟨by rw [HE.out]; rfl, like_dn HK.out _⟩
      · have HE : Hid ((l == m) = true) := by
          unfold Hid
          have h1 := HA.out
          rw [List.take_of_length_le (by omega), List.take_of_length_le (by have := HLN.out; omega)] at h1
          simpa using h1
        have q2 : (l.length : Int) ≤ (k : Int) := by omega
        go_wp2_with fail
        go_ret
        exact ⟨by rw [HE.out]; rfl, HK.out⟩
  · have HE : Hid ((l == m) = false) := by
      unfold Hid
      simp only [beq_eq_false_iff_ne]
      intro e; exact hlen (by rw [e])
    have hl3 : ((l.length : Int) != (m.length : Int)) = true := by simp; omega
    clear hc hd
    go_enter Tryd.func52, Tryd.ntmps52
    go_wp2_with fail
    go_ret
    exact ⟨by rw [HE.out]; rfl, like_refl _⟩

set_option maxRecDepth 100000 in
set_option maxHeartbeats 400000 in
theorem mark_m (b : Nat) (iv wv : Value) (n : Int) (ov mv : Value) (w : World) (h : HAt w b iv wv n ov mv) (h0 : 0 ≤ n) (h1 : n ≤ 1000000) :
    Calls Tryd.prog 67 #[pt b] w fun e w' => e = .returned (.int .i64 (-77000000 - (n + 1))) ∧ w' = w.setCell ⟨b, 5, none⟩ (.int .i64 (n + 1)) := by
  have c5 : w.cell? ⟨b, 5, none⟩ = some (.int .i64 n) := h.cell 5
  have f5 := h.frozen 5
  have c6 : (w.setCell ⟨b, 5, none⟩ (.int .i64 (n + 1))).cell? ⟨b, 5, none⟩ = some (.int .i64 (n + 1)) := (h.set5 (n + 1)).cell 5
  have hpt : pt b = .pointer (some ⟨b, 0, none⟩) := rfl
  rw [hpt]
  clear h hpt
  go_enter Tryd.func67, Tryd.ntmps67
  go_wp2_with fail
  go_ret
  exact ⟨rfl, rfl⟩

end Go.Proofs.YthgeiolabecikaaDoor
