/- The second form's card of Forms: where what is read is of bulk at most the bound, every Form and Same are as the reference says, whatever the owner does with what came out and with what was lent. -/
import Derived.Test.YtklenjmfalljgaaGreatDoorMJ
import Derived.Test.YtklenjmfalljgaaGreatDoorRows
import Derived.Deep.Slices
import Derived.Deep.DeepHandedRow
import Derived.Deep.DeepWitnessRowRef
import Derived.LaidMore
import Derived.Carry
import Derived.ProofKit
import Derived.OpenShut
import Derived.Lib.SmallJoins
import Derived.Test.YtklenjmfalljgaaGreatDoorCards
import Derived.Test.YtklenjmfalljgaaGreatDoorTie

/- The walk of program. -/
namespace Go.Proofs.YtklenjmfalljgaaGreatDoor
open Go.RowKit
attribute [local go_sem] Go.World.cell?_alloc_some

def isInt (c : Int) : Prop := -9223372036854775808 ≤ c ∧ c ≤ 9223372036854775807

/-- In the midst of program. -/
def ProgOut (w : World) (raw : List (List Int)) (t : Nat) (w' : World) : Prop :=
  ∃ tv, w'.heap[w.heap.size + 1]? = some (.cells #[tv] 24 (0, 0)) ∧ ThrAt (w.heap.size + 2) w'.heap.size w' tv (thrN raw t) ∧ w.grownBy w' none ∧ w'.heap[w.heap.size]? = some (.cells #[.slice none 0 0] 24 (0, 0)) ∧ w.heap.size + 2 ≤ w'.heap.size

def ProgIn (w : World) (raw : List (List Int)) (t Bt k : Nat) (c : List Ins) (lv : Value) (w' : World) : Prop :=
  ∃ tv, w'.heap[w.heap.size + 1]? = some (.cells #[tv] 24 (0, 0)) ∧ ThrAt (w.heap.size + 2) Bt w' tv (thrN raw t) ∧ w'.ownsRow Bt 74 4 lv k (insCells (c.take k)) ∧ w.grownBy w' none ∧ w'.heap[w.heap.size]? = some (.cells #[.slice none 0 0] 24 (0, 0)) ∧ w.heap.size + 2 ≤ Bt ∧ Bt ≤ w'.heap.size

theorem owns_lt {w : World} {base e size : Nat} {v : Value} {n : Nat} {xs : List Value} (h : w.ownsRow base e size v n xs) : ∀ q, v.ownBlock = some q → q < w.heap.size := fun q eq => by
  rcases h.2 with ⟨e1, _⟩ | ⟨g', _, _, hv, _, hh, _⟩
  · rw [e1] at eq; cases eq
  · rw [hv] at eq
    have := (Array.getElem?_eq_some_iff.1 hh).1
    simp [Value.ownBlock] at eq
    omega

theorem thrN_succ (raw : List (List Int)) (t : Nat) (ht : t < raw.length) : thrN raw (t + 1) = thrN raw t ++ [codeN raw[t]] := by
  unfold thrN
  rw [List.take_succ_eq_append_getElem ht, List.map_append]; rfl
theorem thrN_len (raw : List (List Int)) (t : Nat) (ht : t ≤ raw.length) : (thrN raw t).length = t := by simp [thrN]; omega

theorem heap_alloc_new2 (w : World) (a b : Obj) : ((w.alloc a).alloc b).heap[w.heap.size + 1]? = some b := by
  have := heap_alloc_new (w.alloc a) b
  simpa using this

theorem insV_one (i : Ins) : ∀ v ∈ insV i, v.oneCell' = true := by
  intro v hv; simp only [insV, List.mem_cons, List.not_mem_nil, or_false] at hv
  rcases hv with rfl | rfl | rfl | rfl <;> rfl

set_option maxHeartbeats 8000000 in
set_option maxRecDepth 100000 in
theorem program_t (raw : List (List Int)) (rv : Value) (w : World) (hR : RawAt w rv raw) (hb : ∀ t (ht : t < raw.length) k (hk : k < raw[t].length), isInt raw[t][k]) :
    Calls Tryz.prog 37 #[rv] w fun e w' => ∃ tv, e = .returned (.agg #[tv]) ∧ ThrAt (w.heap.size + 2) w'.heap.size w' tv (progN raw) ∧ w.grownBy w' none := by
  obtain ⟨i0, hi0, hz0, hz1, hz2⟩ := info_parts info_ins
  obtain ⟨i1, hi1, hy0, hy1, hy2⟩ := info_parts info_code
  obtain ⟨ao, cap, rfl, hR⟩ := hR
  have HR := hide hR
  have HBd := hide hb
  clear hR hb
  go_enter Tryz.func37, Tryz.ntmps37
  go_wp2_with fail
  go_loopw [4] (fun i w' => ∃ t : Nat, t ≤ raw.length ∧ t ≤ 4 ∧ i = .int .i64 t ∧ Hid (ProgOut w raw t w')) (fun i _ => raw.length - (intOf i).toNat)
  case atStart =>
    refine ⟨0, Nat.zero_le _, by omega, rfl, .slice none 0 0, ?_, ⟨[], ⟨rfl, Or.inl ⟨rfl, rfl⟩⟩, fun h e => (by cases e), fun j hj => (by simp [thrN] at hj)⟩, grown_alloc (grown_alloc (grown_refl _ _)), ?_, by simp⟩
    · have := heap_alloc_new (w.alloc (.cells #[.slice none 0 0] 24)) (.cells #[.slice none 0 0] 24)
      simpa using this
    · rw [Below.heap_alloc _ _ _ (by simp)]; exact heap_alloc_new w _
  case round =>
    obtain ⟨t, ht, ht4, rfl, HO⟩ := hrel
    obtain ⟨w3, hw3⟩ : ∃ w3, w3 = wr := ⟨_, rfl⟩
    subst hw3
    by_cases hgo : t < raw.length ∧ t < 4
    · obtain ⟨hlt, hlt4⟩ := hgo
      obtain ⟨pg, po, rfl, r1, hr1, hr2⟩ := HR.out t hlt
      obtain ⟨ra, rc, rfl, _, hr3⟩ := hr2
      have hpr : Pres w w3 := by obtain ⟨tv, _, _, hg, _⟩ := HO.out; exact pres_grown hg
      have hr1' := hpr _ _ hr1
      have HBt := hide (HBd.out t hlt)
      have HR3 := hide hr3
      have HCN : Hid (thrN raw (t + 1) = thrN raw t ++ [codeN raw[t]]) := thrN_succ raw t hlt
      clear hpr hr3
      have q0 : (0 : Int) ≤ (t : Int) := by omega
      have q1 : (t : Int) < raw.length := by omega
      have q2 : (t : Int) < 4 := by omega
      generalize raw[t] = r at *
      by_cases h16 : 16 < r.length
      · have g16 : (16 : Int) < r.length := by omega
        have hCl : (codeN r).length = 16 := by rw [codeN_len]; omega
        have HCl := hide hCl
        have hML : 16 ≤ 16 := by omega
        have hMr : 16 ≤ r.length := by omega
        clear hCl
        go_wp2_with fail
        go_loopw [5, 7] (fun lv i w' => ∃ k : Nat, k ≤ 16 ∧ i = .int .i64 k ∧ Hid (ProgIn w raw t w3.heap.size k (codeN r) lv w')) (fun _ i _ => 16 - (intOf i).toNat)
        case atStart =>
          obtain ⟨tv, o1, o2, o3, o4, o5⟩ := HO.out
          exact ⟨0, Nat.zero_le _, rfl, tv, o1, o2, ⟨rfl, Or.inl ⟨rfl, rfl⟩⟩, o3, o4, o5, Nat.le_refl _⟩
        case round =>
          obtain ⟨k, hk, rfl, HJ⟩ := hrel
          obtain ⟨w4, hw4⟩ : ∃ w4, w4 = wr := ⟨_, rfl⟩
          subst hw4
          by_cases hkl : k < 16
          · have hg4 : w.grownBy w4 none := by obtain ⟨tv, _, _, _, hg, _⟩ := HJ.out; exact hg
            have hkr : k < r.length := by omega
            obtain ⟨ig, io, rfl, _, hic⟩ := HR3.out k hkr
            have hic' := pres_grown hg4 _ _ hic
            have hr1'' : w4.cell? ⟨pg, po + t, none⟩ = some (.slice (some ⟨ig, io, none⟩) r.length rc) := pres_grown hg4 _ _ hr1
            have hbd := HBt.out k hkr
            have q3 : (0 : Int) ≤ (k : Int) := by omega
            have q4 : (k : Int) < r.length := by omega
            have q5 : (k : Int) < 16 := by omega
            have HCk : Hid ((codeN r)[k]? = some (insN r[k] ((16 : Nat) : Int))) := by
              unfold Hid codeN
              have e : min r.length 16 = 16 := by omega
              rw [e]
              simp [List.getElem?_take, hkr]
              omega
            clear hic
            generalize r[k] = c at *
            go_wp2_with fail
            refine (instruction_m c _ hbd.1 hbd.2 (by omega) (by omega) _).mono ?_
            rintro e w5 ⟨rfl, hg5⟩
            have HG5 := hide hg5
            have hsz5 := hg5.size
            clear hg5 hic' hr1''
            generalize hins : insN c (16) = i at *
            clear hins
            have h63 : k + 1 ≤ maxLen := by unfold maxLen; omega
            obtain ⟨tv, j1, j2, j3, j4, j5, j6, j7⟩ := HJ.out
            go_wp2_with (at_builtin; refine wpList_append_lies _ rfl _ _ _ rfl w3.heap.size 74 i0 _ 4 32 Tryz.underlying75 hi0 hz0 hz1 hz2 rfl (by omega) u5 k (insCells ((codeN r).take k)) rfl (owns_grown j3 (grown_alloc (grown_alloc HG5.out)) (fun _ e => by cases e)) ⟨w5.heap.size + 1, 0, none⟩ 1 1 (insV i) rfl rfl (World.news_of_block (cs := #[.int .i64 i.op, .int .i64 i.a, .int .i64 i.b, .int .i64 i.n]) (t := 74) (fr := (0, 0)) (heap_alloc_new2 w5 _ _)) (insV_one i) (by omega) h63 (by omega) (by simp; omega) (w5.heap.size + 2) (by simp) ?_; intro g6 cap6 w6 hown6 hgrow hat hlt6)
            have HNX : Hid (ProgIn w raw t w3.heap.size (k + 1) (codeN r) (.slice (some ⟨g6, 0, none⟩) (k + 1) cap6) w6) := by
              have hob := owns_block j3
              have hgw : w4.grownBy ((w5.alloc (.cells #[.int .i64 i.op, .int .i64 i.a, .int .i64 i.b, .int .i64 i.n] 74)).alloc (.cells #[.int .i64 i.op, .int .i64 i.a, .int .i64 i.b, .int .i64 i.n] 74)) none := grown_alloc (grown_alloc HG5.out)
              have hsz6 := hgrow.size
              simp only [World.size_alloc] at hsz6
              have hfar : ∀ q, q < w3.heap.size → w6.heap[q]? = w4.heap[q]? := fun q hq => by
                rw [hgrow.block q (by simp; omega) (fun e => by have := hob q e.symm; omega), hgw.block q (by omega) (by simp)]
              have hkc : k < (codeN r).length := by rw [HCl.out]; omega
              refine ⟨tv, by rw [hfar _ (by omega)]; exact j1, (j2.step hgw (fun q e => by cases e)).step hgrow (fun q e => Or.inr (hob q e)), ?_, grown_row (grown_trans j4 hgw) hgrow (fun q e => by have := hob q e; have := j4.size; omega), by rw [hfar _ (by omega)]; exact j5, j6, by omega⟩
              rw [List.take_succ_eq_append_getElem hkc, insCells_snoc]
              have e1 : (codeN r)[k] = i := by
                have := HCk.out
                rw [List.getElem?_eq_getElem hkc] at this
                simpa using this
              rw [e1]; exact hown6
            clear j1 j2 j3 j4 j5 j6 j7 hgrow hown6 hat
            go_wp2
            go_roundw
            case rel => exact ⟨k + 1, by omega, by go_num, HNX⟩
            case measure => simp [intOf]; omega
          · have hke : k = 16 := by omega
            have q5 : (16 : Int) ≤ (k : Int) := by omega
            obtain ⟨tv, j1, j2, j3, j4, j5, j6, j7⟩ := HJ.out
            have HJ3 : Hid (CodeRow (w.heap.size + 2) w4.heap.size w4 u5 (codeN r)) := by
              refine ⟨?_, owns_lt j3⟩
              rw [List.take_of_length_le (by rw [HCl.out]; omega)] at j3
              rw [HCl.out, ← hke]
              exact owns_mono j3 (by omega)
            obtain ⟨rows, p1, p2, p3⟩ := j2
            have hTl : (thrN raw t).length = t := thrN_len raw t ht
            rw [hTl] at p1
            have P1 := hide p1
            have J2 : Hid (ThrAt (w.heap.size + 2) w3.heap.size w4 tv (thrN raw t)) := ⟨rows, by rw [hTl]; exact p1, p2, p3⟩
            obtain ⟨tva, tvn, tvc, rfl⟩ := owns_form p1
            have c1 : w4.cell? ⟨w.heap.size + 1, 0, none⟩ = some (.slice tva tvn tvc) := by simp [World.cell?, j1]
            have c1f : w4.frozen? ⟨w.heap.size + 1, 0, none⟩ = false := by simp [World.frozen?, j1]
            obtain ⟨la, ln, lc, rfl⟩ := owns_form HJ3.out.1
            have h63 : t + 1 ≤ maxLen := by unfold maxLen; omega
            have J1 := hide j1
            have J5 := hide j5
            have J4 := hide j4
            clear p1 p2 p3 j1 j5 j4 hke j3
            go_wp2_with (at_builtin; refine wpList_append_lies _ rfl _ _ _ rfl (w.heap.size + 2) 75 i1 _ 1 24 Tryz.underlying22 hi1 hy0 hy1 hy2 rfl (by omega) (.slice tva tvn tvc) t rows rfl (owns_alloc P1.out) ⟨w4.heap.size, 0, none⟩ 1 1 [.slice la ln lc] rfl rfl (World.news_of_block (cs := #[.slice la ln lc]) (t := 75) (fr := (0, 0)) (heap_alloc_new w4 _)) (by simp [Value.oneCell']) (by omega) h63 (by omega) (by simp; omega) (w4.heap.size + 1) (by simp) ?_; intro g6 cap6 w6 hown6 hgrow hat hlt6; have c6 : w6.cell? ⟨w.heap.size + 1, 0, none⟩ = some (.slice tva tvn tvc) := (by rw [hgrow.cell_far _ (by simp; omega) (fun e => by have := owns_block P1.out _ e.symm; simp at this), World.cell?_alloc_lt _ _ _ (by simp; omega)]; exact c1); have c6f : w6.frozen? ⟨w.heap.size + 1, 0, none⟩ = false := (by rw [hgrow.frozen_far _ (by simp; omega) (fun e => by have := owns_block P1.out _ e.symm; simp at this), World.frozen?_alloc_old _ _ _ (by simp; omega)]; exact c1f))
            have HNX : Hid (ProgOut w raw (t + 1) (w6.setCell ⟨w.heap.size + 1, 0, none⟩ (.slice (some ⟨g6, 0, none⟩) (t + 1) cap6))) := by
              have hob := owns_block P1.out
              have hsz6 := hgrow.size
              simp only [World.size_alloc] at hsz6
              have hfar : ∀ q, q < w.heap.size + 2 → w6.heap[q]? = w4.heap[q]? := fun q hq => by
                rw [hgrow.block q (by simp; omega) (fun e => by have := hob q e.symm; omega), Below.heap_alloc _ _ _ (by omega)]
              have hsn := ThrAt.snoc (J2.out.mono (by omega : w3.heap.size ≤ w4.heap.size)) (rows := rows) (by rw [hTl]; exact P1.out) HJ3.out (grown_alloc (grown_refl _ _)) hgrow (tv' := .slice (some ⟨g6, 0, none⟩) (t + 1) cap6) (by rw [hTl]; exact hown6) (by omega) (owns_lt hown6)
              refine ⟨.slice (some ⟨g6, 0, none⟩) (t + 1) cap6, ?_, ?_, ?_, ?_, by simp; omega⟩
              · have := heap_setCell_same w6 (w.heap.size + 1) 0 _ _ (.slice (some ⟨g6, 0, none⟩) (t + 1) cap6) (by rw [hfar _ (by omega)]; exact J1.out)
                simpa using this
              · rw [HCN.out, World.size_setCell]
                exact hsn.step grown_set (fun q e => by cases e; exact Or.inl (by omega))
              · exact grown_setNew (grown_row (grown_alloc J4.out) hgrow (fun q e => by have := hob q e; omega)) (by omega)
              · rw [Below.heap_setCell _ _ _ _ (by simp), hfar _ (by omega)]; exact J5.out
            clear hgrow hown6 hat
            go_wp2
            go_roundw
            case rel => exact ⟨t + 1, by omega, by omega, by go_num, HNX⟩
            case measure => simp [intOf]; omega
      · have g16 : (r.length : Int) ≤ 16 := by omega
        have hCl : (codeN r).length = r.length := by rw [codeN_len]; omega
        have HCl := hide hCl
        have hML : r.length ≤ 16 := by omega
        have hMr : r.length ≤ r.length := by omega
        clear hCl
        go_wp2_with fail
        go_loopw [5, 7] (fun lv i w' => ∃ k : Nat, k ≤ r.length ∧ i = .int .i64 k ∧ Hid (ProgIn w raw t w3.heap.size k (codeN r) lv w')) (fun _ i _ => r.length - (intOf i).toNat)
        case atStart =>
          obtain ⟨tv, o1, o2, o3, o4, o5⟩ := HO.out
          exact ⟨0, Nat.zero_le _, rfl, tv, o1, o2, ⟨rfl, Or.inl ⟨rfl, rfl⟩⟩, o3, o4, o5, Nat.le_refl _⟩
        case round =>
          obtain ⟨k, hk, rfl, HJ⟩ := hrel
          obtain ⟨w4, hw4⟩ : ∃ w4, w4 = wr := ⟨_, rfl⟩
          subst hw4
          by_cases hkl : k < r.length
          · have hg4 : w.grownBy w4 none := by obtain ⟨tv, _, _, _, hg, _⟩ := HJ.out; exact hg
            have hkr : k < r.length := by omega
            obtain ⟨ig, io, rfl, _, hic⟩ := HR3.out k hkr
            have hic' := pres_grown hg4 _ _ hic
            have hr1'' : w4.cell? ⟨pg, po + t, none⟩ = some (.slice (some ⟨ig, io, none⟩) r.length rc) := pres_grown hg4 _ _ hr1
            have hbd := HBt.out k hkr
            have q3 : (0 : Int) ≤ (k : Int) := by omega
            have q4 : (k : Int) < r.length := by omega
            have q5 : (k : Int) < (r.length : Int) := by omega
            have HCk : Hid ((codeN r)[k]? = some (insN r[k] ((r.length : Nat) : Int))) := by
              unfold Hid codeN
              have e : min r.length 16 = r.length := by omega
              rw [e]
              simp [List.getElem?_take, hkr]
              omega
            clear hic
            generalize r[k] = c at *
            go_wp2_with fail
            refine (instruction_m c _ hbd.1 hbd.2 (by omega) (by omega) _).mono ?_
            rintro e w5 ⟨rfl, hg5⟩
            have HG5 := hide hg5
            have hsz5 := hg5.size
            clear hg5 hic' hr1''
            generalize hins : insN c ((r.length : Int)) = i at *
            clear hins
            have h63 : k + 1 ≤ maxLen := by unfold maxLen; omega
            obtain ⟨tv, j1, j2, j3, j4, j5, j6, j7⟩ := HJ.out
            go_wp2_with (at_builtin; refine wpList_append_lies _ rfl _ _ _ rfl w3.heap.size 74 i0 _ 4 32 Tryz.underlying75 hi0 hz0 hz1 hz2 rfl (by omega) u5 k (insCells ((codeN r).take k)) rfl (owns_grown j3 (grown_alloc (grown_alloc HG5.out)) (fun _ e => by cases e)) ⟨w5.heap.size + 1, 0, none⟩ 1 1 (insV i) rfl rfl (World.news_of_block (cs := #[.int .i64 i.op, .int .i64 i.a, .int .i64 i.b, .int .i64 i.n]) (t := 74) (fr := (0, 0)) (heap_alloc_new2 w5 _ _)) (insV_one i) (by omega) h63 (by omega) (by simp; omega) (w5.heap.size + 2) (by simp) ?_; intro g6 cap6 w6 hown6 hgrow hat hlt6)
            have HNX : Hid (ProgIn w raw t w3.heap.size (k + 1) (codeN r) (.slice (some ⟨g6, 0, none⟩) (k + 1) cap6) w6) := by
              have hob := owns_block j3
              have hgw : w4.grownBy ((w5.alloc (.cells #[.int .i64 i.op, .int .i64 i.a, .int .i64 i.b, .int .i64 i.n] 74)).alloc (.cells #[.int .i64 i.op, .int .i64 i.a, .int .i64 i.b, .int .i64 i.n] 74)) none := grown_alloc (grown_alloc HG5.out)
              have hsz6 := hgrow.size
              simp only [World.size_alloc] at hsz6
              have hfar : ∀ q, q < w3.heap.size → w6.heap[q]? = w4.heap[q]? := fun q hq => by
                rw [hgrow.block q (by simp; omega) (fun e => by have := hob q e.symm; omega), hgw.block q (by omega) (by simp)]
              have hkc : k < (codeN r).length := by rw [HCl.out]; omega
              refine ⟨tv, by rw [hfar _ (by omega)]; exact j1, (j2.step hgw (fun q e => by cases e)).step hgrow (fun q e => Or.inr (hob q e)), ?_, grown_row (grown_trans j4 hgw) hgrow (fun q e => by have := hob q e; have := j4.size; omega), by rw [hfar _ (by omega)]; exact j5, j6, by omega⟩
              rw [List.take_succ_eq_append_getElem hkc, insCells_snoc]
              have e1 : (codeN r)[k] = i := by
                have := HCk.out
                rw [List.getElem?_eq_getElem hkc] at this
                simpa using this
              rw [e1]; exact hown6
            clear j1 j2 j3 j4 j5 j6 j7 hgrow hown6 hat
            go_wp2
            go_roundw
            case rel => exact ⟨k + 1, by omega, by go_num, HNX⟩
            case measure => simp [intOf]; omega
          · have hke : k = r.length := by omega
            have q5 : ((r.length : Int) : Int) ≤ (k : Int) := by omega
            obtain ⟨tv, j1, j2, j3, j4, j5, j6, j7⟩ := HJ.out
            have HJ3 : Hid (CodeRow (w.heap.size + 2) w4.heap.size w4 u5 (codeN r)) := by
              refine ⟨?_, owns_lt j3⟩
              rw [List.take_of_length_le (by rw [HCl.out]; omega)] at j3
              rw [HCl.out, ← hke]
              exact owns_mono j3 (by omega)
            obtain ⟨rows, p1, p2, p3⟩ := j2
            have hTl : (thrN raw t).length = t := thrN_len raw t ht
            rw [hTl] at p1
            have P1 := hide p1
            have J2 : Hid (ThrAt (w.heap.size + 2) w3.heap.size w4 tv (thrN raw t)) := ⟨rows, by rw [hTl]; exact p1, p2, p3⟩
            obtain ⟨tva, tvn, tvc, rfl⟩ := owns_form p1
            have c1 : w4.cell? ⟨w.heap.size + 1, 0, none⟩ = some (.slice tva tvn tvc) := by simp [World.cell?, j1]
            have c1f : w4.frozen? ⟨w.heap.size + 1, 0, none⟩ = false := by simp [World.frozen?, j1]
            obtain ⟨la, ln, lc, rfl⟩ := owns_form HJ3.out.1
            have h63 : t + 1 ≤ maxLen := by unfold maxLen; omega
            have J1 := hide j1
            have J5 := hide j5
            have J4 := hide j4
            clear p1 p2 p3 j1 j5 j4 hke j3
            go_wp2_with (at_builtin; refine wpList_append_lies _ rfl _ _ _ rfl (w.heap.size + 2) 75 i1 _ 1 24 Tryz.underlying22 hi1 hy0 hy1 hy2 rfl (by omega) (.slice tva tvn tvc) t rows rfl (owns_alloc P1.out) ⟨w4.heap.size, 0, none⟩ 1 1 [.slice la ln lc] rfl rfl (World.news_of_block (cs := #[.slice la ln lc]) (t := 75) (fr := (0, 0)) (heap_alloc_new w4 _)) (by simp [Value.oneCell']) (by omega) h63 (by omega) (by simp; omega) (w4.heap.size + 1) (by simp) ?_; intro g6 cap6 w6 hown6 hgrow hat hlt6; have c6 : w6.cell? ⟨w.heap.size + 1, 0, none⟩ = some (.slice tva tvn tvc) := (by rw [hgrow.cell_far _ (by simp; omega) (fun e => by have := owns_block P1.out _ e.symm; simp at this), World.cell?_alloc_lt _ _ _ (by simp; omega)]; exact c1); have c6f : w6.frozen? ⟨w.heap.size + 1, 0, none⟩ = false := (by rw [hgrow.frozen_far _ (by simp; omega) (fun e => by have := owns_block P1.out _ e.symm; simp at this), World.frozen?_alloc_old _ _ _ (by simp; omega)]; exact c1f))
            have HNX : Hid (ProgOut w raw (t + 1) (w6.setCell ⟨w.heap.size + 1, 0, none⟩ (.slice (some ⟨g6, 0, none⟩) (t + 1) cap6))) := by
              have hob := owns_block P1.out
              have hsz6 := hgrow.size
              simp only [World.size_alloc] at hsz6
              have hfar : ∀ q, q < w.heap.size + 2 → w6.heap[q]? = w4.heap[q]? := fun q hq => by
                rw [hgrow.block q (by simp; omega) (fun e => by have := hob q e.symm; omega), Below.heap_alloc _ _ _ (by omega)]
              have hsn := ThrAt.snoc (J2.out.mono (by omega : w3.heap.size ≤ w4.heap.size)) (rows := rows) (by rw [hTl]; exact P1.out) HJ3.out (grown_alloc (grown_refl _ _)) hgrow (tv' := .slice (some ⟨g6, 0, none⟩) (t + 1) cap6) (by rw [hTl]; exact hown6) (by omega) (owns_lt hown6)
              refine ⟨.slice (some ⟨g6, 0, none⟩) (t + 1) cap6, ?_, ?_, ?_, ?_, by simp; omega⟩
              · have := heap_setCell_same w6 (w.heap.size + 1) 0 _ _ (.slice (some ⟨g6, 0, none⟩) (t + 1) cap6) (by rw [hfar _ (by omega)]; exact J1.out)
                simpa using this
              · rw [HCN.out, World.size_setCell]
                exact hsn.step grown_set (fun q e => by cases e; exact Or.inl (by omega))
              · exact grown_setNew (grown_row (grown_alloc J4.out) hgrow (fun q e => by have := hob q e; omega)) (by omega)
              · rw [Below.heap_setCell _ _ _ _ (by simp), hfar _ (by omega)]; exact J5.out
            clear hgrow hown6 hat
            go_wp2
            go_roundw
            case rel => exact ⟨t + 1, by omega, by omega, by go_num, HNX⟩
            case measure => simp [intOf]; omega
    · obtain ⟨tv, j1, j2, j4, j5, j6⟩ := HO.out
      have hTe : thrN raw t = thrN raw 4 := by
        unfold thrN
        by_cases h4 : t = 4
        · rw [h4]
        · rw [List.take_of_length_le (by omega), List.take_of_length_le (by omega)]
      have hTl : (thrN raw t).length = t := thrN_len raw t ht
      have HT : Hid (ThrAt (w.heap.size + 2) w3.heap.size w3 tv (thrN raw 4)) := by rw [← hTe]; exact j2
      obtain ⟨rows, p1, p2, p3⟩ := j2
      rw [hTl] at p1
      have P1 := hide p1
      obtain ⟨tva, tvn, tvc, rfl⟩ := owns_form p1
      have hn := owns_lenq p1
      subst hn
      have c1 : w3.cell? ⟨w.heap.size + 1, 0, none⟩ = some (.slice tva tvn tvc) := by simp [World.cell?, j1]
      have c1f : w3.frozen? ⟨w.heap.size + 1, 0, none⟩ = false := by simp [World.frozen?, j1]
      have c2 : w3.cell? ⟨w.heap.size, 0, none⟩ = some (.slice none 0 0) := by simp [World.cell?, j5]
      have c2f : w3.frozen? ⟨w.heap.size, 0, none⟩ = false := by simp [World.frozen?, j5]
      have J1 := hide j1
      have J4 := hide j4
      have J5 := hide j5
      have HTe := hide hTe
      have HTl := hide hTl
      have HNG := hide hgo
      clear p1 p2 p3 j1 j4 j5 hgo hTe hTl
      have q0 : (0 : Int) ≤ (tvn : Int) := by omega
      by_cases h0 : tvn = 0
      · have hr0 : raw.length = 0 := by
          by_cases e : raw.length = 0
          · exact e
          · exact absurd ⟨by omega, by omega⟩ HNG.out
        subst h0
        have hrr : (raw.length : Int) ≤ 0 := by omega
        have HPN : Hid (progN raw = thrN raw 4 ++ [[]]) := by
          unfold Hid progN
          have e : (thrN raw 4).length = 0 := by rw [← HTe.out]; exact HTl.out
          rw [if_pos e, List.length_eq_zero_iff.1 e]; rfl
        go_wp2_with (at_builtin; refine wpList_append_lies _ rfl _ _ _ rfl (w.heap.size + 2) 75 i1 _ 1 24 Tryz.underlying22 hi1 hy0 hy1 hy2 rfl (by omega) (.slice tva 0 tvc) 0 rows rfl (owns_alloc P1.out) ⟨w3.heap.size, 0, none⟩ 1 1 [.slice none 0 0] rfl rfl (World.news_of_block (cs := #[.slice none 0 0]) (t := 75) (fr := (0, 0)) (heap_alloc_new w3 _)) (by simp [Value.oneCell']) (by omega) (by unfold maxLen; omega) (by omega) (by simp; omega) (w3.heap.size + 1) (by simp) ?_; intro g6 cap6 w6 hown6 hgrow hat hlt6; have c6 : w6.cell? ⟨w.heap.size + 1, 0, none⟩ = some (.slice tva 0 tvc) := (by rw [hgrow.cell_far _ (by simp; omega) (fun e => by have := owns_block P1.out _ e.symm; simp at this), World.cell?_alloc_lt _ _ _ (by simp; omega)]; exact c1); have c6f : w6.frozen? ⟨w.heap.size + 1, 0, none⟩ = false := (by rw [hgrow.frozen_far _ (by simp; omega) (fun e => by have := owns_block P1.out _ e.symm; simp at this), World.frozen?_alloc_old _ _ _ (by simp; omega)]; exact c1f); have c7 : w6.cell? ⟨w.heap.size, 0, none⟩ = some (.slice none 0 0) := (by rw [hgrow.cell_far _ (by simp; omega) (fun e => by have := owns_block P1.out _ e.symm; simp at this; omega), World.cell?_alloc_lt _ _ _ (by simp; omega)]; exact c2); have c7f : w6.frozen? ⟨w.heap.size, 0, none⟩ = false := (by rw [hgrow.frozen_far _ (by simp; omega) (fun e => by have := owns_block P1.out _ e.symm; simp at this; omega), World.frozen?_alloc_old _ _ _ (by simp; omega)]; exact c2f))
        have hob := owns_block P1.out
        have hsz6 := hgrow.size
        simp only [World.size_alloc] at hsz6
        have hsn := ThrAt.snoc HT.out (rows := rows) (lv := .slice none 0 0) (c := []) (by rw [← HTe.out, HTl.out]; exact P1.out) ⟨⟨rfl, Or.inl ⟨rfl, rfl⟩⟩, fun h e => by cases e⟩ (grown_alloc (grown_refl _ _)) hgrow (tv' := .slice (some ⟨g6, 0, none⟩) (0 + 1) cap6) (by rw [← HTe.out, HTl.out]; exact hown6) (by omega) (owns_lt hown6)
        rw [← HPN.out] at hsn
        refine bodyPost_ret (v := .agg #[.slice (some ⟨g6, 0, none⟩) (0 + 1) cap6]) ?_ rfl ⟨_, rfl, ?_, ?_⟩
        · simp [results, Tryz.results37, go_sem, c7]
        · exact ((hsn.step grown_set (fun q e => by cases e; exact Or.inl (by omega))).step grown_set (fun q e => by cases e; exact Or.inl (by omega))).mono (by simp)
        · exact grown_setNew (grown_setNew (grown_row (grown_alloc J4.out) hgrow (fun q e => by have := hob q e; omega)) (by omega)) (by omega)
      · have HPN : Hid (progN raw = thrN raw 4) := by
          unfold Hid progN
          have e : (thrN raw 4).length ≠ 0 := by rw [← HTe.out, HTl.out]; exact h0
          rw [if_neg e]
        have hne : ((tvn : Int) == 0) = false := by simpa using h0
        by_cases hlt : tvn < raw.length
        · have g1 : (tvn : Int) < raw.length := by omega
          have g2 : (4 : Int) ≤ tvn := by
            by_cases e : tvn < 4
            · exact absurd ⟨hlt, e⟩ HNG.out
            · omega
          go_wp2_with fail
          rw [HPN.out]
          refine bodyPost_ret (v := .agg #[.slice tva tvn tvc]) ?_ rfl ⟨_, rfl, ?_, ?_⟩
          · simp [results, Tryz.results37, go_sem, c2]
          · exact (HT.out.step grown_set (fun q e => by cases e; exact Or.inl (by omega))).mono (by simp)
          · exact grown_setNew J4.out (by omega)
        · have g1 : (raw.length : Int) ≤ tvn := by omega
          go_wp2_with fail
          rw [HPN.out]
          refine bodyPost_ret (v := .agg #[.slice tva tvn tvc]) ?_ rfl ⟨_, rfl, ?_, ?_⟩
          · simp [results, Tryz.results37, go_sem, c2]
          · exact (HT.out.step grown_set (fun q e => by cases e; exact Or.inl (by omega))).mono (by simp)
          · exact grown_setNew J4.out (by omega)

theorem program_m (raw : List (List Int)) (rv : Value) (w : World) (hR : RawAt w rv raw) (hb : ∀ t (ht : t < raw.length) k (hk : k < raw[t].length), isInt raw[t][k]) :
    Calls Tryz.prog 37 #[rv] w fun e w' => ∃ tv, e = .returned (.agg #[tv]) ∧ ProgAt w' (.agg #[tv]) (progN raw) ∧ w.grownBy w' none :=
  (program_t raw rv w hR hb).mono fun _ _ ⟨tv, h1, h2, h3⟩ => ⟨tv, h1, h2.progAt, h3⟩

end Go.Proofs.YtklenjmfalljgaaGreatDoor

/- From the rows' readings to the walks' facts. -/
namespace Go.Proofs.YtklenjmfalljgaaGreatDoor
open Go.ChangeShapes Go.WideShapes Go.ChangeAt Go.RowKit

theorem own : ownKnob Tryz.prog.godebug = none := by kernel_rfl
theorem laidOut : laidOutB Tryz.prog = true := by kernel_rfl
theorem gShp : Tryz.prog.globalNamed "rerun/machine.shapes" = some 0 := by kernel_rfl
theorem tShp : (Tryz.prog.globals[0]?).map (·.type) = some 233 := by kernel_rfl
theorem cInt : Tryz.prog.cellsOf 3 = 1 := by kernel_rfl
theorem cInts : Tryz.prog.cellsOf 25 = 1 := by kernel_rfl
theorem cShape : Tryz.prog.cellsOf 232 = 3 := by kernel_rfl
theorem cKind : Tryz.prog.cellsOf 230 = 1 := by kernel_rfl

theorem grown_below {w w' : World} (h : w.grownBy w' none) : Below w.heap.size w w' := ⟨h.os, h.tape, h.output, h.size, fun k hk => h.block k hk (by simp)⟩

theorem lt_cell {w : World} {a : Addr} {v : Value} (h : w.cell? a = some v) : a.block < w.heap.size := by
  unfold World.cell? at h
  split at h
  · rename_i hh; exact (Array.getElem?_eq_some_iff.1 hh).1
  · cases h

theorem addr_form {w : World} {a : Addr} {j : Nat} {v : Value} (h0 : a.spot = none) (h : w.cell? (a.add j) = some v) : w.cell? ⟨a.block, a.off + j, none⟩ = some v := by
  have e : a.add j = ⟨a.block, a.off + j, none⟩ := by
    obtain ⟨b, o, s⟩ := a
    simp only at h0
    subst h0
    unfold Addr.add; split <;> simp_all
  rw [e] at h; exact h

section
variable {H : Type} {enc : TypeId × Value → H} {W : World}

theorem intsAt_of {fuel : Nat} {cs : List Value} {x : DataW H × List MemPlace} (h : DataW.trod enc Tryz.prog W 0 (fun _ => true) true fuel 25 cs = some x) :
    ∃ v l, cs = [v] ∧ IntsAt W.heap.size W v l ∧ ∀ k (hk : k < l.length), isInt l[k] := by
  rcases open_ints Tryz.underlying25 Tryz.underlying3 cInt h with ⟨rfl, _⟩ | ⟨a, len, cap, zs, rfl, _, hl, _, hz, _, hc, hw⟩
  · exact ⟨_, [], rfl, ⟨none, 0, rfl, Nat.le_refl _, fun k hk => by simp at hk⟩, fun k hk => by simp at hk⟩
  · simp only [if_true] at hz
    have hlen : (zs.take len).length = len := by simp; omega
    refine ⟨_, zs.take len, rfl, ⟨some a, cap, by rw [hlen], by omega, fun k hk => ?_⟩, fun k hk => ?_⟩
    · have h0 : a.spot = none := by
        have := hc 0 (by omega)
        exact World.cell?_spot (w := W) (by simpa [Addr.add] using this)
      have hkz : k < zs.length := by omega
      have := hc k hkz
      refine ⟨a.block, a.off, ?_, lt_cell (a := ⟨a.block, a.off + k, none⟩) (addr_form h0 this), ?_⟩
      · obtain ⟨b, o, s⟩ := a
        simp only at h0; subst h0; rfl
      · rw [addr_form h0 this]
        simp [List.getD, hkz]
    · have hkz : k < zs.length := by omega
      have := hw zs[k] (List.getElem_mem hkz)
      simp only [List.getElem_take]
      simpa [Lit.wf, IntKind.min, IntKind.max, IntKind.signed, IntKind.bits, isInt] using this

theorem rawAt_of {fuel : Nat} {cs : List Value} {x : DataW H × List MemPlace} (h : DataW.trod enc Tryz.prog W 0 (fun _ => true) true fuel 38 cs = some x) :
    ∃ v l, cs = [v] ∧ RawAt W v l ∧ ∀ t (ht : t < l.length) k (hk : k < l[t].length), isInt l[t][k] := by
  rcases Deep.open_slice1 Tryz.underlying38 cInts h with ⟨rfl, _⟩ | ⟨a, len, cap, m, n, V, D, Pl, rfl, _, hl, _, hm, _, hx⟩
  · exact ⟨_, [], rfl, ⟨none, 0, rfl, fun k hk => by simp at hk⟩, fun k hk => by simp at hk⟩
  · simp only [if_true] at hm
    obtain ⟨f, hf⟩ := Deep.choose_lt (α := List Int) (n := len) (p := fun i l => IntsAt W.heap.size W (V i) l ∧ ∀ k (hk : k < l.length), isInt l[k]) (fun i hi => by
      obtain ⟨v, l, e, h1, h2⟩ := intsAt_of (hx i (by omega)).2
      simp only [List.cons.injEq, and_true] at e
      rw [← e] at h1
      exact ⟨l, h1, h2⟩)
    have hlen : ((List.range len).map f).length = len := by simp
    refine ⟨_, (List.range len).map f, rfl, ⟨some a, cap, by rw [hlen], fun t ht => ?_⟩, fun t ht => ?_⟩
    · have ht' : t < len := by omega
      have h0 : a.spot = none := by
        have := (hx 0 (by omega)).1
        exact World.cell?_spot (w := W) (by simpa [Addr.add] using this)
      refine ⟨a.block, a.off, ?_, V t, addr_form h0 (hx t (by omega)).1, ?_⟩
      · obtain ⟨b, o, s⟩ := a
        simp only at h0; subst h0; rfl
      · simpa using (hf t ht').1
    · have ht' : t < len := by omega
      simpa using (hf t ht').2

set_option maxRecDepth 100000 in
theorem ints_arg {v : Value} {d : DataW H} {ps : List MemPlace} {base : Nat} (hval : Value.okWide Tryz.prog W .any base 25 v) (h : DataW.Trod enc Tryz.prog W 0 (fun _ => true) true 25 v d ps) :
    ∃ l, IntsAt W.heap.size W v l ∧ ∀ k (hk : k < l.length), isInt l[k] := by
  obtain ⟨a, len, cap, rfl⟩ := okWide_slice Tryz.underlying25 hval
  obtain ⟨fuel, hf⟩ := h
  obtain ⟨v', l, e, h1, h2⟩ := intsAt_of hf
  simp [Value.cells] at e
  rw [← e] at h1
  exact ⟨l, h1, h2⟩
set_option maxRecDepth 100000 in
theorem raw_arg {v : Value} {d : DataW H} {ps : List MemPlace} {base : Nat} (hval : Value.okWide Tryz.prog W .any base 38 v) (h : DataW.Trod enc Tryz.prog W 0 (fun _ => true) true 38 v d ps) :
    ∃ l, RawAt W v l ∧ ∀ t (ht : t < l.length) k (hk : k < l[t].length), isInt l[t][k] := by
  obtain ⟨a, len, cap, rfl⟩ := okWide_slice Tryz.underlying38 hval
  obtain ⟨fuel, hf⟩ := h
  obtain ⟨v', l, e, h1, h2⟩ := rawAt_of hf
  simp [Value.cells] at e
  rw [← e] at h1
  exact ⟨l, h1, h2⟩
set_option maxRecDepth 100000 in
theorem int_arg {v : Value} {d : DataW H} {ps : List MemPlace} {base : Nat} (hval : Value.okWide Tryz.prog W .any base 3 v) (h : DataW.Trod enc Tryz.prog W 0 (fun _ => true) true 3 v d ps) :
    ∃ n, v = .int .i64 n ∧ isInt n := by
  obtain ⟨n, rfl, _, _, hw⟩ := open_int Tryz.underlying3 hval h
  exact ⟨n, rfl, by simpa [Lit.wf, IntKind.min, IntKind.max, IntKind.signed, IntKind.bits, isInt] using hw⟩
end

theorem shp_tab (o j : Nat) (ho : o < 12) (hj : j < 3) (l : List (DataW Unit)) (h : (DataW.agg l : DataW Unit) = (match (Rows.laid_rerun_machine_shapes : DataW Unit) with | .agg l => l[o]?.getD .nil | _ => .nil)) : l[j]? = some (.lit (.int .i64 (shp o j))) := by
  have ho' : o = 0 ∨ o = 1 ∨ o = 2 ∨ o = 3 ∨ o = 4 ∨ o = 5 ∨ o = 6 ∨ o = 7 ∨ o = 8 ∨ o = 9 ∨ o = 10 ∨ o = 11 := by omega
  have hj' : j = 0 ∨ j = 1 ∨ j = 2 := by omega
  rcases ho' with rfl | rfl | rfl | rfl | rfl | rfl | rfl | rfl | rfl | rfl | rfl | rfl <;> (simp [Rows.laid_rerun_machine_shapes] at h; subst h; rcases hj' with rfl | rfl | rfl <;> rfl)

theorem shp_one {W : World} {g0 : Nat} {t0 : TypeId} {cs0 : Array Value} {f0 : Nat} {p0 : List MemPlace} (hg0 : Tryz.prog.globalNamed "rerun/machine.shapes" = some g0) (ht0 : (Tryz.prog.globals[g0]?).map (·.type) = some t0) (hv0 : W.var? Tryz.prog "rerun/machine.shapes" = some cs0)
    (hd0 : DataW.trod (fun _ => ()) Tryz.prog W 0 (fun _ => true) false f0 t0 cs0.toList = some (Rows.laid_rerun_machine_shapes, p0)) : ShpAt W := by
  obtain rfl := Option.some.inj (gShp.symm.trans hg0)
  obtain rfl := Option.some.inj (tShp.symm.trans ht0)
  obtain ⟨xs, m1, rfl, hx1, hlen, hn12, hel⟩ := DataW.trod_array Tryz.underlying233 hd0
  simp only [Prod.mk.injEq] at hx1
  intro o j ho hj
  have hox : o < xs.length := by omega
  have h1 := hel o ho
  rw [cShape, List.getElem?_eq_getElem hox] at h1
  obtain ⟨ys, m2, rfl, hy1, hylen, hn3, hfe⟩ := DataW.trod_struct Tryz.underlying232 h1
  have hdo : (DataW.agg (ys.map (·.1)) : DataW Unit) = xs[o].1 := by rw [hy1]
  have hxo : (xs.map (·.1))[o]? = some xs[o].1 := by simp [hox]
  have hdat : (DataW.agg (ys.map (·.1)) : DataW Unit) = (match (Rows.laid_rerun_machine_shapes : DataW Unit) with | .agg l => l[o]?.getD .nil | _ => .nil) := by
    rw [hdo, hx1.1]; simp [hox]
  have hyj := shp_tab o j ho hj _ hdat
  have hjl : j < ys.length := by rw [hn3]; simpa using hj
  have hf : DataW.trod (fun _ => ()) Tryz.prog W 0 (fun _ => true) false m2 230 ((((cs0.toList.drop (o * 3)).take 3).drop j).take 1) = some ys[j] := by
    have hj' : j = 0 ∨ j = 1 ∨ j = 2 := by omega
    rcases hj' with rfl | rfl | rfl
    · have := hfe 0 _ rfl; rw [List.getElem?_eq_getElem hjl] at this; simpa [cKind] using this
    · have := hfe 1 _ rfl; rw [List.getElem?_eq_getElem hjl] at this; simpa [cKind] using this
    · have := hfe 2 _ rfl; rw [List.getElem?_eq_getElem hjl] at this; simpa [cKind] using this
  obtain ⟨k, e1, e2, _⟩ := DataW.trod_int Tryz.underlying230 hf
  have hk : k = shp o j := by
    rw [List.getElem?_map, List.getElem?_eq_getElem hjl, e2] at hyj
    simpa using hyj
  have hcell := World.var?_cell hg0 hv0 (o * 3 + j)
  have hc : cs0[o * 3 + j]? = some (.int .i64 k) := by
    have h0 := congrArg (fun l => l[0]?) e1
    simp [hj] at h0
    exact h0
  rw [hk] at hc
  rw [hcell]; exact hc

theorem shp_of_laid {W : World} (h : laidMetH Tryz.prog [("rerun/machine.shapes", Rows.laid_rerun_machine_shapes)] W) : ShpAt W := by
  rw [MakeChecks.laidMetH_plain _ _ _ (by kernel_rfl)] at h
  obtain ⟨ps, ⟨g0, t0, cs0, f0, p0, q0, hg0, ht0, hv0, hd0, _, _⟩, _, _⟩ := h
  exact shp_one hg0 ht0 hv0 hd0

end Go.Proofs.YtklenjmfalljgaaGreatDoor

/- Programs as arguments, and how great they are. -/
namespace Go.Proofs.YtklenjmfalljgaaGreatDoor
open Go.ChangeShapes Go.WideShapes Go.ChangeAt Go.RowKit Go.Joins

theorem bulkOne {H : Type} (d : DataW H) : 1 ≤ Rows.uptoBulk d := by
  cases d with
  | lit l => cases l <;> simp [Rows.uptoBulk]
  | nil => simp [Rows.uptoBulk]
  | ptr d => simp [Rows.uptoBulk]
  | slice elems spare => simp [Rows.uptoBulk]
  | agg parts => simp [Rows.uptoBulk]
  | iface t d => simp [Rows.uptoBulk]
  | map entries => simp [Rows.uptoBulk]
  | held h => simp [Rows.uptoBulk]
theorem bulkLen {H : Type} (l : List (DataW H)) : l.length ≤ Rows.uptoBulkAll l := by
  induction l with
  | nil => simp [Rows.uptoBulkAll]
  | cons x r ih => have := bulkOne x; simp only [Rows.uptoBulkAll, List.length_cons]; omega
theorem bulkIn {H : Type} (l : List (DataW H)) (d : DataW H) (h : d ∈ l) : Rows.uptoBulk d ≤ Rows.uptoBulkAll l := by
  induction l with
  | nil => cases h
  | cons x r ih =>
    simp only [Rows.uptoBulkAll]
    rcases List.mem_cons.1 h with rfl | h
    · omega
    · have := ih h; omega

theorem cIns : Tryz.prog.cellsOf 74 = 4 := by kernel_rfl
theorem cCode : Tryz.prog.cellsOf 75 = 1 := by kernel_rfl
theorem cRows : Tryz.prog.cellsOf 22 = 1 := by kernel_rfl
theorem cProg : Tryz.prog.cellsOf 24 = 1 := by kernel_rfl

section
variable {H : Type} {enc : TypeId × Value → H} {W : World}

set_option maxRecDepth 100000 in
theorem ins_of {fuel : Nat} {cs : List Value} {x : DataW H × List MemPlace} (h : DataW.trod enc Tryz.prog W 0 (fun _ => true) true fuel 74 cs = some x) : ∃ i : Ins, cs = [.int .i64 i.op, .int .i64 i.a, .int .i64 i.b, .int .i64 i.n] := by
  obtain ⟨y0, y1, y2, y3, n, _, hl, h0, h1, h2, h3⟩ := trod_struct4 Tryz.underlying74 h
  rw [cIns] at hl
  match cs, hl with
  | [v0, v1, v2, v3], _ =>
    simp only [cInt, List.drop_zero, List.drop_succ_cons, List.take_succ_cons, List.take_zero] at h0 h1 h2 h3
    obtain ⟨k0, e0, _⟩ := DataW.trod_int Tryz.underlying3 h0
    obtain ⟨k1, e1, _⟩ := DataW.trod_int Tryz.underlying3 h1
    obtain ⟨k2, e2, _⟩ := DataW.trod_int Tryz.underlying3 h2
    obtain ⟨k3, e3, _⟩ := DataW.trod_int Tryz.underlying3 h3
    simp only [List.cons.injEq, and_true] at e0 e1 e2 e3
    subst e0 e1 e2 e3
    exact ⟨⟨k0, k1, k2, k3⟩, rfl⟩

set_option maxRecDepth 100000 in
theorem codeAt_of {fuel : Nat} {v : Value} {x : DataW H × List MemPlace} (h : DataW.trod enc Tryz.prog W 0 (fun _ => true) true fuel 75 [v] = some x) : ∃ c, CodeAt W v c ∧ nilA v ∧ c.length ≤ Rows.uptoBulk x.1 := by
  rcases Deep.open_slice Tryz.underlying75 h with ⟨e, _⟩ | ⟨a, len, cap, m, n, D, Pl, e, _, hl, _, hm, hx, hel⟩
  · simp only [List.cons.injEq, and_true] at e
    subst e
    exact ⟨[], ⟨none, 0, rfl, fun k hk => by simp at hk⟩, fun n c e => by simp at e; omega, by simp⟩
  · simp only [List.cons.injEq, and_true] at e
    subst e
    simp only [if_true] at hm
    rw [cIns] at hel
    have hinh : Inhabited Ins := ⟨⟨0, 0, 0, 0⟩⟩
    obtain ⟨f, hf⟩ := Deep.choose_lt (α := Ins) (n := len) (p := fun k i => W.cell? (a.add (k * 4)) = some (.int .i64 i.op) ∧ W.cell? (a.add (k * 4 + 1)) = some (.int .i64 i.a) ∧ W.cell? (a.add (k * 4 + 2)) = some (.int .i64 i.b) ∧ W.cell? (a.add (k * 4 + 3)) = some (.int .i64 i.n)) (fun k hk => by
      obtain ⟨cs', h1, h2⟩ := hel k (by omega)
      obtain ⟨i, rfl⟩ := ins_of h2
      obtain ⟨_, _, h3⟩ := World.cells?_some h1
      refine ⟨i, ?_, ?_, ?_, ?_⟩
      · have := h3 0 (by omega); rw [Deep.add_add] at this; simpa using this
      · have := h3 1 (by omega); rw [Deep.add_add] at this; simpa using this
      · have := h3 2 (by omega); rw [Deep.add_add] at this; simpa using this
      · have := h3 3 (by omega); rw [Deep.add_add] at this; simpa using this)
    have hlen : ((List.range len).map f).length = len := by simp
    refine ⟨(List.range len).map f, ⟨some a, cap, by rw [hlen], fun k hk => ?_⟩, fun n c e => by simp at e, ?_⟩
    · have hk' : k < len := by omega
      obtain ⟨h0, h1, h2, h3⟩ := hf k hk'
      have hs : a.spot = none := by
        have := (hf 0 (by omega)).1
        exact World.cell?_spot (w := W) (by simpa [Addr.add] using this)
      refine ⟨a.block, a.off, ?_, ?_, ?_, ?_, ?_⟩
      · obtain ⟨b, o, s⟩ := a
        simp only at hs; subst hs; rfl
      · simpa using addr_form hs h0
      · simpa [Nat.add_assoc] using addr_form hs h1
      · simpa [Nat.add_assoc] using addr_form hs h2
      · simpa [Nat.add_assoc] using addr_form hs h3
    · rw [hlen, hx]
      have := bulkLen ((List.range len).map D)
      simp only [Rows.uptoBulk]
      simp at this
      omega

set_option maxRecDepth 100000 in
theorem rowsAt_of {fuel : Nat} {v : Value} {x : DataW H × List MemPlace} (h : DataW.trod enc Tryz.prog W 0 (fun _ => true) true fuel 22 [v] = some x) :
    ∃ p, ProgAt W (.agg #[v]) p ∧ ProgNil W (.agg #[v]) ∧ p.length ≤ Rows.uptoBulk x.1 ∧ ∀ c ∈ p, c.length ≤ Rows.uptoBulk x.1 := by
  rcases Deep.open_slice1 Tryz.underlying22 cCode h with ⟨e, _⟩ | ⟨a, len, cap, m, n, V, D, Pl, e, _, hl, _, hm, hx, hel⟩
  · simp only [List.cons.injEq, and_true] at e
    subst e
    exact ⟨[], ⟨none, 0, rfl, fun k hk => by simp at hk⟩, fun g o n cap t rv e => by simp at e, by simp, fun c hc => by cases hc⟩
  · simp only [List.cons.injEq, and_true] at e
    subst e
    simp only [if_true] at hm
    obtain ⟨f, hf⟩ := Deep.choose_lt (α := List Ins) (n := len) (p := fun k c => CodeAt W (V k) c ∧ nilA (V k) ∧ c.length ≤ Rows.uptoBulk (D k)) (fun k hk => codeAt_of (hel k (by omega)).2)
    have hlen : ((List.range len).map f).length = len := by simp
    have hs : 0 < len → a.spot = none := fun h0 => by
      have := (hel 0 (by omega)).1
      exact World.cell?_spot (w := W) (by simpa [Addr.add] using this)
    have hall : len + 0 ≤ Rows.uptoBulkAll ((List.range len).map D) := by
      have := bulkLen ((List.range len).map D)
      simp at this; omega
    refine ⟨(List.range len).map f, ⟨some a, cap, by rw [hlen], fun k hk => ?_⟩, fun g o n cp t rv e ht hc => ?_, ?_, fun c hc => ?_⟩
    · have hk' : k < len := by omega
      have h0 := hs (by omega)
      refine ⟨a.block, a.off, ?_, V k, addr_form h0 (hel k (by omega)).1, ?_⟩
      · obtain ⟨b, o, s⟩ := a
        simp only at h0; subst h0; rfl
      · simpa using (hf k hk').1
    · simp only [Value.agg.injEq, Array.mk.injEq, List.cons.injEq, Value.slice.injEq, Option.some.injEq, and_true] at e
      obtain ⟨rfl, rfl, rfl⟩ := e
      have h1 := addr_form rfl (hel t (by omega)).1
      simp only at h1
      rw [h1] at hc
      simp only [Option.some.injEq] at hc
      rw [← hc]
      exact (hf t ht).2.1
    · rw [hlen, hx]
      simp only [Rows.uptoBulk]
      omega
    · obtain ⟨k, hk, rfl⟩ := List.mem_map.1 hc
      have hk' : k < len := by simpa using hk
      have h1 := (hf k hk').2.2
      have h2 := bulkIn ((List.range len).map D) (D k) (List.mem_map.2 ⟨k, hk, rfl⟩)
      rw [hx]
      simp only [Rows.uptoBulk]
      omega

set_option maxRecDepth 100000 in
theorem prog_argB {v : Value} {d : DataW H} {ps : List MemPlace} {base : Nat} (hval : Value.okWide Tryz.prog W .any base 24 v) (h : DataW.Trod enc Tryz.prog W 0 (fun _ => true) true 24 v d ps) :
    ∃ p, ProgAt W v p ∧ ProgNil W v ∧ p.length ≤ Rows.uptoBulk d ∧ ∀ c ∈ p, c.length ≤ Rows.uptoBulk d := by
  obtain ⟨cs, rfl, hsz⟩ := okWide_struct Tryz.underlying24 hval
  obtain ⟨fuel, hf⟩ := h
  obtain ⟨y0, n, hx, hl, h0⟩ := trod_struct1 Tryz.underlying24 hf
  rw [cProg] at hsz
  obtain ⟨l⟩ := cs
  match l, hsz with
  | [c0], _ =>
    have h0' : DataW.trod enc Tryz.prog W 0 (fun _ => true) true n 22 [c0] = some y0 := by simpa [Value.cells, cRows] using h0
    obtain ⟨p, h1, h2, h3, h4⟩ := rowsAt_of h0'
    have hd : d = .agg [y0.1] := congrArg Prod.fst hx
    have hb : Rows.uptoBulk y0.1 ≤ Rows.uptoBulk d := by
      rw [hd]
      simp only [Rows.uptoBulk, Rows.uptoBulkAll]
      omega
    exact ⟨p, h1, h2, Nat.le_trans h3 hb, fun c hc => Nat.le_trans (h4 c hc) hb⟩

set_option maxRecDepth 100000 in
theorem ints_argN {v : Value} {d : DataW H} {ps : List MemPlace} {base : Nat} (hval : Value.okWide Tryz.prog W .any base 25 v) (h : DataW.Trod enc Tryz.prog W 0 (fun _ => true) true 25 v d ps) :
    ∃ l, IntsAt W.heap.size W v l ∧ nilA v ∧ l.length ≤ Rows.uptoBulk d := by
  obtain ⟨a0, len0, cap0, rfl⟩ := okWide_slice Tryz.underlying25 hval
  obtain ⟨fuel, hf⟩ := h
  rcases open_ints Tryz.underlying25 Tryz.underlying3 cInt hf with ⟨e, _⟩ | ⟨a, len, cap, zs, e, _, hl, _, hz, hx, hc, hw⟩
  · simp [Value.cells] at e
    rw [e.1, e.2.1, e.2.2]
    exact ⟨[], ⟨none, 0, rfl, Nat.le_refl _, fun k hk => by simp at hk⟩, fun n c e => by simp at e; omega, by simp⟩
  · simp [Value.cells] at e
    rw [e.1, e.2.1, e.2.2]
    simp only [if_true] at hz
    have hlen : (zs.take len).length = len := by simp; omega
    refine ⟨zs.take len, ⟨some a, cap, by rw [hlen], by omega, fun k hk => ?_⟩, fun n c e => by simp at e, ?_⟩
    · have h0 : a.spot = none := by
        have := hc 0 (by omega)
        exact World.cell?_spot (w := W) (by simpa [Addr.add] using this)
      have hkz : k < zs.length := by omega
      have := hc k hkz
      refine ⟨a.block, a.off, ?_, lt_cell (a := ⟨a.block, a.off + k, none⟩) (addr_form h0 this), ?_⟩
      · obtain ⟨b, o, s⟩ := a
        simp only at h0; subst h0; rfl
      · rw [addr_form h0 this]
        simp [List.getD, hkz]
    · have hd : d = .slice (lits .i64 (zs.take len)) (lits .i64 (zs.drop len)) := congrArg Prod.fst hx
      rw [hd]
      have := bulkLen (lits (H := H) .i64 (zs.take len))
      have hll : (lits (H := H) .i64 (zs.take len)).length = (zs.take len).length := by simp [lits]
      simp only [Rows.uptoBulk]
      omega
end

end Go.Proofs.YtklenjmfalljgaaGreatDoor

/- The second form's card of Forms: where what is read is of bulk at most the bound, every Form and Same are as the reference says, whatever the owner does with what came out and with what was lent. -/
namespace Go.Proofs.YtklenjmfalljgaaGreatDoor
open Go.ChangeShapes Go.WideShapes Go.ChangeAt Go.RowKit

set_option maxRecDepth 100000 in
/-- What the walk gives, for every argument within the bound and every world that holds the table. -/
theorem forms_contract (H : Type) (enc : TypeId × Value → H) (W : World) (base : Nat) (args : Array Value) (ds gs : List (DataW H)) (before : List MemPlace)
    (hval : ∀ (j : Nat) t v, Tryz.f5.params[j]? = some t → args[j]? = some v → Value.okWide Tryz.prog W .any base t v)
    (hW : DataW.Whole enc Tryz.prog Tryz.f5.params.toList Rows.formsSpec.vars false W args.toList ds gs before) (hk : Rows.uptoSmall H (ds ++ gs) = true) (hL : laidMetH Tryz.prog Rows.formsUptoRow.laid W) :
    Calls Tryz.prog 5 args W fun e W' => ∃ v, e = .returned v ∧ Rows.formsSpec.post enc Tryz.prog Tryz.f5 false true false false W args v W' := by
  have hW' := hW
  obtain ⟨p, q, hA0, hV, rfl, hfz, hnd⟩ := hW
  have hA : DataW.TrodAll enc Tryz.prog W 0 (fun _ => true) true Tryz.f5.params.toList args.toList ds p := hA0
  rw [Tryz.params5] at hA hval
  obtain ⟨v0, v1, v2, d0, d1, d2, p0, p1, p2, rfl, rfl, rfl, h0, h1, h2⟩ := trodAll_three hA
  obtain ⟨rfl, rfl⟩ := trodVars_none hV
  clear hA0
  have hbulk := of_decide_eq_true hk
  simp only [List.append_nil, Rows.uptoBulkAll] at hbulk
  obtain ⟨p, hp, hpn, hpl, hpc⟩ := prog_argB (hval 0 24 v0 rfl rfl) h0
  obtain ⟨a, ha, han, hal⟩ := ints_argN (hval 1 25 v1 rfl rfl) h1
  obtain ⟨b, hb', _, hbl⟩ := ints_argN (hval 2 25 v2 rfl rfl) h2
  refine (forms_m W v0 v1 v2 p a b (shp_of_laid hL) hp hpn ha han hb' (by omega) (fun c hc => by have := hpc c hc; omega) (by omega) (by omega)).mono fun e W' ⟨he, hg⟩ => ?_
  subst he
  have hb := grown_below hg
  have hlt : ∀ x ∈ p0 ++ p1 ++ p2, x.block < W.heap.size := fun x hx => by simpa using hW'.lt x (by simpa using hx)
  refine ⟨_, rfl, _, _, _, [] ++ [], p0 ++ (p1 ++ p2), [], hW', trodAll_cons_mk (shut_bool Tryz.underlying4 _) trodAll_mk0, ?_, rfl, hb.frame _, fun h => by cases h⟩
  rw [Tryz.params5]
  exact trodAll_mk3 (p := p0) (p' := p1) (p'' := p2) (Below.trod laidOut (by kernel_rfl) (of_decide_eq_true (by kernel_rfl)) h0 hb (fun x hx => hlt x (by simp [hx]))) (Below.trod laidOut (by kernel_rfl) (of_decide_eq_true (by kernel_rfl)) h1 hb (fun x hx => hlt x (by simp [hx])))
    (Below.trod laidOut (by kernel_rfl) (of_decide_eq_true (by kernel_rfl)) h2 hb (fun x hx => hlt x (by simp [hx])))

theorem forms_laid (os : Os) : laidMetH Tryz.prog Rows.formsUptoRow.laid ((World.doorLaid Tryz.prog 400 os).forCall (fun _ _ => 0) ⟨#[], #[.agg #[.slice none 0 0], .slice none 0 0, .slice none 0 0], []⟩).memory :=
  laidMetH_of_parts3 (fuel := 8) (laidMet_of_run' 8 (by kernel_rfl) (by kernel_rfl)) (by kernel_rfl) (by kernel_rfl)
theorem forms_reads (os : Os) {H : Type} (enc : TypeId × Value → H) : ∃ places, DataW.whole enc Tryz.prog ((World.doorLaid Tryz.prog 400 os).forCall (fun _ _ => 0) ⟨#[], #[.agg #[.slice none 0 0], .slice none 0 0, .slice none 0 0], []⟩).memory Tryz.f5.params.toList Rows.formsSpec.vars false #[Value.agg #[.slice none 0 0], .slice none 0 0, .slice none 0 0].toList 8 = some ([.agg [.nil], .nil, .nil], [], places) :=
  ⟨[], by kernel_rfl⟩

set_option maxRecDepth 100000 in
theorem forms_lifted (os : Os) (started : os.Started) (H : Type) (enc : TypeId × Value → H) (F : Stop.Interp) :
    ReturnsInHanded {} Tryz.checked os 5 .any ((Rows.OpenSpec.upto Rows.formsSpec).preRow enc Tryz.prog Tryz.f5 Rows.formsUptoRow.domain false Rows.formsUptoRow.laid) (((Rows.OpenSpec.upto Rows.formsSpec).at F).post enc Tryz.prog Tryz.f5 false true false false) := by
  obtain ⟨places, hx⟩ := forms_reads os enc
  refine returnsInHanded_of_row (C := Tryz.checked) (s := Rows.OpenSpec.upto Rows.formsSpec) own started (by kernel_rfl) Tryz.func5
    (witness_row_atRef (enc := enc) (C := Tryz.checked) false (World.doorLaid Tryz.prog 400 os) #[.agg #[.slice none 0 0], .slice none 0 0, .slice none 0 0] rfl (by kernel_rfl) (by kernel_rfl) (by kernel_rfl)
      (OpenSpec.preRow_of_cond 8 hx (by kernel_rfl) (fun k hk => by cases hk; kernel_rfl) (by kernel_rfl) (forms_laid os))) ?_
  intro W base args ds gs before hval hW _ hcond _ hL _ _
  exact forms_contract H enc W base args ds gs before hval hW (hcond _ rfl) hL

theorem forms_said : Rows.FormsUptoSaid :=
  OpenClaim.holds_of_cond 5 Tryz.f5 rfl rfl rfl rfl rfl rfl rfl ⟨rfl, rfl, rfl, rfl, rfl⟩ rfl rfl rfl rfl rfl (by kernel_rfl) Tryz.func5 (by kernel_rfl)
    (of_decide_eq_true (by kernel_rfl)) (by unfold Func.isWrapper; first | (rw [if_pos (by decide +kernel)]; kernel_rfl) | (rw [if_neg (by decide +kernel)]; exact ⟨rfl, rfl⟩))
    (fun os started H enc _ F => by rw [OpenClaim.pre_eq_preRow]; exact forms_lifted os started H enc F)

theorem forms_plain (f : FuncId) (fn : Func) (hf : Tryz.pinned.checked.prog.funcNamed "rerun/rerunlaw.Forms" = some f) (hfn : Tryz.pinned.checked.prog.funcs[f]? = some fn) :
    Rows.formsUptoCard.stood.looks = Tryz.pinned.checked.prog.looks [] ∧ ∀ (j : Nat) t, fn.params[j]? = some t → Tryz.pinned.checked.prog.wantsStandIn t = false := by
  obtain rfl : f = 5 := Option.some.inj ((show Tryz.prog.funcNamed "rerun/rerunlaw.Forms" = some 5 by kernel_rfl).symm.trans hf) |>.symm
  obtain rfl : fn = Tryz.f5 := (Option.some.inj (Tryz.func5.symm.trans hfn)).symm
  refine ⟨by kernel_rfl, fun j t ht => ?_⟩
  rw [Tryz.params5] at ht
  have hm : t ∈ [24, 25, 25] := by simpa using Array.mem_of_getElem? ht
  have hall : ([24, 25, 25].all fun u => !Tryz.prog.wantsStandIn u) = true := by kernel_rfl
  exact (show Tryz.prog.wantsStandIn t = false by simpa using List.all_eq_true.1 hall t hm)

theorem forms_card : Rows.FormsUptoCardSaid :=
  Claim7.holds_tied_plain_at .later [] _ _ _ _ forms_said (fun _ h => by cases h) (by kernel_rfl) (fun _ h => by cases h) formsUpto_row_tie rfl ⟨rfl, rfl⟩ (by kernel_rfl) rfl forms_plain (by kernel_rfl)
#print axioms forms_card

end Go.Proofs.YtklenjmfalljgaaGreatDoor
