/- The walk of program. -/
import Derived.Test.YtklenjmfalljgaaDoorPrg
namespace Go.Proofs.YtklenjmfalljgaaDoor
open Go.RowKit
attribute [local go_sem] Go.World.cell?_alloc_some

def isInt (c : Int) : Prop := -9223372036854775808 ≤ c ∧ c ≤ 9223372036854775807

/-- In the midst of program. -/
def ProgOut (w : World) (raw : List (List Int)) (t : Nat) (w' : World) : Prop :=
  ∃ tv, w'.heap[w.heap.size + 1]? = some (.cells #[tv] 25 (0, 0)) ∧ ThrAt (w.heap.size + 2) w'.heap.size w' tv (thrN raw t) ∧ w.grownBy w' none ∧ w'.heap[w.heap.size]? = some (.cells #[.slice none 0 0] 25 (0, 0)) ∧ w.heap.size + 2 ≤ w'.heap.size

def ProgIn (w : World) (raw : List (List Int)) (t Bt k : Nat) (c : List Ins) (lv : Value) (w' : World) : Prop :=
  ∃ tv, w'.heap[w.heap.size + 1]? = some (.cells #[tv] 25 (0, 0)) ∧ ThrAt (w.heap.size + 2) Bt w' tv (thrN raw t) ∧ w'.ownsRow Bt 28 4 lv k (insCells (c.take k)) ∧ w.grownBy w' none ∧ w'.heap[w.heap.size]? = some (.cells #[.slice none 0 0] 25 (0, 0)) ∧ w.heap.size + 2 ≤ Bt ∧ Bt ≤ w'.heap.size

theorem owns_lt {w : World} {base e size : Nat} {v : Value} {n : Nat} {xs : List Value} (h : w.ownsRow base e size v n xs) : ∀ q, v.ownBlock = some q → q < w.heap.size := fun q eq => by
  rcases h.2 with ⟨e1, _⟩ | ⟨g', _, _, hv, _, hh, _⟩
  · rw [e1] at eq; cases eq
  · rw [hv] at eq
    have := (Array.getElem?_eq_some_iff.1 hh).1
    simp [Value.ownBlock] at eq
    omega

theorem thrN_succ (raw : List (List Int)) (t : Nat) (ht : t < raw.length) : thrN raw (t + 1) = thrN raw t ++ [codeN raw[t]] := by
  unfold thrN
  rw [List.take_succ_eq_append_getElem ht, List.map_append]; rfl
theorem thrN_len (raw : List (List Int)) (t : Nat) (ht : t ≤ raw.length) : (thrN raw t).length = t := by simp [thrN]; omega

theorem heap_alloc_new2 (w : World) (a b : Obj) : ((w.alloc a).alloc b).heap[w.heap.size + 1]? = some b := by
  have := heap_alloc_new (w.alloc a) b
  simpa using this

theorem insV_one (i : Ins) : ∀ v ∈ insV i, v.oneCell' = true := by
  intro v hv; simp only [insV, List.mem_cons, List.not_mem_nil, or_false] at hv
  rcases hv with rfl | rfl | rfl | rfl <;> rfl

set_option maxHeartbeats 8000000 in
set_option maxRecDepth 100000 in
theorem program_t (raw : List (List Int)) (rv : Value) (w : World) (hR : RawAt w rv raw) (hb : ∀ t (ht : t < raw.length) k (hk : k < raw[t].length), isInt raw[t][k]) :
    Calls Tryd.prog 15 #[rv] w fun e w' => ∃ tv, e = .returned (.agg #[tv]) ∧ ThrAt (w.heap.size + 2) w'.heap.size w' tv (progN raw) ∧ w.grownBy w' none := by
  obtain ⟨i0, hi0, hz0, hz1, hz2⟩ := info_parts info_ins
  obtain ⟨i1, hi1, hy0, hy1, hy2⟩ := info_parts info_code
  obtain ⟨ao, cap, rfl, hR⟩ := hR
  have HR := hide hR
  have HBd := hide hb
  clear hR hb
  go_enter Tryd.func15, Tryd.ntmps15
  go_wp2_with fail
  go_loopw [4] (fun i w' => ∃ t : Nat, t ≤ raw.length ∧ t ≤ 4 ∧ i = .int .i64 t ∧ Hid (ProgOut w raw t w')) (fun i _ => raw.length - (intOf i).toNat)
  case atStart =>
    refine ⟨0, Nat.zero_le _, by omega, rfl, .slice none 0 0, ?_, ⟨[], ⟨rfl, Or.inl ⟨rfl, rfl⟩⟩, fun h e => (by cases e), fun j hj => (by simp [thrN] at hj)⟩, grown_alloc (grown_alloc (grown_refl _ _)), ?_, by simp⟩
    · have := heap_alloc_new (w.alloc (.cells #[.slice none 0 0] 25)) (.cells #[.slice none 0 0] 25)
      simpa using this
    · rw [Below.heap_alloc _ _ _ (by simp)]; exact heap_alloc_new w _
  case round =>
    obtain ⟨t, ht, ht4, rfl, HO⟩ := hrel
    obtain ⟨w3, hw3⟩ : ∃ w3, w3 = wr := ⟨_, rfl⟩
    subst hw3
    by_cases hgo : t < raw.length ∧ t < 4
    · obtain ⟨hlt, hlt4⟩ := hgo
      obtain ⟨pg, po, rfl, r1, hr1, hr2⟩ := HR.out t hlt
      obtain ⟨ra, rc, rfl, _, hr3⟩ := hr2
      have hpr : Pres w w3 := by obtain ⟨tv, _, _, hg, _⟩ := HO.out; exact pres_grown hg
      have hr1' := hpr _ _ hr1
      have HBt := hide (HBd.out t hlt)
      have HR3 := hide hr3
      have HCN : Hid (thrN raw (t + 1) = thrN raw t ++ [codeN raw[t]]) := thrN_succ raw t hlt
      clear hpr hr3
      have q0 : (0 : Int) ≤ (t : Int) := by omega
      have q1 : (t : Int) < raw.length := by omega
      have q2 : (t : Int) < 4 := by omega
      generalize raw[t] = r at *
      by_cases h16 : 16 < r.length
      · have g16 : (16 : Int) < r.length := by omega
        have hCl : (codeN r).length = 16 := by rw [codeN_len]; omega
        have HCl := hide hCl
        have hML : 16 ≤ 16 := by omega
        have hMr : 16 ≤ r.length := by omega
        clear hCl
        go_wp2_with fail
        go_loopw [5, 7] (fun lv i w' => ∃ k : Nat, k ≤ 16 ∧ i = .int .i64 k ∧ Hid (ProgIn w raw t w3.heap.size k (codeN r) lv w')) (fun _ i _ => 16 - (intOf i).toNat)
        case atStart =>
          obtain ⟨tv, o1, o2, o3, o4, o5⟩ := HO.out
          exact ⟨0, Nat.zero_le _, rfl, tv, o1, o2, ⟨rfl, Or.inl ⟨rfl, rfl⟩⟩, o3, o4, o5, Nat.le_refl _⟩
        case round =>
          obtain ⟨k, hk, rfl, HJ⟩ := hrel
          obtain ⟨w4, hw4⟩ : ∃ w4, w4 = wr := ⟨_, rfl⟩
          subst hw4
          by_cases hkl : k < 16
          · have hg4 : w.grownBy w4 none := by obtain ⟨tv, _, _, _, hg, _⟩ := HJ.out; exact hg
            have hkr : k < r.length := by omega
            obtain ⟨ig, io, rfl, _, hic⟩ := HR3.out k hkr
            have hic' := pres_grown hg4 _ _ hic
            have hr1'' : w4.cell? ⟨pg, po + t, none⟩ = some (.slice (some ⟨ig, io, none⟩) r.length rc) := pres_grown hg4 _ _ hr1
            have hbd := HBt.out k hkr
            have q3 : (0 : Int) ≤ (k : Int) := by omega
            have q4 : (k : Int) < r.length := by omega
            have q5 : (k : Int) < 16 := by omega
            have HCk : Hid ((codeN r)[k]? = some (insN r[k] ((16 : Nat) : Int))) := by
              unfold Hid codeN
              have e : min r.length 16 = 16 := by omega
              rw [e]
              simp [List.getElem?_take, hkr]
              omega
            clear hic
            generalize r[k] = c at *
            go_wp2_with fail
            refine (instruction_m c _ hbd.1 hbd.2 (by omega) (by omega) _).mono ?_
            rintro e w5 ⟨rfl, hg5⟩
            have HG5 := hide hg5
            have hsz5 := hg5.size
            clear hg5 hic' hr1''
            generalize hins : insN c (16) = i at *
            clear hins
            have h63 : k + 1 ≤ maxLen := by unfold maxLen; omega
            obtain ⟨tv, j1, j2, j3, j4, j5, j6, j7⟩ := HJ.out
            go_wp2_with (at_builtin; refine wpList_append_lies _ rfl _ _ _ rfl w3.heap.size 28 i0 _ 4 32 Tryd.underlying29 hi0 hz0 hz1 hz2 rfl (by omega) u5 k (insCells ((codeN r).take k)) rfl (owns_grown j3 (grown_alloc (grown_alloc HG5.out)) (fun _ e => by cases e)) ⟨w5.heap.size + 1, 0, none⟩ 1 1 (insV i) rfl rfl (World.news_of_block (cs := #[.int .i64 i.op, .int .i64 i.a, .int .i64 i.b, .int .i64 i.n]) (t := 28) (fr := (0, 0)) (heap_alloc_new2 w5 _ _)) (insV_one i) (by omega) h63 (by omega) (by simp; omega) (w5.heap.size + 2) (by simp) ?_; intro g6 cap6 w6 hown6 hgrow hat hlt6)
            have HNX : Hid (ProgIn w raw t w3.heap.size (k + 1) (codeN r) (.slice (some ⟨g6, 0, none⟩) (k + 1) cap6) w6) := by
              have hob := owns_block j3
              have hgw : w4.grownBy ((w5.alloc (.cells #[.int .i64 i.op, .int .i64 i.a, .int .i64 i.b, .int .i64 i.n] 28)).alloc (.cells #[.int .i64 i.op, .int .i64 i.a, .int .i64 i.b, .int .i64 i.n] 28)) none := grown_alloc (grown_alloc HG5.out)
              have hsz6 := hgrow.size
              simp only [World.size_alloc] at hsz6
              have hfar : ∀ q, q < w3.heap.size → w6.heap[q]? = w4.heap[q]? := fun q hq => by
                rw [hgrow.block q (by simp; omega) (fun e => by have := hob q e.symm; omega), hgw.block q (by omega) (by simp)]
              have hkc : k < (codeN r).length := by rw [HCl.out]; omega
              refine ⟨tv, by rw [hfar _ (by omega)]; exact j1, (j2.step hgw (fun q e => by cases e)).step hgrow (fun q e => Or.inr (hob q e)), ?_, grown_row (grown_trans j4 hgw) hgrow (fun q e => by have := hob q e; have := j4.size; omega), by rw [hfar _ (by omega)]; exact j5, j6, by omega⟩
              rw [List.take_succ_eq_append_getElem hkc, insCells_snoc]
              have e1 : (codeN r)[k] = i := by
                have := HCk.out
                rw [List.getElem?_eq_getElem hkc] at this
                simpa using this
              rw [e1]; exact hown6
            clear j1 j2 j3 j4 j5 j6 j7 hgrow hown6 hat
            go_wp2
            go_roundw
            case rel => exact ⟨k + 1, by omega, by go_num, HNX⟩
            case measure => simp [intOf]; omega
          · have hke : k = 16 := by omega
            have q5 : (16 : Int) ≤ (k : Int) := by omega
            obtain ⟨tv, j1, j2, j3, j4, j5, j6, j7⟩ := HJ.out
            have HJ3 : Hid (CodeRow (w.heap.size + 2) w4.heap.size w4 u5 (codeN r)) := by
              refine ⟨?_, owns_lt j3⟩
              rw [List.take_of_length_le (by rw [HCl.out]; omega)] at j3
              rw [HCl.out, ← hke]
              exact owns_mono j3 (by omega)
            obtain ⟨rows, p1, p2, p3⟩ := j2
            have hTl : (thrN raw t).length = t := thrN_len raw t ht
            rw [hTl] at p1
            have P1 := hide p1
            have J2 : Hid (ThrAt (w.heap.size + 2) w3.heap.size w4 tv (thrN raw t)) := ⟨rows, by rw [hTl]; exact p1, p2, p3⟩
            obtain ⟨tva, tvn, tvc, rfl⟩ := owns_form p1
            have c1 : w4.cell? ⟨w.heap.size + 1, 0, none⟩ = some (.slice tva tvn tvc) := by simp [World.cell?, j1]
            have c1f : w4.frozen? ⟨w.heap.size + 1, 0, none⟩ = false := by simp [World.frozen?, j1]
            obtain ⟨la, ln, lc, rfl⟩ := owns_form HJ3.out.1
            have h63 : t + 1 ≤ maxLen := by unfold maxLen; omega
            have J1 := hide j1
            have J5 := hide j5
            have J4 := hide j4
            clear p1 p2 p3 j1 j5 j4 hke j3
            go_wp2_with (at_builtin; refine wpList_append_lies _ rfl _ _ _ rfl (w.heap.size + 2) 29 i1 _ 1 24 Tryd.underlying23 hi1 hy0 hy1 hy2 rfl (by omega) (.slice tva tvn tvc) t rows rfl (owns_alloc P1.out) ⟨w4.heap.size, 0, none⟩ 1 1 [.slice la ln lc] rfl rfl (World.news_of_block (cs := #[.slice la ln lc]) (t := 29) (fr := (0, 0)) (heap_alloc_new w4 _)) (by simp [Value.oneCell']) (by omega) h63 (by omega) (by simp; omega) (w4.heap.size + 1) (by simp) ?_; intro g6 cap6 w6 hown6 hgrow hat hlt6; have c6 : w6.cell? ⟨w.heap.size + 1, 0, none⟩ = some (.slice tva tvn tvc) := (by rw [hgrow.cell_far _ (by simp; omega) (fun e => by have := owns_block P1.out _ e.symm; simp at this), World.cell?_alloc_lt _ _ _ (by simp; omega)]; exact c1); have c6f : w6.frozen? ⟨w.heap.size + 1, 0, none⟩ = false := (by rw [hgrow.frozen_far _ (by simp; omega) (fun e => by have := owns_block P1.out _ e.symm; simp at this), World.frozen?_alloc_old _ _ _ (by simp; omega)]; exact c1f))
            have HNX : Hid (ProgOut w raw (t + 1) (w6.setCell ⟨w.heap.size + 1, 0, none⟩ (.slice (some ⟨g6, 0, none⟩) (t + 1) cap6))) := by
              have hob := owns_block P1.out
              have hsz6 := hgrow.size
              simp only [World.size_alloc] at hsz6
              have hfar : ∀ q, q < w.heap.size + 2 → w6.heap[q]? = w4.heap[q]? := fun q hq => by
                rw [hgrow.block q (by simp; omega) (fun e => by have := hob q e.symm; omega), Below.heap_alloc _ _ _ (by omega)]
              have hsn := ThrAt.snoc (J2.out.mono (by omega : w3.heap.size ≤ w4.heap.size)) (rows := rows) (by rw [hTl]; exact P1.out) HJ3.out (grown_alloc (grown_refl _ _)) hgrow (tv' := .slice (some ⟨g6, 0, none⟩) (t + 1) cap6) (by rw [hTl]; exact hown6) (by omega) (owns_lt hown6)
              refine ⟨.slice (some ⟨g6, 0, none⟩) (t + 1) cap6, ?_, ?_, ?_, ?_, by simp; omega⟩
              · have := heap_setCell_same w6 (w.heap.size + 1) 0 _ _ (.slice (some ⟨g6, 0, none⟩) (t + 1) cap6) (by rw [hfar _ (by omega)]; exact J1.out)
                simpa using this
              · rw [HCN.out, World.size_setCell]
                exact hsn.step grown_set (fun q e => by cases e; exact Or.inl (by omega))
              · exact grown_setNew (grown_row (grown_alloc J4.out) hgrow (fun q e => by have := hob q e; omega)) (by omega)
              · rw [Below.heap_setCell _ _ _ _ (by simp), hfar _ (by omega)]; exact J5.out
            clear hgrow hown6 hat
            go_wp2
            go_roundw
            case rel => exact ⟨t + 1, by omega, by omega, by go_num, HNX⟩
            case measure => simp [intOf]; omega
      · have g16 : (r.length : Int) ≤ 16 := by omega
        have hCl : (codeN r).length = r.length := by rw [codeN_len]; omega
        have HCl := hide hCl
        have hML : r.length ≤ 16 := by omega
        have hMr : r.length ≤ r.length := by omega
        clear hCl
        go_wp2_with fail
        go_loopw [5, 7] (fun lv i w' => ∃ k : Nat, k ≤ r.length ∧ i = .int .i64 k ∧ Hid (ProgIn w raw t w3.heap.size k (codeN r) lv w')) (fun _ i _ => r.length - (intOf i).toNat)
        case atStart =>
          obtain ⟨tv, o1, o2, o3, o4, o5⟩ := HO.out
          exact ⟨0, Nat.zero_le _, rfl, tv, o1, o2, ⟨rfl, Or.inl ⟨rfl, rfl⟩⟩, o3, o4, o5, Nat.le_refl _⟩
        case round =>
          obtain ⟨k, hk, rfl, HJ⟩ := hrel
          obtain ⟨w4, hw4⟩ : ∃ w4, w4 = wr := ⟨_, rfl⟩
          subst hw4
          by_cases hkl : k < r.length
          · have hg4 : w.grownBy w4 none := by obtain ⟨tv, _, _, _, hg, _⟩ := HJ.out; exact hg
            have hkr : k < r.length := by omega
            obtain ⟨ig, io, rfl, _, hic⟩ := HR3.out k hkr
            have hic' := pres_grown hg4 _ _ hic
            have hr1'' : w4.cell? ⟨pg, po + t, none⟩ = some (.slice (some ⟨ig, io, none⟩) r.length rc) := pres_grown hg4 _ _ hr1
            have hbd := HBt.out k hkr
            have q3 : (0 : Int) ≤ (k : Int) := by omega
            have q4 : (k : Int) < r.length := by omega
            have q5 : (k : Int) < (r.length : Int) := by omega
            have HCk : Hid ((codeN r)[k]? = some (insN r[k] ((r.length : Nat) : Int))) := by
              unfold Hid codeN
              have e : min r.length 16 = r.length := by omega
              rw [e]
              simp [List.getElem?_take, hkr]
              omega
            clear hic
            generalize r[k] = c at *
            go_wp2_with fail
            refine (instruction_m c _ hbd.1 hbd.2 (by omega) (by omega) _).mono ?_
            rintro e w5 ⟨rfl, hg5⟩
            have HG5 := hide hg5
            have hsz5 := hg5.size
            clear hg5 hic' hr1''
            generalize hins : insN c ((r.length : Int)) = i at *
            clear hins
            have h63 : k + 1 ≤ maxLen := by unfold maxLen; omega
            obtain ⟨tv, j1, j2, j3, j4, j5, j6, j7⟩ := HJ.out
            go_wp2_with (at_builtin; refine wpList_append_lies _ rfl _ _ _ rfl w3.heap.size 28 i0 _ 4 32 Tryd.underlying29 hi0 hz0 hz1 hz2 rfl (by omega) u5 k (insCells ((codeN r).take k)) rfl (owns_grown j3 (grown_alloc (grown_alloc HG5.out)) (fun _ e => by cases e)) ⟨w5.heap.size + 1, 0, none⟩ 1 1 (insV i) rfl rfl (World.news_of_block (cs := #[.int .i64 i.op, .int .i64 i.a, .int .i64 i.b, .int .i64 i.n]) (t := 28) (fr := (0, 0)) (heap_alloc_new2 w5 _ _)) (insV_one i) (by omega) h63 (by omega) (by simp; omega) (w5.heap.size + 2) (by simp) ?_; intro g6 cap6 w6 hown6 hgrow hat hlt6)
            have HNX : Hid (ProgIn w raw t w3.heap.size (k + 1) (codeN r) (.slice (some ⟨g6, 0, none⟩) (k + 1) cap6) w6) := by
              have hob := owns_block j3
              have hgw : w4.grownBy ((w5.alloc (.cells #[.int .i64 i.op, .int .i64 i.a, .int .i64 i.b, .int .i64 i.n] 28)).alloc (.cells #[.int .i64 i.op, .int .i64 i.a, .int .i64 i.b, .int .i64 i.n] 28)) none := grown_alloc (grown_alloc HG5.out)
              have hsz6 := hgrow.size
              simp only [World.size_alloc] at hsz6
              have hfar : ∀ q, q < w3.heap.size → w6.heap[q]? = w4.heap[q]? := fun q hq => by
                rw [hgrow.block q (by simp; omega) (fun e => by have := hob q e.symm; omega), hgw.block q (by omega) (by simp)]
              have hkc : k < (codeN r).length := by rw [HCl.out]; omega
              refine ⟨tv, by rw [hfar _ (by omega)]; exact j1, (j2.step hgw (fun q e => by cases e)).step hgrow (fun q e => Or.inr (hob q e)), ?_, grown_row (grown_trans j4 hgw) hgrow (fun q e => by have := hob q e; have := j4.size; omega), by rw [hfar _ (by omega)]; exact j5, j6, by omega⟩
              rw [List.take_succ_eq_append_getElem hkc, insCells_snoc]
              have e1 : (codeN r)[k] = i := by
                have := HCk.out
                rw [List.getElem?_eq_getElem hkc] at this
                simpa using this
              rw [e1]; exact hown6
            clear j1 j2 j3 j4 j5 j6 j7 hgrow hown6 hat
            go_wp2
            go_roundw
            case rel => exact ⟨k + 1, by omega, by go_num, HNX⟩
            case measure => simp [intOf]; omega
          · have hke : k = r.length := by omega
            have q5 : ((r.length : Int) : Int) ≤ (k : Int) := by omega
            obtain ⟨tv, j1, j2, j3, j4, j5, j6, j7⟩ := HJ.out
            have HJ3 : Hid (CodeRow (w.heap.size + 2) w4.heap.size w4 u5 (codeN r)) := by
              refine ⟨?_, owns_lt j3⟩
              rw [List.take_of_length_le (by rw [HCl.out]; omega)] at j3
              rw [HCl.out, ← hke]
              exact owns_mono j3 (by omega)
            obtain ⟨rows, p1, p2, p3⟩ := j2
            have hTl : (thrN raw t).length = t := thrN_len raw t ht
            rw [hTl] at p1
            have P1 := hide p1
            have J2 : Hid (ThrAt (w.heap.size + 2) w3.heap.size w4 tv (thrN raw t)) := ⟨rows, by rw [hTl]; exact p1, p2, p3⟩
            obtain ⟨tva, tvn, tvc, rfl⟩ := owns_form p1
            have c1 : w4.cell? ⟨w.heap.size + 1, 0, none⟩ = some (.slice tva tvn tvc) := by simp [World.cell?, j1]
            have c1f : w4.frozen? ⟨w.heap.size + 1, 0, none⟩ = false := by simp [World.frozen?, j1]
            obtain ⟨la, ln, lc, rfl⟩ := owns_form HJ3.out.1
            have h63 : t + 1 ≤ maxLen := by unfold maxLen; omega
            have J1 := hide j1
            have J5 := hide j5
            have J4 := hide j4
            clear p1 p2 p3 j1 j5 j4 hke j3
            go_wp2_with (at_builtin; refine wpList_append_lies _ rfl _ _ _ rfl (w.heap.size + 2) 29 i1 _ 1 24 Tryd.underlying23 hi1 hy0 hy1 hy2 rfl (by omega) (.slice tva tvn tvc) t rows rfl (owns_alloc P1.out) ⟨w4.heap.size, 0, none⟩ 1 1 [.slice la ln lc] rfl rfl (World.news_of_block (cs := #[.slice la ln lc]) (t := 29) (fr := (0, 0)) (heap_alloc_new w4 _)) (by simp [Value.oneCell']) (by omega) h63 (by omega) (by simp; omega) (w4.heap.size + 1) (by simp) ?_; intro g6 cap6 w6 hown6 hgrow hat hlt6; have c6 : w6.cell? ⟨w.heap.size + 1, 0, none⟩ = some (.slice tva tvn tvc) := (by rw [hgrow.cell_far _ (by simp; omega) (fun e => by have := owns_block P1.out _ e.symm; simp at this), World.cell?_alloc_lt _ _ _ (by simp; omega)]; exact c1); have c6f : w6.frozen? ⟨w.heap.size + 1, 0, none⟩ = false := (by rw [hgrow.frozen_far _ (by simp; omega) (fun e => by have := owns_block P1.out _ e.symm; simp at this), World.frozen?_alloc_old _ _ _ (by simp; omega)]; exact c1f))
            have HNX : Hid (ProgOut w raw (t + 1) (w6.setCell ⟨w.heap.size + 1, 0, none⟩ (.slice (some ⟨g6, 0, none⟩) (t + 1) cap6))) := by
              have hob := owns_block P1.out
              have hsz6 := hgrow.size
              simp only [World.size_alloc] at hsz6
              have hfar : ∀ q, q < w.heap.size + 2 → w6.heap[q]? = w4.heap[q]? := fun q hq => by
                rw [hgrow.block q (by simp; omega) (fun e => by have := hob q e.symm; omega), Below.heap_alloc _ _ _ (by omega)]
              have hsn := ThrAt.snoc (J2.out.mono (by omega : w3.heap.size ≤ w4.heap.size)) (rows := rows) (by rw [hTl]; exact P1.out) HJ3.out (grown_alloc (grown_refl _ _)) hgrow (tv' := .slice (some ⟨g6, 0, none⟩) (t + 1) cap6) (by rw [hTl]; exact hown6) (by omega) (owns_lt hown6)
              refine ⟨.slice (some ⟨g6, 0, none⟩) (t + 1) cap6, ?_, ?_, ?_, ?_, by simp; omega⟩
              · have := heap_setCell_same w6 (w.heap.size + 1) 0 _ _ (.slice (some ⟨g6, 0, none⟩) (t + 1) cap6) (by rw [hfar _ (by omega)]; exact J1.out)
                simpa using this
              · rw [HCN.out, World.size_setCell]
                exact hsn.step grown_set (fun q e => by cases e; exact Or.inl (by omega))
              · exact grown_setNew (grown_row (grown_alloc J4.out) hgrow (fun q e => by have := hob q e; omega)) (by omega)
              · rw [Below.heap_setCell _ _ _ _ (by simp), hfar _ (by omega)]; exact J5.out
            clear hgrow hown6 hat
            go_wp2
            go_roundw
            case rel => exact ⟨t + 1, by omega, by omega, by go_num, HNX⟩
            case measure => simp [intOf]; omega
    · obtain ⟨tv, j1, j2, j4, j5, j6⟩ := HO.out
      have hTe : thrN raw t = thrN raw 4 := by
        unfold thrN
        by_cases h4 : t = 4
        · rw [h4]
        · rw [List.take_of_length_le (by omega), List.take_of_length_le (by omega)]
      have hTl : (thrN raw t).length = t := thrN_len raw t ht
      have HT : Hid (ThrAt (w.heap.size + 2) w3.heap.size w3 tv (thrN raw 4)) := by rw [← hTe]; exact j2
      obtain ⟨rows, p1, p2, p3⟩ := j2
      rw [hTl] at p1
      have P1 := hide p1
      obtain ⟨tva, tvn, tvc, rfl⟩ := owns_form p1
      have hn := owns_lenq p1
      subst hn
      have c1 : w3.cell? ⟨w.heap.size + 1, 0, none⟩ = some (.slice tva tvn tvc) := by simp [World.cell?, j1]
      have c1f : w3.frozen? ⟨w.heap.size + 1, 0, none⟩ = false := by simp [World.frozen?, j1]
      have c2 : w3.cell? ⟨w.heap.size, 0, none⟩ = some (.slice none 0 0) := by simp [World.cell?, j5]
      have c2f : w3.frozen? ⟨w.heap.size, 0, none⟩ = false := by simp [World.frozen?, j5]
      have J1 := hide j1
      have J4 := hide j4
      have J5 := hide j5
      have HTe := hide hTe
      have HTl := hide hTl
      have HNG := hide hgo
      clear p1 p2 p3 j1 j4 j5 hgo hTe hTl
      have q0 : (0 : Int) ≤ (tvn : Int) := by omega
      by_cases h0 : tvn = 0
      · have hr0 : raw.length = 0 := by
          by_cases e : raw.length = 0
          · exact e
          · exact absurd ⟨by omega, by omega⟩ HNG.out
        subst h0
        have hrr : (raw.length : Int) ≤ 0 := by omega
        have HPN : Hid (progN raw = thrN raw 4 ++ [[]]) := by
          unfold Hid progN
          have e : (thrN raw 4).length = 0 := by rw [← HTe.out]; exact HTl.out
          rw [if_pos e, List.length_eq_zero_iff.1 e]; rfl
        go_wp2_with (at_builtin; refine wpList_append_lies _ rfl _ _ _ rfl (w.heap.size + 2) 29 i1 _ 1 24 Tryd.underlying23 hi1 hy0 hy1 hy2 rfl (by omega) (.slice tva 0 tvc) 0 rows rfl (owns_alloc P1.out) ⟨w3.heap.size, 0, none⟩ 1 1 [.slice none 0 0] rfl rfl (World.news_of_block (cs := #[.slice none 0 0]) (t := 29) (fr := (0, 0)) (heap_alloc_new w3 _)) (by simp [Value.oneCell']) (by omega) (by unfold maxLen; omega) (by omega) (by simp; omega) (w3.heap.size + 1) (by simp) ?_; intro g6 cap6 w6 hown6 hgrow hat hlt6; have c6 : w6.cell? ⟨w.heap.size + 1, 0, none⟩ = some (.slice tva 0 tvc) := (by rw [hgrow.cell_far _ (by simp; omega) (fun e => by have := owns_block P1.out _ e.symm; simp at this), World.cell?_alloc_lt _ _ _ (by simp; omega)]; exact c1); have c6f : w6.frozen? ⟨w.heap.size + 1, 0, none⟩ = false := (by rw [hgrow.frozen_far _ (by simp; omega) (fun e => by have := owns_block P1.out _ e.symm; simp at this), World.frozen?_alloc_old _ _ _ (by simp; omega)]; exact c1f); have c7 : w6.cell? ⟨w.heap.size, 0, none⟩ = some (.slice none 0 0) := (by rw [hgrow.cell_far _ (by simp; omega) (fun e => by have := owns_block P1.out _ e.symm; simp at this; omega), World.cell?_alloc_lt _ _ _ (by simp; omega)]; exact c2); have c7f : w6.frozen? ⟨w.heap.size, 0, none⟩ = false := (by rw [hgrow.frozen_far _ (by simp; omega) (fun e => by have := owns_block P1.out _ e.symm; simp at this; omega), World.frozen?_alloc_old _ _ _ (by simp; omega)]; exact c2f))
        have hob := owns_block P1.out
        have hsz6 := hgrow.size
        simp only [World.size_alloc] at hsz6
        have hsn := ThrAt.snoc HT.out (rows := rows) (lv := .slice none 0 0) (c := []) (by rw [← HTe.out, HTl.out]; exact P1.out) ⟨⟨rfl, Or.inl ⟨rfl, rfl⟩⟩, fun h e => by cases e⟩ (grown_alloc (grown_refl _ _)) hgrow (tv' := .slice (some ⟨g6, 0, none⟩) (0 + 1) cap6) (by rw [← HTe.out, HTl.out]; exact hown6) (by omega) (owns_lt hown6)
        rw [← HPN.out] at hsn
        refine bodyPost_ret (v := .agg #[.slice (some ⟨g6, 0, none⟩) (0 + 1) cap6]) ?_ rfl ⟨_, rfl, ?_, ?_⟩
        · simp [results, Tryd.results15, go_sem, c7]
        · exact ((hsn.step grown_set (fun q e => by cases e; exact Or.inl (by omega))).step grown_set (fun q e => by cases e; exact Or.inl (by omega))).mono (by simp)
        · exact grown_setNew (grown_setNew (grown_row (grown_alloc J4.out) hgrow (fun q e => by have := hob q e; omega)) (by omega)) (by omega)
      · have HPN : Hid (progN raw = thrN raw 4) := by
          unfold Hid progN
          have e : (thrN raw 4).length ≠ 0 := by rw [← HTe.out, HTl.out]; exact h0
          rw [if_neg e]
        have hne : ((tvn : Int) == 0) = false := by simpa using h0
        by_cases hlt : tvn < raw.length
        · have g1 : (tvn : Int) < raw.length := by omega
          have g2 : (4 : Int) ≤ tvn := by
            by_cases e : tvn < 4
            · exact absurd ⟨hlt, e⟩ HNG.out
            · omega
          go_wp2_with fail
          rw [HPN.out]
          refine bodyPost_ret (v := .agg #[.slice tva tvn tvc]) ?_ rfl ⟨_, rfl, ?_, ?_⟩
          · simp [results, Tryd.results15, go_sem, c2]
          · exact (HT.out.step grown_set (fun q e => by cases e; exact Or.inl (by omega))).mono (by simp)
          · exact grown_setNew J4.out (by omega)
        · have g1 : (raw.length : Int) ≤ tvn := by omega
          go_wp2_with fail
          rw [HPN.out]
          refine bodyPost_ret (v := .agg #[.slice tva tvn tvc]) ?_ rfl ⟨_, rfl, ?_, ?_⟩
          · simp [results, Tryd.results15, go_sem, c2]
          · exact (HT.out.step grown_set (fun q e => by cases e; exact Or.inl (by omega))).mono (by simp)
          · exact grown_setNew J4.out (by omega)

theorem program_m (raw : List (List Int)) (rv : Value) (w : World) (hR : RawAt w rv raw) (hb : ∀ t (ht : t < raw.length) k (hk : k < raw[t].length), isInt raw[t][k]) :
    Calls Tryd.prog 15 #[rv] w fun e w' => ∃ tv, e = .returned (.agg #[tv]) ∧ ProgAt w' (.agg #[tv]) (progN raw) ∧ w.grownBy w' none :=
  (program_t raw rv w hR hb).mono fun _ _ ⟨tv, h1, h2, h3⟩ => ⟨tv, h1, h2.progAt, h3⟩

end Go.Proofs.YtklenjmfalljgaaDoor
