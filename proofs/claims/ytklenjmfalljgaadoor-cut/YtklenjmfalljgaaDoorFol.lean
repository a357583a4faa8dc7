/- The walk of follow. -/
import Derived.Test.YtklenjmfalljgaaDoorEnd
import Derived.Deep.AppendLies
import Derived.OwnWalk
namespace Go.Proofs.YtklenjmfalljgaaDoor
open Go.RowKit

set_option maxHeartbeats 400000 in
theorem below_m (x n : Int) (w : World) : Calls Tryd.prog 105 #[.int .i64 x, .int .i64 n] w fun e w' => e = .returned (.bool (belowB x n)) ∧ w' = w := by
  by_cases h1 : 0 ≤ x
  · by_cases h2 : x < n
    · have HB : Hid (belowB x n = true) := by unfold Hid; simp [belowB, h1, h2]
      go_enter Tryd.func105, Tryd.ntmps105
      go_wp2
      go_ret
      exact ⟨by rw [HB.out]; rfl, rfl⟩
    · have HB : Hid (belowB x n = false) := by unfold Hid; simp [belowB, h1, h2]
      have h3 : n ≤ x := by omega
      go_enter Tryd.func105, Tryd.ntmps105
      go_wp2
      go_ret
      exact ⟨by rw [HB.out]; rfl, rfl⟩
  · have HB : Hid (belowB x n = false) := by unfold Hid; simp [belowB, h1]
    have h3 : x < 0 := by omega
    go_enter Tryd.func105, Tryd.ntmps105
    go_wp2
    go_ret
    exact ⟨by rw [HB.out]; rfl, rfl⟩

/-- A slice of numbers in memory; its row lies below block B. -/
def IntsAt (B : Nat) (w : World) (v : Value) (l : List Int) : Prop :=
  ∃ ao cap, v = .slice ao l.length cap ∧ l.length ≤ cap ∧ ∀ k (hk : k < l.length), ∃ g o, ao = some ⟨g, o, none⟩ ∧ g < B ∧ w.cell? ⟨g, o + k, none⟩ = some (.int .i64 l[k])

def flatS (acc : List (Int × Int)) : List Value := acc.flatMap fun x => [.int .i64 x.1, .int .i64 x.2]
theorem flatS_snoc (acc : List (Int × Int)) (x : Int × Int) : flatS (acc ++ [x]) = flatS acc ++ [.int .i64 x.1, .int .i64 x.2] := by simp [flatS]

theorem owns_grown {w w' : World} {base : Nat} {e : TypeId} {size : Nat} {v : Value} {n : Nat} {xs : List Value} {r : Option Nat} (h : w.ownsRow base e size v n xs) (hg : w.grownBy w' r) (hr : ∀ k, r = some k → k < base) : w'.ownsRow base e size v n xs := by
  obtain ⟨h1, h2⟩ := h
  refine ⟨h1, ?_⟩
  rcases h2 with h2 | ⟨g, cap, cur, hv, hb, hh, rest⟩
  · exact Or.inl h2
  · have hlt : g < w.heap.size := (Array.getElem?_eq_some_iff.1 hh).1
    refine Or.inr ⟨g, cap, cur, hv, hb, ?_, rest⟩
    rw [hg.block g hlt (fun e => by have := hr g e.symm; omega)]; exact hh

theorem owns_block {w : World} {base : Nat} {e : TypeId} {size : Nat} {v : Value} {n : Nat} {xs : List Value} (h : w.ownsRow base e size v n xs) : ∀ k, v.ownBlock = some k → base ≤ k := by
  rcases h.2 with ⟨e1, _⟩ | ⟨g, cap, cur, hv, hb, _⟩
  · intro k hk; rw [e1] at hk; cases hk
  · intro k hk; rw [hv] at hk; simp [Value.ownBlock] at hk; omega

theorem info_step : ((Tryd.prog.info? 48).map fun i => (i.zero, i.size, i.bytes)) = some (some (.agg #[.int .i64 0, .int .i64 0]), 2, 16) := by kernel_rfl

theorem owns_mono {w : World} {base base' : Nat} {e : TypeId} {size : Nat} {v : Value} {n : Nat} {xs : List Value} (h : w.ownsRow base e size v n xs) (hb : base' ≤ base) : w.ownsRow base' e size v n xs := by
  obtain ⟨h1, h2⟩ := h
  refine ⟨h1, h2.imp id ?_⟩
  rintro ⟨g, cap, cur, hv, hg, rest⟩
  exact ⟨g, cap, cur, hv, by omega, rest⟩
theorem grown_setNew {w w' : World} {r : Option Nat} {g o : Nat} {v : Value} (h : w.grownBy w' r) (hg : w.heap.size ≤ g) : w.grownBy (w'.setCell ⟨g, o, none⟩ v) r :=
  ⟨h.os, h.tape, h.output, by simpa using h.size, fun k hk hr => by rw [Below.heap_setCell _ _ _ _ (by simp; omega)]; exact h.block k hk hr⟩
theorem StAt.setOther {w : World} {b : Nat} {s : St} {g o : Nat} {v : Value} (h : StAt w b s) (hg : b ≠ g) : StAt (w.setCell ⟨g, o, none⟩ v) b s := by
  unfold StAt at *
  rw [Below.heap_setCell _ _ _ _ (by simpa using hg)]; exact h
theorem grown_old {w w' : World} {r : Option Nat} {o : Obj} (h : (w.alloc o).grownBy w' r) : w.grownBy w' r := grown_trans (grown_alloc (grown_refl w r)) h
theorem new_block {w w' : World} {b : Nat} {o : Obj} (h : (w.alloc o).grownBy w' (some b)) (hb : b < w.heap.size) : w'.heap[w.heap.size]? = some o := by
  rw [h.block w.heap.size (by simp) (by simp; omega)]
  show (w.heap.push o)[w.heap.size]? = some o
  simp
theorem grown_none {w w' : World} {r : Option Nat} (h : w.grownBy w' none) : w.grownBy w' r := ⟨h.os, h.tape, h.output, h.size, fun k hk _ => h.block k hk (by simp)⟩
theorem grown_row {w0 w w' : World} {r : Option Nat} {v : Value} (h : w0.grownBy w r) (hg : w.grownBy w' v.ownBlock) (hv : ∀ k, v.ownBlock = some k → w0.heap.size ≤ k) : w0.grownBy w' r :=
  ⟨hg.os.trans h.os, hg.tape.trans h.tape, hg.output.trans h.output, Nat.le_trans h.size hg.size, fun k hk hr => by
    rw [hg.block k (Nat.lt_of_lt_of_le hk h.size) (fun e => by have := hv k e.symm; omega)]; exact h.block k hk hr⟩
theorem StAt.rowGrown {w w' : World} {b : Nat} {s : St} {v : Value} (h : StAt w b s) (hg : w.grownBy w' v.ownBlock) (hv : ∀ k, v.ownBlock = some k → b < k) : StAt w' b s := by
  have hl := h.lt
  unfold StAt at *
  rw [hg.block b hl (fun e => by have := hv b e.symm; omega)]; exact h
theorem owns_alloc {w : World} {base : Nat} {e : TypeId} {size : Nat} {v : Value} {n : Nat} {xs : List Value} {o : Obj} (h : w.ownsRow base e size v n xs) : (w.alloc o).ownsRow base e size v n xs :=
  owns_grown h (grown_alloc (grown_refl w none)) (fun _ e => by cases e)
theorem three_cells {w : World} {g : Nat} {x y z : Value} {t : TypeId} (h : w.heap[g]? = some (.cells #[x, y, z] t (0, 0))) :
    w.cell? ⟨g, 0, none⟩ = some x ∧ w.cell? ⟨g, 1, none⟩ = some y ∧ w.cell? ⟨g, 2, none⟩ = some z ∧ (∀ o, w.frozen? ⟨g, o, none⟩ = false) := by
  simp [World.cell?, World.frozen?, h]

/-- What follow leaves. -/
def Followed (w : World) (b : Nat) (o : Out) (e : Ending) (w' : World) : Prop :=
  ∃ sv, e = .returned (.tuple #[sv, .agg #[.int .i64 o.kind, .int .i64 o.thread, .int .i64 o.at_]]) ∧ w'.ownsRow w.heap.size 48 2 sv o.steps.length (flatS o.steps) ∧
    StAt w' b o.st ∧ w.grownBy w' (some b)

set_option maxHeartbeats 4000000 in
set_option maxRecDepth 100000 in
theorem follow_m {B m b : Nat} {w : World} {p : List (List Ins)} {s0 : St} {v : Value} {sch : List Int} (hp : vProg p = true) (hM : MachAt B w m p) (hB : B ≤ b) (hs : StAt w b s0) (hI : Inv p s0)
    (hv : IntsAt B w v sch) (h500 : sch.length ≤ 500) :
    Calls Tryd.prog 73 #[.pointer (some ⟨m, 0, none⟩), .pointer (some ⟨b, 0, none⟩), v] w (Followed w b (follow p sch 0 s0 [])) := by
  obtain ⟨i0, hi0, hz0, hz1, hz2⟩ := info_parts info_step
  obtain ⟨ao, cap, rfl, hcap, hcell⟩ := hv
  have hb := hs.lt
  have hlen := vProg_len hp
  have HM : Hid (MachAt B w m p) := hM
  have HS : Hid (StAt w b s0) := hs
  have HI : Hid (Inv p s0) := hI
  have HP : Hid (vProg p = true) := hp
  have HC : Hid (∀ k (hk : k < sch.length), ∃ g o, ao = some ⟨g, o, none⟩ ∧ g < B ∧ w.cell? ⟨g, o + k, none⟩ = some (.int .i64 sch[k])) := hcell
  obtain ⟨g, mcap, hm, hg, h1, h2⟩ := hM
  have h3 : (p.length : Int) ≤ 4 := by omega
  have h4 : (sch.length : Int) ≤ 500 := by omega
  clear h2 hs hI hp hcell
  have HI0 : Hid (Tryd.prog.info? 48 = some i0) := hi0
  have HZ0 := hz0
  go_enter Tryd.func73, Tryd.ntmps73
  go_wp2_with (at_make; refine wpList_make_own _ rfl _ _ _ rfl (w.heap.size + 1) 48 i0 _ 2 Tryd.underlying33 hi0 hz0 hz1 .i64 .i64 _ sch.length rfl rfl rfl (by rw [hz2]; omega) (by unfold maxLen; omega) (by simp) ?_; intro w0 hown0 hg0)
  have HO0 : Hid (w0.ownsRow (w.heap.size + 1) 48 2 (.slice (some ⟨w.heap.size + 1, 0, none⟩) 0 sch.length) 0 []) := by unfold Hid; simpa using hown0
  have HG0 : Hid ((w.alloc (.cells #[.int .i64 0, .int .i64 0, .int .i64 0] 32)).grownBy w0 (some b)) := grown_none hg0
  have HW0 := (show Hid _ from hg0)
  clear hown0 hg0
  go_loopw [8, 17] (fun sv i w' => ∃ (k : Nat) (s : St) (acc : List (Int × Int)), k ≤ sch.length ∧ i = .int .i64 k ∧ acc.length = k ∧ Hid (w'.ownsRow (w.heap.size + 1) 48 2 sv k (flatS acc)) ∧
      Hid (StAt w' b s) ∧ Hid (Inv p s) ∧ Hid ((w.alloc (.cells #[.int .i64 0, .int .i64 0, .int .i64 0] 32)).grownBy w' (some b)) ∧
      Hid (follow p sch 0 s0 [] = follow p (sch.drop k) k s acc)) (fun _ i _ => sch.length - (intOf i).toNat)
  case atStart =>
    refine ⟨0, s0, [], Nat.zero_le _, rfl, rfl, HO0, ?_, HI, HG0, rfl⟩
    have hh : w0.heap[b]? = w.heap[b]? := by rw [HW0.out.block b (by simp; omega) (by simp), Below.heap_alloc _ _ _ (by omega)]
    have hst := HS.out
    unfold StAt at *
    unfold Hid
    rw [hh]; exact hst
  case round =>
    clear HO0 HG0 HW0
    obtain ⟨k, s, acc, hk, rfl, hacc, HO, HSt, HIn, HG, HF⟩ := hrel
    have hvb := new_block HG.out hb
    obtain ⟨v0, v1, v2, vf⟩ := three_cells hvb
    have vf0 := vf 0
    have vf1 := vf 1
    have vf2 := vf 2
    have HV : Hid (∀ o, wr.frozen? ⟨w.heap.size, o, none⟩ = false) := vf
    clear vf hvb
    have hsz : w.heap.size + 1 ≤ wr.heap.size := by have := HG.out.size; simpa using this
    have HM' : Hid (MachAt B wr m p) := (HM.out.grown' (by omega) (grown_alloc (grown_refl w none))).grown hB (by simp; omega) HG.out
    by_cases hlt : k < sch.length
    · obtain ⟨gb, go, rfl, hgb, hc⟩ := HC.out k hlt
      have hcr : wr.cell? ⟨gb, go + k, none⟩ = some (.int .i64 sch[k]) := by
        rw [HG.out.cell_far _ (by simp; omega) (by simp; omega), World.cell?_alloc_lt _ _ _ (by simp; omega)]; exact hc
      clear hc
      have HD : Hid (sch.drop k = sch[k] :: sch.drop (k + 1)) := List.drop_eq_getElem_cons hlt
      generalize sch[k] = t at *
      have hmr : wr.cell? ⟨m, 0, none⟩ = some (.slice (some ⟨g, 0, none⟩) p.length mcap) := by
        rw [HG.out.cell_far _ (by simp; omega) (by simp; omega), World.cell?_alloc_lt _ _ _ (by simp; omega)]; exact h1
      have hk0 : (0 : Int) ≤ (k : Int) := by omega
      have hk1 : (k : Int) < sch.length := by omega
      have hk2 : (k : Int) < 500 := by omega
      go_wp2_with fail
      refine (below_m t p.length wr).mono ?_
      rintro e w1 ⟨rfl, rfl⟩
      cases hbl : belowB t p.length
      · have HW : Hid (follow p sch 0 s0 [] = ⟨acc, 2, 0, k, s⟩) := by
          unfold Hid
          rw [HF.out, HD.out]; exact follow_wrong _ _ _ _ _ _ (by simp [okAt, hbl])
        clear hbl
        go_wp2
        rw [HW.out]
        exact bodyPost_ret (v := .tuple #[u8, .agg #[.int .i64 2, .int .i64 0, .int .i64 k]]) (by simp [results, Tryd.results73, go_sem, v0, v1, v2]) rfl
          ⟨u8, rfl, by rw [hacc]; exact owns_mono (ownsRow_setCell_below (ownsRow_setCell_below (ownsRow_setCell_below HO.out (by simp) _) (by simp) _) (by simp) _) (by omega), ((HSt.out.setOther (by omega)).setOther (by omega)).setOther (by omega), grown_setNew (grown_setNew (grown_setNew (grown_old HG.out) (by omega)) (by omega)) (by omega)⟩
      · have ht : 0 ≤ t ∧ t < p.length := by simpa [belowB] using hbl
        obtain ⟨t', rfl⟩ := Int.eq_ofNat_of_zero_le ht.1
        have ht' : t' < p.length := by omega
        have HT : Hid (belowB (t' : Int) p.length = true) := hbl
        clear hbl ht
        go_wp2_with fail
        refine (ready_m HP.out HM'.out HSt.out HIn.out ht').mono ?_
        rintro e w1 ⟨rfl, hg1⟩
        have HG1 : Hid ((w.alloc (.cells #[.int .i64 0, .int .i64 0, .int .i64 0] 32)).grownBy w1 (some b)) := grown_trans HG.out (grown_none hg1)
        have HO1 : Hid (w1.ownsRow (w.heap.size + 1) 48 2 u8 k (flatS acc)) := owns_grown HO.out hg1 (fun _ e => by cases e)
        have HS1 : Hid (StAt w1 b s) := HSt.out.grown hg1
        have HM1 : Hid (MachAt B w1 m p) := HM'.out.grown' (by omega) hg1
        have hsz1 : w.heap.size + 1 ≤ w1.heap.size := by have := HG1.out.size; simpa using this
        clear v0 v1 v2 vf0 vf1 vf2 HV hcr hmr hg1 HM' HSt HO HG hsz
        have hvb := new_block HG1.out hb
        obtain ⟨v0, v1, v2, vf⟩ := three_cells hvb
        have vf0 := vf 0
        have vf1 := vf 1
        have vf2 := vf 2
        clear vf hvb
        cases hrd : readyB p s t'
        · have HW : Hid (follow p sch 0 s0 [] = ⟨acc, 2, 0, k, s⟩) := by
            unfold Hid
            rw [HF.out, HD.out]; exact follow_wrong _ _ _ _ _ _ (by simp [okAt, hrd])
          clear hrd
          go_wp2
          rw [HW.out]
          exact bodyPost_ret (v := .tuple #[u8, .agg #[.int .i64 2, .int .i64 0, .int .i64 k]]) (by simp [results, Tryd.results73, go_sem, v0, v1, v2]) rfl
            ⟨u8, rfl, by rw [hacc]; exact owns_mono (ownsRow_setCell_below (ownsRow_setCell_below (ownsRow_setCell_below HO1.out (by simp) _) (by simp) _) (by simp) _) (by omega), ((HS1.out.setOther (by omega)).setOther (by omega)).setOther (by omega), grown_setNew (grown_setNew (grown_setNew (grown_old HG1.out) (by omega)) (by omega)) (by omega)⟩
        · have HK : Hid (okAt p s t' = true) := by unfold Hid; simp [okAt, hrd, HT.out]
          have HDn : Hid (doneB p s t' = false) := by
            unfold Hid
            cases hd : doneB p s t' with
            | false => rfl
            | true => simp [readyB, hd] at hrd
          clear hrd
          have ht4 : t' < 4 := by omega
          have hnx := HS1.out.next ht4
          have ht0 : (0 : Int) ≤ (t' : Int) := by omega
          have ht1 : (t' : Int) < 4 := by omega
          have h63 : k + 1 ≤ maxLen := by unfold maxLen; omega
          have hby : (k + 1) * 16 ≤ 140737488355328 := by omega
          go_wp2_with (at_builtin; refine wpList_append_lies _ rfl _ _ _ rfl (w.heap.size + 1) 48 i0 _ 2 16 Tryd.underlying33 hi0 hz0 hz1 hz2 rfl (by omega) u8 k (flatS acc) rfl (owns_alloc HO1.out) ⟨w1.heap.size, 0, none⟩ 1 1 [.int .i64 t', .int .i64 (s.next t')] rfl rfl (World.news_of_block (cs := #[.int .i64 t', .int .i64 (s.next t')]) (t := 48) (fr := (0, 0)) (heap_alloc_new w1 _)) (by simp [Value.oneCell']) (by omega) h63 hby (by simp; omega) (w1.heap.size + 1) (by simp) ?_; intro g2 cap2 w2 hown2 hgrow hat hlt2)
          have hob := owns_block HO1.out
          have HG2 : Hid ((w.alloc (.cells #[.int .i64 0, .int .i64 0, .int .i64 0] 32)).grownBy w2 (some b)) := grown_row (grown_alloc HG1.out) hgrow (fun k e => by have := hob k e; simp; omega)
          have HS2 : Hid (StAt w2 b s) := StAt.rowGrown (HS1.out.grown (grown_alloc (grown_refl _ _))) hgrow (fun k e => by have := hob k e; omega)
          have HM2 : Hid (MachAt B w2 m p) := (HM.out.grown' (by omega) (grown_alloc (grown_refl w none))).grown hB (by simp; omega) HG2.out
          have HO2 : Hid (w2.ownsRow (w.heap.size + 1) 48 2 (.slice (some ⟨g2, 0, none⟩) (k + 1) cap2) (k + 1) (flatS (acc ++ [((t' : Int), s.next t')]))) := by
            unfold Hid; rw [flatS_snoc]; exact hown2
          clear v0 v1 v2 vf0 vf1 vf2 hob hgrow hat hown2 HS1 HM1 HO1 HG1 hnx
          refine (step_m HP.out HM2.out hB HS2.out HIn.out ht' HDn.out).mono ?_
          rintro e w3 ⟨r, rfl, hr, hS3, hg3⟩
          have HG3 : Hid ((w.alloc (.cells #[.int .i64 0, .int .i64 0, .int .i64 0] 32)).grownBy w3 (some b)) := grown_trans HG2.out hg3
          have HO3 : Hid (w3.ownsRow (w.heap.size + 1) 48 2 (.slice (some ⟨g2, 0, none⟩) (k + 1) cap2) (k + 1) (flatS (acc ++ [((t' : Int), s.next t')]))) := owns_grown HO2.out hg3 (fun k e => by cases e; omega)
          have HS3 : Hid (StAt w3 b (stepS p s t').2) := hS3
          have HI3 : Hid (Inv p (stepS p s t').2) := Inv.step HP.out HIn.out ht' HDn.out
          have HR : Hid (r = (stepS p s t').1) := hr
          clear hr hS3 hg3 HO2 HM2 HS2 HG2
          have hvb := new_block HG3.out hb
          obtain ⟨v0, v1, v2, vf⟩ := three_cells hvb
          have vf0 := vf 0
          have vf1 := vf 1
          have vf2 := vf 2
          clear vf hvb
          cases r
          · have HW : Hid (follow p sch 0 s0 [] = ⟨acc ++ [((t' : Int), s.next t')], 1, t', s.next t', (stepS p s t').2⟩) := by
              unfold Hid
              rw [HF.out, HD.out, follow_fail p t' _ _ s acc HK.out (by simpa using HR.out.symm)]; rfl
            go_wp2
            rw [HW.out]
            exact bodyPost_ret (v := .tuple #[.slice (some ⟨g2, 0, none⟩) (k + 1) cap2, .agg #[.int .i64 1, .int .i64 t', .int .i64 (s.next t')]]) (by simp [results, Tryd.results73, go_sem, v0, v1, v2]) rfl
              ⟨_, rfl, by
                have e : (acc ++ [((t' : Int), s.next t')]).length = k + 1 := by simp [hacc]
                simp only [e]
                exact owns_mono (ownsRow_setCell_below (ownsRow_setCell_below (ownsRow_setCell_below HO3.out (by simp) _) (by simp) _) (by simp) _) (by omega), ((HS3.out.setOther (by omega)).setOther (by omega)).setOther (by omega), grown_setNew (grown_setNew (grown_setNew (grown_old HG3.out) (by omega)) (by omega)) (by omega)⟩
          · have HW : Hid (follow p sch 0 s0 [] = follow p (sch.drop (k + 1)) ((k + 1 : Nat) : Int) (stepS p s t').2 (acc ++ [((t' : Int), s.next t')])) := by
              unfold Hid
              rw [HF.out, HD.out, follow_go p t' _ _ s acc HK.out (by simpa using HR.out.symm)]; rfl
            clear v0 v1 v2 vf0 vf1 vf2
            go_wp2
            go_roundw
            case rel => exact ⟨k + 1, (stepS p s t').2, acc ++ [((t' : Int), s.next t')], by omega, by go_num, by simp [hacc], HO3, HS3, HI3, HG3, HW⟩
            case measure => simp [intOf]; omega
    · have HW : Hid (follow p sch 0 s0 [] = ⟨acc, endingS p s, 0, 0, s⟩) := by
        unfold Hid
        rw [HF.out, List.drop_of_length_le (by omega)]; rfl
      go_wp2_with fail
      refine (ending_m HP.out HM'.out hB HSt.out HIn.out).mono ?_
      rintro e w1 ⟨rfl, hg1⟩
      have HG1 : Hid ((w.alloc (.cells #[.int .i64 0, .int .i64 0, .int .i64 0] 32)).grownBy w1 (some b)) := grown_trans HG.out (grown_none hg1)
      have HO1 : Hid (w1.ownsRow (w.heap.size + 1) 48 2 u8 k (flatS acc)) := owns_grown HO.out hg1 (fun _ e => by cases e)
      have HS1 : Hid (StAt w1 b s) := HSt.out.grown hg1
      clear v0 v1 v2 vf0 vf1 vf2 HV hg1
      have hvb := new_block HG1.out hb
      obtain ⟨v0, v1, v2, vf⟩ := three_cells hvb
      have vf0 := vf 0
      have vf1 := vf 1
      have vf2 := vf 2
      clear vf hvb
      go_wp2
      rw [HW.out]
      exact bodyPost_ret (v := .tuple #[u8, .agg #[.int .i64 (endingS p s), .int .i64 0, .int .i64 0]]) (by simp [results, Tryd.results73, go_sem, v0, v1, v2]) rfl
        ⟨u8, rfl, by rw [hacc]; exact owns_mono (ownsRow_setCell_below (ownsRow_setCell_below (ownsRow_setCell_below HO1.out (by simp) _) (by simp) _) (by simp) _) (by omega), ((HS1.out.setOther (by omega)).setOther (by omega)).setOther (by omega), grown_setNew (grown_setNew (grown_setNew (grown_old HG1.out) (by omega)) (by omega)) (by omega)⟩

end Go.Proofs.YtklenjmfalljgaaDoor
