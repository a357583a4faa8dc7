/- The texts Rfn Rfp Rfq. -/
import Derived.Test.YtklenjmfalljgaaGreatDoorM12
import Derived.Test.YtklenjmfalljgaaGreatDoorM13
import Derived.Test.YtklenjmfalljgaaGreatDoorM14

/- The walk of the reference's form: its layers. -/
namespace Go.Proofs.YtklenjmfalljgaaGreatDoor
open Go.RowKit
attribute [local go_sem] Go.World.cell?_alloc_some

/-- What form reads of a run. -/
structure RunRead (w : World) (b : Nat) (p : List (List Ins)) (xs : List Ev) (o : Out) (ao : Option Addr) (cap : Nat) (sao : Option Addr) (sc : Nat) : Prop where
  prog : ProgAt w (.agg #[.slice ao p.length cap]) p
  c0 : w.cell? ⟨b, 0, none⟩ = some (.slice ao p.length cap)
  c10 : w.cell? ⟨b, 10, none⟩ = some (.slice sao xs.length sc)
  c11 : w.cell? ⟨b, 11, none⟩ = some (.int .i64 o.kind)
  row : ∃ base, w.ownsRow base 84 2 (.slice sao xs.length sc) xs.length (flatS o.steps)
theorem RunRead.grown {w w' : World} {b : Nat} {p : List (List Ins)} {xs : List Ev} {o : Out} {ao : Option Addr} {cap : Nat} {sao : Option Addr} {sc : Nat} (h : RunRead w b p xs o ao cap sao sc) (hg : w.grownBy w' none) : RunRead w' b p xs o ao cap sao sc := by
  obtain ⟨base, hr⟩ := h.row
  exact ⟨h.prog.pres (pres_grown hg), pres_grown hg _ _ h.c0, pres_grown hg _ _ h.c10, pres_grown hg _ _ h.c11, base, owns_grown hr hg (fun _ e => by cases e)⟩

theorem grown_fromDrew' {w w' : World} (h : w.drew.grownBy w' none) : w.grownBy w' none := ⟨h.os, h.tape, h.output, h.size, h.block⟩
theorem grown_dnR {w : World} (n : Nat) : w.grownBy (w.drewN n) none := grown_of_like (by have := like_drewN w n; exact this)
/-- Numbers that stand, noughts behind them. -/
def rowL (L : List Nat) (n : Nat) : List Value := L.map (fun x : Nat => Value.int .i64 (x : Int)) ++ List.replicate (n - L.length) (Value.int .i64 0)
theorem rowL_zero (L : List Nat) (n : Nat) (h : L.length < n) : rowL (L ++ [0]) n = rowL L n := by
  unfold rowL
  have e : n - L.length = (n - (L ++ [0]).length) + 1 := by simp; omega
  rw [e, List.replicate_succ]
  simp
theorem rowL_set (L : List Nat) (x y n : Nat) : (rowL (L ++ [x]) n).set L.length (.int .i64 (y : Int)) = rowL (L ++ [y]) n := by
  unfold rowL
  have e : (L ++ [x]).length = (L ++ [y]).length := by simp
  rw [e]
  simp
theorem rowL_get (L : List Nat) (n k : Nat) (h : k < L.length) : (rowL L n)[k]? = some (.int .i64 (L[k] : Int)) := by
  unfold rowL
  rw [List.getElem?_append_left (by simpa using h)]
  simp [h]

/-- In the midst: the numbers L stand. -/
structure LyIn (W w' : World) (gl n : Nat) (L : List Nat) : Prop where
  row : w'.heap[gl]? = some (.cells (rowL L n).toArray 3 (0, 0))
  gr : W.grownBy w' (some gl)
theorem LyIn.grown {W w w' : World} {gl n : Nat} {L : List Nat} (h : LyIn W w gl n L) (hg : w.grownBy w' none) : LyIn W w' gl n L :=
  ⟨by rw [hg.block _ (Array.getElem?_eq_some_iff.1 h.row).1 (by simp)]; exact h.row, grown_trans h.gr (grown_none hg)⟩

theorem grown_setRow {W w : World} {gl o : Nat} {u : Value} (h : W.grownBy w (some gl)) : W.grownBy (w.setCell ⟨gl, o, none⟩ u) (some gl) :=
  ⟨h.os, h.tape, h.output, by simpa using h.size, fun k hk hr => by rw [Below.heap_setCell _ _ _ _ (by simpa using hr)]; exact h.block k hk hr⟩
theorem LyIn.put {W w : World} {gl n i : Nat} {L : List Nat} {x : Nat} (h : LyIn W w gl n (L ++ [x])) (hi : L.length = i) (y : Nat) (z : Int) (hz : z = (y : Int)) : LyIn W (w.setCell ⟨gl, i, none⟩ (.int .i64 z)) gl n (L ++ [y]) := by
  subst hi hz
  refine ⟨?_, grown_setRow h.gr⟩
  rw [heap_setCell_same w gl L.length _ _ _ h.row, ← rowL_set L x y n]
  simp
set_option maxHeartbeats 4000000 in
set_option maxRecDepth 100000 in
theorem refform_m {p : List (List Ins)} {o : Out} {xs : List Ev} (hp : vProg p = true) (hSt : Stood p o xs) (h500 : xs.length ≤ 500) (w : World) (b : Nat) (ao : Option Addr) (cap : Nat) (sao : Option Addr) (sc : Nat) (hR : RunRead w b p xs o ao cap sao sc) :
    Calls Tryz.prog 50 #[.pointer (some ⟨b, 0, none⟩)] w fun e w' => ∃ v, e = .returned v ∧ w'.ownsRow w.heap.size 3 1 v (formE p xs).length (ints (formE p xs)) ∧ w.grownBy w' none := by
  obtain ⟨i0, hi0, hz0, hz1, hz2⟩ := info_parts info_intF
  have HR := hide hR
  have HV := hide hp
  have HSt := hide hSt
  have hlen := vProg_len hp
  have c10 := hR.c10
  have q0 : (xs.length : Int) ≤ 500 := by omega
  have q1 : (0 : Int) ≤ (xs.length : Int) := by omega
  clear hR hp hSt
  go_enter Tryz.func50, Tryz.ntmps50
  go_upto_region 3 with (at_make; refine wpList_make_full _ rfl _ _ _ rfl w.heap.size 3 i0 _ 1 Tryz.underlying25 hi0 hz0 hz1 .i64 .i64 _ _ xs.length rfl rfl rfl rfl (by rw [hz2]; omega) (by unfold maxLen; omega) (by simp) ?_; intro w3 hown3 hg3)
  have hrow3 : w3.heap[w.heap.size]? = some (.cells (List.replicate xs.length (Value.int .i64 0)).toArray 3 (0, 0)) := by
    rcases hown3.2 with ⟨e, _⟩ | ⟨g', cap', cur, hv, _, hh, _, _, hcs, htk⟩
    · cases e
    · simp only [Value.slice.injEq, Option.some.injEq, Addr.mk.injEq, true_and, and_true] at hv
      obtain ⟨rfl, rfl⟩ := hv
      rw [hh]
      have e1 : cur.toList = List.replicate xs.length (Value.int .i64 0) := by
        have e2 : (madeCells #[Value.int .i64 0] (xs.length * 1)).toList = List.replicate (xs.length * 1) (Value.int .i64 0) := by
          apply List.ext_getElem (by simp [madeCells])
          intro i h1 h2
          simp only [madeCells, Array.toList_map, List.getElem_map, List.getElem_replicate, Array.toList_range, List.getElem_range]
          simp [Nat.mod_one]
        rw [Nat.mul_one] at e2
        rw [← e2]
        simp only [Value.cells, Nat.mul_one] at htk hcs
        rw [← htk, List.take_of_length_le (by simp; omega)]
      rw [← e1]
  have HR3 : Hid (RunRead w3 b p xs o ao cap sao sc) := HR.out.grown hg3
  have HG3 : Hid (w.grownBy w3 none) := hg3
  have H0 : Hid (LyIn w3 w3 w.heap.size xs.length (labsE p xs 0)) := ⟨by simpa [labsE, tl, rowL] using hrow3, grown_refl _ _⟩
  obtain ⟨gl, hgl⟩ : ∃ gl, gl = w.heap.size := ⟨_, rfl⟩
  have hgl3 : gl < w3.heap.size := by rw [hgl]; exact (Array.getElem?_eq_some_iff.1 hrow3).1
  have HGL : Hid (∀ x v, w.cell? x = some v → ∀ u, w3.grownBy u (some gl) → u.cell? x = some v) := fun x v hc u hu => by
    have hx := World.block_lt_of_cell? w _ hc
    rw [World.cell?_of_block (hu.block x.block (Nat.lt_of_lt_of_le hx HG3.out.size) (by simp; omega))]
    exact pres_grown HG3.out _ _ hc
  rw [← hgl] at H0 ⊢
  have HGLQ := hide hgl
  clear hown3 hg3 hrow3 c10 hgl
  go_wp2_with fail
  go_loopw [5] (fun iv w' => ∃ i : Nat, i ≤ xs.length ∧ iv = .int .i64 i ∧ Hid (LyIn w3 w' gl xs.length (labsE p xs i))) (fun iv _ => xs.length - (intOf iv).toNat)
  case atStart => exact ⟨0, Nat.zero_le _, rfl, H0⟩
  case round =>
    clear H0
    obtain ⟨i, hi, rfl, HI⟩ := hrel
    obtain ⟨w5, hw5⟩ : ∃ w5, w5 = wr := ⟨_, rfl⟩
    rw [← hw5] at HI ⊢
    clear hw5
    by_cases hlt : i < xs.length
    · have t0 : (0 : Int) ≤ (i : Int) := by omega
      have t1 : (i : Int) < xs.length := by omega
      have hll := labsE_len p xs i hi
      have H5 : Hid (LyIn w3 w5 gl xs.length (labsE p xs i ++ [layIn (depE p) ((tl (depE p) [] (xs.take i)).take 0) xs[i]])) := by
        have e : layIn (depE p) ((tl (depE p) [] (xs.take i)).take 0) xs[i] = 0 := by simp [layIn]
        unfold Hid; rw [e]
        exact ⟨by rw [rowL_zero _ _ (by omega)]; exact HI.out.row, HI.out.gr⟩
      go_wp2_with fail
      go_loopw [6] (fun kv w' => ∃ k : Nat, k ≤ i ∧ kv = .int .i64 k ∧ Hid (LyIn w3 w' gl xs.length (labsE p xs i ++ [layIn (depE p) ((tl (depE p) [] (xs.take i)).take k) xs[i]]))) (fun kv _ => i - (intOf kv).toNat)
      case atStart => exact ⟨0, Nat.zero_le _, rfl, H5⟩
      case round =>
        clear H5 HI
        obtain ⟨k, hk, rfl, HK⟩ := hrel
        obtain ⟨w6, hw6⟩ : ∃ w6, w6 = wr := ⟨_, rfl⟩
        rw [← hw6] at HK ⊢
        clear hw6
        by_cases hkl : k < i
        · have hkx : k < xs.length := by omega
          obtain ⟨hti, hki0, hki1⟩ := HSt.out.th _ (List.getElem_mem hlt)
          obtain ⟨htk, hkk0, hkk1⟩ := HSt.out.th _ (List.getElem_mem hkx)
          obtain ⟨base, hrow⟩ := HR.out.row
          obtain ⟨g, hg, s0, s1⟩ := steps_at hrow HSt.out.st hlt
          obtain ⟨g', hg', r0, r1⟩ := steps_at hrow HSt.out.st hkx
          rw [hg] at hg'
          simp only [Option.some.injEq, Addr.mk.injEq, and_true] at hg'
          subst hg' hg
          obtain ⟨ki, hki⟩ := Int.eq_ofNat_of_zero_le hki0
          obtain ⟨kk, hkk⟩ := Int.eq_ofNat_of_zero_le hkk0
          have HDS := hide (dep_steps HSt.out hkl hlt)
          have HLF := hide (lay_front (depE p) (tl (depE p) [] (xs.take i)) xs[i] k (by rw [tl_length]; simp; omega))
          have hLk : ((tl (depE p) [] (xs.take i))[k]'(by rw [tl_length]; simp; omega)).1 = xs[k] := by
            have h1 := tl_fst (depE p) [] (xs.take i)
            have h2 : ((tl (depE p) [] (xs.take i)).map (·.1))[k]'(by rw [h1]; simp; omega) = (xs.take i)[k]'(by simp; omega) := by congr 1
            simpa using h2
          rw [hLk] at HLF
          have hlab : (labsE p xs i)[k]'(by omega) = ((tl (depE p) [] (xs.take i))[k]'(by rw [tl_length]; simp; omega)).2 := by simp [labsE]
          have HLB := hide hlab
          have hcur := lay_front_le p (xs.take i) xs[i] k
          have hcur' : layIn (depE p) ((tl (depE p) [] (xs.take i)).take k) xs[i] ≤ 500 := by simp at hcur; omega
          have hlk5 : (labsE p xs i)[k]'(by omega) ≤ 500 := by
            rw [hlab]
            have := lay_lt (depE p) (xs.take i) [] 0 (by simp) k _ (List.getElem?_eq_getElem (by rw [tl_length]; simp; omega))
            omega
          have hvi : vIns (insAt p xs[i].t (ki : Int)) (codeOf p xs[i].t).length = true := vProg_ins HV.out hti (by simp; omega)
          have hvk : vIns (insAt p xs[k].t (kk : Int)) (codeOf p xs[k].t).length = true := vProg_ins HV.out htk (by simp; omega)
          have hai := vIns_ab hvi
          have hak := vIns_ab hvk
          have HCL := hide (depR_clash (i := insAt p xs[k].t (kk : Int)) (j := insAt p xs[i].t (ki : Int)) hak.1 hak.2.2.1 hai.1 hai.2.2.1)
          rw [hki, hkk] at HDS
          rw [← HCL.out] at HDS
          have up : ∀ x v, w.cell? x = some v → w6.cell? x = some v := fun x v hc => HGL.out x v hc w6 HK.out.gr
          have s0' := up _ _ s0
          have s1' := up _ _ s1
          have r0' := up _ _ r0
          have r1' := up _ _ r1
          rw [hki] at s1'
          rw [hkk] at r1'
          have c0 := up _ _ HR.out.c0
          have c10 := up _ _ HR.out.c10
          have c11 := up _ _ HR.out.c11
          have HPu : Hid (ProgAt w6 (.agg #[.slice ao p.length cap]) p) := HR.out.prog.pres up
          have HDP := hide (fun (u : World) (hu : w6.grownBy u none) => depend_m u (.agg #[.slice ao p.length cap]) (HPu.out.pres (pres_grown hu)) hlen.2 xs[k].t kk xs[i].t ki htk (by omega) hti (by omega) (vCode_len (vProg_code HV.out htk)) (vCode_len (vProg_code HV.out hti)))
          clear s0 s1 r0 r1 hrow hai hak hvi hvk up hcur hlab hLk hki0 hki1 hkk0 hkk1 hki hkk HCL HPu
          generalize hxi : xs[i] = xi at *
          generalize hxk : xs[k] = xk at *
          clear hxi hxk
          generalize insAt p xk.t (kk : Int) = ik at *
          generalize insAt p xi.t (ki : Int) = ii at *
          have u0 : (0 : Int) ≤ (k : Int) := by omega
          have u1 : (k : Int) < (i : Int) := by omega
          have u2 : (k : Int) < (xs.length : Int) := by omega
          go_upto_region 9 with fail
          refine wp_region_head (fun u => u.cell? ⟨b, 0, none⟩ = some (.slice ao p.length cap) ∧ u.cell? ⟨b, 10, none⟩ = some (.slice (some ⟨g, 0, none⟩) xs.length sc) ∧ u.cell? ⟨g, k * 2, none⟩ = some (.int .i64 (xk.t : Int)) ∧ u.cell? ⟨g, k * 2 + 1, none⟩ = some (.int .i64 (kk : Int)) ∧ u.cell? ⟨g, i * 2, none⟩ = some (.int .i64 (xi.t : Int)) ∧ u.cell? ⟨g, i * 2 + 1, none⟩ = some (.int .i64 (ki : Int))) 19 (by kernel_rfl) (by kernel_rfl) ⟨c0, c10, r0', r1', s0', s1'⟩ ?_
          intro hHeld
          refine wpHead_take (i := 0) (v := ?vva0) rfl (by kernel_rfl) (fun _ _ _ h => h) (Or.inl ⟨by rfl, ?hya0⟩) hHeld ?resta0
          case hya0 => (rintro u ⟨hu0, hu1, hu2, hu3, hu4, hu5⟩; go_simp; try with_reducible rfl)
          simp only [Act.put, List.setIfInBounds_toArray]
          refine wpHead_take (i := 1) (v := ?vva1) rfl (by kernel_rfl) (fun _ _ _ h => h) (Or.inl ⟨by rfl, ?hya1⟩) hHeld ?resta1
          case hya1 => (rintro u ⟨hu0, hu1, hu2, hu3, hu4, hu5⟩; go_simp; try with_reducible rfl)
          simp only [Act.put]
          refine wpHead_take (i := 2) (v := ?vva2) rfl (by kernel_rfl) (fun _ _ _ h => h) (Or.inl ⟨by rfl, ?hya2⟩) hHeld ?resta2
          case hya2 => (rintro u ⟨hu0, hu1, hu2, hu3, hu4, hu5⟩; go_simp; try with_reducible rfl)
          simp only [Act.put]
          refine wpHead_take (i := 3) (v := ?vva3) rfl (by kernel_rfl) (fun _ _ _ h => h) (Or.inl ⟨by rfl, ?hya3⟩) hHeld ?resta3
          case hya3 => (rintro u ⟨hu0, hu1, hu2, hu3, hu4, hu5⟩; go_simp; try with_reducible rfl)
          simp only [Act.put]
          refine wpHead_take (i := 4) (v := ?vva4) rfl (by kernel_rfl) (fun _ _ _ h => h) (Or.inl ⟨by rfl, ?hya4⟩) hHeld ?resta4
          case hya4 => (rintro u ⟨hu0, hu1, hu2, hu3, hu4, hu5⟩; go_simp; try with_reducible rfl)
          simp only [Act.put]
          refine wpHead_take (i := 5) (v := ?vva5) rfl (by kernel_rfl) (fun _ _ _ h => h) (Or.inl ⟨by rfl, ?hya5⟩) hHeld ?resta5
          case hya5 => (rintro u ⟨hu0, hu1, hu2, hu3, hu4, hu5⟩; go_simp; try with_reducible rfl)
          simp only [Act.put]
          refine wpHead_take (i := 6) (v := ?vva6) rfl (by kernel_rfl) (fun _ _ _ h => h) (Or.inl ⟨by rfl, ?hya6⟩) hHeld ?resta6
          case hya6 => (rintro u ⟨hu0, hu1, hu2, hu3, hu4, hu5⟩; go_simp; try with_reducible rfl)
          simp only [Act.put]
          refine wpHead_take (i := 7) (v := ?vva7) rfl (by kernel_rfl) (fun _ _ _ h => h) (Or.inl ⟨by rfl, ?hya7⟩) hHeld ?resta7
          case hya7 => (rintro u ⟨hu0, hu1, hu2, hu3, hu4, hu5⟩; go_simp; try with_reducible rfl)
          simp only [Act.put]
          refine wpHead_take (i := 8) (v := ?vva8) rfl (by kernel_rfl) (fun _ _ _ h => h) (Or.inl ⟨by rfl, ?hya8⟩) hHeld ?resta8
          case hya8 => (rintro u ⟨hu0, hu1, hu2, hu3, hu4, hu5⟩; go_simp; try with_reducible rfl)
          simp only [Act.put]
          refine wpHead_take (i := 9) (v := ?vva9) rfl (by kernel_rfl) (fun _ _ _ h => h) (Or.inl ⟨by rfl, ?hya9⟩) hHeld ?resta9
          case hya9 => (rintro u ⟨hu0, hu1, hu2, hu3, hu4, hu5⟩; go_simp; try with_reducible rfl)
          simp only [Act.put]
          refine wpHead_take (i := 10) (v := ?vva10) rfl (by kernel_rfl) (fun _ _ _ h => h) (Or.inl ⟨by rfl, ?hya10⟩) hHeld ?resta10
          case hya10 => (rintro u ⟨hu0, hu1, hu2, hu3, hu4, hu5⟩; go_simp; try with_reducible rfl)
          simp only [Act.put]
          refine wpHead_take (i := 11) (v := ?vva11) rfl (by kernel_rfl) (fun _ _ _ h => h) (Or.inl ⟨by rfl, ?hya11⟩) hHeld ?resta11
          case hya11 => (rintro u ⟨hu0, hu1, hu2, hu3, hu4, hu5⟩; go_simp; try with_reducible rfl)
          simp only [Act.put]
          refine wpHead_take (i := 12) (v := ?vva12) rfl (by kernel_rfl) (fun _ _ _ h => h) (Or.inl ⟨by rfl, ?hya12⟩) hHeld ?resta12
          case hya12 => (rintro u ⟨hu0, hu1, hu2, hu3, hu4, hu5⟩; go_simp; try with_reducible rfl)
          simp only [Act.put]
          refine wpHead_take (i := 13) (v := ?vva13) rfl (by kernel_rfl) (fun _ _ _ h => h) (Or.inl ⟨by rfl, ?hya13⟩) hHeld ?resta13
          case hya13 => (rintro u ⟨hu0, hu1, hu2, hu3, hu4, hu5⟩; go_simp; try with_reducible rfl)
          simp only [Act.put]
          refine wpHead_take (i := 14) (v := ?vva14) rfl (by kernel_rfl) (fun _ _ _ h => h) (Or.inl ⟨by rfl, ?hya14⟩) hHeld ?resta14
          case hya14 => (rintro u ⟨hu0, hu1, hu2, hu3, hu4, hu5⟩; go_simp; try with_reducible rfl)
          simp only [Act.put]
          refine wpHead_take (i := 15) (v := ?vva15) rfl (by kernel_rfl) (fun _ _ _ h => h) (Or.inl ⟨by rfl, ?hya15⟩) hHeld ?resta15
          case hya15 => (rintro u ⟨hu0, hu1, hu2, hu3, hu4, hu5⟩; go_simp; try with_reducible rfl)
          simp only [Act.put]
          refine wpHead_take (i := 16) (v := ?vva16) rfl (by kernel_rfl) (fun _ _ _ h => h) (Or.inl ⟨by rfl, ?hya16⟩) hHeld ?resta16
          case hya16 => (rintro u ⟨hu0, hu1, hu2, hu3, hu4, hu5⟩; go_simp; try with_reducible rfl)
          simp only [Act.put]
          refine wpHead_take (i := 17) (v := ?vva17) rfl (by kernel_rfl) (fun _ _ _ h => h) (Or.inl ⟨by rfl, ?hya17⟩) hHeld ?resta17
          case hya17 => (rintro u ⟨hu0, hu1, hu2, hu3, hu4, hu5⟩; go_simp; try with_reducible rfl)
          simp only [Act.put]
          refine wpHead_alone (i := 18) rfl (by kernel_rfl) (by kernel_rfl) (by rfl) ?_
          intro K18 hK18
          have HK18 := hide hK18
          clear hK18
          go_simp
          refine (HDP.out _ (grown_drew (grown_refl _ _))).mono ?_
          rintro e w7 ⟨rfl, hg7⟩
          have HG7 : Hid (w6.grownBy w7 none) := grown_fromDrew' hg7
          refine HK18.out _ _ ⟨pres_grown HG7.out _ _ c0, pres_grown HG7.out _ _ c10, pres_grown HG7.out _ _ r0', pres_grown HG7.out _ _ r1', pres_grown HG7.out _ _ s0', pres_grown HG7.out _ _ s1'⟩ ?_
          clear HK18 hg7
          try simp only [Act.put, List.setIfInBounds_toArray]
          refine wpHead_last rfl (by kernel_rfl) (by kernel_rfl) (by rfl) ?_
          go_simp
          have k11 := pres_grown HG7.out _ _ c11
          have HK7 := hide (HK.out.grown HG7.out)
          clear hHeld c0 c10 c11 r0' r1' s0' s1' HDP HK
          generalize hdd : (xk.t == xi.t || depR ik ii) = dd at *
          clear hdd
          obtain ⟨bl, hbl⟩ : ∃ bl : Bool, bl = (decide (o.kind = 1) && decide (i + 1 = xs.length)) := ⟨_, rfl⟩
          rw [← hbl] at HDS
          have HBL := hide hbl
          clear hbl
          go_upto_region 10 with fail
          go_cut [59] (fun q w' => q = .bool bl ∧ w' = w7)
          case first =>
            by_cases e2 : o.kind = 1
            · rw [e2] at k11
              by_cases e1 : i + 1 = xs.length
              · have e3 : (xs.length : Int) - 1 = (i : Int) := by omega
                have hb : bl = true := by rw [HBL.out]; simp [e1, e2]
                go_wp2_with fail
                all_goals first | (go_meet; exact ⟨by rw [hb], rfl⟩) | (exfalso; omega)
              · have hb : bl = false := by rw [HBL.out]; simp [e1]
                have e4 : ((i : Int) == (xs.length : Int) - 1) = false := by simp; omega
                go_wp2_with fail
                all_goals first | (go_meet; exact ⟨by rw [hb], rfl⟩) | (exfalso; omega)
            · have hb : bl = false := by rw [HBL.out]; simp [e2]
              have hb2 : (o.kind == 1) = false := by simpa using e2
              go_wp2_with fail
              all_goals first | (go_meet; exact ⟨by rw [hb], rfl⟩) | (exfalso; omega)
          case rest =>
          obtain ⟨rfl, hwc⟩ := hcut
          have hwc2 := hwc.symm
          subst hwc2
          obtain ⟨D, hD⟩ : ∃ D : Bool, D = depE p xk xi := ⟨_, rfl⟩
          rw [← hD] at HDS HLF
          clear hD
          go_upto_if 59 with fail
          go_cut [7] (fun q w' => q = .bool D ∧ w' = w7)
          case first =>
            cases bl with
            | true =>
              have hDt : D = true := by rw [HDS.out]; rfl
              go_wp2_with fail
              go_meet
              exact ⟨by rw [hDt], rfl⟩
            | false =>
              have hDt : D = dd := by rw [HDS.out]; rfl
              go_wp2_with fail
              go_meet
              exact ⟨by rw [hDt], rfl⟩
          case rest =>
          obtain ⟨rfl, hwc⟩ := hcut
          have hwc2 := hwc.symm
          subst hwc2
          clear k11 HBL HDS
          rw [← HLB.out] at HLF
          have hkL : k < (labsE p xs i).length := by omega
          have HRS := hide (fun y : Nat => rowL_set (labsE p xs i) (layIn (depE p) ((tl (depE p) [] (xs.take i)).take k) xi) y xs.length)
          have hrw := HK7.out.row
          have ck : w7.cell? ⟨gl, k, none⟩ = some (.int .i64 ((labsE p xs i)[k] : Int)) := by
            simp only [World.cell?, hrw]
            have := rowL_get (labsE p xs i ++ [layIn (depE p) ((tl (depE p) [] (xs.take i)).take k) xi]) xs.length k (by simp; omega)
            rw [List.getElem_append_left hkL] at this
            simpa using this
          have ci : w7.cell? ⟨gl, i, none⟩ = some (.int .i64 (layIn (depE p) ((tl (depE p) [] (xs.take i)).take k) xi : Int)) := by
            simp only [World.cell?, hrw]
            have := rowL_get (labsE p xs i ++ [layIn (depE p) ((tl (depE p) [] (xs.take i)).take k) xi]) xs.length i (by simp; omega)
            have e : (labsE p xs i ++ [layIn (depE p) ((tl (depE p) [] (xs.take i)).take k) xi])[i]'(by simp; omega) = layIn (depE p) ((tl (depE p) [] (xs.take i)).take k) xi := by
              rw [List.getElem_append_right (by omega)]; simp
            rw [e] at this
            simpa using this
          have fi : w7.frozen? ⟨gl, i, none⟩ = false := by simp [World.frozen?, hrw]
          clear hrw
          generalize hlk : (labsE p xs i)[k] = lk at *
          generalize hc : layIn (depE p) ((tl (depE p) [] (xs.take i)).take k) xi = c at *
          generalize hc1 : layIn (depE p) ((tl (depE p) [] (xs.take i)).take (k + 1)) xi = c1 at *
          have HC1 := hide hc1
          clear hlk hc hc1
          have v0 : (lk : Int) ≤ 500 := by omega
          have v1 : (c : Int) ≤ 500 := by omega
          cases D with
          | false =>
            have hcc : c1 = c := by have := HLF.out; simpa using this
            go_wp2_with fail
            go_quiet (fail)
            go_wp2_with fail
            go_roundw
            case rel => exact ⟨k + 1, by omega, by go_num, by rw [HC1.out, hcc]; exact HK7.out.grown (grown_dnR _)⟩
            case measure => simp [intOf]; omega
          | true =>
            have hcm : c1 = max c (lk + 1) := by have := HLF.out; simpa using this
            by_cases hle : c ≤ lk
            · have v2 : (c : Int) ≤ (lk : Int) := by omega
              have hcc : c1 = lk + 1 := by omega
              go_wp2_with fail
              go_quiet (fail)
              go_wp2_with fail
              go_roundw
              case rel => exact ⟨k + 1, by omega, by go_num, by rw [HC1.out, hcc]; exact LyIn.put (HK7.out.grown (grown_dnR _)) hll (lk + 1) _ (by omega)⟩
              case measure => simp [intOf]; omega
            · have v2 : (lk : Int) < (c : Int) := by omega
              have hcc : c1 = c := by omega
              go_wp2_with fail
              go_quiet (fail)
              go_wp2_with fail
              go_roundw
              case rel => exact ⟨k + 1, by omega, by go_num, by rw [HC1.out, hcc]; exact HK7.out.grown (grown_dnR _)⟩
              case measure => simp [intOf]; omega
        · have u1 : (i : Int) ≤ (k : Int) := by omega
          have hki : k = i := by omega
          have HLN : Hid (labsE p xs (i + 1) = labsE p xs i ++ [layIn (depE p) ((tl (depE p) [] (xs.take i)).take k) xs[i]]) := by unfold Hid; rw [hki]; exact labsE_next p xs i hlt
          clear hki
          go_wp2_with fail
          go_roundw
          case rel => exact ⟨i + 1, by omega, by go_num, by rw [HLN.out]; exact HK.out⟩
          case measure => simp [intOf]; omega
    · have t1 : (xs.length : Int) ≤ (i : Int) := by omega
      have hin : i = xs.length := by omega
      have HIN := hide hin
      clear hin
      go_upto_if 21 with fail
      refine wp_cond_false rfl ?_
      refine wp_exit ?_
      refine ‹∀ a w, Code.wp Tryz.prog _ _ a w → _› _ _ ?_
      obtain ⟨base, hrow⟩ := HR.out.row
      refine refTail (p := p) h500 (HGL.out _ _ HR.out.c10 w5 HI.out.gr) ?_ ?_
      · intro j hj
        obtain ⟨g, hg, s0, s1⟩ := steps_at hrow HSt.out.st hj
        have hjl : j < (labsE p xs xs.length).length := by rw [labsE_len _ _ _ (Nat.le_refl _)]; exact hj
        have hti := (HSt.out.th _ (List.getElem_mem hj)).1
        refine ⟨g, (labsE p xs xs.length)[j], xs[j].t, ?_, hg, ?_, HGL.out _ _ s0 w5 HI.out.gr, Nat.le_trans (labs_le p xs j hj) h500, by omega⟩
        · rw [List.getElem?_eq_getElem (by rw [keysE_len]; exact hj), keys_at p xs j hj]
        · have hr := HI.out.row
          rw [HIN.out] at hr
          simp only [World.cell?, hr]
          have := rowL_get (labsE p xs xs.length) xs.length j hjl
          simpa using this
      · intro z0 z1 z3 z4 z5 z6 z7 z8 z9 z10 z11 z12 z13 z14 z15 z16 z17 z18 z19 z20 z21 z22 z23 z24 z25 z26 z27 z28 z29 z30 z31 z32 z33 z34 z35 z36 z37 z38 z39 z40 z41 z42 z43 z44 z45 z46 z47 z48 z49 z50 z51 z52 z53 z54 z55 z56 z57 z58 z59 z60 z61 z62 z63 z64 z65 z66 z67 z68 z69 z70 z71 z72 z73 z74 z75 z76 z77 z78 z79 z80 z81 z82 z83 z84 z85 z86 z87 z88 z89 z90 z91 z92 z93 z94 z95 z96 z97 z98 z99 z100 z101 z102 z103 z104 z105 z106 z107 z108 z109 z110 z111 z112 z113 z114 z115 z116 v w' hO
        have HO := hide hO
        clear hO
        go_ret
        refine ⟨v, rfl, ?_, ?_⟩
        · have hf := form_through (p := p) (xs := xs) (fun e he => by have := (HSt.out.th e he).1; omega)
          have hr := HO.out.row
          unfold thrL at hr
          rw [← hf] at hr
          exact owns_mono hr (by have := HI.out.gr.size; have := HG3.out.size; omega)
        · exact grown_trans (grown_row' HG3.out HI.out.gr (by have := HGLQ.out; omega)) HO.out.gr

end Go.Proofs.YtklenjmfalljgaaGreatDoor

/- The walks of the reference's Form, and of its comparison of rows. -/
namespace Go.Proofs.YtklenjmfalljgaaGreatDoor
open Go.RowKit
attribute [local go_sem] Go.World.cell?_alloc_some

set_option maxHeartbeats 1000000 in
theorem refSameInts_m (l m : List Int) (v u : Value) (w : World) (hI : IntsAt w.heap.size w v l) (hJ : IntsAt w.heap.size w u m) (hln : l.length ≤ 9223372036854775806) :
    Calls Tryz.prog 79 #[v, u] w fun e w' => e = .returned (.bool (l == m)) ∧ Like w' w := by
  obtain ⟨ao, cap, rfl, hcap, hc⟩ := hI
  obtain ⟨bo, dap, rfl, hdap, hd⟩ := hJ
  by_cases hlen : l.length = m.length
  · have HC := hide hc
    have HD := hide hd
    clear hc hd
    have hl2 : (l.length : Int) = m.length := by omega
    have hl3 : ((l.length : Int) != (m.length : Int)) = false := by simp; omega
    have HLN := hide hlen
    go_enter Tryz.func79, Tryz.ntmps79
    clear hlen hl2
    go_wp2_with fail
    go_loopw [5] (fun i w' => ∃ k : Nat, k ≤ l.length ∧ i = .int .i64 k ∧ Hid (Like w' w) ∧ Hid (l.take k = m.take k)) (fun i _ => l.length - (intOf i).toNat)
    case atStart => exact ⟨0, Nat.zero_le _, rfl, hide (likeR _), by simp [Hid]⟩
    case round =>
      obtain ⟨k, hk, rfl, HK, HA⟩ := hrel
      obtain ⟨w5, hw5⟩ : ∃ w5, w5 = wr := ⟨_, rfl⟩
      subst hw5
      by_cases hlt : k < l.length
      · have hlt2 : k < m.length := by have := HLN.out; omega
        obtain ⟨g, o, rfl, _, c0⟩ := HC.out k hlt
        obtain ⟨g2, o2, rfl, _, c1⟩ := HD.out k hlt2
        have cL : ∀ a, w5.cell? a = w.cell? a := fun a => by simp [World.cell?, HK.out.1]
        have d0 : w5.cell? ⟨g, o + k, none⟩ = some (.int .i64 l[k]) := by rw [cL]; exact c0
        have d1 : w5.cell? ⟨g2, o2 + k, none⟩ = some (.int .i64 m[k]) := by rw [cL]; exact c1
        have hk0 : (0 : Int) ≤ (k : Int) := by omega
        have hk1 : (k : Int) < l.length := by omega
        have hk2 : (k : Int) < m.length := by omega
        have HT1 : Hid (l.take (k + 1) = l.take k ++ [l[k]]) := List.take_succ_eq_append_getElem hlt
        have HT2 : Hid (m.take (k + 1) = m.take k ++ [m[k]]) := List.take_succ_eq_append_getElem hlt2
        clear cL c0 c1
        by_cases heq : l[k] = m[k]
        · have hq : (l[k] != m[k]) = false := by simpa using heq
          have HA1 : Hid (l.take (k + 1) = m.take (k + 1)) := by unfold Hid; rw [HT1.out, HT2.out, HA.out, heq]
          clear heq HT1 HT2
          generalize l[k] = x at *
          generalize m[k] = y at *
          go_wp2_with fail
          go_quiet (fail)
          go_wp2_with fail
          go_roundw
          case rel => exact ⟨k + 1, by omega, by go_num, hide (likeDn HK.out _), HA1⟩
          case measure => simp [intOf]; omega
        · have hq : (l[k] != m[k]) = true := by simpa using heq
          have HE : Hid ((l == m) = false) := by
            unfold Hid
            simp only [beq_eq_false_iff_ne]
            intro e
            apply heq
            simp [e]
          clear heq HT1 HT2
          generalize l[k] = x at *
          generalize m[k] = y at *
          go_wp2_with fail
          go_quiet (fail)
          go_wp2_with fail
          go_ret
          exact ⟨by rw [HE.out]; rfl, likeDn HK.out _⟩
      · have HE : Hid ((l == m) = true) := by
          unfold Hid
          have h1 := HA.out
          rw [List.take_of_length_le (by omega), List.take_of_length_le (by have := HLN.out; omega)] at h1
          simpa using h1
        have q2 : (l.length : Int) ≤ (k : Int) := by omega
        go_wp2_with fail
        go_ret
        exact ⟨by rw [HE.out]; rfl, HK.out⟩
  · have HE : Hid ((l == m) = false) := by
      unfold Hid
      simp only [beq_eq_false_iff_ne]
      intro e; exact hlen (by rw [e])
    have hl3 : ((l.length : Int) != (m.length : Int)) = true := by simp; omega
    clear hc hd
    go_enter Tryz.func79, Tryz.ntmps79
    go_wp2_with fail
    go_ret
    exact ⟨by rw [HE.out]; rfl, likeR _⟩



theorem read_of {w w2 : World} {b ab rb : Nat} {p : List (List Ins)} {ao : Option Addr} {cap : Nat} {st : Value} {o : Out} {xs : List Ev} (h : RunAt w w2 b ab rb p.length (.slice ao p.length cap) st o.st o.steps o.kind o.thread o.at_) (hs : Stood p o xs) (hP : ProgAt w2 (.agg #[.slice ao p.length cap]) p) :
    ∃ sao sc, st = .slice sao xs.length sc ∧ RunRead w2 b p xs o ao cap sao sc := by
  obtain ⟨x1, x2, x3, rfl⟩ := owns_form h.row
  have hl : o.steps.length = xs.length := by rw [hs.st, List.length_map]
  have hr := h.row
  rw [hl] at hr
  have hx := owns_lenq hr
  subst hx
  exact ⟨x1, x3, rfl, hP, (h.cell 0).1, (h.cell 10).1, (h.cell 11).1, _, hr⟩

set_option maxHeartbeats 4000000 in
set_option maxRecDepth 100000 in
theorem refForm_m (p : List (List Ins)) (s : List Int) (pv sv : Value) (w : World) (hP : ProgAt w pv p) (hI : IntsAt w.heap.size w sv s) (hpl : p.length ≤ 5864062014634) (hpc : ∀ c ∈ p, c.length ≤ 4398046510976) :
    Calls Tryz.prog 22 #[pv, sv] w (Formd p s w) := by
  have HP := hide hP
  have HI := hide hI
  have HPC := hide hpc
  obtain ⟨ao, cap, rfl⟩ := hP.form
  obtain ⟨so, sc, rfl⟩ := hI.form
  clear hP hI hpc
  go_enter Tryz.func22, Tryz.ntmps22
  go_wp2_with fail
  have hg0 : ∀ a, w.grownBy (w.alloc a) none := fun a => grown_alloc (grown_refl _ _)
  refine (refcheck_m p _ _ (HP.out.pres (pres_grown (hg0 _))) hpl HPC.out).mono ?_
  rintro e w1 ⟨rfl, hg1⟩
  have HG1 : Hid (w.grownBy w1 none) := grown_trans (hg0 _) hg1
  have hb0 : w1.heap[w.heap.size]? = some (.cells #[.slice ao p.length cap] 24 (0, 0)) := by
    rw [hg1.block w.heap.size (by simp) (by simp)]; exact heap_alloc_new w _
  have c0 : w1.cell? ⟨w.heap.size, 0, none⟩ = some (.slice ao p.length cap) := by simp [World.cell?, hb0]
  clear hb0 hg1
  by_cases hv : vProg p = true
  · have e0 : checkN p = 0 := by simp [checkN, hv]
    have HV := hide hv
    rw [e0]
    clear e0 hv
    by_cases h5 : s.length ≤ 500
    · have h5' : (s.length : Int) ≤ 500 := by omega
      have H0 : Hid (checkRunN p s = 0) := by unfold Hid checkRunN; simp [HV.out, h5]
      go_wp2_with fail
      have HPl := hide (play_m w1 ao cap p _ s HV.out (HP.out.pres (pres_grown HG1.out)) ((HI.out.pres (pres_grown HG1.out)).mono HG1.out.size) (by omega))
      refine (unhide HPl).mono ?_
      clear HPl
      rintro e w2 ⟨b, ab, rb, st, rfl, hR⟩
      have HG2 : Hid (w.grownBy w2 none) := grown_trans HG1.out hR.frame
      obtain ⟨xs, hSt⟩ := stood_of HV.out s
      obtain ⟨sao, sc2, rfl, hRd⟩ := read_of hR hSt (HP.out.pres (pres_grown HG2.out))
      have hx5 : xs.length ≤ 500 := by
        have h1 := steps_le p s
        rw [hSt.st] at h1
        simp at h1
        omega
      have HF := hide (refform_m HV.out hSt hx5 w2 b ao cap sao sc2 hRd)
      have HEV : Hid (formS p (runS p s) = formE p xs) := by unfold Hid formS; rw [hSt.ev]
      clear hR hSt hRd c0
      go_wp2_with fail
      refine (unhide HF).mono ?_
      clear HF
      rintro e w3 ⟨v, rfl, ho3, hg3⟩
      have HO3 := hide ho3
      have HG3 := hide hg3
      clear ho3 hg3
      go_wp2_with fail
      exact bodyPost_ret (v := .tuple #[v, .int .i64 0]) (by simp [results, Tryz.results22, go_sem]) rfl ⟨grown_trans HG2.out HG3.out, Or.inl ⟨H0.out, v, rfl, by rw [HEV.out]; exact owns_mono HO3.out HG2.out.size⟩⟩
    · have h5' : (500 : Int) < s.length := by omega
      have H0 : Hid (checkRunN p s = 2) := by unfold Hid checkRunN; simp [HV.out, h5]
      go_wp2_with fail
      exact bodyPost_ret (v := .tuple #[.slice none 0 0, .int .i64 2]) (by simp [results, Tryz.results22, go_sem]) rfl ⟨HG1.out, Or.inr ⟨by rw [H0.out]; decide, by rw [H0.out]⟩⟩
  · have e0 : checkN p = 1 := by simp [checkN, hv]
    have H0 : Hid (checkRunN p s = 1) := by unfold Hid checkRunN; simp [hv]
    rw [e0]
    clear e0 hv
    go_wp2_with fail
    exact bodyPost_ret (v := .tuple #[.slice none 0 0, .int .i64 1]) (by simp [results, Tryz.results22, go_sem]) rfl ⟨HG1.out, Or.inr ⟨by rw [H0.out]; decide, by rw [H0.out]⟩⟩

end Go.Proofs.YtklenjmfalljgaaGreatDoor

/- The walk of the reference's Same. -/
namespace Go.Proofs.YtklenjmfalljgaaGreatDoor
open Go.RowKit
attribute [local go_sem] Go.World.cell?_alloc_some

theorem wrong_thread (p : List (List Ins)) (s : List Int) (h : (runS p s).kind = 2) : (runS p s).thread = 0 := by
  have hc := follow_cases p s 0 St.zero []
  change ∃ xs s', RunE p St.zero xs s' ∧ (runS p s).steps = [] ++ xs.map Ev.pr ∧ (runS p s).st = s' ∧ ((good xs ∧ xs.map Ev.tI = s ∧ (runS p s).kind = endingS p s' ∧ (runS p s).thread = 0 ∧ (runS p s).at_ = 0) ∨ (good xs ∧ (∃ u r, s = xs.map Ev.tI ++ u :: r ∧ okAt p s' u = false) ∧ (runS p s).kind = 2 ∧ (runS p s).thread = 0 ∧ (runS p s).at_ = 0 + xs.length) ∨ (∃ ys z r, xs = ys ++ [z] ∧ good ys ∧ z.bad = true ∧ s = xs.map Ev.tI ++ r ∧ (runS p s).kind = 1 ∧ (runS p s).thread = z.tI ∧ (runS p s).at_ = z.k)) at hc
  obtain ⟨xs, s', _, _, _, hc⟩ := hc
  rcases hc with ⟨_, _, _, g4, _⟩ | ⟨_, _, _, g4, _⟩ | ⟨us, z, r, _, _, _, _, g5, _⟩
  · exact g4
  · exact g4
  · omega
theorem like_three {a b : Out} (ha : a.kind = 2 → a.thread = 0) (hb : b.kind = 2 → b.thread = 0) : likeV a b = (a.kind == b.kind && a.thread == b.thread && (a.kind == 2 || a.at_ == b.at_)) := by
  unfold likeV
  by_cases h : a.kind = 2
  · rw [if_pos h]
    by_cases h2 : b.kind = 2
    · simp [h, h2, ha h, hb h2]
    · have h3 : ¬ (2 : Int) = b.kind := fun e => h2 e.symm
      have h4 : (b.kind == 2) = false := by simpa using h2
      have h5 : ((2 : Int) == b.kind) = false := by simpa using h3
      rw [h4, h, h5]; simp
  · have hb : (a.kind == 2) = false := by simpa using h
    rw [if_neg h, hb]; simp

set_option maxHeartbeats 4000000 in
set_option maxRecDepth 100000 in
theorem refSame_m (p : List (List Ins)) (a b : List Int) (pv av bv : Value) (w : World) (hP : ProgAt w pv p) (hI : IntsAt w.heap.size w av a) (hJ : IntsAt w.heap.size w bv b) (hpl : p.length ≤ 5864062014634) (hpc : ∀ c ∈ p, c.length ≤ 4398046510976) :
    Calls Tryz.prog 48 #[pv, av, bv] w (Samed p a b w) := by
  have HP := hide hP
  have HI := hide hI
  have HJ := hide hJ
  have HPC := hide hpc
  obtain ⟨ao, cap, rfl⟩ := hP.form
  obtain ⟨so, sc, rfl⟩ := hI.form
  obtain ⟨sp, sd, rfl⟩ := hJ.form
  clear hP hI hJ hpc
  go_enter Tryz.func48, Tryz.ntmps48
  go_wp2_with fail
  have hg0 : ∀ a, w.grownBy (w.alloc a) none := fun a => grown_alloc (grown_refl _ _)
  refine (refcheck_m p _ _ (HP.out.pres (pres_grown (hg0 _))) hpl HPC.out).mono ?_
  rintro e w1 ⟨rfl, hg1⟩
  have HG1 : Hid (w.grownBy w1 none) := grown_trans (hg0 _) hg1
  have hb0 : w1.heap[w.heap.size]? = some (.cells #[.slice ao p.length cap] 24 (0, 0)) := by
    rw [hg1.block w.heap.size (by simp) (by simp)]; exact heap_alloc_new w _
  have c0 : w1.cell? ⟨w.heap.size, 0, none⟩ = some (.slice ao p.length cap) := by simp [World.cell?, hb0]
  clear hb0 hg1
  by_cases hv : vProg p = true
  · have e0 : checkN p = 0 := by simp [checkN, hv]
    have HV := hide hv
    rw [e0]
    clear e0 hv
    by_cases h5 : a.length ≤ 500
    · have h5' : (a.length : Int) ≤ 500 := by omega
      by_cases h6 : b.length ≤ 500
      · have h6' : (b.length : Int) ≤ 500 := by omega
        have H0 : Hid (checkRunsN p [a, b] = 0) := by unfold Hid checkRunsN; simp [HV.out, h5, h6]
        have HPl := hide (play_m w1 ao cap p (.slice so a.length sc) a HV.out (HP.out.pres (pres_grown HG1.out)) ((HI.out.pres (pres_grown HG1.out)).mono HG1.out.size) (by omega))
        go_wp2_with fail
        refine (unhide HPl).mono ?_
        clear HPl
        rintro e w2 ⟨b1, ab1, rb1, st1, rfl, hR1⟩
        have HG12 := hide hR1.frame
        have HG2 : Hid (w.grownBy w2 none) := grown_trans HG1.out hR1.frame
        obtain ⟨xs, hSt1⟩ := stood_of HV.out a
        obtain ⟨sao1, sc1, rfl, hRd1⟩ := read_of hR1 hSt1 (HP.out.pres (pres_grown HG2.out))
        have hx1 : xs.length ≤ 500 := by
          have h1 := steps_le p a
          rw [hSt1.st] at h1
          simp at h1
          omega
        obtain ⟨_, d1, d2, d3, _, _, _⟩ := hR1.vcells
        have c2 := pres_grown HG12.out _ _ c0
        have HF1 := hide (fun (u : World) (hu : w2.grownBy u none) => refform_m HV.out hSt1 hx1 u b1 ao cap sao1 sc1 (hRd1.grown hu))
        have HEV1 : Hid (formS p (runS p a) = formE p xs) := by unfold Hid formS; rw [hSt1.ev]
        clear hR1 hSt1 hRd1 c0
        have HPl := hide (play_m w2 ao cap p (.slice sp b.length sd) b HV.out (HP.out.pres (pres_grown HG2.out)) ((HJ.out.pres (pres_grown HG2.out)).mono HG2.out.size) (by omega))
        go_wp2_with fail
        refine (unhide HPl).mono ?_
        clear HPl
        rintro e w3 ⟨b2, ab2, rb2, st2, rfl, hR2⟩
        have HG23 := hide hR2.frame
        have HG3 : Hid (w.grownBy w3 none) := grown_trans HG2.out hR2.frame
        obtain ⟨ys, hSt2⟩ := stood_of HV.out b
        obtain ⟨sao2, sc2, rfl, hRd2⟩ := read_of hR2 hSt2 (HP.out.pres (pres_grown HG3.out))
        have hx2 : ys.length ≤ 500 := by
          have h1 := steps_le p b
          rw [hSt2.st] at h1
          simp at h1
          omega
        obtain ⟨_, f1, f2, f3, _, _, _⟩ := hR2.vcells
        have k1 := pres_grown HG23.out _ _ d1
        have k2 := pres_grown HG23.out _ _ d2
        have k3 := pres_grown HG23.out _ _ d3
        have hl1 : b1 < w3.heap.size := World.block_lt_of_cell? w3 _ k1
        have hl2 : b2 < w3.heap.size := World.block_lt_of_cell? w3 _ f1
        have HF2 := hide (fun (u : World) (hu : w3.grownBy u none) => refform_m HV.out hSt2 hx2 u b2 ao cap sao2 sc2 (hRd2.grown hu))
        have HEV2 : Hid (formS p (runS p b) = formE p ys) := by unfold Hid formS; rw [hSt2.ev]
        have HLK := hide (like_three (wrong_thread p a) (wrong_thread p b))
        have HSM : Hid (sameS p a b = (likeV (runS p a) (runS p b) && (formS p (runS p a) == formS p (runS p b)))) := rfl
        rw [HLK.out, HEV1.out, HEV2.out] at HSM
        clear hR2 hSt2 hRd2 c2 d1 d2 d3 HLK HEV1 HEV2
        have hfl1 := formE_length p xs
        have HFL : Hid ((formE p xs).length ≤ 500) := by unfold Hid; omega
        clear hfl1
        generalize (runS p a).kind = ka at *
        generalize (runS p a).thread = ta at *
        generalize (runS p a).at_ = aa at *
        generalize (runS p b).kind = kb at *
        generalize (runS p b).thread = tb at *
        generalize (runS p b).at_ = ab at *
        go_upto_region 10 with fail
        obtain ⟨w5, hw5⟩ : ∃ w5, w5 = (w3.alloc (.cells #[.int .i64 ka, .int .i64 ta, .int .i64 aa] 27)).alloc (.cells #[.int .i64 kb, .int .i64 tb, .int .i64 ab] 27) := ⟨_, rfl⟩
        have HG35 : Hid (w3.grownBy w5 none) := by unfold Hid; rw [hw5]; exact grown_alloc (grown_alloc (grown_refl _ _))
        have z1 : w5.heap[w3.heap.size]? = some (.cells #[.int .i64 ka, .int .i64 ta, .int .i64 aa] 27 (0, 0)) := by
          rw [hw5, Below.heap_alloc _ _ _ (by simp)]; exact heap_alloc_new _ _
        have z2 : w5.heap[w3.heap.size + 1]? = some (.cells #[.int .i64 kb, .int .i64 tb, .int .i64 ab] 27 (0, 0)) := by
          have := heap_alloc_new (w3.alloc (.cells #[.int .i64 ka, .int .i64 ta, .int .i64 aa] 27)) (.cells #[.int .i64 kb, .int .i64 tb, .int .i64 ab] 27)
          rw [hw5]; simpa using this
        rw [← hw5]
        clear hw5 k1 k2 k3 f1 f2 f3
        have m0 : w5.cell? ⟨w3.heap.size, 0, none⟩ = some (.int .i64 ka) := by simp [World.cell?, z1]
        have m1 : w5.cell? ⟨w3.heap.size, 1, none⟩ = some (.int .i64 ta) := by simp [World.cell?, z1]
        have m2 : w5.cell? ⟨w3.heap.size, 2, none⟩ = some (.int .i64 aa) := by simp [World.cell?, z1]
        have n0 : w5.cell? ⟨w3.heap.size + 1, 0, none⟩ = some (.int .i64 kb) := by simp [World.cell?, z2]
        have n1 : w5.cell? ⟨w3.heap.size + 1, 1, none⟩ = some (.int .i64 tb) := by simp [World.cell?, z2]
        have n2 : w5.cell? ⟨w3.heap.size + 1, 2, none⟩ = some (.int .i64 ab) := by simp [World.cell?, z2]
        clear z1 z2
        obtain ⟨LK, hLK⟩ : ∃ LK, LK = (ka == kb && ta == tb && (ka == 2 || aa == ab)) := ⟨_, rfl⟩
        rw [← hLK] at HSM
        have HQK := hide hLK
        clear hLK
        go_cut [65] (fun q w' => q = .bool (!LK) ∧ w' = w5)
        case first =>
          by_cases e1 : ka = kb
          · subst e1
            by_cases e2 : ta = tb
            · subst e2
              by_cases e3 : ka = 2
              · have e3' : (ka != 2) = false := by simpa using e3
                have hL : LK = true := by rw [HQK.out]; simp [e3]
                have HL := hide hL
                subst e3
                clear hL
                go_wp2_with fail
                go_meet
                exact ⟨by rw [HL.out]; rfl, rfl⟩
              · have e3' : (ka != 2) = true := by simpa using e3
                by_cases e4 : aa = ab
                · subst e4
                  have hL : LK = true := by rw [HQK.out]; simp
                  have HL := hide hL
                  clear hL e3
                  go_wp2_with fail
                  go_meet
                  exact ⟨by rw [HL.out]; rfl, rfl⟩
                · have e4' : (aa != ab) = true := by simpa using e4
                  have hL : LK = false := by rw [HQK.out]; simp [e3, e4]
                  have HL := hide hL
                  clear hL e3 e4
                  go_wp2_with fail
                  go_meet
                  exact ⟨by rw [HL.out]; rfl, rfl⟩
            · have e2' : (ta != tb) = true := by simpa using e2
              have hL : LK = false := by rw [HQK.out]; simp [e2]
              have HL := hide hL
              clear hL e2
              go_wp2_with fail
              go_meet
              exact ⟨by rw [HL.out]; rfl, rfl⟩
          · have e1' : (ka != kb) = true := by simpa using e1
            have hL : LK = false := by rw [HQK.out]; simp [e1]
            have HL := hide hL
            clear hL e1
            go_wp2_with fail
            go_meet
            exact ⟨by rw [HL.out]; rfl, rfl⟩
        case rest =>
        obtain ⟨rfl, hwc⟩ := hcut
        have hwc2 := hwc.symm
        subst hwc2
        clear m0 m1 m2 n0 n1 n2
        have HG5 : Hid (w.grownBy w5 none) := grown_trans HG3.out HG35.out
        cases LK with
        | false =>
          have HE : Hid (sameS p a b = false) := by unfold Hid; rw [HSM.out]; rfl
          go_wp2_with fail
          exact bodyPost_ret (v := .tuple #[.bool false, .int .i64 0]) (by simp [results, Tryz.results48, go_sem]) rfl ⟨HG5.out, Or.inl ⟨H0.out, by rw [HE.out]⟩⟩
        | true =>
          have HE : Hid (sameS p a b = (formE p xs == formE p ys)) := by unfold Hid; rw [HSM.out]; rfl
          clear HSM HQK
          have HFa := hide (HF1.out w5 (grown_trans HG23.out HG35.out))
          clear HF1
          go_wp2_with fail
          refine (unhide HFa).mono ?_
          clear HFa
          rintro e w6 ⟨v6, rfl, ho6, hg6⟩
          have HO6 := hide ho6
          have HG56 := hide hg6
          clear ho6 hg6
          have HFb := hide (HF2.out w6 (grown_trans HG35.out HG56.out))
          clear HF2
          go_wp2_with fail
          refine (unhide HFb).mono ?_
          clear HFb
          rintro e w7 ⟨v7, rfl, ho7, hg7⟩
          have HO7 := hide ho7
          have HG67 := hide hg7
          clear ho7 hg7
          have HSI := hide (refSameInts_m (formE p xs) (formE p ys) v6 v7 w7 (((owns_ints HO6.out).pres (pres_grown HG67.out)).mono HG67.out.size) (owns_ints HO7.out) (by have := HFL.out; omega))
          go_wp2_with fail
          refine (unhide HSI).mono ?_
          clear HSI
          rintro e w8 ⟨rfl, hl8⟩
          have HG78 : Hid (w7.grownBy w8 none) := grown_of_like hl8
          clear hl8
          go_wp2_with fail
          exact bodyPost_ret (v := .tuple #[.bool (formE p xs == formE p ys), .int .i64 0]) (by simp [results, Tryz.results48, go_sem]) rfl ⟨grown_trans HG5.out (grown_trans HG56.out (grown_trans HG67.out HG78.out)), Or.inl ⟨H0.out, by rw [HE.out]⟩⟩
      · have h6' : (500 : Int) < b.length := by omega
        have H0 : Hid (checkRunsN p [a, b] = 2) := by unfold Hid checkRunsN; simp [HV.out, h6]
        go_wp2_with fail
        exact bodyPost_ret (v := .tuple #[.bool false, .int .i64 2]) (by simp [results, Tryz.results48, go_sem]) rfl ⟨HG1.out, Or.inr ⟨by rw [H0.out]; decide, by rw [H0.out]⟩⟩
    · have h5' : (500 : Int) < a.length := by omega
      have H0 : Hid (checkRunsN p [a, b] = 2) := by unfold Hid checkRunsN; simp [HV.out, h5]
      go_wp2_with fail
      exact bodyPost_ret (v := .tuple #[.bool false, .int .i64 2]) (by simp [results, Tryz.results48, go_sem]) rfl ⟨HG1.out, Or.inr ⟨by rw [H0.out]; decide, by rw [H0.out]⟩⟩
  · have e0 : checkN p = 1 := by simp [checkN, hv]
    have H0 : Hid (checkRunsN p [a, b] = 1) := by unfold Hid checkRunsN; simp [hv]
    rw [e0]
    clear e0 hv
    go_wp2_with fail
    exact bodyPost_ret (v := .tuple #[.bool false, .int .i64 1]) (by simp [results, Tryz.results48, go_sem]) rfl ⟨HG1.out, Or.inr ⟨by rw [H0.out]; decide, by rw [H0.out]⟩⟩

end Go.Proofs.YtklenjmfalljgaaGreatDoor
