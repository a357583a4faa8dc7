/- The texts Kqb Kqc Hgf Hgg Hgh Hgi. -/
import Derived.Test.YtklenjmfalljgaaDoorMB

/- The second part of keepProgram: the row of threads is kept. -/
namespace Go.Proofs.YtklenjmfalljgaaDoor
open Go.RowKit
attribute [local go_sem] Go.World.cell?_alloc_some

theorem info_kc : ((Tryd.prog.info? 29).map fun i => (i.zero, i.size, i.bytes)) = some (some (.slice none 0 0), 1, 24) := by kernel_rfl
theorem info_kt : ((Tryd.prog.info? 23).map fun i => (i.zero, i.size, i.bytes)) = some (some (.slice none 0 0), 1, 24) := by kernel_rfl

set_option maxRecDepth 100000 in
set_option maxHeartbeats 4000000 in
theorem kpLast {B : Nat} {w : World} {b n3 : Nat} {who : Nat → Role} {n : Int} {f : Nat → Value} {K : Nat → List (Value × Int)} {x1 : Option Addr} {x3 len : Nat} {xs : List Value} (h3 : w.cell? ⟨n3, 0, none⟩ = some (.slice x1 len x3)) (hH : HsK B w b who n f K) (hl : w.ownsRow B 29 1 (.slice x1 len x3) len xs) (ho : ∀ g, (Value.slice x1 len x3).ownBlock = some g → who g = .other)
    (hn0 : 0 ≤ n) (hn1 : n ≤ 10000000000000) (hK : (K 4).length ≤ 5000000000000) (ha : len ≤ 900)
    {Q : Exit → Act → World → Prop} {c1 c2 c4 c5 c6 c7 c8 c9 c10 c11 c12 c13 c14 c15 c16 c17 c18 c19 c20 c21 c22 c23 c24 c25 c26 c27 c28 c29 c30 c31 c32 c33 c34 c35 c36 c37 c38 c39 c40 c41 c42 c43 c44 c45 c46 c47 c48 c49 c50 c51 c52 c53 c54 c55 c56 c57 c58 c59 c60 c61 c62 c63 c64 c65 c66 c67 c68 c69 c70 c71 c72 c73 c74 c75 c76 c77 c78 c79 c80 c81 c82 c83 c84 c85 c86 c87 c88 c89 c90 c91 c92 c93 c94 c95 c96 c97 c98 c99 c100 c101 c102 c103 c104 c105 c106 c107 c108 c109 c110 c111 c112 : Value}
    (HQ : Hid (∀ {z0 z1 z2 z3 z4 z5 z6 z7 z8 z9 z10 z11 z12 z13 z14 z15 z16 z17 z18 z19 z20 z21 z22 z23 z24 z25 z26 z27 z28 z29 z30 z31 z32 z33 z34 z35 z36 z37 z38 z39 z40 z41 z42 z43 z44 z45 z46 z47 z48 z49 z50 z51 z52 z53 z54 z55 z56 z57 z58 z59 z60 z61 z62 z63 z64 z65 z66 z67 z68 z69 z70 z71 z72 z73 z74 z75 z76 z77 z78 z79 z80 z81 z82 z83 z84 z85 z86 z87 z88 z89 z90 z91 z92 z93 z94 z95 z96 z97 z98 z99 z100 z101 z102 z103 z104 z105 z106 z107 z108 z109 z110 z111 z112 : Value} (w' : World), (∃ who' f' K', HsK B w' b who' (n + 1) f' K' ∧ After 4 w w' who who' f f' K K' (fun g => (Value.slice x1 len x3).ownBlock = some g)) → Q .normal ⟨#[z0, z1, z2, z3, z4, z5, z6, z7, z8, z9, z10, z11, z12, z13, z14, z15, z16, z17, z18, z19, z20, z21, z22, z23, z24, z25, z26, z27, z28, z29, z30, z31, z32, z33, z34, z35, z36, z37, z38, z39, z40, z41, z42, z43, z44, z45, z46, z47, z48, z49, z50, z51, z52, z53, z54, z55, z56, z57, z58, z59, z60, z61, z62, z63, z64, z65, z66, z67, z68, z69, z70, z71, z72, z73, z74, z75, z76, z77, z78, z79, z80, z81, z82, z83, z84, z85, z86, z87, z88, z89, z90, z91, z92, z93, z94, z95, z96, z97, z98, z99, z100, z101, z102, z103, z104, z105, z106, z107, z108, z109, z110, z111, z112], []⟩ w')) :
    Code.wp Tryd.prog (tailOf Tryd.f57 16) Q ⟨#[.pointer (some ⟨b, 0, none⟩), c1, c2, .pointer (some ⟨n3, 0, none⟩), c4, c5, c6, c7, c8, c9, c10, c11, c12, c13, c14, c15, c16, c17, c18, c19, c20, c21, c22, c23, c24, c25, c26, c27, c28, c29, c30, c31, c32, c33, c34, c35, c36, c37, c38, c39, c40, c41, c42, c43, c44, c45, c46, c47, c48, c49, c50, c51, c52, c53, c54, c55, c56, c57, c58, c59, c60, c61, c62, c63, c64, c65, c66, c67, c68, c69, c70, c71, c72, c73, c74, c75, c76, c77, c78, c79, c80, c81, c82, c83, c84, c85, c86, c87, c88, c89, c90, c91, c92, c93, c94, c95, c96, c97, c98, c99, c100, c101, c102, c103, c104, c105, c106, c107, c108, c109, c110, c111, c112], []⟩ w := by
  conv => arg 2; whnf
  go_upto_region 17 with fail
  clear h3
  obtain ⟨i0, hi0, hz0, hz1, hz2⟩ := info_parts info_kc
  obtain ⟨i1, hi1, hy0, hy1, hy2⟩ := info_parts info_kt
  obtain ⟨i2, hi2, hx0, hx1, hx2⟩ := info_parts info_int
  have HM := hide (mark_g hH.1 hn0 (by omega))
  have H0 : Hid (WrK B w (w.setCell ⟨b, 5, none⟩ (.int .i64 (n + 1))) b who who (n + 1) f (setF f 5 (.int .i64 (n + 1))) K (.slice x1 len x3) len xs (-77000000 - (n + 1)) 0) := by
    refine ⟨⟨hH.1.setCnt _, hH.2⟩, ?_, fun j hj => by omega, Fr.set (Or.inl (by rw [hH.1.wb]; simp)), ho, fun o ho => setF_ne _ _ (by omega)⟩
    have hbo : (Value.slice x1 len x3).ownBlock ≠ some b := fun e => by have := ho b e; rw [hH.1.wb] at this; cases this
    exact ownsRow_setCell_other (a := ⟨b, 5, none⟩) hl hbo (.int .i64 (n + 1))
  have hpt : pt b = .pointer (some ⟨b, 0, none⟩) := rfl
  rw [hpt] at HM
  clear hH hl ho hpt
  generalize hm : -77000000 - (n + 1) = m at *
  have HMM := hide hm
  clear hm
  go_wp2_with (go_at_call 86; refine HM.out.mono ?_; rintro e w1 ⟨rfl, rfl⟩)
  go_loopw [11] (fun i w' => ∃ (k : Nat) (who' : Nat → Role) (R : List Value), k ≤ len ∧ i = .int .i64 k ∧ Hid (WrK B w w' b who who' (n + 1) f (setF f 5 (.int .i64 (n + 1))) K (.slice x1 len x3) len R m k)) (fun i _ => len - (intOf i).toNat)
  case atStart => exact ⟨0, who, xs, Nat.zero_le _, rfl, H0⟩
  case round =>
    clear H0 HM
    obtain ⟨k, who', R, hk, rfl, HI⟩ := hrel
    obtain ⟨w5, hw5⟩ : ∃ w5, w5 = wr := ⟨_, rfl⟩
    rw [← hw5] at HI ⊢
    clear hw5
    by_cases hlt : k < len
    · obtain ⟨g, cp, e0, _, _⟩ := HI.out.row.form (by omega)
      have hrow := HI.out.row
      rw [e0] at hrow
      have hgl : g < w5.heap.size := owns_ltH hrow g rfl
      have hst := HI.out.step e0 hlt
      rw [World.setCell_alloc_past _ _ _ _ hgl] at hst
      have HNX := hide hst
      clear hst
      simp only [Value.slice.injEq, true_and] at e0
      obtain ⟨rfl, rfl⟩ := e0
      have hra := owns_alloc (o := .cells #[.int .i64 m, .int .i64 0, .int .i64 0, .int .i64 0] 28) hrow
      obtain ⟨u0, y0⟩ : ∃ u, (w5.alloc (.cells #[.int .i64 m, .int .i64 0, .int .i64 0, .int .i64 0] 28)).cell? ⟨g, k, none⟩ = some u := cell_at hra (by omega)
      have z0 : (w5.alloc (.cells #[.int .i64 m, .int .i64 0, .int .i64 0, .int .i64 0] 28)).frozen? ⟨g, k, none⟩ = false := free_at hra
      have q0 : (0 : Int) ≤ (k : Int) := by omega
      have q1 : (k : Int) < len := by omega
      clear hrow hra
      go_wp2_with fail
      go_roundw
      case rel => exact ⟨k + 1, _, _, by omega, by go_num, HNX⟩
      case measure => simp [intOf]; omega
    · have ek : k = len := by omega
      have q1 : (len : Int) ≤ (k : Int) := by omega
      have HS : Hid (∃ who1, KpH B w w5 b who who1 (n + 1) m f (setF f 5 (.int .i64 (n + 1))) K K (.slice x1 len x3) len R 0 (fun g => (Value.slice x1 len x3).ownBlock = some g)) := by
        have hi := HI.out
        rw [ek] at hi
        exact hi.kp (by omega)
      clear HI ek
      go_wp2_with fail
      go_loopw [9, 12] (fun lv' i w' => ∃ (k : Nat) (who' : Nat → Role) (f' : Nat → Value) (K' : Nat → List (Value × Int)) (R : List Value), k ≤ 4 ∧ i = .int .i64 k ∧ Hid (KpH B w w' b who who' (n + 1) m f f' K K' lv' (len + k) R k (fun g => (Value.slice x1 len x3).ownBlock = some g))) (fun _ i _ => 4 - (intOf i).toNat)
      case atStart =>
        obtain ⟨who1, h1⟩ := HS.out
        exact ⟨0, who1, _, K, R, by omega, rfl, hide h1⟩
      case round =>
        clear HS
        obtain ⟨j, who', f', K', R, hj, rfl, HK⟩ := hrel
        obtain ⟨w7, hw7⟩ : ∃ w7, w7 = wr := ⟨_, rfl⟩
        rw [← hw7] at HK ⊢
        clear hw7
        have rO : w7.ownsRow B 23 1 (f' 14) (K' 4).length ((K' 4).map (·.1)) := HK.out.hs.lst 4 (by omega)
        have rM : w7.ownsRow B 3 1 (f' 15) (K' 4).length (ints ((K' 4).map (·.2))) := by have := HK.out.hs.mrk 4 (by omega); simpa [marksOf] using this
        have rL : w7.ownsRow B 29 1 u9 (len + j) R := HK.out.cu.row
        have HLE : Hid ((K' 4).length = (K 4).length + j) := HK.out.len
        have c6 : w7.cell? ⟨b, 14, none⟩ = some (f' 14) := HK.out.hs.blk.cell (by omega)
        have hbase : B ≤ w7.heap.size := by have := HK.out.hs.blk.lt; have := (HK.out.hs.dom b (by rw [HK.out.hs.wb]; simp)).1; omega
        obtain ⟨l1, l2, l3, rfl⟩ := owns_form rL
        have hl2 := owns_lenq rL
        subst hl2
        obtain ⟨o1, o2, o3, eO⟩ := owns_form rO
        rw [eO] at rO c6
        have ho2 := owns_lenq rO
        subst ho2
        have hLL : (K' 4).length ≤ 5000000000003 ∨ ¬ j < 4 := by have := HLE.out; omega
        have HRL := hide rL
        have HRO := hide rO
        have HEO := hide eO
        have HRM := hide rM
        clear rL rO rM eO
        by_cases hj4 : j < 4
        · have hLL : (K' 4).length ≤ 5000000000003 := by omega
          have z2 : (j : Int) < 4 := by omega
          have h63a : (K' 4).length + 1 ≤ maxLen := by unfold maxLen; omega
          have h63c : len + j + 1 ≤ maxLen := by unfold maxLen; omega
          have HPU : Hid (∀ {o : Obj} {g6 c6 : Nat} {w6 : World}, w6.ownsRow B 23 1 (.slice (some ⟨g6, 0, none⟩) ((K' 4).length + 1) c6) ((K' 4).length + 1) ((K' 4).map (·.1) ++ [.slice l1 (len + j) l3]) →
              (((Value.slice o1 (K' 4).length o3).ownBlock = some g6 ∧ (w7.alloc o).grownBy w6 (some g6)) ∨ (g6 = w7.heap.size + 1 ∧ (w7.alloc o).grownBy w6 none)) →
              HB w6 b f' ∧ ∃ who'' f'', KpB B w (w6.setCell ⟨b, 14, none⟩ (.slice (some ⟨g6, 0, none⟩) ((K' 4).length + 1) c6)) b who who'' (n + 1) m f f'' K K' (.slice l1 (len + j) l3) (len + j) R j (fun g => (Value.slice x1 len x3).ownBlock = some g) ∧ f'' 15 = f' 15) := by
            intro o g6 c6 w6 hown key
            rw [← HEO.out] at key
            exact HK.out.push hown key
          generalize hKl : (K' 4).length = N at *
          generalize hKm : (K' 4).map (·.1) = L1 at *
          have HKl := hide hKl
          clear hKl hKm
          go_upto_region 26 with (at_builtin; go_must (refine wpList_append_keeps rfl _ _ _ rfl B 23 i1 _ 1 24 Tryd.underlying58 hi1 hy0 hy1 hy2 rfl (by omega) (.slice o1 N o3) N L1 rfl (owns_alloc HRO.out) ⟨w7.heap.size, 0, none⟩ 1 1 [.slice l1 (len + j) l3] rfl rfl (World.news_of_block (cs := #[.slice l1 (len + j) l3]) (t := 23) (fr := (0, 0)) (heap_alloc_new w7 _)) (by simp [Value.oneCell']) (by omega) h63a (by omega) (by simp; omega) (w7.heap.size + 1) (by simp) ?_); intro g8 cap8 w8 hown8 key8 hlt8; have hb8 := (HPU.out hown8 key8).1; have p6 : w8.cell? ⟨b, 14, none⟩ = some (.slice o1 N o3) := (by rw [hb8.cell (by omega), HEO.out]); have p7 := hb8.frozen 14)
          obtain ⟨_, who9, f9, hk9, e9⟩ := HPU.out hown8 key8
          generalize w8.setCell ⟨b, 14, none⟩ (.slice (some ⟨g8, 0, none⟩) (N + 1) cap8) = w9 at *
          have HK9 := hide hk9
          have rM9 : w9.ownsRow B 3 1 (f9 15) N (ints ((K' 4).map (·.2))) := by
            have := hk9.hs.mrk 4 (by omega)
            rw [← HKl.out]
            simpa [marksOf] using this
          have c7 : w9.cell? ⟨b, 15, none⟩ = some (f9 15) := hk9.hs.blk.cell (by omega)
          obtain ⟨m1, m2, m3, eM⟩ := owns_form rM9
          rw [eM] at rM9 c7
          have hm2 := (owns_lenq rM9).symm
          subst hm2
          have hbase9 : B ≤ w9.heap.size := by have := hk9.hs.blk.lt; have := (hk9.hs.dom b (by rw [hk9.hs.wb]; simp)).1; omega
          have HRM9 := hide rM9
          have HEM := hide eM
          clear hown8 key8 hb8 p6 p7 hlt8 c6 hk9 e9 HPU rM9 eM HEO HRO HRM
          go_upto_region 27 with (at_builtin; go_must (refine wpList_append_keeps rfl _ _ _ rfl B 3 i2 _ 1 8 Tryd.underlying22 hi2 hx0 hx1 hx2 rfl (by omega) (.slice m1 N m3) N (ints ((K' 4).map (·.2))) rfl (owns_alloc HRM9.out) ⟨w9.heap.size, 0, none⟩ 1 1 [.int .i64 m] rfl rfl (World.news_of_block (cs := #[.int .i64 m]) (t := 3) (fr := (0, 0)) (heap_alloc_new w9 _)) (by simp [Value.oneCell']) (by omega) h63a (by omega) (by simp; omega) (w9.heap.size + 1) (by simp) ?_); intro g10 cap10 w10 hown10 key10 hlt10; have hb10 := (HK9.out.tell (M1 := m1) (M3 := m3) HEM.out HKl.out hown10 key10).1; have p6 : w10.cell? ⟨b, 15, none⟩ = some (.slice m1 N m3) := (by rw [hb10.cell (by omega), HEM.out]); have p7 := hb10.frozen 15)
          obtain ⟨_, who11, f11, hk11⟩ := HK9.out.tell (M1 := m1) (M3 := m3) HEM.out HKl.out hown10 key10
          generalize w10.setCell ⟨b, 15, none⟩ (.slice (some ⟨g10, 0, none⟩) (N + 1) cap10) = w11 at *
          have HK11 := hide (hk11.made (.cells #[.int .i64 m, .int .i64 0, .int .i64 0, .int .i64 0] 28))
          have HRL11 : Hid ((w11.alloc (.cells #[.int .i64 m, .int .i64 0, .int .i64 0, .int .i64 0] 28)).ownsRow B 29 1 (.slice l1 (len + j) l3) (len + j) R) := HK11.out.cu.row
          have HV4 : Hid (∃ g' cap', Value.slice (some ⟨w11.heap.size, 0, none⟩) 1 1 = .slice (some ⟨g', 0, none⟩) 1 cap' ∧ (w11.alloc (.cells #[.int .i64 m, .int .i64 0, .int .i64 0, .int .i64 0] 28)).heap[g']? = some (.cells (elC m 3).toArray 28 (0, 0)) ∧ setW who11 w11.heap.size .kept g' = .kept) := ⟨w11.heap.size, 1, rfl, heap_alloc_new w11 _, setW_at _ _ _⟩
          have hbase11 : B ≤ w11.heap.size := by have := hk11.hs.blk.lt; have := (hk11.hs.dom b (by rw [hk11.hs.wb]; simp)).1; omega
          have hnb : ((w11.alloc (.cells #[.int .i64 m, .int .i64 0, .int .i64 0, .int .i64 0] 28)).alloc (.cells #[.slice (some ⟨w11.heap.size, 0, none⟩) 1 1] 29)).heap[w11.heap.size + 1]? = some (.cells #[.slice (some ⟨w11.heap.size, 0, none⟩) 1 1] 29 (0, 0)) := by
            have := heap_alloc_new (w11.alloc (.cells #[.int .i64 m, .int .i64 0, .int .i64 0, .int .i64 0] 28)) (.cells #[.slice (some ⟨w11.heap.size, 0, none⟩) 1 1] 29)
            simpa using this
          clear hown10 key10 hb10 p6 p7 hlt10 c7 hk11 HK9 HRM9 HEM HRL
          go_wp2_with (at_builtin; go_must (refine wpList_append_keeps rfl _ _ _ rfl B 29 i0 _ 1 24 Tryd.underlying23 hi0 hz0 hz1 hz2 rfl (by omega) (.slice l1 (len + j) l3) (len + j) R rfl (owns_alloc HRL11.out) ⟨w11.heap.size + 1, 0, none⟩ 1 1 [.slice (some ⟨w11.heap.size, 0, none⟩) 1 1] rfl rfl (World.news_of_block (cs := #[.slice (some ⟨w11.heap.size, 0, none⟩) 1 1]) (t := 29) (fr := (0, 0)) hnb) (by simp [Value.oneCell']) (by omega) h63c (by omega) (by simp; omega) ((w11.alloc (.cells #[.int .i64 m, .int .i64 0, .int .i64 0, .int .i64 0] 28)).heap.size + 1) (by simp) ?_); intro g12 cap12 w12 hown12 key12 hlt12; have HK13 := hide (HK11.out.grow (by omega) HV4.out hown12 key12); clear hown12 key12 hlt12)
          go_roundw
          case rel =>
            obtain ⟨who13, h13⟩ := HK13.out
            exact ⟨j + 1, who13, _, _, _, by omega, by go_num, hide h13⟩
          case measure => simp [intOf]; omega
        · have z2 : (4 : Int) ≤ (j : Int) := by omega
          have HE : Hid (∃ who' f' K', HsK B w7 b who' (n + 1) f' K' ∧ After 4 w w7 who who' f f' K K' (fun g => (Value.slice x1 len x3).ownBlock = some g)) := by
            have ej : j = 4 := by omega
            have hk := HK.out
            rw [ej] at hk
            exact hk.done
          go_wp2_with fail
          exact HQ.out w7 HE.out

end Go.Proofs.YtklenjmfalljgaaDoor

/- The walk of the hands' keepProgram, whole. -/
namespace Go.Proofs.YtklenjmfalljgaaDoor
open Go.RowKit
attribute [local go_sem] Go.World.cell?_alloc_some

/-- A program that came out: its row of threads, its threads' rows, all apart. -/
structure ThrD (B : Nat) (w : World) (tv : Value) (T : List (Value × Nat × List Value)) : Prop where
  row : w.ownsRow B 29 1 tv T.length (T.map (·.1))
  el : ∀ x ∈ T, w.ownsRow B 28 4 x.1 x.2.1 x.2.2 ∧ x.2.1 ≤ 900
  dis : ∀ i j (hi : i < T.length) (hj : j < T.length), i < j → ∀ g, T[i].1.ownBlock = some g → T[j].1.ownBlock ≠ some g

theorem two_kinds {w : World} {B B' : Nat} {v v' : Value} {m q : Nat} {xs ys : List Value} (h : w.ownsRow B 29 1 v m xs) (h' : w.ownsRow B' 28 4 v' q ys) {g : Nat} (e : v.ownBlock = some g) (e' : v'.ownBlock = some g) : False := by
  rcases h.2 with ⟨rfl, _⟩ | ⟨g1, cap1, cur1, rfl, _, hh, _⟩
  · cases e
  · rcases h'.2 with ⟨rfl, _⟩ | ⟨g2, cap2, cur2, rfl, _, hh', _⟩
    · cases e'
    · simp only [Value.ownBlock, Option.some.injEq] at e e'
      subst e e'
      rw [hh] at hh'
      simp only [Option.some.injEq, Obj.cells.injEq] at hh'
      exact absurd hh'.2.1 (by decide)

/-- In the midst: so many threads are kept. -/
structure KpQ (B : Nat) (w0 w : World) (b : Nat) (who0 who : Nat → Role) (n : Int) (f0 f : Nat → Value) (K0 K : Nat → List (Value × Int)) (T : List (Value × Nat × List Value)) (t : Nat) : Prop where
  hs : HsK B w b who (n + t) f K
  fr : Fr w0 w who0 who (fun g => ∃ x ∈ T.take t, x.1.ownBlock = some g)
  lent : ∀ o, o < 5 → f o = f0 o
  len : (K 3).length = (K0 3).length + 4 * t
  oth : ∀ c, c ≠ 3 → K c = K0 c

set_option maxHeartbeats 4000000 in
set_option maxRecDepth 100000 in
theorem keepProgram_g (B : Nat) (w : World) (b : Nat) (who : Nat → Role) (n : Int) (f : Nat → Value) (K : Nat → List (Value × Int)) (tv : Value) (T : List (Value × Nat × List Value)) (hH : HsK B w b who n f K) (hT : ThrD B w tv T)
    (ho : ∀ g, tv.ownBlock = some g → who g = .other) (hoe : ∀ x ∈ T, ∀ g, x.1.ownBlock = some g → who g = .other) (hn0 : 0 ≤ n) (hn1 : n ≤ 9000000000000) (hK3 : (K 3).length ≤ 4900000000000) (hK4 : (K 4).length ≤ 4900000000000) (hl : T.length ≤ 100) :
    Calls Tryd.prog 57 #[pt b, .agg #[tv]] w fun e w' => (∃ v, e = .returned v) ∧ ∃ who' f' K', HsK B w' b who' (n + T.length + 1) f' K' ∧ Fr w w' who who' (fun g => tv.ownBlock = some g ∨ ∃ x ∈ T, x.1.ownBlock = some g) ∧ (∀ o, o < 5 → f' o = f o) ∧ (K' 3).length = (K 3).length + 4 * T.length ∧ (K' 4).length = (K 4).length + 4 ∧ ∀ c, c ≠ 3 → c ≠ 4 → K' c = K c := by
  obtain ⟨t1, t2, t3, rfl⟩ := owns_form hT.row
  have ht2 := owns_lenq hT.row
  subst ht2
  have HH := hide hH
  have HT := hide hT
  have HO := hide ho
  have HOE := hide hoe
  have hpt : pt b = .pointer (some ⟨b, 0, none⟩) := rfl
  have qT : (T.length : Int) ≤ 100 := by omega
  rw [hpt]
  clear hH hT ho hoe
  go_enter Tryd.func57, Tryd.ntmps57
  go_upto_region 1 with fail
  obtain ⟨w1, hw1⟩ : ∃ w1, w1 = w.alloc (.cells #[.slice t1 T.length t3] 25) := ⟨_, rfl⟩
  have HB1 : Hid (w1.heap[w.heap.size]? = some (.cells #[.slice t1 T.length t3] 25 (0, 0))) := by unfold Hid; rw [hw1]; exact heap_alloc_new w _
  have HG1 : Hid (w.grownBy w1 none) := by unfold Hid; rw [hw1]; exact grown_alloc (grown_refl _ _)
  rw [← hw1]
  clear hw1
  have HW3 : Hid (who w.heap.size = .other) := by
    unfold Hid
    by_cases e : who w.heap.size = .other
    · exact e
    · exact absurd (HH.out.1.dom _ e).2 (by omega)
  have HT1 : Hid (ThrD B w1 (.slice t1 T.length t3) T) := ⟨owns_grown HT.out.row HG1.out (fun _ e => by cases e), fun x hx => ⟨owns_grown (HT.out.el x hx).1 HG1.out (fun _ e => by cases e), (HT.out.el x hx).2⟩, HT.out.dis⟩
  have H0 : Hid (KpQ B w1 w1 b who who n f f K K T 0) := ⟨by simpa using HH.out.grown HG1.out, Fr.refl _ _ _, fun _ _ => rfl, by simp, fun _ _ => rfl⟩
  -- what stands still, while threads are kept
  have HSTB : Hid (∀ (w' : World) (who' : Nat → Role) (f' : Nat → Value) (K' : Nat → List (Value × Int)) (t : Nat), t ≤ T.length → KpQ B w1 w' b who who' n f f' K K' T t → w'.cell? ⟨w.heap.size, 0, none⟩ = some (.slice t1 T.length t3) ∧ (w'.ownsRow B 29 1 (.slice t1 T.length t3) T.length (T.map (·.1)) ∧ ∀ g, (Value.slice t1 T.length t3).ownBlock = some g → who' g = .other) ∧ ∀ (ht : t < T.length), w'.ownsRow B 28 4 T[t].1 T[t].2.1 T[t].2.2 ∧ ∀ g, T[t].1.ownBlock = some g → who' g = .other) := by
    intro w' who' f' K' t ht hq
    have hlt : w.heap.size < w1.heap.size := (Array.getElem?_eq_some_iff.1 HB1.out).1
    have hmem : ∀ x ∈ T.take t, x ∈ T := fun x hx => List.mem_of_mem_take hx
    have hbox := hq.fr.oth w.heap.size hlt HW3.out (fun ⟨x, hx, e⟩ => by
      have := owns_ltH (HT.out.el x (hmem x hx)).1 _ e
      omega)
    refine ⟨?_, ⟨?_, ?_⟩, fun htl => ⟨?_, ?_⟩⟩
    · rw [World.cell?_of_block hbox.1]; simp [World.cell?, HB1.out]
    · exact owns_same HT1.out.row (fun g e => (hq.fr.oth g (owns_ltH HT1.out.row g e) (HO.out g e) (fun ⟨x, hx, e2⟩ => two_kinds HT1.out.row (HT1.out.el x (hmem x hx)).1 e e2)).1)
    · exact fun g e => (hq.fr.oth g (owns_ltH HT1.out.row g e) (HO.out g e) (fun ⟨x, hx, e2⟩ => two_kinds HT1.out.row (HT1.out.el x (hmem x hx)).1 e e2)).2
    · have hx := HT1.out.el T[t] (List.getElem_mem htl)
      refine owns_same hx.1 (fun g e => (hq.fr.oth g (owns_ltH hx.1 g e) (HOE.out _ (List.getElem_mem htl) g e) (fun ⟨x, hx', e2⟩ => ?_)).1)
      obtain ⟨i, hi, rfl⟩ := List.getElem_of_mem hx'
      simp only [List.length_take] at hi
      rw [List.getElem_take] at e2
      exact HT1.out.dis i t (by omega) htl (by omega) g e2 e
    · intro g e
      have hx := HT1.out.el T[t] (List.getElem_mem htl)
      refine (hq.fr.oth g (owns_ltH hx.1 g e) (HOE.out _ (List.getElem_mem htl) g e) (fun ⟨x, hx', e2⟩ => ?_)).2
      obtain ⟨i, hi, rfl⟩ := List.getElem_of_mem hx'
      simp only [List.length_take] at hi
      rw [List.getElem_take] at e2
      exact HT1.out.dis i t (by omega) htl (by omega) g e2 e
  go_wp2_with fail
  go_loopw [4] (fun tv' w' => ∃ t : Nat, t ≤ T.length ∧ tv' = .int .i64 t ∧ Hid (∃ who' f' K', KpQ B w1 w' b who who' n f f' K K' T t)) (fun tv' _ => T.length - (intOf tv').toNat)
  case atStart => exact ⟨0, Nat.zero_le _, rfl, ⟨_, _, _, H0.out⟩⟩
  case round =>
    clear H0
    obtain ⟨t, ht, rfl, HE⟩ := hrel
    obtain ⟨who', f', K', hq⟩ := HE.out
    clear HE
    obtain ⟨w2, hw2⟩ : ∃ w2, w2 = wr := ⟨_, rfl⟩
    rw [← hw2] at hq ⊢
    clear hw2
    have HQ := hide hq
    obtain ⟨c3, ⟨hrow, hro⟩, hel⟩ := HSTB.out w2 who' f' K' t ht hq
    clear hq
    by_cases hlt : t < T.length
    · have q1 : (t : Int) < T.length := by omega
      obtain ⟨tg, rfl⟩ : ∃ g, t1 = some ⟨g, 0, none⟩ := by
        rcases hrow.2 with ⟨_, e⟩ | ⟨g, cap, cur, hv, _⟩
        · omega
        · simp only [Value.slice.injEq] at hv
          exact ⟨g, hv.1⟩
      obtain ⟨hxl, hxo⟩ := hel hlt
      have hle := (HT1.out.el T[t] (List.getElem_mem hlt)).2
      have hct : w2.cell? ⟨tg, t, none⟩ = some T[t].1 := by rw [hrow.cellAt _ (by omega)]; simp [hlt]
      have HTK : Hid (T.take (t + 1) = T.take t ++ [T[t]]) := List.take_succ_eq_append_getElem hlt
      generalize T[t] = x at *
      obtain ⟨xv, xn, xs⟩ := x
      simp only at hxl hxo hle hct
      obtain ⟨x1, x2, x3, rfl⟩ := owns_form hxl
      have hx2 := owns_lenq hxl
      subst hx2
      go_upto_if 17 with fail
      refine wp_cond_true rfl ?_
      refine wp_skip ?_
      refine ‹∀ a w, Code.wp Tryd.prog _ _ a w → _› _ _ ?_
      have HXO := hide hxo
      refine kpRound c3 hlt (by omega) hct HQ.out.hs hxl hxo (by omega) (by omega) (by have := HQ.out.len; omega) hle ?_
      intro z5 z6 z7 z8 z18 z19 z20 z21 z22 z23 z24 z25 z26 z27 z28 z29 z30 z31 z32 z33 z34 z35 z36 z37 z38 z39 z40 z41 z42 z43 z44 z45 z46 z47 z48 z49 z50 z51 z52 z53 z54 z55 z56 z57 z58 z59 z60 z61 z62 z63 z64 z65 z66 w3 hh
      have HNX : Hid (∃ who' f' K', KpQ B w1 w3 b who who' n f f' K K' T (t + 1)) := by
        obtain ⟨who3, f3, K3, h1, h2⟩ := hh
        refine ⟨who3, f3, K3, ?_, ?_, fun o ho' => (h2.lent o ho').trans (HQ.out.lent o ho'), ?_, fun c hc => (h2.oth c hc).trans (HQ.out.oth c hc)⟩
        · have e : n + ((t + 1 : Nat) : Int) = n + (t : Int) + 1 := by omega
          rw [e]; exact h1
        · exact (HQ.out.fr.mono (fun g ⟨x, hx, e⟩ => ⟨x, (by rw [HTK.out]; exact List.mem_append.2 (Or.inl hx)), e⟩)).trans (h2.fr.mono (fun g e => ⟨(.slice x1 x2 x3, x2, xs), (by rw [HTK.out]; exact List.mem_append.2 (Or.inr (List.mem_singleton.2 rfl))), e⟩))
        · have e1 := h2.len
          have e2 := HQ.out.len
          omega
      clear hh
      go_wp2_with fail
      go_roundw
      case rel => exact ⟨t + 1, by omega, by go_num, HNX⟩
      case measure => simp [intOf] <;> omega
    · have q1 : (T.length : Int) ≤ (t : Int) := by omega
      have et : t = T.length := by omega
      subst et
      go_upto_if 17 with fail
      refine wp_cond_false rfl ?_
      refine wp_exit ?_
      refine ‹∀ a w, Code.wp Tryd.prog _ _ a w → _› _ _ ?_
      refine kpLast c3 HQ.out.hs hrow hro (by omega) (by omega) (by have := HQ.out.oth 4 (by omega); rw [this]; omega) (by omega) ?_
      intro z0 z1 z2 z3 z4 z5 z6 z7 z8 z9 z10 z11 z12 z13 z14 z15 z16 z17 z18 z19 z20 z21 z22 z23 z24 z25 z26 z27 z28 z29 z30 z31 z32 z33 z34 z35 z36 z37 z38 z39 z40 z41 z42 z43 z44 z45 z46 z47 z48 z49 z50 z51 z52 z53 z54 z55 z56 z57 z58 z59 z60 z61 z62 z63 z64 z65 z66 z67 z68 z69 z70 z71 z72 z73 z74 z75 z76 z77 z78 z79 z80 z81 z82 z83 z84 z85 z86 z87 z88 z89 z90 z91 z92 z93 z94 z95 z96 z97 z98 z99 z100 z101 z102 z103 z104 z105 z106 z107 z108 z109 z110 z111 z112 w3 hh
      have HF : Hid (∃ who' f' K', HsK B w3 b who' (n + T.length + 1) f' K' ∧ Fr w w3 who who' (fun g => (Value.slice t1 T.length t3).ownBlock = some g ∨ ∃ x ∈ T, x.1.ownBlock = some g) ∧ (∀ o, o < 5 → f' o = f o) ∧ (K' 3).length = (K 3).length + 4 * T.length ∧ (K' 4).length = (K 4).length + 4 ∧ ∀ c, c ≠ 3 → c ≠ 4 → K' c = K c) := by
        obtain ⟨who3, f3, K3, h1, h2⟩ := hh
        refine ⟨who3, f3, K3, h1, ?_, fun o ho' => (h2.lent o ho').trans (HQ.out.lent o ho'), ?_, ?_, fun c hc3 hc4 => (h2.oth c hc4).trans (HQ.out.oth c hc3)⟩
        · refine (((Fr.grown HG1.out).trans (HQ.out.fr.mono (fun g ⟨x, hx, e⟩ => ?_))).trans (h2.fr.mono (fun g e => Or.inl e)))
          exact Or.inr ⟨x, List.mem_of_mem_take hx, e⟩
        · rw [h2.oth 3 (by omega)]; exact HQ.out.len
        · rw [h2.len, HQ.out.oth 4 (by omega)]
      clear hh
      go_end0
      exact ⟨⟨_, rfl⟩, HF.out⟩

end Go.Proofs.YtklenjmfalljgaaDoor

/- What was lent: the rows that tell it, the lists themselves. -/
namespace Go.Proofs.YtklenjmfalljgaaDoor
open Go.RowKit

def tR : Nat → TypeId
  | 0 => 22
  | 1 => 22
  | 2 => 29
  | 3 => 29
  | _ => 23

/-- The five rows that tell what was lent. -/
structure Lr (B : Nat) (w : World) (who : Nat → Role) (f : Nat → Value) (E : Nat → List Value) : Prop where
  r : ∀ k, k < 5 → w.ownsRow B (tR k) 1 (f k) (E k).length (E k)
  wr : ∀ k, k < 5 → ∀ g, (f k).ownBlock = some g → who g = .lrow k

def setE (E : Nat → List Value) (k : Nat) (l : List Value) : Nat → List Value := fun j => if j = k then l else E j
theorem setE_at (E : Nat → List Value) (k : Nat) (l : List Value) : setE E k l k = l := by simp [setE]
theorem setE_ne (E : Nat → List Value) {k j : Nat} (l : List Value) (h : j ≠ k) : setE E k l j = E j := by simp [setE, h]

section
variable {B : Nat} {w w6 w' : World} {b : Nat} {who who' : Nat → Role} {n : Int} {f : Nat → Value} {K : Nat → List (Value × Int)} {M : Nat → List Int} {E : Nat → List Value}

theorem Lr.same (h : Lr B w who f E) (hb : ∀ g k, who g = .lrow k → w'.heap[g]? = w.heap[g]?) : Lr B w' who f E :=
  ⟨fun k hk => owns_same (h.r k hk) (fun g e => hb g k (h.wr k hk g e)), h.wr⟩
theorem Lr.grown (h : Lr B w who f E) (hg : w.grownBy w' none) : Lr B w' who f E :=
  ⟨fun k hk => owns_same (h.r k hk) (fun g e => hg.block g (owns_ltH (h.r k hk) g e) (by simp)), h.wr⟩
theorem Lr.more (h : Lr B w who f E) (hw : ∀ g, who g ≠ .other → who' g = who g) : Lr B w who' f E :=
  ⟨h.r, fun k hk g e => by have := h.wr k hk g e; rw [hw g (by rw [this]; simp), this]⟩

/-- h.x = append(h.x, v), x a row of what was lent. -/
theorem Lr.push (h : Lr B w who f E) (hs : Hs B w b who n f K M) {k : Nat} (hk : k < 5) {v : Value} {o : Obj} {g6 c6 : Nat}
    (hown : w6.ownsRow B (tR k) 1 (.slice (some ⟨g6, 0, none⟩) ((E k).length + 1) c6) ((E k).length + 1) (E k ++ [v]))
    (key : ((f k).ownBlock = some g6 ∧ (w.alloc o).grownBy w6 (some g6)) ∨ (g6 = w.heap.size + 1 ∧ (w.alloc o).grownBy w6 none)) :
    HB w6 b f ∧ Hs B (w6.setCell ⟨b, k, none⟩ (.slice (some ⟨g6, 0, none⟩) ((E k).length + 1) c6)) b (setW who g6 (.lrow k)) n (setF f k (.slice (some ⟨g6, 0, none⟩) ((E k).length + 1) c6)) K M ∧
    Lr B (w6.setCell ⟨b, k, none⟩ (.slice (some ⟨g6, 0, none⟩) ((E k).length + 1) c6)) (setW who g6 (.lrow k)) (setF f k (.slice (some ⟨g6, 0, none⟩) ((E k).length + 1) c6)) (setE E k (E k ++ [v])) ∧
    Fr w (w6.setCell ⟨b, k, none⟩ (.slice (some ⟨g6, 0, none⟩) ((E k).length + 1) c6)) who (setW who g6 (.lrow k)) (fun _ => False) ∧
    (∀ g, who g = .lent → (w6.setCell ⟨b, k, none⟩ (.slice (some ⟨g6, 0, none⟩) ((E k).length + 1) c6)).heap[g]? = w.heap[g]? ∧ setW who g6 (.lrow k) g = .lent) ∧ (∀ g, who g ≠ .other → setW who g6 (.lrow k) g = who g) := by
  obtain ⟨hsz, hst, hsr, h6r⟩ := key_stays key (fun g e => (hs.dom g e).2) (r := .lrow k) (by simp) (h.wr k hk)
  have hb6 : g6 ≠ b := (hst b (by rw [hs.wb]; simp) (by rw [hs.wb]; simp)).2
  have hblk : HB w6 b f := hs.blk.same (hst b (by rw [hs.wb]; simp) (by rw [hs.wb]; simp)).1
  have hsame6 : Hs B w6 b who n f K M := hs.same hsz (fun g _ h2 h3 => (hst g h2 (fun e => by rw [e] at h3; cases h3)).1)
  have hW : ∀ g, who g ≠ .other → setW who g6 (.lrow k) g = who g := fun g h1 => by
    by_cases e : g = g6
    · subst e; rw [setW_at]; exact (h6r (hs.dom g h1).2).symm
    · exact setW_ne _ _ e
  have hs2 : Hs B w6 b (setW who g6 (.lrow k)) n f K M := hsame6.more hW (fun g e => by
    by_cases e2 : g = g6
    · subst e2; exact ⟨owns_block hown g rfl, owns_ltH hown g rfl⟩
    · rw [setW_ne _ _ e2] at e; have := hs.dom g e; exact ⟨this.1, by omega⟩)
  have hfr : Fr w w6 who (setW who g6 (.lrow k)) (fun _ => False) := Fr.key (fun g e => by rw [h.wr k hk g e]; simp) key
  generalize hV : Value.slice (some ⟨g6, 0, none⟩) ((E k).length + 1) c6 = V at *
  have hVo : V.ownBlock = some g6 := by rw [← hV]; rfl
  have hwb2 : setW who g6 (.lrow k) b = .hands := hs2.wb
  refine ⟨hblk, hs2.setLent hk V, ⟨fun j hj => ?_, fun j hj g e => ?_⟩, hfr.trans (Fr.set (Or.inl (by rw [hwb2]; simp))), fun g e => ⟨?_, by rw [hW g (by rw [e]; simp)]; exact e⟩, hW⟩
  · by_cases e : j = k
    · subst e
      rw [setF_at, setE_at]
      have := ownsRow_setCell_other (a := ⟨b, j, none⟩) hown (show V.ownBlock ≠ some b by rw [hVo]; simpa using hb6) V
      simpa using this
    · rw [setF_ne _ _ e, setE_ne _ _ e]
      refine owns_same (h.r j hj) (fun g e2 => ?_)
      have hg := h.wr j hj g e2
      rw [Below.heap_setCell _ _ _ _ (fun e3 => by simp only at e3; subst e3; rw [hs.wb] at hg; cases hg)]
      exact (hst g (by rw [hg]; simp) (by rw [hg]; simpa using e)).1
  · by_cases e2 : j = k
    · subst e2
      rw [setF_at, hVo] at e
      simp only [Option.some.injEq] at e
      subst e
      exact setW_at _ _ _
    · rw [setF_ne _ _ e2] at e
      have hg := h.wr j hj g e
      rw [hW g (by rw [hg]; simp), hg]
  · rw [Below.heap_setCell _ _ _ _ (fun e3 => by simp only at e3; subst e3; rw [hs.wb] at e; cases e)]
    exact (hst g (by rw [e]; simp) (by rw [e]; simp)).1
end

def sl2 (g n : Nat) : Value := .slice (some ⟨g, 0, none⟩) (n + 2) (n + 2)
def insInk : List Value := [.int .i64 (-77000000), .int .i64 0, .int .i64 0, .int .i64 0]
def insL (i : Ins) : List Value := [.int .i64 i.op, .int .i64 i.a, .int .i64 i.b, .int .i64 i.n]
def lentCode (c : List Ins) : Array Value := (c.flatMap insL ++ (insInk ++ insInk)).toArray
def slC (x : Nat × List Ins × Value) : Value := .slice (some ⟨x.1, 0, none⟩) x.2.1.length (x.2.1.length + 2)
def lentRows (l : List (Nat × List Ins × Value)) : Array Value := (l.map slC ++ [Value.slice none 0 0, Value.slice none 0 0]).toArray

/-- A value whose memory is others'. -/
def valOther (who : Nat → Role) (v : Value) : Prop := ∀ g o l c, v = .slice (some ⟨g, o, none⟩) l c → 0 < l → who g = .other

/-- The lists that were lent: numbers, code, rows of code (so many of each); tail: so much code is in no row yet. -/
structure Le (w : World) (who : Nat → Role) (LI : List (Nat × List Int × Value)) (LC : List (Nat × List Ins × Value)) (LR : List (Nat × Nat)) (tail : Nat) : Prop where
  li : ∀ x ∈ LI, w.heap[x.1]? = some (.cells (lentRow x.2.1) 3 (0, 0)) ∧ who x.1 = .lent ∧ IntsAt w.heap.size w x.2.2 x.2.1 ∧ valOther who x.2.2 ∧ x.2.1.length ≤ 17592186043904
  lc : ∀ x ∈ LC, w.heap[x.1]? = some (.cells (lentCode x.2.1) 28 (0, 0)) ∧ who x.1 = .lent ∧ CodeAt w x.2.2 x.2.1 ∧ valOther who x.2.2 ∧ x.2.1.length ≤ 4398046510976
  lr : ∀ j (hj : j < LR.length), w.heap[LR[j].1]? = some (.cells (lentRows ((LC.drop ((LR.take j).map (·.2)).sum).take LR[j].2)) 29 (0, 0)) ∧ who LR[j].1 = .lent ∧ LR[j].2 ≤ 5864062014634
  sum : (LR.map (·.2)).sum + tail = LC.length
  nd : (LI.map (·.1) ++ (LC.map (·.1) ++ LR.map (·.1))).Nodup

theorem valOther.mono {who who' : Nat → Role} {v : Value} (h : valOther who v) (hw : ∀ g, who g = .other → ∀ o l c, v = .slice (some ⟨g, o, none⟩) l c → 0 < l → who' g = .other) : valOther who' v := fun g o l c e hl => hw g (h g o l c e hl) o l c e hl

theorem ints_oth {w w' : World} {who : Nat → Role} {v : Value} {l : List Int} (h : IntsAt w.heap.size w v l) (hv : valOther who v) (hs : w.heap.size ≤ w'.heap.size) (hb : ∀ g, g < w.heap.size → who g = .other → w'.heap[g]? = w.heap[g]?) : IntsAt w'.heap.size w' v l := by
  obtain ⟨ao, cap, rfl, h1, h2⟩ := h
  refine ⟨ao, cap, rfl, h1, fun k hk => ?_⟩
  obtain ⟨g, o, rfl, e2, e3⟩ := h2 k hk
  exact ⟨g, o, rfl, by omega, by rw [World.cell?_of_block (hb g e2 (hv g o _ _ rfl (by omega)))]; exact e3⟩
theorem code_oth {w w' : World} {who : Nat → Role} {v : Value} {c : List Ins} (h : CodeAt w v c) (hv : valOther who v) (hb : ∀ g, g < w.heap.size → who g = .other → w'.heap[g]? = w.heap[g]?) : CodeAt w' v c := by
  obtain ⟨ao, cap, rfl, h2⟩ := h
  refine ⟨ao, cap, rfl, fun k hk => ?_⟩
  obtain ⟨g, o, rfl, e2, e3, e4, e5⟩ := h2 k hk
  have hg : w'.heap[g]? = w.heap[g]? := hb g (World.block_lt_of_cell? w _ e2) (hv g o _ _ rfl (by omega))
  exact ⟨g, o, rfl, by rw [World.cell?_of_block hg]; exact e2, by rw [World.cell?_of_block hg]; exact e3, by rw [World.cell?_of_block hg]; exact e4, by rw [World.cell?_of_block hg]; exact e5⟩

section
variable {w w' : World} {who who' : Nat → Role} {LI : List (Nat × List Int × Value)} {LC : List (Nat × List Ins × Value)} {LR : List (Nat × Nat)} {tail : Nat}
/-- What leaves others' blocks and those that were lent. -/
theorem Le.keep (h : Le w who LI LC LR tail) (hf : Fr w w' who who' (fun _ => False)) (hl : ∀ g, who g = .lent → w'.heap[g]? = w.heap[g]? ∧ who' g = .lent) : Le w' who' LI LC LR tail := by
  have ho : ∀ g, g < w.heap.size → who g = .other → w'.heap[g]? = w.heap[g]? := fun g h1 h2 => (hf.oth g h1 h2 (fun e => e)).1
  refine ⟨fun x hx => ?_, fun x hx => ?_, fun j hj => ?_, h.sum, h.nd⟩
  · obtain ⟨a, b, c, d, e⟩ := h.li x hx
    refine ⟨by rw [(hl _ b).1]; exact a, (hl _ b).2, ints_oth c d hf.size ho, ?_, e⟩
    obtain ⟨ao, cap, ev, h1, h2⟩ := c
    intro g o l cc e2 hz
    have hgo := d g o l cc e2 hz
    rw [ev] at e2
    simp only [Value.slice.injEq] at e2
    obtain ⟨g', o', e3, e4, _⟩ := h2 0 (by omega)
    rw [e3] at e2
    simp only [Option.some.injEq, Addr.mk.injEq, and_true] at e2
    obtain ⟨⟨rfl, _⟩, _⟩ := e2
    exact (hf.oth _ e4 hgo (fun e => e)).2
  · obtain ⟨a, b, c, d, e⟩ := h.lc x hx
    refine ⟨by rw [(hl _ b).1]; exact a, (hl _ b).2, code_oth c d ho, ?_, e⟩
    obtain ⟨ao, cap, ev, h2⟩ := c
    intro g o l cc e2 hz
    have hgo := d g o l cc e2 hz
    rw [ev] at e2
    simp only [Value.slice.injEq] at e2
    obtain ⟨g', o', e3, e4, _⟩ := h2 0 (by omega)
    rw [e3] at e2
    simp only [Option.some.injEq, Addr.mk.injEq, and_true] at e2
    obtain ⟨⟨rfl, _⟩, _⟩ := e2
    exact (hf.oth _ (World.block_lt_of_cell? w _ e4) hgo (fun e => e)).2
  · obtain ⟨a, b, c⟩ := h.lr j hj
    exact ⟨by rw [(hl _ b).1]; exact a, (hl _ b).2, c⟩
end

def EL (LI : List (Nat × List Int × Value)) (LC : List (Nat × List Ins × Value)) (LR : List (Nat × Nat)) : Nat → List Value
  | 0 => LI.map fun x => sl2 x.1 x.2.1.length
  | 1 => LI.map fun x => x.2.2
  | 2 => LC.map fun x => sl2 x.1 x.2.1.length
  | 3 => LC.map fun x => x.2.2
  | 4 => LR.map fun x => sl2 x.1 x.2
  | _ => []

/-- The hands, with what they lent. -/
structure Lx (B : Nat) (w : World) (b : Nat) (who : Nat → Role) (n : Int) (f : Nat → Value) (K : Nat → List (Value × Int)) (E : Nat → List Value) (LI : List (Nat × List Int × Value)) (LC : List (Nat × List Ins × Value)) (LR : List (Nat × Nat)) (tail : Nat) : Prop where
  hs : HsK B w b who n f K
  lr : Lr B w who f E
  le : Le w who LI LC LR tail

section
variable {B : Nat} {w w6 w' : World} {b : Nat} {who who' : Nat → Role} {n : Int} {f : Nat → Value} {K : Nat → List (Value × Int)} {E : Nat → List Value} {LI : List (Nat × List Int × Value)} {LC : List (Nat × List Ins × Value)} {LR : List (Nat × Nat)} {tail : Nat}

theorem Lx.cell (h : Lx B w b who n f K E LI LC LR tail) {o : Nat} (ho : o < 16) : w.cell? ⟨b, o, none⟩ = some (f o) := h.hs.1.blk.cell ho
theorem Lx.low (h : Lx B w b who n f K E LI LC LR tail) : B ≤ b ∧ b < w.heap.size := h.hs.1.dom b (by rw [h.hs.1.wb]; simp)
theorem Le.lt (h : Le w who LI LC LR tail) : ∀ g ∈ LI.map (·.1) ++ (LC.map (·.1) ++ LR.map (·.1)), g < w.heap.size ∧ who g = .lent := by
  intro g hg
  rcases List.mem_append.1 hg with hg | hg
  · obtain ⟨x, hx, rfl⟩ := List.mem_map.1 hg
    obtain ⟨a, b, _⟩ := h.li x hx
    exact ⟨(Array.getElem?_eq_some_iff.1 a).1, b⟩
  · rcases List.mem_append.1 hg with hg | hg
    · obtain ⟨x, hx, rfl⟩ := List.mem_map.1 hg
      obtain ⟨a, b, _⟩ := h.lc x hx
      exact ⟨(Array.getElem?_eq_some_iff.1 a).1, b⟩
    · obtain ⟨x, hx, rfl⟩ := List.mem_map.1 hg
      obtain ⟨j, hj, rfl⟩ := List.getElem_of_mem hx
      obtain ⟨a, b, _⟩ := h.lr j hj
      exact ⟨(Array.getElem?_eq_some_iff.1 a).1, b⟩

theorem Lx.grown (h : Lx B w b who n f K E LI LC LR tail) (hg : w.grownBy w' none) : Lx B w' b who n f K E LI LC LR tail :=
  ⟨h.hs.grown hg, h.lr.grown hg, h.le.keep (Fr.grown hg) (fun g e => ⟨hg.block g (h.hs.1.dom g (by rw [e]; simp)).2 (by simp), e⟩)⟩

/-- A new block is to be lent. -/
theorem Lx.new (h : Lx B w b who n f K E LI LC LR tail) (hg : w.grownBy w' none) {g : Nat} (hlo : w.heap.size ≤ g) (hhi : g < w'.heap.size) : Lx B w' b (setW who g .lent) n f K E LI LC LR tail ∧ Fr w w' who (setW who g .lent) (fun _ => False) := by
  have hne : ∀ g', who g' ≠ .other → setW who g .lent g' = who g' := fun g' e => setW_ne _ _ (fun e2 => by subst e2; have := (h.hs.1.dom g' e).2; omega)
  have h' := h.grown hg
  have hb := h.low
  refine ⟨⟨⟨h'.hs.1.more hne (fun g' e => ?_), fun c hc x hx g' e => ?_⟩, h'.lr.more hne, ?_⟩, Fr.setW (Fr.grown hg) (Or.inl hlo)⟩
  · by_cases e2 : g' = g
    · subst e2; exact ⟨by omega, hhi⟩
    · rw [setW_ne _ _ e2] at e; exact h'.hs.1.dom g' e
  · have := h.hs.2 c hc x hx g' e
    rw [hne g' (by rw [this]; simp), this]
  · exact h.le.keep (Fr.setW (Fr.grown hg) (Or.inl hlo)) (fun g' e => ⟨hg.block g' (h.hs.1.dom g' (by rw [e]; simp)).2 (by simp), by rw [hne g' (by rw [e]; simp)]; exact e⟩)

theorem Lx.push (h : Lx B w b who n f K E LI LC LR tail) {k : Nat} (hk : k < 5) {v : Value} {o : Obj} {g6 c6 : Nat}
    (hown : w6.ownsRow B (tR k) 1 (.slice (some ⟨g6, 0, none⟩) ((E k).length + 1) c6) ((E k).length + 1) (E k ++ [v]))
    (key : ((f k).ownBlock = some g6 ∧ (w.alloc o).grownBy w6 (some g6)) ∨ (g6 = w.heap.size + 1 ∧ (w.alloc o).grownBy w6 none)) :
    HB w6 b f ∧ ∃ who' f', Lx B (w6.setCell ⟨b, k, none⟩ (.slice (some ⟨g6, 0, none⟩) ((E k).length + 1) c6)) b who' n f' K (setE E k (E k ++ [v])) LI LC LR tail ∧
      Fr w (w6.setCell ⟨b, k, none⟩ (.slice (some ⟨g6, 0, none⟩) ((E k).length + 1) c6)) who who' (fun _ => False) ∧ (∀ j, j ≠ k → f' j = f j) ∧ (∀ g, who g = .lent → (w6.setCell ⟨b, k, none⟩ (.slice (some ⟨g6, 0, none⟩) ((E k).length + 1) c6)).heap[g]? = w.heap[g]? ∧ who' g = .lent) := by
  obtain ⟨h1, h2, h3, h4, h5, h6⟩ := h.lr.push h.hs.1 hk hown key
  refine ⟨h1, _, _, ⟨⟨h2, fun c hc x hx g e => ?_⟩, h3, h.le.keep h4 h5⟩, h4, fun j hj => setF_ne _ _ hj, h5⟩
  have := h.hs.2 c hc x hx g e
  rw [h6 g (by rw [this]; simp), this]

theorem Le.addInts (h : Le w who LI LC LR tail) {g : Nat} {l : List Int} {lv : Value} (hb : w.heap[g]? = some (.cells (lentRow l) 3 (0, 0))) (hw : who g = .lent) (hI : IntsAt w.heap.size w lv l) (hv : valOther who lv) (hl : l.length ≤ 17592186043904)
    (hn : g ∉ LI.map (·.1) ++ (LC.map (·.1) ++ LR.map (·.1))) : Le w who (LI ++ [(g, l, lv)]) LC LR tail := by
  refine ⟨fun x hx => ?_, h.lc, h.lr, h.sum, ?_⟩
  · rcases List.mem_append.1 hx with hx | hx
    · exact h.li x hx
    · simp at hx; subst hx; exact ⟨hb, hw, hI, hv, hl⟩
  · have := h.nd
    simp only [List.map_append, List.map_cons, List.map_nil, List.append_assoc, List.singleton_append]
    rw [List.nodup_append] at this ⊢
    obtain ⟨a1, a2, a3⟩ := this
    simp only [List.mem_append, not_or] at hn
    refine ⟨a1, ?_, ?_⟩
    · rw [List.nodup_cons]
      exact ⟨by simp only [List.mem_append, not_or]; exact ⟨hn.2.1, hn.2.2⟩, a2⟩
    · intro x hx y hy
      rcases List.mem_cons.1 hy with rfl | hy
      · intro e; subst e; exact hn.1 hx
      · exact a3 x hx y hy
theorem EL_ints (LI : List (Nat × List Int × Value)) (LC : List (Nat × List Ins × Value)) (LR : List (Nat × Nat)) (g : Nat) (l : List Int) (lv : Value) :
    setE (setE (EL LI LC LR) 0 (EL LI LC LR 0 ++ [sl2 g l.length])) 1 (setE (EL LI LC LR) 0 (EL LI LC LR 0 ++ [sl2 g l.length]) 1 ++ [lv]) = EL (LI ++ [(g, l, lv)]) LC LR := by
  funext k
  match k with
  | 0 => simp [setE, EL]
  | 1 => simp [setE, EL]
  | 2 => simp [setE, EL]
  | 3 => simp [setE, EL]
  | 4 => simp [setE, EL]
  | k + 5 => simp [setE, EL]
end

end Go.Proofs.YtklenjmfalljgaaDoor

/- The walk of the hands' schedule, whole. -/
namespace Go.Proofs.YtklenjmfalljgaaDoor
open Go.RowKit
attribute [local go_sem] Go.World.cell?_alloc_some

theorem int_keeps {w w' : World} {who who' : Nat → Role} {v : Value} {l : List Int} (h : IntsAt w.heap.size w v l) (hv : valOther who v) (hf : Fr w w' who who' (fun _ => False)) : IntsAt w'.heap.size w' v l ∧ valOther who' v := by
  refine ⟨ints_oth h hv hf.size (fun g h1 h2 => (hf.oth g h1 h2 (fun e => e)).1), hv.mono (fun g e o l' c' e2 hl' => ?_)⟩
  obtain ⟨ao', cap', e4, _, h5⟩ := h
  rw [e4] at e2
  simp only [Value.slice.injEq] at e2
  obtain ⟨g', o', e5, e6, _⟩ := h5 0 (by omega)
  rw [e2.1] at e5
  simp only [Option.some.injEq, Addr.mk.injEq, and_true] at e5
  exact (hf.oth g (by omega) e (fun e => e)).2

set_option maxRecDepth 100000 in
set_option maxHeartbeats 1000000 in
theorem schedule_g (B : Nat) (w : World) (b : Nat) (who : Nat → Role) (n : Int) (f : Nat → Value) (K : Nat → List (Value × Int)) (LI : List (Nat × List Int × Value)) (LC : List (Nat × List Ins × Value)) (LR : List (Nat × Nat)) (tail : Nat) (lv : Value) (l : List Int)
    (h : Lx B w b who n f K (EL LI LC LR) LI LC LR tail) (hI : IntsAt w.heap.size w lv l) (hvo : valOther who lv) (hln : l.length ≤ 17592186043904) (hLI : LI.length ≤ 1000) :
    Calls Tryd.prog 45 #[pt b, lv] w fun e w' => ∃ g who' f', e = .returned (.slice (some ⟨g, 0, none⟩) l.length (l.length + 2)) ∧ Lx B w' b who' n f' K (EL (LI ++ [(g, l, lv)]) LC LR) (LI ++ [(g, l, lv)]) LC LR tail ∧ Fr w w' who who' (fun _ => False) := by
  obtain ⟨i0, hi0, hz0, hz1, hz2⟩ := info_parts info_int
  obtain ⟨i1, hi1, hy0, hy1, hy2⟩ := info_parts info_ints
  have HH := hide h
  have HI := hide hI
  have HV := hide hvo
  have hb := h.low
  obtain ⟨ao, cap, rfl⟩ := hI.form
  have hpt : pt b = .pointer (some ⟨b, 0, none⟩) := rfl
  rw [hpt]
  clear h hI hpt hvo
  have q0 : (l.length : Int) ≤ 17592186043904 := by omega
  have q1 : (0 : Int) ≤ (l.length : Int) := by omega
  have hsz1 : (Tryd.prog.info? 3).map (·.size) = some 1 := by rw [hi0]; simp [hz1]
  go_enter Tryd.func45, Tryd.ntmps45
  go_upto_region 3 with (at_make; refine wpList_make_full _ rfl _ _ _ rfl w.heap.size 3 i0 _ 1 Tryd.underlying22 hi0 hz0 hz1 .i64 .i64 _ _ (l.length + 2) rfl rfl (by simp) (by simp) (by rw [hz2]; omega) (by unfold maxLen; omega) (by simp) ?_; intro w2 hown2 hg2)
  have hrow2 : ∃ cur, w2.heap[w.heap.size]? = some (.cells cur 3 (0, 0)) ∧ cur.size = l.length + 2 := by
    rcases hown2.2 with ⟨e, _⟩ | ⟨g', cap', cur, hv, _, hh, _, _, hcs, _⟩
    · cases e
    · simp only [Value.slice.injEq, Option.some.injEq, Addr.mk.injEq, true_and, and_true] at hv
      obtain ⟨rfl, rfl⟩ := hv
      exact ⟨cur, hh, by simpa using hcs⟩
  obtain ⟨cur, hcur, hcsz⟩ := hrow2
  have HG2 := hide hg2
  have HI2 : Hid (IntsAt w2.heap.size w2 (.slice ao l.length cap) l) := (HI.out.pres (pres_grown hg2)).mono hg2.size
  have HCUR := hide hcur
  clear hown2 hg2 hcur
  obtain ⟨w3, hrun, hrow3, hg3⟩ := run_copy_ints w2 22 3 3 Tryd.underlying22 hsz1 w.heap.size (l.length + 2) (l.length + 2) (.slice ao l.length cap) w2.heap.size l HI2.out cur 3 HCUR.out (by omega) (by omega)
  go_upto_region 4 with fail
  clear hrun
  have HG3 : Hid (w.grownBy w3 none) := ⟨hg3.os.trans HG2.out.os, hg3.tape.trans HG2.out.tape, hg3.output.trans HG2.out.output, Nat.le_trans HG2.out.size hg3.size, fun k hk _ => by
    rw [hg3.block k (Nat.lt_of_lt_of_le hk HG2.out.size) (by simp; omega)]; exact HG2.out.block k hk (by simp)⟩
  have hs3 : w.heap.size < w3.heap.size := (Array.getElem?_eq_some_iff.1 hrow3).1
  obtain ⟨R, hR⟩ : ∃ R : Array Value, R = (ints l ++ cur.toList.drop l.length).toArray := ⟨_, rfl⟩
  rw [← hR] at hrow3
  have hRs : R.size = l.length + 2 := by rw [hR]; simp [ints_len]; omega
  have HRI : Hid ((R.setIfInBounds l.length ink).setIfInBounds (l.length + 1) ink = lentRow l) := by unfold Hid; rw [hR]; exact row_ink l cur hcsz
  have hrow4 := heap_setCell_same w3 w.heap.size l.length R 3 ink hrow3
  have hrow5 := heap_setCell_same _ w.heap.size (l.length + 1) _ 3 ink hrow4
  rw [HRI.out] at hrow5
  have d0 : ∃ u, w3.cell? ⟨w.heap.size, l.length, none⟩ = some u := by
    refine ⟨R[l.length]'(by omega), ?_⟩
    simp [World.cell?, hrow3]
  have d1 : ∃ u, (w3.setCell ⟨w.heap.size, l.length, none⟩ ink).cell? ⟨w.heap.size, l.length + 1, none⟩ = some u := by
    refine ⟨(R.setIfInBounds l.length ink)[l.length + 1]'(by simp; omega), ?_⟩
    simp only [World.cell?, hrow4]
    exact Array.getElem?_eq_getElem _
  obtain ⟨u0, d0⟩ := d0
  obtain ⟨u1, d1⟩ := d1
  have f0 : w3.frozen? ⟨w.heap.size, l.length, none⟩ = false := by simp [World.frozen?, hrow3]
  have f1 : (w3.setCell ⟨w.heap.size, l.length, none⟩ ink).frozen? ⟨w.heap.size, l.length + 1, none⟩ = false := by simp [World.frozen?, hrow4]
  obtain ⟨w5, hw5⟩ : ∃ w5, w5 = (w3.setCell ⟨w.heap.size, l.length, none⟩ ink).setCell ⟨w.heap.size, l.length + 1, none⟩ ink := ⟨_, rfl⟩
  have hG5 : w.grownBy w5 none := by rw [hw5]; exact grown_setNew (grown_setNew HG3.out (Nat.le_refl _)) (Nat.le_refl _)
  have HR5 : Hid (w5.heap[w.heap.size]? = some (.cells (lentRow l) 3 (0, 0))) := by rw [hw5]; exact hrow5
  have hs5 : w.heap.size < w5.heap.size := by rw [hw5]; simpa using hs3
  have hink : ink = .int .i64 (-77000000) := rfl
  rw [hink] at hw5 d1 f1
  have HW5 := hide hw5
  obtain ⟨hx5, hf5⟩ := HH.out.new hG5 (Nat.le_refl _) hs5
  have HNI : Hid (w.heap.size ∉ LI.map (·.1) ++ (LC.map (·.1) ++ LR.map (·.1))) := fun e => by have := (HH.out.le.lt _ e).1; omega
  have HI5 : Hid (IntsAt w5.heap.size w5 (.slice ao l.length cap) l) := (HI.out.pres (pres_grown hG5)).mono hG5.size
  have HV5 : Hid (valOther (setW who w.heap.size .lent) (.slice ao l.length cap)) := by
    refine HV.out.mono (fun g e o l' c' e2 hl' => ?_)
    rw [setW_ne]
    · exact e
    · intro e3
      subst e3
      obtain ⟨ao', cap', e4, _, h5⟩ := HI.out
      simp only [Value.slice.injEq] at e2 e4
      obtain ⟨g', o', e5, e6, _⟩ := h5 0 (by omega)
      rw [← e4.1, e2.1] at e5
      simp only [Option.some.injEq, Addr.mk.injEq, and_true] at e5
      omega
  have HX5 := hide hx5
  have HF5 := hide hf5
  have HW : Hid (setW who w.heap.size .lent w.heap.size = .lent) := setW_at _ _ _
  have HEE := hide (EL_ints LI LC LR w.heap.size l (.slice ao l.length cap))
  have hE0 : (EL LI LC LR 0).length ≤ 1000 := by simp only [EL, List.length_map]; exact hLI
  have hE1 : (EL LI LC LR 1).length ≤ 1000 := by simp only [EL, List.length_map]; exact hLI
  clear hrow3 hg3 hR hrow4 hrow5 hw5 hx5 hf5 hG5 HI HV HH
  generalize setW who w.heap.size .lent = who5 at *
  generalize EL LI LC LR = E at *
  generalize hg0 : w.heap.size = g0 at *
  have HG0 := hide hg0
  clear hg0
  go_upto_region 6 with fail
  rw [← HW5.out]
  clear HW5 d0 d1 f0 f1
  have rO : w5.ownsRow B 22 1 (f 0) (E 0).length (E 0) := HX5.out.lr.r 0 (by omega)
  have c0 : w5.cell? ⟨b, 0, none⟩ = some (f 0) := HX5.out.cell (by omega)
  obtain ⟨o1, o2, o3, eO⟩ := owns_form rO
  rw [eO] at rO c0
  have ho2 := owns_lenq rO
  subst ho2
  have HPU : Hid (∀ {o : Obj} {g6 c6 : Nat} {w6 : World}, w6.ownsRow B 22 1 (.slice (some ⟨g6, 0, none⟩) ((E 0).length + 1) c6) ((E 0).length + 1) (E 0 ++ [sl2 g0 l.length]) →
      (((Value.slice o1 (E 0).length o3).ownBlock = some g6 ∧ (w5.alloc o).grownBy w6 (some g6)) ∨ (g6 = w5.heap.size + 1 ∧ (w5.alloc o).grownBy w6 none)) →
      HB w6 b f ∧ ∃ who' f', Lx B (w6.setCell ⟨b, 0, none⟩ (.slice (some ⟨g6, 0, none⟩) ((E 0).length + 1) c6)) b who' n f' K (setE E 0 (E 0 ++ [sl2 g0 l.length])) LI LC LR tail ∧
      Fr w5 (w6.setCell ⟨b, 0, none⟩ (.slice (some ⟨g6, 0, none⟩) ((E 0).length + 1) c6)) who5 who' (fun _ => False) ∧ (∀ j, j ≠ 0 → f' j = f j) ∧ (∀ g, who5 g = .lent → (w6.setCell ⟨b, 0, none⟩ (.slice (some ⟨g6, 0, none⟩) ((E 0).length + 1) c6)).heap[g]? = w5.heap[g]? ∧ who' g = .lent)) := by
    intro o g6 c6 w6 hown key
    rw [← eO] at key
    exact HX5.out.push (by omega) hown key
  have hbase : B ≤ w5.heap.size := by have := HX5.out.low; omega
  have HRO := hide rO
  have HEO := hide eO
  have h63a : (E 0).length + 1 ≤ maxLen := by unfold maxLen; omega
  have h63b : (E 1).length + 1 ≤ maxLen := by unfold maxLen; omega
  clear rO eO
  have HE1 : Hid (setE E 0 (E 0 ++ [sl2 g0 l.length]) 1 = E 1) := setE_ne _ _ (by omega)
  generalize hN0 : (E 0).length = N0 at *
  generalize hL0 : E 0 = L0 at *
  clear hN0 hL0
  go_upto_region 7 with (at_builtin; go_must (refine wpList_append_keeps rfl _ _ _ rfl B 22 i1 _ 1 24 Tryd.underlying41 hi1 hy0 hy1 hy2 rfl (by omega) (.slice o1 N0 o3) N0 L0 rfl (owns_alloc HRO.out) ⟨w5.heap.size, 0, none⟩ 1 1 [sl2 g0 l.length] rfl rfl (World.news_of_block (cs := #[.slice (some ⟨g0, 0, none⟩) (l.length + 2) (l.length + 2)]) (t := 22) (fr := (0, 0)) (heap_alloc_new w5 _)) (by simp [sl2, Value.oneCell']) (by omega) h63a (by omega) (by simp; omega) (w5.heap.size + 1) (by simp) ?_); intro g8 cap8 w8 hown8 key8 hlt8; have hb8 := (HPU.out hown8 key8).1; have p6 : w8.cell? ⟨b, 0, none⟩ = some (.slice o1 N0 o3) := (by rw [hb8.cell (by omega), HEO.out]); have p7 := hb8.frozen 0)
  obtain ⟨_, who9, f9, hx9, hf9, hj9, hl9⟩ := HPU.out hown8 key8
  generalize w8.setCell ⟨b, 0, none⟩ (.slice (some ⟨g8, 0, none⟩) (N0 + 1) cap8) = w9 at *
  generalize setE E 0 (L0 ++ [sl2 g0 l.length]) = E9 at *
  rw [← HE1.out] at hE1 h63b
  have rM : w9.ownsRow B 22 1 (f9 1) (E9 1).length (E9 1) := hx9.lr.r 1 (by omega)
  have c1 : w9.cell? ⟨b, 1, none⟩ = some (f9 1) := hx9.cell (by omega)
  obtain ⟨m1, m2, m3, eM⟩ := owns_form rM
  rw [eM] at rM c1
  have hm2 := owns_lenq rM
  subst hm2
  have HPU2 : Hid (∀ {o : Obj} {g6 c6 : Nat} {w6 : World}, w6.ownsRow B 22 1 (.slice (some ⟨g6, 0, none⟩) ((E9 1).length + 1) c6) ((E9 1).length + 1) (E9 1 ++ [.slice ao l.length cap]) →
      (((Value.slice m1 (E9 1).length m3).ownBlock = some g6 ∧ (w9.alloc o).grownBy w6 (some g6)) ∨ (g6 = w9.heap.size + 1 ∧ (w9.alloc o).grownBy w6 none)) →
      HB w6 b f9 ∧ ∃ who' f', Lx B (w6.setCell ⟨b, 1, none⟩ (.slice (some ⟨g6, 0, none⟩) ((E9 1).length + 1) c6)) b who' n f' K (setE E9 1 (E9 1 ++ [.slice ao l.length cap])) LI LC LR tail ∧
      Fr w9 (w6.setCell ⟨b, 1, none⟩ (.slice (some ⟨g6, 0, none⟩) ((E9 1).length + 1) c6)) who9 who' (fun _ => False) ∧ (∀ j, j ≠ 1 → f' j = f9 j) ∧ (∀ g, who9 g = .lent → (w6.setCell ⟨b, 1, none⟩ (.slice (some ⟨g6, 0, none⟩) ((E9 1).length + 1) c6)).heap[g]? = w9.heap[g]? ∧ who' g = .lent)) := by
    intro o g6 c6 w6 hown key
    rw [← eM] at key
    exact hx9.push (by omega) hown key
  have hbase9 : B ≤ w9.heap.size := by have := hx9.low; omega
  have HRM := hide rM
  have HEM := hide eM
  have HX9 := hide hx9
  have HF9 := hide (HF5.out.trans hf9)
  have HL9 := hide (hl9 g0 HW.out)
  have HI9 : Hid (IntsAt w9.heap.size w9 (.slice ao l.length cap) l ∧ valOther who9 (.slice ao l.length cap)) := int_keeps HI5.out HV5.out hf9
  clear rM eM hown8 key8 hb8 p6 p7 hlt8 c0 hx9 hf9 hj9 hl9 HPU HRO HEO HX5 HF5 HI5 HV5 HE1
  generalize hN1 : (E9 1).length = N1 at *
  generalize hL1 : E9 1 = L1 at *
  clear hN1
  go_upto_region 8 with (at_builtin; go_must (refine wpList_append_keeps rfl _ _ _ rfl B 22 i1 _ 1 24 Tryd.underlying41 hi1 hy0 hy1 hy2 rfl (by omega) (.slice m1 N1 m3) N1 L1 rfl (owns_alloc HRM.out) ⟨w9.heap.size, 0, none⟩ 1 1 [.slice ao l.length cap] rfl rfl (World.news_of_block (cs := #[.slice ao l.length cap]) (t := 22) (fr := (0, 0)) (heap_alloc_new w9 _)) (by simp [Value.oneCell']) (by omega) h63b (by omega) (by simp; omega) (w9.heap.size + 1) (by simp) ?_); intro g10 cap10 w10 hown10 key10 hlt10; have hb10 := (HPU2.out hown10 key10).1; have p6 : w10.cell? ⟨b, 1, none⟩ = some (.slice m1 N1 m3) := (by rw [hb10.cell (by omega), HEM.out]); have p7 := hb10.frozen 1)
  obtain ⟨_, who11, f11, hx11, hf11, hj11, hl11⟩ := HPU2.out hown10 key10
  generalize w10.setCell ⟨b, 1, none⟩ (.slice (some ⟨g10, 0, none⟩) (N1 + 1) cap10) = w11 at *
  have HFIN : Hid (Lx B w11 b who11 n f11 K (EL (LI ++ [(g0, l, .slice ao l.length cap)]) LC LR) (LI ++ [(g0, l, .slice ao l.length cap)]) LC LR tail ∧ Fr w w11 who who11 (fun _ => False)) := by
    obtain ⟨hI11, hV11⟩ := int_keeps HI9.out.1 HI9.out.2 hf11
    have hl := hl11 g0 HL9.out.2
    refine ⟨⟨hx11.hs, ?_, hx11.le.addInts (by rw [hl.1, HL9.out.1]; exact HR5.out) hl.2 hI11 hV11 hln HNI.out⟩, HF9.out.trans hf11⟩
    have := hx11.lr
    rw [HEE.out] at this
    exact this
  clear hown10 key10 hb10 p6 p7 hlt10 c1 hx11 hf11 hj11 hl11 HPU2 HRM HEM HX9 HF9 HI9
  have q2 : (l.length : Int) ≤ (l.length : Int) + 2 := by omega
  go_wp2_with fail
  go_ret
  exact ⟨g0, who11, f11, rfl, HFIN.out.1, HFIN.out.2⟩

end Go.Proofs.YtklenjmfalljgaaDoor

/- Code that is copied; an append inside a region, and what becomes of the old row; code and rows that are lent. -/
namespace Go.Proofs.YtklenjmfalljgaaDoor
open Go.RowKit

section
variable {P : Program}
theorem run_copy_front (w : World) (dT sT ty elem : TypeId) (g dLen dCap : Nat) (a : Addr) (sLen sCap sz : Nat) (cur : Array Value) (t : TypeId) (cs : List Value)
    (hu : P.underlying dT = some (.slice elem)) (hs : (P.info? elem).map (·.size) = some sz)
    (hg : w.heap[g]? = some (.cells cur t (0, 0))) (hn : cs.length = Nat.min sLen dLen * sz)
    (hsrc : ∀ j v, cs[j]? = some v → w.cell? (a.add j) = some v) (hfit : cs.length ≤ cur.size) (h1 : ∀ v ∈ cs, v.oneCell' = true) :
    (Builtin.copy_ #[dT, sT] ty #[.slice (some ⟨g, 0, none⟩) dLen dCap, .slice (some a) sLen sCap]).run P w =
      .ok (goInt (Nat.min sLen dLen)) (w.setRow g (cs ++ cur.toList.drop cs.length).toArray) := by
  have hl := run_loadCells_list (P := P) w a cs hsrc
  have hst := run_storeCells_at P g 0 t cs 0 cur w hg (by omega) h1
  have e : (cur.toList.take (0 + 0) ++ cs ++ cur.toList.drop (0 + 0 + cs.length)) = cs ++ cur.toList.drop cs.length := by simp
  rw [e] at hst
  cases hq : P.info? elem with
  | none => simp [hq] at hs
  | some i =>
    have hi : i.size = sz := by simpa [hq] using hs
    simp [Builtin.copy_, run_underlying hu, Builtin.lenOf, Builtin.firstCells, sizeOf, typeInfo, hq, hi, ← hn, hl, hst]

theorem wp_append_keeps {w : World} {o : Oper} {a : Act} {K : Act → World → Prop} {Q : Exit → Act → World → Prop} (s x : Operand) (t : TypeId)
    (ho : o.op = .call { callee := .builtin .append, args := #[s, x], argTypes := #[t, t] })
    (base : Nat) (e : TypeId) (i : TypeInfo) (z : Value) (size bytes : Nat) (ht : P.underlying t = some (.slice e)) (hi : P.info? e = some i) (hz : i.zero = some z)
    (hsize : i.size = size) (hby : i.bytes = bytes) (hzs : z.cells.size = size) (hsz : 0 < size)
    (v : Value) (n : Nat) (xs : List Value) (hs : a.eval s = v) (hown : w.ownsRow base e size v n xs)
    (ad : Addr) (m c : Nat) (news : List Value) (hx : a.eval x = .slice (some ad) m c) (hl : news.length = m * size) (hnews : ∀ j u, news[j]? = some u → w.cell? (ad.add j) = some u) (h1 : ∀ u ∈ news, u.oneCell' = true)
    (hm : 0 < m) (h63 : n + m ≤ maxLen) (hbytes : (n + m) * bytes ≤ 140737488355328) (hbase : base ≤ w.heap.size) (H : Nat) (hH : w.heap.size = H)
    (h : ∀ g cap w', w'.ownsRow base e size (.slice (some ⟨g, 0, none⟩) (n + m) cap) (n + m) (xs ++ news) → ((v.ownBlock = some g ∧ w.grownBy w' (some g)) ∨ (g = H ∧ w.grownBy w' none)) → g < w'.heap.size → K (a.put o.dst (.slice (some ⟨g, 0, none⟩) (n + m) cap)) w') : o.wp P a w K Q := by
  obtain ⟨g, cap, w', hr, h2, h3, h4, h5⟩ := run_append_lies (P := P) w t o.type base e i z size bytes ht hi hz hsize hby hzs hsz v n xs hown ad m c news hl hnews h1 hm h63 hbytes hbase H hH
  have key : (v.ownBlock = some g ∧ w.grownBy w' (some g)) ∨ (g = H ∧ w.grownBy w' none) := by
    have hsmall : n + m ≤ 9223372036854775807 := by simp only [maxLen] at h63; omega
    rcases hown.2 with ⟨rfl, rfl⟩ | ⟨g0, cap0, cur, rfl, hbg, hg, hnc, hcm, hcs, htake⟩
    · rcases h4 with h4 | h4
      · cases h4
      · exact Or.inr ⟨h4, h3⟩
    · by_cases hroom : n + m ≤ cap0
      · obtain ⟨w2, hr2, h6, h7⟩ := run_append_fits (P := P) w base t o.type e i size ht hi hsize g0 n cap0 xs hown ad m c news hl hnews h1 hroom
        rw [hr] at hr2
        simp only [Result.ok.injEq, Value.slice.injEq, Option.some.injEq, Addr.mk.injEq, true_and, and_true] at hr2
        obtain ⟨⟨rfl, rfl⟩, rfl⟩ := hr2
        exact Or.inl ⟨rfl, h7⟩
      · subst hsize
        subst hby
        have holds : ∀ j u, xs[j]? = some u → w.cell? ((⟨g0, 0, none⟩ : Addr).add j) = some u := hown.cells (g := g0) rfl
        have hr2 := run_append_grow (P := P) w t o.type e i z ht hi hz ⟨g0, 0, none⟩ n cap0 xs hown.1 holds ad m c news hl hnews (by omega) (by omega) (growslice_fits (by omega) hbytes)
        rw [hr] at hr2
        simp only [Result.ok.injEq, Value.slice.injEq, Option.some.injEq, Addr.mk.injEq, true_and, and_true] at hr2
        obtain ⟨⟨rfl, rfl⟩, rfl⟩ := hr2
        exact Or.inr ⟨hH, ⟨rfl, rfl, rfl, by simp, fun k hk _ => Below.heap_alloc w.drew _ k hk⟩⟩
  unfold Oper.wp execOp
  simp only [ho, resolve, invoke, builtin, Sem.run_bind, Sem.run_pure, Result.andThen_ok, List.map_toArray, List.map_cons, List.map_nil, hs, hx, hr]
  exact h g cap w' h2 key h5
end

def codeL (c : List Ins) : List Value := c.flatMap insL
theorem codeL_len (c : List Ins) : (codeL c).length = c.length * 4 := by
  induction c with
  | nil => rfl
  | cons i c ih => simp only [codeL, List.flatMap_cons, List.length_append] at *; rw [ih]; simp [insL]; omega
theorem codeL_one (c : List Ins) : ∀ v ∈ codeL c, v.oneCell' = true := by
  intro v hv
  simp only [codeL, List.mem_flatMap, insL, List.mem_cons, List.not_mem_nil, or_false] at hv
  obtain ⟨i, _, rfl | rfl | rfl | rfl⟩ := hv <;> rfl
theorem codeL_get : ∀ (c : List Ins) (k : Nat) (hk : k < c.length), (codeL c)[k * 4]? = some (.int .i64 c[k].op) ∧ (codeL c)[k * 4 + 1]? = some (.int .i64 c[k].a) ∧ (codeL c)[k * 4 + 2]? = some (.int .i64 c[k].b) ∧ (codeL c)[k * 4 + 3]? = some (.int .i64 c[k].n)
  | [], k, hk => by simp at hk
  | i :: c, 0, hk => by simp [codeL, insL]
  | i :: c, k + 1, hk => by
    have h := codeL_get c k (by simpa using hk)
    have e : codeL (i :: c) = insL i ++ codeL c := by simp [codeL]
    have e4 : ∀ j, (codeL (i :: c))[(k + 1) * 4 + j]? = (codeL c)[k * 4 + j]? := fun j => by
      rw [e, List.getElem?_append_right (by simp [insL]; omega)]
      congr 1
      simp [insL]; omega
    refine ⟨?_, ?_, ?_, ?_⟩
    · have := e4 0; simp only [Nat.add_zero] at this; rw [this]; simpa using h.1
    · rw [e4 1]; simpa using h.2.1
    · rw [e4 2]; simpa using h.2.2.1
    · rw [e4 3]; simpa using h.2.2.2
theorem codeL_cells {w : World} {ad : Addr} {cap : Nat} {c : List Ins} (h : CodeAt w (.slice (some ad) c.length cap) c) : ∀ j v, (codeL c)[j]? = some v → w.cell? (ad.add j) = some v := by
  intro j v hj
  have hjl := (List.getElem?_eq_some_iff.1 hj).1
  rw [codeL_len] at hjl
  obtain ⟨ao, cap', e, h⟩ := h
  have hk : j / 4 < c.length := by omega
  obtain ⟨g, o, rfl, e1, e2, e3, e4⟩ := h (j / 4) hk
  simp only [Value.slice.injEq, Option.some.injEq] at e
  obtain ⟨rfl, _⟩ := e
  have hadd : (⟨g, o, none⟩ : Addr).add j = ⟨g, o + j, none⟩ := by unfold Addr.add; split <;> simp_all
  obtain ⟨g1, g2, g3, g4⟩ := codeL_get c (j / 4) hk
  rw [hadd]
  rcases (by omega : j % 4 = 0 ∨ j % 4 = 1 ∨ j % 4 = 2 ∨ j % 4 = 3) with h0 | h0 | h0 | h0
  · have ej : j = j / 4 * 4 := by omega
    rw [ej, g1] at hj
    rw [ej]; rw [e1]; exact hj
  · have ej : j = j / 4 * 4 + 1 := by omega
    rw [ej, g2] at hj
    rw [ej, ← Nat.add_assoc]; rw [e2]; exact hj
  · have ej : j = j / 4 * 4 + 2 := by omega
    rw [ej, g3] at hj
    rw [ej, ← Nat.add_assoc]; rw [e3]; exact hj
  · have ej : j = j / 4 * 4 + 3 := by omega
    rw [ej, g4] at hj
    rw [ej, ← Nat.add_assoc]; rw [e4]; exact hj

theorem run_copy_code {P : Program} (w : World) (t ty elem : TypeId) (hu : P.underlying t = some (.slice elem)) (hsz : (P.info? elem).map (·.size) = some 4) (g dLen dCap : Nat) (sv : Value) (c : List Ins) (hC : CodeAt w sv c) (cur : Array Value) (ct : TypeId) (hg : w.heap[g]? = some (.cells cur ct (0, 0))) (hln : c.length ≤ dLen) (hfit : c.length * 4 ≤ cur.size) :
    ∃ w', (Builtin.copy_ #[t, t] ty #[.slice (some ⟨g, 0, none⟩) dLen dCap, sv]).run P w = .ok (goInt c.length) w' ∧ w'.heap[g]? = some (.cells (codeL c ++ cur.toList.drop (c.length * 4)).toArray ct (0, 0)) ∧ w.grownBy w' (some g) := by
  have hC' := hC
  obtain ⟨ao, cap, e, hc⟩ := hC
  subst e
  by_cases h0 : c.length = 0
  · have hl : c = [] := List.length_eq_zero_iff.1 h0
    subst hl
    refine ⟨w, ?_, ?_, grown_refl _ _⟩
    · cases hq : P.info? elem with
      | none => simp [hq] at hsz
      | some i =>
        have hi : i.size = 4 := by simpa [hq] using hsz
        cases ao with
        | none => simp [Builtin.copy_, run_underlying hu, Builtin.lenOf, Builtin.firstCells, sizeOf, typeInfo, hq, storeCells]
        | some a => simp [Builtin.copy_, run_underlying hu, Builtin.lenOf, Builtin.firstCells, sizeOf, typeInfo, hq, storeCells, loadCells, loadCellsFrom]
    · rw [hg]; simp [codeL]
  · obtain ⟨g', o', e', _⟩ := hc 0 (by omega)
    subst e'
    have hmin : Nat.min c.length dLen = c.length := Nat.min_eq_left hln
    have hr := run_copy_front (P := P) w t t ty elem g dLen dCap ⟨g', o', none⟩ c.length cap 4 cur ct (codeL c) hu hsz hg (by rw [codeL_len, hmin]) (codeL_cells hC') (by rw [codeL_len]; exact hfit) (codeL_one c)
    rw [hmin, codeL_len] at hr
    exact ⟨_, hr, setRow_heap w g cur _ ct (0, 0) hg, ⟨rfl, rfl, rfl, by simp, fun k hk hr => setRow_other w g k _ (fun e => hr (by rw [e]))⟩⟩

end Go.Proofs.YtklenjmfalljgaaDoor

/- Code and rows that are lent. -/
namespace Go.Proofs.YtklenjmfalljgaaDoor
open Go.RowKit

theorem sum_take_le (l : List Nat) (j : Nat) : (l.take j).sum ≤ l.sum := by
  conv => rhs; rw [← List.take_append_drop j l, List.sum_append]
  omega
theorem sum_take_step (l : List Nat) (j : Nat) (hj : j < l.length) : (l.take j).sum + l[j] ≤ l.sum := by
  have := sum_take_le l (j + 1)
  rw [List.take_succ_eq_append_getElem hj, List.sum_append] at this
  simpa using this

section
variable {B : Nat} {w w' : World} {b : Nat} {who who' : Nat → Role} {n : Int} {f : Nat → Value} {K : Nat → List (Value × Int)} {E : Nat → List Value} {LI : List (Nat × List Int × Value)} {LC : List (Nat × List Ins × Value)} {LR : List (Nat × Nat)} {tail : Nat}

theorem Le.row_in (h : Le w who LI LC LR tail) (j : Nat) (hj : j < LR.length) : ((LR.take j).map (·.2)).sum + LR[j].2 ≤ LC.length := by
  have h1 := sum_take_step (LR.map (·.2)) j (by simpa using hj)
  have h2 := h.sum
  rw [← List.map_take] at h1
  simp only [List.getElem_map] at h1
  omega

theorem Le.addCode (h : Le w who LI LC LR tail) {g : Nat} {c : List Ins} {cv : Value} (hb : w.heap[g]? = some (.cells (lentCode c) 28 (0, 0))) (hw : who g = .lent) (hC : CodeAt w cv c) (hv : valOther who cv) (hl : c.length ≤ 4398046510976)
    (hn : g ∉ LI.map (·.1) ++ (LC.map (·.1) ++ LR.map (·.1))) : Le w who LI (LC ++ [(g, c, cv)]) LR (tail + 1) := by
  refine ⟨h.li, fun x hx => ?_, fun j hj => ?_, by have := h.sum; simp; omega, ?_⟩
  · rcases List.mem_append.1 hx with hx | hx
    · exact h.lc x hx
    · simp at hx; subst hx; exact ⟨hb, hw, hC, hv, hl⟩
  · obtain ⟨a1, a2, a3⟩ := h.lr j hj
    have h1 := h.row_in j hj
    refine ⟨?_, a2, a3⟩
    rw [a1]
    congr 2
    rw [List.drop_append_of_le_length (by omega), List.take_append_of_le_length (by rw [List.length_drop]; omega)]
  · have := h.nd
    simp only [List.map_append, List.map_cons, List.map_nil, List.append_assoc, List.singleton_append]
    simp only [List.mem_append, not_or] at hn
    rw [List.nodup_append] at this ⊢
    obtain ⟨a1, a2, a3⟩ := this
    rw [List.nodup_append] at a2
    obtain ⟨b1, b2, b3⟩ := a2
    refine ⟨a1, ?_, ?_⟩
    · rw [List.nodup_append]
      refine ⟨b1, ?_, ?_⟩
      · rw [List.nodup_cons]; exact ⟨hn.2.2, b2⟩
      · intro x hx y hy
        rcases List.mem_cons.1 hy with rfl | hy
        · intro e; subst e; exact hn.2.1 hx
        · exact b3 x hx y hy
    · intro x hx y hy
      rcases List.mem_append.1 hy with hy | hy
      · exact a3 x hx y (List.mem_append.2 (Or.inl hy))
      · rcases List.mem_cons.1 hy with rfl | hy
        · intro e; subst e; exact hn.1 hx
        · exact a3 x hx y (List.mem_append.2 (Or.inr hy))

theorem Le.addRow (h : Le w who LI LC LR tail) {g : Nat} (hb : w.heap[g]? = some (.cells (lentRows (LC.drop ((LR.map (·.2)).sum))) 29 (0, 0))) (hw : who g = .lent) (hl : tail ≤ 5864062014634)
    (hn : g ∉ LI.map (·.1) ++ (LC.map (·.1) ++ LR.map (·.1))) : Le w who LI LC (LR ++ [(g, tail)]) 0 := by
  have hsum := h.sum
  refine ⟨h.li, h.lc, fun j hj => ?_, by simp; omega, ?_⟩
  · by_cases e : j < LR.length
    · obtain ⟨a1, a2, a3⟩ := h.lr j e
      rw [List.getElem_append_left e, List.take_append_of_le_length (by omega)]
      exact ⟨a1, a2, a3⟩
    · have ej : j = LR.length := by simp at hj; omega
      subst ej
      have e1 : (LR ++ [(g, tail)])[LR.length]'hj = (g, tail) := by simp
      rw [e1, List.take_append_of_le_length (Nat.le_refl _), List.take_length, List.take_of_length_le (by rw [List.length_drop]; omega)]
      exact ⟨hb, hw, hl⟩
  · have := h.nd
    simp only [List.mem_append, not_or] at hn
    simp only [List.map_append, List.map_cons, List.map_nil]
    rw [List.nodup_append] at this ⊢
    obtain ⟨a1, a2, a3⟩ := this
    rw [List.nodup_append] at a2
    obtain ⟨b1, b2, b3⟩ := a2
    refine ⟨a1, ?_, ?_⟩
    · rw [List.nodup_append]
      refine ⟨b1, ?_, ?_⟩
      · rw [List.nodup_append]
        refine ⟨b2, by simp, ?_⟩
        intro x hx y hy
        simp at hy; subst hy
        intro e; subst e; exact hn.2.2 hx
      · intro x hx y hy
        rcases List.mem_append.1 hy with hy | hy
        · exact b3 x hx y hy
        · simp at hy; subst hy
          intro e; subst e; exact hn.2.1 hx
    · intro x hx y hy
      rcases List.mem_append.1 hy with hy | hy
      · exact a3 x hx y (List.mem_append.2 (Or.inl hy))
      · rcases List.mem_append.1 hy with hy | hy
        · exact a3 x hx y (List.mem_append.2 (Or.inr hy))
        · simp at hy; subst hy
          intro e; subst e; exact hn.1 hx

theorem EL_code (LI : List (Nat × List Int × Value)) (LC : List (Nat × List Ins × Value)) (LR : List (Nat × Nat)) (g : Nat) (c : List Ins) (cv : Value) :
    setE (setE (EL LI LC LR) 2 (EL LI LC LR 2 ++ [sl2 g c.length])) 3 (setE (EL LI LC LR) 2 (EL LI LC LR 2 ++ [sl2 g c.length]) 3 ++ [cv]) = EL LI (LC ++ [(g, c, cv)]) LR := by
  funext k
  match k with
  | 0 => simp [setE, EL]
  | 1 => simp [setE, EL]
  | 2 => simp [setE, EL]
  | 3 => simp [setE, EL]
  | 4 => simp [setE, EL]
  | k + 5 => simp [setE, EL]
theorem EL_row (LI : List (Nat × List Int × Value)) (LC : List (Nat × List Ins × Value)) (LR : List (Nat × Nat)) (g t : Nat) :
    setE (EL LI LC LR) 4 (EL LI LC LR 4 ++ [sl2 g t]) = EL LI LC (LR ++ [(g, t)]) := by
  funext k
  match k with
  | 0 => simp [setE, EL]
  | 1 => simp [setE, EL]
  | 2 => simp [setE, EL]
  | 3 => simp [setE, EL]
  | 4 => simp [setE, EL]
  | k + 5 => simp [setE, EL]
end

/-- A block of code that was lent reads as the code. -/
theorem lentCode_at {w : World} {g : Nat} {c : List Ins} (h : w.heap[g]? = some (.cells (lentCode c) 28 (0, 0))) (cap : Nat) : CodeAt w (.slice (some ⟨g, 0, none⟩) c.length cap) c := by
  refine ⟨some ⟨g, 0, none⟩, cap, rfl, fun k hk => ⟨g, 0, rfl, ?_⟩⟩
  obtain ⟨g1, g2, g3, g4⟩ := codeL_get c k hk
  have hl := codeL_len c
  have key : ∀ j v, (codeL c)[j]? = some v → w.cell? ⟨g, j, none⟩ = some v := fun j v hj => by
    have hjl := (List.getElem?_eq_some_iff.1 hj).1
    simp only [World.cell?, h, lentCode, List.getElem?_toArray]
    have e : List.flatMap insL c = codeL c := rfl
    rw [e, List.getElem?_append_left hjl]; exact hj
  exact ⟨by rw [Nat.zero_add]; exact key _ _ g1, by rw [Nat.zero_add]; exact key _ _ g2, by rw [Nat.zero_add]; exact key _ _ g3, by rw [Nat.zero_add]; exact key _ _ g4⟩

/-- The last row that was lent reads as the program. -/
theorem lent_prog {w : World} {who : Nat → Role} {LI : List (Nat × List Int × Value)} {LC0 LC1 : List (Nat × List Ins × Value)} {LR : List (Nat × Nat)} {g : Nat} {p : List (List Ins)} (h : Le w who LI (LC0 ++ LC1) LR 0) (hb : w.heap[g]? = some (.cells (lentRows LC1) 29 (0, 0)))
    (hp : LC1.map (·.2.1) = p) (cap : Nat) : ProgAt w (.agg #[.slice (some ⟨g, 0, none⟩) p.length cap]) p := by
  have hl : LC1.length = p.length := by rw [← hp]; simp
  refine ⟨some ⟨g, 0, none⟩, cap, rfl, fun t ht => ⟨g, 0, rfl, slC (LC1[t]'(by omega)), ?_, ?_⟩⟩
  · rw [Nat.zero_add]
    simp only [World.cell?, hb, lentRows, List.getElem?_toArray]
    rw [List.getElem?_append_left (by simp; omega), List.getElem?_map, List.getElem?_eq_getElem (by omega)]; rfl
  · have hm : LC1[t]'(by omega) ∈ LC0 ++ LC1 := List.mem_append.2 (Or.inr (List.getElem_mem _))
    obtain ⟨a, _⟩ := h.lc _ hm
    have e : p[t] = (LC1[t]'(by omega)).2.1 := by simp [← hp]
    rw [e]
    exact lentCode_at a _

section
variable {B : Nat} {w w' : World} {b : Nat} {who who' : Nat → Role} {n : Int} {f : Nat → Value} {K : Nat → List (Value × Int)} {E : Nat → List Value} {LI : List (Nat × List Int × Value)} {LC : List (Nat × List Ins × Value)} {LR : List (Nat × Nat)} {tail : Nat}
/-- What leaves others' blocks and those of these lists. -/
theorem Le.keepIn (h : Le w who LI LC LR tail) (hf : Fr w w' who who' (fun _ => False)) (hl : ∀ g ∈ LI.map (·.1) ++ (LC.map (·.1) ++ LR.map (·.1)), w'.heap[g]? = w.heap[g]? ∧ who' g = .lent) : Le w' who' LI LC LR tail := by
  have ho : ∀ g, g < w.heap.size → who g = .other → w'.heap[g]? = w.heap[g]? := fun g h1 h2 => (hf.oth g h1 h2 (fun e => e)).1
  refine ⟨fun x hx => ?_, fun x hx => ?_, fun j hj => ?_, h.sum, h.nd⟩
  · obtain ⟨a, b, c, d, e⟩ := h.li x hx
    have hm := hl x.1 (List.mem_append.2 (Or.inl (List.mem_map.2 ⟨x, hx, rfl⟩)))
    obtain ⟨k1, k2⟩ := int_keeps c d hf
    exact ⟨by rw [hm.1]; exact a, hm.2, k1, k2, e⟩
  · obtain ⟨a, b, c, d, e⟩ := h.lc x hx
    have hm := hl x.1 (List.mem_append.2 (Or.inr (List.mem_append.2 (Or.inl (List.mem_map.2 ⟨x, hx, rfl⟩)))))
    refine ⟨by rw [hm.1]; exact a, hm.2, code_oth c d ho, ?_, e⟩
    obtain ⟨ao, cap, ev, h2⟩ := c
    intro g o l cc e2 hz
    have hgo := d g o l cc e2 hz
    rw [ev] at e2
    simp only [Value.slice.injEq] at e2
    obtain ⟨g', o', e3, e4, _⟩ := h2 0 (by omega)
    rw [e3] at e2
    simp only [Option.some.injEq, Addr.mk.injEq, and_true] at e2
    obtain ⟨⟨rfl, _⟩, _⟩ := e2
    exact (hf.oth _ (World.block_lt_of_cell? w _ e4) hgo (fun e => e)).2
  · obtain ⟨a, b, c⟩ := h.lr j hj
    have hm := hl LR[j].1 (List.mem_append.2 (Or.inr (List.mem_append.2 (Or.inr (List.mem_map.2 ⟨LR[j], List.getElem_mem hj, rfl⟩)))))
    exact ⟨by rw [hm.1]; exact a, hm.2, c⟩
/-- A cell of a block that is lent, but in no list yet, is set. -/
theorem Lx.setOut (h : Lx B w b who n f K E LI LC LR tail) {g o : Nat} {v : Value} (hg : who g = .lent) (hn : g ∉ LI.map (·.1) ++ (LC.map (·.1) ++ LR.map (·.1))) : Lx B (w.setCell ⟨g, o, none⟩ v) b who n f K E LI LC LR tail := by
  have hne : ∀ g', g' ≠ g → (w.setCell ⟨g, o, none⟩ v).heap[g']? = w.heap[g']? := fun g' e => Below.heap_setCell _ _ _ _ (by simpa using e)
  refine ⟨⟨h.hs.1.same (by simp) (fun g' _ _ h3 => hne g' (fun e => by subst e; rw [hg] at h3; cases h3)), h.hs.2⟩, h.lr.same (fun g' k e => hne g' (fun e2 => by subst e2; rw [hg] at e; cases e)), h.le.keepIn (Fr.set (Or.inl (by rw [hg]; simp))) (fun g' e => ⟨hne g' (fun e2 => hn (by rw [← e2]; exact e)), (h.le.lt g' e).2⟩)⟩

theorem Lx.addCode {LC1 : List (Nat × List Ins × Value)} (h : Lx B w b who n f K E LI LC LR tail) {g : Nat} {c : List Ins} {cv : Value} (hb : w.heap[g]? = some (.cells (lentCode c) 28 (0, 0))) (hw : who g = .lent) (hC : CodeAt w cv c) (hv : valOther who cv) (hl : c.length ≤ 4398046510976)
    (hn : g ∉ LI.map (·.1) ++ (LC.map (·.1) ++ LR.map (·.1))) (hE : E = EL LI LC1 LR) (h1 : LC1 = LC ++ [(g, c, cv)]) : Lx B w b who n f K (EL LI LC1 LR) LI LC1 LR (tail + 1) := by
  subst h1
  subst hE
  exact ⟨h.hs, h.lr, h.le.addCode hb hw hC hv hl hn⟩
end

section
variable {B : Nat} {w w' : World} {b : Nat} {who who' : Nat → Role} {n : Int} {f : Nat → Value} {K : Nat → List (Value × Int)} {E : Nat → List Value} {LI : List (Nat × List Int × Value)} {LC : List (Nat × List Ins × Value)} {LR : List (Nat × Nat)} {tail : Nat}
/-- Two new blocks are to be lent. -/
theorem Lx.new2 (h : Lx B w b who n f K E LI LC LR tail) (hg : w.grownBy w' none) {g1 g2 : Nat} (h1 : w.heap.size ≤ g1) (h2 : g1 < w'.heap.size) (h3 : w.heap.size ≤ g2) (h4 : g2 < w'.heap.size) :
    Lx B w' b (setW (setW who g1 .lent) g2 .lent) n f K E LI LC LR tail ∧ Fr w w' who (setW (setW who g1 .lent) g2 .lent) (fun _ => False) := by
  have hne : ∀ g', who g' ≠ .other → setW (setW who g1 .lent) g2 .lent g' = who g' := fun g' e => by
    have := (h.hs.1.dom g' e).2
    rw [setW_ne _ _ (by omega), setW_ne _ _ (by omega)]
  have h' := h.grown hg
  have hb := h.low
  have hfr : Fr w w' who (setW (setW who g1 .lent) g2 .lent) (fun _ => False) := Fr.setW (Fr.setW (Fr.grown hg) (Or.inl h1)) (Or.inl h3)
  refine ⟨⟨⟨h'.hs.1.more hne (fun g' e => ?_), fun c hc x hx g' e => ?_⟩, h'.lr.more hne, ?_⟩, hfr⟩
  · by_cases e2 : g' = g2
    · subst e2; exact ⟨by omega, h4⟩
    · rw [setW_ne _ _ e2] at e
      by_cases e3 : g' = g1
      · subst e3; exact ⟨by omega, h2⟩
      · rw [setW_ne _ _ e3] at e; exact h'.hs.1.dom g' e
  · have := h.hs.2 c hc x hx g' e
    rw [hne g' (by rw [this]; simp), this]
  · exact h.le.keep hfr (fun g' e => ⟨hg.block g' (h.hs.1.dom g' (by rw [e]; simp)).2 (by simp), by rw [hne g' (by rw [e]; simp)]; exact e⟩)
end

end Go.Proofs.YtklenjmfalljgaaDoor
