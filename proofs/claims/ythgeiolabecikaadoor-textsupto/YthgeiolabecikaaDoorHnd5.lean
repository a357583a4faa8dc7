/- The walk of keepInts. -/
import Derived.Test.YthgeiolabecikaaDoorHnd4
namespace Go.Proofs.YthgeiolabecikaaDoor
open Go.RowKit
attribute [local go_sem] Go.World.cell?_alloc_some

theorem set_prefix (m : Value) (xs : List Value) (k : Nat) (hk : k < xs.length) : (List.replicate k m ++ xs.drop k).set k m = List.replicate (k + 1) m ++ xs.drop (k + 1) := by
  rw [List.set_append, if_neg (by simp), List.length_replicate, Nat.sub_self, List.drop_eq_getElem_cons hk, List.set_cons_zero, List.replicate_succ', List.append_assoc]; rfl

/-- In the midst of the writing. -/
structure WrIn (W : World) (B : Nat) (w : World) (b : Nat) (n : Int) (ov mv lv : Value) (m : Int) (a : List Int) (K : List (Value × Int)) (k : Nat) : Prop where
  h : HAt w b (.slice none 0 0) (.slice none 0 0) n ov mv
  all : KeptAll B w b ov mv K
  row : w.ownsRow B 3 1 lv a.length (List.replicate k (.int .i64 m) ++ (ints a).drop k)
  base : W.grownBy w none

theorem HAt.key {w w6 : World} {b : Nat} {iv wv : Value} {n : Int} {ov mv v : Value} {o : Obj} {g6 : Nat} (h : HAt w b iv wv n ov mv) (hv : v.ownBlock ≠ some b) (key : (v.ownBlock = some g6 ∧ (w.alloc o).grownBy w6 (some g6)) ∨ (g6 = w.heap.size + 1 ∧ (w.alloc o).grownBy w6 none)) : HAt w6 b iv wv n ov mv := by
  obtain ⟨r, hg, hr, hne, hsame, hsz⟩ := key_frame key
  have hb := h.lt
  unfold HAt at *
  rw [hsame b hb hv]; exact h

set_option maxRecDepth 100000 in
set_option maxHeartbeats 1000000 in
theorem keepInts_m (W : World) (B : Nat) (w0 w : World) (b : Nat) (n : Int) (lv : Value) (a : List Int) (K : List (Value × Int)) (hH : Hd B w0 b n K) (hg : w0.grownBy w none) (hl : w.ownsRow (w0.heap.size + 1) 3 1 lv a.length (ints a)) (hW : W.grownBy w none) (hWB : W.heap.size ≤ B) (hB : B ≤ w0.heap.size)
    (hn0 : 0 ≤ n) (hn1 : n ≤ 100) (hK : K.length ≤ 100) (ha : a.length ≤ 500) :
    Calls Tryd.prog 54 #[pt b, lv] w fun e w' => (∃ v, e = .returned v) ∧ (∃ K', Hd B w' b (n + 1) K' ∧ K'.length = K.length + 4) ∧ W.grownBy w' none := by
  obtain ⟨i0, hi0, hz0, hz1, hz2⟩ := info_parts info_int
  obtain ⟨i1, hi1, hy0, hy1, hy2⟩ := info_parts info_ints
  obtain ⟨ov, mv, hh0, hk0⟩ := hH
  have hh := hh0.grown hg (by simp)
  have hka := hk0.grown hg (fun g e => by cases e)
  have hb0 := hh0.lt
  have hlb := owns_block hl
  have hlne : ∀ g, lv.ownBlock = some g → g ≠ b ∧ ov.ownBlock ≠ some g ∧ mv.ownBlock ≠ some g ∧ ∀ x ∈ K, x.1.ownBlock ≠ some g := by
    intro g e
    have h1 := hlb g e
    refine ⟨by omega, fun e2 => by have := owns_lt hk0.orow g e2; omega, fun e2 => by have := owns_lt hk0.mrow g e2; omega, fun x hx e2 => ?_⟩
    have := ((hk0.kept x hx).2 g e2).2.2.2
    omega
  have HLNE := hide hlne
  obtain ⟨x1, x2, x3, rfl⟩ := owns_form hl
  have hx2 := owns_lenq hl
  subst hx2
  have hM := mark_m b (.slice none 0 0) (.slice none 0 0) n ov mv w hh hn0 (by omega)
  have HM := hide hM
  have H0 : Hid (WrIn W B (w.setCell ⟨b, 5, none⟩ (.int .i64 (n + 1))) b (n + 1) ov mv (.slice x1 a.length x3) (-77000000 - (n + 1)) a K 0) := by
    refine ⟨hh.set5 _, hka.grown grown_set (fun g e => ?_), ?_, grown_setNew hW (by have := hka.lo; omega)⟩
    · have : g = b := (Option.some.inj e).symm
      subst this
      refine ⟨hka.ob, hka.mb, fun x hx e2 => ((hka.kept x hx).2 g e2).1 rfl⟩
    · simp only [List.replicate_zero, List.nil_append, List.drop_zero]
      refine ownsRow_setCell_other (owns_mono hl (by omega)) (fun e => (HLNE.out b e).1 rfl) _
  have hlo := hka.lo
  have hpt : pt b = .pointer (some ⟨b, 0, none⟩) := rfl
  rw [hpt] at *
  clear hh0 hk0 hh hka hlb hlne hl hM hg hW hpt
  generalize hm : -77000000 - (n + 1) = m at *
  have HMM := hide hm
  clear hm
  go_enter Tryd.func54, Tryd.ntmps54
  go_wp2_with (go_at_call 67; refine HM.out.mono ?_; rintro e w1 ⟨rfl, rfl⟩)
  go_loopw [5] (fun i w' => ∃ k : Nat, k ≤ a.length ∧ i = .int .i64 k ∧ Hid (WrIn W B w' b (n + 1) ov mv (.slice x1 a.length x3) m a K k)) (fun i _ => a.length - (intOf i).toNat)
  case atStart => exact ⟨0, Nat.zero_le _, rfl, H0⟩
  case round =>
    obtain ⟨k, hk, rfl, HI⟩ := hrel
    obtain ⟨w5, hw5⟩ : ∃ w5, w5 = wr := ⟨_, rfl⟩
    rw [← hw5] at HI ⊢
    clear hw5
    by_cases hlt : k < a.length
    · obtain ⟨g, cp, e0, _, _⟩ := HI.out.row.form (by omega)
      have hrow := HI.out.row
      rw [e0] at hrow
      simp only [Value.slice.injEq, true_and] at e0
      obtain ⟨rfl, rfl⟩ := e0
      obtain ⟨h1, h2, h3, h4⟩ := HLNE.out g rfl
      have y0 : ∃ u, w5.cell? ⟨g, k, none⟩ = some u := by
        have h5 := hrow.1
        refine ⟨(List.replicate k (Value.int .i64 m) ++ (ints a).drop k)[k]'(by omega), ?_⟩
        rw [hrow.cellAt k (by omega), List.getElem?_eq_getElem]
      obtain ⟨u, y0⟩ := y0
      have y1 : w5.frozen? ⟨g, k, none⟩ = false := by
        rcases hrow.2 with ⟨e, _⟩ | ⟨g', cap', cur, hv, _, hh, _⟩
        · cases e
        · simp only [Value.slice.injEq, Option.some.injEq, Addr.mk.injEq, true_and, and_true] at hv
          obtain ⟨rfl, rfl⟩ := hv
          simp [World.frozen?, hh]
      have HNX : Hid (WrIn W B (w5.setCell ⟨g, k, none⟩ (.int .i64 m)) b (n + 1) ov mv (.slice (some ⟨g, 0, none⟩) a.length x3) m a K (k + 1)) := by
        refine ⟨HI.out.h.setOther (fun e => h1 e.symm), HI.out.all.grown grown_set (fun g' e => ?_), ?_, grown_setNew HI.out.base (by have := owns_block hrow g rfl; omega)⟩
        · have : g' = g := (Option.some.inj e).symm
          subst this
          exact ⟨h2, h3, h4⟩
        · have := owns_setCell hrow k (.int .i64 m)
          rw [set_prefix _ _ _ (by rw [ints_len]; exact hlt)] at this
          exact this
      have z0 : (0 : Int) ≤ (k : Int) := by omega
      have z1 : (k : Int) < a.length := by omega
      clear hrow h1 h2 h3 h4
      go_wp2_with fail
      go_roundw
      case rel => exact ⟨k + 1, by omega, by go_num, HNX⟩
      case measure => simp [intOf]; omega
    · have ek : k = a.length := by omega
      have z1 : (a.length : Int) ≤ (k : Int) := by omega
      have HS : Hid (KS W B w5 b (n + 1) m ov mv (.slice x1 a.length x3) a.length K (K.map (·.2))) := by
        have hi := HI.out
        rw [ek] at hi
        have hrow := hi.row
        rw [List.drop_eq_nil_of_le (by rw [ints_len]; exact Nat.le_refl _), List.append_nil] at hrow
        refine ⟨hi.h, hi.all.orow, by simpa using hi.all.mrow, hrow, hi.all.ob, hi.all.mb, fun e => (HLNE.out b e).1 rfl, hi.all.om, fun g e e2 => (HLNE.out g e2).2.1 e, fun g e e2 => (HLNE.out g e2).2.2.1 e, fun x hx => ?_, hi.all.lo, by omega, hi.base, hWB⟩
        obtain ⟨k1, k2⟩ := hi.all.kept x hx
        refine ⟨k1, fun g e => ?_⟩
        obtain ⟨h1, h2, h3, h4⟩ := k2 g e
        exact ⟨h1, h2, h3, h4, fun e2 => absurd e ((HLNE.out g e2).2.2.2 x hx)⟩
      clear HI ek
      go_wp2_with fail
      go_loopw [1, 6] (fun lv' i w' => ∃ (k : Nat) (ov' mv' : Value) (K' : List (Value × Int)), k ≤ 4 ∧ i = .int .i64 k ∧ Hid (KS W B w' b (n + 1) m ov' mv' lv' (a.length + k) K' (K'.map (·.2))) ∧ Hid (K'.length = K.length + k)) (fun _ i _ => 4 - (intOf i).toNat)
      case atStart => exact ⟨0, ov, mv, K, by omega, rfl, HS, hide rfl⟩
      case round =>
        obtain ⟨j, ov', mv', K', hj, rfl, HK, HL⟩ := hrel
        obtain ⟨w7, hw7⟩ : ∃ w7, w7 = wr := ⟨_, rfl⟩
        rw [← hw7] at HK ⊢
        clear hw7
        obtain ⟨l1, l2, l3, rfl⟩ := owns_form HK.out.lrow
        have hl2 := owns_lenq HK.out.lrow
        subst hl2
        obtain ⟨o1, o2, o3, rfl⟩ := owns_form HK.out.orow
        have ho2 := owns_lenq HK.out.orow
        subst ho2
        obtain ⟨m1, m2, m3, rfl⟩ := owns_form HK.out.mrow
        have hm2 := owns_lenq HK.out.mrow
        rw [List.length_map] at hm2
        subst hm2
        by_cases hj4 : j < 4
        · have z2 : (j : Int) < 4 := by omega
          have c6 : w7.cell? ⟨b, 6, none⟩ = some (.slice o1 K'.length o3) := HK.out.h.cell 6
          have hLL : K'.length ≤ 104 := by have := HL.out; omega
          have hbase : B ≤ w7.heap.size := by have := HK.out.h.lt; omega
          have h63a : K'.length + 1 ≤ maxLen := by unfold maxLen; omega
          have h63c : a.length + j + 1 ≤ maxLen := by unfold maxLen; omega
          go_upto_region 9 with (at_builtin; go_must (refine wpList_append_keeps rfl _ _ _ rfl B 25 i1 _ 1 24 Tryd.underlying38 hi1 hy0 hy1 hy2 rfl (by omega) (.slice o1 K'.length o3) K'.length (K'.map (·.1)) rfl (owns_alloc HK.out.orow) ⟨w7.heap.size, 0, none⟩ 1 1 [.slice l1 (a.length + j) l3] rfl rfl (World.news_of_block (cs := #[.slice l1 (a.length + j) l3]) (t := 25) (fr := (0, 0)) (heap_alloc_new w7 _)) (by simp [Value.oneCell']) (by omega) h63a (by omega) (by simp; omega) (w7.heap.size + 1) (by simp) ?_); intro g8 cap8 w8 hown8 key8 hlt8; have hb8 := (HK.out.h.key HK.out.ob key8); have p6 : w8.cell? ⟨b, 6, none⟩ = some (.slice o1 K'.length o3) := hb8.cell 6; have p7 := hb8.frozen 6)
          have HK9 := hide (HK.out.out hown8 key8)
          generalize hw9 : w8.setCell ⟨b, 6, none⟩ (.slice (some ⟨g8, 0, none⟩) (K'.length + 1) cap8) = w9 at *
          have c7 : w9.cell? ⟨b, 7, none⟩ = some (.slice m1 K'.length m3) := HK9.out.h.cell 7
          have hbase9 : B ≤ w9.heap.size := by have := HK9.out.h.lt; omega
          clear hown8 key8 hb8 p6 p7 hlt8 hw9 c6
          go_upto_region 10 with (at_builtin; go_must (refine wpList_append_keeps rfl _ _ _ rfl B 3 i0 _ 1 8 Tryd.underlying25 hi0 hz0 hz1 hz2 rfl (by omega) (.slice m1 K'.length m3) K'.length (ints (K'.map (·.2))) rfl (owns_alloc (by have := HK9.out.mrow; rw [List.length_map] at this; exact this)) ⟨w9.heap.size, 0, none⟩ 1 1 [.int .i64 m] rfl rfl (World.news_of_block (cs := #[.int .i64 m]) (t := 3) (fr := (0, 0)) (heap_alloc_new w9 _)) (by simp [Value.oneCell']) (by omega) h63a (by omega) (by simp; omega) (w9.heap.size + 1) (by simp) ?_); intro g10 cap10 w10 hown10 key10 hlt10; have hb10 := (HK9.out.h.key HK9.out.mb key10); have p6 : w10.cell? ⟨b, 7, none⟩ = some (.slice m1 K'.length m3) := hb10.cell 7; have p7 := hb10.frozen 7)
          have HK11 := hide (HK9.out.mark (c6 := cap10) (by rw [List.length_map]; exact hown10) key10)
          rw [List.length_map] at HK11
          generalize hw11 : w10.setCell ⟨b, 7, none⟩ (.slice (some ⟨g10, 0, none⟩) (K'.length + 1) cap10) = w11 at *
          have hbase11 : B ≤ w11.heap.size := by have := HK11.out.h.lt; omega
          clear hown10 key10 hb10 p6 p7 hlt10 hw11 c7
          go_wp2_with (at_builtin; go_must (refine wpList_append_keeps rfl _ _ _ rfl B 3 i0 _ 1 8 Tryd.underlying25 hi0 hz0 hz1 hz2 rfl (by omega) (.slice l1 (a.length + j) l3) (a.length + j) (List.replicate (a.length + j) (.int .i64 m)) rfl (owns_alloc HK11.out.lrow) ⟨w11.heap.size, 0, none⟩ 1 1 [.int .i64 m] rfl rfl (World.news_of_block (cs := #[.int .i64 m]) (t := 3) (fr := (0, 0)) (heap_alloc_new w11 _)) (by simp [Value.oneCell']) (by omega) h63c (by omega) (by simp; omega) (w11.heap.size + 1) (by simp) ?_); intro g12 cap12 w12 hown12 key12 hlt12; have HK13 := hide (HK11.out.list (by omega) hown12 key12); clear hown12 key12 hlt12)
          go_roundw
          case rel => exact ⟨j + 1, _, _, K' ++ [(.slice l1 (a.length + j) l3, m)], by omega, by go_num, hide (by have := HK13.out; rw [List.map_append]; exact this), hide (by have := HL.out; simp; omega)⟩
          case measure => simp [intOf]; omega
        · have z2 : (4 : Int) ≤ (j : Int) := by omega
          have HE : Hid (∃ K', Hd B w7 b (n + 1) K' ∧ K'.length = K.length + 4) := by
            have hk := HK.out
            refine ⟨K', ⟨_, _, hk.h, ⟨hk.orow, by simpa using hk.mrow, hk.ob, hk.mb, hk.om, fun x hx => ?_, hk.lo⟩⟩, by have := HL.out; omega⟩
            obtain ⟨k1, k2⟩ := hk.kept x hx
            exact ⟨k1, fun g e => ⟨(k2 g e).1, (k2 g e).2.1, (k2 g e).2.2.1, (k2 g e).2.2.2.1⟩⟩
          have HBS := hide HK.out.base
          go_wp2_with fail
          go_end0
          exact ⟨⟨_, rfl⟩, HE.out, HBS.out⟩

end Go.Proofs.YthgeiolabecikaaDoor
