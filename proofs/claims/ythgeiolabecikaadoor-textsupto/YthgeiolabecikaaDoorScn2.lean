/- The walks of the scanner's other methods. -/
import Derived.Test.YthgeiolabecikaaDoorScn
namespace Go.Proofs.YthgeiolabecikaaDoor
open Go.RowKit
attribute [local go_sem] Go.World.cell?_alloc_some

theorem ScAt.c0 {w : World} {b : Nat} {s : ByteArray} {a : Nat} (h : ScAt w b s a) : w.cell? ⟨b, 0, none⟩ = some (.string s) := by unfold ScAt at h; simp [World.cell?, h]
theorem ScAt.c1 {w : World} {b : Nat} {s : ByteArray} {a : Nat} (h : ScAt w b s a) : w.cell? ⟨b, 1, none⟩ = some (.int .i64 a) := by unfold ScAt at h; simp [World.cell?, h]
theorem ScAt.f1 {w : World} {b : Nat} {s : ByteArray} {a : Nat} (h : ScAt w b s a) : w.frozen? ⟨b, 1, none⟩ = false := by unfold ScAt at h; simp [World.frozen?, h]
theorem ScAt.set {w : World} {b : Nat} {s : ByteArray} {a : Nat} (h : ScAt w b s a) (x : Nat) : ScAt (w.setCell ⟨b, 1, none⟩ (.int .i64 x)) b s x := by
  unfold ScAt at *; rw [heap_setCell_same w b 1 _ _ _ h]; rfl
theorem ScAt.like {w w' : World} {b : Nat} {s : ByteArray} {a : Nat} (h : ScAt w b s a) (hl : Like w' w) : ScAt w' b s a := by
  unfold ScAt at *; rw [hl.1]; exact h
theorem ScAt.lt {w : World} {b : Nat} {s : ByteArray} {a : Nat} (h : ScAt w b s a) : b < w.heap.size := (Array.getElem?_eq_some_iff.1 h).1

def hitB (s : ByteArray) (a c : Nat) : Bool := (byt s)[a]? == some c
def skAt (s : ByteArray) (a c : Nat) : Nat := if hitB s a c = true then a + 1 else a

set_option maxRecDepth 100000 in
set_option maxHeartbeats 1000000 in
theorem skip_m (s : ByteArray) (b a c : Nat) (w : World) (h : ScAt w b s a) (ha : a ≤ s.size) (hs : s.size ≤ 9223372036854775806) :
    Calls Tryd.prog 83 #[pt b, .int .u8 c] w fun e w' => w.grownBy w' (some b) ∧ e = .returned (.bool (hitB s a c)) ∧ ScAt w' b s (skAt s a c) := by
  have c0 := h.c0
  have c1 := h.c1
  have f1 := h.f1
  have HH := hide h
  clear h
  unfold pt
  by_cases hlt : a < s.size
  · have h1 : (a : Int) < s.size := by omega
    have h2 : ((a : Int) == (s.size : Int)) = false := by simp; omega
    by_cases hc : s[a].toNat = c
    · have HB : Hid (hitB s a c = true) := by unfold Hid hitB; rw [byt_get s a hlt, hc]; simp
      have g1 : ((s[a].toNat : Nat) : Int) = (c : Int) := by omega
      have hsz : (a : Int) + 1 ≤ 9223372036854775807 := by omega
      go_enter Tryd.func83, Tryd.ntmps83
      go_wp2
      go_quiet (fail)
      go_wp2
      go_ret
      refine ⟨?_, by rw [HB.out]; rfl, ?_⟩
      · exact grown_drewN _ grown_set
      · rw [skAt, HB.out, if_pos rfl]
        have := (HH.out.like (like_dn (like_refl _) nq)).set (a + 1)
        simpa using this
    · have HB : Hid (hitB s a c = false) := by unfold Hid hitB; rw [byt_get s a hlt]; simpa using hc
      have g1 : ((s[a].toNat : Nat) : Int) ≠ (c : Int) := by omega
      go_enter Tryd.func83, Tryd.ntmps83
      go_wp2
      go_quiet (fail)
      go_wp2
      go_ret
      refine ⟨grown_drewN _ (grown_refl _ _), by rw [HB.out]; rfl, ?_⟩
      rw [skAt, HB.out, if_neg (by simp)]
      exact HH.out.like (like_dn (like_refl _) _)
  · have h2 : ((a : Int) == (s.size : Int)) = true := by simp; omega
    have HB : Hid (hitB s a c = false) := by unfold Hid hitB; rw [byt_end s a (by omega)]; simp
    go_enter Tryd.func83, Tryd.ntmps83
    go_wp2
    go_quiet (fail)
    go_wp2
    go_ret
    refine ⟨grown_drewN _ (grown_refl _ _), by rw [HB.out]; rfl, ?_⟩
    rw [skAt, HB.out, if_neg (by simp)]
    exact HH.out.like (like_dn (like_refl _) _)

def atOf (w : World) (b : Nat) : Nat := match w.cell? ⟨b, 1, none⟩ with
  | some (.int _ x) => x.toNat
  | _ => 0
theorem atOf_sc {w : World} {b : Nat} {s : ByteArray} {a : Nat} (h : ScAt w b s a) : atOf w b = a := by simp [atOf, h.c1]

theorem drop_get {l : List Nat} {a c : Nat} (h : l[a]? = some c) : l.drop a = c :: l.drop (a + 1) := by
  obtain ⟨hl, rfl⟩ := List.getElem?_eq_some_iff.1 h
  exact List.drop_eq_getElem_cons hl

theorem hi_lt_of_get {l : List Nat} {a c : Nat} (h : l[a]? = some c) : a < l.length := (List.getElem?_eq_some_iff.1 h).1

/-- In the midst of a number: at a', n' so far. -/
structure ThrIn (w : World) (b : Nat) (s : ByteArray) (last : Int) (a : Nat) (n' : Int) (a' : Nat) (w' : World) : Prop where
  grown : w.grownBy w' (some b)
  sc : ScAt w' b s a'
  le : a' ≤ s.size
  lo : -1 ≤ n'
  hi : n' ≤ 63
  num : (thr last n' ((byt s).drop a')).1 = (thr last (-1) ((byt s).drop a)).1
  len : a' + (thr last n' ((byt s).drop a')).2 = a + (thr last (-1) ((byt s).drop a)).2

theorem growsB_hi {n d last : Int} (h : growsB n d last = true) : max n 0 * 10 + d ≤ 63 := by
  simp only [growsB, beginsB, Bool.and_eq_true, Bool.or_eq_true, decide_eq_true_eq] at h
  omega

theorem thr_step {last n : Int} {c : Nat} {l : List Nat} (hd : isD c = true) (hg : growsB n ((c : Int) - 48) last = true) : thr last n (c :: l) = ((thr last (nxt n c) l).1, (thr last (nxt n c) l).2 + 1) := by
  rw [thr, if_pos (by rw [hd, hg]; rfl)]
theorem thr_stop {last n : Int} {c : Nat} {l : List Nat} (h : (isD c && growsB n ((c : Int) - 48) last) = false) : thr last n (c :: l) = (n, 0) := by
  rw [thr, if_neg (by rw [h]; simp)]

set_option maxRecDepth 100000 in
set_option maxHeartbeats 4000000 in
theorem thread_m (s : ByteArray) (b a : Nat) (last : Int) (w : World) (h : ScAt w b s a) (ha : a ≤ s.size) (hs : s.size ≤ 9223372036854775806) :
    Calls Tryd.prog 115 #[pt b, .int .i64 last] w fun e w' => w.grownBy w' (some b) ∧
      e = .returned (.tuple #[.int .i64 (thr last (-1) ((byt s).drop a)).1, .bool (thrOk last (thr last (-1) ((byt s).drop a)).1)]) ∧ ScAt w' b s (a + (thr last (-1) ((byt s).drop a)).2) ∧ -1 ≤ (thr last (-1) ((byt s).drop a)).1 ∧ (thr last (-1) ((byt s).drop a)).1 ≤ 63 := by
  have H0 : Hid (ThrIn w b s last a (-1) a w) := ⟨grown_refl _ _, h, ha, by omega, by omega, rfl, rfl⟩
  clear h
  unfold pt
  go_enter Tryd.func115, Tryd.ntmps115
  go_wp2_with fail
  go_loopw [6] (fun i w' => ∃ (n' : Int) (a' : Nat), i = .int .i64 n' ∧ Hid (ThrIn w b s last a n' a' w')) (fun _ w' => s.size - atOf w' b)
  case atStart => exact ⟨-1, a, rfl, H0.out⟩
  case round =>
    obtain ⟨n', a', rfl, HI⟩ := hrel
    have hlo := HI.out.lo
    have hhi := HI.out.hi
    have HAT : Hid (atOf wr b = a') := atOf_sc HI.out.sc
    go_wp2_with fail
    refine (digit_m s b a' _ HI.out.sc HI.out.le).mono ?_
    rintro e w1 ⟨hl, rfl⟩
    have HI1 : Hid (ThrIn w b s last a n' a' w1) := ⟨grown_like HI.out.grown hl, HI.out.sc.like hl, HI.out.le, hlo, hhi, HI.out.num, HI.out.len⟩
    have fin : ∀ w2, Like w2 w1 → (thr last n' ((byt s).drop a')) = (n', 0) → w.grownBy w2 (some b) ∧ (thr last (-1) ((byt s).drop a)).1 = n' ∧ ScAt w2 b s (a + (thr last (-1) ((byt s).drop a)).2) := by
      intro w2 hl2 he
      have e1 := HI1.out.num
      have e2 := HI1.out.len
      rw [he] at e1 e2
      refine ⟨grown_like HI1.out.grown hl2, e1.symm, ?_⟩
      rw [← e2]; exact HI1.out.sc.like hl2
    have FIN := hide fin
    clear fin hl HI
    cases hc : (byt s)[a']? with
    | none =>
      have HT : Hid (thr last n' ((byt s).drop a') = (n', 0)) := by
        unfold Hid
        rw [List.drop_eq_nil_of_le (List.getElem?_eq_none_iff.1 hc)]; rfl
      simp only [digV]
      go_wp2_with fail
      all_goals
        refine bodyPost_ret (v := .tuple #[.int .i64 n', .bool (n' != -1 && n' != last)]) (by simp [results, Tryd.results115, go_sem, *]) rfl ?_
        obtain ⟨q1, q2, q3⟩ := FIN.out w1 (like_refl _) HT.out
        exact ⟨q1, by rw [q2]; rfl, q3, by rw [q2]; exact hlo, by rw [q2]; exact hhi⟩
    | some c =>
      have hdr := drop_get hc
      cases hd : isD c with
      | false =>
        have HT : Hid (thr last n' ((byt s).drop a') = (n', 0)) := by
          unfold Hid; rw [hdr]; exact thr_stop (by rw [hd]; rfl)
        simp only [digV, hd, Bool.false_eq_true, if_false]
        clear hdr
        go_wp2_with fail
        all_goals
          refine bodyPost_ret (v := .tuple #[.int .i64 n', .bool (n' != -1 && n' != last)]) (by simp [results, Tryd.results115, go_sem, *]) rfl ?_
          obtain ⟨q1, q2, q3⟩ := FIN.out w1 (like_refl _) HT.out
          exact ⟨q1, by rw [q2]; rfl, q3, by rw [q2]; exact hlo, by rw [q2]; exact hhi⟩
      | true =>
        have hcr : 48 ≤ c ∧ c ≤ 57 := by simpa [isD] using hd
        simp only [digV, hd, if_true]
        have alt := hi_lt_of_get hc
        cases hg : growsB n' ((c : Int) - 48) last with
        | false =>
          have HT : Hid (thr last n' ((byt s).drop a') = (n', 0)) := by
            unfold Hid; rw [hdr]; exact thr_stop (by rw [hg]; simp)
          clear hdr
          go_wp2_with (go_at_call 148; refine (grows_m _ _ _ _ hlo hhi (by omega) (by omega)).mono ?_; rintro e w' ⟨rfl, rfl⟩; rw [hg])
          all_goals
            refine bodyPost_ret (v := .tuple #[.int .i64 n', .bool (n' != -1 && n' != last)]) (by simp [results, Tryd.results115, go_sem, *]) rfl ?_
            obtain ⟨q1, q2, q3⟩ := FIN.out _ (like_refl _) HT.out
            exact ⟨q1, by rw [q2]; rfl, q3, by rw [q2]; exact hlo, by rw [q2]; exact hhi⟩
        | true =>
          have hst := thr_step (l := (byt s).drop (a' + 1)) hd hg
          have hgh := growsB_hi hg
          have HN : Hid (ThrIn w b s last a (nxt n' c) (a' + 1) (w1.setCell ⟨b, 1, none⟩ (.int .i64 (a' + 1 : Nat)))) := by
            have e1 := HI1.out.num
            have e2 := HI1.out.len
            rw [hdr, hst] at e1 e2
            exact ⟨grown_trans HI1.out.grown grown_set, HI1.out.sc.set (a' + 1), by rw [byt_len] at alt; omega, by unfold nxt; omega, hgh, e1, by simp only at e2; omega⟩
          have c1 := HI1.out.sc.c1
          have f1 := HI1.out.sc.f1
          rw [byt_len] at alt
          have hsz : (a' : Int) + 1 ≤ 9223372036854775807 := by omega
          have HA : Hid (atOf wr b = a') := HAT.out
          clear hdr hst
          by_cases hneg : n' < 0
          · have hnx : Hid (nxt n' c = (c : Int) - 48) := by unfold Hid nxt; omega
            go_wp2_with (go_at_call 148; refine (grows_m _ _ _ _ hlo hhi (by omega) (by omega)).mono ?_; rintro e w' ⟨rfl, rfl⟩; rw [hg])
            go_roundw
            case rel => exact ⟨nxt n' c, a' + 1, by rw [hnx.out], hide (by simpa using HN.out)⟩
            case measure =>
              have := atOf_sc HN.out.sc
              have h2 := HA.out
              simp only [Int.natCast_add, Int.natCast_one] at this
              omega
          · have hnx : Hid (nxt n' c = n' * 10 + ((c : Int) - 48)) := by unfold Hid nxt; omega
            go_wp2_with (go_at_call 148; refine (grows_m _ _ _ _ hlo hhi (by omega) (by omega)).mono ?_; rintro e w' ⟨rfl, rfl⟩; rw [hg])
            go_roundw
            case rel => exact ⟨nxt n' c, a' + 1, by rw [hnx.out], hide (by simpa using HN.out)⟩
            case measure =>
              have := atOf_sc HN.out.sc
              have h2 := HA.out
              simp only [Int.natCast_add, Int.natCast_one] at this
              omega

structure CntIn (w : World) (b : Nat) (s : ByteArray) (a : Nat) (n' : Int) (a' : Nat) (w' : World) : Prop where
  grown : w.grownBy w' (some b)
  sc : ScAt w' b s a'
  le : a' ≤ s.size
  lo : 0 ≤ n'
  hi : n' ≤ 501
  num : (cnt n' ((byt s).drop a')).1 = (cnt 0 ((byt s).drop a)).1
  len : a' + (cnt n' ((byt s).drop a')).2 = a + (cnt 0 ((byt s).drop a)).2

theorem cnt_step {n : Int} {c : Nat} {l : List Nat} (hd : (isD c && !(n == 0 && c == 48)) = true) : cnt n (c :: l) = ((cnt (min (10 * n + ((c : Int) - 48)) 501) l).1, (cnt (min (10 * n + ((c : Int) - 48)) 501) l).2 + 1) := by
  rw [cnt, if_pos hd]
theorem cnt_stop {n : Int} {c : Nat} {l : List Nat} (h : (isD c && !(n == 0 && c == 48)) = false) : cnt n (c :: l) = (n, 0) := by
  rw [cnt, if_neg (by rw [h]; simp)]

set_option maxRecDepth 100000 in
set_option maxHeartbeats 4000000 in
theorem count_m (s : ByteArray) (b a : Nat) (w : World) (h : ScAt w b s a) (ha : a ≤ s.size) (hs : s.size ≤ 9223372036854775806) :
    Calls Tryd.prog 116 #[pt b] w fun e w' => w.grownBy w' (some b) ∧
      e = .returned (.int .i64 (cnt 0 ((byt s).drop a)).1) ∧ ScAt w' b s (a + (cnt 0 ((byt s).drop a)).2) ∧ 0 ≤ (cnt 0 ((byt s).drop a)).1 ∧ (cnt 0 ((byt s).drop a)).1 ≤ 501 := by
  have H0 : Hid (CntIn w b s a 0 a w) := ⟨grown_refl _ _, h, ha, by omega, by omega, rfl, rfl⟩
  clear h
  unfold pt
  go_enter Tryd.func116, Tryd.ntmps116
  go_wp2_with fail
  go_loopw [3] (fun i w' => ∃ (n' : Int) (a' : Nat), i = .int .i64 n' ∧ Hid (CntIn w b s a n' a' w')) (fun _ w' => s.size - atOf w' b)
  case atStart => exact ⟨0, a, rfl, H0.out⟩
  case round =>
    obtain ⟨n', a', rfl, HI⟩ := hrel
    have hlo := HI.out.lo
    have hhi := HI.out.hi
    have HAT : Hid (atOf wr b = a') := atOf_sc HI.out.sc
    go_wp2_with fail
    refine (digit_m s b a' _ HI.out.sc HI.out.le).mono ?_
    rintro e w1 ⟨hl, rfl⟩
    have HI1 : Hid (CntIn w b s a n' a' w1) := ⟨grown_like HI.out.grown hl, HI.out.sc.like hl, HI.out.le, hlo, hhi, HI.out.num, HI.out.len⟩
    have fin : (cnt n' ((byt s).drop a')) = (n', 0) → w.grownBy w1 (some b) ∧ (cnt 0 ((byt s).drop a)).1 = n' ∧ ScAt w1 b s (a + (cnt 0 ((byt s).drop a)).2) := by
      intro he
      have e1 := HI1.out.num
      have e2 := HI1.out.len
      rw [he] at e1 e2
      refine ⟨HI1.out.grown, e1.symm, ?_⟩
      rw [← e2]; exact HI1.out.sc
    have FIN := hide fin
    clear fin hl HI
    cases hc : (byt s)[a']? with
    | none =>
      have HT : Hid (cnt n' ((byt s).drop a') = (n', 0)) := by
        unfold Hid
        rw [List.drop_eq_nil_of_le (List.getElem?_eq_none_iff.1 hc)]; rfl
      simp only [digV]
      go_wp2_with fail
      go_ret
      obtain ⟨q1, q2, q3⟩ := FIN.out HT.out
      exact ⟨q1, by rw [q2]; rfl, q3, by rw [q2]; exact hlo, by rw [q2]; exact hhi⟩
    | some c =>
      have hdr := drop_get hc
      have alt := hi_lt_of_get hc
      rw [byt_len] at alt
      cases hd : isD c with
      | false =>
        have HT : Hid (cnt n' ((byt s).drop a') = (n', 0)) := by
          unfold Hid; rw [hdr]; exact cnt_stop (by rw [hd]; rfl)
        simp only [digV, hd, Bool.false_eq_true, if_false]
        clear hdr
        go_wp2_with fail
        go_ret
        obtain ⟨q1, q2, q3⟩ := FIN.out HT.out
        exact ⟨q1, by rw [q2]; rfl, q3, by rw [q2]; exact hlo, by rw [q2]; exact hhi⟩
      | true =>
        have hcr : 48 ≤ c ∧ c ≤ 57 := by simpa [isD] using hd
        simp only [digV, hd, if_true]
        by_cases hz : n' = 0 ∧ c = 48
        · obtain ⟨rfl, rfl⟩ := hz
          have HT : Hid (cnt 0 ((byt s).drop a') = (0, 0)) := by
            unfold Hid; rw [hdr]; exact cnt_stop rfl
          clear hdr
          go_wp2_with fail
          go_ret
          obtain ⟨q1, q2, q3⟩ := FIN.out HT.out
          exact ⟨q1, by rw [q2]; rfl, q3, by rw [q2]; exact hlo, by rw [q2]; exact hhi⟩
        · have hst := cnt_step (n := n') (l := (byt s).drop (a' + 1)) (show (isD c && !(n' == 0 && c == 48)) = true by
            rw [hd]; simp; omega)
          have HN : Hid (CntIn w b s a (min (10 * n' + ((c : Int) - 48)) 501) (a' + 1) (w1.setCell ⟨b, 1, none⟩ (.int .i64 (a' + 1 : Nat)))) := by
            have e1 := HI1.out.num
            have e2 := HI1.out.len
            rw [hdr, hst] at e1 e2
            exact ⟨grown_trans HI1.out.grown grown_set, HI1.out.sc.set (a' + 1), by omega, by omega, by omega, e1, by simp only at e2; omega⟩
          have c1 := HI1.out.sc.c1
          have f1 := HI1.out.sc.f1
          have hsz : (a' : Int) + 1 ≤ 9223372036854775807 := by omega
          clear hdr hst
          have hq2 : n' = 0 → ((c : Int) - 48 == 0) = false := fun h => by simp; omega
          clear hz
          cases hq : (n' == 0) with
          | true =>
            have hq3 := hq2 (by simpa using hq)
            clear hq2
            by_cases hm : 501 < 10 * n' + ((c : Int) - 48)
            · have hnx : Hid (min (10 * n' + ((c : Int) - 48)) 501 = 501) := by unfold Hid; omega
              go_wp2_with fail
              all_goals
                go_roundw
                case rel => exact ⟨_, a' + 1, rfl, hide (by rw [hnx.out] at HN; simpa using HN.out)⟩
                case measure =>
                  have := atOf_sc HN.out.sc
                  have h2 := HAT.out
                  simp only [Int.natCast_add, Int.natCast_one] at this
                  omega
            · have hnx : Hid (min (10 * n' + ((c : Int) - 48)) 501 = 10 * n' + ((c : Int) - 48)) := by unfold Hid; omega
              go_wp2_with fail
              all_goals
                go_roundw
                case rel => exact ⟨_, a' + 1, rfl, hide (by rw [hnx.out] at HN; simpa using HN.out)⟩
                case measure =>
                  have := atOf_sc HN.out.sc
                  have h2 := HAT.out
                  simp only [Int.natCast_add, Int.natCast_one] at this
                  omega
          | false =>
            clear hq2
            by_cases hm : 501 < 10 * n' + ((c : Int) - 48)
            · have hnx : Hid (min (10 * n' + ((c : Int) - 48)) 501 = 501) := by unfold Hid; omega
              go_wp2_with fail
              all_goals
                go_roundw
                case rel => exact ⟨_, a' + 1, rfl, hide (by rw [hnx.out] at HN; simpa using HN.out)⟩
                case measure =>
                  have := atOf_sc HN.out.sc
                  have h2 := HAT.out
                  simp only [Int.natCast_add, Int.natCast_one] at this
                  omega
            · have hnx : Hid (min (10 * n' + ((c : Int) - 48)) 501 = 10 * n' + ((c : Int) - 48)) := by unfold Hid; omega
              go_wp2_with fail
              all_goals
                go_roundw
                case rel => exact ⟨_, a' + 1, rfl, hide (by rw [hnx.out] at HN; simpa using HN.out)⟩
                case measure =>
                  have := atOf_sc HN.out.sc
                  have h2 := HAT.out
                  simp only [Int.natCast_add, Int.natCast_one] at this
                  omega

end Go.Proofs.YthgeiolabecikaaDoor
