/- The texts Scn Scn2 Scn3 Par TxtW Prn Crc BytP. -/
import Derived.Test.YtklenjmfalljgaaGreatDoorMC
import Derived.WalkSpells
import Derived.WalkLawsBesides
import Derived.Deep.Light
import Derived.Lib.ItoaNum
import Derived.Lib.Join
import Derived.RowKit

/- The walks of the scanner's methods. -/
namespace Go.Proofs.YtklenjmfalljgaaGreatDoor
open Go.RowKit
attribute [local go_sem] Go.World.cell?_alloc_some

def byt (s : ByteArray) : List Nat := s.data.toList.map UInt8.toNat

def ScAt (w : World) (b : Nat) (s : ByteArray) (a : Nat) : Prop := w.heap[b]? = some (.cells #[.string s, .int .i64 a] 152 (0, 0))

set_option maxHeartbeats 400000 in
theorem tbegins_m (m : Int) (w : World) (h0 : -1000 ≤ m) (h1 : m ≤ 1000) : Calls Tryz.prog 170 #[.int .i64 m] w fun e w' => e = .returned (.bool (beginsB m)) ∧ w' = w := by
  by_cases h2 : 0 < m
  · by_cases h3 : 10 * m < 63
    · have HB : Hid (beginsB m = true) := by unfold Hid; simp [beginsB, h2, h3]
      go_enter Tryz.func170, Tryz.ntmps170
      go_wp2
      go_ret
      exact ⟨by rw [HB.out]; rfl, rfl⟩
    · have HB : Hid (beginsB m = false) := by unfold Hid; simp [beginsB, h2, h3]
      go_enter Tryz.func170, Tryz.ntmps170
      go_wp2
      go_ret
      exact ⟨by rw [HB.out]; rfl, rfl⟩
  · have HB : Hid (beginsB m = false) := by unfold Hid; simp [beginsB, h2]
    go_enter Tryz.func170, Tryz.ntmps170
    go_wp2
    go_ret
    exact ⟨by rw [HB.out]; rfl, rfl⟩

set_option maxHeartbeats 1000000 in
theorem grows_m (n d last : Int) (w : World) (h0 : -1 ≤ n) (h1 : n ≤ 63) (h2 : 0 ≤ d) (h3 : d ≤ 9) : Calls Tryz.prog 142 #[.int .i64 n, .int .i64 d, .int .i64 last] w fun e w' => e = .returned (.bool (growsB n d last)) ∧ w' = w := by
  by_cases hn : n < 0
  · have hm : max n 0 = 0 := by omega
    have HG : Hid (growsB n d last = (!(n == 0) && ((decide (d ≤ 63) && !(d == last)) || beginsB d))) := by
      unfold Hid growsB; rw [hm]; simp
    go_enter Tryz.func142, Tryz.ntmps142
    go_wp2_with (go_at_call 170; refine (tbegins_m _ _ (by omega) (by omega)).mono ?_; rintro e w' ⟨rfl, rfl⟩)
    all_goals (go_ret; refine ⟨?_, rfl⟩; rw [HG.out]; simp [*] <;> omega)
  · have hm : max n 0 = n := by omega
    have HG : Hid (growsB n d last = (!(n == 0) && ((decide (n * 10 + d ≤ 63) && !(n * 10 + d == last)) || beginsB (n * 10 + d)))) := by
      unfold Hid growsB; rw [hm]
    go_enter Tryz.func142, Tryz.ntmps142
    go_wp2_with (go_at_call 170; refine (tbegins_m _ _ (by omega) (by omega)).mono ?_; rintro e w' ⟨rfl, rfl⟩)
    all_goals (go_ret; refine ⟨?_, rfl⟩; rw [HG.out]; simp [*] <;> omega)

theorem byt_len (s : ByteArray) : (byt s).length = s.size := by simp [byt]
theorem byt_get (s : ByteArray) (a : Nat) (h : a < s.size) : (byt s)[a]? = some s[a].toNat := by
  have : a < s.data.toList.length := by simpa using h
  rw [byt, List.getElem?_map, List.getElem?_eq_getElem this]; rfl
theorem byt_end (s : ByteArray) (a : Nat) (h : s.size ≤ a) : (byt s)[a]? = none := by
  rw [List.getElem?_eq_none_iff, byt_len]; exact h
theorem byt_lt (s : ByteArray) (c : Nat) (h : c ∈ byt s) : c < 256 := by
  simp only [byt, List.mem_map] at h
  obtain ⟨x, _, rfl⟩ := h
  exact x.toNat_lt

def digV (c : Option Nat) : Value := match c with
  | some c => if isD c = true then .tuple #[.int .i64 ((c : Int) - 48), .bool true] else .tuple #[.int .i64 0, .bool false]
  | none => .tuple #[.int .i64 0, .bool false]

set_option maxHeartbeats 1000000 in
theorem digit_m (s : ByteArray) (b a : Nat) (w : World) (h : ScAt w b s a) (ha : a ≤ s.size) :
    Calls Tryz.prog 141 #[pt b] w fun e w' => Like w' w ∧ e = .returned (digV (byt s)[a]?) := by
  have c0 : w.cell? ⟨b, 0, none⟩ = some (.string s) := by unfold ScAt at h; simp [World.cell?, h]
  have c1 : w.cell? ⟨b, 1, none⟩ = some (.int .i64 a) := by unfold ScAt at h; simp [World.cell?, h]
  clear h
  unfold pt
  by_cases hlt : a < s.size
  · have h1 : (a : Int) < s.size := by omega
    have h2 : ((a : Int) == (s.size : Int)) = false := by simp; omega
    have hb := s[a].toNat_lt
    have HE := hide (byt_get s a hlt)
    by_cases h48 : s[a].toNat < 48
    · have g1 : ((s[a].toNat : Nat) : Int) < 48 := by omega
      have HD : Hid (isD s[a].toNat = false) := by unfold Hid; simp [isD]; omega
      go_enter Tryz.func141, Tryz.ntmps141
      go_wp2
      go_quiet (fail)
      go_wp2
      refine bodyPost_ret (v := .tuple #[.int .i64 0, .bool false]) (by simp [results, Tryz.results141, go_sem]) rfl ?_
      refine ⟨like_dn (like_refl _) _, ?_⟩
      rw [HE.out]; simp [digV, HD.out]
    · have g1 : ¬ ((s[a].toNat : Nat) : Int) < 48 := by omega
      by_cases h57 : s[a].toNat ≤ 57
      · have g2 : ((s[a].toNat : Nat) : Int) ≤ 57 := by omega
        have HD : Hid (isD s[a].toNat = true) := by unfold Hid; simp [isD]; omega
        go_enter Tryz.func141, Tryz.ntmps141
        go_wp2
        go_quiet (fail)
        go_wp2
        go_quiet (fail)
        go_wp2
        refine bodyPost_ret (v := .tuple #[.int .i64 (((s[a].toNat : Nat) : Int) - 48), .bool true]) (by simp [results, Tryz.results141, go_sem]) rfl ?_
        refine ⟨like_dn (like_dn (like_refl _) _) _, ?_⟩
        rw [HE.out]; simp [digV, HD.out]
      · have g2 : 57 < ((s[a].toNat : Nat) : Int) := by omega
        have HD : Hid (isD s[a].toNat = false) := by unfold Hid; simp [isD]; omega
        go_enter Tryz.func141, Tryz.ntmps141
        go_wp2
        go_quiet (fail)
        go_wp2
        refine bodyPost_ret (v := .tuple #[.int .i64 0, .bool false]) (by simp [results, Tryz.results141, go_sem]) rfl ?_
        refine ⟨like_dn (like_refl _) _, ?_⟩
        rw [HE.out]; simp [digV, HD.out]
  · have h2 : ((a : Int) == (s.size : Int)) = true := by simp; omega
    have HE := hide (byt_end s a (by omega))
    go_enter Tryz.func141, Tryz.ntmps141
    go_wp2
    go_quiet (fail)
    go_wp2
    refine bodyPost_ret (v := .tuple #[.int .i64 0, .bool false]) (by simp [results, Tryz.results141, go_sem]) rfl ?_
    refine ⟨like_dn (like_refl _) _, ?_⟩
    rw [HE.out]; simp [digV]

end Go.Proofs.YtklenjmfalljgaaGreatDoor

/- The walks of the scanner's other methods. -/
namespace Go.Proofs.YtklenjmfalljgaaGreatDoor
open Go.RowKit
attribute [local go_sem] Go.World.cell?_alloc_some

theorem ScAt.c0 {w : World} {b : Nat} {s : ByteArray} {a : Nat} (h : ScAt w b s a) : w.cell? ⟨b, 0, none⟩ = some (.string s) := by unfold ScAt at h; simp [World.cell?, h]
theorem ScAt.c1 {w : World} {b : Nat} {s : ByteArray} {a : Nat} (h : ScAt w b s a) : w.cell? ⟨b, 1, none⟩ = some (.int .i64 a) := by unfold ScAt at h; simp [World.cell?, h]
theorem ScAt.f1 {w : World} {b : Nat} {s : ByteArray} {a : Nat} (h : ScAt w b s a) : w.frozen? ⟨b, 1, none⟩ = false := by unfold ScAt at h; simp [World.frozen?, h]
theorem ScAt.set {w : World} {b : Nat} {s : ByteArray} {a : Nat} (h : ScAt w b s a) (x : Nat) : ScAt (w.setCell ⟨b, 1, none⟩ (.int .i64 x)) b s x := by
  unfold ScAt at *; rw [heap_setCell_same w b 1 _ _ _ h]; rfl
theorem ScAt.like {w w' : World} {b : Nat} {s : ByteArray} {a : Nat} (h : ScAt w b s a) (hl : Like w' w) : ScAt w' b s a := by
  unfold ScAt at *; rw [hl.1]; exact h
theorem ScAt.lt {w : World} {b : Nat} {s : ByteArray} {a : Nat} (h : ScAt w b s a) : b < w.heap.size := (Array.getElem?_eq_some_iff.1 h).1

def hitB (s : ByteArray) (a c : Nat) : Bool := (byt s)[a]? == some c
def skAt (s : ByteArray) (a c : Nat) : Nat := if hitB s a c = true then a + 1 else a

set_option maxRecDepth 100000 in
set_option maxHeartbeats 1000000 in
theorem skip_m (s : ByteArray) (b a c : Nat) (w : World) (h : ScAt w b s a) (ha : a ≤ s.size) (hs : s.size ≤ 9223372036854775806) :
    Calls Tryz.prog 71 #[pt b, .int .u8 c] w fun e w' => w.grownBy w' (some b) ∧ e = .returned (.bool (hitB s a c)) ∧ ScAt w' b s (skAt s a c) := by
  have c0 := h.c0
  have c1 := h.c1
  have f1 := h.f1
  have HH := hide h
  clear h
  unfold pt
  by_cases hlt : a < s.size
  · have h1 : (a : Int) < s.size := by omega
    have h2 : ((a : Int) == (s.size : Int)) = false := by simp; omega
    by_cases hc : s[a].toNat = c
    · have HB : Hid (hitB s a c = true) := by unfold Hid hitB; rw [byt_get s a hlt, hc]; simp
      have g1 : ((s[a].toNat : Nat) : Int) = (c : Int) := by omega
      have hsz : (a : Int) + 1 ≤ 9223372036854775807 := by omega
      go_enter Tryz.func71, Tryz.ntmps71
      go_wp2
      go_quiet (fail)
      go_wp2
      go_ret
      refine ⟨?_, by rw [HB.out]; rfl, ?_⟩
      · exact grown_drewN _ grown_set
      · rw [skAt, HB.out, if_pos rfl]
        have := (HH.out.like (like_dn (like_refl _) nq)).set (a + 1)
        simpa using this
    · have HB : Hid (hitB s a c = false) := by unfold Hid hitB; rw [byt_get s a hlt]; simpa using hc
      have g1 : ((s[a].toNat : Nat) : Int) ≠ (c : Int) := by omega
      go_enter Tryz.func71, Tryz.ntmps71
      go_wp2
      go_quiet (fail)
      go_wp2
      go_ret
      refine ⟨grown_drewN _ (grown_refl _ _), by rw [HB.out]; rfl, ?_⟩
      rw [skAt, HB.out, if_neg (by simp)]
      exact HH.out.like (like_dn (like_refl _) _)
  · have h2 : ((a : Int) == (s.size : Int)) = true := by simp; omega
    have HB : Hid (hitB s a c = false) := by unfold Hid hitB; rw [byt_end s a (by omega)]; simp
    go_enter Tryz.func71, Tryz.ntmps71
    go_wp2
    go_quiet (fail)
    go_wp2
    go_ret
    refine ⟨grown_drewN _ (grown_refl _ _), by rw [HB.out]; rfl, ?_⟩
    rw [skAt, HB.out, if_neg (by simp)]
    exact HH.out.like (like_dn (like_refl _) _)

def atOf (w : World) (b : Nat) : Nat := match w.cell? ⟨b, 1, none⟩ with
  | some (.int _ x) => x.toNat
  | _ => 0
theorem atOf_sc {w : World} {b : Nat} {s : ByteArray} {a : Nat} (h : ScAt w b s a) : atOf w b = a := by simp [atOf, h.c1]

theorem drop_get {l : List Nat} {a c : Nat} (h : l[a]? = some c) : l.drop a = c :: l.drop (a + 1) := by
  obtain ⟨hl, rfl⟩ := List.getElem?_eq_some_iff.1 h
  exact List.drop_eq_getElem_cons hl

theorem hi_lt_of_get {l : List Nat} {a c : Nat} (h : l[a]? = some c) : a < l.length := (List.getElem?_eq_some_iff.1 h).1

/-- In the midst of a number: at a', n' so far. -/
structure ThrIn (w : World) (b : Nat) (s : ByteArray) (last : Int) (a : Nat) (n' : Int) (a' : Nat) (w' : World) : Prop where
  grown : w.grownBy w' (some b)
  sc : ScAt w' b s a'
  le : a' ≤ s.size
  lo : -1 ≤ n'
  hi : n' ≤ 63
  num : (thr last n' ((byt s).drop a')).1 = (thr last (-1) ((byt s).drop a)).1
  len : a' + (thr last n' ((byt s).drop a')).2 = a + (thr last (-1) ((byt s).drop a)).2

theorem growsB_hi {n d last : Int} (h : growsB n d last = true) : max n 0 * 10 + d ≤ 63 := by
  simp only [growsB, beginsB, Bool.and_eq_true, Bool.or_eq_true, decide_eq_true_eq] at h
  omega

theorem thr_step {last n : Int} {c : Nat} {l : List Nat} (hd : isD c = true) (hg : growsB n ((c : Int) - 48) last = true) : thr last n (c :: l) = ((thr last (nxt n c) l).1, (thr last (nxt n c) l).2 + 1) := by
  rw [thr, if_pos (by rw [hd, hg]; rfl)]
theorem thr_stop {last n : Int} {c : Nat} {l : List Nat} (h : (isD c && growsB n ((c : Int) - 48) last) = false) : thr last n (c :: l) = (n, 0) := by
  rw [thr, if_neg (by rw [h]; simp)]

set_option maxRecDepth 100000 in
set_option maxHeartbeats 4000000 in
theorem thread_m (s : ByteArray) (b a : Nat) (last : Int) (w : World) (h : ScAt w b s a) (ha : a ≤ s.size) (hs : s.size ≤ 9223372036854775806) :
    Calls Tryz.prog 105 #[pt b, .int .i64 last] w fun e w' => w.grownBy w' (some b) ∧
      e = .returned (.tuple #[.int .i64 (thr last (-1) ((byt s).drop a)).1, .bool (thrOk last (thr last (-1) ((byt s).drop a)).1)]) ∧ ScAt w' b s (a + (thr last (-1) ((byt s).drop a)).2) ∧ -1 ≤ (thr last (-1) ((byt s).drop a)).1 ∧ (thr last (-1) ((byt s).drop a)).1 ≤ 63 := by
  have H0 : Hid (ThrIn w b s last a (-1) a w) := ⟨grown_refl _ _, h, ha, by omega, by omega, rfl, rfl⟩
  clear h
  unfold pt
  go_enter Tryz.func105, Tryz.ntmps105
  go_wp2_with fail
  go_loopw [6] (fun i w' => ∃ (n' : Int) (a' : Nat), i = .int .i64 n' ∧ Hid (ThrIn w b s last a n' a' w')) (fun _ w' => s.size - atOf w' b)
  case atStart => exact ⟨-1, a, rfl, H0.out⟩
  case round =>
    obtain ⟨n', a', rfl, HI⟩ := hrel
    have hlo := HI.out.lo
    have hhi := HI.out.hi
    have HAT : Hid (atOf wr b = a') := atOf_sc HI.out.sc
    go_wp2_with fail
    refine (digit_m s b a' _ HI.out.sc HI.out.le).mono ?_
    rintro e w1 ⟨hl, rfl⟩
    have HI1 : Hid (ThrIn w b s last a n' a' w1) := ⟨grown_like HI.out.grown hl, HI.out.sc.like hl, HI.out.le, hlo, hhi, HI.out.num, HI.out.len⟩
    have fin : ∀ w2, Like w2 w1 → (thr last n' ((byt s).drop a')) = (n', 0) → w.grownBy w2 (some b) ∧ (thr last (-1) ((byt s).drop a)).1 = n' ∧ ScAt w2 b s (a + (thr last (-1) ((byt s).drop a)).2) := by
      intro w2 hl2 he
      have e1 := HI1.out.num
      have e2 := HI1.out.len
      rw [he] at e1 e2
      refine ⟨grown_like HI1.out.grown hl2, e1.symm, ?_⟩
      rw [← e2]; exact HI1.out.sc.like hl2
    have FIN := hide fin
    clear fin hl HI
    cases hc : (byt s)[a']? with
    | none =>
      have HT : Hid (thr last n' ((byt s).drop a') = (n', 0)) := by
        unfold Hid
        rw [List.drop_eq_nil_of_le (List.getElem?_eq_none_iff.1 hc)]; rfl
      simp only [digV]
      go_wp2_with fail
      all_goals
        refine bodyPost_ret (v := .tuple #[.int .i64 n', .bool (n' != -1 && n' != last)]) (by simp [results, Tryz.results105, go_sem, *]) rfl ?_
        obtain ⟨q1, q2, q3⟩ := FIN.out w1 (like_refl _) HT.out
        exact ⟨q1, by rw [q2]; rfl, q3, by rw [q2]; exact hlo, by rw [q2]; exact hhi⟩
    | some c =>
      have hdr := drop_get hc
      cases hd : isD c with
      | false =>
        have HT : Hid (thr last n' ((byt s).drop a') = (n', 0)) := by
          unfold Hid; rw [hdr]; exact thr_stop (by rw [hd]; rfl)
        simp only [digV, hd, Bool.false_eq_true, if_false]
        clear hdr
        go_wp2_with fail
        all_goals
          refine bodyPost_ret (v := .tuple #[.int .i64 n', .bool (n' != -1 && n' != last)]) (by simp [results, Tryz.results105, go_sem, *]) rfl ?_
          obtain ⟨q1, q2, q3⟩ := FIN.out w1 (like_refl _) HT.out
          exact ⟨q1, by rw [q2]; rfl, q3, by rw [q2]; exact hlo, by rw [q2]; exact hhi⟩
      | true =>
        have hcr : 48 ≤ c ∧ c ≤ 57 := by simpa [isD] using hd
        simp only [digV, hd, if_true]
        have alt := hi_lt_of_get hc
        cases hg : growsB n' ((c : Int) - 48) last with
        | false =>
          have HT : Hid (thr last n' ((byt s).drop a') = (n', 0)) := by
            unfold Hid; rw [hdr]; exact thr_stop (by rw [hg]; simp)
          clear hdr
          go_wp2_with (go_at_call 142; refine (grows_m _ _ _ _ hlo hhi (by omega) (by omega)).mono ?_; rintro e w' ⟨rfl, rfl⟩; rw [hg])
          all_goals
            refine bodyPost_ret (v := .tuple #[.int .i64 n', .bool (n' != -1 && n' != last)]) (by simp [results, Tryz.results105, go_sem, *]) rfl ?_
            obtain ⟨q1, q2, q3⟩ := FIN.out _ (like_refl _) HT.out
            exact ⟨q1, by rw [q2]; rfl, q3, by rw [q2]; exact hlo, by rw [q2]; exact hhi⟩
        | true =>
          have hst := thr_step (l := (byt s).drop (a' + 1)) hd hg
          have hgh := growsB_hi hg
          have HN : Hid (ThrIn w b s last a (nxt n' c) (a' + 1) (w1.setCell ⟨b, 1, none⟩ (.int .i64 (a' + 1 : Nat)))) := by
            have e1 := HI1.out.num
            have e2 := HI1.out.len
            rw [hdr, hst] at e1 e2
            exact ⟨grown_trans HI1.out.grown grown_set, HI1.out.sc.set (a' + 1), by rw [byt_len] at alt; omega, by unfold nxt; omega, hgh, e1, by simp only at e2; omega⟩
          have c1 := HI1.out.sc.c1
          have f1 := HI1.out.sc.f1
          rw [byt_len] at alt
          have hsz : (a' : Int) + 1 ≤ 9223372036854775807 := by omega
          have HA : Hid (atOf wr b = a') := HAT.out
          clear hdr hst
          by_cases hneg : n' < 0
          · have hnx : Hid (nxt n' c = (c : Int) - 48) := by unfold Hid nxt; omega
            go_wp2_with (go_at_call 142; refine (grows_m _ _ _ _ hlo hhi (by omega) (by omega)).mono ?_; rintro e w' ⟨rfl, rfl⟩; rw [hg])
            go_roundw
            case rel => exact ⟨nxt n' c, a' + 1, by rw [hnx.out], hide (by simpa using HN.out)⟩
            case measure =>
              have := atOf_sc HN.out.sc
              have h2 := HA.out
              simp only [Int.natCast_add, Int.natCast_one] at this
              omega
          · have hnx : Hid (nxt n' c = n' * 10 + ((c : Int) - 48)) := by unfold Hid nxt; omega
            go_wp2_with (go_at_call 142; refine (grows_m _ _ _ _ hlo hhi (by omega) (by omega)).mono ?_; rintro e w' ⟨rfl, rfl⟩; rw [hg])
            go_roundw
            case rel => exact ⟨nxt n' c, a' + 1, by rw [hnx.out], hide (by simpa using HN.out)⟩
            case measure =>
              have := atOf_sc HN.out.sc
              have h2 := HA.out
              simp only [Int.natCast_add, Int.natCast_one] at this
              omega

structure CntIn (w : World) (b : Nat) (s : ByteArray) (a : Nat) (n' : Int) (a' : Nat) (w' : World) : Prop where
  grown : w.grownBy w' (some b)
  sc : ScAt w' b s a'
  le : a' ≤ s.size
  lo : 0 ≤ n'
  hi : n' ≤ 501
  num : (cnt n' ((byt s).drop a')).1 = (cnt 0 ((byt s).drop a)).1
  len : a' + (cnt n' ((byt s).drop a')).2 = a + (cnt 0 ((byt s).drop a)).2

theorem cnt_step {n : Int} {c : Nat} {l : List Nat} (hd : (isD c && !(n == 0 && c == 48)) = true) : cnt n (c :: l) = ((cnt (min (10 * n + ((c : Int) - 48)) 501) l).1, (cnt (min (10 * n + ((c : Int) - 48)) 501) l).2 + 1) := by
  rw [cnt, if_pos hd]
theorem cnt_stop {n : Int} {c : Nat} {l : List Nat} (h : (isD c && !(n == 0 && c == 48)) = false) : cnt n (c :: l) = (n, 0) := by
  rw [cnt, if_neg (by rw [h]; simp)]

set_option maxRecDepth 100000 in
set_option maxHeartbeats 4000000 in
theorem count_m (s : ByteArray) (b a : Nat) (w : World) (h : ScAt w b s a) (ha : a ≤ s.size) (hs : s.size ≤ 9223372036854775806) :
    Calls Tryz.prog 106 #[pt b] w fun e w' => w.grownBy w' (some b) ∧
      e = .returned (.int .i64 (cnt 0 ((byt s).drop a)).1) ∧ ScAt w' b s (a + (cnt 0 ((byt s).drop a)).2) ∧ 0 ≤ (cnt 0 ((byt s).drop a)).1 ∧ (cnt 0 ((byt s).drop a)).1 ≤ 501 := by
  have H0 : Hid (CntIn w b s a 0 a w) := ⟨grown_refl _ _, h, ha, by omega, by omega, rfl, rfl⟩
  clear h
  unfold pt
  go_enter Tryz.func106, Tryz.ntmps106
  go_wp2_with fail
  go_loopw [3] (fun i w' => ∃ (n' : Int) (a' : Nat), i = .int .i64 n' ∧ Hid (CntIn w b s a n' a' w')) (fun _ w' => s.size - atOf w' b)
  case atStart => exact ⟨0, a, rfl, H0.out⟩
  case round =>
    obtain ⟨n', a', rfl, HI⟩ := hrel
    have hlo := HI.out.lo
    have hhi := HI.out.hi
    have HAT : Hid (atOf wr b = a') := atOf_sc HI.out.sc
    go_wp2_with fail
    refine (digit_m s b a' _ HI.out.sc HI.out.le).mono ?_
    rintro e w1 ⟨hl, rfl⟩
    have HI1 : Hid (CntIn w b s a n' a' w1) := ⟨grown_like HI.out.grown hl, HI.out.sc.like hl, HI.out.le, hlo, hhi, HI.out.num, HI.out.len⟩
    have fin : (cnt n' ((byt s).drop a')) = (n', 0) → w.grownBy w1 (some b) ∧ (cnt 0 ((byt s).drop a)).1 = n' ∧ ScAt w1 b s (a + (cnt 0 ((byt s).drop a)).2) := by
      intro he
      have e1 := HI1.out.num
      have e2 := HI1.out.len
      rw [he] at e1 e2
      refine ⟨HI1.out.grown, e1.symm, ?_⟩
      rw [← e2]; exact HI1.out.sc
    have FIN := hide fin
    clear fin hl HI
    cases hc : (byt s)[a']? with
    | none =>
      have HT : Hid (cnt n' ((byt s).drop a') = (n', 0)) := by
        unfold Hid
        rw [List.drop_eq_nil_of_le (List.getElem?_eq_none_iff.1 hc)]; rfl
      simp only [digV]
      go_wp2_with fail
      go_ret
      obtain ⟨q1, q2, q3⟩ := FIN.out HT.out
      exact ⟨q1, by rw [q2]; rfl, q3, by rw [q2]; exact hlo, by rw [q2]; exact hhi⟩
    | some c =>
      have hdr := drop_get hc
      have alt := hi_lt_of_get hc
      rw [byt_len] at alt
      cases hd : isD c with
      | false =>
        have HT : Hid (cnt n' ((byt s).drop a') = (n', 0)) := by
          unfold Hid; rw [hdr]; exact cnt_stop (by rw [hd]; rfl)
        simp only [digV, hd, Bool.false_eq_true, if_false]
        clear hdr
        go_wp2_with fail
        go_ret
        obtain ⟨q1, q2, q3⟩ := FIN.out HT.out
        exact ⟨q1, by rw [q2]; rfl, q3, by rw [q2]; exact hlo, by rw [q2]; exact hhi⟩
      | true =>
        have hcr : 48 ≤ c ∧ c ≤ 57 := by simpa [isD] using hd
        simp only [digV, hd, if_true]
        by_cases hz : n' = 0 ∧ c = 48
        · obtain ⟨rfl, rfl⟩ := hz
          have HT : Hid (cnt 0 ((byt s).drop a') = (0, 0)) := by
            unfold Hid; rw [hdr]; exact cnt_stop rfl
          clear hdr
          go_wp2_with fail
          go_ret
          obtain ⟨q1, q2, q3⟩ := FIN.out HT.out
          exact ⟨q1, by rw [q2]; rfl, q3, by rw [q2]; exact hlo, by rw [q2]; exact hhi⟩
        · have hst := cnt_step (n := n') (l := (byt s).drop (a' + 1)) (show (isD c && !(n' == 0 && c == 48)) = true by
            rw [hd]; simp; omega)
          have HN : Hid (CntIn w b s a (min (10 * n' + ((c : Int) - 48)) 501) (a' + 1) (w1.setCell ⟨b, 1, none⟩ (.int .i64 (a' + 1 : Nat)))) := by
            have e1 := HI1.out.num
            have e2 := HI1.out.len
            rw [hdr, hst] at e1 e2
            exact ⟨grown_trans HI1.out.grown grown_set, HI1.out.sc.set (a' + 1), by omega, by omega, by omega, e1, by simp only at e2; omega⟩
          have c1 := HI1.out.sc.c1
          have f1 := HI1.out.sc.f1
          have hsz : (a' : Int) + 1 ≤ 9223372036854775807 := by omega
          clear hdr hst
          have hq2 : n' = 0 → ((c : Int) - 48 == 0) = false := fun h => by simp; omega
          clear hz
          cases hq : (n' == 0) with
          | true =>
            have hq3 := hq2 (by simpa using hq)
            clear hq2
            by_cases hm : 501 < 10 * n' + ((c : Int) - 48)
            · have hnx : Hid (min (10 * n' + ((c : Int) - 48)) 501 = 501) := by unfold Hid; omega
              go_wp2_with fail
              all_goals
                go_roundw
                case rel => exact ⟨_, a' + 1, rfl, hide (by rw [hnx.out] at HN; simpa using HN.out)⟩
                case measure =>
                  have := atOf_sc HN.out.sc
                  have h2 := HAT.out
                  simp only [Int.natCast_add, Int.natCast_one] at this
                  omega
            · have hnx : Hid (min (10 * n' + ((c : Int) - 48)) 501 = 10 * n' + ((c : Int) - 48)) := by unfold Hid; omega
              go_wp2_with fail
              all_goals
                go_roundw
                case rel => exact ⟨_, a' + 1, rfl, hide (by rw [hnx.out] at HN; simpa using HN.out)⟩
                case measure =>
                  have := atOf_sc HN.out.sc
                  have h2 := HAT.out
                  simp only [Int.natCast_add, Int.natCast_one] at this
                  omega
          | false =>
            clear hq2
            by_cases hm : 501 < 10 * n' + ((c : Int) - 48)
            · have hnx : Hid (min (10 * n' + ((c : Int) - 48)) 501 = 501) := by unfold Hid; omega
              go_wp2_with fail
              all_goals
                go_roundw
                case rel => exact ⟨_, a' + 1, rfl, hide (by rw [hnx.out] at HN; simpa using HN.out)⟩
                case measure =>
                  have := atOf_sc HN.out.sc
                  have h2 := HAT.out
                  simp only [Int.natCast_add, Int.natCast_one] at this
                  omega
            · have hnx : Hid (min (10 * n' + ((c : Int) - 48)) 501 = 10 * n' + ((c : Int) - 48)) := by unfold Hid; omega
              go_wp2_with fail
              all_goals
                go_roundw
                case rel => exact ⟨_, a' + 1, rfl, hide (by rw [hnx.out] at HN; simpa using HN.out)⟩
                case measure =>
                  have := atOf_sc HN.out.sc
                  have h2 := HAT.out
                  simp only [Int.natCast_add, Int.natCast_one] at this
                  omega

end Go.Proofs.YtklenjmfalljgaaGreatDoor

/- The walk of the scanner's run. -/
namespace Go.Proofs.YtklenjmfalljgaaGreatDoor
open Go.RowKit
attribute [local go_sem] Go.World.cell?_alloc_some

def runT (s : ByteArray) (a : Nat) (last : Int) : RunP := runP last ((byt s).drop a)

theorem runT_no {s : ByteArray} {a : Nat} {last : Int} (h : (thrOk last (thr last (-1) ((byt s).drop a)).1 && hitB s (a + (thr last (-1) ((byt s).drop a)).2) 42) = false) :
    runT s a last = ⟨(thr last (-1) ((byt s).drop a)).1, 1, thrOk last (thr last (-1) ((byt s).drop a)).1, (thr last (-1) ((byt s).drop a)).2⟩ := by
  unfold runT runP
  rw [if_neg]
  unfold hitB at h
  rw [List.getElem?_drop, h]; simp
theorem runT_yes {s : ByteArray} {a : Nat} {last : Int} (h1 : thrOk last (thr last (-1) ((byt s).drop a)).1 = true) (h2 : hitB s (a + (thr last (-1) ((byt s).drop a)).2) 42 = true) :
    runT s a last = ⟨(thr last (-1) ((byt s).drop a)).1, (cnt 0 ((byt s).drop (a + (thr last (-1) ((byt s).drop a)).2 + 1))).1, decide (1 < (cnt 0 ((byt s).drop (a + (thr last (-1) ((byt s).drop a)).2 + 1))).1),
      (thr last (-1) ((byt s).drop a)).2 + 1 + (cnt 0 ((byt s).drop (a + (thr last (-1) ((byt s).drop a)).2 + 1))).2⟩ := by
  unfold runT runP
  unfold hitB at h2
  rw [if_pos (by rw [List.getElem?_drop, h1, h2]; rfl), List.drop_drop]
  simp only [Nat.add_assoc]

def RunAt (s : ByteArray) (b a : Nat) (last : Int) (w : World) (e : Ending) (w' : World) : Prop :=
  w.grownBy w' (some b) ∧ e = .returned (.tuple #[.agg #[.int .i64 (runT s a last).thread, .int .i64 (runT s a last).count], .bool (runT s a last).ok]) ∧ ScAt w' b s (a + (runT s a last).len) ∧
    0 ≤ (runT s a last).count ∧ (runT s a last).count ≤ 501 ∧ -1 ≤ (runT s a last).thread ∧ (runT s a last).thread ≤ 63

theorem ScAt.grown {w w' : World} {b : Nat} {s : ByteArray} {a : Nat} (h : ScAt w b s a) (hg : w.grownBy w' none) : ScAt w' b s a := by
  have hl := h.lt
  unfold ScAt at *; rw [hg.block b hl (by simp)]; exact h
theorem ScAt.setOther {w : World} {b g o : Nat} {v : Value} {s : ByteArray} {a : Nat} (h : ScAt w b s a) (hg : b ≠ g) : ScAt (w.setCell ⟨g, o, none⟩ v) b s a := by
  unfold ScAt at *; rw [Below.heap_setCell _ _ _ _ (by simpa using hg)]; exact h

set_option maxRecDepth 100000 in
set_option maxHeartbeats 4000000 in
theorem run_sc (s : ByteArray) (b a : Nat) (last : Int) (w : World) (h : ScAt w b s a) (ha : a ≤ s.size) (hs : s.size ≤ 9223372036854775806) :
    Calls Tryz.prog 72 #[pt b, .int .i64 last] w (RunAt s b a last w) := by
  have hb := h.lt
  have HH := hide h
  clear h
  have hpt : pt b = .pointer (some ⟨b, 0, none⟩) := rfl
  rw [hpt]
  go_enter Tryz.func72, Tryz.ntmps72
  go_wp2_with fail
  refine (thread_m s b a last _ (HH.out.grown (grown_alloc (grown_refl _ _))) ha hs).mono ?_
  rintro e w1 ⟨hg1, rfl, hs1, hlo, hhi⟩
  have hw1 : w.grownBy w1 (some b) := grown_trans (grown_alloc (grown_refl _ _)) hg1
  have hsz1 : w.heap.size < w1.heap.size := by have := hg1.size; simp at this; omega
  have hr1 : w1.heap[w.heap.size]? = some (.cells #[.int .i64 0, .int .i64 0] 148 (0, 0)) := by
    rw [hg1.block w.heap.size (by simp) (by simp; omega)]; exact heap_alloc_new w _
  have HW1 := hide hw1
  have HS1 := hide hs1
  have HR1 := hide hr1
  have hle1 : a + (thr last (-1) ((byt s).drop a)).2 ≤ s.size := by
    have := thr_len last (-1) ((byt s).drop a)
    rw [List.length_drop, byt_len] at this; omega
  have NO := @runT_no s a last
  have YES := @runT_yes s a last
  clear hg1 hw1 hs1 hr1
  generalize thr last (-1) ((byt s).drop a) = T at *
  obtain ⟨n, k⟩ := T
  simp only at *
  have fin : ∀ (w2 : World) (x y : Int) (z : Bool) (l : Nat), runT s a last = ⟨x, y, z, l⟩ → w.grownBy w2 (some b) → ScAt w2 b s (a + l) → w2.heap[w.heap.size]? = some (.cells #[.int .i64 0, .int .i64 0] 148 (0, 0)) → 0 ≤ y → y ≤ 501 → -1 ≤ x → x ≤ 63 →
      RunAt s b a last w (.returned (.tuple #[.agg #[.int .i64 x, .int .i64 y], .bool z])) ((w2.setCell ⟨w.heap.size, 0, none⟩ (.int .i64 x)).setCell ⟨w.heap.size, 1, none⟩ (.int .i64 y)) ∧
      ((w2.setCell ⟨w.heap.size, 0, none⟩ (.int .i64 x)).setCell ⟨w.heap.size, 1, none⟩ (.int .i64 y)).heap[w.heap.size]? = some (.cells #[.int .i64 x, .int .i64 y] 148 (0, 0)) := by
    intro w2 x y z l hr hg hsc hrb h1 h2 h3 h4
    refine ⟨?_, ?_⟩
    · unfold RunAt
      rw [hr]
      exact ⟨grown_setNew (grown_setNew hg (Nat.le_refl _)) (Nat.le_refl _), rfl, (hsc.setOther (by omega)).setOther (by omega), h1, h2, h3, h4⟩
    · rw [heap_setCell_same _ _ 1 _ _ _ (heap_setCell_same _ _ 0 _ _ _ hrb)]; rfl
  have FIN := hide fin
  have hne : w.heap.size ≠ b := by omega
  have z1 : w1.cell? ⟨w.heap.size, 0, none⟩ = some (.int .i64 0) := by have := HR1.out; simp [World.cell?, this]
  have z2 : w1.cell? ⟨w.heap.size, 1, none⟩ = some (.int .i64 0) := by have := HR1.out; simp [World.cell?, this]
  have z3 : w1.frozen? ⟨w.heap.size, 0, none⟩ = false := by have := HR1.out; simp [World.frozen?, this]
  have z4 : w1.frozen? ⟨w.heap.size, 1, none⟩ = false := by have := HR1.out; simp [World.frozen?, this]
  clear fin
  cases hok : thrOk last n with
  | false =>
    have hR := NO (by rw [hok]; rfl)
    rw [hok] at hR
    go_wp2_with fail
    obtain ⟨f1, f2⟩ := FIN.out w1 n 1 false k hR HW1.out HS1.out HR1.out (by omega) (by omega) hlo hhi
    refine bodyPost_ret (v := .tuple #[.agg #[.int .i64 n, .int .i64 1], .bool false]) ?_ rfl f1
    have y1 := cell_of_row _ _ 0 _ _ _ f2
    have y2 := cell_of_row _ _ 1 _ _ _ f2
    simp at y1 y2
    simp [results, Tryz.results72, go_sem, y1, y2]
  | true =>
    go_wp2_with (go_at_call 71; refine (skip_m s b _ 42 _ HS1.out hle1 hs).mono ?_)
    rintro e w2 ⟨hg2, rfl, hs2⟩
    have HW2 : Hid (w.grownBy w2 (some b)) := grown_trans HW1.out hg2
    have hr2 : w2.heap[w.heap.size]? = some (.cells #[.int .i64 0, .int .i64 0] 148 (0, 0)) := by
      rw [hg2.block w.heap.size hsz1 (by simp; omega)]; exact HR1.out
    have hsz2 : w.heap.size < w2.heap.size := by have := hg2.size; omega
    have y1 : w2.cell? ⟨w.heap.size, 0, none⟩ = some (.int .i64 0) := by simp [World.cell?, hr2]
    have y2 : w2.cell? ⟨w.heap.size, 1, none⟩ = some (.int .i64 0) := by simp [World.cell?, hr2]
    have y3 : w2.frozen? ⟨w.heap.size, 0, none⟩ = false := by simp [World.frozen?, hr2]
    have y4 : w2.frozen? ⟨w.heap.size, 1, none⟩ = false := by simp [World.frozen?, hr2]
    have HR2 := hide hr2
    clear hg2 hr2 z1 z2 z3 z4
    unfold skAt at hs2
    cases hit : hitB s (a + k) 42 with
    | false =>
      have hR := NO (by rw [hit]; simp)
      rw [hok] at hR
      rw [hit, if_neg (by simp)] at hs2
      have HS2 := hide hs2
      clear hs2
      go_wp2_with fail
      obtain ⟨f1, f2⟩ := FIN.out w2 n 1 true k hR HW2.out HS2.out HR2.out (by omega) (by omega) hlo hhi
      refine bodyPost_ret (v := .tuple #[.agg #[.int .i64 n, .int .i64 1], .bool true]) ?_ rfl f1
      have x1 := cell_of_row _ _ 0 _ _ _ f2
      have x2 := cell_of_row _ _ 1 _ _ _ f2
      simp at x1 x2
      simp [results, Tryz.results72, go_sem, x1, x2]
    | true =>
      have hR := YES hok hit
      rw [hit, if_pos rfl] at hs2
      have HS2 := hide hs2
      have hlt : a + k < s.size := by
        unfold hitB at hit
        have : (byt s)[a + k]? = some 42 := by simpa using hit
        have := hi_lt_of_get this
        rwa [byt_len] at this
      clear hs2 NO YES
      have e1 : a + k + 1 = a + (k + 1) := by omega
      have hC := count_m s b (a + k + 1) w2 HS2.out (by omega) hs
      generalize cnt 0 ((byt s).drop (a + k + 1)) = C at *
      obtain ⟨c, l⟩ := C
      simp only at hC hR
      have HC := hide hC
      clear hC
      go_wp2_with (go_at_call 106; refine HC.out.mono ?_)
      rintro e w3 ⟨hg3, rfl, hs3, hc0, hc1⟩
      have HW3 : Hid (w.grownBy w3 (some b)) := grown_trans HW2.out hg3
      have hr3 : w3.heap[w.heap.size]? = some (.cells #[.int .i64 0, .int .i64 0] 148 (0, 0)) := by
        rw [hg3.block w.heap.size hsz2 (by simp; omega)]; exact HR2.out
      have x1 : w3.cell? ⟨w.heap.size, 0, none⟩ = some (.int .i64 0) := by simp [World.cell?, hr3]
      have x2 : w3.cell? ⟨w.heap.size, 1, none⟩ = some (.int .i64 0) := by simp [World.cell?, hr3]
      have x3 : w3.frozen? ⟨w.heap.size, 0, none⟩ = false := by simp [World.frozen?, hr3]
      have x4 : w3.frozen? ⟨w.heap.size, 1, none⟩ = false := by simp [World.frozen?, hr3]
      have HR3 := hide hr3
      have HS3 := hide hs3
      clear hg3 hr3 hs3 y1 y2 y3 y4
      go_wp2_with fail
      all_goals
        obtain ⟨f1, f2⟩ := FIN.out w3 n c (decide (1 < c)) (k + 1 + l) (by rw [hR]) HW3.out (by have := HS3.out; rwa [show a + k + 1 + l = a + (k + 1 + l) by omega] at this) HR3.out hc0 hc1 hlo hhi
        refine bodyPost_ret (v := .tuple #[.agg #[.int .i64 n, .int .i64 c], .bool (decide (1 < c))]) ?_ rfl f1
        have x1 := cell_of_row _ _ 0 _ _ _ f2
        have x2 := cell_of_row _ _ 1 _ _ _ f2
        simp at x1 x2
        simp [results, Tryz.results72, go_sem, x1, x2]

end Go.Proofs.YtklenjmfalljgaaGreatDoor

/- The walks of Append and Parse. -/
namespace Go.Proofs.YtklenjmfalljgaaGreatDoor
open Go.RowKit
attribute [local go_sem] Go.World.cell?_alloc_some

theorem ints_rep (l : List Int) (t : Int) (k : Nat) : ints (l ++ List.replicate (k + 1) t) = ints (l ++ List.replicate k t) ++ [.int .i64 t] := by
  rw [List.replicate_succ', ← List.append_assoc, ints_snoc]

set_option maxRecDepth 100000 in
set_option maxHeartbeats 4000000 in
theorem append_m (W0 w : World) (r : Option Nat) (sv : Value) (l : List Int) (t : Int) (c : Nat) (h : w.ownsRow W0.heap.size 3 1 sv l.length (ints l)) (hW : W0.grownBy w r) (hc : c ≤ 501) (hl : l.length ≤ 501) :
    Calls Tryz.prog 73 #[sv, .agg #[.int .i64 t, .int .i64 c]] w fun e w' => ∃ sv', e = .returned sv' ∧ w'.ownsRow W0.heap.size 3 1 sv' (l ++ List.replicate c t).length (ints (l ++ List.replicate c t)) ∧ W0.grownBy w' r ∧ w.grownBy w' sv.ownBlock ∧ ((∃ x y z, sv' = .slice x y z)) := by
  obtain ⟨i0, hi0, hz0, hz1, hz2⟩ := info_parts info_int
  obtain ⟨sa, sn, sc, rfl⟩ := owns_form h
  have HO := hide h
  have HW := hide hW
  have hW0 := hW.size
  clear h hW
  go_enter Tryz.func73, Tryz.ntmps73
  go_wp2_with fail
  go_loopw [0, 7] (fun lv i w' => ∃ k : Nat, k ≤ c ∧ i = .int .i64 k ∧ Hid (w'.ownsRow W0.heap.size 3 1 lv (l.length + k) (ints (l ++ List.replicate k t)) ∧ W0.grownBy w' r ∧ w'.heap[w.heap.size]? = some (.cells #[.int .i64 t, .int .i64 c] 148 (0, 0)) ∧ lv.ownBlock ≠ some w.heap.size ∧ w.grownBy w' (Value.slice sa sn sc).ownBlock ∧ ∀ k, lv.ownBlock = some k → (Value.slice sa sn sc).ownBlock = some k ∨ w.heap.size ≤ k)) (fun _ i _ => c - (intOf i).toNat)
  case atStart =>
    refine ⟨0, Nat.zero_le _, rfl, ?_, grown_alloc HW.out, heap_alloc_new _ _, ?_, grown_alloc (grown_refl _ _), fun k e => Or.inl e⟩
    · simpa using owns_alloc (o := .cells #[.int .i64 t, .int .i64 c] 148) HO.out
    · intro e
      rcases HO.out.2 with ⟨e1, _⟩ | ⟨g, cap, cur, hv, _, hh, _⟩
      · rw [e1] at e; cases e
      · rw [hv] at e
        simp [Value.ownBlock] at e
        have := (Array.getElem?_eq_some_iff.1 hh).1
        omega
  case round =>
    obtain ⟨k, hk, rfl, HL⟩ := hrel
    obtain ⟨w5, hw5⟩ : ∃ w5, w5 = wr := ⟨_, rfl⟩
    subst hw5
    obtain ⟨l1, l2, l3, l4, l5, l6⟩ := HL.out
    have d0 : w5.cell? ⟨w.heap.size, 0, none⟩ = some (.int .i64 t) := by simp [World.cell?, l3]
    have d1 : w5.cell? ⟨w.heap.size, 1, none⟩ = some (.int .i64 c) := by simp [World.cell?, l3]
    have hlt3 : w.heap.size < w5.heap.size := (Array.getElem?_eq_some_iff.1 l3).1
    by_cases hkl : k < c
    · have q3 : (k : Int) < c := by omega
      have h63 : l.length + k + 1 ≤ maxLen := by unfold maxLen; omega
      have hob := owns_block l1
      have L1 := hide l1
      have L2 := hide l2
      have L3 := hide l3
      have L4 := hide l4
      have L5 := hide l5
      have L6 := hide l6
      have hn : w5.heap.size ≠ w.heap.size := by omega
      clear l1 l2 l3 l4 l5 l6
      go_wp2_with (at_builtin; refine wpList_append_lies _ rfl _ _ _ rfl W0.heap.size 3 i0 _ 1 8 Tryz.underlying25 hi0 hz0 hz1 hz2 rfl (by omega) u0 (l.length + k) (ints (l ++ List.replicate k t)) rfl (owns_alloc L1.out) ⟨w5.heap.size, 0, none⟩ 1 1 [.int .i64 t] rfl rfl (World.news_of_block (cs := #[.int .i64 t]) (t := 3) (fr := (0, 0)) (heap_alloc_new w5 _)) (by simp [Value.oneCell']) (by omega) h63 (by omega) (by simp; have := L2.out.size; omega) (w5.heap.size + 1) (by simp) ?_; intro g6 cap6 w6 hown6 hgrow hat hlt6)
      have HNX : Hid (w6.ownsRow W0.heap.size 3 1 (.slice (some ⟨g6, 0, none⟩) (l.length + k + 1) cap6) (l.length + (k + 1)) (ints (l ++ List.replicate (k + 1) t)) ∧ W0.grownBy w6 r ∧ w6.heap[w.heap.size]? = some (.cells #[.int .i64 t, .int .i64 c] 148 (0, 0)) ∧ (Value.slice (some ⟨g6, 0, none⟩) (l.length + k + 1) cap6).ownBlock ≠ some w.heap.size ∧ w.grownBy w6 (Value.slice sa sn sc).ownBlock ∧ ∀ q, (Value.slice (some ⟨g6, 0, none⟩) (l.length + k + 1) cap6).ownBlock = some q → (Value.slice sa sn sc).ownBlock = some q ∨ w.heap.size ≤ q) := by
        refine ⟨?_, grown_row (grown_alloc L2.out) hgrow (fun q e => hob q e), ?_, ?_, ?_, ?_⟩
        · rw [ints_rep]; exact hown6
        · rw [hgrow.block _ (by simp; omega) (fun e => L4.out e.symm), Below.heap_alloc _ _ _ hlt3]; exact L3.out
        · simp only [Value.ownBlock]
          rcases hat with e | e
          · rw [← e]; exact L4.out
          · rw [e]; simp; omega
        · have hg5 := grown_alloc (o := .cells #[.int .i64 t] 3) L5.out
          refine ⟨hgrow.os.trans hg5.os, hgrow.tape.trans hg5.tape, hgrow.output.trans hg5.output, Nat.le_trans hg5.size hgrow.size, fun q hq hr => ?_⟩
          rw [hgrow.block q (Nat.lt_of_lt_of_le hq hg5.size) (fun e => by
            rcases L6.out q e.symm with e2 | e2
            · exact hr e2.symm
            · omega)]
          exact hg5.block q hq hr
        · intro q e
          rcases hat with e2 | e2
          · exact L6.out q (by rw [e2]; exact e)
          · right
            simp only [Value.ownBlock, Option.some.injEq] at e
            omega
      clear hown6 hgrow hat
      go_wp2
      go_roundw
      case rel => exact ⟨k + 1, by omega, by go_num, HNX⟩
      case measure => simp [intOf]; omega
    · have ek : k = c := by omega
      have q2 : (c : Int) ≤ (k : Int) := by omega
      subst ek
      have L1 := hide l1
      have L2 := hide l2
      obtain ⟨m1, m2, m3, rfl⟩ := owns_form l1
      have L5 := hide l5
      clear l1 l2 l3 l4 l5 l6 HL
      go_wp2
      go_ret
      exact ⟨_, rfl, by simpa using L1.out, L2.out, L5.out, _, _, _, rfl⟩

def endP (s : ByteArray) (sch : List Int) (total : Int) (a : Nat) : ParP := if a < s.size then ⟨[], a, false⟩ else if total = 501 then ⟨[], 0, false⟩ else ⟨sch, 0, true⟩

theorem loop_bad {f : Nat} {sch : List Int} {last total : Int} {a : Nat} {s : ByteArray} (h : (runT s a last).ok = false) : loopP (f + 1) sch last total a ((byt s).drop a) = ⟨[], a + (runT s a last).len, false⟩ := by
  rw [loopP]
  unfold runT at *
  rw [if_neg (by rw [h]; simp)]
theorem loop_more {f : Nat} {sch : List Int} {last total : Int} {a : Nat} {s : ByteArray} (h : (runT s a last).ok = true) (h2 : hitB s (a + (runT s a last).len) 32 = true) :
    loopP (f + 1) sch last total a ((byt s).drop a) = loopP f (addRun sch (min (total + (runT s a last).count) 501) (runT s a last).count (runT s a last).thread) (runT s a last).thread (min (total + (runT s a last).count) 501) (a + (runT s a last).len + 1) ((byt s).drop (a + (runT s a last).len + 1)) := by
  have h3 : (byt s)[a + (runT s a last).len]? = some 32 := by unfold hitB at h2; simpa using h2
  have h4 := drop_get h3
  rw [loopP]
  unfold runT at *
  rw [if_pos h, List.drop_drop, h4]
  simp only [if_true]
theorem loop_end {f : Nat} {sch : List Int} {last total : Int} {a : Nat} {s : ByteArray} (h : (runT s a last).ok = true) (h2 : hitB s (a + (runT s a last).len) 32 = false) :
    loopP (f + 1) sch last total a ((byt s).drop a) = endP s (addRun sch (min (total + (runT s a last).count) 501) (runT s a last).count (runT s a last).thread) (min (total + (runT s a last).count) 501) (a + (runT s a last).len) := by
  unfold hitB at h2
  rw [loopP]
  unfold runT endP at *
  rw [if_pos h, List.drop_drop]
  cases h3 : (byt s)[a + (runP last ((byt s).drop a)).len]? with
  | none =>
    have h5 := List.getElem?_eq_none_iff.1 h3
    rw [List.drop_eq_nil_of_le h5]
    rw [byt_len] at h5
    rw [if_neg (show ¬ a + (runP last ((byt s).drop a)).len < s.size by omega)]
  | some c =>
    have h4 := drop_get h3
    have h5 := hi_lt_of_get h3
    rw [byt_len] at h5
    rw [h4, if_pos h5]
    rw [h3] at h2
    have : c ≠ 32 := by simpa using h2
    simp only [if_neg this]

/-- In the midst of a text. -/
structure ParIn (W0 : World) (b : Nat) (s : ByteArray) (f : Nat) (sch : List Int) (last total : Int) (a : Nat) (w' : World) : Prop where
  grown : W0.grownBy w' (some b)
  sc : ScAt w' b s a
  le : a ≤ s.size
  lo : -1 ≤ last
  hi : last ≤ 63
  t0 : 0 ≤ total
  t1 : total ≤ 501
  sl : (sch.length : Int) ≤ total
  fu : s.size - a < f
  eq : loopP f sch last total a ((byt s).drop a) = parseP (byt s)

/-- Behind the last run. -/
structure ParEnd (W0 : World) (b : Nat) (s : ByteArray) (sch : List Int) (total : Int) (a : Nat) (w' : World) : Prop where
  grown : W0.grownBy w' (some b)
  sc : ScAt w' b s a
  le : a ≤ s.size
  t0 : 0 ≤ total
  t1 : total ≤ 501
  sl : (sch.length : Int) ≤ total
  eq : endP s sch total a = parseP (byt s)

def mPar (m : Value) (w : World) (b n : Nat) : Nat := match m with
  | .bool true => n + 1 - atOf w b
  | _ => 0

def ParsedAt (s : ByteArray) (w : World) (e : Ending) (w' : World) : Prop :=
  ∃ x y z, e = .returned (.tuple #[.slice x y z, .int .i64 (parseP (byt s)).at_, .bool (parseP (byt s)).ok]) ∧ w'.ownsRow (w.heap.size + 1) 3 1 (.slice x y z) (parseP (byt s)).out.length (ints (parseP (byt s)).out) ∧ w.grownBy w' none

theorem runT_len (s : ByteArray) (a : Nat) (last : Int) (ha : a ≤ s.size) : a + (runT s a last).len ≤ s.size := by
  have := (auto last ((byt s).drop a)).len
  rw [List.length_drop, byt_len] at this
  unfold runT
  omega

set_option maxRecDepth 100000 in
set_option maxHeartbeats 400000 in
theorem rparse_m (s : ByteArray) (w : World) (hs : s.size ≤ 9223372036854775806) :
    Calls Tryz.prog 43 #[.string s] w (ParsedAt s w) := by
  obtain ⟨b, hb⟩ : ∃ b, b = w.heap.size := ⟨_, rfl⟩
  obtain ⟨W0, hW0⟩ : ∃ W0, W0 = w.alloc (.cells #[.string s, .int .i64 0] 152) := ⟨_, rfl⟩
  have hsc0 : ScAt W0 b s 0 := by unfold ScAt; rw [hW0, hb]; exact heap_alloc_new w _
  have hW0s : W0.heap.size = b + 1 := by rw [hW0, hb]; simp
  have hwW : w.grownBy W0 none := by rw [hW0]; exact grown_alloc (grown_refl _ _)
  have HFIN : Hid (∀ w', W0.grownBy w' (some b) → w.grownBy w' none) := by
    intro w' h
    refine ⟨h.os.trans hwW.os, h.tape.trans hwW.tape, h.output.trans hwW.output, Nat.le_trans hwW.size h.size, fun k hk _ => ?_⟩
    rw [h.block k (by omega) (by simp; omega)]; exact hwW.block k hk (by simp)
  have HSC0 := hide hsc0
  clear hsc0
  have fin : ∀ w4, W0.grownBy w4 (some b) → ∀ (x : Option Addr) (y z : Nat) (p : ParP), p = parseP (byt s) → w4.ownsRow (b + 1) 3 1 (.slice x y z) p.out.length (ints p.out) → ParsedAt s w (.returned (.tuple #[.slice x y z, .int .i64 p.at_, .bool p.ok])) w4 := by
    intro w4 hg x y z p hp ho
    subst hp
    exact ⟨x, y, z, rfl, by rw [← hb]; exact ho, HFIN.out _ hg⟩
  have FIN := hide fin
  clear fin HFIN
  have hnil : ∀ w4 : World, w4.ownsRow (b + 1) 3 1 (.slice none 0 0) ([] : List Int).length (ints []) := fun w4 => ⟨rfl, Or.inl ⟨rfl, rfl⟩⟩
  have HNIL := hide hnil
  clear hnil
  go_enter Tryz.func43, Tryz.ntmps43
  by_cases hs0 : s.size = 0
  · obtain rfl : s = ⟨#[]⟩ := by
      obtain ⟨d⟩ := s
      simp [ByteArray.size] at hs0
      rw [hs0]
    go_wp2_with fail
    rw [← hW0, ← hb]
    clear hW0 hb hwW
    go_loopw [5, 8, 9] (fun sv t m w' => sv = .slice none 0 0 ∧ t = .int .i64 0 ∧ m = .bool false ∧ w' = W0) (fun _ _ _ _ => 0)
    case atStart => exact ⟨rfl, rfl, rfl, rfl⟩
    case round =>
      obtain ⟨rfl, rfl, rfl, rfl⟩ := hrel
      have c1 : wr.cell? ⟨b, 1, none⟩ = some (.int .i64 0) := HSC0.out.c1
      have hs1 : (⟨#[]⟩ : ByteArray).size = 0 := rfl
      go_wp2_with fail
      refine bodyPost_ret (v := .tuple #[.slice none 0 0, .int .i64 0, .bool true]) (by simp [results, Tryz.results43, go_sem]) rfl ?_
      exact FIN.out _ (grown_refl _ _) none 0 0 ⟨[], 0, true⟩ rfl (HNIL.out _)
  · have hne : s ≠ ⟨#[]⟩ := by intro e; rw [e] at hs0; simp [ByteArray.size] at hs0
    go_wp2_with fail
    rw [← hW0, ← hb]
    have H0 : Hid (ParIn W0 b s (s.size + 1) [] (-1) 0 0 W0) := by
      refine ⟨grown_refl _ _, HSC0.out, by omega, by omega, by omega, by omega, by omega, by simp, by omega, ?_⟩
      unfold parseP
      rw [if_neg (by intro e; have := congrArg List.length e; rw [byt_len] at this; exact hs0 this), byt_len]
      rfl
    have hbW : b < W0.heap.size := by omega
    have hie : s.toList.isEmpty = false := by
      rw [ByteArray.toList_eq]
      cases hd : s.data.toList with
      | nil => exact absurd (by have := congrArg List.length hd; simpa using this) hs0
      | cons a b => rfl
    rw [hie, Bool.not_false]
    clear hne hs0 hW0 hwW hie
    clear hb
    go_loopw [5, 7, 8, 9] (fun sv l t m w' => ∃ (sch : List Int) (f : Nat) (last total : Int) (mb : Bool) (a' : Nat), l = .int .i64 last ∧ t = .int .i64 total ∧ m = .bool mb ∧ Hid ((mb = true ∧ ParIn W0 b s f sch last total a' w') ∨ (mb = false ∧ ParEnd W0 b s sch total a' w')) ∧ Hid (w'.ownsRow (b + 1) 3 1 sv sch.length (ints sch))) (fun _ _ _ m w' => mPar m w' b s.size)
    case atStart => exact ⟨[], s.size + 1, -1, 0, true, 0, rfl, rfl, rfl, hide (Or.inl ⟨rfl, H0.out⟩), hide (HNIL.out _)⟩
    case round =>
      obtain ⟨sch, f, last, total, mb, a', rfl, rfl, rfl, HI, HO⟩ := hrel
      obtain ⟨x1, x2, x3, rfl⟩ := owns_form HO.out
      rcases HI.out with ⟨rfl, hp⟩ | ⟨rfl, hp⟩
      · have HP := hide hp
        have HAT : Hid (atOf wr b = a') := atOf_sc hp.sc
        obtain ⟨f, rfl⟩ : ∃ f', f = f' + 1 := ⟨f - 1, by have := hp.fu; omega⟩
        have hle := hp.le
        have ht0 := hp.t0
        have ht1 := hp.t1
        have hsl := hp.sl
        have hfu := hp.fu
        clear hp HI
        go_wp2_with fail
        refine (run_sc s b a' last _ HP.out.sc hle hs).mono ?_
        rintro e w1 ⟨hg1, rfl, hs1, hc0, hc1, htl, hth⟩
        have hle2 := runT_len s a' last hle
        have HG1 : Hid (W0.grownBy w1 (some b)) := grown_trans HP.out.grown hg1
        have HO1 : Hid (w1.ownsRow (b + 1) 3 1 (.slice x1 x2 x3) sch.length (ints sch)) := owns_grown HO.out hg1 (fun k e => by simp at e; omega)
        have HS1 := hide hs1
        have hsz1 := hs1.lt
        clear hg1 hs1 HO
        cases hok : (runT s a' last).ok with
        | false =>
          have HB : Hid (parseP (byt s) = ⟨[], a' + (runT s a' last).len, false⟩) := by
            unfold Hid; rw [← HP.out.eq]; exact loop_bad hok
          have c1 := HS1.out.c1
          go_wp2_with fail
          go_quiet (fail)
          go_wp2_with fail
          refine bodyPost_ret (v := .tuple #[.slice none 0 0, .int .i64 ((a' + (runT s a' last).len : Nat) : Int), .bool false]) (by simp [results, Tryz.results43, go_sem]) rfl ?_
          exact FIN.out _ (grown_drewN _ (grown_alloc HG1.out)) none 0 0 ⟨[], a' + (runT s a' last).len, false⟩ HB.out.symm (HNIL.out _)
        | true =>
          have HGa : ∀ o, W0.grownBy (w1.alloc o) (some b) := fun o => grown_alloc HG1.out
          have HOa : ∀ o, (w1.alloc o).ownsRow (b + 1) 3 1 (.slice x1 x2 x3) sch.length (ints sch) := fun o => owns_alloc HO1.out
          have HSa : ∀ o, ScAt (w1.alloc o) b s (a' + (runT s a' last).len) := fun o => HS1.out.grown (grown_alloc (grown_refl _ _))
          obtain ⟨w3, hw3⟩ : ∃ w3, w3 = w1.alloc (.cells #[.int .i64 (runT s a' last).thread, .int .i64 (runT s a' last).count] 148) := ⟨_, rfl⟩
          have HO3 : Hid (w3.ownsRow (b + 1) 3 1 (.slice x1 x2 x3) sch.length (ints sch)) := by rw [hw3]; exact HOa _
          have HS3 : Hid (ScAt w3 b s (a' + (runT s a' last).len)) := by rw [hw3]; exact HSa _
          have HG3 : Hid (W0.grownBy w3 (some b)) := by rw [hw3]; exact HGa _
          clear HGa HOa HSa
          have HW3 := hide hw3
          clear hw3
          by_cases hm : 501 < total + (runT s a' last).count
          · have HTC : Hid (min (total + (runT s a' last).count) 501 = 501) := by unfold Hid; omega
            have HSC3 : Hid (addRun sch 501 (runT s a' last).count (runT s a' last).thread = sch) := by
              unfold Hid addRun; rw [if_neg (by omega)]
            have hsl3 : (sch.length : Int) ≤ 501 := by omega
            have hsz3 : b < w3.heap.size := HS3.out.lt
            have hle3 : a' + (runT s a' last).len ≤ s.size := hle2
            go_wp2_with fail
            rw [← HW3.out]
            refine (skip_m s b _ 32 _ HS3.out hle3 hs).mono ?_
            rintro e w4 ⟨hg4, rfl, hs4⟩
            have HO4 : Hid (w4.ownsRow (b + 1) 3 1 (.slice x1 x2 x3) sch.length (ints sch)) := owns_grown HO3.out hg4 (fun k e => by simp at e; omega)
            have HG4 : Hid (W0.grownBy w4 (some b)) := grown_trans HG3.out hg4
            unfold skAt at hs4
            cases hit : hitB s (a' + (runT s a' last).len) 32 with
            | true =>
              rw [hit, if_pos rfl] at hs4
              have HN : Hid (ParIn W0 b s f sch (runT s a' last).thread 501 (a' + (runT s a' last).len + 1) w4) := by
                have hlt : a' + (runT s a' last).len < s.size := by
                  unfold hitB at hit
                  have := hi_lt_of_get (show (byt s)[a' + (runT s a' last).len]? = some 32 by simpa using hit)
                  rwa [byt_len] at this
                exact ⟨HG4.out, hs4, by omega, htl, hth, by omega, by omega, hsl3, by omega, by have e := HP.out.eq; rw [loop_more hok hit, HTC.out, HSC3.out] at e; exact e⟩
              clear hg4 hs4
              go_wp2_with fail
              go_roundw
              case rel => exact ⟨sch, f, (runT s a' last).thread, 501, true, a' + (runT s a' last).len + 1, rfl, rfl, rfl, hide (Or.inl ⟨rfl, HN.out⟩), HO4⟩
              case measure =>
                have e1 := atOf_sc HN.out.sc
                have e2 := HAT.out
                have e3 := HN.out.le
                simp only [mPar, e1, e2]
                omega
            | false =>
              rw [hit, if_neg (by simp)] at hs4
              have HN : Hid (ParEnd W0 b s sch 501 (a' + (runT s a' last).len) w4) :=
                ⟨HG4.out, hs4, by omega, by omega, by omega, hsl3, by have e := HP.out.eq; rw [loop_end hok hit, HTC.out, HSC3.out] at e; exact e⟩
              clear hg4 hs4
              go_wp2_with fail
              go_roundw
              case rel => exact ⟨sch, f, (runT s a' last).thread, 501, false, a' + (runT s a' last).len, rfl, rfl, rfl, hide (Or.inr ⟨rfl, HN.out⟩), HO4⟩
              case measure =>
                have e2 := HAT.out
                simp only [mPar, e2]
                omega
          · have HTC : Hid (min (total + (runT s a' last).count) 501 = (total + (runT s a' last).count)) := by unfold Hid; omega
            by_cases hm2 : total + (runT s a' last).count = 501
            · have HSC3 : Hid (addRun sch (total + (runT s a' last).count) (runT s a' last).count (runT s a' last).thread = sch) := by
                unfold Hid addRun; rw [if_neg (by omega)]
              have hsl3 : (sch.length : Int) ≤ (total + (runT s a' last).count) := by omega
              have hm3 : ¬ (total + (runT s a' last).count < 501) := by omega
              have HM2 := hide hm2
              clear hm2
              have hsz3 : b < w3.heap.size := HS3.out.lt
              have hle3 : a' + (runT s a' last).len ≤ s.size := hle2
              go_wp2_with fail
              rw [← HW3.out]
              refine (skip_m s b _ 32 _ HS3.out hle3 hs).mono ?_
              rintro e w4 ⟨hg4, rfl, hs4⟩
              have HO4 : Hid (w4.ownsRow (b + 1) 3 1 (.slice x1 x2 x3) sch.length (ints sch)) := owns_grown HO3.out hg4 (fun k e => by simp at e; omega)
              have HG4 : Hid (W0.grownBy w4 (some b)) := grown_trans HG3.out hg4
              unfold skAt at hs4
              cases hit : hitB s (a' + (runT s a' last).len) 32 with
              | true =>
                rw [hit, if_pos rfl] at hs4
                have HN : Hid (ParIn W0 b s f sch (runT s a' last).thread (total + (runT s a' last).count) (a' + (runT s a' last).len + 1) w4) := by
                  have hlt : a' + (runT s a' last).len < s.size := by
                    unfold hitB at hit
                    have := hi_lt_of_get (show (byt s)[a' + (runT s a' last).len]? = some 32 by simpa using hit)
                    rwa [byt_len] at this
                  exact ⟨HG4.out, hs4, by omega, htl, hth, by omega, by omega, hsl3, by omega, by have e := HP.out.eq; rw [loop_more hok hit, HTC.out, HSC3.out] at e; exact e⟩
                clear hg4 hs4
                go_wp2_with fail
                go_roundw
                case rel => exact ⟨sch, f, (runT s a' last).thread, (total + (runT s a' last).count), true, a' + (runT s a' last).len + 1, rfl, rfl, rfl, hide (Or.inl ⟨rfl, HN.out⟩), HO4⟩
                case measure =>
                  have e1 := atOf_sc HN.out.sc
                  have e2 := HAT.out
                  have e3 := HN.out.le
                  simp only [mPar, e1, e2]
                  omega
              | false =>
                rw [hit, if_neg (by simp)] at hs4
                have HN : Hid (ParEnd W0 b s sch (total + (runT s a' last).count) (a' + (runT s a' last).len) w4) :=
                  ⟨HG4.out, hs4, by omega, by omega, by omega, hsl3, by have e := HP.out.eq; rw [loop_end hok hit, HTC.out, HSC3.out] at e; exact e⟩
                clear hg4 hs4
                go_wp2_with fail
                go_roundw
                case rel => exact ⟨sch, f, (runT s a' last).thread, (total + (runT s a' last).count), false, a' + (runT s a' last).len, rfl, rfl, rfl, hide (Or.inr ⟨rfl, HN.out⟩), HO4⟩
                case measure =>
                  have e2 := HAT.out
                  simp only [mPar, e2]
                  omega
            · have hm3 : total + (runT s a' last).count < 501 := by omega
              obtain ⟨c, hc⟩ := Int.eq_ofNat_of_zero_le hc0
              obtain ⟨sch3, hs3⟩ : ∃ sch3, sch3 = sch ++ List.replicate c (runT s a' last).thread := ⟨_, rfl⟩
              have HSC3 : Hid (addRun sch (total + (runT s a' last).count) (runT s a' last).count (runT s a' last).thread = sch3) := by
                unfold Hid addRun; rw [if_pos (by omega), hs3, hc]; rfl
              have hsl3 : (sch3.length : Int) ≤ (total + (runT s a' last).count) := by rw [hs3]; simp; omega
              have HAP := append_m W0 w3 (some b) (.slice x1 x2 x3) sch (runT s a' last).thread c (by rw [hW0s]; exact HO3.out) HG3.out (by omega) (by omega)
              rw [hW0s, ← hs3, ← hc] at HAP
              have HAPP := hide HAP
              have HC := hide hc
              have HS3' := hide hs3
              clear HAP hc hs3
              clear hm2
              go_wp2_with fail
              rw [← HW3.out]
              refine HAPP.out.mono ?_
              rintro e w5 ⟨sv5, rfl, ho5, hg5, hk5, y1, y2, y3, rfl⟩
              have HS5 : Hid (ScAt w5 b s (a' + (runT s a' last).len)) := by
                have h3 := HS3.out
                have hl3 := h3.lt
                have hob := owns_block HO3.out
                unfold Hid ScAt at *
                rw [hk5.block b hl3 (fun e => by have := hob b e.symm; omega)]; exact h3
              have HO5 := hide ho5
              have HG5 := hide hg5
              clear ho5 hg5 hk5 HAPP
              have hsz3 : b < w5.heap.size := HS5.out.lt
              have hle3 : a' + (runT s a' last).len ≤ s.size := hle2
              go_wp2_with fail
              refine (skip_m s b _ 32 _ HS5.out hle3 hs).mono ?_
              rintro e w4 ⟨hg4, rfl, hs4⟩
              have HO4 : Hid (w4.ownsRow (b + 1) 3 1 (.slice y1 y2 y3) sch3.length (ints sch3)) := owns_grown HO5.out hg4 (fun k e => by simp at e; omega)
              have HG4 : Hid (W0.grownBy w4 (some b)) := grown_trans HG5.out hg4
              unfold skAt at hs4
              cases hit : hitB s (a' + (runT s a' last).len) 32 with
              | true =>
                rw [hit, if_pos rfl] at hs4
                have HN : Hid (ParIn W0 b s f sch3 (runT s a' last).thread (total + (runT s a' last).count) (a' + (runT s a' last).len + 1) w4) := by
                  have hlt : a' + (runT s a' last).len < s.size := by
                    unfold hitB at hit
                    have := hi_lt_of_get (show (byt s)[a' + (runT s a' last).len]? = some 32 by simpa using hit)
                    rwa [byt_len] at this
                  exact ⟨HG4.out, hs4, by omega, htl, hth, by omega, by omega, hsl3, by omega, by have e := HP.out.eq; rw [loop_more hok hit, HTC.out, HSC3.out] at e; exact e⟩
                clear hg4 hs4
                go_wp2_with fail
                go_roundw
                case rel => exact ⟨sch3, f, (runT s a' last).thread, (total + (runT s a' last).count), true, a' + (runT s a' last).len + 1, rfl, rfl, rfl, hide (Or.inl ⟨rfl, HN.out⟩), HO4⟩
                case measure =>
                  have e1 := atOf_sc HN.out.sc
                  have e2 := HAT.out
                  have e3 := HN.out.le
                  simp only [mPar, e1, e2]
                  omega
              | false =>
                rw [hit, if_neg (by simp)] at hs4
                have HN : Hid (ParEnd W0 b s sch3 (total + (runT s a' last).count) (a' + (runT s a' last).len) w4) :=
                  ⟨HG4.out, hs4, by omega, by omega, by omega, hsl3, by have e := HP.out.eq; rw [loop_end hok hit, HTC.out, HSC3.out] at e; exact e⟩
                clear hg4 hs4
                go_wp2_with fail
                go_roundw
                case rel => exact ⟨sch3, f, (runT s a' last).thread, (total + (runT s a' last).count), false, a' + (runT s a' last).len, rfl, rfl, rfl, hide (Or.inr ⟨rfl, HN.out⟩), HO4⟩
                case measure =>
                  have e2 := HAT.out
                  simp only [mPar, e2]
                  omega
      · have HP := hide hp
        have c1 := hp.sc.c1
        have hle := hp.le
        clear hp HI
        by_cases hlt : a' < s.size
        · have HE : Hid (parseP (byt s) = ⟨[], a', false⟩) := by unfold Hid; rw [← HP.out.eq, endP, if_pos hlt]
          have q1 : (a' : Int) < s.size := by omega
          go_wp2_with fail
          go_quiet (fail)
          go_wp2_with fail
          refine bodyPost_ret (v := .tuple #[.slice none 0 0, .int .i64 (a' : Int), .bool false]) (by simp [results, Tryz.results43, go_sem]) rfl ?_
          exact FIN.out _ (grown_drewN _ HP.out.grown) none 0 0 ⟨[], a', false⟩ HE.out.symm (HNIL.out _)
        · have q1 : (s.size : Int) ≤ a' := by omega
          by_cases h5 : total = 501
          · have HE : Hid (parseP (byt s) = ⟨[], 0, false⟩) := by unfold Hid; rw [← HP.out.eq, endP, if_neg hlt, if_pos h5]
            have h6 : (total == 501) = true := by simpa using h5
            clear h5
            go_wp2_with fail
            refine bodyPost_ret (v := .tuple #[.slice none 0 0, .int .i64 0, .bool false]) (by simp [results, Tryz.results43, go_sem]) rfl ?_
            exact FIN.out _ HP.out.grown none 0 0 ⟨[], 0, false⟩ HE.out.symm (HNIL.out _)
          · have HE : Hid (parseP (byt s) = ⟨sch, 0, true⟩) := by unfold Hid; rw [← HP.out.eq, endP, if_neg hlt, if_neg h5]
            go_wp2_with fail
            refine bodyPost_ret (v := .tuple #[.slice x1 x2 x3, .int .i64 0, .bool true]) (by simp [results, Tryz.results43, go_sem]) rfl ?_
            exact FIN.out _ HP.out.grown x1 x2 x3 ⟨sch, 0, true⟩ HE.out.symm HO.out

end Go.Proofs.YtklenjmfalljgaaGreatDoor

/- The runs of a schedule and their text, as plain functions (no dump is named here). -/
namespace Go.Proofs.YtklenjmfalljgaaGreatDoor

def validS (l : List Int) : Bool := decide (l.length ≤ 500) && l.all fun t => decide (0 ≤ t) && decide (t ≤ 63)

def grp : List Int → List (Int × Int)
  | [] => []
  | t :: r => match grp r with
    | [] => [(t, 1)]
    | x :: q => if t = x.1 then (t, x.2 + 1) :: q else (t, 1) :: x :: q

def bump : List (Int × Int) → List (Int × Int)
  | [] => []
  | [x] => [(x.1, x.2 + 1)]
  | x :: y :: q => x :: bump (y :: q)

theorem grp_head (t : Int) (r : List Int) : ∃ n q, grp (t :: r) = (t, n) :: q := by
  unfold grp
  cases grp r with
  | nil => exact ⟨_, _, rfl⟩
  | cons x q => simp only; split <;> exact ⟨_, _, rfl⟩
theorem grp_ne {l : List Int} (h : l ≠ []) : grp l ≠ [] := by
  cases l with
  | nil => exact absurd rfl h
  | cons t r => obtain ⟨n, q, e⟩ := grp_head t r; rw [e]; simp

theorem grp_snoc (l : List Int) (t : Int) : grp (l ++ [t]) = if l.getLast? = some t then bump (grp l) else grp l ++ [(t, 1)] := by
  induction l with
  | nil => simp [grp]
  | cons a r ih =>
    cases r with
    | nil =>
      by_cases h : a = t
      · simp [grp, bump, h]
      · simp [grp, h]
    | cons b s =>
      have e1 : (a :: b :: s).getLast? = (b :: s).getLast? := by simp [List.getLast?_cons_cons]
      rw [e1]
      obtain ⟨n, q, e⟩ := grp_head b s
      have e2 : a :: b :: s ++ [t] = a :: (b :: s ++ [t]) := rfl
      have e3 : grp (a :: b :: s) = if a = b then (a, n + 1) :: q else (a, 1) :: (b, n) :: q := by
        conv => lhs; rw [grp, e]
      rw [e2, grp, ih, e3, e]
      by_cases hl : (b :: s).getLast? = some t
      · rw [if_pos hl, if_pos hl]
        by_cases hab : a = b
        · rw [if_pos hab]
          cases q with
          | nil => simp [bump, hab]
          | cons x q => simp [bump, hab]
        · rw [if_neg hab]
          cases q with
          | nil => simp [bump, hab]
          | cons x q => simp [bump, hab]
      · rw [if_neg hl, if_neg hl]
        by_cases hab : a = b
        · rw [if_pos hab]; simp [hab]
        · rw [if_neg hab]; simp [hab]

theorem grp_last (l : List Int) : (grp l).getLast?.map (·.1) = l.getLast? := by
  induction l with
  | nil => rfl
  | cons a r ih =>
    cases r with
    | nil => rfl
    | cons b s =>
      obtain ⟨n, q, e⟩ := grp_head b s
      rw [grp, e]
      rw [e] at ih
      rw [List.getLast?_cons_cons]
      simp only
      split
      · rename_i h
        rw [← ih]
        cases q with
        | nil => simp [h]
        | cons x q => simp [List.getLast?_cons_cons]
      · rw [← ih]; simp [List.getLast?_cons_cons]

theorem grp_len (l : List Int) : (grp l).length ≤ l.length := by
  induction l with
  | nil => simp [grp]
  | cons a r ih =>
    unfold grp
    cases h : grp r with
    | nil => simp
    | cons x q =>
      rw [h] at ih
      simp only
      split
      · simp at ih ⊢; omega
      · simpa using ih

theorem grp_mem (l : List Int) : ∀ x ∈ grp l, x.1 ∈ l ∧ 1 ≤ x.2 ∧ x.2 ≤ l.length := by
  induction l with
  | nil => simp [grp]
  | cons a r ih =>
    unfold grp
    cases h : grp r with
    | nil => simp; omega
    | cons x q =>
      rw [h] at ih
      have hx := ih x (by simp)
      simp only
      split
      · rename_i e
        intro y hy
        rcases List.mem_cons.1 hy with rfl | hy
        · simp; omega
        · have := ih y (by simp [hy]); simp; exact ⟨Or.inr this.1, this.2.1, by omega⟩
      · intro y hy
        rcases List.mem_cons.1 hy with rfl | hy
        · simp; omega
        · have := ih y hy; simp; exact ⟨Or.inr this.1, this.2.1, by omega⟩

def wordS (t n : Int) : List UInt8 := if n = 1 then Lib.itoa t else Lib.itoa t ++ [42] ++ Lib.itoa n
def printS (l : List Int) : List UInt8 := Lib.join ((grp l).map fun x => wordS x.1 x.2) [32]

end Go.Proofs.YtklenjmfalljgaaGreatDoor

/- The walks of Valid and Of. -/
namespace Go.Proofs.YtklenjmfalljgaaGreatDoor
open Go.RowKit
attribute [local go_sem] Go.World.cell?_alloc_some

def okN (t : Int) : Bool := decide (0 ≤ t) && decide (t ≤ 63)

set_option maxRecDepth 100000 in
set_option maxHeartbeats 1000000 in
theorem valid_t (l : List Int) (v : Value) (w : World) (hI : IntsAt w.heap.size w v l) :
    Calls Tryz.prog 41 #[v] w fun e w' => e = .returned (.bool (validS l)) ∧ w.grownBy w' none := by
  obtain ⟨ao, cap, rfl, hcap, hc⟩ := hI
  by_cases h5 : l.length ≤ 500
  · have g5 : (l.length : Int) ≤ 500 := by omega
    have HV : Hid (validS l = l.all okN) := by unfold Hid validS; rw [decide_eq_true h5]; rfl
    have HC := hide hc
    clear hc
    go_enter Tryz.func41, Tryz.ntmps41
    go_wp2
    go_loopw [10] (fun i w' => ∃ k : Nat, k ≤ l.length ∧ i = .int .i64 k ∧ w' = w ∧ Hid ((l.take k).all okN = true)) (fun i _ => l.length - (intOf i).toNat)
    case atStart => exact ⟨0, Nat.zero_le _, rfl, rfl, rfl⟩
    case round =>
      obtain ⟨k, hk, rfl, rfl, HA⟩ := hrel
      by_cases hlt : k < l.length
      · obtain ⟨g, o, rfl, hg, c0⟩ := HC.out k hlt
        have HAs := hide (all_take_succ l okN k hlt)
        have hk0 : (0 : Int) ≤ (k : Int) := by omega
        have hk1 : (k : Int) < l.length := by omega
        have HF : Hid (okN l[k] = false → validS l = false) := by
          intro h
          rw [HV.out]
          have : (l.take (k + 1)).all okN = false := by rw [HAs.out, h]; simp
          rw [← List.take_append_drop (k + 1) l, List.all_append, this]; rfl
        generalize l[k] = x at *
        by_cases h0 : 0 ≤ x
        · by_cases h63 : x ≤ 63
          · have HA1 : Hid ((l.take (k + 1)).all okN = true) := by unfold Hid; rw [HAs.out, HA.out]; simp [okN, h0, h63]
            have h0' : ¬ x < 0 := by omega
            have h63' : ¬ 63 < x := by omega
            go_wp2
            go_roundw
            case rel => exact ⟨k + 1, by omega, by go_num, trivial, HA1⟩
            case measure => simp [intOf]; omega
          · have HE := hide (HF.out (by simp [okN, h63]))
            have h63' : 63 < x := by omega
            go_wp2
            go_ret
            exact ⟨by rw [HE.out]; rfl, grown_refl _ _⟩
        · have HE := hide (HF.out (by simp [okN, h0]))
          have h0' : x < 0 := by omega
          go_wp2
          go_ret
          exact ⟨by rw [HE.out]; rfl, grown_refl _ _⟩
      · have HE : Hid (validS l = true) := by
          unfold Hid
          rw [HV.out]
          have := HA.out
          rw [List.take_of_length_le (by omega)] at this
          exact this
        go_wp2
        go_ret
        exact ⟨by rw [HE.out]; rfl, grown_refl _ _⟩
  · have g5 : 500 < (l.length : Int) := by omega
    have HV : Hid (validS l = false) := by unfold Hid validS; rw [decide_eq_false h5]; rfl
    clear hc
    go_enter Tryz.func41, Tryz.ntmps41
    go_wp2
    go_ret
    exact ⟨by rw [HV.out]; rfl, grown_refl _ _⟩

theorem flatS_len (q : List (Int × Int)) : (flatS q).length = q.length * 2 := by
  induction q with
  | nil => rfl
  | cons x q ih => simp [flatS] at ih ⊢; omega

theorem flat_bump (q : List (Int × Int)) (hq : q ≠ []) (x : Int × Int) (hx : q.getLast? = some x) : (flatS q).set ((q.length - 1) * 2 + 1) (.int .i64 (x.2 + 1)) = flatS (bump q) := by
  induction q with
  | nil => exact absurd rfl hq
  | cons y q ih =>
    cases q with
    | nil =>
      simp at hx; subst hx
      simp [flatS, bump]
    | cons z q =>
      rw [List.getLast?_cons_cons] at hx
      have := ih (by simp) hx
      have e1 : flatS (y :: z :: q) = .int .i64 y.1 :: .int .i64 y.2 :: flatS (z :: q) := rfl
      have e2 : flatS (bump (y :: z :: q)) = .int .i64 y.1 :: .int .i64 y.2 :: flatS (bump (z :: q)) := rfl
      rw [e1, e2, ← this]
      have e3 : ((y :: z :: q).length - 1) * 2 + 1 = (((z :: q).length - 1) * 2 + 1) + 1 + 1 := by simp; omega
      rw [e3, List.set_cons_succ, List.set_cons_succ]
theorem bump_len (q : List (Int × Int)) : (bump q).length = q.length := by
  induction q with
  | nil => rfl
  | cons y q ih =>
    cases q with
    | nil => rfl
    | cons z q => simp [bump] at ih ⊢; exact ih

theorem flat_get (q : List (Int × Int)) (x : Int × Int) (hx : q.getLast? = some x) : (flatS q)[(q.length - 1) * 2 + 1]? = some (.int .i64 x.2) := by
  induction q with
  | nil => simp at hx
  | cons y q ih =>
    cases q with
    | nil => simp at hx; subst hx; simp [flatS]
    | cons z q =>
      rw [List.getLast?_cons_cons] at hx
      have := ih hx
      have e1 : flatS (y :: z :: q) = .int .i64 y.1 :: .int .i64 y.2 :: flatS (z :: q) := rfl
      have e3 : ((y :: z :: q).length - 1) * 2 + 1 = (((z :: q).length - 1) * 2 + 1) + 1 + 1 := by simp; omega
      rw [e1, e3]; exact this

theorem info_run : ((Tryz.prog.info? 148).map fun i => (i.zero, i.size, i.bytes)) = some (some (.agg #[.int .i64 0, .int .i64 0]), 2, 16) := by kernel_rfl

set_option maxRecDepth 100000 in
set_option maxHeartbeats 1000000 in
theorem of_m (l : List Int) (v : Value) (w : World) (hI : IntsAt w.heap.size w v l) (h5 : l.length ≤ 500) :
    Calls Tryz.prog 68 #[v] w fun e w' => ∃ x y z, e = .returned (.slice x y z) ∧ w'.ownsRow w.heap.size 148 2 (.slice x y z) (grp l).length (flatS (grp l)) ∧ w.grownBy w' none := by
  obtain ⟨i0, hi0, hz0, hz1, hz2⟩ := info_parts info_run
  obtain ⟨ao, cap, rfl, hcap, hc⟩ := hI
  have HC := hide hc
  clear hc
  go_enter Tryz.func68, Tryz.ntmps68
  go_wp2_with fail
  go_loopw [3, 8] (fun lv i w' => ∃ k : Nat, k ≤ l.length ∧ i = .int .i64 k ∧ Hid (w'.ownsRow w.heap.size 148 2 lv (grp (l.take k)).length (flatS (grp (l.take k))) ∧ w.grownBy w' none)) (fun _ i _ => l.length - (intOf i).toNat)
  case atStart => exact ⟨0, Nat.zero_le _, rfl, ⟨rfl, Or.inl ⟨rfl, rfl⟩⟩, grown_refl _ _⟩
  case round =>
    obtain ⟨k, hk, rfl, HL⟩ := hrel
    obtain ⟨w5, hw5⟩ : ∃ w5, w5 = wr := ⟨_, rfl⟩
    subst hw5
    obtain ⟨x1, x2, x3, rfl⟩ := owns_form HL.out.1
    by_cases hlt : k < l.length
    · obtain ⟨g, o, rfl, hg, c0⟩ := HC.out k hlt
      have d0 := pres_grown HL.out.2 _ _ c0
      have hk0 : (0 : Int) ≤ (k : Int) := by omega
      have hk1 : (k : Int) < l.length := by omega
      have HT : Hid (l.take (k + 1) = l.take k ++ [l[k]]) := List.take_succ_eq_append_getElem hlt
      have hgl := grp_len (l.take k)
      have hgl2 : (grp (l.take k)).length ≤ 500 := by simp at hgl; omega
      have hglast := grp_last (l.take k)
      have hcount := grp_mem (l.take k)
      -- the bump behind
      have bum : ∀ (w6 : World) (g6 cap6 : Nat) (q : List (Int × Int)) (x : Int × Int), q ≠ [] → q.getLast? = some x → w6.ownsRow w.heap.size 148 2 (.slice (some ⟨g6, 0, none⟩) q.length cap6) q.length (flatS q) → w.grownBy w6 none →
          (w6.setCell ⟨g6, (q.length - 1) * 2 + 1, none⟩ (.int .i64 (x.2 + 1))).ownsRow w.heap.size 148 2 (.slice (some ⟨g6, 0, none⟩) q.length cap6) (bump q).length (flatS (bump q)) ∧ w.grownBy (w6.setCell ⟨g6, (q.length - 1) * 2 + 1, none⟩ (.int .i64 (x.2 + 1))) none ∧
          w6.cell? ⟨g6, (q.length - 1) * 2 + 1, none⟩ = some (.int .i64 x.2) ∧ w6.frozen? ⟨g6, (q.length - 1) * 2 + 1, none⟩ = false := by
        intro w6 g6 cap6 q x hq hx ho hgr
        have hql : 0 < q.length := List.length_pos_iff.2 hq
        refine ⟨?_, ?_, ?_, ?_⟩
        · rw [bump_len, ← flat_bump q hq x hx]; exact owns_setCell ho _ _
        · exact grown_setNew hgr (owns_block ho g6 rfl)
        · rw [ho.cellAt _ (by omega)]; exact flat_get q x hx
        · rcases ho.2 with ⟨e, _⟩ | ⟨g', cap', cur, hv, hb, hh, _⟩
          · cases e
          · simp only [Value.slice.injEq, Option.some.injEq, Addr.mk.injEq, true_and, and_true] at hv
            obtain ⟨rfl, rfl⟩ := hv
            simp [World.frozen?, hh]
      have BUM := hide bum
      clear bum
      have H1 := hide HL.out.1
      have H2 := hide HL.out.2
      have H2s := HL.out.2.size
      have hob := owns_block H1.out
      have h63 : (grp (l.take k)).length + 1 ≤ maxLen := by unfold maxLen; omega
      have newrun : ¬ (l.take k).getLast? = some l[k] → ∀ (w6 : World) (g6 cap6 : Nat), w6.ownsRow w.heap.size 148 2 (.slice (some ⟨g6, 0, none⟩) ((grp (l.take k)).length + 1) cap6) ((grp (l.take k)).length + 1) (flatS (grp (l.take k)) ++ [.int .i64 l[k], .int .i64 0]) → w.grownBy w6 none →
          (w6.setCell ⟨g6, (grp (l.take k)).length * 2 + 1, none⟩ (.int .i64 1)).ownsRow w.heap.size 148 2 (.slice (some ⟨g6, 0, none⟩) ((grp (l.take k)).length + 1) cap6) (grp (l.take (k + 1))).length (flatS (grp (l.take (k + 1)))) ∧ w.grownBy (w6.setCell ⟨g6, (grp (l.take k)).length * 2 + 1, none⟩ (.int .i64 1)) none ∧
          w6.cell? ⟨g6, (grp (l.take k)).length * 2 + 1, none⟩ = some (.int .i64 0) ∧ w6.frozen? ⟨g6, (grp (l.take k)).length * 2 + 1, none⟩ = false := by
        intro hn w6 g6 cap6 ho hgr
        have := BUM.out w6 g6 cap6 (grp (l.take k) ++ [(l[k], 0)]) (l[k], 0) (by simp) (by simp) (by simpa [flatS] using ho) hgr
        have e2 : bump (grp (l.take k) ++ [(l[k], 0)]) = grp (l.take (k + 1)) := by
          rw [HT.out, grp_snoc, if_neg hn]
          have : ∀ q : List (Int × Int), bump (q ++ [(l[k], 0)]) = q ++ [(l[k], 1)] := by
            intro q
            induction q with
            | nil => rfl
            | cons y q ih =>
              cases q with
              | nil => rfl
              | cons z q => rw [List.cons_append, List.cons_append, bump, ← List.cons_append, ih]; rfl
          exact this _
        rw [e2] at this
        simpa using this
      have NEW := hide newrun
      clear newrun
      by_cases hk00 : k = 0
      · have hNL := NEW.out (by subst hk00; simp)
        have HNL := hide hNL
        clear hNL NEW BUM hglast hcount hgl
        have q0 : ((k : Int) == 0) = true := by simp; omega
        clear hk00 c0
        generalize l[k] = x at *
        go_wp2_with (at_builtin; refine wpList_append_lies _ rfl _ _ _ rfl w.heap.size 148 i0 _ 2 16 Tryz.underlying145 hi0 hz0 hz1 hz2 rfl (by omega) (.slice x1 x2 x3) (grp (l.take k)).length (flatS (grp (l.take k))) rfl (owns_alloc H1.out) ⟨w5.heap.size, 0, none⟩ 1 1 [.int .i64 x, .int .i64 0] rfl rfl (World.news_of_block (cs := #[.int .i64 x, .int .i64 0]) (t := 148) (fr := (0, 0)) (heap_alloc_new w5 _)) (by simp [Value.oneCell']) (by omega) h63 (by omega) (by simp; omega) (w5.heap.size + 1) (by simp) ?_; intro g6 cap6 w6 hown6 hgrow hat hlt6; obtain ⟨f1, f2, f3, f4⟩ := HNL.out w6 g6 cap6 hown6 (grown_row (grown_alloc H2.out) hgrow (fun q e => hob q e)); have F1 := hide f1; have F2 := hide f2; clear f1 f2 hown6 hgrow hat)
        go_roundw
        case rel => exact ⟨k + 1, by omega, by go_num, F1.out, F2.out⟩
        case measure => simp [intOf]; omega
      · have q0 : ((k : Int) == 0) = false := by simp; omega
        have hk1' : k - 1 < l.length := by omega
        obtain ⟨g', o', e', _, c1⟩ := HC.out (k - 1) hk1'
        simp only [Option.some.injEq, Addr.mk.injEq, and_true] at e'
        obtain ⟨rfl, rfl⟩ := e'
        have d1 := pres_grown H2.out _ _ c1
        have hlastT : (l.take k).getLast? = some l[k - 1] := by
          rw [List.getLast?_eq_getElem?, List.length_take, Nat.min_eq_left (by omega), List.getElem?_take, if_pos (by omega), List.getElem?_eq_getElem hk1']
        have hkk : (k : Int) - 1 = ((k - 1 : Nat) : Int) := by omega
        have q1 : (0 : Int) ≤ (k : Int) - 1 := by omega
        have q2 : (k : Int) - 1 < l.length := by omega
        have q3 : ((k : Int) - 1).toNat = k - 1 := by omega
        clear c0 c1 hk00
        by_cases hne : l[k] = l[k - 1]
        · have hx : ∃ x, (grp (l.take k)).getLast? = some x := by
            rw [hlastT] at hglast
            cases hg2 : (grp (l.take k)).getLast? with
            | none => rw [hg2] at hglast; cases hglast
            | some x => exact ⟨x, rfl⟩
          obtain ⟨y, hy⟩ := hx
          have hyc := hcount y (List.mem_of_getLast? hy)
          have hne2 : grp (l.take k) ≠ [] := fun e => by rw [e] at hy; cases hy
          have hE : Hid (bump (grp (l.take k)) = grp (l.take (k + 1))) := by
            unfold Hid; rw [HT.out, grp_snoc, if_pos (by rw [hlastT, hne])]
          obtain ⟨m, hm⟩ : ∃ m, (grp (l.take k)).length = m + 1 := ⟨(grp (l.take k)).length - 1, by have := List.length_pos_iff.2 hne2; omega⟩
          obtain ⟨g6, cap6, e6, _, _⟩ := H1.out.form (by omega)
          have h1 := H1.out
          rw [e6] at h1
          obtain ⟨f1, f2, f3, f4⟩ := BUM.out w5 g6 cap6 (grp (l.take k)) y hne2 hy h1 H2.out
          rw [hE.out, hm, Nat.add_sub_cancel] at f1
          rw [hm, Nat.add_sub_cancel] at f2 f3 f4
          rw [hm] at e6
          simp only [Value.slice.injEq] at e6
          obtain ⟨rfl, rfl, rfl⟩ := e6
          have F1 := hide f1
          have F2 := hide f2
          have heq : (l[k] == l[k - 1]) = true := by simpa using hne
          have hyc2 : y.2 ≤ 500 := by simp at hyc; omega
          have hyc1 := hyc.2.1
          have hm500 : m + 1 ≤ 500 := by omega
          have HM := hide hm
          rw [hm] at h63
          clear f1 f2 h1 BUM NEW hglast hcount hgl hgl2 hE hne2 hy hyc hm HL H1 H2 hlastT hob HT hne
          generalize l[k] = x at *
          generalize l[k - 1] = x' at *
          generalize y.2 = n at *
          go_wp2_with fail
          go_roundw
          case rel => exact ⟨k + 1, by omega, by go_num, F1.out, F2.out⟩
          case measure => simp [intOf]; omega
        · have hNL := NEW.out (by rw [hlastT]; simpa using fun e => hne e.symm)
          have HNL := hide hNL
          have heq : (l[k] == l[k - 1]) = false := by simpa using hne
          clear hNL NEW BUM hglast hcount hgl hlastT
          generalize l[k - 1] = x' at *
          generalize l[k] = x at *
          go_wp2_with (at_builtin; refine wpList_append_lies _ rfl _ _ _ rfl w.heap.size 148 i0 _ 2 16 Tryz.underlying145 hi0 hz0 hz1 hz2 rfl (by omega) (.slice x1 x2 x3) (grp (l.take k)).length (flatS (grp (l.take k))) rfl (owns_alloc H1.out) ⟨w5.heap.size, 0, none⟩ 1 1 [.int .i64 x, .int .i64 0] rfl rfl (World.news_of_block (cs := #[.int .i64 x, .int .i64 0]) (t := 148) (fr := (0, 0)) (heap_alloc_new w5 _)) (by simp [Value.oneCell']) (by omega) h63 (by omega) (by simp; omega) (w5.heap.size + 1) (by simp) ?_; intro g6 cap6 w6 hown6 hgrow hat hlt6; obtain ⟨f1, f2, f3, f4⟩ := HNL.out w6 g6 cap6 hown6 (grown_row (grown_alloc H2.out) hgrow (fun q e => hob q e)); have F1 := hide f1; have F2 := hide f2; clear f1 f2 hown6 hgrow hat)
          go_roundw
          case rel => exact ⟨k + 1, by omega, by go_num, F1.out, F2.out⟩
          case measure => simp [intOf]; omega
    · have ek : l.take k = l := List.take_of_length_le (by omega)
      have q2 : (l.length : Int) ≤ (k : Int) := by omega
      have HL2 := HL.out
      rw [ek] at HL2
      have HL3 := hide HL2
      clear HL2 HL
      go_wp2
      go_ret
      exact ⟨_, _, _, rfl, HL3.out.1, HL3.out.2⟩

end Go.Proofs.YtklenjmfalljgaaGreatDoor

/- The check of bytes, as a plain function on numbers: what is other within 32 bits side by side is told (no dump is named here). -/
namespace Go.Proofs.YtklenjmfalljgaaGreatDoor

def shN (c : Nat) : Nat := if c % 2 = 1 then (c / 2) ^^^ 3988292384 else c / 2

theorem xor_half (c d : Nat) : (c ^^^ d) / 2 = c / 2 ^^^ d / 2 := by
  apply Nat.eq_of_testBit_eq
  intro i
  simp [Nat.testBit_div_two, Nat.testBit_xor]
theorem xor_low (c d : Nat) : (c ^^^ d) % 2 = (c + d) % 2 := by
  have h := Nat.testBit_xor c d 0
  simp only [Nat.testBit_zero] at h
  have h1 : (c ^^^ d) % 2 < 2 := Nat.mod_lt _ (by decide)
  have h2 : c % 2 < 2 := Nat.mod_lt _ (by decide)
  have h3 : d % 2 < 2 := Nat.mod_lt _ (by decide)
  have e1 : c % 2 = 0 ∨ c % 2 = 1 := by omega
  have e2 : d % 2 = 0 ∨ d % 2 = 1 := by omega
  have e3 : (c ^^^ d) % 2 = 0 ∨ (c ^^^ d) % 2 = 1 := by omega
  rcases e1 with e1 | e1 <;> rcases e2 with e2 | e2 <;> rcases e3 with e3 | e3 <;> simp [e1, e2, e3] at h <;> omega

theorem shN_xor (c d : Nat) : shN (c ^^^ d) = shN c ^^^ shN d := by
  unfold shN
  rw [xor_half, xor_low]
  have h2 : c % 2 < 2 := Nat.mod_lt _ (by decide)
  have h3 : d % 2 < 2 := Nat.mod_lt _ (by decide)
  have e1 : c % 2 = 0 ∨ c % 2 = 1 := by omega
  have e2 : d % 2 = 0 ∨ d % 2 = 1 := by omega
  rcases e1 with e1 | e1 <;> rcases e2 with e2 | e2
  · rw [if_neg (by omega), if_neg (by omega), if_neg (by omega)]
  · rw [if_pos (by omega), if_neg (by omega), if_pos (by omega), Nat.xor_assoc]
  · rw [if_pos (by omega), if_pos (by omega), if_neg (by omega), Nat.xor_assoc, Nat.xor_comm (d / 2), ← Nat.xor_assoc]
  · rw [if_neg (by omega), if_pos (by omega), if_pos (by omega)]
    have : ∀ a b p : Nat, a ^^^ p ^^^ (b ^^^ p) = a ^^^ b := fun a b p => by
      rw [Nat.xor_comm b p, Nat.xor_assoc, ← Nat.xor_assoc p p b, Nat.xor_self, Nat.zero_xor]
    rw [this]
theorem shN_zero : shN 0 = 0 := rfl
theorem shN_lt {c : Nat} (h : c < 4294967296) : shN c < 4294967296 := by
  unfold shN
  split
  · exact Nat.xor_lt_two_pow (n := 32) (by omega) (by decide)
  · omega
theorem shN_inj {c d : Nat} (hc : c < 4294967296) (hd : d < 4294967296) (h : shN c = shN d) : c = d := by
  have top : ∀ x : Nat, x < 2147483648 → (x ^^^ 3988292384).testBit 31 = true := by
    intro x hx
    rw [Nat.testBit_xor, Nat.testBit_lt_two_pow (x := x) (by omega)]
    decide
  have low : ∀ x : Nat, x < 2147483648 → x.testBit 31 = false := fun x hx => Nat.testBit_lt_two_pow (by omega)
  unfold shN at h
  split at h <;> split at h
  · have : c / 2 = d / 2 := by
      have := congrArg (· ^^^ 3988292384) h
      simpa [Nat.xor_assoc] using this
    omega
  · have h1 := top (c / 2) (by omega)
    rw [h, low (d / 2) (by omega)] at h1; cases h1
  · have h1 := top (d / 2) (by omega)
    rw [← h, low (c / 2) (by omega)] at h1; cases h1
  · omega

def shK : Nat → Nat → Nat
  | 0, c => c
  | k + 1, c => shK k (shN c)
theorem shK_zero (k : Nat) : shK k 0 = 0 := by
  induction k with
  | zero => rfl
  | succ k ih => rw [shK, shN_zero, ih]
theorem shK_xor (k c d : Nat) : shK k (c ^^^ d) = shK k c ^^^ shK k d := by
  induction k generalizing c d with
  | zero => rfl
  | succ k ih => rw [shK, shN_xor, ih]; rfl
theorem shK_lt (k : Nat) {c : Nat} (h : c < 4294967296) : shK k c < 4294967296 := by
  induction k generalizing c with
  | zero => exact h
  | succ k ih => exact ih (shN_lt h)
theorem shK_inj (k : Nat) {c d : Nat} (hc : c < 4294967296) (hd : d < 4294967296) (h : shK k c = shK k d) : c = d := by
  induction k generalizing c d with
  | zero => exact h
  | succ k ih => exact shN_inj hc hd (ih (shN_lt hc) (shN_lt hd) h)
theorem shK_add (j k c : Nat) : shK (j + k) c = shK k (shK j c) := by
  induction j generalizing c with
  | zero => rw [Nat.zero_add]; rfl
  | succ j ih => rw [Nat.succ_add, shK, ih]; rfl

/-- The state behind some bytes. -/
def crcF (c : Nat) (l : List Nat) : Nat := l.foldl (fun c b => shK 8 (c ^^^ b)) c
def crcN (l : List Nat) : Nat := 4294967295 ^^^ crcF 4294967295 l

theorem crcF_lt (c : Nat) (l : List Nat) (hc : c < 4294967296) (hl : ∀ b ∈ l, b < 256) : crcF c l < 4294967296 := by
  induction l generalizing c with
  | nil => exact hc
  | cons b r ih =>
    have hb := hl b (by simp)
    exact ih _ (shK_lt 8 (Nat.xor_lt_two_pow (n := 32) (by omega) (by omega))) (fun x hx => hl x (by simp [hx]))
theorem crcF_append (c : Nat) (l m : List Nat) : crcF c (l ++ m) = crcF (crcF c l) m := by simp [crcF]
theorem crcF_xor (c d : Nat) (l m : List Nat) (h : l.length = m.length) : crcF (c ^^^ d) (List.zipWith (· ^^^ ·) l m) = crcF c l ^^^ crcF d m := by
  induction l generalizing c d m with
  | nil =>
    cases m with
    | nil => rfl
    | cons => simp at h
  | cons a l ih =>
    cases m with
    | nil => simp at h
    | cons b m =>
      have e : c ^^^ d ^^^ (a ^^^ b) = (c ^^^ a) ^^^ (d ^^^ b) := by
        apply Nat.eq_of_testBit_eq; intro i
        simp only [Nat.testBit_xor]
        cases c.testBit i <;> cases d.testBit i <;> cases a.testBit i <;> cases b.testBit i <;> rfl
      simp only [List.zipWith_cons_cons, crcF, List.foldl_cons]
      rw [e, shK_xor]
      exact ih _ _ _ (by simpa using h)
theorem crcF_zeros (k : Nat) : crcF 0 (List.replicate k 0) = 0 := by
  induction k with
  | zero => rfl
  | succ k ih => rw [List.replicate_succ, crcF, List.foldl_cons]; simp only [Nat.xor_zero, shK_zero]; exact ih

theorem shN_two (x : Nat) : shN (2 * x) = x := by
  unfold shN; rw [if_neg (by omega)]; omega
theorem shK_pow (k x : Nat) : shK k (2 ^ k * x) = x := by
  induction k generalizing x with
  | zero => simp [shK]
  | succ k ih =>
    have e : 2 ^ (k + 1) * x = 2 * (2 ^ k * x) := by rw [Nat.pow_succ]; simp [Nat.mul_comm, Nat.mul_left_comm]
    rw [shK, e, shN_two, ih]

/-- A number's bytes, the lowest first, so many. -/
def leB : Nat → Nat → List Nat
  | 0, _ => []
  | k + 1, x => x % 256 :: leB k (x / 256)
theorem leB_len (k x : Nat) : (leB k x).length = k := by
  induction k generalizing x with
  | zero => rfl
  | succ k ih => simp [leB, ih]
theorem leB_lt (k x : Nat) : ∀ b ∈ leB k x, b < 256 := by
  induction k generalizing x with
  | zero => simp [leB]
  | succ k ih =>
    intro b hb
    rcases List.mem_cons.1 hb with rfl | hb
    · exact Nat.mod_lt _ (by decide)
    · exact ih _ b hb

theorem split256 (x : Nat) : x = (x % 256) ^^^ (2 ^ 8 * (x / 256)) := by
  apply Nat.eq_of_testBit_eq
  intro i
  rw [Nat.testBit_xor]
  have h1 : x % 256 = x % 2 ^ 8 := rfl
  have h2 : x / 256 = x / 2 ^ 8 := rfl
  rw [h1, h2, Nat.testBit_mod_two_pow, Nat.testBit_two_pow_mul, Nat.testBit_div_two_pow]
  by_cases h : i < 8
  · have : ¬ 8 ≤ i := by omega
    simp [h, this]
  · have h3 : 8 ≤ i := by omega
    have h4 : 8 + (i - 8) = i := by omega
    have h5 : i - 8 + 8 = i := by omega
    simp [h, h3]

/-- The bytes of a number are taken in at once. -/
theorem crcF_le (k : Nat) (c x : Nat) (hx : x < 256 ^ k) : crcF c (leB k x) = shK (8 * k) (c ^^^ x) := by
  induction k generalizing c x with
  | zero =>
    have : x = 0 := by simpa using hx
    subst this
    simp [leB, crcF, shK]
  | succ k ih =>
    have hx' : x / 256 < 256 ^ k := by rw [Nat.div_lt_iff_lt_mul (by decide)]; rwa [Nat.pow_succ] at hx
    have e0 : crcF c (leB (k + 1) x) = crcF (shK 8 (c ^^^ x % 256)) (leB k (x / 256)) := rfl
    rw [e0, ih _ _ hx', show 8 * (k + 1) = 8 + 8 * k by omega, shK_add]
    congr 1
    conv => rhs; rw [split256 x, ← Nat.xor_assoc, shK_xor, shK_pow]

/-- What was other, and began at a bit: the number x shifted by so many bits, as bytes. -/
theorem burst (j m k r x : Nat) (hx : x < 4294967296) (hk : k ≤ 8 * m) (hlt : 2 ^ k * x < 256 ^ m) (h0 : crcF 0 (List.replicate j 0 ++ leB m (2 ^ k * x) ++ List.replicate r 0) = 0) : x = 0 := by
  rw [crcF_append, crcF_append, crcF_zeros, crcF_le m 0 _ hlt, Nat.zero_xor] at h0
  have h40 : 8 * m = k + (8 * m - k) := by omega
  rw [h40, shK_add, shK_pow] at h0
  have hz : ∀ (r c : Nat), c < 4294967296 → crcF c (List.replicate r 0) = 0 → c = 0 := by
    intro r
    induction r with
    | zero => intro c _ h; exact h
    | succ r ih =>
      intro c hc h
      have e : crcF c (List.replicate (r + 1) 0) = crcF (shK 8 c) (List.replicate r 0) := by rw [List.replicate_succ, crcF, List.foldl_cons, Nat.xor_zero]; rfl
      rw [e] at h
      have := ih _ (shK_lt 8 hc) h
      exact shK_inj 8 hc (by decide) (by rw [this, shK_zero])
  have := hz r _ (shK_lt (8 * m - k) hx) h0
  exact shK_inj (8 * m - k) hx (by decide) (by rw [this, shK_zero])

theorem crcN_lt (l : List Nat) (hl : ∀ b ∈ l, b < 256) : crcN l < 4294967296 := Nat.xor_lt_two_pow (n := 32) (by decide) (crcF_lt _ l (by decide) hl)

/-- Bytes that bear their check leave one state, whatever they are. -/
theorem crc_state (l : List Nat) (hl : ∀ b ∈ l, b < 256) : crcF 4294967295 (l ++ leB 4 (crcN l)) = shK 32 4294967295 := by
  rw [crcF_append, crcF_le 4 _ _ (crcN_lt l hl)]
  unfold crcN
  have : ∀ a b : Nat, b ^^^ (a ^^^ b) = a := fun a b => by rw [Nat.xor_comm a b, ← Nat.xor_assoc, Nat.xor_self, Nat.zero_xor]
  rw [this]

/-- P9's core: two rows of bytes, each with its check, that are one another's but for x from a bit on. -/
theorem crc_burst (u v : List Nat) (hu : ∀ b ∈ u, b < 256) (hv : ∀ b ∈ v, b < 256) (j m k r x : Nat) (hx : x < 4294967296) (hk : k ≤ 8 * m) (hlt : 2 ^ k * x < 256 ^ m)
    (hlen : (u ++ leB 4 (crcN u)).length = j + m + r)
    (he : v ++ leB 4 (crcN v) = List.zipWith (· ^^^ ·) (u ++ leB 4 (crcN u)) (List.replicate j 0 ++ leB m (2 ^ k * x) ++ List.replicate r 0)) : x = 0 := by
  have h1 := crc_state u hu
  have h2 := crc_state v hv
  have hl2 : (u ++ leB 4 (crcN u)).length = (List.replicate j 0 ++ leB m (2 ^ k * x) ++ List.replicate r 0).length := by
    rw [hlen]; simp [leB_len]; omega
  rw [he] at h2
  have h3 := crcF_xor 4294967295 0 _ _ hl2
  rw [Nat.xor_zero, h2, h1] at h3
  apply burst j m k r x hx hk hlt
  have h4 : ∀ a b : Nat, a = a ^^^ b → b = 0 := by
    intro a b h
    have := congrArg (a ^^^ ·) h
    simp only [Nat.xor_self, ← Nat.xor_assoc, Nat.zero_xor] at this
    exact this.symm
  exact h4 _ _ h3

end Go.Proofs.YtklenjmfalljgaaGreatDoor

/- Bytes of an artifact, written and read, as plain functions on lists of numbers (no dump is named here). -/
namespace Go.Proofs.YtklenjmfalljgaaGreatDoor

def numBF : Nat → Nat → List Nat
  | 0, n => [n]
  | k + 1, n => if n < 128 then [n] else (n % 128 + 128) :: numBF k (n / 128)
theorem numBF_eq : ∀ (j k n : Nat), n ≤ j → n ≤ k → numBF j n = numBF k n
  | 0, 0, _, _, _ => rfl
  | 0, k + 1, n, h, _ => by simp only [numBF]; rw [if_pos (by omega)]
  | j + 1, 0, n, _, h => by simp only [numBF]; rw [if_pos (by omega)]
  | j + 1, k + 1, n, h1, h2 => by
    simp only [numBF]
    by_cases h : n < 128
    · rw [if_pos h, if_pos h]
    · rw [if_neg h, if_neg h, numBF_eq j k (n / 128) (by omega) (by omega)]
def numB (n : Nat) : List Nat := numBF n n

theorem numB_small {n : Nat} (h : n < 128) : numB n = [n] := by
  unfold numB
  cases n with
  | zero => rfl
  | succ k => simp only [numBF]; rw [if_pos h]
theorem numB_big {n : Nat} (h : ¬ n < 128) : numB n = (n % 128 + 128) :: numB (n / 128) := by
  unfold numB
  cases n with
  | zero => omega
  | succ k =>
    simp only [numBF]
    rw [if_neg h, numBF_eq k ((k + 1) / 128) ((k + 1) / 128) (by omega) (Nat.le_refl _)]

theorem numB_lt (n : Nat) : ∀ b ∈ numB n, b < 256 := by
  induction n using Nat.strongRecOn with
  | ind n ih =>
    by_cases h : n < 128
    · rw [numB_small h]; simp; omega
    · rw [numB_big h]
      intro b hb
      rcases List.mem_cons.1 hb with rfl | hb
      · omega
      · exact ih (n / 128) (by omega) b hb

def rdN (place n : Nat) : List Nat → Option (Nat × List Nat)
  | [] => none
  | b :: r => if place < 64 ∧ (b % 128) * 2 ^ place < 18446744073709551616 then
      (if b < 128 then (if 0 < b ∨ place = 0 then some (n + (b % 128) * 2 ^ place, r) else none) else rdN (place + 7) (n + (b % 128) * 2 ^ place) r)
    else none

theorem rdN_num (n : Nat) : ∀ (place acc : Nat) (r : List Nat), n * 2 ^ place < 18446744073709551616 → (0 < n ∨ place = 0) → place < 64 → rdN place acc (numB n ++ r) = some (acc + n * 2 ^ place, r) := by
  induction n using Nat.strongRecOn with
  | ind n ih =>
    intro place acc r h1 h2 h3
    by_cases h : n < 128
    · rw [numB_small h]
      have e : n % 128 = n := Nat.mod_eq_of_lt h
      simp only [List.cons_append, List.nil_append, rdN, e]
      rw [if_pos ⟨h3, h1⟩, if_pos h, if_pos h2]
    · rw [numB_big h]
      have e : (n % 128 + 128) % 128 = n % 128 := by omega
      have hp : 0 < 2 ^ place := Nat.two_pow_pos _
      have hle : n % 128 * 2 ^ place ≤ n * 2 ^ place := Nat.mul_le_mul_right _ (Nat.mod_le _ _)
      have hsum : n % 128 * 2 ^ place + n / 128 * 2 ^ (place + 7) = n * 2 ^ place := by
        have : (2 : Nat) ^ (place + 7) = 128 * 2 ^ place := by rw [Nat.pow_add, Nat.mul_comm]
        rw [this, ← Nat.mul_assoc, ← Nat.add_mul]
        congr 1
        omega
      have hq : 0 < n / 128 := by omega
      have h4 : place + 7 < 64 := by
        by_cases hc : place + 7 < 64
        · exact hc
        · have : 2 ^ 64 ≤ 2 ^ (place + 7) := Nat.pow_le_pow_right (by decide) (by omega)
          have h5 : 2 ^ (place + 7) ≤ n / 128 * 2 ^ (place + 7) := Nat.le_mul_of_pos_left _ hq
          have h6 : (2 : Nat) ^ 64 = 18446744073709551616 := by decide
          omega
      simp only [List.cons_append, rdN, e]
      rw [if_pos ⟨h3, by omega⟩, if_neg (by omega), ih (n / 128) (by omega) (place + 7) _ r (by omega) (Or.inl hq) h4]
      congr 2
      omega

theorem rdN_ext (l : List Nat) : ∀ (place n : Nat) (x : Nat) (r m : List Nat), rdN place n l = some (x, r) → rdN place n (l ++ m) = some (x, r ++ m) := by
  induction l with
  | nil => intro place n x r m h; cases h
  | cons b l ih =>
    intro place n x r m h
    rw [rdN] at h
    rw [List.cons_append, rdN]
    split at h
    · rename_i h1
      rw [if_pos h1]
      split at h
      · rename_i h2
        rw [if_pos h2]
        split at h
        · rename_i h3
          rw [if_pos h3]
          simp only [Option.some.injEq, Prod.mk.injEq] at h ⊢
          exact ⟨h.1, by rw [h.2]⟩
        · cases h
      · rename_i h2
        rw [if_neg h2]
        exact ih _ _ _ _ _ h
    · cases h

def rdWhole (l : List Nat) : Option (Int × List Nat) := match rdN 0 0 l with
  | some (n, r) => if n ≤ 9223372036854775807 then some ((n : Int), r) else none
  | none => none
def zig (n : Int) : Nat := if n < 0 then (-2 * n - 1).toNat else (2 * n).toNat
def zag (n : Nat) : Int := if n % 2 = 1 then -((n / 2 : Nat) : Int) - 1 else ((n / 2 : Nat) : Int)
theorem zag_zig (n : Int) : zag (zig n) = n := by
  unfold zag zig
  split <;> split <;> omega
def rdSigned (l : List Nat) : Option (Int × List Nat) := match rdN 0 0 l with
  | some (n, r) => some (zag n, r)
  | none => none
def rdMost (b : Int) (l : List Nat) : Option (Int × List Nat) := match rdWhole l with
  | some (n, r) => if n ≤ b then some (n, r) else none
  | none => none
def rdIns (l : List Nat) : Option (Ins × List Nat) := match rdWhole l with
  | none => none
  | some (o, l1) => match rdWhole l1 with
    | none => none
    | some (a, l2) => match rdWhole l2 with
      | none => none
      | some (b, l3) => match rdSigned l3 with
        | none => none
        | some (n, l4) => some (⟨o, a, b, n⟩, l4)
def rdMany {α : Type} (P : List Nat → Option (α × List Nat)) : Nat → List Nat → Option (List α × List Nat)
  | 0, l => some ([], l)
  | k + 1, l => match P l with
    | none => none
    | some (x, r) => match rdMany P k r with
      | none => none
      | some (xs, r') => some (x :: xs, r')
def rdThread (l : List Nat) : Option (List Ins × List Nat) := match rdMost 16 l with
  | none => none
  | some (k, r) => rdMany rdIns k.toNat r
def rdProg (l : List Nat) : Option (List (List Ins) × List Nat) := match rdMost 4 l with
  | none => none
  | some (k, r) => rdMany rdThread k.toNat r
def rdRuns : Nat → List Int → List Nat → Option (List Int × List Nat)
  | 0, sch, l => some (sch, l)
  | k + 1, sch, l => match rdWhole l with
    | none => none
    | some (t, r) => match rdMost (500 - sch.length) r with
      | none => none
      | some (c, r') => if 0 < c ∧ sch.getLast? ≠ some t then rdRuns k (sch ++ List.replicate c.toNat t) r' else none
def rdSched (l : List Nat) : Option (List Int × List Nat) := match rdMost 500 l with
  | none => none
  | some (k, r) => rdRuns k.toNat [] r
def rdVer (l : List Nat) : Option ((Int × Int × Int) × List Nat) := match rdWhole l with
  | none => none
  | some (a, l1) => match rdWhole l1 with
    | none => none
    | some (b, l2) => match rdWhole l2 with
      | none => none
      | some (c, l3) => some ((a, b, c), l3)

structure Art where
  prog : List (List Ins)
  sch : List Int
  ver : Int × Int × Int

def verOk (v : Int × Int × Int) : Bool := (decide (1 ≤ v.1) && decide (v.1 ≤ 5)) && (decide (0 ≤ v.2.1) && decide (v.2.1 ≤ 3)) && (decide (0 ≤ v.2.2) && decide (v.2.2 ≤ 500))
def artE (a : Art) : Int := if vProg a.prog = true then (if validS a.sch = true ∧ verOk a.ver = true then 0 else 2) else 1

def rdArt (l : List Nat) : Option (Art × List Nat) := match l with
  | 82 :: 82 :: 1 :: r0 => match rdProg r0 with
    | none => none
    | some (p, r1) => match rdSched r1 with
      | none => none
      | some (s, r2) => match rdVer r2 with
        | none => none
        | some (v, r3) => some (⟨p, s, v⟩, r3)
  | _ => none

def decB (l : List Nat) : Option Art := match rdArt l with
  | none => none
  | some (a, r) => if r = leB 4 (crcN (l.take (l.length - r.length))) ∧ artE a = 0 then some a else none

/- Writing. -/
def wInt (n : Int) : List Nat := numB n.toNat
def insB (i : Ins) : List Nat := wInt i.op ++ (wInt i.a ++ (wInt i.b ++ numB (zig i.n)))
def codeB (c : List Ins) : List Nat := wInt c.length ++ c.flatMap insB
def progB (p : List (List Ins)) : List Nat := wInt p.length ++ p.flatMap codeB
def runB (x : Int × Int) : List Nat := wInt x.1 ++ wInt x.2
def schB (s : List Int) : List Nat := wInt (grp s).length ++ (grp s).flatMap runB
def verB (v : Int × Int × Int) : List Nat := wInt v.1 ++ (wInt v.2.1 ++ wInt v.2.2)
def bodyB (a : Art) : List Nat := [82, 82, 1] ++ (progB a.prog ++ (schB a.sch ++ verB a.ver))
def encB (a : Art) : List Nat := bodyB a ++ leB 4 (crcN (bodyB a))

theorem rdWhole_w (n : Int) (r : List Nat) (h0 : 0 ≤ n) (h1 : n ≤ 9223372036854775807) : rdWhole (wInt n ++ r) = some (n, r) := by
  unfold rdWhole wInt
  rw [rdN_num n.toNat 0 0 r (by simp; omega) (Or.inr rfl) (by omega)]
  simp only [Nat.pow_zero, Nat.mul_one, Nat.zero_add]
  rw [if_pos (by omega)]
  congr 2
  omega
theorem rdSigned_w (n : Int) (r : List Nat) (h0 : -9223372036854775808 ≤ n) (h1 : n ≤ 9223372036854775807) : rdSigned (numB (zig n) ++ r) = some (n, r) := by
  unfold rdSigned
  rw [rdN_num (zig n) 0 0 r (by unfold zig; split <;> simp <;> omega) (Or.inr rfl) (by omega)]
  simp [zag_zig]
theorem rdMost_w (b n : Int) (r : List Nat) (h0 : 0 ≤ n) (h1 : n ≤ 9223372036854775807) (hb : n ≤ b) : rdMost b (wInt n ++ r) = some (n, r) := by
  unfold rdMost; rw [rdWhole_w n r h0 h1]; simp only; rw [if_pos hb]

def insInt (i : Ins) : Prop := (0 ≤ i.op ∧ i.op ≤ 9223372036854775807) ∧ (0 ≤ i.a ∧ i.a ≤ 9223372036854775807) ∧ (0 ≤ i.b ∧ i.b ≤ 9223372036854775807) ∧ (-9223372036854775808 ≤ i.n ∧ i.n ≤ 9223372036854775807)

theorem rdIns_w (i : Ins) (r : List Nat) (h : insInt i) : rdIns (insB i ++ r) = some (i, r) := by
  obtain ⟨⟨a1, a2⟩, ⟨b1, b2⟩, ⟨c1, c2⟩, ⟨d1, d2⟩⟩ := h
  unfold rdIns insB
  simp only [List.append_assoc]
  rw [rdWhole_w _ _ a1 a2]
  simp only
  rw [rdWhole_w _ _ b1 b2]
  simp only
  rw [rdWhole_w _ _ c1 c2]
  simp only
  rw [rdSigned_w _ _ d1 d2]

theorem rdMany_w {α : Type} (P : List Nat → Option (α × List Nat)) (W : α → List Nat) (q : List α) (r : List Nat) (h : ∀ x ∈ q, ∀ r, P (W x ++ r) = some (x, r)) : rdMany P q.length (q.flatMap W ++ r) = some (q, r) := by
  induction q with
  | nil => rfl
  | cons x q ih =>
    rw [List.flatMap_cons, List.append_assoc, List.length_cons, rdMany, h x (by simp)]
    simp only
    rw [ih (fun y hy => h y (by simp [hy]))]

theorem rdThread_w (c : List Ins) (r : List Nat) (hl : c.length ≤ 16) (h : ∀ i ∈ c, insInt i) : rdThread (codeB c ++ r) = some (c, r) := by
  unfold rdThread codeB
  rw [List.append_assoc, rdMost_w _ _ _ (by omega) (by omega) (by omega)]
  simp only [Int.toNat_natCast]
  exact rdMany_w _ _ _ _ (fun i hi r => rdIns_w i r (h i hi))
theorem rdProg_w (p : List (List Ins)) (r : List Nat) (hl : p.length ≤ 4) (h : ∀ c ∈ p, c.length ≤ 16 ∧ ∀ i ∈ c, insInt i) : rdProg (progB p ++ r) = some (p, r) := by
  unfold rdProg progB
  rw [List.append_assoc, rdMost_w _ _ _ (by omega) (by omega) (by omega)]
  simp only [Int.toNat_natCast]
  exact rdMany_w _ _ _ _ (fun c hc r => rdThread_w c r (h c hc).1 (h c hc).2)
theorem rdVer_w (v : Int × Int × Int) (r : List Nat) (h : verOk v = true) : rdVer (verB v ++ r) = some (v, r) := by
  simp only [verOk, Bool.and_eq_true, decide_eq_true_eq] at h
  unfold rdVer verB
  simp only [List.append_assoc]
  rw [rdWhole_w _ _ (by omega) (by omega)]
  simp only
  rw [rdWhole_w _ _ (by omega) (by omega)]
  simp only
  rw [rdWhole_w _ _ (by omega) (by omega)]

end Go.Proofs.YtklenjmfalljgaaGreatDoor
