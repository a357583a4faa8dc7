/- The walks of the scanner's methods. -/
import Derived.Test.YthgeiolabecikaaDoorSch
import Derived.Test.YthgeiolabecikaaDoorTxtR
import Derived.WalkSpells
import Derived.WalkLawsBesides
import Derived.Deep.Light
namespace Go.Proofs.YthgeiolabecikaaDoor
open Go.RowKit
attribute [local go_sem] Go.World.cell?_alloc_some

def byt (s : ByteArray) : List Nat := s.data.toList.map UInt8.toNat

def ScAt (w : World) (b : Nat) (s : ByteArray) (a : Nat) : Prop := w.heap[b]? = some (.cells #[.string s, .int .i64 a] 166 (0, 0))

set_option maxHeartbeats 400000 in
theorem tbegins_m (m : Int) (w : World) (h0 : -1000 ≤ m) (h1 : m ≤ 1000) : Calls Tryd.prog 164 #[.int .i64 m] w fun e w' => e = .returned (.bool (beginsB m)) ∧ w' = w := by
  by_cases h2 : 0 < m
  · by_cases h3 : 10 * m < 63
    · have HB : Hid (beginsB m = true) := by unfold Hid; simp [beginsB, h2, h3]
      go_enter Tryd.func164, Tryd.ntmps164
      go_wp2
      go_ret
      exact ⟨by rw [HB.out]; rfl, rfl⟩
    · have HB : Hid (beginsB m = false) := by unfold Hid; simp [beginsB, h2, h3]
      go_enter Tryd.func164, Tryd.ntmps164
      go_wp2
      go_ret
      exact ⟨by rw [HB.out]; rfl, rfl⟩
  · have HB : Hid (beginsB m = false) := by unfold Hid; simp [beginsB, h2]
    go_enter Tryd.func164, Tryd.ntmps164
    go_wp2
    go_ret
    exact ⟨by rw [HB.out]; rfl, rfl⟩

set_option maxHeartbeats 1000000 in
theorem grows_m (n d last : Int) (w : World) (h0 : -1 ≤ n) (h1 : n ≤ 63) (h2 : 0 ≤ d) (h3 : d ≤ 9) : Calls Tryd.prog 148 #[.int .i64 n, .int .i64 d, .int .i64 last] w fun e w' => e = .returned (.bool (growsB n d last)) ∧ w' = w := by
  by_cases hn : n < 0
  · have hm : max n 0 = 0 := by omega
    have HG : Hid (growsB n d last = (!(n == 0) && ((decide (d ≤ 63) && !(d == last)) || beginsB d))) := by
      unfold Hid growsB; rw [hm]; simp
    go_enter Tryd.func148, Tryd.ntmps148
    go_wp2_with (go_at_call 164; refine (tbegins_m _ _ (by omega) (by omega)).mono ?_; rintro e w' ⟨rfl, rfl⟩)
    all_goals (go_ret; refine ⟨?_, rfl⟩; rw [HG.out]; simp [*] <;> omega)
  · have hm : max n 0 = n := by omega
    have HG : Hid (growsB n d last = (!(n == 0) && ((decide (n * 10 + d ≤ 63) && !(n * 10 + d == last)) || beginsB (n * 10 + d)))) := by
      unfold Hid growsB; rw [hm]
    go_enter Tryd.func148, Tryd.ntmps148
    go_wp2_with (go_at_call 164; refine (tbegins_m _ _ (by omega) (by omega)).mono ?_; rintro e w' ⟨rfl, rfl⟩)
    all_goals (go_ret; refine ⟨?_, rfl⟩; rw [HG.out]; simp [*] <;> omega)

theorem byt_len (s : ByteArray) : (byt s).length = s.size := by simp [byt]
theorem byt_get (s : ByteArray) (a : Nat) (h : a < s.size) : (byt s)[a]? = some s[a].toNat := by
  have : a < s.data.toList.length := by simpa using h
  rw [byt, List.getElem?_map, List.getElem?_eq_getElem this]; rfl
theorem byt_end (s : ByteArray) (a : Nat) (h : s.size ≤ a) : (byt s)[a]? = none := by
  rw [List.getElem?_eq_none_iff, byt_len]; exact h
theorem byt_lt (s : ByteArray) (c : Nat) (h : c ∈ byt s) : c < 256 := by
  simp only [byt, List.mem_map] at h
  obtain ⟨x, _, rfl⟩ := h
  exact x.toNat_lt

def digV (c : Option Nat) : Value := match c with
  | some c => if isD c = true then .tuple #[.int .i64 ((c : Int) - 48), .bool true] else .tuple #[.int .i64 0, .bool false]
  | none => .tuple #[.int .i64 0, .bool false]

theorem like_refl (w : World) : Like w w := ⟨rfl, rfl, rfl, rfl⟩
theorem like_drew {w' w : World} (h : Like w' w) : Like w'.drew w := h
theorem like_dn {w' w : World} (h : Like w' w) (n : Nat) : Like (w'.drewN n) w := by
  have := like_drewN w' n
  exact ⟨this.1.trans h.1, this.2.1.trans h.2.1, this.2.2.1.trans h.2.2.1, this.2.2.2.trans h.2.2.2⟩

set_option maxHeartbeats 1000000 in
theorem digit_m (s : ByteArray) (b a : Nat) (w : World) (h : ScAt w b s a) (ha : a ≤ s.size) :
    Calls Tryd.prog 147 #[pt b] w fun e w' => Like w' w ∧ e = .returned (digV (byt s)[a]?) := by
  have c0 : w.cell? ⟨b, 0, none⟩ = some (.string s) := by unfold ScAt at h; simp [World.cell?, h]
  have c1 : w.cell? ⟨b, 1, none⟩ = some (.int .i64 a) := by unfold ScAt at h; simp [World.cell?, h]
  clear h
  unfold pt
  by_cases hlt : a < s.size
  · have h1 : (a : Int) < s.size := by omega
    have h2 : ((a : Int) == (s.size : Int)) = false := by simp; omega
    have hb := s[a].toNat_lt
    have HE := hide (byt_get s a hlt)
    by_cases h48 : s[a].toNat < 48
    · have g1 : ((s[a].toNat : Nat) : Int) < 48 := by omega
      have HD : Hid (isD s[a].toNat = false) := by unfold Hid; simp [isD]; omega
      go_enter Tryd.func147, Tryd.ntmps147
      go_wp2
      go_quiet (fail)
      go_wp2
      refine bodyPost_ret (v := .tuple #[.int .i64 0, .bool false]) (by simp [results, Tryd.results147, go_sem]) rfl ?_
      refine ⟨like_dn (like_refl _) _, ?_⟩
      rw [HE.out]; simp [digV, HD.out]
    · have g1 : ¬ ((s[a].toNat : Nat) : Int) < 48 := by omega
      by_cases h57 : s[a].toNat ≤ 57
      · have g2 : ((s[a].toNat : Nat) : Int) ≤ 57 := by omega
        have HD : Hid (isD s[a].toNat = true) := by unfold Hid; simp [isD]; omega
        go_enter Tryd.func147, Tryd.ntmps147
        go_wp2
        go_quiet (fail)
        go_wp2
        go_quiet (fail)
        go_wp2
        refine bodyPost_ret (v := .tuple #[.int .i64 (((s[a].toNat : Nat) : Int) - 48), .bool true]) (by simp [results, Tryd.results147, go_sem]) rfl ?_
        refine ⟨like_dn (like_dn (like_refl _) _) _, ?_⟩
        rw [HE.out]; simp [digV, HD.out]
      · have g2 : 57 < ((s[a].toNat : Nat) : Int) := by omega
        have HD : Hid (isD s[a].toNat = false) := by unfold Hid; simp [isD]; omega
        go_enter Tryd.func147, Tryd.ntmps147
        go_wp2
        go_quiet (fail)
        go_wp2
        refine bodyPost_ret (v := .tuple #[.int .i64 0, .bool false]) (by simp [results, Tryd.results147, go_sem]) rfl ?_
        refine ⟨like_dn (like_refl _) _, ?_⟩
        rw [HE.out]; simp [digV, HD.out]
  · have h2 : ((a : Int) == (s.size : Int)) = true := by simp; omega
    have HE := hide (byt_end s a (by omega))
    go_enter Tryd.func147, Tryd.ntmps147
    go_wp2
    go_quiet (fail)
    go_wp2
    refine bodyPost_ret (v := .tuple #[.int .i64 0, .bool false]) (by simp [results, Tryd.results147, go_sem]) rfl ?_
    refine ⟨like_dn (like_refl _) _, ?_⟩
    rw [HE.out]; simp [digV]

end Go.Proofs.YthgeiolabecikaaDoor
