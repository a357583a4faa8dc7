/- The walks of the reference's small functions on texts. -/
import Derived.Test.YthgeiolabecikaaDoorPrn2
namespace Go.Proofs.YthgeiolabecikaaDoor
open Go.RowKit
attribute [local go_sem] Go.World.cell?_alloc_some

theorem all_byt_succ (s : ByteArray) (p : Nat → Bool) (k : Nat) (h : k < s.size) : ((byt s).take (k + 1)).all p = (((byt s).take k).all p && p s[k].toNat) := by
  have hk : k < (byt s).length := by rw [byt_len]; exact h
  rw [all_take_succ (byt s) p k hk]
  have : (byt s)[k] = s[k].toNat := by
    have := byt_get s k h
    rw [List.getElem?_eq_getElem hk] at this
    exact Option.some.inj this
  rw [this]

theorem byt_toList (s : ByteArray) : byt s = s.toList.map UInt8.toNat := by rw [ByteArray.toList_eq]; rfl
theorem byt_is (s : ByteArray) (l : List UInt8) : byt s = l.map UInt8.toNat ↔ s.toList = l := by
  rw [byt_toList]
  constructor
  · intro h
    exact (List.map_inj_right (fun a b h => UInt8.toNat_inj.1 h)).1 h
  · intro h; rw [h]
theorem byt_nil (s : ByteArray) : byt s = [] ↔ s.toList = [] := byt_is s []
theorem byt_nought (s : ByteArray) : byt s = [48] ↔ s.toList = [48] := byt_is s [48]
theorem byt_head (s : ByteArray) (h : 0 < s.size) : (byt s).head? = some s[0].toNat := by
  rw [List.head?_eq_getElem?]; exact byt_get s 0 h
theorem size_nil {s : ByteArray} (h : s.toList = []) : s.size = 0 := by
  have := congrArg List.length ((byt_nil s).2 h); rwa [byt_len] at this
theorem size_pos {s : ByteArray} (h : ¬ s.toList = []) : 0 < s.size := by
  by_cases h0 : s.size = 0
  · exact absurd ((byt_nil s).1 (List.length_eq_zero_iff.1 (by rw [byt_len]; exact h0))) h
  · omega

set_option maxRecDepth 100000 in
set_option maxHeartbeats 1000000 in
theorem plain_m (s : ByteArray) (w : World) (hs : s.size ≤ 9223372036854775806) :
    Calls Tryd.prog 119 #[.string s] w fun e w' => e = .returned (.bool (plainR (byt s))) ∧ w' = w := by
  go_enter Tryd.func119, Tryd.ntmps119
  go_wp2
  go_loopw [3] (fun i w' => ∃ k : Nat, k ≤ s.size ∧ i = .int .i64 k ∧ Hid (w' = w) ∧ Hid (((byt s).take k).all isD = true)) (fun i _ => s.size - (intOf i).toNat)
  case atStart => exact ⟨0, Nat.zero_le _, rfl, rfl, rfl⟩
  case round =>
    obtain ⟨k, hk, rfl, HW, HA⟩ := hrel
    obtain rfl := HW.out
    by_cases hlt : k < s.size
    · have HAs := hide (all_byt_succ s isD k hlt)
      have hk0 : (0 : Int) ≤ (k : Int) := by omega
      have hk1 : (k : Int) < s.size := by omega
      have HF : Hid (isD s[k].toNat = false → plainR (byt s) = false) := by
        intro h
        have : ((byt s).take (k + 1)).all isD = false := by rw [HAs.out, h]; simp
        unfold plainR
        rw [← List.take_append_drop (k + 1) (byt s), List.all_append, this]; rfl
      by_cases h0 : s[k].toNat < 48
      · have h0' : ((s[k].toNat : Nat) : Int) < 48 := by omega
        have HE := hide (HF.out (by simp [isD]; omega))
        go_wp2
        go_ret
        exact ⟨by rw [HE.out]; rfl, rfl⟩
      · have h0' : ¬ ((s[k].toNat : Nat) : Int) < 48 := by omega
        by_cases h1 : s[k].toNat ≤ 57
        · have h1' : ¬ 57 < ((s[k].toNat : Nat) : Int) := by omega
          have HA1 : Hid (((byt s).take (k + 1)).all isD = true) := by unfold Hid; rw [HAs.out, HA.out]; simp [isD]; omega
          go_wp2
          go_roundw
          case rel => exact ⟨k + 1, by omega, by go_num, hide trivial, HA1⟩
          case measure => simp [intOf]; omega
        · have h1' : 57 < ((s[k].toNat : Nat) : Int) := by omega
          have HE := hide (HF.out (by simp [isD]; omega))
          go_wp2
          go_ret
          exact ⟨by rw [HE.out]; rfl, rfl⟩
    · have HA1 : Hid ((byt s).all isD = true) := by
        have := HA.out
        rw [List.take_of_length_le (by rw [byt_len]; omega)] at this
        exact this
      have q2 : (s.size : Int) ≤ (k : Int) := by omega
      by_cases ha : s.toList = [48]
      · have HE : Hid (plainR (byt s) = true) := by unfold Hid; rw [(byt_nought s).2 ha]; rfl
        go_wp2_with fail
        go_ret
        exact ⟨by rw [HE.out]; rfl, rfl⟩
      · by_cases hb : s.toList = []
        · have HE : Hid (plainR (byt s) = false) := by unfold Hid; rw [(byt_nil s).2 hb]; rfl
          go_wp2_with fail
          go_ret
          exact ⟨by rw [HE.out]; rfl, rfl⟩
        · have h0 := size_pos hb
          have HE : Hid (plainR (byt s) = (s.toList == [48] || (!s.toList.isEmpty && (((s[0].toNat : Nat) : Int) != 48)))) := by
            unfold Hid plainR
            have e1 : (byt s == [48]) = false := by simpa using fun e => ha ((byt_nought s).1 e)
            have e2 : (byt s == []) = false := by simpa using fun e => hb ((byt_nil s).1 e)
            have e3 : (s.toList == [48]) = false := by simpa using ha
            have e4 : s.toList.isEmpty = false := by simpa using hb
            rw [HA1.out, e1, e2, e3, e4, byt_head s h0]
            by_cases h48 : s[0].toNat = 48
            · simp [h48]
            · have h5 : ((s[0].toNat : Nat) : Int) ≠ 48 := by omega
              have h6 : (((s[0].toNat : Nat) : Int) != 48) = true := by simpa using h5
              rw [h6]
              simpa using h48
          have h0' : (0 : Int) < s.size := by omega
          go_wp2_with fail
          all_goals
            go_ret
            exact ⟨by rw [HE.out]; rfl, rfl⟩

theorem value_step (n : Int) (s : ByteArray) (k : Nat) (h : k < s.size) : valueR n ((byt s).drop k) = if n < 1000 then valueR (10 * n + (((s[k].toNat + 208) % 256 : Nat) : Int)) ((byt s).drop (k + 1)) else min n 1000 := by
  rw [drop_get (byt_get s k h), valueR]
theorem value_end (n : Int) (s : ByteArray) (k : Nat) (h : s.size ≤ k) : valueR n ((byt s).drop k) = min n 1000 := by
  rw [List.drop_eq_nil_of_le (by rw [byt_len]; exact h), valueR]

set_option maxRecDepth 100000 in
set_option maxHeartbeats 1000000 in
theorem value_m (s : ByteArray) (w : World) (hs : s.size ≤ 9223372036854775806) :
    Calls Tryd.prog 120 #[.string s] w fun e w' => e = .returned (.int .i64 (valueR 0 (byt s))) ∧ w' = w := by
  go_enter Tryd.func120, Tryd.ntmps120
  go_wp2
  go_loopw [3, 4] (fun v i w' => ∃ (k : Nat) (n : Int), k ≤ s.size ∧ i = .int .i64 k ∧ v = .int .i64 n ∧ Hid (w' = w) ∧ Hid (0 ≤ n ∧ n ≤ 20000 ∧ valueR n ((byt s).drop k) = valueR 0 (byt s))) (fun _ i _ => s.size - (intOf i).toNat)
  case atStart => exact ⟨0, 0, Nat.zero_le _, rfl, rfl, rfl, by simp [Hid]⟩
  case round =>
    obtain ⟨k, n, hk, rfl, rfl, HW, HA⟩ := hrel
    obtain rfl := HW.out
    obtain ⟨hn0, hn1, hn2⟩ := HA.out
    have HN2 := hide hn2
    clear hn2 HA
    by_cases hlt : k < s.size
    · have hk0 : (0 : Int) ≤ (k : Int) := by omega
      have hk1 : (k : Int) < s.size := by omega
      have hb := s[k].toNat_lt
      have HS := hide (value_step n s k hlt)
      by_cases h1 : n < 1000
      · have hu : IntKind.u8.wrap (((s[k].toNat : Nat) : Int) - 48) = (((s[k].toNat + 208) % 256 : Nat) : Int) := by
          simp only [IntKind.wrap, IntKind.signed, IntKind.bits]
          simp
          omega
        have HNX : Hid (valueR (10 * n + (((s[k].toNat + 208) % 256 : Nat) : Int)) ((byt s).drop (k + 1)) = valueR 0 (byt s)) := by
          unfold Hid; rw [← HN2.out, HS.out, if_pos h1]
        have hm : (s[k].toNat + 208) % 256 < 256 := Nat.mod_lt _ (by decide)
        generalize ((s[k].toNat + 208) % 256) = d at *
        have hd0 : (0 : Int) ≤ (d : Int) := by omega
        have hd1 : (d : Int) < 256 := by omega
        go_wp2_with fail
        go_roundw
        case rel => exact ⟨k + 1, _, by omega, by go_num, rfl, hide trivial, hide ⟨by omega, by omega, HNX.out⟩⟩
        case measure => simp [intOf]; omega
      · have HE : Hid (valueR 0 (byt s) = 1000) := by unfold Hid; rw [← HN2.out, HS.out, if_neg h1]; omega
        by_cases h2 : 1000 < n
        · go_wp2_with fail
          go_ret
          exact ⟨by rw [HE.out]; rfl, rfl⟩
        · have h3 : Hid (n = 1000) := by unfold Hid; omega
          go_wp2_with fail
          go_ret
          exact ⟨by rw [HE.out, ← h3.out]; rfl, rfl⟩
    · have HE : Hid (valueR 0 (byt s) = min n 1000) := by unfold Hid; rw [← HN2.out, value_end n s k (by omega)]
      have q2 : (s.size : Int) ≤ (k : Int) := by omega
      by_cases h2 : 1000 < n
      · have h3 : Hid (min n 1000 = 1000) := by unfold Hid; omega
        go_wp2_with fail
        go_ret
        exact ⟨by rw [HE.out, h3.out]; rfl, rfl⟩
      · have h3 : Hid (min n 1000 = n) := by unfold Hid; omega
        go_wp2_with fail
        go_ret
        exact ⟨by rw [HE.out, h3.out]; rfl, rfl⟩

def strA (s : ByteArray) (k : Nat) : ByteArray := s.extract 0 k
theorem byt_extract (s : ByteArray) (a b : Nat) : byt (s.extract a b) = ((byt s).take b).drop a := by
  unfold byt
  rw [ByteArray.data_extract, Array.toList_extract, List.extract_eq_take_drop, List.map_take, List.map_drop]
  rw [List.drop_take]

/-- What halves tells: the first half, the second one, is there a star? -/
theorem half_at (l : List Nat) (k : Nat) (hk : l[k]? = some 42) (h : ∀ x ∈ l.take k, x ≠ 42) : halfA l = l.take k ∧ halfB l = l.drop (k + 1) ∧ starR l = true := by
  have e : l = l.take k ++ 42 :: l.drop (k + 1) := by rw [← drop_get hk, List.take_append_drop]
  have := half_star (bb := l.drop (k + 1)) h
  rw [← e] at this
  exact this

set_option maxRecDepth 100000 in
set_option maxHeartbeats 1000000 in
theorem halves_m (s : ByteArray) (w : World) (hs : s.size ≤ 9223372036854775806) :
    Calls Tryd.prog 118 #[.string s] w fun e w' => Like w' w ∧ ∃ a b, e = .returned (.tuple #[.string a, .string b, .bool (starR (byt s))]) ∧ byt a = halfA (byt s) ∧ byt b = halfB (byt s) ∧ a.size ≤ s.size ∧ b.size ≤ s.size := by
  go_enter Tryd.func118, Tryd.ntmps118
  go_wp2
  go_loopw [5] (fun i w' => ∃ k : Nat, k ≤ s.size ∧ i = .int .i64 k ∧ Hid (w' = w) ∧ Hid (∀ x ∈ (byt s).take k, x ≠ 42)) (fun i _ => s.size - (intOf i).toNat)
  case atStart => exact ⟨0, Nat.zero_le _, rfl, rfl, by simp [Hid]⟩
  case round =>
    obtain ⟨k, hk, rfl, HW, HA⟩ := hrel
    obtain rfl := HW.out
    by_cases hlt : k < s.size
    · have hk0 : (0 : Int) ≤ (k : Int) := by omega
      have hk1 : (k : Int) < s.size := by omega
      have hk2 : (k : Int) ≤ s.size := by omega
      have hk3 : (k : Int) + 1 ≤ s.size := by omega
      have HG := hide (byt_get s k hlt)
      by_cases h42 : s[k].toNat = 42
      · have h42' : ((s[k].toNat : Nat) : Int) = 42 := by omega
        have h42'' : (((s[k].toNat : Nat) : Int) == 42) = true := by simpa using h42'
        have HH : Hid (halfA (byt s) = (byt s).take k ∧ halfB (byt s) = (byt s).drop (k + 1) ∧ starR (byt s) = true) := half_at _ k (by rw [HG.out, h42]) HA.out
        clear h42 h42'
        go_wp2_with fail
        go_quiet (fail)
        go_wp2_with fail
        refine bodyPost_ret (v := .tuple #[.string (s.extract 0 k), .string (s.extract (k + 1) s.size), .bool true]) (by simp [results, Tryd.results118, go_sem]) rfl ?_
        refine ⟨like_dn (like_refl _) _, _, _, by rw [HH.out.2.2], ?_, ?_, by simp <;> omega, by simp <;> omega⟩
        · rw [HH.out.1, byt_extract, List.drop_zero]
        · rw [HH.out.2.1, byt_extract, List.take_of_length_le (by rw [byt_len]; exact Nat.le_refl _)]
      · have h42' : ((s[k].toNat : Nat) : Int) ≠ 42 := by omega
        have HA1 : Hid (∀ x ∈ (byt s).take (k + 1), x ≠ 42) := by
          intro x hx
          have hkl : k < (byt s).length := by rw [byt_len]; exact hlt
          rw [List.take_succ_eq_append_getElem hkl] at hx
          rcases List.mem_append.1 hx with hx | hx
          · exact HA.out x hx
          · have e := HG.out
            rw [List.getElem?_eq_getElem hkl] at e
            rw [Option.some.inj e] at hx
            simp at hx
            rw [hx]; exact h42
        clear h42
        go_wp2_with fail
        go_roundw
        case rel => exact ⟨k + 1, by omega, by go_num, hide trivial, HA1⟩
        case measure => simp [intOf]; omega
    · have q2 : (s.size : Int) ≤ (k : Int) := by omega
      have HH : Hid (halfA (byt s) = byt s ∧ halfB (byt s) = [] ∧ starR (byt s) = false) := by
        have := HA.out
        rw [List.take_of_length_le (by rw [byt_len]; omega)] at this
        exact half_none this
      go_wp2_with fail
      refine bodyPost_ret (v := .tuple #[.string s, .string ⟨#[]⟩, .bool false]) (by simp [results, Tryd.results118, go_sem]) rfl ?_
      exact ⟨like_refl _, s, ⟨#[]⟩, by rw [HH.out.2.2], HH.out.1.symm, HH.out.2.1.symm, Nat.le_refl _, Nat.zero_le _⟩

end Go.Proofs.YthgeiolabecikaaDoor
