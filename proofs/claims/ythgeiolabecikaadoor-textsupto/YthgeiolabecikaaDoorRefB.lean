/- The walks of the reference's run and begins. -/
import Derived.Test.YthgeiolabecikaaDoorRefA
namespace Go.Proofs.YthgeiolabecikaaDoor
open Go.RowKit
attribute [local go_sem] Go.World.cell?_alloc_some

def runV (o : Option (Int × Int)) : Value := match o with
  | none => .tuple #[.int .i64 0, .int .i64 0, .bool false]
  | some (t, n) => .tuple #[.int .i64 t, .int .i64 n, .bool true]

set_option maxRecDepth 100000 in
set_option maxHeartbeats 1000000 in
theorem rrun_m (s : ByteArray) (ahead : Int) (w : World) (hs : s.size ≤ 9223372036854775806) :
    Calls Tryd.prog 117 #[.string s, .int .i64 ahead] w fun e w' => Like w' w ∧ e = .returned (runV (runR (byt s) ahead)) := by
  go_enter Tryd.func117, Tryd.ntmps117
  go_wp2_with fail
  refine (halves_m s w hs).mono ?_
  rintro e w1 ⟨hl, a, b, rfl, ha, hb, hsa, hsb⟩
  have HL := hide hl
  have hR : runR (byt s) ahead = if (!plainR (byt a) || decide (63 < valueR 0 (byt a)) || (valueR 0 (byt a) == ahead)) = true then none
    else if (starR (byt s) && (!plainR (byt b) || decide (valueR 0 (byt b) < 2))) = true then none
    else if starR (byt s) = true then some (valueR 0 (byt a), valueR 0 (byt b)) else some (valueR 0 (byt a), 1) := by rw [ha, hb]; rfl
  have hza : a.size ≤ 9223372036854775806 := by omega
  have hzb : b.size ≤ 9223372036854775806 := by omega
  have HR := hide hR
  clear hl ha hb hsa hsb hs hR
  cases hpa : plainR (byt a) with
  | false =>
    have HE : Hid (runR (byt s) ahead = none) := by unfold Hid; rw [HR.out, hpa]; simp
    go_wp2_with (first | (go_at_call 119; refine (plain_m _ _ (by assumption)).mono ?_; rintro e w' ⟨rfl, rfl⟩; first | rw [hpa]) | (go_at_call 120; refine (value_m _ _ (by assumption)).mono ?_; rintro e w' ⟨rfl, rfl⟩))
    refine bodyPost_ret (v := .tuple #[.int .i64 0, .int .i64 0, .bool false]) (by simp [results, Tryd.results117, go_sem]) rfl ?_
    exact ⟨HL.out, by rw [HE.out]; rfl⟩
  | true =>
    by_cases h63 : 63 < valueR 0 (byt a)
    · have HE : Hid (runR (byt s) ahead = none) := by unfold Hid; rw [HR.out, hpa]; simp [h63]
      go_wp2_with (first | (go_at_call 119; refine (plain_m _ _ (by assumption)).mono ?_; rintro e w' ⟨rfl, rfl⟩; first | rw [hpa]) | (go_at_call 120; refine (value_m _ _ (by assumption)).mono ?_; rintro e w' ⟨rfl, rfl⟩))
      refine bodyPost_ret (v := .tuple #[.int .i64 0, .int .i64 0, .bool false]) (by simp [results, Tryd.results117, go_sem]) rfl ?_
      exact ⟨HL.out, by rw [HE.out]; rfl⟩
    · by_cases hah : valueR 0 (byt a) = ahead
      · have HE : Hid (runR (byt s) ahead = none) := by unfold Hid; rw [HR.out, hpa]; simp [hah]
        have hq : (valueR 0 (byt a) == ahead) = true := by simpa using hah
        clear hah
        go_wp2_with (first | (go_at_call 119; refine (plain_m _ _ (by assumption)).mono ?_; rintro e w' ⟨rfl, rfl⟩; first | rw [hpa]) | (go_at_call 120; refine (value_m _ _ (by assumption)).mono ?_; rintro e w' ⟨rfl, rfl⟩))
        refine bodyPost_ret (v := .tuple #[.int .i64 0, .int .i64 0, .bool false]) (by simp [results, Tryd.results117, go_sem]) rfl ?_
        exact ⟨HL.out, by rw [HE.out]; rfl⟩
      · have hq : (valueR 0 (byt a) == ahead) = false := by simpa using hah
        have HRR : Hid (runR (byt s) ahead = if (starR (byt s) && (!plainR (byt b) || decide (valueR 0 (byt b) < 2))) = true then none else if starR (byt s) = true then some (valueR 0 (byt a), valueR 0 (byt b)) else some (valueR 0 (byt a), 1)) := by
          unfold Hid
          rw [HR.out, hq, hpa]
          have : decide (63 < valueR 0 (byt a)) = false := by simpa using h63
          rw [this]; simp
        clear hah
        cases hst : starR (byt s) with
        | false =>
          have HE : Hid (runR (byt s) ahead = some (valueR 0 (byt a), 1)) := by unfold Hid; rw [HRR.out, hst]; simp
          cases hpb : plainR (byt b) with
          | true =>
            go_wp2_with (first | (go_at_call 119; refine (plain_m _ _ (by assumption)).mono ?_; rintro e w' ⟨rfl, rfl⟩; first | rw [hpa] | rw [hpb]) | (go_at_call 120; refine (value_m _ _ (by assumption)).mono ?_; rintro e w' ⟨rfl, rfl⟩))
            refine bodyPost_ret (v := .tuple #[.int .i64 (valueR 0 (byt a)), .int .i64 1, .bool true]) (by simp [results, Tryd.results117, go_sem]) rfl ?_
            exact ⟨HL.out, by rw [HE.out]; rfl⟩
          | false =>
            go_wp2_with (first | (go_at_call 119; refine (plain_m _ _ (by assumption)).mono ?_; rintro e w' ⟨rfl, rfl⟩; first | rw [hpa] | rw [hpb]) | (go_at_call 120; refine (value_m _ _ (by assumption)).mono ?_; rintro e w' ⟨rfl, rfl⟩))
            refine bodyPost_ret (v := .tuple #[.int .i64 (valueR 0 (byt a)), .int .i64 1, .bool true]) (by simp [results, Tryd.results117, go_sem]) rfl ?_
            exact ⟨HL.out, by rw [HE.out]; rfl⟩
        | true =>
          cases hpb : plainR (byt b) with
          | false =>
            have HE : Hid (runR (byt s) ahead = none) := by unfold Hid; rw [HRR.out, hst, hpb]; simp
            go_wp2_with (first | (go_at_call 119; refine (plain_m _ _ (by assumption)).mono ?_; rintro e w' ⟨rfl, rfl⟩; first | rw [hpa] | rw [hpb]) | (go_at_call 120; refine (value_m _ _ (by assumption)).mono ?_; rintro e w' ⟨rfl, rfl⟩))
            refine bodyPost_ret (v := .tuple #[.int .i64 0, .int .i64 0, .bool false]) (by simp [results, Tryd.results117, go_sem]) rfl ?_
            exact ⟨HL.out, by rw [HE.out]; rfl⟩
          | true =>
            by_cases h2 : valueR 0 (byt b) < 2
            · have HE : Hid (runR (byt s) ahead = none) := by unfold Hid; rw [HRR.out, hst, hpb]; simp [h2]
              go_wp2_with (first | (go_at_call 119; refine (plain_m _ _ (by assumption)).mono ?_; rintro e w' ⟨rfl, rfl⟩; first | rw [hpa] | rw [hpb]) | (go_at_call 120; refine (value_m _ _ (by assumption)).mono ?_; rintro e w' ⟨rfl, rfl⟩))
              refine bodyPost_ret (v := .tuple #[.int .i64 0, .int .i64 0, .bool false]) (by simp [results, Tryd.results117, go_sem]) rfl ?_
              exact ⟨HL.out, by rw [HE.out]; rfl⟩
            · have HE : Hid (runR (byt s) ahead = some (valueR 0 (byt a), valueR 0 (byt b))) := by unfold Hid; rw [HRR.out, hst, hpb]; simp [h2]
              go_wp2_with (first | (go_at_call 119; refine (plain_m _ _ (by assumption)).mono ?_; rintro e w' ⟨rfl, rfl⟩; first | rw [hpa] | rw [hpb]) | (go_at_call 120; refine (value_m _ _ (by assumption)).mono ?_; rintro e w' ⟨rfl, rfl⟩))
              refine bodyPost_ret (v := .tuple #[.int .i64 (valueR 0 (byt a)), .int .i64 (valueR 0 (byt b)), .bool true]) (by simp [results, Tryd.results117, go_sem]) rfl ?_
              exact ⟨HL.out, by rw [HE.out]; rfl⟩

set_option maxRecDepth 100000 in
set_option maxHeartbeats 1000000 in
theorem rbegins_m (s : ByteArray) (ahead : Int) (w : World) (hs : s.size ≤ 9223372036854775806) :
    Calls Tryd.prog 88 #[.string s, .int .i64 ahead] w fun e w' => Like w' w ∧ e = .returned (.bool (beginsR (byt s) ahead)) := by
  go_enter Tryd.func88, Tryd.ntmps88
  go_wp2_with fail
  refine (halves_m s w hs).mono ?_
  rintro e w1 ⟨hl, a, b, rfl, ha, hb, hsa, hsb⟩
  have HL := hide hl
  by_cases h0 : s.toList = []
  · have HE : Hid (beginsR (byt s) ahead = true) := by unfold Hid; rw [(byt_nil s).2 h0]; rfl
    clear hl ha hb hsa hsb hs
    generalize starR (byt s) = st at *
    go_wp2_with fail
    go_ret
    exact ⟨HL.out, by rw [HE.out]; rfl⟩
  · have hbn : (byt b = []) ↔ b.toList = [] := byt_nil b
    have hbz : (byt b = [48]) ↔ b.toList = [48] := byt_nought b
    have hR : beginsR (byt s) ahead = if (!plainR (byt a) || decide (63 < valueR 0 (byt a))) = true then false
      else if starR (byt s) = true then !(valueR 0 (byt a) == ahead) && ((byt b == []) || (plainR (byt b) && !(byt b == [48])))
      else !(valueR 0 (byt a) == ahead) || (decide (1 ≤ valueR 0 (byt a)) && decide (valueR 0 (byt a) ≤ 6)) := by
      conv => lhs; unfold beginsR
      rw [if_neg (fun e => h0 ((byt_nil s).1 e)), ha, hb]
    have hx1 : (byt b == []) = b.toList.isEmpty := by
      by_cases h : b.toList = []
      · rw [hbn.2 h, h]; rfl
      · have h2 : byt b ≠ [] := fun e => h (hbn.1 e)
        have h3 : b.toList.isEmpty = false := by simpa using h
        rw [h3]; simpa using h2
    have hx2 : (byt b == [48]) = (b.toList == [48]) := by
      by_cases h : b.toList = [48]
      · rw [hbz.2 h, h]; rfl
      · have h2 : byt b ≠ [48] := fun e => h (hbz.1 e)
        have h3 : (b.toList == [48]) = false := by simpa using h
        rw [h3]; simpa using h2
    rw [hx1, hx2] at hR
    have hza : a.size ≤ 9223372036854775806 := by omega
    have hzb : b.size ≤ 9223372036854775806 := by omega
    have HR := hide hR
    have hie : s.toList.isEmpty = false := by simpa using h0
    clear hl ha hb hsa hsb hs hbn hbz hx1 hx2 hR h0
    cases hpa : plainR (byt a) with
    | false =>
      have HE : Hid (beginsR (byt s) ahead = false) := by unfold Hid; rw [HR.out, hpa]; simp
      go_wp2_with (first | (go_at_call 119; refine (plain_m _ _ (by assumption)).mono ?_; rintro e w' ⟨rfl, rfl⟩; first | rw [hpa]) | (go_at_call 120; refine (value_m _ _ (by assumption)).mono ?_; rintro e w' ⟨rfl, rfl⟩))
      go_ret
      exact ⟨HL.out, by rw [HE.out]; rfl⟩
    | true =>
      by_cases h63 : 63 < valueR 0 (byt a)
      · have HE : Hid (beginsR (byt s) ahead = false) := by unfold Hid; rw [HR.out, hpa]; simp [h63]
        go_wp2_with (first | (go_at_call 119; refine (plain_m _ _ (by assumption)).mono ?_; rintro e w' ⟨rfl, rfl⟩; first | rw [hpa]) | (go_at_call 120; refine (value_m _ _ (by assumption)).mono ?_; rintro e w' ⟨rfl, rfl⟩))
        go_ret
        exact ⟨HL.out, by rw [HE.out]; rfl⟩
      · have HRR : Hid (beginsR (byt s) ahead = if starR (byt s) = true then !(valueR 0 (byt a) == ahead) && (b.toList.isEmpty || (plainR (byt b) && !(b.toList == [48]))) else !(valueR 0 (byt a) == ahead) || (decide (1 ≤ valueR 0 (byt a)) && decide (valueR 0 (byt a) ≤ 6))) := by
          unfold Hid
          rw [HR.out, hpa]
          have : decide (63 < valueR 0 (byt a)) = false := by simpa using h63
          rw [this]; simp
        clear HR
        cases hst : starR (byt s) with
        | false =>
          rw [hst] at HRR
          simp only [Bool.false_eq_true, if_false] at HRR
          go_wp2_with (first | (go_at_call 119; refine (plain_m _ _ (by assumption)).mono ?_; rintro e w' ⟨rfl, rfl⟩; first | rw [hpa]) | (go_at_call 120; refine (value_m _ _ (by assumption)).mono ?_; rintro e w' ⟨rfl, rfl⟩))
          all_goals
            go_ret
            refine ⟨HL.out, ?_⟩
            rw [HRR.out]
            simp [*] <;> first | rfl | omega
        | true =>
          rw [hst] at HRR
          simp only [if_true] at HRR
          cases hpb : plainR (byt b) with
          | true =>
            rw [hpb] at HRR
            go_wp2_with (first | (go_at_call 119; refine (plain_m _ _ (by assumption)).mono ?_; rintro e w' ⟨rfl, rfl⟩; first | rw [hpa] | rw [hpb]) | (go_at_call 120; refine (value_m _ _ (by assumption)).mono ?_; rintro e w' ⟨rfl, rfl⟩))
            all_goals
              go_ret
              refine ⟨HL.out, ?_⟩
              rw [HRR.out]
              simp [*] <;> first | rfl | omega
          | false =>
            rw [hpb] at HRR
            go_wp2_with (first | (go_at_call 119; refine (plain_m _ _ (by assumption)).mono ?_; rintro e w' ⟨rfl, rfl⟩; first | rw [hpa] | rw [hpb]) | (go_at_call 120; refine (value_m _ _ (by assumption)).mono ?_; rintro e w' ⟨rfl, rfl⟩))
            all_goals
              go_ret
              refine ⟨HL.out, ?_⟩
              rw [HRR.out]
              simp [*] <;> first | rfl | omega

end Go.Proofs.YthgeiolabecikaaDoor
