/- The walks of the reference's digits and Print. -/
import Derived.Test.YthgeiolabecikaaDoorRefF
namespace Go.Proofs.YthgeiolabecikaaDoor
open Go.RowKit
attribute [local go_sem] Go.World.cell?_alloc_some

def lenOf : Value → Nat
  | .slice _ n _ => n
  | _ => 0

def dgs : ByteArray := ⟨#[48, 49, 50, 51, 52, 53, 54, 55, 56, 57]⟩
theorem dgs_at (k : Nat) (h : k < 10) : (dgs.extract k (k + 1)).data.toList = [UInt8.ofNat (48 + k)] := by
  have : k = 0 ∨ k = 1 ∨ k = 2 ∨ k = 3 ∨ k = 4 ∨ k = 5 ∨ k = 6 ∨ k = 7 ∨ k = 8 ∨ k = 9 := by omega
  rcases this with rfl | rfl | rfl | rfl | rfl | rfl | rfl | rfl | rfl | rfl <;> decide +kernel

def preD (n : Nat) : List UInt8 := if n = 0 then [] else Lib.decDigits n
theorem pre_step (n : Nat) (h : 0 < n) : preD n = preD (n / 10) ++ [UInt8.ofNat (48 + n % 10)] := by
  unfold preD
  rw [if_neg (by omega)]
  by_cases h10 : n < 10
  · rw [if_pos (by omega), Lib.decDigits, dif_pos h10, Nat.mod_eq_of_lt h10]; rfl
  · rw [if_neg (by omega)]
    conv => lhs; rw [Lib.decDigits, dif_neg h10]
theorem dec_pre (n : Nat) : Lib.decDigits n = preD (n / 10) ++ [UInt8.ofNat (48 + n % 10)] := by
  by_cases h : n = 0
  · subst h; decide +kernel
  · have := pre_step n (by omega)
    rw [← this, preD, if_neg h]

set_option maxRecDepth 100000 in
set_option maxHeartbeats 1000000 in
theorem digits_m (n : Nat) (w : World) (hn : n < 1000) :
    Calls Tryd.prog 59 #[.int .i64 n] w fun e w' => e = .returned (.string ⟨(Lib.itoa n).toArray⟩) ∧ w' = w := by
  have hm0 : (n : Int).tmod 10 = ((n % 10 : Nat) : Int) := by rw [Int.tmod_eq_emod_of_nonneg (by omega)]; omega
  have hq0 : (n : Int).tdiv 10 = ((n / 10 : Nat) : Int) := by rw [Int.tdiv_eq_ediv_of_nonneg (by omega)]; omega
  have hd0 : n % 10 < 10 := Nat.mod_lt _ (by decide)
  have HI : Hid ((⟨(Lib.itoa n).toArray⟩ : ByteArray).data.toList = Lib.decDigits n) := by
    unfold Hid Lib.itoa; rw [if_neg (by omega)]; simp
  have H0 := hide (dgs_at (n % 10) hd0)
  have HD := hide (dec_pre n)
  have hqn : n / 10 ≤ 100 := by omega
  generalize hdd : n % 10 = d at *
  generalize hqq : n / 10 = q at *
  clear hdd hqq
  have e1 : (0 : Int) ≤ (d : Int) := by omega
  have e2 : (d : Int) < 10 := by omega
  go_enter Tryd.func59, Tryd.ntmps59
  go_wp2_with fail
  go_loopw [0, 4] (fun i sv w' => ∃ (m : Nat) (t : ByteArray), i = .int .i64 m ∧ sv = .string t ∧ Hid (w' = w) ∧ Hid (preD m ++ t.data.toList = Lib.decDigits n) ∧ m ≤ 100) (fun i _ _ => (intOf i).toNat)
  case atStart => exact ⟨q, dgs.extract d (d + 1), rfl, rfl, hide rfl, hide (by rw [H0.out, HD.out]), hqn⟩
  case round =>
    obtain ⟨m, t, rfl, rfl, HW, HP, hm⟩ := hrel
    obtain rfl := HW.out
    by_cases h0 : 0 < m
    · have hm0 : (m : Int).tmod 10 = ((m % 10 : Nat) : Int) := by rw [Int.tmod_eq_emod_of_nonneg (by omega)]; omega
      have hq0 : (m : Int).tdiv 10 = ((m / 10 : Nat) : Int) := by rw [Int.tdiv_eq_ediv_of_nonneg (by omega)]; omega
      have hd0 : m % 10 < 10 := Nat.mod_lt _ (by decide)
      have HNX : Hid (preD (m / 10) ++ (dgs.extract (m % 10) (m % 10 + 1) ++ t).data.toList = Lib.decDigits n) := by
        unfold Hid
        rw [← HP.out, pre_step m h0, ByteArray.data_append, Array.toList_append, dgs_at (m % 10) hd0, List.append_assoc]
      have hts : t.size ≤ 3 := by
        have h1 := congrArg List.length HP.out
        have h2 := dec_len hn
        simp at h1
        omega
      have hmq : m / 10 ≤ 100 := by omega
      have hlt : m / 10 < m := by omega
      generalize hdd : m % 10 = d' at *
      generalize hqq : m / 10 = q' at *
      clear hdd hqq
      have e3 : (0 : Int) ≤ (d' : Int) := by omega
      have e4 : (d' : Int) < 10 := by omega
      have e5 : (0 : Int) < (m : Int) := by omega
      go_wp2_with fail
      go_roundw
      case rel => exact ⟨q', dgs.extract d' (d' + 1) ++ t, rfl, rfl, hide trivial, HNX, hmq⟩
      case measure => simp [intOf]; omega
    · have hm0 : m = 0 := by omega
      subst hm0
      have HE : Hid ((⟨(Lib.itoa n).toArray⟩ : ByteArray) = t) := by
        unfold Hid
        apply ByteArray.ext
        apply Array.ext'
        rw [HI.out, ← HP.out]; rfl
      go_wp2_with fail
      go_ret
      exact ⟨by rw [HE.out]; rfl, rfl⟩

def digS (m : Nat) : ByteArray := ⟨(Lib.itoa m).toArray⟩
theorem digits_s (n : Nat) (w : World) (hn : n < 1000) : Calls Tryd.prog 59 #[.int .i64 n] w fun e w' => e = .returned (.string (digS n)) ∧ w' = w := digits_m n w hn
theorem digS_size {m : Nat} (h : m < 1000) : (digS m).size ≤ 3 := by
  unfold digS; simpa [ByteArray.size] using itoa_len (n := (m : Int)) (by omega) (by omega)
theorem digS_list (m : Nat) : (digS m).data.toList = Lib.itoa m := rfl

/- The text so far, and the rest. -/
def finR (out : List UInt8) (l : List Int) : List UInt8 := if l = [] then out else if out = [] then printS l else out ++ [32] ++ printS l

theorem word_ne (t n : Int) : wordS t n ≠ [] := by
  have h : ∀ n : Int, Lib.itoa n ≠ [] := by
    intro n
    unfold Lib.itoa
    split
    · simp
    · rw [Lib.decDigits]; split <;> simp
  unfold wordS
  split
  · exact h t
  · simp

theorem join_two (x : List UInt8) (q : List (List UInt8)) : Lib.join (x :: q) [32] = if q = [] then x else x ++ [32] ++ Lib.join q [32] := by
  cases q with
  | nil => rw [Lib.join_one]; rfl
  | cons y r => rw [Lib.join_cons, Lib.join_cons, if_neg (by simp)]; simp [Lib.joinTail]

def outNext (out : List UInt8) (wd : List UInt8) : List UInt8 := if out = [] then wd else out ++ [32] ++ wd

theorem fin_step (out : List UInt8) (t : Int) (r : List Int) :
    finR (outNext out (wordS t (oftS (t :: r)))) ((t :: r).drop (oftS (t :: r))) = finR out (t :: r) := by
  have hg := grp_oft t r
  have hw := word_ne t (oftS (t :: r))
  have hp : printS (t :: r) = if ((t :: r).drop (oftS (t :: r))) = [] then wordS t (oftS (t :: r)) else wordS t (oftS (t :: r)) ++ [32] ++ printS ((t :: r).drop (oftS (t :: r))) := by
    unfold printS
    rw [hg, List.map_cons, join_two]
    by_cases he : (t :: r).drop (oftS (t :: r)) = []
    · rw [he]; simp [grp]
    · rw [if_neg he, if_neg (by simpa using grp_ne he)]
  generalize (t :: r).drop (oftS (t :: r)) = rest at *
  generalize wordS t (oftS (t :: r)) = wd at *
  unfold finR outNext
  rw [if_neg (show ¬ (t :: r) = [] by simp), hp]
  by_cases ho : out = []
  · rw [if_pos ho, if_pos ho]
    by_cases hr : rest = []
    · rw [if_pos hr, if_pos hr]
    · rw [if_neg hr, if_neg hw, if_neg hr]
  · rw [if_neg ho, if_neg ho]
    by_cases hr : rest = []
    · rw [if_pos hr, if_pos hr]
    · rw [if_neg hr, if_neg (by simp), if_neg hr]; simp

theorem IntsAt.tail {B : Nat} {w : World} {g o cap : Nat} {l : List Int} (h : IntsAt B w (.slice (some ⟨g, o, none⟩) l.length cap) l) (k : Nat) (hk : k ≤ l.length) (a : Option Addr) (ha : k < l.length → a = some ⟨g, o + k, none⟩) : IntsAt B w (.slice a (l.length - k) (cap - k)) (l.drop k) := by
  obtain ⟨ao, cap', e, hcap, hc⟩ := h
  simp only [Value.slice.injEq, true_and] at e
  obtain ⟨rfl, rfl⟩ := e
  refine ⟨a, cap - k, by simp, by simp; omega, fun j hj => ?_⟩
  have hj' : k + j < l.length := by simp at hj; omega
  obtain ⟨g', o', e, hb, c⟩ := hc (k + j) hj'
  simp only [Option.some.injEq, Addr.mk.injEq, and_true] at e
  obtain ⟨rfl, rfl⟩ := e
  refine ⟨g, o + k, ha (by omega), hb, ?_⟩
  rw [Nat.add_assoc, c]; simp

theorem bytes_of (s : ByteArray) : (⟨s.data.toList.toArray⟩ : ByteArray) = s := by cases s; rfl

set_option maxRecDepth 100000 in
set_option maxHeartbeats 1000000 in
theorem refprint_m (l : List Int) (v : Value) (w : World) (hI : IntsAt w.heap.size w v l) :
    Calls Tryd.prog 26 #[v] w fun e w' => w.grownBy w' none ∧ ((validS l = true ∧ e = .returned (.tuple #[.string ⟨(printS l).toArray⟩, .int .i64 0])) ∨ (validS l = false ∧ e = .returned (.tuple #[.string ⟨#[]⟩, .int .i64 2]))) := by
  have HI := hide hI
  obtain ⟨ao, cap, rfl⟩ := hI.form
  clear hI
  go_enter Tryd.func26, Tryd.ntmps26
  go_wp2_with fail
  refine (scheduled_m l _ w HI.out).mono ?_
  rintro e w1 ⟨rfl, hg1⟩
  have HG1 := hide hg1
  have HI1 : Hid (IntsAt w1.heap.size w1 (.slice ao l.length cap) l) := (HI.out.pres (pres_grown hg1)).mono hg1.size
  clear hg1 HI
  cases hv : validS l with
  | false =>
    go_wp2_with fail
    refine bodyPost_ret (v := .tuple #[.string ⟨#[]⟩, .int .i64 2]) (by simp [results, Tryd.results26, go_sem]) rfl ?_
    exact ⟨HG1.out, Or.inr ⟨hv, rfl⟩⟩
  | true =>
    have hv' := hv
    simp only [validS, Bool.and_eq_true, decide_eq_true_eq, List.all_eq_true] at hv'
    obtain ⟨h500, hall⟩ := hv'
    have HALL := hide hall
    have HVV := hide hv
    clear hv hall
    go_wp2_with fail
    go_loopw [0, 5] (fun sv ov w' => ∃ (a : Option Addr) (c : Nat) (rest : List Int) (out : ByteArray), sv = .slice a rest.length c ∧ ov = .string out ∧ Hid (IntsAt w1.heap.size w1 (.slice a rest.length c) rest) ∧ Hid (w1.grownBy w' none) ∧ Hid (finR out.data.toList rest = printS l) ∧ Hid (∀ x ∈ rest, x ∈ l) ∧ rest.length ≤ 500 ∧ out.size + 8 * rest.length ≤ 4000) (fun sv _ _ => lenOf sv)
    case atStart => exact ⟨ao, cap, l, ⟨#[]⟩, rfl, rfl, HI1, hide (grown_refl _ _), hide (by unfold finR; cases l with | nil => rfl | cons a b => rw [if_neg (by simp)]; rfl), hide (fun x hx => hx), h500, by simp [ByteArray.size]; omega⟩
    case round =>
      obtain ⟨a, c, rest, out, rfl, rfl, HIR, HG, HF, HM, hr5, hsz⟩ := hrel
      obtain ⟨w5, hw5⟩ : ∃ w5, w5 = wr := ⟨_, rfl⟩
      subst hw5
      cases rest with
      | nil =>
        have HE : Hid ((⟨(printS l).toArray⟩ : ByteArray) = out) := by
          unfold Hid; rw [← HF.out]; exact bytes_of out
        simp only [List.length_nil]
        go_wp2_with fail
        refine bodyPost_ret (v := .tuple #[.string out, .int .i64 0]) (by simp [results, Tryd.results26, go_sem]) rfl ?_
        exact ⟨grown_trans HG1.out HG.out, Or.inl ⟨HVV.out, by rw [HE.out]⟩⟩
      | cons t r =>
        have hpos : 0 < (t :: r).length := by simp
        have hI := HIR.out
        obtain ⟨ao', cp', e', hcp, hc⟩ := hI
        simp only [Value.slice.injEq, true_and] at e'
        obtain ⟨rfl, rfl⟩ := e'
        obtain ⟨g, o, rfl, hgb, c0'⟩ := hc 0 hpos
        simp only [List.getElem_cons_zero, Nat.add_zero] at c0'
        have c0 := pres_grown HG.out _ _ c0'
        have ht := HALL.out t (HM.out t (by simp))
        have HOF := hide (often_m t r (.slice (some ⟨g, o, none⟩) (t :: r).length c) w5 ((HIR.out.pres (pres_grown HG.out)).mono HG.out.size) (by omega))
        have hnl := oft_le (t :: r)
        have hn1 : 1 ≤ oftS (t :: r) := by rw [oft_cons]; omega
        have HFS := hide (fin_step out.data.toList t r)
        have hdl : ((t :: r).drop (oftS (t :: r))).length = (t :: r).length - oftS (t :: r) := by simp
        have HIT := HIR
        clear hc c0'
        obtain ⟨t, rfl⟩ := Int.eq_ofNat_of_zero_le ht.1
        have hdts : (digS t).size ≤ 3 := digS_size (by omega)
        have hdtl := digS_list t
        generalize hoft : oftS ((t : Int) :: r) = n at *
        have hdns : (digS n).size ≤ 3 := digS_size (by omega)
        have hdnl := digS_list n
        clear hoft
        generalize hL : (t : Int) :: r = RL at *
        have HLL := hide hL
        clear hL
        have q0 : (0 : Int) < RL.length := by omega
        have q1 : (n : Int) ≤ RL.length := by omega
        have q2 : (0 : Int) ≤ (n : Int) := by omega
        have q3 : (n : Int) ≤ c := by omega
        have q4 : RL.length ≤ c := hcp
        have HDL := hide hdl
        have END : Hid (∀ (w' : World) (out' : ByteArray), Hid (w1.grownBy w' none) → out'.data.toList = outNext out.data.toList (wordS t n) → out'.size ≤ out.size + 8 →
            ∃ (a : Option Addr) (c_1 : Nat) (rest : List Int) (out_1 : ByteArray), Value.slice (if c = n then some { block := g, off := o } else some { block := g, off := o + n }) (RL.length - n) (c - n) = .slice a rest.length c_1 ∧ Value.string out' = .string out_1 ∧ Hid (IntsAt w1.heap.size w1 (.slice a rest.length c_1) rest) ∧ Hid (w1.grownBy w' none) ∧ Hid (finR out_1.data.toList rest = printS l) ∧ Hid (∀ x ∈ rest, x ∈ l) ∧ rest.length ≤ 500 ∧ out_1.size + 8 * rest.length ≤ 4000) := by
          intro w' out' hg' ho' hs'
          have hd := HDL.out
          refine ⟨_, c - n, RL.drop n, out', by rw [hd], rfl, ?_, hg', ?_, ?_, by rw [hd]; omega, by rw [hd]; omega⟩
          · rw [hd]
            exact hide (HIT.out.tail n hnl _ (fun h => by rw [if_neg (by omega)]))
          · rw [ho', HFS.out]; exact HF
          · exact hide (fun x hx => HM.out x (List.mem_of_mem_drop hx))
        by_cases hoe : out.toList = []
        · have hie : out.toList.isEmpty = true := by rw [hoe]; rfl
          have hod : out.data.toList = [] := by rw [← ByteArray.toList_eq]; exact hoe
          have b1 : ¬ 9223372036854775807 < out.size + (digS t).size := by omega
          have b2 : ¬ 9223372036854775807 < out.size + (digS t).size + 1 := by omega
          have b3 : ¬ 9223372036854775807 < out.size + (digS t).size + 1 + (digS n).size := by omega
          by_cases hn2 : n = 1
          · have HON : Hid ((out ++ digS t).data.toList = outNext out.data.toList (wordS t n)) := by
              unfold Hid outNext wordS; rw [if_pos hod, hn2]; simp [hod, hdtl]
            have hq : ¬ (1 : Int) < (n : Int) := by omega
            clear hoe hod hn2 hdtl hdnl hdl
            go_wp2_with (first | (go_at_call 48; refine HOF.out.mono ?_; rintro e w6 ⟨rfl, hg6⟩; have HG6 := hide (grown_trans HG.out hg6); have c6 := pres_grown hg6 _ _ c0; clear hg6) | (go_at_call 59; refine (digits_s _ _ (by omega)).mono ?_; rintro e w7 ⟨rfl, rfl⟩))
            go_roundw
            case rel => exact END.out _ _ HG6 HON.out (by have z1 : (⟨#[42]⟩ : ByteArray).size = 1 := rfl; have z2 : (⟨#[32]⟩ : ByteArray).size = 1 := rfl; simp; omega)
            case measure => simp [lenOf]; omega
          · have HON : Hid ((out ++ digS t ++ ⟨#[42]⟩ ++ digS n).data.toList = outNext out.data.toList (wordS t n)) := by
              unfold Hid outNext wordS; rw [if_pos hod, if_neg (by omega)]; simp [hod, hdtl, hdnl]
            have hq : (1 : Int) < (n : Int) := by omega
            clear hoe hod hn2 hdtl hdnl hdl
            go_wp2_with (first | (go_at_call 48; refine HOF.out.mono ?_; rintro e w6 ⟨rfl, hg6⟩; have HG6 := hide (grown_trans HG.out hg6); have c6 := pres_grown hg6 _ _ c0; clear hg6) | (go_at_call 59; refine (digits_s _ _ (by omega)).mono ?_; rintro e w7 ⟨rfl, rfl⟩))
            go_roundw
            case rel => exact END.out _ _ HG6 HON.out (by have z1 : (⟨#[42]⟩ : ByteArray).size = 1 := rfl; have z2 : (⟨#[32]⟩ : ByteArray).size = 1 := rfl; simp; omega)
            case measure => simp [lenOf]; omega
        · have hie : out.toList.isEmpty = false := by simpa using hoe
          have hod : out.data.toList ≠ [] := by rw [← ByteArray.toList_eq]; exact hoe
          have b0 : ¬ 9223372036854775807 < out.size + 1 := by omega
          have b1 : ¬ 9223372036854775807 < out.size + 1 + (digS t).size := by omega
          have b2 : ¬ 9223372036854775807 < out.size + 1 + (digS t).size + 1 := by omega
          have b3 : ¬ 9223372036854775807 < out.size + 1 + (digS t).size + 1 + (digS n).size := by omega
          by_cases hn2 : n = 1
          · have HON : Hid ((out ++ ⟨#[32]⟩ ++ digS t).data.toList = outNext out.data.toList (wordS t n)) := by
              unfold Hid outNext wordS; rw [if_neg hod, hn2]; simp [hdtl]
            have hq : ¬ (1 : Int) < (n : Int) := by omega
            clear hoe hod hn2 hdtl hdnl hdl
            go_wp2_with (first | (go_at_call 48; refine HOF.out.mono ?_; rintro e w6 ⟨rfl, hg6⟩; have HG6 := hide (grown_trans HG.out hg6); have c6 := pres_grown hg6 _ _ c0; clear hg6) | (go_at_call 59; refine (digits_s _ _ (by omega)).mono ?_; rintro e w7 ⟨rfl, rfl⟩))
            go_roundw
            case rel => exact END.out _ _ HG6 HON.out (by have z1 : (⟨#[42]⟩ : ByteArray).size = 1 := rfl; have z2 : (⟨#[32]⟩ : ByteArray).size = 1 := rfl; simp; omega)
            case measure => simp [lenOf]; omega
          · have HON : Hid ((out ++ ⟨#[32]⟩ ++ digS t ++ ⟨#[42]⟩ ++ digS n).data.toList = outNext out.data.toList (wordS t n)) := by
              unfold Hid outNext wordS; rw [if_neg hod, if_neg (by omega)]; simp [hdtl, hdnl]
            have hq : (1 : Int) < (n : Int) := by omega
            clear hoe hod hn2 hdtl hdnl hdl
            go_wp2_with (first | (go_at_call 48; refine HOF.out.mono ?_; rintro e w6 ⟨rfl, hg6⟩; have HG6 := hide (grown_trans HG.out hg6); have c6 := pres_grown hg6 _ _ c0; clear hg6) | (go_at_call 59; refine (digits_s _ _ (by omega)).mono ?_; rintro e w7 ⟨rfl, rfl⟩))
            go_roundw
            case rel => exact END.out _ _ HG6 HON.out (by have z1 : (⟨#[42]⟩ : ByteArray).size = 1 := rfl; have z2 : (⟨#[32]⟩ : ByteArray).size = 1 := rfl; simp; omega)
            case measure => simp [lenOf]; omega

end Go.Proofs.YthgeiolabecikaaDoor
