/- The second form's card of Texts: where what is read is of bulk at most the bound, every Print and Parse are as the reference says. -/
import Derived.Test.YtklenjmfalljgaaDoorME
import Derived.Test.YtklenjmfalljgaaDoorRows
import Derived.Test.YtklenjmfalljgaaDoorCards
import Derived.Test.YtklenjmfalljgaaDoorTie
import Derived.Deep.DeepHandedRow
import Derived.Deep.DeepWitnessRowRef
import Derived.LaidMore
import Derived.Carry
import Derived.ProofKit
import Derived.OpenShut
import Derived.ChangeMaps5
import Derived.Lib.LaidTab

/- The walks of the reference's digits and Print. -/
namespace Go.Proofs.YtklenjmfalljgaaDoor
open Go.RowKit
attribute [local go_sem] Go.World.cell?_alloc_some

def lenOf : Value → Nat
  | .slice _ n _ => n
  | _ => 0

def dgs : ByteArray := ⟨#[48, 49, 50, 51, 52, 53, 54, 55, 56, 57]⟩
theorem dgs_at (k : Nat) (h : k < 10) : (dgs.extract k (k + 1)).data.toList = [UInt8.ofNat (48 + k)] := by
  have : k = 0 ∨ k = 1 ∨ k = 2 ∨ k = 3 ∨ k = 4 ∨ k = 5 ∨ k = 6 ∨ k = 7 ∨ k = 8 ∨ k = 9 := by omega
  rcases this with rfl | rfl | rfl | rfl | rfl | rfl | rfl | rfl | rfl | rfl <;> decide +kernel

def preD (n : Nat) : List UInt8 := if n = 0 then [] else Lib.decDigits n
theorem pre_step (n : Nat) (h : 0 < n) : preD n = preD (n / 10) ++ [UInt8.ofNat (48 + n % 10)] := by
  unfold preD
  rw [if_neg (by omega)]
  by_cases h10 : n < 10
  · rw [if_pos (by omega), Lib.decDigits, dif_pos h10, Nat.mod_eq_of_lt h10]; rfl
  · rw [if_neg (by omega)]
    conv => lhs; rw [Lib.decDigits, dif_neg h10]
theorem dec_pre (n : Nat) : Lib.decDigits n = preD (n / 10) ++ [UInt8.ofNat (48 + n % 10)] := by
  by_cases h : n = 0
  · subst h; decide +kernel
  · have := pre_step n (by omega)
    rw [← this, preD, if_neg h]

set_option maxRecDepth 100000 in
set_option maxHeartbeats 1000000 in
theorem digits_m (n : Nat) (w : World) (hn : n < 1000) :
    Calls Tryd.prog 64 #[.int .i64 n] w fun e w' => e = .returned (.string ⟨(Lib.itoa n).toArray⟩) ∧ w' = w := by
  have hm0 : (n : Int).tmod 10 = ((n % 10 : Nat) : Int) := by rw [Int.tmod_eq_emod_of_nonneg (by omega)]; omega
  have hq0 : (n : Int).tdiv 10 = ((n / 10 : Nat) : Int) := by rw [Int.tdiv_eq_ediv_of_nonneg (by omega)]; omega
  have hd0 : n % 10 < 10 := Nat.mod_lt _ (by decide)
  have HI : Hid ((⟨(Lib.itoa n).toArray⟩ : ByteArray).data.toList = Lib.decDigits n) := by
    unfold Hid Lib.itoa; rw [if_neg (by omega)]; simp
  have H0 := hide (dgs_at (n % 10) hd0)
  have HD := hide (dec_pre n)
  have hqn : n / 10 ≤ 100 := by omega
  generalize hdd : n % 10 = d at *
  generalize hqq : n / 10 = q at *
  clear hdd hqq
  have e1 : (0 : Int) ≤ (d : Int) := by omega
  have e2 : (d : Int) < 10 := by omega
  go_enter Tryd.func64, Tryd.ntmps64
  go_wp2_with fail
  go_loopw [0, 4] (fun i sv w' => ∃ (m : Nat) (t : ByteArray), i = .int .i64 m ∧ sv = .string t ∧ Hid (w' = w) ∧ Hid (preD m ++ t.data.toList = Lib.decDigits n) ∧ m ≤ 100) (fun i _ _ => (intOf i).toNat)
  case atStart => exact ⟨q, dgs.extract d (d + 1), rfl, rfl, hide rfl, hide (by rw [H0.out, HD.out]), hqn⟩
  case round =>
    obtain ⟨m, t, rfl, rfl, HW, HP, hm⟩ := hrel
    obtain rfl := HW.out
    by_cases h0 : 0 < m
    · have hm0 : (m : Int).tmod 10 = ((m % 10 : Nat) : Int) := by rw [Int.tmod_eq_emod_of_nonneg (by omega)]; omega
      have hq0 : (m : Int).tdiv 10 = ((m / 10 : Nat) : Int) := by rw [Int.tdiv_eq_ediv_of_nonneg (by omega)]; omega
      have hd0 : m % 10 < 10 := Nat.mod_lt _ (by decide)
      have HNX : Hid (preD (m / 10) ++ (dgs.extract (m % 10) (m % 10 + 1) ++ t).data.toList = Lib.decDigits n) := by
        unfold Hid
        rw [← HP.out, pre_step m h0, ByteArray.data_append, Array.toList_append, dgs_at (m % 10) hd0, List.append_assoc]
      have hts : t.size ≤ 3 := by
        have h1 := congrArg List.length HP.out
        have h2 := dec_len hn
        simp at h1
        omega
      have hmq : m / 10 ≤ 100 := by omega
      have hlt : m / 10 < m := by omega
      generalize hdd : m % 10 = d' at *
      generalize hqq : m / 10 = q' at *
      clear hdd hqq
      have e3 : (0 : Int) ≤ (d' : Int) := by omega
      have e4 : (d' : Int) < 10 := by omega
      have e5 : (0 : Int) < (m : Int) := by omega
      go_wp2_with fail
      go_roundw
      case rel => exact ⟨q', dgs.extract d' (d' + 1) ++ t, rfl, rfl, hide trivial, HNX, hmq⟩
      case measure => simp [intOf]; omega
    · have hm0 : m = 0 := by omega
      subst hm0
      have HE : Hid ((⟨(Lib.itoa n).toArray⟩ : ByteArray) = t) := by
        unfold Hid
        apply ByteArray.ext
        apply Array.ext'
        rw [HI.out, ← HP.out]; rfl
      go_wp2_with fail
      go_ret
      exact ⟨by rw [HE.out]; rfl, rfl⟩

def digS (m : Nat) : ByteArray := ⟨(Lib.itoa m).toArray⟩
theorem digits_s (n : Nat) (w : World) (hn : n < 1000) : Calls Tryd.prog 64 #[.int .i64 n] w fun e w' => e = .returned (.string (digS n)) ∧ w' = w := digits_m n w hn
theorem digS_size {m : Nat} (h : m < 1000) : (digS m).size ≤ 3 := by
  unfold digS; simpa [ByteArray.size] using itoa_len (n := (m : Int)) (by omega) (by omega)
theorem digS_list (m : Nat) : (digS m).data.toList = Lib.itoa m := rfl

/- The text so far, and the rest. -/
def finR (out : List UInt8) (l : List Int) : List UInt8 := if l = [] then out else if out = [] then printS l else out ++ [32] ++ printS l

theorem word_ne (t n : Int) : wordS t n ≠ [] := by
  have h : ∀ n : Int, Lib.itoa n ≠ [] := by
    intro n
    unfold Lib.itoa
    split
    · simp
    · rw [Lib.decDigits]; split <;> simp
  unfold wordS
  split
  · exact h t
  · simp

theorem join_two (x : List UInt8) (q : List (List UInt8)) : Lib.join (x :: q) [32] = if q = [] then x else x ++ [32] ++ Lib.join q [32] := by
  cases q with
  | nil => rw [Lib.join_one]; rfl
  | cons y r => rw [Lib.join_cons, Lib.join_cons, if_neg (by simp)]; simp [Lib.joinTail]

def outNext (out : List UInt8) (wd : List UInt8) : List UInt8 := if out = [] then wd else out ++ [32] ++ wd

theorem fin_step (out : List UInt8) (t : Int) (r : List Int) :
    finR (outNext out (wordS t (oftS (t :: r)))) ((t :: r).drop (oftS (t :: r))) = finR out (t :: r) := by
  have hg := grp_oft t r
  have hw := word_ne t (oftS (t :: r))
  have hp : printS (t :: r) = if ((t :: r).drop (oftS (t :: r))) = [] then wordS t (oftS (t :: r)) else wordS t (oftS (t :: r)) ++ [32] ++ printS ((t :: r).drop (oftS (t :: r))) := by
    unfold printS
    rw [hg, List.map_cons, join_two]
    by_cases he : (t :: r).drop (oftS (t :: r)) = []
    · rw [he]; simp [grp]
    · rw [if_neg he, if_neg (by simpa using grp_ne he)]
  generalize (t :: r).drop (oftS (t :: r)) = rest at *
  generalize wordS t (oftS (t :: r)) = wd at *
  unfold finR outNext
  rw [if_neg (show ¬ (t :: r) = [] by simp), hp]
  by_cases ho : out = []
  · rw [if_pos ho, if_pos ho]
    by_cases hr : rest = []
    · rw [if_pos hr, if_pos hr]
    · rw [if_neg hr, if_neg hw, if_neg hr]
  · rw [if_neg ho, if_neg ho]
    by_cases hr : rest = []
    · rw [if_pos hr, if_pos hr]
    · rw [if_neg hr, if_neg (by simp), if_neg hr]; simp

theorem IntsAt.tail {B : Nat} {w : World} {g o cap : Nat} {l : List Int} (h : IntsAt B w (.slice (some ⟨g, o, none⟩) l.length cap) l) (k : Nat) (hk : k ≤ l.length) (a : Option Addr) (ha : k < l.length → a = some ⟨g, o + k, none⟩) : IntsAt B w (.slice a (l.length - k) (cap - k)) (l.drop k) := by
  obtain ⟨ao, cap', e, hcap, hc⟩ := h
  simp only [Value.slice.injEq, true_and] at e
  obtain ⟨rfl, rfl⟩ := e
  refine ⟨a, cap - k, by simp, by simp; omega, fun j hj => ?_⟩
  have hj' : k + j < l.length := by simp at hj; omega
  obtain ⟨g', o', e, hb, c⟩ := hc (k + j) hj'
  simp only [Option.some.injEq, Addr.mk.injEq, and_true] at e
  obtain ⟨rfl, rfl⟩ := e
  refine ⟨g, o + k, ha (by omega), hb, ?_⟩
  rw [Nat.add_assoc, c]; simp

theorem bytes_of (s : ByteArray) : (⟨s.data.toList.toArray⟩ : ByteArray) = s := by cases s; rfl

set_option maxRecDepth 100000 in
set_option maxHeartbeats 1000000 in
theorem refprint_m (l : List Int) (v : Value) (w : World) (hI : IntsAt w.heap.size w v l) :
    Calls Tryd.prog 27 #[v] w fun e w' => w.grownBy w' none ∧ ((validS l = true ∧ e = .returned (.tuple #[.string ⟨(printS l).toArray⟩, .int .i64 0])) ∨ (validS l = false ∧ e = .returned (.tuple #[.string ⟨#[]⟩, .int .i64 2]))) := by
  have HI := hide hI
  obtain ⟨ao, cap, rfl⟩ := hI.form
  clear hI
  go_enter Tryd.func27, Tryd.ntmps27
  go_wp2_with fail
  refine (scheduled_m l _ w HI.out).mono ?_
  rintro e w1 ⟨rfl, hg1⟩
  have HG1 := hide hg1
  have HI1 : Hid (IntsAt w1.heap.size w1 (.slice ao l.length cap) l) := (HI.out.pres (pres_grown hg1)).mono hg1.size
  clear hg1 HI
  cases hv : validS l with
  | false =>
    go_wp2_with fail
    refine bodyPost_ret (v := .tuple #[.string ⟨#[]⟩, .int .i64 2]) (by simp [results, Tryd.results27, go_sem]) rfl ?_
    exact ⟨HG1.out, Or.inr ⟨hv, rfl⟩⟩
  | true =>
    have hv' := hv
    simp only [validS, Bool.and_eq_true, decide_eq_true_eq, List.all_eq_true] at hv'
    obtain ⟨h500, hall⟩ := hv'
    have HALL := hide hall
    have HVV := hide hv
    clear hv hall
    go_wp2_with fail
    go_loopw [0, 5] (fun sv ov w' => ∃ (a : Option Addr) (c : Nat) (rest : List Int) (out : ByteArray), sv = .slice a rest.length c ∧ ov = .string out ∧ Hid (IntsAt w1.heap.size w1 (.slice a rest.length c) rest) ∧ Hid (w1.grownBy w' none) ∧ Hid (finR out.data.toList rest = printS l) ∧ Hid (∀ x ∈ rest, x ∈ l) ∧ rest.length ≤ 500 ∧ out.size + 8 * rest.length ≤ 4000) (fun sv _ _ => lenOf sv)
    case atStart => exact ⟨ao, cap, l, ⟨#[]⟩, rfl, rfl, HI1, hide (grown_refl _ _), hide (by unfold finR; cases l with | nil => rfl | cons a b => rw [if_neg (by simp)]; rfl), hide (fun x hx => hx), h500, by simp [ByteArray.size]; omega⟩
    case round =>
      obtain ⟨a, c, rest, out, rfl, rfl, HIR, HG, HF, HM, hr5, hsz⟩ := hrel
      obtain ⟨w5, hw5⟩ : ∃ w5, w5 = wr := ⟨_, rfl⟩
      subst hw5
      cases rest with
      | nil =>
        have HE : Hid ((⟨(printS l).toArray⟩ : ByteArray) = out) := by
          unfold Hid; rw [← HF.out]; exact bytes_of out
        simp only [List.length_nil]
        go_wp2_with fail
        refine bodyPost_ret (v := .tuple #[.string out, .int .i64 0]) (by simp [results, Tryd.results27, go_sem]) rfl ?_
        exact ⟨grown_trans HG1.out HG.out, Or.inl ⟨HVV.out, by rw [HE.out]⟩⟩
      | cons t r =>
        have hpos : 0 < (t :: r).length := by simp
        have hI := HIR.out
        obtain ⟨ao', cp', e', hcp, hc⟩ := hI
        simp only [Value.slice.injEq, true_and] at e'
        obtain ⟨rfl, rfl⟩ := e'
        obtain ⟨g, o, rfl, hgb, c0'⟩ := hc 0 hpos
        simp only [List.getElem_cons_zero, Nat.add_zero] at c0'
        have c0 := pres_grown HG.out _ _ c0'
        have ht := HALL.out t (HM.out t (by simp))
        have HOF := hide (often_m t r (.slice (some ⟨g, o, none⟩) (t :: r).length c) w5 ((HIR.out.pres (pres_grown HG.out)).mono HG.out.size) (by omega))
        have hnl := oft_le (t :: r)
        have hn1 : 1 ≤ oftS (t :: r) := by rw [oft_cons]; omega
        have HFS := hide (fin_step out.data.toList t r)
        have hdl : ((t :: r).drop (oftS (t :: r))).length = (t :: r).length - oftS (t :: r) := by simp
        have HIT := HIR
        clear hc c0'
        obtain ⟨t, rfl⟩ := Int.eq_ofNat_of_zero_le ht.1
        have hdts : (digS t).size ≤ 3 := digS_size (by omega)
        have hdtl := digS_list t
        generalize hoft : oftS ((t : Int) :: r) = n at *
        have hdns : (digS n).size ≤ 3 := digS_size (by omega)
        have hdnl := digS_list n
        clear hoft
        generalize hL : (t : Int) :: r = RL at *
        have HLL := hide hL
        clear hL
        have q0 : (0 : Int) < RL.length := by omega
        have q1 : (n : Int) ≤ RL.length := by omega
        have q2 : (0 : Int) ≤ (n : Int) := by omega
        have q3 : (n : Int) ≤ c := by omega
        have q4 : RL.length ≤ c := hcp
        have HDL := hide hdl
        have END : Hid (∀ (w' : World) (out' : ByteArray), Hid (w1.grownBy w' none) → out'.data.toList = outNext out.data.toList (wordS t n) → out'.size ≤ out.size + 8 →
            ∃ (a : Option Addr) (c_1 : Nat) (rest : List Int) (out_1 : ByteArray), Value.slice (if c = n then some { block := g, off := o } else some { block := g, off := o + n }) (RL.length - n) (c - n) = .slice a rest.length c_1 ∧ Value.string out' = .string out_1 ∧ Hid (IntsAt w1.heap.size w1 (.slice a rest.length c_1) rest) ∧ Hid (w1.grownBy w' none) ∧ Hid (finR out_1.data.toList rest = printS l) ∧ Hid (∀ x ∈ rest, x ∈ l) ∧ rest.length ≤ 500 ∧ out_1.size + 8 * rest.length ≤ 4000) := by
          intro w' out' hg' ho' hs'
          have hd := HDL.out
          refine ⟨_, c - n, RL.drop n, out', by rw [hd], rfl, ?_, hg', ?_, ?_, by rw [hd]; omega, by rw [hd]; omega⟩
          · rw [hd]
            exact hide (HIT.out.tail n hnl _ (fun h => by rw [if_neg (by omega)]))
          · rw [ho', HFS.out]; exact HF
          · exact hide (fun x hx => HM.out x (List.mem_of_mem_drop hx))
        by_cases hoe : out.toList = []
        · have hie : out.toList.isEmpty = true := by rw [hoe]; rfl
          have hod : out.data.toList = [] := by rw [← ByteArray.toList_eq]; exact hoe
          have b1 : ¬ 9223372036854775807 < out.size + (digS t).size := by omega
          have b2 : ¬ 9223372036854775807 < out.size + (digS t).size + 1 := by omega
          have b3 : ¬ 9223372036854775807 < out.size + (digS t).size + 1 + (digS n).size := by omega
          by_cases hn2 : n = 1
          · have HON : Hid ((out ++ digS t).data.toList = outNext out.data.toList (wordS t n)) := by
              unfold Hid outNext wordS; rw [if_pos hod, hn2]; simp [hod, hdtl]
            have hq : ¬ (1 : Int) < (n : Int) := by omega
            clear hoe hod hn2 hdtl hdnl hdl
            go_wp2_with (first | (go_at_call 52; refine HOF.out.mono ?_; rintro e w6 ⟨rfl, hg6⟩; have HG6 := hide (grown_trans HG.out hg6); have c6 := pres_grown hg6 _ _ c0; clear hg6) | (go_at_call 64; refine (digits_s _ _ (by omega)).mono ?_; rintro e w7 ⟨rfl, rfl⟩))
            go_roundw
            case rel => exact END.out _ _ HG6 HON.out (by have z1 : (⟨#[42]⟩ : ByteArray).size = 1 := rfl; have z2 : (⟨#[32]⟩ : ByteArray).size = 1 := rfl; simp; omega)
            case measure => simp [lenOf]; omega
          · have HON : Hid ((out ++ digS t ++ ⟨#[42]⟩ ++ digS n).data.toList = outNext out.data.toList (wordS t n)) := by
              unfold Hid outNext wordS; rw [if_pos hod, if_neg (by omega)]; simp [hod, hdtl, hdnl]
            have hq : (1 : Int) < (n : Int) := by omega
            clear hoe hod hn2 hdtl hdnl hdl
            go_wp2_with (first | (go_at_call 52; refine HOF.out.mono ?_; rintro e w6 ⟨rfl, hg6⟩; have HG6 := hide (grown_trans HG.out hg6); have c6 := pres_grown hg6 _ _ c0; clear hg6) | (go_at_call 64; refine (digits_s _ _ (by omega)).mono ?_; rintro e w7 ⟨rfl, rfl⟩))
            go_roundw
            case rel => exact END.out _ _ HG6 HON.out (by have z1 : (⟨#[42]⟩ : ByteArray).size = 1 := rfl; have z2 : (⟨#[32]⟩ : ByteArray).size = 1 := rfl; simp; omega)
            case measure => simp [lenOf]; omega
        · have hie : out.toList.isEmpty = false := by simpa using hoe
          have hod : out.data.toList ≠ [] := by rw [← ByteArray.toList_eq]; exact hoe
          have b0 : ¬ 9223372036854775807 < out.size + 1 := by omega
          have b1 : ¬ 9223372036854775807 < out.size + 1 + (digS t).size := by omega
          have b2 : ¬ 9223372036854775807 < out.size + 1 + (digS t).size + 1 := by omega
          have b3 : ¬ 9223372036854775807 < out.size + 1 + (digS t).size + 1 + (digS n).size := by omega
          by_cases hn2 : n = 1
          · have HON : Hid ((out ++ ⟨#[32]⟩ ++ digS t).data.toList = outNext out.data.toList (wordS t n)) := by
              unfold Hid outNext wordS; rw [if_neg hod, hn2]; simp [hdtl]
            have hq : ¬ (1 : Int) < (n : Int) := by omega
            clear hoe hod hn2 hdtl hdnl hdl
            go_wp2_with (first | (go_at_call 52; refine HOF.out.mono ?_; rintro e w6 ⟨rfl, hg6⟩; have HG6 := hide (grown_trans HG.out hg6); have c6 := pres_grown hg6 _ _ c0; clear hg6) | (go_at_call 64; refine (digits_s _ _ (by omega)).mono ?_; rintro e w7 ⟨rfl, rfl⟩))
            go_roundw
            case rel => exact END.out _ _ HG6 HON.out (by have z1 : (⟨#[42]⟩ : ByteArray).size = 1 := rfl; have z2 : (⟨#[32]⟩ : ByteArray).size = 1 := rfl; simp; omega)
            case measure => simp [lenOf]; omega
          · have HON : Hid ((out ++ ⟨#[32]⟩ ++ digS t ++ ⟨#[42]⟩ ++ digS n).data.toList = outNext out.data.toList (wordS t n)) := by
              unfold Hid outNext wordS; rw [if_neg hod, if_neg (by omega)]; simp [hdtl, hdnl]
            have hq : (1 : Int) < (n : Int) := by omega
            clear hoe hod hn2 hdtl hdnl hdl
            go_wp2_with (first | (go_at_call 52; refine HOF.out.mono ?_; rintro e w6 ⟨rfl, hg6⟩; have HG6 := hide (grown_trans HG.out hg6); have c6 := pres_grown hg6 _ _ c0; clear hg6) | (go_at_call 64; refine (digits_s _ _ (by omega)).mono ?_; rintro e w7 ⟨rfl, rfl⟩))
            go_roundw
            case rel => exact END.out _ _ HG6 HON.out (by have z1 : (⟨#[42]⟩ : ByteArray).size = 1 := rfl; have z2 : (⟨#[32]⟩ : ByteArray).size = 1 := rfl; simp; omega)
            case measure => simp [lenOf]; omega

end Go.Proofs.YtklenjmfalljgaaDoor

/- The walks of printed, parsed and Texts. -/
namespace Go.Proofs.YtklenjmfalljgaaDoor
open Go.RowKit
attribute [local go_sem] Go.World.cell?_alloc_some

theorem turned_base {W w w' : World} {b g : Nat} (h : W.grownBy w none) (ht : Turned w b g w') (hb : W.heap.size ≤ b) (hg : W.heap.size ≤ g) : W.grownBy w' none :=
  ⟨ht.1.trans h.os, ht.2.1.trans h.tape, ht.2.2.1.trans h.output, Nat.le_trans h.size ht.2.2.2.1, fun k hk _ => by
    rw [ht.2.2.2.2 k (Nat.lt_of_lt_of_le hk h.size) (by omega) (by omega)]; exact h.block k hk (by simp)⟩
theorem base_some {W w w' : World} {b : Nat} (h : W.grownBy w none) (hg : w.grownBy w' (some b)) (hb : W.heap.size ≤ b) : W.grownBy w' none :=
  ⟨hg.os.trans h.os, hg.tape.trans h.tape, hg.output.trans h.output, Nat.le_trans h.size hg.size, fun k hk _ => by
    rw [hg.block k (Nat.lt_of_lt_of_le hk h.size) (by simp; omega)]; exact h.block k hk (by simp)⟩

set_option maxRecDepth 100000 in
set_option maxHeartbeats 1000000 in
theorem printed_m (W w : World) (b : Nat) (n : Int) (ov mv lv : Value) (l : List Int) (hW : W.grownBy w none) (hT : Tab W) (hI : IntsAt W.heap.size W lv l) (hln : l.length ≤ 1048576) (h : HAt w b (.slice none 0 0) (.slice none 0 0) n ov mv) (hb : W.heap.size ≤ b) :
    Calls Tryd.prog 25 #[pt b, lv] w fun e w' => e = .returned (.bool true) ∧ HAt w' b (.slice none 0 0) (.slice none 0 0) n ov mv ∧ W.grownBy w' none := by
  have hIW : ∀ w', W.grownBy w' none → IntsAt w'.heap.size w' lv l := fun w' hg => (hI.pres (pres_grown hg)).mono hg.size
  have HIW := hide hIW
  have HT := hide hT
  have HH := hide h
  have HW := hide hW
  obtain ⟨ao, cap, rfl⟩ := hI.form
  have hpt : pt b = .pointer (some ⟨b, 0, none⟩) := rfl
  have HSC := hide (schedule_h b n ov mv (.slice ao l.length cap) l w h (hIW w hW) hln)
  clear hIW hT h hW hI
  rw [hpt] at *
  go_enter Tryd.func25, Tryd.ntmps25
  go_wp2_with fail
  refine HSC.out.mono ?_
  clear HSC
  rintro e w1 ⟨g, rfl, hlent, hg1⟩
  have hW1 := base_some HW.out hg1 hb
  have hglo := hlent.lo
  have hWw := HW.out.size
  have HLE := hide hlent
  have HW1 := hide hW1
  have HPR := hide (print_m l (.slice (some ⟨g, 0, none⟩) l.length (l.length + 2)) w1 (HT.out.grown hW1) (lent_ints hlent.row))
  clear hlent hg1 hW1
  go_wp2_with fail
  refine HPR.out.mono ?_
  clear HPR
  rintro e w2 ⟨hg2, he⟩
  have hW2 := grown_trans HW1.out hg2
  have HW2 := hide hW2
  have hgb := HLE.out.gb
  have HBK : Hid (Calls Tryd.prog 46 #[.pointer (some ⟨b, 0, none⟩)] w2 fun e w' => e = .returned (.bool true) ∧ HAt w' b (.slice none 0 0) (.slice none 0 0) n ov mv ∧ Turned w2 b g w') := by
    obtain ⟨g1, c1, g2, c2, h1, h2, h3, h4, h5, h6, h7⟩ := HLE.out.h
    exact back_h b g g1 c1 g2 c2 n ov mv _ l w2 hln (h1.grown hg2 (by simp)) (pres_grown hg2 _ _ h2) (pres_grown hg2 _ _ h3) (by rw [hg2.block g (Array.getElem?_eq_some_iff.1 HLE.out.row).1 (by simp)]; exact HLE.out.row) (HIW.out w2 hW2) hgb h4 h6
  clear hg2 hW2
  have hgW : W.heap.size ≤ g := by omega
  rcases he with ⟨hv, rfl⟩ | ⟨hv, rfl⟩
  · go_wp2_with (go_at_call 46; refine HBK.out.mono ?_)
    rintro e w3 ⟨rfl, hh3, ht3⟩
    have HW3 := hide (turned_base HW2.out ht3 hb hgW)
    have HH3 := hide hh3
    have HRP := hide (refprint_m l (.slice ao l.length cap) w3 (HIW.out w3 HW3.out))
    clear hh3 ht3 HBK
    go_wp2_with (go_at_call 27; refine HRP.out.mono ?_)
    rintro e w4 ⟨hg4, he4⟩
    rcases he4 with ⟨_, rfl⟩ | ⟨hv2, rfl⟩
    · have HW4 := hide (grown_trans HW3.out hg4)
      have HH4 := hide (HH3.out.grown hg4 (by simp))
      clear hg4 HRP
      go_wp2_with (go_at_call 47; refine (num_m _ _).mono ?_; rintro e w5 ⟨rfl, rfl⟩)
      all_goals
        go_ret
        refine ⟨?_, HH4.out, HW4.out⟩
        simp [*]
    · rw [hv] at hv2; cases hv2
  · go_wp2_with (go_at_call 46; refine HBK.out.mono ?_)
    rintro e w3 ⟨rfl, hh3, ht3⟩
    have HW3 := hide (turned_base HW2.out ht3 hb hgW)
    have HH3 := hide hh3
    have HRP := hide (refprint_m l (.slice ao l.length cap) w3 (HIW.out w3 HW3.out))
    clear hh3 ht3 HBK
    go_wp2_with (go_at_call 27; refine HRP.out.mono ?_)
    rintro e w4 ⟨hg4, he4⟩
    rcases he4 with ⟨hv2, rfl⟩ | ⟨_, rfl⟩
    · rw [hv] at hv2; cases hv2
    · have HW4 := hide (grown_trans HW3.out hg4)
      have HH4 := hide (HH3.out.grown hg4 (by simp))
      clear hg4 HRP
      go_wp2_with (go_at_call 47; refine (num_m _ _).mono ?_; rintro e w5 ⟨rfl, rfl⟩)
      all_goals
        go_ret
        refine ⟨?_, HH4.out, HW4.out⟩
        simp [*]

theorem parse_len (l : List Nat) : (parseP l).out.length ≤ 500 := by
  rw [parse_eq]
  unfold parseR
  split
  · simp
  · cases wholeR (partsR l) (-1) [] with
    | none => simp
    | some x =>
      simp only
      split
      · simp
      · show x.1.length ≤ 500
        omega

set_option maxRecDepth 100000 in
set_option maxHeartbeats 1000000 in
theorem parsed_m (W : World) (B : Nat) (w : World) (b : Nat) (n : Int) (s : ByteArray) (K : List (Value × Int)) (hs : s.size ≤ 1048576) (hH : Hd B w b n K) (hW : W.grownBy w none) (hWB : W.heap.size ≤ B) (hB : B ≤ w.heap.size) (hn0 : 0 ≤ n) (hn1 : n ≤ 100) (hK : K.length ≤ 100) :
    Calls Tryd.prog 26 #[pt b, .string s] w fun e w' => e = .returned (.bool true) ∧ (∃ K', Hd B w' b (n + 1) K' ∧ K'.length = K.length + 4) ∧ W.grownBy w' none := by
  have HH := hide hH
  have HW := hide hW
  have hpt : pt b = .pointer (some ⟨b, 0, none⟩) := rfl
  have HPL := hide (parse_len (byt s))
  clear hH hW
  rw [hpt]
  go_enter Tryd.func26, Tryd.ntmps26
  go_wp2_with fail
  refine (parse_m s w (by omega)).mono ?_
  rintro e w1 ⟨x, y, z, rfl, ho1, hg1⟩
  have HG1 := hide hg1
  have HO1 := hide ho1
  clear hg1 ho1
  have HRP := hide (refparse_m s w1 hs)
  rw [← parse_eq] at HRP
  generalize hp : parseP (byt s) = p at *
  obtain ⟨out, at_, ok⟩ := p
  simp only at *
  have HPP := hide hp
  clear hp
  go_wp2_with (go_at_call 63; refine HRP.out.mono ?_)
  clear HRP
  rintro e w2 ⟨x', y', z', rfl, ho2, hg2⟩
  have HG2 := hide (grown_trans HG1.out hg2)
  have ho12 : w2.ownsRow (w.heap.size + 1) 3 1 (.slice x y z) out.length (ints out) := owns_grown HO1.out hg2 (fun _ e => by cases e)
  have hyl := owns_lenq ho12
  have hyl' := owns_lenq ho2
  subst hyl
  subst hyl'
  have HSM := hide (same_m out out _ _ w2 (owns_ints ho12) (owns_ints ho2) (by have := HPL.out; omega))
  have HO12 := hide ho12
  simp only [parV]
  clear ho12 ho2 hg2
  go_wp2_with (go_at_call 56; refine HSM.out.mono ?_)
  clear HSM
  rintro e w3 ⟨rfl, hl3⟩
  have HG3 := hide (grown_like HG2.out hl3)
  have hO3 : w3.ownsRow (w.heap.size + 1) 3 1 (.slice x out.length z) out.length (ints out) := owns_grown HO12.out (grown_of_like (r := none) hl3) (fun _ e => by cases e)
  have HKP := hide (keepInts_m W B w w3 b n (.slice x out.length z) out K HH.out HG3.out hO3 (grown_trans HW.out HG3.out) hWB hB hn0 hn1 hK HPL.out)
  rw [hpt] at HKP
  clear hO3 hl3
  have hbeq : (out == out) = true := by simp
  rw [hbeq]
  clear hbeq
  go_wp2_with (go_at_call 58; refine HKP.out.mono ?_)
  clear HKP
  rintro e w4 ⟨⟨v, rfl⟩, ⟨K', hK', hKl⟩, hW4⟩
  have HHD := hide (holds_m B w4 b (n + 1) K' hK' (by omega))
  rw [hpt] at HHD
  have HK4 := hide hK'
  have HKL := hide hKl
  have HW4 := hide hW4
  clear hK' hKl hW4 hpt
  go_wp2_with (go_at_call 59; refine HHD.out.mono ?_)
  clear HHD
  rintro e w5 ⟨rfl, hl5⟩
  have HFIN : Hid ((∃ K', Hd B w5 b (n + 1) K' ∧ K'.length = K.length + 4) ∧ W.grownBy w5 none) := ⟨⟨K', HK4.out.like hl5, HKL.out⟩, grown_like HW4.out hl5⟩
  clear hl5
  go_wp2_with (go_at_call 47; refine (num_m _ _).mono ?_; rintro e w6 ⟨rfl, rfl⟩)
  all_goals
    go_ret
    refine ⟨?_, HFIN.out.1, HFIN.out.2⟩
    simp [*]

def exL : List Int := [0, 0, 0, 1, 2, 2]
def exT : List UInt8 := [48, 42, 51, 32, 49, 32, 50, 42, 50]
theorem ex_valid : validS exL = true := by decide +kernel
theorem ex_print : printS exL = exT := by decide +kernel
theorem ex_ok : (parseP (byt ⟨exT.toArray⟩)).ok = true := by decide +kernel
theorem ex_out : (parseP (byt ⟨exT.toArray⟩)).out = exL := by decide +kernel
theorem ex_at : (parseP (byt ⟨exT.toArray⟩)).at_ = 0 := by decide +kernel

theorem print_len {l : List Int} (h : validS l = true) : (printS l).length ≤ 4000 := by
  have h5 : l.length ≤ 500 := by simp only [validS, Bool.and_eq_true, decide_eq_true_eq] at h; exact h.1
  have := join_len ((grp l).map fun x => wordS x.1 x.2) (fun x hx => by
    simp only [List.mem_map] at hx
    obtain ⟨y, hy, rfl⟩ := hx
    have := grp_valid h y hy
    exact word_len this.1 this.2.1 this.2.2.1 this.2.2.2)
  have hg := grp_len l
  rw [List.length_map] at this
  unfold printS
  omega

set_option maxRecDepth 100000 in
set_option maxHeartbeats 1000000 in
theorem texts_m (l : List Int) (s : ByteArray) (lv : Value) (w : World) (hT : Tab w) (hI : IntsAt w.heap.size w lv l) (hln : l.length ≤ 1048576) (hs : s.size ≤ 1048576) :
    Calls Tryd.prog 7 #[lv, .string s] w fun e w' => e = .returned (.bool true) ∧ w.grownBy w' none := by
  have HT := hide hT
  have HI := hide hI
  obtain ⟨ao, cap, rfl⟩ := hI.form
  clear hT hI
  go_enter Tryd.func7, Tryd.ntmps7
  go_wp2_with fail
  generalize hA : Obj.cells #[Value.int IntKind.i64 0, Value.int IntKind.i64 0, Value.int IntKind.i64 0, Value.int IntKind.i64 1, Value.int IntKind.i64 2, Value.int IntKind.i64 2] 3 = OA
  have hi : IntsAt (w.alloc OA).heap.size (w.alloc OA) (.slice (some ⟨w.heap.size, 0, none⟩) 6 6) exL := by
    refine ⟨_, 6, rfl, Nat.le_refl _, fun k hk => ⟨w.heap.size, 0, rfl, by simp, ?_⟩⟩
    have h6 : k = 0 ∨ k = 1 ∨ k = 2 ∨ k = 3 ∨ k = 4 ∨ k = 5 := by have : k < 6 := hk; omega
    have c2 := fun j => cell_of_row _ w.heap.size j _ _ _ ((heap_alloc_new w OA).trans (congrArg some hA.symm))
    rcases h6 with rfl | rfl | rfl | rfl | rfl | rfl <;> rw [c2] <;> rfl
  refine (print_m exL _ _ (HT.out.grown (grown_alloc (grown_refl _ _))) hi).mono ?_
  clear hi hA
  rintro e w1 ⟨hg1, he⟩
  have HG1 := hide (grown_trans (grown_alloc (grown_refl w none)) hg1)
  clear hg1
  rcases he with ⟨_, rfl⟩ | ⟨hv, _⟩
  · rw [ex_print]
    have hsz : (⟨exT.toArray⟩ : ByteArray).size ≤ 1048576 := by decide
    have HPA := hide (parse_m ⟨exT.toArray⟩ w1 (by omega))
    rw [ex_ok, ex_out, ex_at] at HPA
    have hexd : (⟨exT.toArray⟩ : ByteArray) = ⟨#[48, 42, 51, 32, 49, 32, 50, 42, 50]⟩ := rfl
    rw [hexd] at HPA ⊢
    clear hexd hsz
    go_wp2_with (go_at_call 24; refine HPA.out.mono ?_)
    clear HPA
    rintro e w2 ⟨x, y, z, rfl, ho2, hg2⟩
    have hy := owns_lenq ho2
    have hy6 : y = 6 := hy
    subst hy6
    have HG2 := hide (grown_trans HG1.out hg2)
    clear ho2 hg2 hy
    simp only [parE, if_true]
    have hsz2 : w.heap.size ≤ w2.heap.size := HG2.out.size
    go_upto_region 6 with fail
    generalize hw3 : w2.alloc (Obj.cells #[Value.slice none 0 0, Value.slice none 0 0, Value.slice none 0 0, Value.slice none 0 0, Value.slice none 0 0, Value.int IntKind.i64 0, Value.slice none 0 0, Value.slice none 0 0, Value.slice none 0 0, Value.slice none 0 0, Value.slice none 0 0, Value.slice none 0 0, Value.slice none 0 0, Value.slice none 0 0, Value.slice none 0 0, Value.slice none 0 0] 62) = w3
    have HH3 : Hid (HAt w3 w2.heap.size (.slice none 0 0) (.slice none 0 0) 0 (.slice none 0 0) (.slice none 0 0)) := by
      rw [← hw3]; exact heap_alloc_new w2 _
    have HG3 : Hid (w.grownBy w3 none) := by rw [← hw3]; exact grown_alloc HG2.out
    clear hw3
    generalize w2.heap.size = b at *
    have toHd : ∀ w4, HAt w4 b (.slice none 0 0) (.slice none 0 0) 0 (.slice none 0 0) (.slice none 0 0) → Hd w.heap.size w4 b 0 [] := fun w4 h => ⟨_, _, h, ⟨rfl, Or.inl ⟨rfl, rfl⟩⟩, ⟨rfl, Or.inl ⟨rfl, rfl⟩⟩, by simp [Value.ownBlock], by simp [Value.ownBlock], fun g e => by simp [Value.ownBlock] at e, fun x hx => by simp at hx, hsz2⟩
    have TOHD := hide toHd
    clear toHd
    have hpt : pt b = .pointer (some ⟨b, 0, none⟩) := rfl
    have HP := hide (printed_m w w3 b 0 (.slice none 0 0) (.slice none 0 0) (.slice ao l.length cap) l HG3.out HT.out HI.out hln HH3.out hsz2)
    rw [hpt] at HP
    go_upto_region 7 with (go_at_call 25; refine HP.out.mono ?_; rintro e w4 ⟨rfl, hh4, hg4⟩)
    have HK4 := hide (TOHD.out w4 hh4)
    have HG4 := hide hg4
    have HP1 := hide (parsed_m w w.heap.size w4 b 0 s [] hs HK4.out HG4.out (Nat.le_refl _) hg4.size (by omega) (by omega) (by simp))
    rw [hpt] at HP1
    clear hh4 hg4 HP HH3
    go_upto_region 8 with (go_at_call 26; refine HP1.out.mono ?_; rintro e w5 ⟨rfl, ⟨K1, hk5, hl5⟩, hg5⟩)
    have HK5 := hide hk5
    have HG5 := hide hg5
    have HL5 := hide hl5
    have HRP := hide (refprint_m l (.slice ao l.length cap) w5 ((HI.out.pres (pres_grown hg5)).mono hg5.size))
    clear hk5 hg5 hl5 HP1
    go_upto_region 9 with (go_at_call 27; refine HRP.out.mono ?_; rintro e w6 ⟨hg6, he6⟩; obtain ⟨t, c, rfl, ht⟩ : ∃ t c, e = .returned (.tuple #[.string t, .int .i64 c]) ∧ t.size ≤ 1048576 := (by rcases he6 with ⟨hv, rfl⟩ | ⟨_, rfl⟩; (case inl => exact ⟨_, _, rfl, by have := print_len hv; simp [ByteArray.size]; omega⟩); (case inr => exact ⟨_, _, rfl, by simp [ByteArray.size]⟩)))
    have HK6 := hide (HK5.out.grown hg6)
    have HG6 := hide (grown_trans HG5.out hg6)
    have HP2 := hide (parsed_m w w.heap.size w6 b (0 + 1) t K1 ht HK6.out HG6.out (Nat.le_refl _) HG6.out.size (by omega) (by omega) (by have := HL5.out; simp at this; omega))
    rw [hpt] at HP2
    clear hg6 he6 HRP
    go_upto_region 10 with (go_at_call 26; refine HP2.out.mono ?_; rintro e w7 ⟨rfl, ⟨K2, hk7, hl7⟩, hg7⟩)
    have HK7 := hide hk7
    have HG7 := hide hg7
    have HP3 := hide (parsed_m w w.heap.size w7 b (0 + 1 + 1) s K2 hs HK7.out HG7.out (Nat.le_refl _) hg7.size (by omega) (by omega) (by have := HL5.out; simp at this; omega))
    rw [hpt] at HP3
    clear hk7 hg7 hl7 HP2 hpt
    go_wp2_with (go_at_call 26; refine HP3.out.mono ?_; rintro e w8 ⟨rfl, _, hg8⟩)
    go_ret
    exact ⟨rfl, hg8⟩
  · rw [ex_valid] at hv; cases hv

end Go.Proofs.YtklenjmfalljgaaDoor

/- The second form's card of Texts: where what is read is of bulk at most the bound, every Print and Parse are as the reference says. -/
namespace Go.Proofs.YtklenjmfalljgaaDoor
open Go.ChangeShapes Go.WideShapes Go.ChangeAt Go.RowKit

theorem ownT : ownKnob Tryd.prog.godebug = none := by kernel_rfl
theorem laidOutT : laidOutB Tryd.prog = true := by kernel_rfl
theorem cIntT : Tryd.prog.cellsOf 3 = 1 := by kernel_rfl
theorem belowOf {w w' : World} (h : w.grownBy w' none) : Below w.heap.size w w' := ⟨h.os, h.tape, h.output, h.size, fun k hk => h.block k hk (by simp)⟩

theorem lt_cellT {w : World} {a : Addr} {v : Value} (h : w.cell? a = some v) : a.block < w.heap.size := by
  unfold World.cell? at h
  split at h
  · rename_i hh; exact (Array.getElem?_eq_some_iff.1 hh).1
  · cases h
theorem addr_formT {w : World} {a : Addr} {j : Nat} {v : Value} (h0 : a.spot = none) (h : w.cell? (a.add j) = some v) : w.cell? ⟨a.block, a.off + j, none⟩ = some v := by
  have e : a.add j = ⟨a.block, a.off + j, none⟩ := by
    obtain ⟨b, o, s⟩ := a
    simp only at h0
    subst h0
    unfold Addr.add; split <;> simp_all
  rw [e] at h; exact h

theorem bulk_one {H : Type} (d : DataW H) : 1 ≤ Rows.uptoBulk d := by
  cases d with
  | lit l => cases l <;> simp [Rows.uptoBulk]
  | nil => simp [Rows.uptoBulk]
  | ptr d => simp [Rows.uptoBulk]
  | slice elems spare => simp [Rows.uptoBulk]
  | agg parts => simp [Rows.uptoBulk]
  | iface t d => simp [Rows.uptoBulk]
  | map entries => simp [Rows.uptoBulk]
  | held h => simp [Rows.uptoBulk]
theorem bulk_len {H : Type} (l : List (DataW H)) : l.length ≤ Rows.uptoBulkAll l := by
  induction l with
  | nil => simp [Rows.uptoBulkAll]
  | cons x r ih => have := bulk_one x; simp only [Rows.uptoBulkAll, List.length_cons]; omega

section
variable {H : Type} {enc : TypeId × Value → H} {W : World}
set_option maxRecDepth 100000 in
theorem ints_argB {v : Value} {d : DataW H} {ps : List MemPlace} {base : Nat} (hval : Value.okWide Tryd.prog W .any base 22 v) (h : DataW.Trod enc Tryd.prog W 0 (fun _ => true) true 22 v d ps) :
    ∃ l, IntsAt W.heap.size W v l ∧ l.length ≤ Rows.uptoBulk d := by
  obtain ⟨a0, len0, cap0, rfl⟩ := okWide_slice Tryd.underlying22 hval
  obtain ⟨fuel, hf⟩ := h
  rcases open_ints Tryd.underlying22 Tryd.underlying3 cIntT hf with ⟨e, _⟩ | ⟨a, len, cap, zs, e, _, hl, _, hz, hx, hc, hw⟩
  · simp [Value.cells] at e
    rw [e.1, e.2.1, e.2.2]
    exact ⟨[], ⟨none, 0, rfl, Nat.le_refl _, fun k hk => by simp at hk⟩, by simp⟩
  · simp [Value.cells] at e
    rw [e.1, e.2.1, e.2.2]
    simp only [if_true] at hz
    have hlen : (zs.take len).length = len := by simp; omega
    refine ⟨zs.take len, ⟨some a, cap, by rw [hlen], by omega, fun k hk => ?_⟩, ?_⟩
    · have h0 : a.spot = none := by
        have := hc 0 (by omega)
        exact World.cell?_spot (w := W) (by simpa [Addr.add] using this)
      have hkz : k < zs.length := by omega
      have := hc k hkz
      refine ⟨a.block, a.off, ?_, lt_cellT (a := ⟨a.block, a.off + k, none⟩) (addr_formT h0 this), ?_⟩
      · obtain ⟨b, o, s⟩ := a
        simp only at h0; subst h0; rfl
      · rw [addr_formT h0 this]
        simp [List.getD, hkz]
    · have hd : d = .slice (lits .i64 (zs.take len)) (lits .i64 (zs.drop len)) := congrArg Prod.fst hx
      rw [hd]
      have := bulk_len (lits (H := H) .i64 (zs.take len))
      have hll : (lits (H := H) .i64 (zs.take len)).length = (zs.take len).length := by simp [lits]
      simp only [Rows.uptoBulk]
      omega
end

theorem gTab : Tryd.prog.globalNamed "internal/strconv.uint64pow10" = some 2 := by kernel_rfl
theorem tTab : (Tryd.prog.globals[2]?).map (·.type) = some 282 := by kernel_rfl
theorem cTab : Tryd.prog.cellsOf 282 = 20 := by kernel_rfl
theorem cU64 : Tryd.prog.cellsOf 100 = 1 := by kernel_rfl

theorem tab_of_laid {W : World} (h : laidMetH Tryd.prog Rows.textsUptoRow.laid W) : Tab W := by
  have h' : laidMet Tryd.prog Rows.textsUptoRow.laid W := h
  obtain ⟨ps, ⟨_, _, _, _, _, _, _, _, _, _, ⟨_, _, _, _, _, _, _, _, _, _, ⟨g, t, cs, fuel, p, q, hg, ht, hv, hd, _, _⟩, _⟩, _⟩, _, _⟩ := h'
  obtain rfl := Option.some.inj (gTab.symm.trans hg)
  obtain rfl := Option.some.inj (tTab.symm.trans ht)
  have hd' : DataW.trod (fun _ => ()) Tryd.prog W 0 (fun _ => true) false fuel 282 cs.toList = some (Lib.tabData .u64 Lib.pow10Tab, p) := hd
  have hc := Lib.cells_of_tab Tryd.underlying282 Tryd.underlying100 cU64 cTab hd'
  unfold Tab Lib.TabIs
  rw [hv, ← hc]

set_option maxRecDepth 100000 in
/-- What the walk gives, for every argument within the bound and every world that holds the table. -/
theorem texts_contract (H : Type) (enc : TypeId × Value → H) (W : World) (base : Nat) (args : Array Value) (ds gs : List (DataW H)) (before : List MemPlace)
    (hval : ∀ (j : Nat) t v, Tryd.f7.params[j]? = some t → args[j]? = some v → Value.okWide Tryd.prog W .any base t v)
    (hW : DataW.Whole enc Tryd.prog Tryd.f7.params.toList Rows.textsSpec.vars false W args.toList ds gs before) (hk : Rows.uptoSmall H (ds ++ gs) = true) (hL : laidMetH Tryd.prog Rows.textsUptoRow.laid W) :
    Calls Tryd.prog 7 args W fun e W' => ∃ v, e = .returned v ∧ Rows.textsSpec.post enc Tryd.prog Tryd.f7 false true false false W args v W' := by
  have hW' := hW
  obtain ⟨p, q, hA0, hV, rfl, hfz, hnd⟩ := hW
  have hA : DataW.TrodAll enc Tryd.prog W 0 (fun _ => true) true Tryd.f7.params.toList args.toList ds p := hA0
  rw [Tryd.params7] at hA hval
  obtain ⟨v0, v1, d0, d1, p0, p1, rfl, rfl, rfl, h0, h1⟩ := trodAll_two hA
  obtain ⟨rfl, rfl⟩ := trodVars_none hV
  clear hA0
  have hbulk := of_decide_eq_true hk
  simp only [List.append_nil, Rows.uptoBulkAll] at hbulk
  obtain ⟨l, hl, hll⟩ := ints_argB (hval 0 22 v0 rfl rfl) h0
  obtain ⟨s, rfl, hd1, _, _⟩ := Go.ChangeMaps.open_string Tryd.underlying9 (hval 1 9 v1 rfl rfl) h1
  have hsz : s.size ≤ 1048576 := by
    rw [hd1] at hbulk
    simp only [Rows.uptoBulk] at hbulk
    have : s.data.toList.length = s.size := by simp
    omega
  refine (texts_m l s v0 W (tab_of_laid hL) hl (by omega) hsz).mono fun e W' ⟨he, hg⟩ => ?_
  subst he
  have hb := belowOf hg
  have hlt : ∀ x ∈ p0 ++ p1, x.block < W.heap.size := fun x hx => by simpa using hW'.lt x (by simpa using hx)
  refine ⟨_, rfl, _, _, _, [] ++ [], p0 ++ p1, [], hW', trodAll_cons_mk (shut_bool Tryd.underlying4 _) trodAll_mk0, ?_, rfl, hb.frame _, fun h => by cases h⟩
  rw [Tryd.params7]
  exact trodAll_mk2 (p := p0) (p' := p1) (Below.trod laidOutT (by kernel_rfl) (of_decide_eq_true (by kernel_rfl)) h0 hb (fun x hx => hlt x (by simp [hx]))) (Below.trod laidOutT (by kernel_rfl) (of_decide_eq_true (by kernel_rfl)) h1 hb (fun x hx => hlt x (by simp [hx])))

theorem texts_laid (os : Os) : laidMetH Tryd.prog Rows.textsUptoRow.laid ((World.doorLaid Tryd.prog 400 os).forCall (fun _ _ => 0) ⟨#[], #[.slice none 0 0, .string ⟨#[]⟩], []⟩).memory :=
  laidMetH_of_parts3 (fuel := 8) (laidMet_of_run' 8 (by kernel_rfl) (by kernel_rfl)) (by kernel_rfl) (by kernel_rfl)
theorem texts_reads (os : Os) {H : Type} (enc : TypeId × Value → H) : ∃ places, DataW.whole enc Tryd.prog ((World.doorLaid Tryd.prog 400 os).forCall (fun _ _ => 0) ⟨#[], #[.slice none 0 0, .string ⟨#[]⟩], []⟩).memory Tryd.f7.params.toList Rows.textsSpec.vars false #[Value.slice none 0 0, .string ⟨#[]⟩].toList 8 = some ([.nil, .lit (.string [])], [], places) :=
  ⟨[], by kernel_rfl⟩

set_option maxRecDepth 100000 in
theorem texts_lifted (os : Os) (started : os.Started) (H : Type) (enc : TypeId × Value → H) (F : Stop.Interp) :
    ReturnsInHanded {} Tryd.checked os 7 .any ((Rows.OpenSpec.upto Rows.textsSpec).preRow enc Tryd.prog Tryd.f7 Rows.textsUptoRow.domain false Rows.textsUptoRow.laid) (((Rows.OpenSpec.upto Rows.textsSpec).at F).post enc Tryd.prog Tryd.f7 false true false false) := by
  obtain ⟨places, hx⟩ := texts_reads os enc
  refine returnsInHanded_of_row (C := Tryd.checked) (s := Rows.OpenSpec.upto Rows.textsSpec) ownT started (by kernel_rfl) Tryd.func7
    (witness_row_atRef (enc := enc) (C := Tryd.checked) false (World.doorLaid Tryd.prog 400 os) #[.slice none 0 0, .string ⟨#[]⟩] rfl (by kernel_rfl) (by kernel_rfl) (by kernel_rfl)
      (OpenSpec.preRow_of_cond 8 hx (by kernel_rfl) (fun k hk => by cases hk; kernel_rfl) (by kernel_rfl) (texts_laid os))) ?_
  intro W base args ds gs before hval hW _ hcond _ hL _ _
  exact texts_contract H enc W base args ds gs before hval hW (hcond _ rfl) hL

theorem texts_said : Rows.TextsUptoSaid :=
  OpenClaim.holds_of_cond 7 Tryd.f7 rfl rfl rfl rfl rfl rfl rfl ⟨rfl, rfl, rfl, rfl, rfl⟩ rfl rfl rfl rfl rfl (by kernel_rfl) Tryd.func7 (by kernel_rfl)
    (of_decide_eq_true (by kernel_rfl)) (by unfold Func.isWrapper; first | (rw [if_pos (by decide +kernel)]; kernel_rfl) | (rw [if_neg (by decide +kernel)]; exact ⟨rfl, rfl⟩))
    (fun os started H enc _ F => by rw [OpenClaim.pre_eq_preRow]; exact texts_lifted os started H enc F)

theorem texts_plain (f : FuncId) (fn : Func) (hf : Tryd.pinned.checked.prog.funcNamed "rerun/rerunlaw.Texts" = some f) (hfn : Tryd.pinned.checked.prog.funcs[f]? = some fn) :
    true = Tryd.pinned.checked.prog.looks [] ∧ ∀ (j : Nat) t, fn.params[j]? = some t → Tryd.pinned.checked.prog.wantsStandIn t = false := by
  obtain rfl : f = 7 := Option.some.inj ((show Tryd.prog.funcNamed "rerun/rerunlaw.Texts" = some 7 by kernel_rfl).symm.trans hf) |>.symm
  obtain rfl : fn = Tryd.f7 := (Option.some.inj (Tryd.func7.symm.trans hfn)).symm
  refine ⟨by kernel_rfl, fun j t ht => ?_⟩
  rw [Tryd.params7] at ht
  have hm : t ∈ [22, 9] := by simpa using Array.mem_of_getElem? ht
  have hall : ([22, 9].all fun u => !Tryd.prog.wantsStandIn u) = true := by kernel_rfl
  exact (show Tryd.prog.wantsStandIn t = false by simpa using List.all_eq_true.1 hall t hm)

theorem texts_card : Rows.TextsUptoCardSaid :=
  Claim7.holds_tied_plain_at .later [] _ _ _ _ texts_said (fun _ h => by cases h) (by kernel_rfl) (fun _ h => by cases h) textsUpto_row_tie rfl ⟨rfl, rfl⟩ (by kernel_rfl) rfl texts_plain (by kernel_rfl)
#print axioms texts_card

end Go.Proofs.YtklenjmfalljgaaDoor
