/- The walks of printed, parsed and Texts. -/
import Derived.Test.YthgeiolabecikaaDoorHnd6
namespace Go.Proofs.YthgeiolabecikaaDoor
open Go.RowKit
attribute [local go_sem] Go.World.cell?_alloc_some

theorem turned_base {W w w' : World} {b g : Nat} (h : W.grownBy w none) (ht : Turned w b g w') (hb : W.heap.size ≤ b) (hg : W.heap.size ≤ g) : W.grownBy w' none :=
  ⟨ht.1.trans h.os, ht.2.1.trans h.tape, ht.2.2.1.trans h.output, Nat.le_trans h.size ht.2.2.2.1, fun k hk _ => by
    rw [ht.2.2.2.2 k (Nat.lt_of_lt_of_le hk h.size) (by omega) (by omega)]; exact h.block k hk (by simp)⟩
theorem base_some {W w w' : World} {b : Nat} (h : W.grownBy w none) (hg : w.grownBy w' (some b)) (hb : W.heap.size ≤ b) : W.grownBy w' none :=
  ⟨hg.os.trans h.os, hg.tape.trans h.tape, hg.output.trans h.output, Nat.le_trans h.size hg.size, fun k hk _ => by
    rw [hg.block k (Nat.lt_of_lt_of_le hk h.size) (by simp; omega)]; exact h.block k hk (by simp)⟩

set_option maxRecDepth 100000 in
set_option maxHeartbeats 1000000 in
theorem printed_m (W w : World) (b : Nat) (n : Int) (ov mv lv : Value) (l : List Int) (hW : W.grownBy w none) (hT : Tab W) (hI : IntsAt W.heap.size W lv l) (hln : l.length ≤ 1048576) (h : HAt w b (.slice none 0 0) (.slice none 0 0) n ov mv) (hb : W.heap.size ≤ b) :
    Calls Tryd.prog 24 #[pt b, lv] w fun e w' => e = .returned (.bool true) ∧ HAt w' b (.slice none 0 0) (.slice none 0 0) n ov mv ∧ W.grownBy w' none := by
  have hIW : ∀ w', W.grownBy w' none → IntsAt w'.heap.size w' lv l := fun w' hg => (hI.pres (pres_grown hg)).mono hg.size
  have HIW := hide hIW
  have HT := hide hT
  have HH := hide h
  have HW := hide hW
  obtain ⟨ao, cap, rfl⟩ := hI.form
  have hpt : pt b = .pointer (some ⟨b, 0, none⟩) := rfl
  have HSC := hide (schedule_h b n ov mv (.slice ao l.length cap) l w h (hIW w hW) hln)
  clear hIW hT h hW hI
  rw [hpt] at *
  go_enter Tryd.func24, Tryd.ntmps24
  go_wp2_with fail
  refine HSC.out.mono ?_
  clear HSC
  rintro e w1 ⟨g, rfl, hlent, hg1⟩
  have hW1 := base_some HW.out hg1 hb
  have hglo := hlent.lo
  have hWw := HW.out.size
  have HLE := hide hlent
  have HW1 := hide hW1
  have HPR := hide (print_m l (.slice (some ⟨g, 0, none⟩) l.length (l.length + 2)) w1 (HT.out.grown hW1) (lent_ints hlent.row))
  clear hlent hg1 hW1
  go_wp2_with fail
  refine HPR.out.mono ?_
  clear HPR
  rintro e w2 ⟨hg2, he⟩
  have hW2 := grown_trans HW1.out hg2
  have HW2 := hide hW2
  have hgb := HLE.out.gb
  have HBK : Hid (Calls Tryd.prog 33 #[.pointer (some ⟨b, 0, none⟩)] w2 fun e w' => e = .returned (.bool true) ∧ HAt w' b (.slice none 0 0) (.slice none 0 0) n ov mv ∧ Turned w2 b g w') := by
    obtain ⟨g1, c1, g2, c2, h1, h2, h3, h4, h5, h6, h7⟩ := HLE.out.h
    exact back_h b g g1 c1 g2 c2 n ov mv _ l w2 hln (h1.grown hg2 (by simp)) (pres_grown hg2 _ _ h2) (pres_grown hg2 _ _ h3) (by rw [hg2.block g (Array.getElem?_eq_some_iff.1 HLE.out.row).1 (by simp)]; exact HLE.out.row) (HIW.out w2 hW2) hgb h4 h6
  clear hg2 hW2
  have hgW : W.heap.size ≤ g := by omega
  rcases he with ⟨hv, rfl⟩ | ⟨hv, rfl⟩
  · go_wp2_with (go_at_call 33; refine HBK.out.mono ?_)
    rintro e w3 ⟨rfl, hh3, ht3⟩
    have HW3 := hide (turned_base HW2.out ht3 hb hgW)
    have HH3 := hide hh3
    have HRP := hide (refprint_m l (.slice ao l.length cap) w3 (HIW.out w3 HW3.out))
    clear hh3 ht3 HBK
    go_wp2_with (go_at_call 26; refine HRP.out.mono ?_)
    rintro e w4 ⟨hg4, he4⟩
    rcases he4 with ⟨_, rfl⟩ | ⟨hv2, rfl⟩
    · have HW4 := hide (grown_trans HW3.out hg4)
      have HH4 := hide (HH3.out.grown hg4 (by simp))
      clear hg4 HRP
      go_wp2_with (go_at_call 35; refine (num_m _ _).mono ?_; rintro e w5 ⟨rfl, rfl⟩)
      all_goals
        go_ret
        refine ⟨?_, HH4.out, HW4.out⟩
        simp [*]
    · rw [hv] at hv2; cases hv2
  · go_wp2_with (go_at_call 33; refine HBK.out.mono ?_)
    rintro e w3 ⟨rfl, hh3, ht3⟩
    have HW3 := hide (turned_base HW2.out ht3 hb hgW)
    have HH3 := hide hh3
    have HRP := hide (refprint_m l (.slice ao l.length cap) w3 (HIW.out w3 HW3.out))
    clear hh3 ht3 HBK
    go_wp2_with (go_at_call 26; refine HRP.out.mono ?_)
    rintro e w4 ⟨hg4, he4⟩
    rcases he4 with ⟨hv2, rfl⟩ | ⟨_, rfl⟩
    · rw [hv] at hv2; cases hv2
    · have HW4 := hide (grown_trans HW3.out hg4)
      have HH4 := hide (HH3.out.grown hg4 (by simp))
      clear hg4 HRP
      go_wp2_with (go_at_call 35; refine (num_m _ _).mono ?_; rintro e w5 ⟨rfl, rfl⟩)
      all_goals
        go_ret
        refine ⟨?_, HH4.out, HW4.out⟩
        simp [*]

theorem parse_len (l : List Nat) : (parseP l).out.length ≤ 500 := by
  rw [parse_eq]
  unfold parseR
  split
  · simp
  · cases wholeR (partsR l) (-1) [] with
    | none => simp
    | some x =>
      simp only
      split
      · simp
      · show x.1.length ≤ 500
        omega

set_option maxRecDepth 100000 in
set_option maxHeartbeats 1000000 in
theorem parsed_m (W : World) (B : Nat) (w : World) (b : Nat) (n : Int) (s : ByteArray) (K : List (Value × Int)) (hs : s.size ≤ 1048576) (hH : Hd B w b n K) (hW : W.grownBy w none) (hWB : W.heap.size ≤ B) (hB : B ≤ w.heap.size) (hn0 : 0 ≤ n) (hn1 : n ≤ 100) (hK : K.length ≤ 100) :
    Calls Tryd.prog 25 #[pt b, .string s] w fun e w' => e = .returned (.bool true) ∧ (∃ K', Hd B w' b (n + 1) K' ∧ K'.length = K.length + 4) ∧ W.grownBy w' none := by
  have HH := hide hH
  have HW := hide hW
  have hpt : pt b = .pointer (some ⟨b, 0, none⟩) := rfl
  have HPL := hide (parse_len (byt s))
  clear hH hW
  rw [hpt]
  go_enter Tryd.func25, Tryd.ntmps25
  go_wp2_with fail
  refine (parse_m s w (by omega)).mono ?_
  rintro e w1 ⟨x, y, z, rfl, ho1, hg1⟩
  have HG1 := hide hg1
  have HO1 := hide ho1
  clear hg1 ho1
  have HRP := hide (refparse_m s w1 hs)
  rw [← parse_eq] at HRP
  generalize hp : parseP (byt s) = p at *
  obtain ⟨out, at_, ok⟩ := p
  simp only at *
  have HPP := hide hp
  clear hp
  go_wp2_with (go_at_call 58; refine HRP.out.mono ?_)
  clear HRP
  rintro e w2 ⟨x', y', z', rfl, ho2, hg2⟩
  have HG2 := hide (grown_trans HG1.out hg2)
  have ho12 : w2.ownsRow (w.heap.size + 1) 3 1 (.slice x y z) out.length (ints out) := owns_grown HO1.out hg2 (fun _ e => by cases e)
  have hyl := owns_lenq ho12
  have hyl' := owns_lenq ho2
  subst hyl
  subst hyl'
  have HSM := hide (same_m out out _ _ w2 (owns_ints ho12) (owns_ints ho2) (by have := HPL.out; omega))
  have HO12 := hide ho12
  simp only [parV]
  clear ho12 ho2 hg2
  go_wp2_with (go_at_call 52; refine HSM.out.mono ?_)
  clear HSM
  rintro e w3 ⟨rfl, hl3⟩
  have HG3 := hide (grown_like HG2.out hl3)
  have hO3 : w3.ownsRow (w.heap.size + 1) 3 1 (.slice x out.length z) out.length (ints out) := owns_grown HO12.out (grown_of_like (r := none) hl3) (fun _ e => by cases e)
  have HKP := hide (keepInts_m W B w w3 b n (.slice x out.length z) out K HH.out HG3.out hO3 (grown_trans HW.out HG3.out) hWB hB hn0 hn1 hK HPL.out)
  rw [hpt] at HKP
  clear hO3 hl3
  have hbeq : (out == out) = true := by simp
  rw [hbeq]
  clear hbeq
  go_wp2_with (go_at_call 54; refine HKP.out.mono ?_)
  clear HKP
  rintro e w4 ⟨⟨v, rfl⟩, ⟨K', hK', hKl⟩, hW4⟩
  have HHD := hide (holds_m B w4 b (n + 1) K' hK' (by omega))
  rw [hpt] at HHD
  have HK4 := hide hK'
  have HKL := hide hKl
  have HW4 := hide hW4
  clear hK' hKl hW4 hpt
  go_wp2_with (go_at_call 39; refine HHD.out.mono ?_)
  clear HHD
  rintro e w5 ⟨rfl, hl5⟩
  have HFIN : Hid ((∃ K', Hd B w5 b (n + 1) K' ∧ K'.length = K.length + 4) ∧ W.grownBy w5 none) := ⟨⟨K', HK4.out.like hl5, HKL.out⟩, grown_like HW4.out hl5⟩
  clear hl5
  go_wp2_with (go_at_call 35; refine (num_m _ _).mono ?_; rintro e w6 ⟨rfl, rfl⟩)
  all_goals
    go_ret
    refine ⟨?_, HFIN.out.1, HFIN.out.2⟩
    simp [*]

def exL : List Int := [0, 0, 0, 1, 2, 2]
def exT : List UInt8 := [48, 42, 51, 32, 49, 32, 50, 42, 50]
theorem ex_valid : validS exL = true := by decide +kernel
theorem ex_print : printS exL = exT := by decide +kernel
theorem ex_ok : (parseP (byt ⟨exT.toArray⟩)).ok = true := by decide +kernel
theorem ex_out : (parseP (byt ⟨exT.toArray⟩)).out = exL := by decide +kernel
theorem ex_at : (parseP (byt ⟨exT.toArray⟩)).at_ = 0 := by decide +kernel

theorem print_len {l : List Int} (h : validS l = true) : (printS l).length ≤ 4000 := by
  have h5 : l.length ≤ 500 := by simp only [validS, Bool.and_eq_true, decide_eq_true_eq] at h; exact h.1
  have := join_len ((grp l).map fun x => wordS x.1 x.2) (fun x hx => by
    simp only [List.mem_map] at hx
    obtain ⟨y, hy, rfl⟩ := hx
    have := grp_valid h y hy
    exact word_len this.1 this.2.1 this.2.2.1 this.2.2.2)
  have hg := grp_len l
  rw [List.length_map] at this
  unfold printS
  omega

set_option maxRecDepth 100000 in
set_option maxHeartbeats 1000000 in
theorem texts_m (l : List Int) (s : ByteArray) (lv : Value) (w : World) (hT : Tab w) (hI : IntsAt w.heap.size w lv l) (hln : l.length ≤ 1048576) (hs : s.size ≤ 1048576) :
    Calls Tryd.prog 8 #[lv, .string s] w fun e w' => e = .returned (.bool true) ∧ w.grownBy w' none := by
  have HT := hide hT
  have HI := hide hI
  obtain ⟨ao, cap, rfl⟩ := hI.form
  clear hT hI
  go_enter Tryd.func8, Tryd.ntmps8
  go_wp2_with fail
  generalize hA : Obj.cells #[Value.int IntKind.i64 0, Value.int IntKind.i64 0, Value.int IntKind.i64 0, Value.int IntKind.i64 1, Value.int IntKind.i64 2, Value.int IntKind.i64 2] 3 = OA
  have hi : IntsAt (w.alloc OA).heap.size (w.alloc OA) (.slice (some ⟨w.heap.size, 0, none⟩) 6 6) exL := by
    refine ⟨_, 6, rfl, Nat.le_refl _, fun k hk => ⟨w.heap.size, 0, rfl, by simp, ?_⟩⟩
    have h6 : k = 0 ∨ k = 1 ∨ k = 2 ∨ k = 3 ∨ k = 4 ∨ k = 5 := by have : k < 6 := hk; omega
    have c2 := fun j => cell_of_row _ w.heap.size j _ _ _ ((heap_alloc_new w OA).trans (congrArg some hA.symm))
    rcases h6 with rfl | rfl | rfl | rfl | rfl | rfl <;> rw [c2] <;> rfl
  refine (print_m exL _ _ (HT.out.grown (grown_alloc (grown_refl _ _))) hi).mono ?_
  clear hi hA
  rintro e w1 ⟨hg1, he⟩
  have HG1 := hide (grown_trans (grown_alloc (grown_refl w none)) hg1)
  clear hg1
  rcases he with ⟨_, rfl⟩ | ⟨hv, _⟩
  · rw [ex_print]
    have hsz : (⟨exT.toArray⟩ : ByteArray).size ≤ 1048576 := by decide
    have HPA := hide (parse_m ⟨exT.toArray⟩ w1 (by omega))
    rw [ex_ok, ex_out, ex_at] at HPA
    have hexd : (⟨exT.toArray⟩ : ByteArray) = ⟨#[48, 42, 51, 32, 49, 32, 50, 42, 50]⟩ := rfl
    rw [hexd] at HPA ⊢
    clear hexd hsz
    go_wp2_with (go_at_call 23; refine HPA.out.mono ?_)
    clear HPA
    rintro e w2 ⟨x, y, z, rfl, ho2, hg2⟩
    have hy := owns_lenq ho2
    have hy6 : y = 6 := hy
    subst hy6
    have HG2 := hide (grown_trans HG1.out hg2)
    clear ho2 hg2 hy
    simp only [parE, if_true]
    have hsz2 : w.heap.size ≤ w2.heap.size := HG2.out.size
    go_upto_region 6 with fail
    generalize hw3 : w2.alloc (Obj.cells #[Value.slice none 0 0, Value.slice none 0 0, Value.slice none 0 0, Value.slice none 0 0, Value.slice none 0 0, Value.int IntKind.i64 0, Value.slice none 0 0, Value.slice none 0 0, Value.slice none 0 0, Value.slice none 0 0, Value.slice none 0 0, Value.slice none 0 0, Value.slice none 0 0, Value.slice none 0 0, Value.slice none 0 0, Value.slice none 0 0] 43) = w3
    have HH3 : Hid (HAt w3 w2.heap.size (.slice none 0 0) (.slice none 0 0) 0 (.slice none 0 0) (.slice none 0 0)) := by
      rw [← hw3]; exact heap_alloc_new w2 _
    have HG3 : Hid (w.grownBy w3 none) := by rw [← hw3]; exact grown_alloc HG2.out
    clear hw3
    generalize w2.heap.size = b at *
    have toHd : ∀ w4, HAt w4 b (.slice none 0 0) (.slice none 0 0) 0 (.slice none 0 0) (.slice none 0 0) → Hd w.heap.size w4 b 0 [] := fun w4 h => ⟨_, _, h, ⟨rfl, Or.inl ⟨rfl, rfl⟩⟩, ⟨rfl, Or.inl ⟨rfl, rfl⟩⟩, by simp [Value.ownBlock], by simp [Value.ownBlock], fun g e => by simp [Value.ownBlock] at e, fun x hx => by simp at hx, hsz2⟩
    have TOHD := hide toHd
    clear toHd
    have hpt : pt b = .pointer (some ⟨b, 0, none⟩) := rfl
    have HP := hide (printed_m w w3 b 0 (.slice none 0 0) (.slice none 0 0) (.slice ao l.length cap) l HG3.out HT.out HI.out hln HH3.out hsz2)
    rw [hpt] at HP
    go_upto_region 7 with (go_at_call 24; refine HP.out.mono ?_; rintro e w4 ⟨rfl, hh4, hg4⟩)
    have HK4 := hide (TOHD.out w4 hh4)
    have HG4 := hide hg4
    have HP1 := hide (parsed_m w w.heap.size w4 b 0 s [] hs HK4.out HG4.out (Nat.le_refl _) hg4.size (by omega) (by omega) (by simp))
    rw [hpt] at HP1
    clear hh4 hg4 HP HH3
    go_upto_region 8 with (go_at_call 25; refine HP1.out.mono ?_; rintro e w5 ⟨rfl, ⟨K1, hk5, hl5⟩, hg5⟩)
    have HK5 := hide hk5
    have HG5 := hide hg5
    have HL5 := hide hl5
    have HRP := hide (refprint_m l (.slice ao l.length cap) w5 ((HI.out.pres (pres_grown hg5)).mono hg5.size))
    clear hk5 hg5 hl5 HP1
    go_upto_region 9 with (go_at_call 26; refine HRP.out.mono ?_; rintro e w6 ⟨hg6, he6⟩; obtain ⟨t, c, rfl, ht⟩ : ∃ t c, e = .returned (.tuple #[.string t, .int .i64 c]) ∧ t.size ≤ 1048576 := (by rcases he6 with ⟨hv, rfl⟩ | ⟨_, rfl⟩; (case inl => exact ⟨_, _, rfl, by have := print_len hv; simp [ByteArray.size]; omega⟩); (case inr => exact ⟨_, _, rfl, by simp [ByteArray.size]⟩)))
    have HK6 := hide (HK5.out.grown hg6)
    have HG6 := hide (grown_trans HG5.out hg6)
    have HP2 := hide (parsed_m w w.heap.size w6 b (0 + 1) t K1 ht HK6.out HG6.out (Nat.le_refl _) HG6.out.size (by omega) (by omega) (by have := HL5.out; simp at this; omega))
    rw [hpt] at HP2
    clear hg6 he6 HRP
    go_upto_region 10 with (go_at_call 25; refine HP2.out.mono ?_; rintro e w7 ⟨rfl, ⟨K2, hk7, hl7⟩, hg7⟩)
    have HK7 := hide hk7
    have HG7 := hide hg7
    have HP3 := hide (parsed_m w w.heap.size w7 b (0 + 1 + 1) s K2 hs HK7.out HG7.out (Nat.le_refl _) hg7.size (by omega) (by omega) (by have := HL5.out; simp at this; omega))
    rw [hpt] at HP3
    clear hk7 hg7 hl7 HP2 hpt
    go_wp2_with (go_at_call 25; refine HP3.out.mono ?_; rintro e w8 ⟨rfl, _, hg8⟩)
    go_ret
    exact ⟨rfl, hg8⟩
  · rw [ex_valid] at hv; cases hv

end Go.Proofs.YthgeiolabecikaaDoor
