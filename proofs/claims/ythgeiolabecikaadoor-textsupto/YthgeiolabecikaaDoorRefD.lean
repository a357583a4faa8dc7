/- The walks of the reference's whole and Parse. -/
import Derived.Test.YthgeiolabecikaaDoorRefC
namespace Go.Proofs.YthgeiolabecikaaDoor
open Go.RowKit
attribute [local go_sem] Go.World.cell?_alloc_some

/-- A slice of strings in memory. -/
def StrsAt (w : World) (v : Value) (L : List ByteArray) : Prop :=
  ∃ ao cap, v = .slice ao L.length cap ∧ ∀ k (hk : k < L.length), ∃ g o, ao = some ⟨g, o, none⟩ ∧ w.cell? ⟨g, o + k, none⟩ = some (.string L[k])
theorem StrsAt.pres {w w' : World} {v : Value} {L : List ByteArray} (h : StrsAt w v L) (hp : Pres w w') : StrsAt w' v L := by
  obtain ⟨ao, cap, e, hc⟩ := h
  exact ⟨ao, cap, e, fun k hk => by obtain ⟨g, o, e2, c⟩ := hc k hk; exact ⟨g, o, e2, hp _ _ c⟩⟩
theorem owns_strs {w : World} {base : Nat} {x : Option Addr} {z : Nat} {L : List ByteArray} (h : w.ownsRow base 9 1 (.slice x L.length z) L.length (strV L)) : StrsAt w (.slice x L.length z) L := by
  rcases h.2 with ⟨e, e0⟩ | ⟨g, cap, cur, hv, hb, hh, hc, _⟩
  · exact ⟨x, z, rfl, fun k hk => by omega⟩
  · simp only [Value.slice.injEq, true_and] at hv
    obtain ⟨rfl, rfl⟩ := hv
    refine ⟨some ⟨g, 0, none⟩, z, rfl, fun k hk => ⟨g, 0, rfl, ?_⟩⟩
    rw [Nat.zero_add, h.cellAt k (by omega)]
    simp [strV, hk]
theorem StrsAt.init {w : World} {x : Option Addr} {z : Nat} {L : List ByteArray} (h : StrsAt w (.slice x L.length z) L) (m : Nat) (hm : m ≤ L.length) : StrsAt w (.slice x m z) (L.take m) := by
  obtain ⟨ao, cap, e, hc⟩ := h
  simp only [Value.slice.injEq, true_and] at e
  obtain ⟨rfl, rfl⟩ := e
  refine ⟨x, z, by simp [Nat.min_eq_left hm], fun k hk => ?_⟩
  have hk' : k < L.length := by simp at hk; omega
  obtain ⟨g, o, e2, c⟩ := hc k hk'
  exact ⟨g, o, e2, by simpa using c⟩

theorem fill_step (out : List Int) (t n : Int) (hn : 0 < n) (ho : out.length ≤ 500) : fillR (out ++ [t]) t (n - 1) = fillR out t n := by
  unfold fillR
  have e : min n.toNat (501 - out.length) = min (n - 1).toNat (501 - (out ++ [t]).length) + 1 := by simp; omega
  rw [e, List.replicate_succ, List.append_assoc]; rfl
theorem fill_end (out : List Int) (t n : Int) (h : ¬ (0 < n ∧ out.length ≤ 500)) : fillR out t n = out := by
  unfold fillR
  have e : min n.toNat (501 - out.length) = 0 := by omega
  rw [e]; simp
theorem fill_len (out : List Int) (t n : Int) (h : out.length ≤ 501) : (fillR out t n).length ≤ 501 := by
  unfold fillR; simp; omega

theorem value_le (l : List Nat) : ∀ n, valueR n l ≤ 1000 := by
  induction l with
  | nil => intro n; unfold valueR; omega
  | cons b r ih => intro n; unfold valueR; split
                   · exact ih _
                   · omega
theorem run_le {l : List Nat} {ah t n : Int} (h : runR l ah = some (t, n)) : n ≤ 1000 := by
  unfold runR at h
  split at h
  · cases h
  · split at h
    · cases h
    · split at h
      · simp only [Option.some.injEq, Prod.mk.injEq] at h; rw [← h.2]; exact value_le _ _
      · simp only [Option.some.injEq, Prod.mk.injEq] at h; omega

def wholeV (o : Option (List Int × Int)) (v : Value) : Value := match o with
  | none => .tuple #[.slice none 0 0, .int .i64 0, .bool false]
  | some (_, a) => .tuple #[v, .int .i64 a, .bool true]

def outOf (o : Option (List Int × Int)) : List Int := match o with
  | none => []
  | some (l, _) => l

def WholeAt (L : List (List Nat)) (w : World) (e : Ending) (w' : World) : Prop :=
  ∃ x y z, e = .returned (wholeV (wholeR L (-1) []) (.slice x y z)) ∧ w'.ownsRow w.heap.size 3 1 (.slice x y z) (outOf (wholeR L (-1) [])).length (ints (outOf (wholeR L (-1) []))) ∧ w.grownBy w' none ∧ (outOf (wholeR L (-1) [])).length ≤ 501

set_option maxRecDepth 100000 in
set_option maxHeartbeats 2000000 in
theorem whole_m (L : List ByteArray) (v : Value) (w : World) (hS : StrsAt w v L) (hz : ∀ x ∈ L, x.size ≤ 9223372036854775806) (hln : L.length ≤ 9223372036854775806) :
    Calls Tryd.prog 86 #[v] w (WholeAt (L.map byt) w) := by
  obtain ⟨i0, hi0, hz0, hz1, hz2⟩ := info_parts info_int
  obtain ⟨ao, cap, rfl, hc⟩ := hS
  have HC := hide hc
  have HZ := hide hz
  clear hc hz
  go_enter Tryd.func86, Tryd.ntmps86
  go_wp2_with fail
  go_loopw [5, 6, 7] (fun ov av i w' => ∃ (out : List Int) (ah : Int) (k : Nat), k ≤ L.length ∧ i = .int .i64 k ∧ av = .int .i64 ah ∧ Hid (wholeR ((L.map byt).drop k) ah out = wholeR (L.map byt) (-1) []) ∧ Hid (out.length ≤ 501) ∧ Hid (w'.ownsRow w.heap.size 3 1 ov out.length (ints out) ∧ w.grownBy w' none)) (fun _ _ i _ => L.length - (intOf i).toNat)
  case atStart => exact ⟨[], -1, 0, Nat.zero_le _, rfl, rfl, by simp [Hid], hide (by simp), ⟨rfl, Or.inl ⟨rfl, rfl⟩⟩, grown_refl _ _⟩
  case round =>
    obtain ⟨out, ah, k, hk, rfl, rfl, HW, HO, HL⟩ := hrel
    obtain ⟨w5, hw5⟩ : ∃ w5, w5 = wr := ⟨_, rfl⟩
    subst hw5
    obtain ⟨x1, x2, x3, rfl⟩ := owns_form HL.out.1
    have hx2 := owns_lenq HL.out.1
    subst hx2
    have H1 := hide HL.out.1
    have H2 := hide HL.out.2
    have hol := HO.out
    by_cases hlt : k < L.length
    · obtain ⟨g, o, rfl, c0⟩ := HC.out k hlt
      have d0 := pres_grown H2.out _ _ c0
      have hk0 : (0 : Int) ≤ (k : Int) := by omega
      have hk1 : (k : Int) < L.length := by omega
      have hkl : k < (L.map byt).length := by simpa using hlt
      have HST : Hid (wholeR ((L.map byt).drop k) ah out = match runR (byt L[k]) ah with | none => none | some (t, n) => wholeR ((L.map byt).drop (k + 1)) t (fillR out t n)) := by
        unfold Hid
        rw [List.drop_eq_getElem_cons hkl, wholeR]
        simp only [List.getElem_map]
        cases runR (byt L[k]) ah <;> rfl
      have HRR := hide (rrun_m L[k] ah w5 (HZ.out _ (List.getElem_mem hlt)))
      clear c0 HL HO
      generalize hR : runR (byt L[k]) ah = R at *
      generalize L[k] = sk at *
      go_wp2_with fail
      refine HRR.out.mono ?_
      clear HRR
      rintro e w6 ⟨hl6, rfl⟩
      have H16 : Hid (w6.ownsRow w.heap.size 3 1 (.slice x1 out.length x3) out.length (ints out)) := owns_grown H1.out (grown_of_like (r := none) hl6) (fun _ e => by cases e)
      have H26 : Hid (w.grownBy w6 none) := grown_like H2.out hl6
      clear hl6
      cases R with
      | none =>
        simp only [runV]
        have HE : Hid (wholeR (L.map byt) (-1) [] = none) := by unfold Hid; rw [← HW.out, HST.out]
        go_wp2_with fail
        refine bodyPost_ret (v := .tuple #[.slice none 0 0, .int .i64 0, .bool false]) (by simp [results, Tryd.results86, go_sem]) rfl ?_
        refine ⟨none, 0, 0, by rw [HE.out]; rfl, ?_, H26.out, ?_⟩
        · rw [HE.out]; exact ⟨rfl, Or.inl ⟨rfl, rfl⟩⟩
        · rw [HE.out]; simp [outOf]
      | some tn =>
        obtain ⟨t, n⟩ := tn
        simp only [runV]
        have HNX : Hid (wholeR ((L.map byt).drop (k + 1)) t (fillR out t n) = wholeR (L.map byt) (-1) []) := by unfold Hid; rw [← HW.out, HST.out]
        have hn1000 := run_le hR
        clear HST HW hR
        go_wp2_with fail
        go_loopw [5, 9] (fun ov nv w' => ∃ (o' : List Int) (n' : Int), nv = .int .i64 n' ∧ Hid (n' ≤ n ∧ fillR o' t n' = fillR out t n ∧ o'.length ≤ 501) ∧ Hid (w'.ownsRow w.heap.size 3 1 ov o'.length (ints o') ∧ w.grownBy w' none)) (fun _ nv _ => (intOf nv).toNat)
        case atStart => exact ⟨out, n, rfl, hide ⟨by omega, rfl, hol⟩, H16.out, H26.out⟩
        case round =>
          obtain ⟨o', n', rfl, HF, HL⟩ := hrel
          obtain ⟨w7, hw7⟩ : ∃ w7, w7 = wr := ⟨_, rfl⟩
          subst hw7
          obtain ⟨y1, y2, y3, rfl⟩ := owns_form HL.out.1
          have hy2 := owns_lenq HL.out.1
          subst hy2
          obtain ⟨f1, f2, f3⟩ := HF.out
          have G1 := hide HL.out.1
          have G2 := hide HL.out.2
          have hsz7 := HL.out.2.size
          have hob := owns_block G1.out
          have F2 := hide f2
          clear HF HL f2
          have h63 : o'.length + 1 ≤ maxLen := by unfold maxLen; omega
          by_cases hn0 : 0 < n'
          · by_cases ho5 : o'.length ≤ 500
            · have q5 : (o'.length : Int) ≤ 500 := by omega
              have HF2 : Hid (fillR (o' ++ [t]) t (n' - 1) = fillR out t n) := by unfold Hid; rw [fill_step o' t n' hn0 ho5]; exact F2.out
              go_wp2_with (at_builtin; refine wpList_append_lies _ rfl _ _ _ rfl w.heap.size 3 i0 _ 1 8 Tryd.underlying25 hi0 hz0 hz1 hz2 rfl (by omega) (.slice y1 o'.length y3) o'.length (ints o') rfl (owns_alloc G1.out) ⟨w7.heap.size, 0, none⟩ 1 1 [.int .i64 t] rfl rfl (World.news_of_block (cs := #[.int .i64 t]) (t := 3) (fr := (0, 0)) (heap_alloc_new w7 _)) (by simp [Value.oneCell']) (by omega) h63 (by omega) (by simp; omega) (w7.heap.size + 1) (by simp) ?_; intro g8 cap8 w8 hown8 hgrow hat hlt8)
              have HNL : Hid (w8.ownsRow w.heap.size 3 1 (.slice (some ⟨g8, 0, none⟩) (o'.length + 1) cap8) (o' ++ [t]).length (ints (o' ++ [t])) ∧ w.grownBy w8 none) := by
                refine ⟨?_, grown_row (grown_alloc G2.out) hgrow (fun q e => hob q e)⟩
                simpa [ints] using hown8
              clear hown8 hgrow hat
              go_wp2
              go_roundw
              case rel => exact ⟨o' ++ [t], n' - 1, rfl, hide ⟨by omega, HF2.out, by simp; omega⟩, HNL⟩
              case measure => simp [intOf]; omega
            · have q5 : ¬ (o'.length : Int) ≤ 500 := by omega
              have HEX : Hid (o' = fillR out t n) := by unfold Hid; rw [← F2.out, fill_end o' t n' (by omega)]
              go_wp2_with fail
              go_roundw
              case rel => exact ⟨o', t, k + 1, by omega, by go_num, rfl, hide (by rw [HEX.out]; exact HNX.out), hide f3, G1.out, G2.out⟩
              case measure => simp [intOf]; omega
          · have HEX : Hid (o' = fillR out t n) := by unfold Hid; rw [← F2.out, fill_end o' t n' (by omega)]
            go_wp2_with fail
            go_roundw
            case rel => exact ⟨o', t, k + 1, by omega, by go_num, rfl, hide (by rw [HEX.out]; exact HNX.out), hide f3, G1.out, G2.out⟩
            case measure => simp [intOf]; omega
    · have q2 : (L.length : Int) ≤ (k : Int) := by omega
      have HE : Hid (wholeR (L.map byt) (-1) [] = some (out, ah)) := by
        unfold Hid; rw [← HW.out, List.drop_eq_nil_of_le (by simp; omega)]; rfl
      go_wp2_with fail
      refine bodyPost_ret (v := .tuple #[.slice x1 out.length x3, .int .i64 ah, .bool true]) (by simp [results, Tryd.results86, go_sem]) rfl ?_
      refine ⟨x1, out.length, x3, by rw [HE.out]; rfl, ?_, H2.out, ?_⟩
      · rw [HE.out]; exact H1.out
      · rw [HE.out]; exact hol

end Go.Proofs.YthgeiolabecikaaDoor
