/- The walks of the reference's parts and whole. -/
import Derived.Test.YthgeiolabecikaaDoorRefB
namespace Go.Proofs.YthgeiolabecikaaDoor
open Go.RowKit
attribute [local go_sem] Go.World.cell?_alloc_some

def strV (L : List ByteArray) : List Value := L.map fun x => .string x
theorem strV_len (L : List ByteArray) : (strV L).length = L.length := by simp [strV]

theorem extract_part (s : ByteArray) (f k : Nat) (_hf : f ≤ k) : byt (s.extract f k) = ((byt s).drop f).take (k - f) := by
  rw [byt_extract, List.drop_take]

/-- In the midst of parts: those that are done, where the next one begins, where we are. -/
structure PtsIn (s : ByteArray) (D : List ByteArray) (f k : Nat) : Prop where
  le : k ≤ s.size
  fk : f ≤ k
  no : ∀ x ∈ ((byt s).drop f).take (k - f), x ≠ 32
  eq : partsR (byt s) = D.map byt ++ partsR ((byt s).drop f)
  sz : ∀ x ∈ D, x.size ≤ s.size
  ln : D.length ≤ f

theorem PtsIn.cut {s : ByteArray} {D : List ByteArray} {f k : Nat} (h : PtsIn s D f k) (hk : (byt s)[k]? = some 32) (hlt : k < s.size) : PtsIn s (D ++ [s.extract f k]) (k + 1) (k + 1) := by
  have hf := h.fk
  refine ⟨by omega, Nat.le_refl _, by simp, ?_, ?_, by have := h.ln; simp; omega⟩
  · rw [h.eq, List.map_append, List.append_assoc]
    congr 1
    have e : (byt s).drop f = ((byt s).drop f).take (k - f) ++ 32 :: (byt s).drop (k + 1) := by
      have h1 := drop_get hk
      have h2 : ((byt s).drop f).drop (k - f) = (byt s).drop k := by rw [List.drop_drop]; congr 1; omega
      conv => lhs; rw [← List.take_append_drop (k - f) ((byt s).drop f), h2, h1]
    rw [e, parts_two _ _ h.no]
    simp [extract_part s f k hf]
  · intro x hx
    rcases List.mem_append.1 hx with hx | hx
    · exact h.sz x hx
    · simp at hx; rw [hx]; simp; omega
theorem PtsIn.step {s : ByteArray} {D : List ByteArray} {f k : Nat} (h : PtsIn s D f k) (hlt : k < s.size) (hk : s[k].toNat ≠ 32) : PtsIn s D f (k + 1) := by
  have hf := h.fk
  refine ⟨by omega, by omega, ?_, h.eq, h.sz, h.ln⟩
  intro x hx
  have hl : k - f < ((byt s).drop f).length := by rw [List.length_drop, byt_len]; omega
  have e : k + 1 - f = (k - f) + 1 := by omega
  rw [e, List.take_succ_eq_append_getElem hl] at hx
  rcases List.mem_append.1 hx with hx | hx
  · exact h.no x hx
  · have e2 : ((byt s).drop f)[k - f]? = some s[k].toNat := by
      rw [List.getElem?_drop, show f + (k - f) = k by omega]; exact byt_get s k hlt
    rw [List.getElem?_eq_getElem hl] at e2
    rw [Option.some.inj e2] at hx
    simp at hx; rw [hx]; exact hk
theorem PtsIn.fin {s : ByteArray} {D : List ByteArray} {f : Nat} (h : PtsIn s D f s.size) : partsR (byt s) = (D ++ [s.extract f s.size]).map byt ∧ (∀ x ∈ D ++ [s.extract f s.size], x.size ≤ s.size) ∧ (D ++ [s.extract f s.size]).length ≤ s.size + 1 := by
  have hf := h.fk
  have hn := h.no
  have e0 : ((byt s).drop f).take (s.size - f) = (byt s).drop f := List.take_of_length_le (by rw [List.length_drop, byt_len]; omega)
  rw [e0] at hn
  refine ⟨?_, ?_, by have := h.ln; simp; omega⟩
  · rw [h.eq, parts_one _ hn, List.map_append]
    simp [extract_part s f s.size hf, e0]
  · intro x hx
    rcases List.mem_append.1 hx with hx | hx
    · exact h.sz x hx
    · simp at hx; rw [hx]; simp

set_option maxRecDepth 100000 in
set_option maxHeartbeats 1000000 in
theorem parts_m (s : ByteArray) (w : World) (hs : s.size ≤ 1048576) :
    Calls Tryd.prog 87 #[.string s] w fun e w' => ∃ (L : List ByteArray) (x : Option Addr) (z : Nat), e = .returned (.slice x L.length z) ∧ L.map byt = partsR (byt s) ∧ (∀ y ∈ L, y.size ≤ s.size) ∧ w'.ownsRow w.heap.size 9 1 (.slice x L.length z) L.length (strV L) ∧ w.grownBy w' none := by
  obtain ⟨i0, hi0, hz0, hz1, hz2⟩ := info_parts info_str
  have H0 : Hid (PtsIn s [] 0 0) := ⟨by omega, by omega, by simp, by simp, by simp, by simp⟩
  go_enter Tryd.func87, Tryd.ntmps87
  go_wp2_with fail
  go_loopw [3, 4, 5] (fun lv fv i w' => ∃ (D : List ByteArray) (f k : Nat), i = .int .i64 k ∧ fv = .int .i64 f ∧ k ≤ s.size + 1 ∧ Hid (PtsIn s D f k ∨ (k = s.size + 1 ∧ D.map byt = partsR (byt s) ∧ (∀ y ∈ D, y.size ≤ s.size))) ∧ Hid (D.length ≤ k) ∧ Hid (w'.ownsRow w.heap.size 9 1 lv D.length (strV D) ∧ w.grownBy w' none)) (fun _ _ i _ => s.size + 1 - (intOf i).toNat)
  case atStart => exact ⟨[], 0, 0, rfl, rfl, by omega, hide (Or.inl H0.out), hide (by simp), ⟨rfl, Or.inl ⟨rfl, rfl⟩⟩, grown_refl _ _⟩
  case round =>
    obtain ⟨D, f, k, rfl, rfl, hk, HP, HD, HL⟩ := hrel
    obtain ⟨w5, hw5⟩ : ∃ w5, w5 = wr := ⟨_, rfl⟩
    subst hw5
    obtain ⟨x1, x2, x3, rfl⟩ := owns_form HL.out.1
    have hx2 := owns_lenq HL.out.1
    subst hx2
    have H1 := hide HL.out.1
    have H2 := hide HL.out.2
    have hsz2 := HL.out.2.size
    have hob := owns_block H1.out
    have hDl := HD.out
    have h63 : D.length + 1 ≤ maxLen := by unfold maxLen; omega
    rcases HP.out with hp | ⟨hk1, hd1, hd2⟩
    · have HP1 := hide hp
      have hle := hp.le
      have hfk := hp.fk
      have q0 : (k : Int) ≤ s.size := by omega
      have q1 : (0 : Int) ≤ (f : Int) := by omega
      have q2 : (f : Int) ≤ k := by omega
      have HAPP : Hid (∀ (w6 : World) (g6 cap6 : Nat), w6.ownsRow w.heap.size 9 1 (.slice (some ⟨g6, 0, none⟩) (D.length + 1) cap6) (D.length + 1) (strV D ++ [.string (s.extract f k)]) → (w5.alloc (.cells #[.string (s.extract f k)] 9)).grownBy w6 (Value.slice x1 D.length x3).ownBlock → w6.ownsRow w.heap.size 9 1 (.slice (some ⟨g6, 0, none⟩) (D.length + 1) cap6) (D ++ [s.extract f k]).length (strV (D ++ [s.extract f k])) ∧ w.grownBy w6 none) := by
        intro w6 g6 cap6 h1 h2
        refine ⟨?_, grown_row (grown_alloc H2.out) h2 (fun q e => hob q e)⟩
        simpa [strV] using h1
      clear hp HP HL
      by_cases hlt : k < s.size
      · have q3 : (k : Int) < s.size := by omega
        have q4 : ((k : Int) == (s.size : Int)) = false := by simp; omega
        by_cases h32 : s[k].toNat = 32
        · have h32' : (((s[k].toNat : Nat) : Int) == 32) = true := by simp; omega
          have HN : Hid (PtsIn s (D ++ [s.extract f k]) (k + 1) (k + 1)) := HP1.out.cut (by rw [byt_get s k hlt, h32]) hlt
          clear h32
          go_wp2_with (at_builtin; refine wpList_append_lies _ rfl _ _ _ rfl w.heap.size 9 i0 _ 1 16 Tryd.underlying158 hi0 hz0 hz1 hz2 rfl (by omega) (.slice x1 D.length x3) D.length (strV D) rfl (owns_alloc H1.out) ⟨w5.heap.size, 0, none⟩ 1 1 [.string (s.extract f k)] rfl rfl (World.news_of_block (cs := #[.string (s.extract f k)]) (t := 9) (fr := (0, 0)) (heap_alloc_new w5 _)) (by simp [Value.oneCell']) (by omega) h63 (by omega) (by simp; omega) (w5.heap.size + 1) (by simp) ?_; intro g6 cap6 w6 hown6 hgrow hat hlt6; have F := hide (HAPP.out w6 g6 cap6 hown6 hgrow); clear hown6 hgrow hat)
          go_roundw
          case rel => exact ⟨D ++ [s.extract f k], k + 1, k + 1, by go_num, by go_num, by omega, hide (Or.inl HN.out), hide (by simp; omega), F⟩
          case measure => simp [intOf]; omega
        · have h32' : (((s[k].toNat : Nat) : Int) == 32) = false := by simp; omega
          have HN : Hid (PtsIn s D f (k + 1)) := HP1.out.step hlt h32
          clear h32
          go_wp2_with fail
          go_roundw
          case rel => exact ⟨D, f, k + 1, by go_num, rfl, by omega, hide (Or.inl HN.out), hide (by omega), H1.out, H2.out⟩
          case measure => simp [intOf]; omega
      · have ek : k = s.size := by omega
        have q4 : ((k : Int) == (s.size : Int)) = true := by simp; omega
        have q5 : k ≤ s.size := hle
        have HN : Hid (partsR (byt s) = (D ++ [s.extract f k]).map byt ∧ (∀ x ∈ D ++ [s.extract f k], x.size ≤ s.size) ∧ (D ++ [s.extract f k]).length ≤ s.size + 1) := by
          have := HP1.out
          rw [ek] at this ⊢
          exact this.fin
        have HEK := hide ek
        clear ek
        go_wp2_with (at_builtin; refine wpList_append_lies _ rfl _ _ _ rfl w.heap.size 9 i0 _ 1 16 Tryd.underlying158 hi0 hz0 hz1 hz2 rfl (by omega) (.slice x1 D.length x3) D.length (strV D) rfl (owns_alloc H1.out) ⟨w5.heap.size, 0, none⟩ 1 1 [.string (s.extract f k)] rfl rfl (World.news_of_block (cs := #[.string (s.extract f k)]) (t := 9) (fr := (0, 0)) (heap_alloc_new w5 _)) (by simp [Value.oneCell']) (by omega) h63 (by omega) (by simp; omega) (w5.heap.size + 1) (by simp) ?_; intro g6 cap6 w6 hown6 hgrow hat hlt6; have F := hide (HAPP.out w6 g6 cap6 hown6 hgrow); clear hown6 hgrow hat)
        go_roundw
        case rel => exact ⟨D ++ [s.extract f k], k + 1, k + 1, by go_num, by go_num, by omega, hide (Or.inr ⟨by rw [HEK.out], HN.out.1.symm, HN.out.2.1⟩), hide (by simp; omega), F⟩
        case measure => simp [intOf]; omega
    · have q0 : (s.size : Int) < k := by omega
      have HE := hide hd1
      have HS := hide hd2
      clear hd1 hd2 hk1 HP HL
      go_wp2_with fail
      go_ret
      exact ⟨D, x1, x3, rfl, HE.out, HS.out, H1.out, H2.out⟩

end Go.Proofs.YthgeiolabecikaaDoor
