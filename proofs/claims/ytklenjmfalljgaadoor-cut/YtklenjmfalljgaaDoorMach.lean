/- The machine in memory; done, ready, step, ending by its program. -/
import Derived.Test.YtklenjmfalljgaaDoorStp
namespace Go.Proofs.YtklenjmfalljgaaDoor
open Go.RowKit

def MoveAt (B : Nat) (w : World) (h k t : Nat) (i : Ins) : Prop :=
  ∃ kf caps, w.cell? ⟨h, k * 3, none⟩ = some (.func (.func kf) #[] caps) ∧ ActIs B w (.func (.func kf) #[] caps) t i ∧
    w.cell? ⟨h, k * 3 + 1, none⟩ = some (.bool (i.op == 9)) ∧ w.cell? ⟨h, k * 3 + 2, none⟩ = some (.int .i64 (if i.op = 9 then i.a else 0))

def RowIs (B : Nat) (w : World) (v : Value) (t : Nat) (c : List Ins) : Prop :=
  (c = [] ∧ v = .slice none 0 0) ∨ ∃ h cap, v = .slice (some ⟨h, 0, none⟩) c.length cap ∧ h < B ∧ ∀ k (hk : k < c.length), MoveAt B w h k t c[k]

def MachAt (B : Nat) (w : World) (m : Nat) (p : List (List Ins)) : Prop :=
  ∃ g cap, m < B ∧ g < B ∧ w.cell? ⟨m, 0, none⟩ = some (.slice (some ⟨g, 0, none⟩) p.length cap) ∧
    ∀ t, t < p.length → ∃ v, w.cell? ⟨g, t, none⟩ = some v ∧ RowIs B w v t (codeOf p t)

theorem MoveAt.of_block {B : Nat} {w w' : World} {h k t : Nat} {i : Ins} (hh : h < B) (H : MoveAt B w h k t i) (hb : ∀ k, k < B → w'.heap[k]? = w.heap[k]?) : MoveAt B w' h k t i := by
  obtain ⟨kf, caps, h0, h1, h2, h3⟩ := H
  have c : ∀ o, w'.cell? ⟨h, o, none⟩ = w.cell? ⟨h, o, none⟩ := fun o => World.cell?_of_block (hb h hh)
  exact ⟨kf, caps, by rw [c]; exact h0, h1.of_block hb, by rw [c]; exact h2, by rw [c]; exact h3⟩
theorem MoveAt.mono {B B' : Nat} {w : World} {h k t : Nat} {i : Ins} (H : MoveAt B w h k t i) (hb : B ≤ B') : MoveAt B' w h k t i := by
  obtain ⟨kf, caps, h0, h1, h2, h3⟩ := H
  exact ⟨kf, caps, h0, h1.mono hb, h2, h3⟩

theorem RowIs.of_block {B : Nat} {w w' : World} {v : Value} {t : Nat} {c : List Ins} (H : RowIs B w v t c) (hb : ∀ k, k < B → w'.heap[k]? = w.heap[k]?) : RowIs B w' v t c := by
  rcases H with H | ⟨h, cap, h1, h2, h3⟩
  · exact Or.inl H
  · exact Or.inr ⟨h, cap, h1, h2, fun k hk => (h3 k hk).of_block h2 hb⟩
theorem RowIs.mono {B B' : Nat} {w : World} {v : Value} {t : Nat} {c : List Ins} (H : RowIs B w v t c) (hb : B ≤ B') : RowIs B' w v t c := by
  rcases H with H | ⟨h, cap, h1, h2, h3⟩
  · exact Or.inl H
  · exact Or.inr ⟨h, cap, h1, by omega, fun k hk => (h3 k hk).mono hb⟩

theorem MachAt.of_block {B : Nat} {w w' : World} {m : Nat} {p : List (List Ins)} (H : MachAt B w m p) (hb : ∀ k, k < B → w'.heap[k]? = w.heap[k]?) : MachAt B w' m p := by
  obtain ⟨g, cap, hm, hg, h1, h2⟩ := H
  refine ⟨g, cap, hm, hg, by rw [World.cell?_of_block (hb m hm)]; exact h1, fun t ht => ?_⟩
  obtain ⟨v, h3, h4⟩ := h2 t ht
  exact ⟨v, by rw [World.cell?_of_block (hb g hg)]; exact h3, h4.of_block hb⟩

theorem StAt.lt {w : World} {b : Nat} {s : St} (h : StAt w b s) : b < w.heap.size := by
  unfold StAt at h
  exact (Array.getElem?_eq_some_iff.1 h).1
theorem StAt.grown {w w' : World} {b : Nat} {s : St} (h : StAt w b s) (hg : w.grownBy w' none) : StAt w' b s := by
  have hl := h.lt
  unfold StAt at *
  rw [hg.block b hl (by simp)]; exact h
theorem MachAt.grown {B b : Nat} {w w' : World} {m : Nat} {p : List (List Ins)} (H : MachAt B w m p) (hB : B ≤ b) (hb : b < w.heap.size) (hg : w.grownBy w' (some b)) : MachAt B w' m p :=
  H.of_block fun k hk => hg.block k (by omega) (by simp; omega)
theorem MachAt.grown' {B : Nat} {w w' : World} {m : Nat} {p : List (List Ins)} (H : MachAt B w m p) (hB : B ≤ w.heap.size) (hg : w.grownBy w' none) : MachAt B w' m p :=
  H.of_block fun k hk => hg.block k (by omega) (by simp)

theorem done_m {B m b t : Nat} {w : World} {p : List (List Ins)} {s : St} (hp : vProg p = true) (hM : MachAt B w m p) (hs : StAt w b s) (ht : t < p.length) :
    Calls Tryd.prog 156 #[.pointer (some ⟨m, 0, none⟩), .pointer (some ⟨b, 0, none⟩), .int .i64 t] w
      fun e w' => e = .returned (.bool (doneB p s t)) ∧ w.grownBy w' none := by
  obtain ⟨g, cap, hm, hg, h1, h2⟩ := hM
  obtain ⟨v, h3, h4⟩ := h2 t ht
  have ht4 : t < 4 := by have := (vProg_len hp).2; omega
  have hv : ∃ ao c, v = .slice ao (codeOf p t).length c := by
    rcases h4 with ⟨e, rfl⟩ | ⟨h, c, rfl, _⟩
    · exact ⟨none, 0, by rw [e]; rfl⟩
    · exact ⟨_, _, rfl⟩
  obtain ⟨ao, c, rfl⟩ := hv
  exact (done_raw m g cap b t _ ao _ c _ w ht ht4 h1 h3 (hs.next ht4)).mono fun e w' ⟨he, hl⟩ => ⟨he, grown_like (grown_refl _ _) hl⟩

theorem row_move {B : Nat} {w : World} {v : Value} {t : Nat} {c : List Ins} (H : RowIs B w v t c) {k : Nat} (hk : k < c.length) :
    ∃ h cap, v = .slice (some ⟨h, 0, none⟩) c.length cap ∧ h < B ∧ MoveAt B w h k t c[k] := by
  rcases H with ⟨e, _⟩ | ⟨h, cap, e, hh, hm⟩
  · subst e; simp at hk
  · exact ⟨h, cap, e, hh, hm k hk⟩

theorem ready_m {B m b t : Nat} {w : World} {p : List (List Ins)} {s : St} (hp : vProg p = true) (hM : MachAt B w m p) (hs : StAt w b s) (hI : Inv p s) (ht : t < p.length) :
    Calls Tryd.prog 106 #[.pointer (some ⟨m, 0, none⟩), .pointer (some ⟨b, 0, none⟩), .int .i64 t] w
      fun e w' => e = .returned (.bool (readyB p s t)) ∧ w.grownBy w' none := by
  obtain ⟨g, cap, hm, hg, h1, h2⟩ := hM
  obtain ⟨v, h3, h4⟩ := h2 t ht
  have ht4 : t < 4 := by have := (vProg_len hp).2; omega
  have hn := hI t ht
  by_cases hd : doneB p s t = true
  · have hv : ∃ ao c, v = .slice ao (codeOf p t).length c := by
      rcases h4 with ⟨e, rfl⟩ | ⟨h, c, rfl, _⟩
      · exact ⟨none, 0, by rw [e]; rfl⟩
      · exact ⟨_, _, rfl⟩
    obtain ⟨ao, c, rfl⟩ := hv
    have hx := hs.next ht4
    have e : s.next t = ((codeOf p t).length : Int) := by simpa [doneB] using hd
    rw [e] at hx
    exact (ready_raw_done m g cap b t _ ao _ c w ht ht4 h1 h3 hx).mono fun e w' ⟨he, hl⟩ => ⟨by rw [he]; simp [readyB, hd], grown_like (grown_refl _ _) hl⟩
  · have hd' : doneB p s t = false := by simpa using hd
    have hne : s.next t ≠ ((codeOf p t).length : Int) := by simpa [doneB] using hd'
    have hk : (s.next t).toNat < (codeOf p t).length := by omega
    have ek : ((s.next t).toNat : Int) = s.next t := by omega
    obtain ⟨h, c, rfl, hh, kf, caps, m0, m1, m2, m3⟩ := row_move h4 hk
    have hx := hs.next ht4
    rw [← ek] at hx
    have hv := vProg_ins hp ht hk
    have hi : insAt p t (s.next t) = (codeOf p t)[(s.next t).toNat] := insAt_get hk
    rw [← hi] at m1 m2 m3
    by_cases h9 : (insAt p t (s.next t)).op = 9
    · have hsay := vIns_say hv
      have ha : 0 ≤ (insAt p t (s.next t)).a ∧ (insAt p t (s.next t)).a < 3 := by omega
      have ea : ((insAt p t (s.next t)).a.toNat : Int) = (insAt p t (s.next t)).a := by omega
      have ha3 : (insAt p t (s.next t)).a.toNat < 3 := by omega
      rw [if_pos h9, ← ea] at m3
      rw [h9] at m2
      exact (ready_raw_lock m g cap b t _ h _ _ c kf caps _ _ ha3 w ht ht4 hk h1 h3 hx m0 m2 m3 (hs.held ha3)).mono fun e w' ⟨he, hl⟩ => ⟨by rw [he]; simp [readyB, hd', h9], hl⟩
    · have e9 : ((insAt p t (s.next t)).op == 9) = false := by simpa using h9
      rw [e9] at m2
      exact (ready_raw_free m g cap b t _ h _ _ c kf caps _ w ht ht4 hk h1 h3 hx m0 m2 m3).mono fun e w' ⟨he, hl⟩ => ⟨by rw [he]; simp [readyB, hd', h9], hl⟩

theorem step_m {B m b t : Nat} {w : World} {p : List (List Ins)} {s : St} (hp : vProg p = true) (hM : MachAt B w m p) (hB : B ≤ b) (hs : StAt w b s) (hI : Inv p s) (ht : t < p.length) (hd : doneB p s t = false) :
    Calls Tryd.prog 107 #[.pointer (some ⟨m, 0, none⟩), .pointer (some ⟨b, 0, none⟩), .int .i64 t] w
      fun e w' => ∃ r, e = .returned (.bool r) ∧ r = (stepS p s t).1 ∧ StAt w' b (stepS p s t).2 ∧ w.grownBy w' (some b) := by
  obtain ⟨g, cap, hm, hg, h1, h2⟩ := hM
  obtain ⟨v, h3, h4⟩ := h2 t ht
  have ht4 : t < 4 := by have := (vProg_len hp).2; omega
  have hn := hI t ht
  have hne : s.next t ≠ ((codeOf p t).length : Int) := by simpa [doneB] using hd
  have hk : (s.next t).toNat < (codeOf p t).length := by omega
  have ek : ((s.next t).toNat : Int) = s.next t := by omega
  have h16 := vCode_len (vProg_code hp ht)
  obtain ⟨h, c, rfl, hh, kf, caps, m0, m1, m2, m3⟩ := row_move h4 hk
  have hx := hs.next ht4
  rw [← ek] at hx
  have hv := vProg_ins hp ht hk
  have hi : insAt p t (s.next t) = (codeOf p t)[(s.next t).toNat] := insAt_get hk
  rw [← hi] at m1
  have hs1 : StAt (w.setCell ⟨b, 26 + t, none⟩ (.int .i64 (s.next t + 1))) b (s.setNext t (s.next t + 1)) := hs.setCell (cells_setNext s ht4 _)
  have hgr : w.grownBy (w.setCell ⟨b, 26 + t, none⟩ (.int .i64 (s.next t + 1))) (some b) := grown_set
  have m1' := m1.of_block (w' := w.setCell ⟨b, 26 + t, none⟩ (.int .i64 (s.next t + 1))) fun k hk => Below.heap_setCell _ _ _ _ (by simp; omega)
  obtain ⟨kf', caps', e1, e2, e3⟩ := act_does ht4 hv m1' hs1
  have e4 : kf' = kf ∧ caps' = caps := by simp at e1; exact ⟨e1.1.symm, e1.2.symm⟩
  obtain ⟨rfl, rfl⟩ := e4
  rw [← ek] at e3
  refine (step_raw m g cap b t _ h _ _ c kf' caps' w (fun r w' => r = (stepS p s t).1 ∧ StAt w' b (stepS p s t).2 ∧ w.grownBy w' (some b)) ht ht4 hk (by omega) (by omega) (by omega) (by omega) h1 h3 hx (hs.frozen _) m0 e2 (e3.mono ?_))
  rintro e w' ⟨r, he, q1, q2, q3⟩
  rw [ek] at q1 q2 q3
  exact ⟨r, he, q1, q2, grown_trans hgr q3⟩

end Go.Proofs.YtklenjmfalljgaaDoor
