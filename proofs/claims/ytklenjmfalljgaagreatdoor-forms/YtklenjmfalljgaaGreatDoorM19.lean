/- The texts Agn Agt Agu. -/
import Derived.Test.YtklenjmfalljgaaGreatDoorM03
import Derived.Test.YtklenjmfalljgaaGreatDoorM07
import Derived.Test.YtklenjmfalljgaaGreatDoorM13
import Derived.Test.YtklenjmfalljgaaGreatDoorM16
import Derived.Test.YtklenjmfalljgaaGreatDoorM18
import Derived.Deep.DeepCutAuto

/- Lists that are lent, written over by their owner. -/
namespace Go.Proofs.YtklenjmfalljgaaGreatDoor
open Go.RowKit

section
variable {B : Nat} {w w' : World} {b : Nat} {who : Nat → Role} {n : Int} {f : Nat → Value} {K : Nat → List (Value × Int)} {E : Nat → List Value} {LI : List (Nat × List Int × Value)} {LC : List (Nat × List Ins × Value)} {LR : List (Nat × Nat)} {tail : Nat}

theorem nd_lc (h : Le w who LI LC LR tail) {i j : Nat} (hi : i < LC.length) (hj : j < LC.length) (hij : i ≠ j) : LC[i].1 ≠ LC[j].1 := by
  intro e
  have hnd := (List.nodup_append.1 (List.nodup_append.1 h.nd).2.1).1
  have h1 : (LC.map (·.1))[i]'(by simpa using hi) = (LC.map (·.1))[j]'(by simpa using hj) := by simpa using e
  have hp := List.pairwise_iff_getElem.1 hnd
  rcases Nat.lt_or_gt_of_ne hij with hlt | hlt
  · exact hp i j (by simpa using hi) (by simpa using hj) hlt h1
  · exact hp j i (by simpa using hj) (by simpa using hi) hlt h1.symm
theorem nd_li (h : Le w who LI LC LR tail) {x : Nat × List Int × Value} (hx : x ∈ LI) {i : Nat} (hi : i < LC.length) : x.1 ≠ LC[i].1 := by
  intro e
  exact (List.nodup_append.1 h.nd).2.2 x.1 (List.mem_map.2 ⟨x, hx, rfl⟩) LC[i].1 (List.mem_append.2 (Or.inl (List.mem_map.2 ⟨_, List.getElem_mem hi, rfl⟩))) e
theorem nd_lr (h : Le w who LI LC LR tail) {j : Nat} (hj : j < LR.length) {i : Nat} (hi : i < LC.length) : LR[j].1 ≠ LC[i].1 := by
  intro e
  exact (List.nodup_append.1 (List.nodup_append.1 h.nd).2.1).2.2 LC[i].1 (List.mem_map.2 ⟨_, List.getElem_mem hi, rfl⟩) LR[j].1 (List.mem_map.2 ⟨_, List.getElem_mem hj, rfl⟩) e.symm

theorem map_set_same {α β : Type} (F : α → β) (l : List α) (i : Nat) (y : α) (hi : i < l.length) (e : F y = F l[i]) : (l.set i y).map F = l.map F := by
  rw [List.map_set, e]
  apply List.ext_getElem (by simp)
  intro k h1 h2
  rw [List.getElem_set]
  by_cases hk : i = k
  · subst hk; simp
  · rw [if_neg hk]

/-- A list of instructions that is lent holds others of the same number; so does what is told of it. -/
theorem Lx.recode (h : Lx B w b who n f K (EL LI LC LR) LI LC LR 0) {i : Nat} (hi : i < LC.length) {w1 : World} (hc : Chg w w1 (fun g => g = LC[i].1)) {c' : List Ins} {cv' : Value} {g3 m3 c3 : Nat} (hf3 : f 3 = .slice (some ⟨g3, 0, none⟩) m3 c3)
    (hb : w1.heap[LC[i].1]? = some (.cells (lentCode c') 74 (0, 0))) (hl : c'.length = LC[i].2.1.length) (hC : CodeAt w1 cv' c') (hv : valOther who cv') :
    Lx B (w1.setCell ⟨g3, i, none⟩ cv') b who n f K (EL LI (LC.set i (LC[i].1, c', cv')) LR) LI (LC.set i (LC[i].1, c', cv')) LR 0 ∧ Fr w (w1.setCell ⟨g3, i, none⟩ cv') who who (fun _ => False) := by
  have w3 : who g3 = .lrow 3 := h.lr.wr 3 (by omega) g3 (by rw [hf3]; rfl)
  have wx : who LC[i].1 = .lent := (h.le.lc _ (List.getElem_mem hi)).2.1
  have hgx3 : LC[i].1 ≠ g3 := fun e => by rw [e, w3] at wx; cases wx
  have hne3 : ∀ g, g ≠ g3 → (w1.setCell ⟨g3, i, none⟩ cv').heap[g]? = w1.heap[g]? := fun g e => Below.heap_setCell _ _ _ _ (by simpa using e)
  have hne : ∀ g, g < w.heap.size → g ≠ LC[i].1 → g ≠ g3 → (w1.setCell ⟨g3, i, none⟩ cv').heap[g]? = w.heap[g]? := fun g h1 h2 h3 => by rw [hne3 g h3]; exact hc.blk g h1 h2
  have hfr : Fr w (w1.setCell ⟨g3, i, none⟩ cv') who who (fun _ => False) := ⟨hc.os, hc.tape, hc.output, by simpa using hc.size, fun g h1 h2 _ => ⟨hne g h1 (fun e => by rw [e, wx] at h2; cases h2) (fun e => by rw [e, w3] at h2; cases h2), h2⟩⟩
  have e1 : (LC.set i (LC[i].1, c', cv')).map (·.1) = LC.map (·.1) := map_set_same _ _ _ _ hi rfl
  have e2 : (LC.set i (LC[i].1, c', cv')).map (fun x => sl2 x.1 x.2.1.length) = LC.map (fun x => sl2 x.1 x.2.1.length) := map_set_same _ _ _ _ hi (by simp only; rw [hl])
  have e3 : (LC.set i (LC[i].1, c', cv')).map slC = LC.map slC := map_set_same _ _ _ _ hi (by simp only [slC]; rw [hl])
  refine ⟨⟨⟨h.hs.1.same (by simpa using hc.size) (fun g h1 _ h3 => hne g h1 (fun e => by rw [e, wx] at h3; cases h3) (fun e => by rw [e, w3] at h3; cases h3)), h.hs.2⟩, ⟨fun k hk => ?_, h.lr.wr⟩, ⟨fun x hx => ?_, fun x hx => ?_, fun j hj => ?_, by simpa using h.le.sum, by rw [e1]; exact h.le.nd⟩⟩, hfr⟩
  · have hother : k ≠ 3 → EL LI (LC.set i (LC[i].1, c', cv')) LR k = EL LI LC LR k := fun hk3 => by
      rcases (by omega : k = 0 ∨ k = 1 ∨ k = 2 ∨ k = 4) with rfl | rfl | rfl | rfl
      · rfl
      · rfl
      · exact e2
      · rfl
    by_cases hk3 : k = 3
    · subst hk3
      have hr := h.lr.r 3 (by omega)
      rw [hf3] at hr
      have hm := owns_lenq hr
      subst hm
      have hr1 : w1.ownsRow B (tR 3) 1 (.slice (some ⟨g3, 0, none⟩) (EL LI LC LR 3).length c3) (EL LI LC LR 3).length (EL LI LC LR 3) := owns_same hr (fun g e => by
        simp only [Value.ownBlock, Option.some.injEq] at e
        subst e
        exact hc.blk g3 (h.hs.1.dom g3 (by rw [w3]; simp)).2 (fun e => hgx3 e.symm))
      have hr2 := owns_setCell hr1 i cv'
      have e4 : (EL LI LC LR 3).set i cv' = EL LI (LC.set i (LC[i].1, c', cv')) LR 3 := by simp [EL, List.map_set]
      have e5 : (EL LI LC LR 3).length = (EL LI (LC.set i (LC[i].1, c', cv')) LR 3).length := by simp [EL]
      rw [e4] at hr2
      rw [hf3, ← e5]
      exact hr2
    · rw [hother hk3]
      exact owns_same (h.lr.r k hk) (fun g e => by
        have hw := h.lr.wr k hk g e
        refine hne g (h.hs.1.dom g (by rw [hw]; simp)).2 (fun e => by rw [e, wx] at hw; cases hw) (fun e => ?_)
        rw [e, w3] at hw
        simp at hw
        omega)
  · obtain ⟨a, b', c, d, e⟩ := h.le.li x hx
    obtain ⟨k1, k2⟩ := int_keeps c d hfr
    refine ⟨?_, b', k1, k2, e⟩
    rw [hne x.1 (Array.getElem?_eq_some_iff.1 a).1 (nd_li h.le hx hi) (fun e => by rw [e, w3] at b'; cases b')]
    exact a
  · obtain ⟨j, hj, rfl⟩ := List.getElem_of_mem hx
    have hj' : j < LC.length := by simpa using hj
    by_cases hij : i = j
    · subst hij
      rw [List.getElem_set_self]
      refine ⟨by rw [hne3 _ hgx3]; exact hb, wx, code_oth hC hv (fun g _ h2 => hne3 g (fun e => by rw [e, w3] at h2; cases h2)), hv, ?_⟩
      show c'.length ≤ 4398046510976
      rw [hl]
      exact (h.le.lc _ (List.getElem_mem hi)).2.2.2.2
    · rw [List.getElem_set_ne hij]
      obtain ⟨a, b', c, d, e⟩ := h.le.lc _ (List.getElem_mem hj')
      refine ⟨?_, b', code_oth c d (fun g h1 h2 => (hfr.oth g h1 h2 (fun e => e)).1), d, e⟩
      rw [hne _ (Array.getElem?_eq_some_iff.1 a).1 (fun e => nd_lc h.le hi hj' hij e.symm) (fun e => by rw [e, w3] at b'; cases b')]
      exact a
  · obtain ⟨a, b', c⟩ := h.le.lr j hj
    refine ⟨?_, b', c⟩
    have e6 : lentRows (((LC.set i (LC[i].1, c', cv')).drop ((LR.take j).map (·.2)).sum).take LR[j].2) = lentRows ((LC.drop ((LR.take j).map (·.2)).sum).take LR[j].2) := by
      unfold lentRows
      rw [List.map_take, List.map_drop, e3, ← List.map_drop, ← List.map_take]
    rw [e6, hne _ (Array.getElem?_eq_some_iff.1 a).1 (nd_lr h.le hj hi) (fun e => by rw [e, w3] at b'; cases b')]
    exact a

/-- The list of numbers that is lent holds others of the same number; so does what is told of it. -/
theorem Lx.reints {gs : Nat} {s : List Int} {sv : Value} (h : Lx B w b who n f K (EL [(gs, s, sv)] LC LR) [(gs, s, sv)] LC LR 0) {w1 : World} (hc : Chg w w1 (fun g => g = gs)) {t : List Int} {tv : Value} {g1 m1 c1 : Nat} (hf1 : f 1 = .slice (some ⟨g1, 0, none⟩) m1 c1)
    (hb : w1.heap[gs]? = some (.cells (lentRow t) 3 (0, 0))) (hl : t.length = s.length) (hC : IntsAt w1.heap.size w1 tv t) (hv : valOther who tv) :
    Lx B (w1.setCell ⟨g1, 0, none⟩ tv) b who n f K (EL [(gs, t, tv)] LC LR) [(gs, t, tv)] LC LR 0 ∧ Fr w (w1.setCell ⟨g1, 0, none⟩ tv) who who (fun _ => False) := by
  have w3 : who g1 = .lrow 1 := h.lr.wr 1 (by omega) g1 (by rw [hf1]; rfl)
  have wx : who gs = .lent := (h.le.li (gs, s, sv) (by simp)).2.1
  have hgx3 : gs ≠ g1 := fun e => by rw [e, w3] at wx; cases wx
  have hne3 : ∀ g, g ≠ g1 → (w1.setCell ⟨g1, 0, none⟩ tv).heap[g]? = w1.heap[g]? := fun g e => Below.heap_setCell _ _ _ _ (by simpa using e)
  have hne : ∀ g, g < w.heap.size → g ≠ gs → g ≠ g1 → (w1.setCell ⟨g1, 0, none⟩ tv).heap[g]? = w.heap[g]? := fun g h1 h2 h3 => by rw [hne3 g h3]; exact hc.blk g h1 h2
  have hfr : Fr w (w1.setCell ⟨g1, 0, none⟩ tv) who who (fun _ => False) := ⟨hc.os, hc.tape, hc.output, by simpa using hc.size, fun g h1 h2 _ => ⟨hne g h1 (fun e => by rw [e, wx] at h2; cases h2) (fun e => by rw [e, w3] at h2; cases h2), h2⟩⟩
  have hnd := (List.nodup_append.1 h.le.nd).2.2
  refine ⟨⟨⟨h.hs.1.same (by simpa using hc.size) (fun g h1 _ h3 => hne g h1 (fun e => by rw [e, wx] at h3; cases h3) (fun e => by rw [e, w3] at h3; cases h3)), h.hs.2⟩, ⟨fun k hk => ?_, h.lr.wr⟩, ⟨fun x hx => ?_, fun x hx => ?_, fun j hj => ?_, h.le.sum, h.le.nd⟩⟩, hfr⟩
  · have hother : k ≠ 1 → EL [(gs, t, tv)] LC LR k = EL [(gs, s, sv)] LC LR k := fun hk3 => by
      rcases (by omega : k = 0 ∨ k = 2 ∨ k = 3 ∨ k = 4) with rfl | rfl | rfl | rfl
      · simp [EL, hl]
      · rfl
      · rfl
      · rfl
    by_cases hk3 : k = 1
    · subst hk3
      have hr := h.lr.r 1 (by omega)
      rw [hf1] at hr
      have hm := owns_lenq hr
      subst hm
      have hr1 : w1.ownsRow B (tR 1) 1 (.slice (some ⟨g1, 0, none⟩) (EL [(gs, s, sv)] LC LR 1).length c1) (EL [(gs, s, sv)] LC LR 1).length (EL [(gs, s, sv)] LC LR 1) := owns_same hr (fun g e => by
        simp only [Value.ownBlock, Option.some.injEq] at e
        subst e
        exact hc.blk g1 (h.hs.1.dom g1 (by rw [w3]; simp)).2 (fun e => hgx3 e.symm))
      have hr2 := owns_setCell hr1 0 tv
      rw [hf1]
      simpa [EL] using hr2
    · rw [hother hk3]
      exact owns_same (h.lr.r k hk) (fun g e => by
        have hw := h.lr.wr k hk g e
        refine hne g (h.hs.1.dom g (by rw [hw]; simp)).2 (fun e => by rw [e, wx] at hw; cases hw) (fun e => ?_)
        rw [e, w3] at hw
        simp at hw
        omega)
  · have hx' : x = (gs, t, tv) := by simpa using hx
    subst hx'
    refine ⟨by rw [hne3 _ hgx3]; exact hb, wx, ?_, hv, by show t.length ≤ 17592186043904; rw [hl]; exact (h.le.li (gs, s, sv) (by simp)).2.2.2.2⟩
    have := ints_oth hC hv (w' := w1.setCell ⟨g1, 0, none⟩ tv) (by simp) (fun g _ h2 => hne3 g (fun e => by rw [e, w3] at h2; cases h2))
    exact this
  · obtain ⟨a, b', c, d, e⟩ := h.le.lc x hx
    refine ⟨?_, b', code_oth c d (fun g h1 h2 => (hfr.oth g h1 h2 (fun e => e)).1), d, e⟩
    rw [hne _ (Array.getElem?_eq_some_iff.1 a).1 (fun e => hnd gs (by simp) x.1 (List.mem_append.2 (Or.inl (List.mem_map.2 ⟨x, hx, rfl⟩))) e.symm) (fun e => by rw [e, w3] at b'; cases b')]
    exact a
  · obtain ⟨a, b', c⟩ := h.le.lr j hj
    refine ⟨?_, b', c⟩
    rw [hne _ (Array.getElem?_eq_some_iff.1 a).1 (fun e => hnd gs (by simp) LR[j].1 (List.mem_append.2 (Or.inr (List.mem_map.2 ⟨_, List.getElem_mem hj, rfl⟩))) e.symm) (fun e => by rw [e, w3] at b'; cases b')]
    exact a
end

end Go.Proofs.YtklenjmfalljgaaGreatDoor

/- The hands' again: behind the programs, the schedule. -/
namespace Go.Proofs.YtklenjmfalljgaaGreatDoor
open Go.RowKit
attribute [local go_sem] Go.World.cell?_alloc_some

theorem owns_nilA {w : World} {base : Nat} {e : TypeId} {size : Nat} {v : Value} {n : Nat} {xs : List Value} (h : w.ownsRow base e size v n xs) : nilA v := by
  intro n' c' e
  rcases h.2 with ⟨e1, _⟩ | ⟨g, cap, cur, hv, _⟩
  · rw [e1] at e; simp at e; omega
  · rw [hv] at e; simp at e
theorem ints_ofA {B : Nat} {w : World} {ao : Option Addr} {cap : Nat} {l : List Int} (h : IntsAt B w (.slice ao l.length cap) l) : ∀ b, ao = some b → ∀ j u, (ints l)[j]? = some u → w.cell? (b.add j) = some u := by
  rintro b rfl j u hj
  obtain ⟨a, c, e, _, h2⟩ := h
  have hl := (List.getElem?_eq_some_iff.1 hj).1
  rw [ints_len] at hl
  obtain ⟨g', o', e1, e2, e3⟩ := h2 j hl
  simp only [Value.slice.injEq] at e
  rw [e1] at e
  simp only [Option.some.injEq] at e
  obtain ⟨rfl, _⟩ := e
  have hadd : (⟨g', o', none⟩ : Addr).add j = ⟨g', o' + j, none⟩ := by unfold Addr.add; split <;> simp_all
  rw [hadd, e3]
  have : (ints l)[j]? = some (.int .i64 l[j]) := by simp [ints, hl]
  rw [this] at hj; exact hj
/-- The first two change places. -/
def swp : List Int → List Int
  | x :: y :: r => y :: x :: r
  | l => l
theorem swp_len (l : List Int) : (swp l).length = l.length := by
  unfold swp; split <;> simp
theorem swp_short {l : List Int} (h : ¬ 1 < l.length) : swp l = l := by
  match l, h with
  | [], _ => rfl
  | [x], _ => rfl
  | x :: y :: r, h => simp at h
theorem swp_set {l : List Int} (h : 1 < l.length) : ((ints l).set 0 (.int .i64 l[1])).set 1 (.int .i64 (l[0]'(by omega))) = ints (swp l) := by
  match l, h with
  | x :: y :: r, _ => rfl
/-- In the midst: k numbers are the other list's. -/
def mixI (s t : List Int) (k : Nat) : List Int := t.take k ++ s.drop k
theorem mixI_len {s t : List Int} (h : t.length = s.length) (k : Nat) (hk : k ≤ s.length) : (mixI s t k).length = s.length := by simp [mixI]; omega
theorem mixI_zero (s t : List Int) : mixI s t 0 = s := by simp [mixI]
theorem mixI_end {s t : List Int} (h : t.length = s.length) (k : Nat) (hk : s.length ≤ k) : mixI s t k = t := by
  unfold mixI; rw [List.take_of_length_le (by omega), List.drop_of_length_le hk, List.append_nil]
theorem mixI_next {s t : List Int} (h : t.length = s.length) (k : Nat) (hk : k < s.length) : (lentRow (mixI s t k)).setIfInBounds k (.int .i64 (t[k]'(by omega))) = lentRow (mixI s t (k + 1)) := by
  have e1 : mixI s t (k + 1) = (mixI s t k).set k (t[k]'(by omega)) := by
    unfold mixI
    rw [List.take_succ_eq_append_getElem (by omega : k < t.length), List.set_append, if_neg (by simp; omega)]
    have : k - (t.take k).length = 0 := by simp; omega
    rw [this]
    have e2 : s.drop k = s[k] :: s.drop (k + 1) := List.drop_eq_getElem_cons hk
    rw [e2, List.set_cons_zero]
    simp only [List.append_assoc, List.cons_append, List.nil_append]
  rw [e1]
  unfold lentRow ints
  rw [List.map_set]
  simp only [List.setIfInBounds_toArray]
  congr 1
  rw [List.set_append, if_pos (by simp [mixI]; omega)]

/-- What asked answers of one question, whoever asks. -/
def AskC (wh : Int) : Prop := ∀ (p : List (List Ins)) (s : List Int) (xv lv pv sv : Value) (w : World), ShpAt w → ProgAt w xv p → IntsAt w.heap.size w lv s → nilA lv → ProgAt w pv p → IntsAt w.heap.size w sv s → nilA sv → p.length ≤ 5864062014634 → (∀ c ∈ p, c.length ≤ 4398046510976) →
  Calls Tryz.prog 36 #[.int .i64 wh, xv, lv, pv, sv] w fun e w' => e = .returned (.bool true) ∧ w.grownBy w' none

set_option maxHeartbeats 4000000 in
set_option maxRecDepth 100000 in
theorem againTail {W : World} {B : Nat} {w : World} {b : Nat} {who : Nat → Role} {n : Int} {f : Nat → Value} {K : Nat → List (Value × Int)} {gs g n9 n12 qc sc : Nat} {so qa : Option Addr} {s : List Int} {p : List (List Ins)} {LC : List (Nat × List Ins × Value)} {wh : Int}
    (h : Lx B w b who n f K (EL [(gs, s, .slice so s.length sc)] LC [(g, p.length)]) [(gs, s, .slice so s.length sc)] LC [(g, p.length)] 0) (hW : W.grownBy w none) (hWB : W.heap.size ≤ B) (hS : ShpAt W) (hI : IntsAt W.heap.size W (.slice so s.length sc) s) (hnil : nilA (.slice so s.length sc)) (hsl : s.length ≤ 17592186043904)
    (hp : LC.map (·.2.1) = p) (hpl : p.length ≤ 5864062014634) (hpc : ∀ c ∈ p, c.length ≤ 4398046510976) (HA : Hid (AskC wh))
    (HB : Hid (∀ w', w.heap.size ≤ w'.heap.size → (∀ g', g' < w.heap.size → g' ≠ gs → (∀ k, who g' ≠ .lrow k) → w'.heap[g']? = w.heap[g']?) → ProgAt w' (.agg #[.slice qa p.length qc]) p ∧ w'.cell? ⟨n12, 0, none⟩ = some (.slice qa p.length qc) ∧ w'.cell? ⟨n9, 0, none⟩ = some (.slice (some ⟨g, 0, none⟩) p.length (p.length + 2))))
    {Q : Exit → Act → World → Prop} {c2 c4 c5 c6 c7 c8 c13 c14 c15 c16 c17 c18 c19 c20 c21 c22 c23 c24 c25 c26 c27 c28 c29 c30 c31 c32 c33 c34 c35 c36 c37 c38 c39 c40 c41 c42 c43 c44 c45 c46 c47 c48 c49 c50 c51 c52 c53 c54 c55 c56 c57 c58 c59 c60 c61 c62 c63 c64 c65 c66 c67 c68 c69 c70 c71 c72 c73 c74 c75 c76 c77 c78 c79 c80 c81 c82 c83 c84 c85 c86 c87 c88 c89 c90 c91 c92 c93 c94 c95 c96 c97 c98 c99 c100 c101 c102 c103 c104 c105 c106 c107 c108 c109 c110 c111 c112 c113 c114 c115 c116 c117 c118 c119 c120 c121 c122 c123 c124 c125 c126 c127 c128 c129 c130 c131 c132 c133 c134 c135 c136 c137 c138 c139 : Value} (HQP : Hid (∀ c a d v w, Q (.panic c) (Act.put a (some d) v) w → Q (.panic c) a w))
    (HQ : Hid (∀ {z0 z1 z2 z3 z4 z5 z6 z7 z9 z10 z11 z12 z13 z14 z15 z16 z17 z18 z19 z20 z21 z22 z23 z24 z25 z26 z27 z28 z29 z30 z31 z32 z33 z34 z35 z36 z37 z38 z39 z40 z41 z42 z43 z44 z45 z46 z47 z48 z49 z50 z51 z52 z53 z54 z55 z56 z57 z58 z59 z60 z61 z62 z63 z64 z65 z66 z67 z68 z69 z70 z71 z72 z73 z74 z75 z76 z77 z78 z79 z80 z81 z82 z83 z84 z85 z86 z87 z88 z89 z90 z91 z92 z93 z94 z95 z96 z97 z98 z99 z100 z101 z102 z103 z104 z105 z106 z107 z108 z109 z110 z111 z112 z113 z114 z115 z116 z117 z118 z119 z120 z121 z122 z123 z124 z125 z126 z127 z128 z129 z130 z131 z132 z133 z134 z135 z136 z137 z138 z139 : Value} (f' : Nat → Value) (w' : World), Hz B w' b who n f' K → W.grownBy w' none → Q .ret ⟨#[z0, z1, z2, z3, z4, z5, z6, z7, .bool true, z9, z10, z11, z12, z13, z14, z15, z16, z17, z18, z19, z20, z21, z22, z23, z24, z25, z26, z27, z28, z29, z30, z31, z32, z33, z34, z35, z36, z37, z38, z39, z40, z41, z42, z43, z44, z45, z46, z47, z48, z49, z50, z51, z52, z53, z54, z55, z56, z57, z58, z59, z60, z61, z62, z63, z64, z65, z66, z67, z68, z69, z70, z71, z72, z73, z74, z75, z76, z77, z78, z79, z80, z81, z82, z83, z84, z85, z86, z87, z88, z89, z90, z91, z92, z93, z94, z95, z96, z97, z98, z99, z100, z101, z102, z103, z104, z105, z106, z107, z108, z109, z110, z111, z112, z113, z114, z115, z116, z117, z118, z119, z120, z121, z122, z123, z124, z125, z126, z127, z128, z129, z130, z131, z132, z133, z134, z135, z136, z137, z138, z139], []⟩ w')) :
    Code.wp Tryz.prog (tailOf Tryz.f9 18) Q ⟨#[.pointer (some ⟨b, 0, none⟩), .int .i64 wh, c2, .slice so s.length sc, c4, c5, c6, c7, c8, .pointer (some ⟨n9, 0, none⟩), .slice (some ⟨gs, 0, none⟩) s.length (s.length + 2), .bool true, .pointer (some ⟨n12, 0, none⟩), c13, c14, c15, c16, c17, c18, c19, c20, c21, c22, c23, c24, c25, c26, c27, c28, c29, c30, c31, c32, c33, c34, c35, c36, c37, c38, c39, c40, c41, c42, c43, c44, c45, c46, c47, c48, c49, c50, c51, c52, c53, c54, c55, c56, c57, c58, c59, c60, c61, c62, c63, c64, c65, c66, c67, c68, c69, c70, c71, c72, c73, c74, c75, c76, c77, c78, c79, c80, c81, c82, c83, c84, c85, c86, c87, c88, c89, c90, c91, c92, c93, c94, c95, c96, c97, c98, c99, c100, c101, c102, c103, c104, c105, c106, c107, c108, c109, c110, c111, c112, c113, c114, c115, c116, c117, c118, c119, c120, c121, c122, c123, c124, c125, c126, c127, c128, c129, c130, c131, c132, c133, c134, c135, c136, c137, c138, c139], []⟩ w := by
  conv => arg 2; whnf
  obtain ⟨i0, hi0, hz0, hz1, hz2⟩ := info_parts info_int
  have HX := hide h
  have HW := hide hW
  have HS := hide hS
  have HI := hide hI
  have HP := hide hp
  have HPC := hide hpc
  have hIw : IntsAt w.heap.size w (.slice so s.length sc) s := (hI.pres (pres_grown hW)).mono hW.size
  have HIW := hide hIw
  have HSO : Hid (so = none → s.length = 0 ∧ sc = 0) := fun e => hnil _ _ (by rw [e])
  have HNW : Hid (∀ ad, so = some ad → ∀ j u, (ints s)[j]? = some u → w.cell? (ad.add j) = some u) := ints_ofA hIw
  have hil : (ints s).length = s.length * 1 := by rw [ints_len]; omega
  have h63 : 0 + s.length ≤ maxLen := by unfold maxLen; omega
  have q0 : (s.length : Int) ≤ 17592186043904 := by omega
  clear h hW hS hI hp hpc hnil hIw
  go_upto_if 90 with (at_builtin; refine wpList_append_any rfl _ _ _ rfl w.heap.size 3 i0 _ 1 8 Tryz.underlying25 hi0 hz0 hz1 hz2 rfl (by omega) (.slice none 0 0) 0 [] rfl ⟨rfl, Or.inl ⟨rfl, rfl⟩⟩ so s.length sc (ints s) rfl hil HSO.out HNW.out (ints_one _) h63 (by omega) (Nat.le_refl _) ?_; intro ta tn tc w1 hown1 hg1)
  simp only [Nat.zero_add, List.nil_append] at hown1
  have htn := owns_lenq hown1
  subst htn
  have HG1 : Hid (w.grownBy w1 none) := hg1
  have HO1 := hide hown1
  clear hown1 hg1 hil h63 HSO HNW
  go_cut [16] from 85 to 100 (fun tv w' => Hid (∃ ta tc, tv = .slice ta s.length tc ∧ w'.ownsRow w.heap.size 3 1 tv s.length (ints (swp s)) ∧ w.grownBy w' none))
  case first =>
    by_cases hs1 : 1 < s.length
    · have t1 : (1 : Int) < s.length := by omega
      obtain ⟨tg, hta, htg, hfz⟩ : ∃ tg, ta = some ⟨tg, 0, none⟩ ∧ w.heap.size ≤ tg ∧ ∀ o, w1.frozen? ⟨tg, o, none⟩ = false := by
        rcases HO1.out.2 with ⟨_, e⟩ | ⟨g, cap, cur, hv, hb', hh, _⟩
        · omega
        · simp only [Value.slice.injEq] at hv
          exact ⟨g, hv.1, hb', fun o => by simp [World.frozen?, hh]⟩
      subst hta
      obtain ⟨sg, sf, hso, d0, d1⟩ : ∃ sg sf, so = some ⟨sg, sf, none⟩ ∧ w1.cell? ⟨sg, sf, none⟩ = some (.int .i64 (s[0]'(by omega))) ∧ w1.cell? ⟨sg, sf + 1, none⟩ = some (.int .i64 s[1]) := by
        obtain ⟨ao, cap, e, _, h⟩ := HIW.out
        simp only [Value.slice.injEq] at e
        obtain ⟨g1, o1, e1, _, k1⟩ := h 0 (by omega)
        obtain ⟨g2, o2, e2, _, k2⟩ := h 1 hs1
        rw [e1] at e2
        simp only [Option.some.injEq, Addr.mk.injEq, and_true] at e2
        obtain ⟨rfl, rfl⟩ := e2
        exact ⟨g1, o1, by rw [e.1]; exact e1, pres_grown HG1.out _ _ k1, pres_grown HG1.out _ _ k2⟩
      have hsl2 : sg < w.heap.size := by
        obtain ⟨ao, cap, e, _, h⟩ := HIW.out
        simp only [Value.slice.injEq] at e
        obtain ⟨g1, o1, e1, k0, _⟩ := h 0 (by omega)
        rw [← e.1, hso] at e1
        simp only [Option.some.injEq, Addr.mk.injEq, and_true] at e1
        omega
      subst hso
      have hne1 : tg ≠ sg := by omega
      have hne2 : sg ≠ tg := by omega
      have f0 := hfz 0
      have f1 := hfz 1
      have u0 : w1.cell? ⟨tg, 0, none⟩ = some (.int .i64 (s[0]'(by omega))) := by rw [HO1.out.cellAt _ (by omega)]; simp [ints]
      have u1 : w1.cell? ⟨tg, 1, none⟩ = some (.int .i64 s[1]) := by rw [HO1.out.cellAt _ (by omega)]; simp [ints]
      have HNX : Hid (((w1.setCell ⟨tg, 0, none⟩ (.int .i64 s[1])).setCell ⟨tg, 1, none⟩ (.int .i64 (s[0]'(by omega)))).ownsRow w.heap.size 3 1 (.slice (some ⟨tg, 0, none⟩) s.length tc) s.length (ints (swp s))) := by
        unfold Hid; rw [← swp_set hs1]; exact owns_setCell (owns_setCell HO1.out 0 _) 1 _
      have HNG : Hid (w.grownBy ((w1.setCell ⟨tg, 0, none⟩ (.int .i64 s[1])).setCell ⟨tg, 1, none⟩ (.int .i64 (s[0]'(by omega)))) none) := grown_setNew (grown_setNew HG1.out htg) htg
      generalize s[0]'(by omega) = y0 at *
      generalize s[1] = y1 at *
      clear hfz
      go_wp2_with fail
      go_meet
      exact ⟨_, _, rfl, HNX.out, HNG.out⟩
    · have t1 : (s.length : Int) ≤ 1 := by omega
      have HE : Hid (swp s = s) := swp_short hs1
      go_wp2_with fail
      go_meet
      exact ⟨_, _, rfl, by rw [HE.out]; exact HO1.out, HG1.out⟩
  case rest =>
  obtain ⟨ta2, tc2, rfl, ho2, hg2⟩ := hcut.out
  clear hcut HO1 HG1
  obtain ⟨w2, hw2⟩ : ∃ w2, w2 = wc := ⟨_, rfl⟩
  rw [← hw2] at ho2 hg2 ⊢
  clear hw2
  have HX2 := hide (HX.out.grown hg2)
  have HW2 : Hid (W.grownBy w2 none) := grown_trans HW.out hg2
  have HG2 := hide hg2
  have HO2 := hide ho2
  have HTL := hide (swp_len s)
  have hxr := HX2.out.lr.r 0 (by omega)
  have hxl : (EL [(gs, s, .slice so s.length sc)] LC [(g, p.length)] 0).length = 1 := rfl
  obtain ⟨r0, rc, hr0, d1⟩ := row_cell hxr (i := 0) (by rw [hxl]; omega)
  rw [hxl] at hr0
  have d1' : w2.cell? ⟨r0, 0, none⟩ = some (.slice (some ⟨gs, 0, none⟩) (s.length + 2) (s.length + 2)) := d1
  have d0 : w2.cell? ⟨b, 0, none⟩ = some (.slice (some ⟨r0, 0, none⟩) 1 rc) := by rw [← hr0]; exact HX2.out.cell (by omega)
  have hgsb : w2.heap[gs]? = some (.cells (lentRow s) 3 (0, 0)) := (HX2.out.le.li (gs, s, .slice so s.length sc) (by simp)).1
  have wgs : who gs = .lent := (HX2.out.le.li (gs, s, .slice so s.length sc) (by simp)).2.1
  have wr0 : who r0 = .lrow 0 := HX2.out.lr.wr 0 (by omega) r0 (by rw [hr0]; rfl)
  have wb : who b = .hands := HX2.out.hs.1.wb
  have nb : b ≠ gs := fun e => by rw [e, wgs] at wb; cases wb
  have nr : r0 ≠ gs := fun e => by rw [e, wgs] at wr0; cases wr0
  have HD0 := hide d0
  have HD1 := hide d1'
  have H0 : Hid (Chg w2 w2 (fun g' => g' = gs) ∧ w2.heap[gs]? = some (.cells (lentRow (mixI s (swp s) 0)) 3 (0, 0))) := ⟨Chg.refl _ _, by rw [mixI_zero]; exact hgsb⟩
  clear ho2 hg2 hxr hxl d1 d1' d0 hgsb hr0
  go_wp2_with fail
  go_loopw [17] (fun kv w' => ∃ k : Nat, k ≤ s.length ∧ kv = .int .i64 k ∧ Hid (Chg w2 w' (fun g' => g' = gs) ∧ w'.heap[gs]? = some (.cells (lentRow (mixI s (swp s) k)) 3 (0, 0)))) (fun kv _ => s.length - (intOf kv).toNat)
  case atStart => exact ⟨0, Nat.zero_le _, rfl, H0⟩
  case round =>
    clear H0
    obtain ⟨k, hk, rfl, HK⟩ := hrel
    obtain ⟨w3, hw3⟩ : ∃ w3, w3 = wr := ⟨_, rfl⟩
    rw [← hw3] at HK ⊢
    clear hw3
    by_cases hlt : k < s.length
    · have t0 : (0 : Int) ≤ (k : Int) := by omega
      have t1 : (k : Int) < s.length := by omega
      have t2 : (k : Int) < (s.length : Int) + 2 := by omega
      have hkt : k < (swp s).length := by have := HTL.out; omega
      obtain ⟨tg, hta, htg⟩ : ∃ tg, ta2 = some ⟨tg, 0, none⟩ ∧ w.heap.size ≤ tg := by
        rcases HO2.out.2 with ⟨_, e⟩ | ⟨g, cap, cur, hv, hb', hh, _⟩
        · omega
        · simp only [Value.slice.injEq] at hv
          exact ⟨g, hv.1, hb'⟩
      subst hta
      have ngt : tg ≠ gs := fun e => by
        have := (HX.out.hs.1.dom gs (by rw [wgs]; simp)).2
        omega
      have k0 := HK.out.1.cell HD0.out (by simpa using nb)
      have k1 := HK.out.1.cell HD1.out (by simpa using nr)
      have k2 : w3.cell? ⟨tg, k, none⟩ = some (.int .i64 (swp s)[k]) := by
        refine HK.out.1.cell ?_ (by simpa using ngt)
        rw [HO2.out.cellAt _ (by omega)]; simp [ints, hkt]
      have fz : w3.frozen? ⟨gs, k, none⟩ = false := by simp [World.frozen?, HK.out.2]
      have hcu : ∃ u, w3.cell? ⟨gs, k, none⟩ = some u := by
        have hl := lentRow_len (mixI s (swp s) k)
        rw [mixI_len HTL.out k hk] at hl
        exact ⟨_, by simp only [World.cell?, HK.out.2]; exact Array.getElem?_eq_getElem (by omega)⟩
      obtain ⟨u0, ku⟩ := hcu
      have HNX : Hid (Chg w2 (w3.setCell ⟨gs, k, none⟩ (.int .i64 (swp s)[k])) (fun g' => g' = gs) ∧ (w3.setCell ⟨gs, k, none⟩ (.int .i64 (swp s)[k])).heap[gs]? = some (.cells (lentRow (mixI s (swp s) (k + 1))) 3 (0, 0))) :=
        ⟨HK.out.1.set rfl, by rw [heap_setCell_same w3 gs k _ _ _ HK.out.2, mixI_next HTL.out k hlt]⟩
      generalize hx : (swp s)[k] = x at *
      clear hx HK
      go_upto_region 26 with fail
      refine wp_region_head (fun u => u.cell? ⟨b, 0, none⟩ = some (.slice (some ⟨r0, 0, none⟩) 1 rc) ∧ u.cell? ⟨r0, 0, none⟩ = some (.slice (some ⟨gs, 0, none⟩) (s.length + 2) (s.length + 2)) ∧ u.cell? ⟨tg, k, none⟩ = some (.int .i64 x)) 12 (by kernel_rfl) (by kernel_rfl) ⟨k0, k1, k2⟩ ?_
      intro hHeld
      refine wpHead_take (i := 0) (v := ?vva0) rfl (by kernel_rfl) (fun c _ _ h => HQP.out c _ _ _ _ h) (Or.inl ⟨by rfl, ?hya0⟩) hHeld ?resta0
      case hya0 => (rintro u ⟨hu0, hu1, hu2⟩; go_simp; try with_reducible rfl)
      simp only [Act.put, List.setIfInBounds_toArray]
      refine wpHead_take (i := 1) (v := ?vva1) rfl (by kernel_rfl) (fun c _ _ h => HQP.out c _ _ _ _ h) (Or.inl ⟨by rfl, ?hya1⟩) hHeld ?resta1
      case hya1 => (rintro u ⟨hu0, hu1, hu2⟩; go_simp; try with_reducible rfl)
      simp only [Act.put]
      refine wpHead_take (i := 2) (v := ?vva2) rfl (by kernel_rfl) (fun c _ _ h => HQP.out c _ _ _ _ h) (Or.inl ⟨by rfl, ?hya2⟩) hHeld ?resta2
      case hya2 => (rintro u ⟨hu0, hu1, hu2⟩; go_simp; try with_reducible rfl)
      simp only [Act.put]
      refine wpHead_take (i := 3) (v := ?vva3) rfl (by kernel_rfl) (fun c _ _ h => HQP.out c _ _ _ _ h) (Or.inl ⟨by rfl, ?hya3⟩) hHeld ?resta3
      case hya3 => (rintro u ⟨hu0, hu1, hu2⟩; go_simp; try with_reducible rfl)
      simp only [Act.put]
      refine wpHead_take (i := 4) (v := ?vva4) rfl (by kernel_rfl) (fun c _ _ h => HQP.out c _ _ _ _ h) (Or.inl ⟨by rfl, ?hya4⟩) hHeld ?resta4
      case hya4 => (rintro u ⟨hu0, hu1, hu2⟩; go_simp; try with_reducible rfl)
      simp only [Act.put]
      refine wpHead_take (i := 5) (v := ?vva5) rfl (by kernel_rfl) (fun c _ _ h => HQP.out c _ _ _ _ h) (Or.inl ⟨by rfl, ?hya5⟩) hHeld ?resta5
      case hya5 => (rintro u ⟨hu0, hu1, hu2⟩; go_simp; try with_reducible rfl)
      simp only [Act.put]
      refine wpHead_take (i := 6) (v := ?vva6) rfl (by kernel_rfl) (fun c _ _ h => HQP.out c _ _ _ _ h) (Or.inl ⟨by rfl, ?hya6⟩) hHeld ?resta6
      case hya6 => (rintro u ⟨hu0, hu1, hu2⟩; go_simp; try with_reducible rfl)
      simp only [Act.put]
      refine wpHead_take (i := 7) (v := ?vva7) rfl (by kernel_rfl) (fun c _ _ h => HQP.out c _ _ _ _ h) (Or.inl ⟨by rfl, ?hya7⟩) hHeld ?resta7
      case hya7 => (rintro u ⟨hu0, hu1, hu2⟩; go_simp; try with_reducible rfl)
      simp only [Act.put]
      refine wpHead_take (i := 8) (v := ?vva8) rfl (by kernel_rfl) (fun c _ _ h => HQP.out c _ _ _ _ h) (Or.inl ⟨by rfl, ?hya8⟩) hHeld ?resta8
      case hya8 => (rintro u ⟨hu0, hu1, hu2⟩; go_simp; try with_reducible rfl)
      simp only [Act.put]
      refine wpHead_take (i := 9) (v := ?vva9) rfl (by kernel_rfl) (fun c _ _ h => HQP.out c _ _ _ _ h) (Or.inl ⟨by rfl, ?hya9⟩) hHeld ?resta9
      case hya9 => (rintro u ⟨hu0, hu1, hu2⟩; go_simp; try with_reducible rfl)
      simp only [Act.put]
      refine wpHead_take (i := 10) (v := ?vva10) rfl (by kernel_rfl) (fun c _ _ h => HQP.out c _ _ _ _ h) (Or.inl ⟨by rfl, ?hya10⟩) hHeld ?resta10
      case hya10 => (rintro u ⟨hu0, hu1, hu2⟩; go_simp; try with_reducible rfl)
      simp only [Act.put]
      refine wpHead_take (i := 11) (v := ?vva11) rfl (by kernel_rfl) (fun c _ _ h => HQP.out c _ _ _ _ h) (Or.inl ⟨by rfl, ?hya11⟩) hHeld ?resta11
      case hya11 => (rintro u ⟨hu0, hu1, hu2⟩; go_simp; try with_reducible rfl)
      simp only [Act.put]
      refine wpHead_last rfl (by kernel_rfl) (by kernel_rfl) (by rfl) ?_
      go_simp
      clear hHeld
      go_wp2_with fail
      go_roundw
      case rel => exact ⟨k + 1, by omega, by go_num, ⟨⟨HNX.out.1.os, HNX.out.1.tape, HNX.out.1.output, HNX.out.1.size, HNX.out.1.blk⟩, HNX.out.2⟩⟩
      case measure => simp [intOf]; omega
    · have t1 : (s.length : Int) ≤ (k : Int) := by omega
      have hb3 := HK.out.2
      rw [mixI_end HTL.out k (by omega)] at hb3
      have hxr := HX2.out.lr.r 1 (by omega)
      have hxl : (EL [(gs, s, .slice so s.length sc)] LC [(g, p.length)] 1).length = 1 := rfl
      obtain ⟨g1, rc1, hf1, d1⟩ := row_cell hxr (i := 0) (by rw [hxl]; omega)
      rw [hxl] at hf1
      have wg1 : who g1 = .lrow 1 := HX2.out.lr.wr 1 (by omega) g1 (by rw [hf1]; rfl)
      have ng1 : g1 ≠ gs := fun e => by rw [e, wgs] at wg1; cases wg1
      have e0 : w3.cell? ⟨b, 1, none⟩ = some (.slice (some ⟨g1, 0, none⟩) 1 rc1) := HK.out.1.cell (by rw [← hf1]; exact HX2.out.cell (by omega)) (by simpa using nb)
      obtain ⟨u1, e1⟩ : ∃ u, w3.cell? ⟨g1, 0, none⟩ = some u := ⟨_, HK.out.1.cell d1 (by simpa using ng1)⟩
      have fz : w3.frozen? ⟨g1, 0, none⟩ = false := by
        have hlt := (HX2.out.hs.1.dom g1 (by rw [wg1]; simp)).2
        have := free_at (i := 0) (by rw [hf1] at hxr; rw [hxl] at hxr; exact hxr)
        simp only [World.frozen?, HK.out.1.blk g1 hlt (by simpa using ng1)] at this ⊢
        exact this
      have hto : ∀ q, (Value.slice ta2 s.length tc2).ownBlock = some q → w.heap.size ≤ q := fun q e => owns_block HO2.out q e
      have hoo : w3.ownsRow w.heap.size 3 1 (.slice ta2 s.length tc2) s.length (ints (swp s)) := owns_same HO2.out (fun q e => by
        refine HK.out.1.blk q (owns_ltH HO2.out q e) (fun e2 => ?_)
        have h1 := hto q e
        have h2 := (HX.out.hs.1.dom gs (by rw [wgs]; simp)).2
        omega)
      rw [← HTL.out] at hoo
      have hvo : valOther who (.slice ta2 (swp s).length tc2) := fun q o l c e hl => by
        simp only [Value.slice.injEq] at e
        obtain ⟨e1, e2, _⟩ := e
        have h1 : w.heap.size ≤ q := by
          rcases hoo.2 with ⟨e3, _⟩ | ⟨g', cap', cur, hv, hb', _⟩
          · simp only [Value.slice.injEq] at e3
            rw [e3.1] at e1; cases e1
          · simp only [Value.slice.injEq] at hv
            rw [hv.1] at e1
            simp only [Option.some.injEq, Addr.mk.injEq, and_true] at e1
            omega
        by_cases ho : who q = .other
        · exact ho
        · exact absurd (HX.out.hs.1.dom q ho).2 (by omega)
      obtain ⟨hx4, hf4⟩ := HX2.out.reints HK.out.1 hf1 hb3 HTL.out (owns_ints hoo) hvo
      obtain ⟨w4, hw4⟩ : ∃ w4, w4 = w3.setCell ⟨g1, 0, none⟩ (.slice ta2 s.length tc2) := ⟨_, rfl⟩
      have hw4' : w3.setCell ⟨g1, 0, none⟩ (.slice ta2 (swp s).length tc2) = w4 := by rw [hw4, HTL.out]
      rw [hw4'] at hx4 hf4
      have HW4 : Hid (W.grownBy w4 none) := hf4.base HW2.out hWB (fun g e => (HX2.out.hs.1.dom g e).1) (fun _ e => e.elim)
      obtain ⟨hq4, c12, c9⟩ := HB.out w4 (Nat.le_trans HG2.out.size hf4.size) (fun g' h1 h2 h3 => by
        rw [hw4, Below.heap_setCell _ _ _ _ (by simp only; exact fun e => h3 1 (by rw [e]; exact wg1)), HK.out.1.blk g' (Nat.lt_of_lt_of_le h1 HG2.out.size) h2]
        exact HG2.out.block g' h1 (by simp))
      have hgb : w4.heap[g]? = some (.cells (lentRows LC) 75 (0, 0)) := by
        have := (hx4.le.lr 0 (by simp)).1
        simp only [List.getElem_cons_zero, List.take_zero, List.map_nil, List.sum_nil, List.drop_zero] at this
        rw [List.take_of_length_le (by rw [← HP.out]; simp)] at this
        exact this
      have hPx : ProgAt w4 (.agg #[.slice (some ⟨g, 0, none⟩) p.length (p.length + 2)]) p := lent_prog (LC0 := []) (by simpa using hx4.le) hgb HP.out _
      have hli := hx4.le.li (gs, swp s, .slice ta2 (swp s).length tc2) (by simp)
      have hIx := lent_ints hli.1
      have hIt := hli.2.2.1
      have HAS := hide (HA.out p (swp s) _ _ _ _ w4 (HS.out.pres (pres_grown HW4.out)) hPx hIx (fun _ _ e => by simp at e) hq4 hIt (owns_nilA hoo) hpl HPC.out)
      simp only [HTL.out] at HAS
      have HX4 := hide hx4
      have hpt : pt b = .pointer (some ⟨b, 0, none⟩) := rfl
      clear hx4 hf4 hq4 hgb hPx hli hIx hIt hoo hvo hto d1 hxr hxl hb3 HK
      go_upto_region 28 with fail
      rw [← hw4]
      clear hw4 hw4' e0 e1 fz
      go_wp2_with fail
      refine HAS.out.mono ?_
      clear HAS
      rintro e w5 ⟨rfl, hg5⟩
      have HW5 : Hid (W.grownBy w5 none) := grown_trans HW4.out hg5
      have HX5 := hide (HX4.out.grown hg5)
      have HBK := hide (back_g B w5 b who n f K _ _ _ HX5.out (by simp) (by have := congrArg List.length HP.out; simp at this; omega) (by simp))
      clear hg5 c12 c9
      rw [hpt] at HBK
      go_wp2_with fail
      refine HBK.out.mono ?_
      clear HBK
      rintro e w6 ⟨rfl, f6, hz6, hf6⟩
      have HZ6 := hide hz6
      have HW6 : Hid (W.grownBy w6 none) := hf6.base HW5.out hWB (fun g e => (HX5.out.hs.1.dom g e).1) (fun _ e => e.elim)
      clear hz6 hf6
      go_wp2_with fail
      exact HQ.out f6 _ HZ6.out HW6.out

end Go.Proofs.YtklenjmfalljgaaGreatDoor

/- Programs that are lent, written over, one by one. -/
namespace Go.Proofs.YtklenjmfalljgaaGreatDoor
open Go.RowKit

def modC : List Ins → List Ins
  | [] => []
  | _ :: r => ⟨11, 1, 0, 0⟩ :: r
theorem modC_len (c : List Ins) : (modC c).length = c.length := by cases c <;> rfl
theorem modC_nil {c : List Ins} (h : ¬ 0 < c.length) : modC c = c := by
  match c, h with
  | [], _ => rfl
  | x :: r, h => simp at h
theorem modC_set {c : List Ins} (h : 0 < c.length) : ((((codeL c).set 0 (.int .i64 11)).set 1 (.int .i64 1)).set 2 (.int .i64 0)).set 3 (.int .i64 0) = codeL (modC c) := by
  match c, h with
  | x :: r, _ => rfl
def mixC (c d : List Ins) (k : Nat) : List Ins := d.take k ++ c.drop k
theorem mixC_len {c d : List Ins} (h : d.length = c.length) (k : Nat) (hk : k ≤ c.length) : (mixC c d k).length = c.length := by simp [mixC]; omega
theorem mixC_zero (c d : List Ins) : mixC c d 0 = c := by simp [mixC]
theorem mixC_end {c d : List Ins} (h : d.length = c.length) (k : Nat) (hk : c.length ≤ k) : mixC c d k = d := by
  unfold mixC; rw [List.take_of_length_le (by omega), List.drop_of_length_le hk, List.append_nil]
theorem set4_at (A : List Value) (i j : Ins) (R : List Value) (k : Nat) (hk : A.length = k) : (((((A ++ (insL i ++ R)).set k (.int .i64 j.op)).set (k + 1) (.int .i64 j.a)).set (k + 2) (.int .i64 j.b)).set (k + 3) (.int .i64 j.n)) = A ++ (insL j ++ R) := by
  subst hk
  simp [insL]
theorem mixC_next {c d : List Ins} (h : d.length = c.length) (k : Nat) (hk : k < c.length) :
    ((((lentCode (mixC c d k)).setIfInBounds (k * 4) (.int .i64 (d[k]'(by omega)).op)).setIfInBounds (k * 4 + 1) (.int .i64 (d[k]'(by omega)).a)).setIfInBounds (k * 4 + 2) (.int .i64 (d[k]'(by omega)).b)).setIfInBounds (k * 4 + 3) (.int .i64 (d[k]'(by omega)).n) = lentCode (mixC c d (k + 1)) := by
  have e1 : lentCode (mixC c d k) = (codeL (d.take k) ++ (insL c[k] ++ (codeL (c.drop (k + 1)) ++ (insInk ++ insInk)))).toArray := by
    unfold lentCode mixC
    rw [List.drop_eq_getElem_cons hk]
    simp only [codeL, List.flatMap_append, List.flatMap_cons, List.append_assoc]
  have e2 : lentCode (mixC c d (k + 1)) = (codeL (d.take k) ++ (insL (d[k]'(by omega)) ++ (codeL (c.drop (k + 1)) ++ (insInk ++ insInk)))).toArray := by
    unfold lentCode mixC
    rw [List.take_succ_eq_append_getElem (by omega : k < d.length)]
    simp only [codeL, List.flatMap_append, List.flatMap_cons, List.flatMap_nil, List.append_nil, List.append_assoc]
  rw [e1, e2]
  simp only [List.setIfInBounds_toArray]
  rw [set4_at _ _ _ _ _ (by rw [codeL_len]; simp; omega)]

section
variable {B : Nat} {w w' : World} {b : Nat} {who : Nat → Role} {n : Int} {f : Nat → Value} {K : Nat → List (Value × Int)} {E : Nat → List Value} {LI : List (Nat × List Int × Value)} {LC : List (Nat × List Ins × Value)} {LR : List (Nat × Nat)} {tail : Nat}

/-- A row that is lent, but in no list, grows, into a new block maybe. -/
theorem Lx.outNew (h : Lx B w b who n f K E LI LC LR tail) {r : Option Nat} (hg : w.grownBy w' r) (hr : ∀ g, r = some g → who g = .lent ∧ g ∉ LI.map (·.1) ++ (LC.map (·.1) ++ LR.map (·.1))) {g8 : Nat} (h8 : r = some g8 ∨ (w.heap.size ≤ g8 ∧ g8 < w'.heap.size)) :
    Lx B w' b (setW who g8 .lent) n f K E LI LC LR tail ∧ Fr w w' who (setW who g8 .lent) (fun _ => False) := by
  have hne : ∀ g', g' < w.heap.size → r ≠ some g' → w'.heap[g']? = w.heap[g']? := fun g' h1 e => hg.block g' h1 (fun e2 => e e2.symm)
  have hrl : ∀ g', r = some g' → who g' = .lent := fun g' e => (hr g' e).1
  have hw8 : ∀ g', who g' ≠ .other → setW who g8 .lent g' = who g' := fun g' e => by
    by_cases e8 : g' = g8
    · subst e8
      rcases h8 with h8 | h8
      · rw [setW_at, hrl _ h8]
      · exact absurd (h.hs.1.dom g' e).2 (by omega)
    · exact setW_ne _ _ e8
  have hs1 : Hs B w' b who n f K (marksOf K) := h.hs.1.same hg.size (fun g' h1 _ h3 => hne g' h1 (fun e => by rw [hrl g' e] at h3; cases h3))
  have hlow := h.low
  have hs2 : Hs B w' b (setW who g8 .lent) n f K (marksOf K) := hs1.more hw8 (fun g' e => by
    by_cases e8 : g' = g8
    · subst e8
      rcases h8 with h8 | h8
      · exact hs1.dom g' (by rw [hrl _ h8]; simp)
      · exact ⟨by omega, h8.2⟩
    · rw [setW_ne _ _ e8] at e; exact hs1.dom g' e)
  have hlr : Lr B w' who f E := h.lr.same (fun g' k e => hne g' (h.hs.1.dom g' (by rw [e]; simp)).2 (fun e2 => by rw [hrl g' e2] at e; cases e))
  have hfr : Fr w w' who (setW who g8 .lent) (fun _ => False) := ⟨hg.os, hg.tape, hg.output, hg.size, fun g' h1 h2 _ => ⟨hne g' h1 (fun e => by rw [hrl g' e] at h2; cases h2), by
    by_cases e8 : g' = g8
    · subst e8
      rcases h8 with h8 | h8
      · rw [hrl _ h8] at h2; cases h2
      · omega
    · rw [setW_ne _ _ e8]; exact h2⟩⟩
  refine ⟨⟨⟨hs2, fun c hc x hx g e => ?_⟩, hlr.more hw8, h.le.keepIn hfr (fun g' e => ⟨hne g' (h.le.lt g' e).1 (fun e2 => (hr g' e2).2 e), ?_⟩)⟩, hfr⟩
  · have := h.hs.2 c hc x hx g e
    rw [hw8 g (by rw [this]; simp)]; exact this
  · rw [hw8 g' (by rw [(h.le.lt g' e).2]; simp)]; exact (h.le.lt g' e).2
end

/-- In the midst: i programs are written over. -/
structure AgI (B : Nat) (w5 : World) (who5 : Nat → Role) (w' : World) (b : Nat) (who' : Nat → Role) (n : Int) (f : Nat → Value) (K : Nat → List (Value × Int)) (LI : List (Nat × List Int × Value)) (LC : List (Nat × List Ins × Value)) (LR : List (Nat × Nat)) (n12 : Nat) (qv : Value) (p : List (List Ins)) (i : Nat) : Prop where
  lx : Lx B w' b who' n f K (EL LI LC LR) LI LC LR 0
  fr : Fr w5 w' who5 who' (fun _ => False)
  cod : LC.map (·.2.1) = (p.take i).map modC ++ p.drop i
  box : w'.heap[n12]? = some (.cells #[qv] 24 (0, 0))
  wbx : who' n12 = .lent
  nbx : n12 ∉ LI.map (·.1) ++ (LC.map (·.1) ++ LR.map (·.1))
  row : w'.ownsRow w5.heap.size 75 1 qv i ((LC.take i).map (·.2.2))
  wrw : ∀ g, qv.ownBlock = some g → who' g = .lent ∧ g ∉ LI.map (·.1) ++ (LC.map (·.1) ++ LR.map (·.1)) ∧ g ≠ n12
theorem AgI.len {B : Nat} {w5 : World} {who5 : Nat → Role} {w' : World} {b : Nat} {who' : Nat → Role} {n : Int} {f : Nat → Value} {K : Nat → List (Value × Int)} {LI : List (Nat × List Int × Value)} {LC : List (Nat × List Ins × Value)} {LR : List (Nat × Nat)} {n12 : Nat} {qv : Value} {p : List (List Ins)} {i : Nat}
    (h : AgI B w5 who5 w' b who' n f K LI LC LR n12 qv p i) (hi : i ≤ p.length) : LC.length = p.length := by
  have := congrArg List.length h.cod
  simp at this
  omega
theorem AgI.at_ {B : Nat} {w5 : World} {who5 : Nat → Role} {w' : World} {b : Nat} {who' : Nat → Role} {n : Int} {f : Nat → Value} {K : Nat → List (Value × Int)} {LI : List (Nat × List Int × Value)} {LC : List (Nat × List Ins × Value)} {LR : List (Nat × Nat)} {n12 : Nat} {qv : Value} {p : List (List Ins)} {i : Nat}
    (h : AgI B w5 who5 w' b who' n f K LI LC LR n12 qv p i) (hi : i < p.length) (hl : i < LC.length) : LC[i].2.1 = p[i] := by
  have h1 : (LC.map (·.2.1))[i]? = some p[i] := by
    rw [h.cod, List.getElem?_append_right (by simp; omega)]
    have : i - ((p.take i).map modC).length = 0 := by simp; omega
    rw [this, List.drop_eq_getElem_cons hi]
    rfl
  simpa [hl] using h1
theorem cod_next {LC : List (Nat × List Ins × Value)} {p : List (List Ins)} {i : Nat} {g : Nat} {v : Value} (h : LC.map (·.2.1) = (p.take i).map modC ++ p.drop i) (hi : i < p.length) : (LC.set i (g, modC p[i], v)).map (·.2.1) = (p.take (i + 1)).map modC ++ p.drop (i + 1) := by
  rw [List.map_set, h, List.take_succ_eq_append_getElem hi, List.drop_eq_getElem_cons hi, List.set_append, if_neg (by simp; omega)]
  have : i - ((p.take i).map modC).length = 0 := by simp; omega
  rw [this]
  simp only [List.set_cons_zero, List.map_append, List.map_cons, List.map_nil, List.append_assoc, List.cons_append, List.nil_append]
theorem row_nextA {LC : List (Nat × List Ins × Value)} {i : Nat} {y : Nat × List Ins × Value} (hi : i < LC.length) : ((LC.set i y).take (i + 1)).map (·.2.2) = (LC.take i).map (·.2.2) ++ [y.2.2] := by
  rw [List.take_succ_eq_append_getElem (by simpa using hi), List.getElem_set_self, List.take_set_of_le (Nat.le_refl _)]
  simp

end Go.Proofs.YtklenjmfalljgaaGreatDoor
