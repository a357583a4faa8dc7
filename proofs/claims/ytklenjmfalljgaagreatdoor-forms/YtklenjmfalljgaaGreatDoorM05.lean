/- The texts Hgc Hge Hgf Hgg. -/
import Derived.Test.YtklenjmfalljgaaGreatDoorM04

/- A list that came out is kept: the list is told, the mark is told, the list grows; the beginning and the end. -/
namespace Go.Proofs.YtklenjmfalljgaaGreatDoor
open Go.RowKit

section
variable {B : Nat} {w w6 : World} {b : Nat} {who : Nat → Role} {n m : Int} {f : Nat → Value} {K : Nat → List (Value × Int)} {M : Nat → List Int} {c : Nat} {lv : Value} {len : Nat}

/-- h.lists = append(h.lists, l). -/
theorem Hs.push (h : Hs B w b who n f K M) (cu : Cur B w who m c lv len K) (hc : c < 4) {o : Obj} {g6 c6 : Nat}
    (hown : w6.ownsRow B (tlC c) 1 (.slice (some ⟨g6, 0, none⟩) ((K c).length + 1) c6) ((K c).length + 1) ((K c).map (·.1) ++ [lv]))
    (key : ((f (6 + 2 * c)).ownBlock = some g6 ∧ (w.alloc o).grownBy w6 (some g6)) ∨ (g6 = w.heap.size + 1 ∧ (w.alloc o).grownBy w6 none)) :
    Hs B (w6.setCell ⟨b, 6 + 2 * c, none⟩ (.slice (some ⟨g6, 0, none⟩) ((K c).length + 1) c6)) b (setW who g6 (.lst c)) n (setF f (6 + 2 * c) (.slice (some ⟨g6, 0, none⟩) ((K c).length + 1) c6)) (setK K c (K c ++ [(lv, m)])) M ∧
    Cur B (w6.setCell ⟨b, 6 + 2 * c, none⟩ (.slice (some ⟨g6, 0, none⟩) ((K c).length + 1) c6)) (setW who g6 (.lst c)) m c lv len (setK K c (K c ++ [(lv, m)])) := by
  have hc5 : c < 5 := by omega
  obtain ⟨hsz, hst, hsr, h6r⟩ := key_stays key (fun g e => (h.dom g e).2) (r := .lst c) (by simp) (h.wl c hc5)
  have hb6 : g6 ≠ b := (hst b (by rw [h.wb]; simp) (by rw [h.wb]; simp)).2
  have hblk : HB w6 b f := h.blk.same (hst b (by rw [h.wb]; simp) (by rw [h.wb]; simp)).1
  generalize hV : Value.slice (some ⟨g6, 0, none⟩) ((K c).length + 1) c6 = V at *
  have hVo : V.ownBlock = some g6 := by rw [← hV]; rfl
  have hnew : ∀ g, who g ≠ .other → who g ≠ .lst c → g ≠ b → (w6.setCell ⟨b, 6 + 2 * c, none⟩ V).heap[g]? = w.heap[g]? := fun g h1 h2 h3 => by
    rw [Below.heap_setCell _ _ _ _ (by simpa using h3)]; exact (hst g h1 h2).1
  have hW : ∀ g, who g ≠ .other → who g ≠ .lst c → setW who g6 (.lst c) g = who g := fun g h1 h2 => setW_ne _ _ (fun e => (hst g h1 h2).2 e.symm)
  have hkc : ∀ g, who g = .kept ∨ who g = .cur → (w6.setCell ⟨b, 6 + 2 * c, none⟩ V).heap[g]? = w.heap[g]? := fun g e => hnew g (by rcases e with e | e <;> rw [e] <;> simp) (by rcases e with e | e <;> rw [e] <;> simp) (fun e2 => by subst e2; rw [h.wb] at e; rcases e with e | e <;> cases e)
  have hWk : ∀ g, who g = .kept → setW who g6 (.lst c) g = .kept := fun g e => by rw [hW g (by rw [e]; simp) (by rw [e]; simp)]; exact e
  have hWc : ∀ g, who g = .cur → setW who g6 (.lst c) g = .cur := fun g e => by rw [hW g (by rw [e]; simp) (by rw [e]; simp)]; exact e
  have hWkc : ∀ g, who g = .kept ∨ who g = .cur → setW who g6 (.lst c) g = .kept ∨ setW who g6 (.lst c) g = .cur := fun g e => e.imp (hWk g) (hWc g)
  have hcurback : ∀ g, setW who g6 (.lst c) g = .cur → who g = .cur := fun g e => by
    by_cases e2 : g = g6
    · subst e2; rw [setW_at] at e; cases e
    · rwa [setW_ne _ _ e2] at e
  have hold : ∀ c' x, c' < 5 → x ∈ K c' → KeptC c' (w6.setCell ⟨b, 6 + 2 * c, none⟩ V) (setW who g6 (.lst c)) x ∧ ∀ g, x.1.ownBlock = some g → setW who g6 (.lst c) g = .kept ∨ setW who g6 (.lst c) g = .cur := fun c' x hc' hx => by
    obtain ⟨k1, k2⟩ := h.kept c' hc' x hx
    exact ⟨(k1.same k2 hkc).who hWk, fun g e => hWkc g (k2 g e)⟩
  have hrow : (w6.setCell ⟨b, 6 + 2 * c, none⟩ V).ownsRow B (teC c) (elC m c).length lv len (List.replicate len (elC m c)).flatten := owns_same cu.row (fun g e => hkc g (Or.inr (cu.wc g e)))
  have hcu : Cur B (w6.setCell ⟨b, 6 + 2 * c, none⟩ V) (setW who g6 (.lst c)) m c lv len (setK K c (K c ++ [(lv, m)])) := by
    refine ⟨hrow, fun g e => hWc g (cu.wc g e), fun x hx g e e2 => ?_, fun c' hc' hne x hx g e => ?_, cu.ln⟩
    · rw [setK_at] at hx
      rcases List.mem_append.1 hx with hx | hx
      · exact cu.ent x hx g e (hcurback g e2)
      · simp at hx
        subst hx
        refine ⟨rfl, ?_⟩
        rcases cu.row.2 with ⟨e3, _⟩ | ⟨g', cap, cur, hv, _⟩
        · simp only at e; rw [e3] at e; cases e
        · simp only at e
          rw [hv] at e
          simp only [Value.ownBlock, Option.some.injEq] at e
          exact ⟨len, cap, by rw [hv, e], fun _ => Nat.le_refl _⟩
    · rw [setK_ne _ _ hne] at hx
      exact hWk g (cu.oth c' hc' hne x hx g e)
  refine ⟨⟨hblk.set (by omega) V, by rw [setF_ne _ _ (by omega)]; exact h.cnt, fun c' hc' => ?_, fun c' hc' => ?_, fun c' hc' g e => ?_, fun c' hc' g e => ?_, ?_, fun c' hc' x hx => ?_, fun g e => ?_⟩, hcu⟩
  · by_cases e : c' = c
    · subst e
      rw [setF_at, setK_at]
      have := ownsRow_setCell_other (a := ⟨b, 6 + 2 * c', none⟩) hown (show V.ownBlock ≠ some b by rw [hVo]; simpa using hb6) V
      simpa using this
    · rw [setF_ne _ _ (by omega), setK_ne _ _ e]
      exact owns_same (h.lst c' hc') (fun g e2 => hnew g (by rw [h.wl c' hc' g e2]; simp) (by rw [h.wl c' hc' g e2]; simpa using e) (fun e3 => by subst e3; have := h.wl c' hc' g e2; rw [h.wb] at this; cases this))
  · rw [setF_ne _ _ (by omega)]
    exact owns_same (h.mrk c' hc') (fun g e2 => hnew g (by rw [h.wm c' hc' g e2]; simp) (by rw [h.wm c' hc' g e2]; simp) (fun e3 => by subst e3; have := h.wm c' hc' g e2; rw [h.wb] at this; cases this))
  · by_cases e2 : c' = c
    · subst e2
      rw [setF_at, hVo] at e
      simp only [Option.some.injEq] at e
      subst e
      exact setW_at _ _ _
    · rw [setF_ne _ _ (by omega)] at e
      have := h.wl c' hc' g e
      rw [hW g (by rw [this]; simp) (by rw [this]; simpa using e2), this]
  · rw [setF_ne _ _ (by omega)] at e
    have := h.wm c' hc' g e
    rw [hW g (by rw [this]; simp) (by rw [this]; simp), this]
  · rw [hW b (by rw [h.wb]; simp) (by rw [h.wb]; simp), h.wb]
  · by_cases e2 : c' = c
    · subst e2
      rw [setK_at] at hx
      rcases List.mem_append.1 hx with hx | hx
      · exact hold c' x hc' hx
      · simp at hx
        subst hx
        exact ⟨hcu.keptNow hc, fun g e => Or.inr (hWc g (cu.wc g e))⟩
    · rw [setK_ne _ _ e2] at hx
      exact hold c' x hc' hx
  · by_cases e2 : g = g6
    · subst e2
      have h1 := owns_block hown g hVo
      have h2 := owns_ltH hown g hVo
      exact ⟨h1, by simpa using h2⟩
    · rw [setW_ne _ _ e2] at e
      have := h.dom g e
      exact ⟨this.1, by simp; omega⟩

/-- h.marks = append(h.marks, m). -/
theorem Hs.tell (h : Hs B w b who n f K M) (cu : Cur B w who m c lv len K) (hc : c < 4) {o : Obj} {g6 c6 : Nat}
    (hown : w6.ownsRow B 3 1 (.slice (some ⟨g6, 0, none⟩) ((M c).length + 1) c6) ((M c).length + 1) (ints (M c) ++ [.int .i64 m]))
    (key : ((f (7 + 2 * c)).ownBlock = some g6 ∧ (w.alloc o).grownBy w6 (some g6)) ∨ (g6 = w.heap.size + 1 ∧ (w.alloc o).grownBy w6 none)) :
    Hs B (w6.setCell ⟨b, 7 + 2 * c, none⟩ (.slice (some ⟨g6, 0, none⟩) ((M c).length + 1) c6)) b (setW who g6 (.mrk c)) n (setF f (7 + 2 * c) (.slice (some ⟨g6, 0, none⟩) ((M c).length + 1) c6)) K (setM M c (M c ++ [m])) ∧
    Cur B (w6.setCell ⟨b, 7 + 2 * c, none⟩ (.slice (some ⟨g6, 0, none⟩) ((M c).length + 1) c6)) (setW who g6 (.mrk c)) m c lv len K := by
  have hc5 : c < 5 := by omega
  obtain ⟨hsz, hst, hsr, h6r⟩ := key_stays key (fun g e => (h.dom g e).2) (r := .mrk c) (by simp) (h.wm c hc5)
  have hb6 : g6 ≠ b := (hst b (by rw [h.wb]; simp) (by rw [h.wb]; simp)).2
  have hblk : HB w6 b f := h.blk.same (hst b (by rw [h.wb]; simp) (by rw [h.wb]; simp)).1
  generalize hV : Value.slice (some ⟨g6, 0, none⟩) ((M c).length + 1) c6 = V at *
  have hVo : V.ownBlock = some g6 := by rw [← hV]; rfl
  have hnew : ∀ g, who g ≠ .other → who g ≠ .mrk c → g ≠ b → (w6.setCell ⟨b, 7 + 2 * c, none⟩ V).heap[g]? = w.heap[g]? := fun g h1 h2 h3 => by
    rw [Below.heap_setCell _ _ _ _ (by simpa using h3)]; exact (hst g h1 h2).1
  have hW : ∀ g, who g ≠ .other → who g ≠ .mrk c → setW who g6 (.mrk c) g = who g := fun g h1 h2 => setW_ne _ _ (fun e => (hst g h1 h2).2 e.symm)
  have hkc : ∀ g, who g = .kept ∨ who g = .cur → (w6.setCell ⟨b, 7 + 2 * c, none⟩ V).heap[g]? = w.heap[g]? := fun g e => hnew g (by rcases e with e | e <;> rw [e] <;> simp) (by rcases e with e | e <;> rw [e] <;> simp) (fun e2 => by subst e2; rw [h.wb] at e; rcases e with e | e <;> cases e)
  have hWk : ∀ g, who g = .kept → setW who g6 (.mrk c) g = .kept := fun g e => by rw [hW g (by rw [e]; simp) (by rw [e]; simp)]; exact e
  have hWc : ∀ g, who g = .cur → setW who g6 (.mrk c) g = .cur := fun g e => by rw [hW g (by rw [e]; simp) (by rw [e]; simp)]; exact e
  have hcurback : ∀ g, setW who g6 (.mrk c) g = .cur → who g = .cur := fun g e => by
    by_cases e2 : g = g6
    · subst e2; rw [setW_at] at e; cases e
    · rwa [setW_ne _ _ e2] at e
  refine ⟨⟨hblk.set (by omega) V, by rw [setF_ne _ _ (by omega)]; exact h.cnt, fun c' hc' => ?_, fun c' hc' => ?_, fun c' hc' g e => ?_, fun c' hc' g e => ?_, ?_, fun c' hc' x hx => ?_, fun g e => ?_⟩,
    ⟨owns_same cu.row (fun g e => hkc g (Or.inr (cu.wc g e))), fun g e => hWc g (cu.wc g e), fun x hx g e e2 => cu.ent x hx g e (hcurback g e2), fun c' hc' hne x hx g e => hWk g (cu.oth c' hc' hne x hx g e), cu.ln⟩⟩
  · rw [setF_ne _ _ (by omega)]
    exact owns_same (h.lst c' hc') (fun g e2 => hnew g (by rw [h.wl c' hc' g e2]; simp) (by rw [h.wl c' hc' g e2]; simp) (fun e3 => by subst e3; have := h.wl c' hc' g e2; rw [h.wb] at this; cases this))
  · by_cases e : c' = c
    · subst e
      rw [setF_at, setM_at]
      have := ownsRow_setCell_other (a := ⟨b, 7 + 2 * c', none⟩) hown (show V.ownBlock ≠ some b by rw [hVo]; simpa using hb6) V
      simpa [ints] using this
    · rw [setF_ne _ _ (by omega), setM_ne _ _ e]
      exact owns_same (h.mrk c' hc') (fun g e2 => hnew g (by rw [h.wm c' hc' g e2]; simp) (by rw [h.wm c' hc' g e2]; simpa using e) (fun e3 => by subst e3; have := h.wm c' hc' g e2; rw [h.wb] at this; cases this))
  · rw [setF_ne _ _ (by omega)] at e
    have := h.wl c' hc' g e
    rw [hW g (by rw [this]; simp) (by rw [this]; simp), this]
  · by_cases e2 : c' = c
    · subst e2
      rw [setF_at, hVo] at e
      simp only [Option.some.injEq] at e
      subst e
      exact setW_at _ _ _
    · rw [setF_ne _ _ (by omega)] at e
      have := h.wm c' hc' g e
      rw [hW g (by rw [this]; simp) (by rw [this]; simpa using e2), this]
  · rw [hW b (by rw [h.wb]; simp) (by rw [h.wb]; simp), h.wb]
  · obtain ⟨k1, k2⟩ := h.kept c' hc' x hx
    exact ⟨(k1.same k2 hkc).who hWk, fun g e => (k2 g e).imp (hWk g) (hWc g)⟩
  · by_cases e2 : g = g6
    · subst e2
      have h1 := owns_block hown g hVo
      have h2 := owns_ltH hown g hVo
      exact ⟨h1, by simpa using h2⟩
    · rw [setW_ne _ _ e2] at e
      have := h.dom g e
      exact ⟨this.1, by simp; omega⟩

/-- l = append(l, e). -/
theorem Hs.grow (h : Hs B w b who n f K M) (cu : Cur B w who m c lv len K) (hc : c < 4) (hlen : len + 1 ≤ 1000) {o : Obj} {g6 c6 : Nat}
    (hown : w6.ownsRow B (teC c) (elC m c).length (.slice (some ⟨g6, 0, none⟩) (len + 1) c6) (len + 1) ((List.replicate len (elC m c)).flatten ++ elC m c))
    (key : (lv.ownBlock = some g6 ∧ (w.alloc o).grownBy w6 (some g6)) ∨ (g6 = w.heap.size + 1 ∧ (w.alloc o).grownBy w6 none)) :
    Hs B w6 b (setW who g6 .cur) n f K M ∧ Cur B w6 (setW who g6 .cur) m c (.slice (some ⟨g6, 0, none⟩) (len + 1) c6) (len + 1) K := by
  obtain ⟨hsz, hst, hsr, h6r⟩ := key_stays key (fun g e => (h.dom g e).2) (r := .cur) (by simp) cu.wc
  have hW : ∀ g, who g ≠ .other → setW who g6 .cur g = who g := fun g h1 => by
    by_cases e : g = g6
    · subst e; rw [setW_at]; exact (h6r (h.dom g h1).2).symm
    · exact setW_ne _ _ e
  have hback : ∀ g, setW who g6 .cur g = .cur → g = g6 ∨ who g = .cur := fun g e => by
    by_cases e2 : g = g6
    · exact Or.inl e2
    · rw [setW_ne _ _ e2] at e; exact Or.inr e
  have hnew : ∀ g, who g ≠ .other → who g ≠ .cur → w6.heap[g]? = w.heap[g]? := fun g h1 h2 => (hst g h1 h2).1
  rw [flat_rep_snoc] at hown
  -- what stands in the old row's front stays
  have hfront : ∀ g, lv.ownBlock = some g → ∀ k, k < len * (elC m c).length → w6.cell? ⟨g, k, none⟩ = w.cell? ⟨g, k, none⟩ := fun g e k hk => by
    by_cases e2 : g6 = g
    · subst e2
      rcases cu.row.2 with ⟨e3, _⟩ | ⟨g', cap, cur, hv, _⟩
      · rw [e3] at e; cases e
      · have hr := cu.row
        rw [hv] at e
        simp only [Value.ownBlock, Option.some.injEq] at e
        subst e
        rw [hv] at hr
        have hk2 : k < (len + 1) * (elC m c).length := by rw [Nat.succ_mul]; omega
        rw [hown.cellAt k hk2, hr.cellAt k hk, ← flat_rep_snoc, List.getElem?_append_left (by rw [flat_rep_len]; exact hk)]
    · exact World.cell?_of_block (hsr g (cu.wc g e) e2)
  have hcurB : ∀ g, who g = .cur → lv.ownBlock ≠ some g → w6.heap[g]? = w.heap[g]? := fun g e e2 => by
    by_cases e3 : g6 = g
    · subst e3
      rcases key with ⟨k1, _⟩ | ⟨k1, _⟩
      · exact absurd k1 e2
      · have := (h.dom g6 (by rw [e]; simp)).2; omega
    · exact hsr g e e3
  have hold : ∀ c' x, c' < 5 → x ∈ K c' → KeptC c' w6 (setW who g6 .cur) x ∧ ∀ g, x.1.ownBlock = some g → setW who g6 .cur g = .kept ∨ setW who g6 .cur g = .cur := fun c' x hc' hx => by
    obtain ⟨k1, k2⟩ := h.kept c' hc' x hx
    refine ⟨?_, fun g e => ?_⟩
    · refine KeptC.who (who := who) ?_ (fun g e => by rw [hW g (by rw [e]; simp)]; exact e)
      rcases k1 with k1 | ⟨g, l, cap, e, hl, hin⟩
      · exact Or.inl k1
      · refine Or.inr ⟨g, l, cap, e, hl, ?_⟩
        have hown1 : x.1.ownBlock = some g := by rw [e]; rfl
        have hkk : ∀ g, who g = .kept → w6.heap[g]? = w.heap[g]? := fun g e => hnew g (by rw [e]; simp) (by rw [e]; simp)
        rcases k2 g hown1 with hkp | hcr
        · exact keptIn_same hin (hkk g hkp) hkk
        · by_cases hcc : c' = c
          · subst hcc
            by_cases hlv : lv.ownBlock = some g
            · obtain ⟨hm2, l', cc', e5, hll⟩ := cu.ent x hx g hown1 hcr
              rw [e5] at e
              simp only [Value.slice.injEq, true_and] at e
              have hl4 : l ≤ len := by have := hll hlv; omega
              have hgo : ∀ k, k < l → ∀ j u, (elC x.2 c')[j]? = some u → w.cell? ⟨g, k * (elC x.2 c').length + j, none⟩ = some u → w6.cell? ⟨g, k * (elC x.2 c').length + j, none⟩ = some u := fun k hk j u hu h0 => by
                have hjl := (List.getElem?_eq_some_iff.1 hu).1
                have h2 : (k + 1) * (elC x.2 c').length ≤ len * (elC x.2 c').length := Nat.mul_le_mul_right _ (by omega)
                rw [Nat.succ_mul] at h2
                rw [hfront g hlv _ (by rw [← hm2]; omega)]; exact h0
              rw [keptIn_plain (by omega)] at hin ⊢
              exact fun k hk j u hu => hgo k hk j u hu (hin k hk j u hu)
            · exact keptIn_same hin (hcurB g hcr hlv) hkk
          · have := cu.oth c' hc' hcc x hx g hown1
            rw [hcr] at this; cases this
    · have := k2 g e
      rw [hW g (by rcases this with e | e <;> rw [e] <;> simp)]; exact this
  refine ⟨⟨h.blk.same (hnew b (by rw [h.wb]; simp) (by rw [h.wb]; simp)), h.cnt, fun c' hc' => owns_same (h.lst c' hc') (fun g e => hnew g (by rw [h.wl c' hc' g e]; simp) (by rw [h.wl c' hc' g e]; simp)), fun c' hc' => owns_same (h.mrk c' hc') (fun g e => hnew g (by rw [h.wm c' hc' g e]; simp) (by rw [h.wm c' hc' g e]; simp)),
    fun c' hc' g e => (by rw [hW g (by rw [h.wl c' hc' g e]; simp)]; exact h.wl c' hc' g e), fun c' hc' g e => (by rw [hW g (by rw [h.wm c' hc' g e]; simp)]; exact h.wm c' hc' g e), (by rw [hW b (by rw [h.wb]; simp)]; exact h.wb), fun c' hc' x hx => hold c' x hc' hx, fun g e => ?_⟩,
    ⟨hown, fun g e => (by simp only [Value.ownBlock, Option.some.injEq] at e; subst e; exact setW_at _ _ _), fun x hx g e e2 => ?_, fun c' hc' hne x hx g e => ?_, hlen⟩⟩
  · by_cases e2 : g = g6
    · subst e2
      exact ⟨owns_block hown g rfl, owns_ltH hown g rfl⟩
    · rw [setW_ne _ _ e2] at e
      have := h.dom g e
      exact ⟨this.1, by omega⟩
  · have hwc : who g = .cur := by
      rcases hback g e2 with e3 | e3
      · have hk2 := (h.kept c (by omega) x hx).2 g e
        have hgd := (h.dom g (by rcases hk2 with e | e <;> rw [e] <;> simp)).2
        subst e3
        exact h6r hgd
      · exact e3
    obtain ⟨hm2, l', cc', e5, hll⟩ := cu.ent x hx g e hwc
    refine ⟨hm2, l', cc', e5, fun e6 => ?_⟩
    simp only [Value.ownBlock, Option.some.injEq] at e6
    subst e6
    rcases key with ⟨k1, _⟩ | ⟨k1, _⟩
    · have := hll k1; omega
    · have := (h.dom g6 (by rw [hwc]; simp)).2; omega
  · have := cu.oth c' hc' hne x hx g e
    rw [hW g (by rw [this]; simp)]; exact this

/-- The list's elements are written: it is the one that is written now. -/
theorem Hs.begin (h : Hs B w b who n f K M) (hc : c < 4) (hk : ∀ c', c' < 5 → ∀ x ∈ K c', ∀ g, x.1.ownBlock = some g → who g = .kept) (hrow : w.ownsRow B (teC c) (elC m c).length lv len (List.replicate len (elC m c)).flatten) (hl : len ≤ 1000)
    (ho : ∀ g, lv.ownBlock = some g → who g = .other) : ∃ who', Hs B w b who' n f K M ∧ Cur B w who' m c lv len K ∧ (∀ g, lv.ownBlock ≠ some g → who' g = who g) := by
  rcases hrow.2 with ⟨e, _⟩ | ⟨g0, cap, cur, hv, hbb, hh, hrest⟩
  · refine ⟨who, h, ⟨hrow, fun g e2 => (by rw [e] at e2; cases e2), fun x hx g e2 e3 => ?_, fun c' hc' hne x hx g e2 => hk c' hc' x hx g e2, hl⟩, fun _ _ => rfl⟩
    rw [hk c (by omega) x hx g e2] at e3; cases e3
  · have hlo : lv.ownBlock = some g0 := by rw [hv]; rfl
    have hng : ∀ c', c' < 5 → ∀ x ∈ K c', ∀ g, x.1.ownBlock = some g → g ≠ g0 := fun c' hc' x hx g e e2 => by
      have := hk c' hc' x hx g e
      subst e2
      rw [ho g hlo] at this; cases this
    refine ⟨setW who g0 .cur, h.more (fun g e => setW_ne _ _ (fun e2 => by subst e2; exact e (ho g hlo))) (fun g e => ?_), ⟨hrow, fun g e2 => (by rw [hlo] at e2; simp only [Option.some.injEq] at e2; subst e2; exact setW_at _ _ _), fun x hx g e2 e3 => ?_, fun c' hc' hne x hx g e2 => ?_, hl⟩, fun g e => setW_ne _ _ (fun e2 => e (by rw [e2]; exact hlo))⟩
    · by_cases e2 : g = g0
      · subst e2; exact ⟨hbb, (Array.getElem?_eq_some_iff.1 hh).1⟩
      · rw [setW_ne _ _ e2] at e; exact h.dom g e
    · rw [setW_ne _ _ (hng c (by omega) x hx g e2), hk c (by omega) x hx g e2] at e3; cases e3
    · rw [setW_ne _ _ (hng c' hc' x hx g e2)]; exact hk c' hc' x hx g e2

def settleW (who : Nat → Role) : Nat → Role := fun g => if (who g).k = 5 ∧ (who g).c = 0 then .kept else who g
theorem settle_cur {who : Nat → Role} {g : Nat} (h : who g = .cur) : settleW who g = .kept := by unfold settleW; rw [h]; rfl
theorem settle_ne {who : Nat → Role} {g : Nat} (h : who g ≠ .cur) : settleW who g = who g := by
  unfold settleW
  rw [if_neg]
  rintro ⟨h1, h2⟩
  apply h
  revert h1 h2
  generalize who g = r
  obtain ⟨k, c⟩ := r
  rintro rfl rfl
  rfl
/-- It is kept. -/
theorem Hs.settled (h : Hs B w b who n f K M) : Hs B w b (settleW who) n f K M ∧ ∀ c', c' < 5 → ∀ x ∈ K c', ∀ g, x.1.ownBlock = some g → settleW who g = .kept := by
  have hkk : ∀ g, who g = .kept ∨ who g = .cur → settleW who g = .kept := fun g e => by
    rcases e with e | e
    · rw [settle_ne (by rw [e]; simp)]; exact e
    · exact settle_cur e
  refine ⟨⟨h.blk, h.cnt, h.lst, h.mrk, fun c hc g e => ?_, fun c hc g e => ?_, ?_, fun c hc x hx => ?_, fun g e => ?_⟩, fun c' hc' x hx g e => hkk g ((h.kept c' hc' x hx).2 g e)⟩
  · have := h.wl c hc g e; rw [settle_ne (by rw [this]; simp), this]
  · have := h.wm c hc g e; rw [settle_ne (by rw [this]; simp), this]
  · rw [settle_ne (by rw [h.wb]; simp), h.wb]
  · obtain ⟨k1, k2⟩ := h.kept c hc x hx
    exact ⟨k1.who (fun g e => hkk g (Or.inl e)), fun g e => Or.inl (hkk g (k2 g e))⟩
  · by_cases e2 : who g = .cur
    · exact h.dom g (by rw [e2]; simp)
    · rw [settle_ne e2] at e; exact h.dom g e
theorem Fr.settled {w0 : World} {who0 : Nat → Role} {ex : Nat → Prop} (h : Fr w0 w who0 who ex) : Fr w0 w who0 (settleW who) ex :=
  ⟨h.os, h.tape, h.output, h.size, fun g h1 h2 h3 => by
    obtain ⟨a, b⟩ := h.oth g h1 h2 h3
    exact ⟨a, by rw [settle_ne (by rw [b]; simp)]; exact b⟩⟩
end

end Go.Proofs.YtklenjmfalljgaaGreatDoor

/- Between two calls; in the midst of keeping a list. -/
namespace Go.Proofs.YtklenjmfalljgaaGreatDoor
open Go.RowKit
attribute [local go_sem] Go.World.cell?_alloc_some

/-- The hands between two calls: all that came out is kept, and its marks. -/
def HsK (B : Nat) (w : World) (b : Nat) (who : Nat → Role) (n : Int) (f : Nat → Value) (K : Nat → List (Value × Int)) : Prop :=
  Hs B w b who n f K (marksOf K) ∧ ∀ c', c' < 5 → ∀ x ∈ K c', ∀ g, x.1.ownBlock = some g → who g = .kept

structure After (c : Nat) (w w' : World) (who who' : Nat → Role) (f f' : Nat → Value) (K K' : Nat → List (Value × Int)) (ex : Nat → Prop) : Prop where
  fr : Fr w w' who who' ex
  lent : ∀ o, o < 5 → f' o = f o
  len : (K' c).length = (K c).length + 4
  oth : ∀ c', c' ≠ c → K' c' = K c'

structure WrG (B c : Nat) (w0 w : World) (b : Nat) (who : Nat → Role) (n : Int) (f0 f : Nat → Value) (K : Nat → List (Value × Int)) (lv : Value) (len : Nat) (xs : List Value) (m : Int) (k : Nat) : Prop where
  hs : HsK B w b who n f K
  row : w.ownsRow B (teC c) (elC m c).length lv len ((List.replicate k (elC m c)).flatten ++ xs.drop (k * (elC m c).length))
  fr : Fr w0 w who who (fun g => lv.ownBlock = some g)
  lent : ∀ o, o < 5 → f o = f0 o

structure KpG (B c : Nat) (w0 w : World) (b : Nat) (who0 who : Nat → Role) (n m : Int) (f0 f : Nat → Value) (K0 K : Nat → List (Value × Int)) (lv : Value) (len k : Nat) (ex : Nat → Prop) : Prop where
  hs : Hs B w b who n f K (marksOf K)
  cu : Cur B w who m c lv len K
  fr : Fr w0 w who0 who ex
  lent : ∀ o, o < 5 → f o = f0 o
  len : (K c).length = (K0 c).length + k
  oth : ∀ c', c' ≠ c → K c' = K0 c'

structure KpA (B c : Nat) (w0 w : World) (b : Nat) (who0 who : Nat → Role) (n m : Int) (f0 f : Nat → Value) (K0 K : Nat → List (Value × Int)) (lv : Value) (len k : Nat) (ex : Nat → Prop) : Prop where
  hs : Hs B w b who n f (setK K c (K c ++ [(lv, m)])) (marksOf K)
  cu : Cur B w who m c lv len (setK K c (K c ++ [(lv, m)]))
  fr : Fr w0 w who0 who ex
  lent : ∀ o, o < 5 → f o = f0 o
  len : (K c).length = (K0 c).length + k
  oth : ∀ c', c' ≠ c → K c' = K0 c'

theorem cell_at {w : World} {B : Nat} {e : TypeId} {z g n cap : Nat} {xs : List Value} {i : Nat} (h : w.ownsRow B e z (.slice (some ⟨g, 0, none⟩) n cap) n xs) (hi : i < n * z) : ∃ u, w.cell? ⟨g, i, none⟩ = some u := by
  have h1 := h.1
  exact ⟨xs[i]'(by omega), by rw [h.cellAt i hi, List.getElem?_eq_getElem]⟩
theorem free_at {w : World} {B : Nat} {e : TypeId} {z g n cap : Nat} {xs : List Value} {i : Nat} (h : w.ownsRow B e z (.slice (some ⟨g, 0, none⟩) n cap) n xs) : w.frozen? ⟨g, i, none⟩ = false := by
  rcases h.2 with ⟨e, _⟩ | ⟨g', cap', cur, hv, _, hh, _⟩
  · cases e
  · simp only [Value.slice.injEq, Option.some.injEq, Addr.mk.injEq, true_and, and_true] at hv
    obtain ⟨rfl, rfl⟩ := hv
    simp [World.frozen?, hh]

section
variable {B c : Nat} {w0 w w6 : World} {b : Nat} {who0 who : Nat → Role} {n m : Int} {f0 f : Nat → Value} {K0 K : Nat → List (Value × Int)} {M : Nat → List Int} {lv : Value} {len k : Nat} {ex : Nat → Prop} {xs : List Value}

theorem HsK.setOther (h : HsK B w b who n f K) {g o : Nat} {v : Value} (hg : who g = .other) : HsK B (w.setCell ⟨g, o, none⟩ v) b who n f K :=
  ⟨h.1.same (by simp) (fun g' _ h2 _ => Below.heap_setCell _ _ _ _ (fun e => by simp only at e; subst e; exact h2 hg)), h.2⟩
theorem HsK.grown {w' : World} (h : HsK B w b who n f K) (hg : w.grownBy w' none) : HsK B w' b who n f K := ⟨h.1.grown hg, h.2⟩
theorem HsK.like {w' : World} (h : HsK B w b who n f K) (hl : Like w' w) : HsK B w' b who n f K := ⟨h.1.like hl, h.2⟩

theorem marks_push (K : Nat → List (Value × Int)) (c : Nat) (v : Value) (m : Int) : marksOf (setK K c (K c ++ [(v, m)])) = setM (marksOf K) c (marksOf K c ++ [m]) := by
  funext k
  unfold marksOf setK setM
  by_cases e : k = c
  · subst e; simp
  · simp [e]

theorem WrG.kp (h : WrG B c w0 w b who n f0 f K lv len xs m len) (hc : c < 4) (hx : xs.length = len * (elC m c).length) (hl : len ≤ 1000) (ho : ∀ g, lv.ownBlock = some g → who g = .other) :
    ∃ who1, KpG B c w0 w b who who1 n m f0 f K K lv len 0 (fun g => lv.ownBlock = some g) := by
  have hrow := h.row
  rw [List.drop_eq_nil_of_le (by rw [hx]; exact Nat.le_refl _), List.append_nil] at hrow
  obtain ⟨who', h1, h2, h3⟩ := h.hs.1.begin hc h.hs.2 hrow hl ho
  refine ⟨who', h1, h2, ⟨h.fr.os, h.fr.tape, h.fr.output, h.fr.size, fun g q1 q2 q3 => ?_⟩, h.lent, rfl, fun _ _ => rfl⟩
  obtain ⟨a, b⟩ := h.fr.oth g q1 q2 q3
  exact ⟨a, by rw [h3 g q3]; exact b⟩

theorem KpG.push (h : KpG B c w0 w b who0 who n m f0 f K0 K lv len k ex) (hc : c < 4) {o : Obj} {g6 c6 : Nat}
    (hown : w6.ownsRow B (tlC c) 1 (.slice (some ⟨g6, 0, none⟩) ((K c).length + 1) c6) ((K c).length + 1) ((K c).map (·.1) ++ [lv]))
    (key : ((f (6 + 2 * c)).ownBlock = some g6 ∧ (w.alloc o).grownBy w6 (some g6)) ∨ (g6 = w.heap.size + 1 ∧ (w.alloc o).grownBy w6 none)) :
    HB w6 b f ∧ ∃ who' f', KpA B c w0 (w6.setCell ⟨b, 6 + 2 * c, none⟩ (.slice (some ⟨g6, 0, none⟩) ((K c).length + 1) c6)) b who0 who' n m f0 f' K0 K lv len k ex ∧ f' (7 + 2 * c) = f (7 + 2 * c) := by
  obtain ⟨hsz, hst, hsr, h6r⟩ := key_stays key (fun g e => (h.hs.dom g e).2) (r := .lst c) (by simp) (h.hs.wl c (by omega))
  have hblk : HB w6 b f := h.hs.blk.same (hst b (by rw [h.hs.wb]; simp) (by rw [h.hs.wb]; simp)).1
  obtain ⟨h1, h2⟩ := h.hs.push h.cu hc hown key
  refine ⟨hblk, _, _, ⟨h1, h2, ?_, fun o ho => by rw [setF_ne _ _ (by omega)]; exact h.lent o ho, h.len, h.oth⟩, setF_ne _ _ (by omega)⟩
  refine (h.fr.trans (Fr.key (r := .lst c) (fun g e => by rw [h.hs.wl c (by omega) g e]; simp) key)).trans (Fr.set (Or.inl ?_))
  have := h1.wb
  rw [this]; simp

theorem KpA.tell (h : KpA B c w0 w b who0 who n m f0 f K0 K lv len k ex) (hc : c < 4) {M1 : Option Addr} {N M3 : Nat} (eM : f (7 + 2 * c) = .slice M1 N M3) (hN : (K c).length = N) {o : Obj} {g6 c6 : Nat}
    (hown : w6.ownsRow B 3 1 (.slice (some ⟨g6, 0, none⟩) (N + 1) c6) (N + 1) (ints ((K c).map (·.2)) ++ [.int .i64 m]))
    (key : ((Value.slice M1 N M3).ownBlock = some g6 ∧ (w.alloc o).grownBy w6 (some g6)) ∨ (g6 = w.heap.size + 1 ∧ (w.alloc o).grownBy w6 none)) :
    HB w6 b f ∧ ∃ who' f', KpG B c w0 (w6.setCell ⟨b, 7 + 2 * c, none⟩ (.slice (some ⟨g6, 0, none⟩) (N + 1) c6)) b who0 who' n m f0 f' K0 (setK K c (K c ++ [(lv, m)])) lv len (k + 1) ex := by
  rw [← eM] at key
  obtain ⟨hsz, hst, hsr, h6r⟩ := key_stays key (fun g e => (h.hs.dom g e).2) (r := .mrk c) (by simp) (h.hs.wm c (by omega))
  have hblk : HB w6 b f := h.hs.blk.same (hst b (by rw [h.hs.wb]; simp) (by rw [h.hs.wb]; simp)).1
  have hMl : (marksOf K c).length = N := by simp [marksOf, hN]
  obtain ⟨h1, h2⟩ := h.hs.tell h.cu hc (w6 := w6) (g6 := g6) (c6 := c6) (o := o) (by rw [hMl]; exact hown) key
  rw [hMl] at h1 h2
  refine ⟨hblk, _, _, ⟨by rw [marks_push]; exact h1, h2, ?_, fun o ho => by rw [setF_ne _ _ (by omega)]; exact h.lent o ho, by rw [setK_at, List.length_append, h.len]; simp; omega, fun c' hc' => by rw [setK_ne _ _ hc']; exact h.oth c' hc'⟩⟩
  refine (h.fr.trans (Fr.key (r := .mrk c) (fun g e => by rw [h.hs.wm c (by omega) g e]; simp) key)).trans (Fr.set (Or.inl ?_))
  have := h1.wb
  rw [this]; simp

theorem KpG.grow (h : KpG B c w0 w b who0 who n m f0 f K0 K lv len k ex) (hc : c < 4) (hlen : len + 1 ≤ 1000) {o : Obj} {g6 c6 : Nat}
    (hown : w6.ownsRow B (teC c) (elC m c).length (.slice (some ⟨g6, 0, none⟩) (len + 1) c6) (len + 1) ((List.replicate len (elC m c)).flatten ++ elC m c))
    (key : (lv.ownBlock = some g6 ∧ (w.alloc o).grownBy w6 (some g6)) ∨ (g6 = w.heap.size + 1 ∧ (w.alloc o).grownBy w6 none)) :
    ∃ who', KpG B c w0 w6 b who0 who' n m f0 f K0 K (.slice (some ⟨g6, 0, none⟩) (len + 1) c6) (len + 1) k ex := by
  obtain ⟨h1, h2⟩ := h.hs.grow h.cu hc hlen hown key
  exact ⟨_, h1, h2, h.fr.trans (Fr.key (fun g e => by rw [h.cu.wc g e]; simp) key), h.lent, h.len, h.oth⟩

theorem KpG.done (h : KpG B c w0 w b who0 who n m f0 f K0 K lv len 4 ex) : ∃ who' f' K', HsK B w b who' n f' K' ∧ After c w0 w who0 who' f0 f' K0 K' ex :=
  ⟨settleW who, f, K, ⟨h.hs.settled.1, h.hs.settled.2⟩, ⟨h.fr.settled, h.lent, h.len, h.oth⟩⟩
end

set_option maxRecDepth 100000 in
set_option maxHeartbeats 400000 in
theorem mark_g {B : Nat} {w : World} {b : Nat} {who : Nat → Role} {n : Int} {f : Nat → Value} {K : Nat → List (Value × Int)} {M : Nat → List Int} (h : Hs B w b who n f K M) (h0 : 0 ≤ n) (h1 : n ≤ 10000000000000) :
    Calls Tryz.prog 57 #[pt b] w fun e w' => e = .returned (.int .i64 (-77000000 - (n + 1))) ∧ w' = w.setCell ⟨b, 5, none⟩ (.int .i64 (n + 1)) := by
  have c5 : w.cell? ⟨b, 5, none⟩ = some (.int .i64 n) := by rw [h.blk.cell (by omega), h.cnt]
  have f5 := h.blk.frozen 5
  have c6 : (w.setCell ⟨b, 5, none⟩ (.int .i64 (n + 1))).cell? ⟨b, 5, none⟩ = some (.int .i64 (n + 1)) := by rw [(h.blk.set (by omega) (.int .i64 (n + 1))).cell (by omega), setF_at]
  have hpt : pt b = .pointer (some ⟨b, 0, none⟩) := rfl
  rw [hpt]
  clear h hpt
  go_enter Tryz.func57, Tryz.ntmps57
  go_wp2_with fail
  go_ret
  exact ⟨rfl, rfl⟩

end Go.Proofs.YtklenjmfalljgaaGreatDoor

/- What was lent: the rows that tell it, the lists themselves. -/
namespace Go.Proofs.YtklenjmfalljgaaGreatDoor
open Go.RowKit

def tR : Nat → TypeId
  | 0 => 25
  | 1 => 25
  | 2 => 75
  | 3 => 75
  | _ => 22

/-- The five rows that tell what was lent. -/
structure Lr (B : Nat) (w : World) (who : Nat → Role) (f : Nat → Value) (E : Nat → List Value) : Prop where
  r : ∀ k, k < 5 → w.ownsRow B (tR k) 1 (f k) (E k).length (E k)
  wr : ∀ k, k < 5 → ∀ g, (f k).ownBlock = some g → who g = .lrow k

def setE (E : Nat → List Value) (k : Nat) (l : List Value) : Nat → List Value := fun j => if j = k then l else E j
theorem setE_at (E : Nat → List Value) (k : Nat) (l : List Value) : setE E k l k = l := by simp [setE]
theorem setE_ne (E : Nat → List Value) {k j : Nat} (l : List Value) (h : j ≠ k) : setE E k l j = E j := by simp [setE, h]

section
variable {B : Nat} {w w6 w' : World} {b : Nat} {who who' : Nat → Role} {n : Int} {f : Nat → Value} {K : Nat → List (Value × Int)} {M : Nat → List Int} {E : Nat → List Value}

theorem Lr.same (h : Lr B w who f E) (hb : ∀ g k, who g = .lrow k → w'.heap[g]? = w.heap[g]?) : Lr B w' who f E :=
  ⟨fun k hk => owns_same (h.r k hk) (fun g e => hb g k (h.wr k hk g e)), h.wr⟩
theorem Lr.grown (h : Lr B w who f E) (hg : w.grownBy w' none) : Lr B w' who f E :=
  ⟨fun k hk => owns_same (h.r k hk) (fun g e => hg.block g (owns_ltH (h.r k hk) g e) (by simp)), h.wr⟩
theorem Lr.more (h : Lr B w who f E) (hw : ∀ g, who g ≠ .other → who' g = who g) : Lr B w who' f E :=
  ⟨h.r, fun k hk g e => by have := h.wr k hk g e; rw [hw g (by rw [this]; simp), this]⟩

/-- h.x = append(h.x, v), x a row of what was lent. -/
theorem Lr.push (h : Lr B w who f E) (hs : Hs B w b who n f K M) {k : Nat} (hk : k < 5) {v : Value} {o : Obj} {g6 c6 : Nat}
    (hown : w6.ownsRow B (tR k) 1 (.slice (some ⟨g6, 0, none⟩) ((E k).length + 1) c6) ((E k).length + 1) (E k ++ [v]))
    (key : ((f k).ownBlock = some g6 ∧ (w.alloc o).grownBy w6 (some g6)) ∨ (g6 = w.heap.size + 1 ∧ (w.alloc o).grownBy w6 none)) :
    HB w6 b f ∧ Hs B (w6.setCell ⟨b, k, none⟩ (.slice (some ⟨g6, 0, none⟩) ((E k).length + 1) c6)) b (setW who g6 (.lrow k)) n (setF f k (.slice (some ⟨g6, 0, none⟩) ((E k).length + 1) c6)) K M ∧
    Lr B (w6.setCell ⟨b, k, none⟩ (.slice (some ⟨g6, 0, none⟩) ((E k).length + 1) c6)) (setW who g6 (.lrow k)) (setF f k (.slice (some ⟨g6, 0, none⟩) ((E k).length + 1) c6)) (setE E k (E k ++ [v])) ∧
    Fr w (w6.setCell ⟨b, k, none⟩ (.slice (some ⟨g6, 0, none⟩) ((E k).length + 1) c6)) who (setW who g6 (.lrow k)) (fun _ => False) ∧
    (∀ g, who g = .lent → (w6.setCell ⟨b, k, none⟩ (.slice (some ⟨g6, 0, none⟩) ((E k).length + 1) c6)).heap[g]? = w.heap[g]? ∧ setW who g6 (.lrow k) g = .lent) ∧ (∀ g, who g ≠ .other → setW who g6 (.lrow k) g = who g) := by
  obtain ⟨hsz, hst, hsr, h6r⟩ := key_stays key (fun g e => (hs.dom g e).2) (r := .lrow k) (by simp) (h.wr k hk)
  have hb6 : g6 ≠ b := (hst b (by rw [hs.wb]; simp) (by rw [hs.wb]; simp)).2
  have hblk : HB w6 b f := hs.blk.same (hst b (by rw [hs.wb]; simp) (by rw [hs.wb]; simp)).1
  have hsame6 : Hs B w6 b who n f K M := hs.same hsz (fun g _ h2 h3 => (hst g h2 (fun e => by rw [e] at h3; cases h3)).1)
  have hW : ∀ g, who g ≠ .other → setW who g6 (.lrow k) g = who g := fun g h1 => by
    by_cases e : g = g6
    · subst e; rw [setW_at]; exact (h6r (hs.dom g h1).2).symm
    · exact setW_ne _ _ e
  have hs2 : Hs B w6 b (setW who g6 (.lrow k)) n f K M := hsame6.more hW (fun g e => by
    by_cases e2 : g = g6
    · subst e2; exact ⟨owns_block hown g rfl, owns_ltH hown g rfl⟩
    · rw [setW_ne _ _ e2] at e; have := hs.dom g e; exact ⟨this.1, by omega⟩)
  have hfr : Fr w w6 who (setW who g6 (.lrow k)) (fun _ => False) := Fr.key (fun g e => by rw [h.wr k hk g e]; simp) key
  generalize hV : Value.slice (some ⟨g6, 0, none⟩) ((E k).length + 1) c6 = V at *
  have hVo : V.ownBlock = some g6 := by rw [← hV]; rfl
  have hwb2 : setW who g6 (.lrow k) b = .hands := hs2.wb
  refine ⟨hblk, hs2.setLent hk V, ⟨fun j hj => ?_, fun j hj g e => ?_⟩, hfr.trans (Fr.set (Or.inl (by rw [hwb2]; simp))), fun g e => ⟨?_, by rw [hW g (by rw [e]; simp)]; exact e⟩, hW⟩
  · by_cases e : j = k
    · subst e
      rw [setF_at, setE_at]
      have := ownsRow_setCell_other (a := ⟨b, j, none⟩) hown (show V.ownBlock ≠ some b by rw [hVo]; simpa using hb6) V
      simpa using this
    · rw [setF_ne _ _ e, setE_ne _ _ e]
      refine owns_same (h.r j hj) (fun g e2 => ?_)
      have hg := h.wr j hj g e2
      rw [Below.heap_setCell _ _ _ _ (fun e3 => by simp only at e3; subst e3; rw [hs.wb] at hg; cases hg)]
      exact (hst g (by rw [hg]; simp) (by rw [hg]; simpa using e)).1
  · by_cases e2 : j = k
    · subst e2
      rw [setF_at, hVo] at e
      simp only [Option.some.injEq] at e
      subst e
      exact setW_at _ _ _
    · rw [setF_ne _ _ e2] at e
      have hg := h.wr j hj g e
      rw [hW g (by rw [hg]; simp), hg]
  · rw [Below.heap_setCell _ _ _ _ (fun e3 => by simp only at e3; subst e3; rw [hs.wb] at e; cases e)]
    exact (hst g (by rw [e]; simp) (by rw [e]; simp)).1
end

def sl2 (g n : Nat) : Value := .slice (some ⟨g, 0, none⟩) (n + 2) (n + 2)
def insInk : List Value := [.int .i64 (-77000000), .int .i64 0, .int .i64 0, .int .i64 0]
def insL (i : Ins) : List Value := [.int .i64 i.op, .int .i64 i.a, .int .i64 i.b, .int .i64 i.n]
def lentCode (c : List Ins) : Array Value := (c.flatMap insL ++ (insInk ++ insInk)).toArray
def slC (x : Nat × List Ins × Value) : Value := .slice (some ⟨x.1, 0, none⟩) x.2.1.length (x.2.1.length + 2)
def lentRows (l : List (Nat × List Ins × Value)) : Array Value := (l.map slC ++ [Value.slice none 0 0, Value.slice none 0 0]).toArray

/-- A value whose memory is others'. -/
def valOther (who : Nat → Role) (v : Value) : Prop := ∀ g o l c, v = .slice (some ⟨g, o, none⟩) l c → 0 < l → who g = .other

/-- The lists that were lent: numbers, code, rows of code (so many of each); tail: so much code is in no row yet. -/
structure Le (w : World) (who : Nat → Role) (LI : List (Nat × List Int × Value)) (LC : List (Nat × List Ins × Value)) (LR : List (Nat × Nat)) (tail : Nat) : Prop where
  li : ∀ x ∈ LI, w.heap[x.1]? = some (.cells (lentRow x.2.1) 3 (0, 0)) ∧ who x.1 = .lent ∧ IntsAt w.heap.size w x.2.2 x.2.1 ∧ valOther who x.2.2 ∧ x.2.1.length ≤ 17592186043904
  lc : ∀ x ∈ LC, w.heap[x.1]? = some (.cells (lentCode x.2.1) 74 (0, 0)) ∧ who x.1 = .lent ∧ CodeAt w x.2.2 x.2.1 ∧ valOther who x.2.2 ∧ x.2.1.length ≤ 4398046510976
  lr : ∀ j (hj : j < LR.length), w.heap[LR[j].1]? = some (.cells (lentRows ((LC.drop ((LR.take j).map (·.2)).sum).take LR[j].2)) 75 (0, 0)) ∧ who LR[j].1 = .lent ∧ LR[j].2 ≤ 5864062014634
  sum : (LR.map (·.2)).sum + tail = LC.length
  nd : (LI.map (·.1) ++ (LC.map (·.1) ++ LR.map (·.1))).Nodup

theorem valOther.mono {who who' : Nat → Role} {v : Value} (h : valOther who v) (hw : ∀ g, who g = .other → ∀ o l c, v = .slice (some ⟨g, o, none⟩) l c → 0 < l → who' g = .other) : valOther who' v := fun g o l c e hl => hw g (h g o l c e hl) o l c e hl

theorem ints_oth {w w' : World} {who : Nat → Role} {v : Value} {l : List Int} (h : IntsAt w.heap.size w v l) (hv : valOther who v) (hs : w.heap.size ≤ w'.heap.size) (hb : ∀ g, g < w.heap.size → who g = .other → w'.heap[g]? = w.heap[g]?) : IntsAt w'.heap.size w' v l := by
  obtain ⟨ao, cap, rfl, h1, h2⟩ := h
  refine ⟨ao, cap, rfl, h1, fun k hk => ?_⟩
  obtain ⟨g, o, rfl, e2, e3⟩ := h2 k hk
  exact ⟨g, o, rfl, by omega, by rw [World.cell?_of_block (hb g e2 (hv g o _ _ rfl (by omega)))]; exact e3⟩
theorem code_oth {w w' : World} {who : Nat → Role} {v : Value} {c : List Ins} (h : CodeAt w v c) (hv : valOther who v) (hb : ∀ g, g < w.heap.size → who g = .other → w'.heap[g]? = w.heap[g]?) : CodeAt w' v c := by
  obtain ⟨ao, cap, rfl, h2⟩ := h
  refine ⟨ao, cap, rfl, fun k hk => ?_⟩
  obtain ⟨g, o, rfl, e2, e3, e4, e5⟩ := h2 k hk
  have hg : w'.heap[g]? = w.heap[g]? := hb g (World.block_lt_of_cell? w _ e2) (hv g o _ _ rfl (by omega))
  exact ⟨g, o, rfl, by rw [World.cell?_of_block hg]; exact e2, by rw [World.cell?_of_block hg]; exact e3, by rw [World.cell?_of_block hg]; exact e4, by rw [World.cell?_of_block hg]; exact e5⟩

section
variable {w w' : World} {who who' : Nat → Role} {LI : List (Nat × List Int × Value)} {LC : List (Nat × List Ins × Value)} {LR : List (Nat × Nat)} {tail : Nat}
/-- What leaves others' blocks and those that were lent. -/
theorem Le.keep (h : Le w who LI LC LR tail) (hf : Fr w w' who who' (fun _ => False)) (hl : ∀ g, who g = .lent → w'.heap[g]? = w.heap[g]? ∧ who' g = .lent) : Le w' who' LI LC LR tail := by
  have ho : ∀ g, g < w.heap.size → who g = .other → w'.heap[g]? = w.heap[g]? := fun g h1 h2 => (hf.oth g h1 h2 (fun e => e)).1
  refine ⟨fun x hx => ?_, fun x hx => ?_, fun j hj => ?_, h.sum, h.nd⟩
  · obtain ⟨a, b, c, d, e⟩ := h.li x hx
    refine ⟨by rw [(hl _ b).1]; exact a, (hl _ b).2, ints_oth c d hf.size ho, ?_, e⟩
    obtain ⟨ao, cap, ev, h1, h2⟩ := c
    intro g o l cc e2 hz
    have hgo := d g o l cc e2 hz
    rw [ev] at e2
    simp only [Value.slice.injEq] at e2
    obtain ⟨g', o', e3, e4, _⟩ := h2 0 (by omega)
    rw [e3] at e2
    simp only [Option.some.injEq, Addr.mk.injEq, and_true] at e2
    obtain ⟨⟨rfl, _⟩, _⟩ := e2
    exact (hf.oth _ e4 hgo (fun e => e)).2
  · obtain ⟨a, b, c, d, e⟩ := h.lc x hx
    refine ⟨by rw [(hl _ b).1]; exact a, (hl _ b).2, code_oth c d ho, ?_, e⟩
    obtain ⟨ao, cap, ev, h2⟩ := c
    intro g o l cc e2 hz
    have hgo := d g o l cc e2 hz
    rw [ev] at e2
    simp only [Value.slice.injEq] at e2
    obtain ⟨g', o', e3, e4, _⟩ := h2 0 (by omega)
    rw [e3] at e2
    simp only [Option.some.injEq, Addr.mk.injEq, and_true] at e2
    obtain ⟨⟨rfl, _⟩, _⟩ := e2
    exact (hf.oth _ (World.block_lt_of_cell? w _ e4) hgo (fun e => e)).2
  · obtain ⟨a, b, c⟩ := h.lr j hj
    exact ⟨by rw [(hl _ b).1]; exact a, (hl _ b).2, c⟩
end

def EL (LI : List (Nat × List Int × Value)) (LC : List (Nat × List Ins × Value)) (LR : List (Nat × Nat)) : Nat → List Value
  | 0 => LI.map fun x => sl2 x.1 x.2.1.length
  | 1 => LI.map fun x => x.2.2
  | 2 => LC.map fun x => sl2 x.1 x.2.1.length
  | 3 => LC.map fun x => x.2.2
  | 4 => LR.map fun x => sl2 x.1 x.2
  | _ => []

/-- The hands, with what they lent. -/
structure Lx (B : Nat) (w : World) (b : Nat) (who : Nat → Role) (n : Int) (f : Nat → Value) (K : Nat → List (Value × Int)) (E : Nat → List Value) (LI : List (Nat × List Int × Value)) (LC : List (Nat × List Ins × Value)) (LR : List (Nat × Nat)) (tail : Nat) : Prop where
  hs : HsK B w b who n f K
  lr : Lr B w who f E
  le : Le w who LI LC LR tail

section
variable {B : Nat} {w w6 w' : World} {b : Nat} {who who' : Nat → Role} {n : Int} {f : Nat → Value} {K : Nat → List (Value × Int)} {E : Nat → List Value} {LI : List (Nat × List Int × Value)} {LC : List (Nat × List Ins × Value)} {LR : List (Nat × Nat)} {tail : Nat}

theorem Lx.cell (h : Lx B w b who n f K E LI LC LR tail) {o : Nat} (ho : o < 16) : w.cell? ⟨b, o, none⟩ = some (f o) := h.hs.1.blk.cell ho
theorem Lx.low (h : Lx B w b who n f K E LI LC LR tail) : B ≤ b ∧ b < w.heap.size := h.hs.1.dom b (by rw [h.hs.1.wb]; simp)
theorem Le.lt (h : Le w who LI LC LR tail) : ∀ g ∈ LI.map (·.1) ++ (LC.map (·.1) ++ LR.map (·.1)), g < w.heap.size ∧ who g = .lent := by
  intro g hg
  rcases List.mem_append.1 hg with hg | hg
  · obtain ⟨x, hx, rfl⟩ := List.mem_map.1 hg
    obtain ⟨a, b, _⟩ := h.li x hx
    exact ⟨(Array.getElem?_eq_some_iff.1 a).1, b⟩
  · rcases List.mem_append.1 hg with hg | hg
    · obtain ⟨x, hx, rfl⟩ := List.mem_map.1 hg
      obtain ⟨a, b, _⟩ := h.lc x hx
      exact ⟨(Array.getElem?_eq_some_iff.1 a).1, b⟩
    · obtain ⟨x, hx, rfl⟩ := List.mem_map.1 hg
      obtain ⟨j, hj, rfl⟩ := List.getElem_of_mem hx
      obtain ⟨a, b, _⟩ := h.lr j hj
      exact ⟨(Array.getElem?_eq_some_iff.1 a).1, b⟩

theorem Lx.grown (h : Lx B w b who n f K E LI LC LR tail) (hg : w.grownBy w' none) : Lx B w' b who n f K E LI LC LR tail :=
  ⟨h.hs.grown hg, h.lr.grown hg, h.le.keep (Fr.grown hg) (fun g e => ⟨hg.block g (h.hs.1.dom g (by rw [e]; simp)).2 (by simp), e⟩)⟩

/-- A new block is to be lent. -/
theorem Lx.new (h : Lx B w b who n f K E LI LC LR tail) (hg : w.grownBy w' none) {g : Nat} (hlo : w.heap.size ≤ g) (hhi : g < w'.heap.size) : Lx B w' b (setW who g .lent) n f K E LI LC LR tail ∧ Fr w w' who (setW who g .lent) (fun _ => False) := by
  have hne : ∀ g', who g' ≠ .other → setW who g .lent g' = who g' := fun g' e => setW_ne _ _ (fun e2 => by subst e2; have := (h.hs.1.dom g' e).2; omega)
  have h' := h.grown hg
  have hb := h.low
  refine ⟨⟨⟨h'.hs.1.more hne (fun g' e => ?_), fun c hc x hx g' e => ?_⟩, h'.lr.more hne, ?_⟩, Fr.setW (Fr.grown hg) (Or.inl hlo)⟩
  · by_cases e2 : g' = g
    · subst e2; exact ⟨by omega, hhi⟩
    · rw [setW_ne _ _ e2] at e; exact h'.hs.1.dom g' e
  · have := h.hs.2 c hc x hx g' e
    rw [hne g' (by rw [this]; simp), this]
  · exact h.le.keep (Fr.setW (Fr.grown hg) (Or.inl hlo)) (fun g' e => ⟨hg.block g' (h.hs.1.dom g' (by rw [e]; simp)).2 (by simp), by rw [hne g' (by rw [e]; simp)]; exact e⟩)

theorem Lx.push (h : Lx B w b who n f K E LI LC LR tail) {k : Nat} (hk : k < 5) {v : Value} {o : Obj} {g6 c6 : Nat}
    (hown : w6.ownsRow B (tR k) 1 (.slice (some ⟨g6, 0, none⟩) ((E k).length + 1) c6) ((E k).length + 1) (E k ++ [v]))
    (key : ((f k).ownBlock = some g6 ∧ (w.alloc o).grownBy w6 (some g6)) ∨ (g6 = w.heap.size + 1 ∧ (w.alloc o).grownBy w6 none)) :
    HB w6 b f ∧ ∃ who' f', Lx B (w6.setCell ⟨b, k, none⟩ (.slice (some ⟨g6, 0, none⟩) ((E k).length + 1) c6)) b who' n f' K (setE E k (E k ++ [v])) LI LC LR tail ∧
      Fr w (w6.setCell ⟨b, k, none⟩ (.slice (some ⟨g6, 0, none⟩) ((E k).length + 1) c6)) who who' (fun _ => False) ∧ (∀ j, j ≠ k → f' j = f j) ∧ (∀ g, who g = .lent → (w6.setCell ⟨b, k, none⟩ (.slice (some ⟨g6, 0, none⟩) ((E k).length + 1) c6)).heap[g]? = w.heap[g]? ∧ who' g = .lent) := by
  obtain ⟨h1, h2, h3, h4, h5, h6⟩ := h.lr.push h.hs.1 hk hown key
  refine ⟨h1, _, _, ⟨⟨h2, fun c hc x hx g e => ?_⟩, h3, h.le.keep h4 h5⟩, h4, fun j hj => setF_ne _ _ hj, h5⟩
  have := h.hs.2 c hc x hx g e
  rw [h6 g (by rw [this]; simp), this]

theorem Le.addInts (h : Le w who LI LC LR tail) {g : Nat} {l : List Int} {lv : Value} (hb : w.heap[g]? = some (.cells (lentRow l) 3 (0, 0))) (hw : who g = .lent) (hI : IntsAt w.heap.size w lv l) (hv : valOther who lv) (hl : l.length ≤ 17592186043904)
    (hn : g ∉ LI.map (·.1) ++ (LC.map (·.1) ++ LR.map (·.1))) : Le w who (LI ++ [(g, l, lv)]) LC LR tail := by
  refine ⟨fun x hx => ?_, h.lc, h.lr, h.sum, ?_⟩
  · rcases List.mem_append.1 hx with hx | hx
    · exact h.li x hx
    · simp at hx; subst hx; exact ⟨hb, hw, hI, hv, hl⟩
  · have := h.nd
    simp only [List.map_append, List.map_cons, List.map_nil, List.append_assoc, List.singleton_append]
    rw [List.nodup_append] at this ⊢
    obtain ⟨a1, a2, a3⟩ := this
    simp only [List.mem_append, not_or] at hn
    refine ⟨a1, ?_, ?_⟩
    · rw [List.nodup_cons]
      exact ⟨by simp only [List.mem_append, not_or]; exact ⟨hn.2.1, hn.2.2⟩, a2⟩
    · intro x hx y hy
      rcases List.mem_cons.1 hy with rfl | hy
      · intro e; subst e; exact hn.1 hx
      · exact a3 x hx y hy
theorem EL_ints (LI : List (Nat × List Int × Value)) (LC : List (Nat × List Ins × Value)) (LR : List (Nat × Nat)) (g : Nat) (l : List Int) (lv : Value) :
    setE (setE (EL LI LC LR) 0 (EL LI LC LR 0 ++ [sl2 g l.length])) 1 (setE (EL LI LC LR) 0 (EL LI LC LR 0 ++ [sl2 g l.length]) 1 ++ [lv]) = EL (LI ++ [(g, l, lv)]) LC LR := by
  funext k
  match k with
  | 0 => simp [setE, EL]
  | 1 => simp [setE, EL]
  | 2 => simp [setE, EL]
  | 3 => simp [setE, EL]
  | 4 => simp [setE, EL]
  | k + 5 => simp [setE, EL]
end

end Go.Proofs.YtklenjmfalljgaaGreatDoor

/- The walk of the hands' schedule, whole. -/
namespace Go.Proofs.YtklenjmfalljgaaGreatDoor
open Go.RowKit
attribute [local go_sem] Go.World.cell?_alloc_some

theorem int_keeps {w w' : World} {who who' : Nat → Role} {v : Value} {l : List Int} (h : IntsAt w.heap.size w v l) (hv : valOther who v) (hf : Fr w w' who who' (fun _ => False)) : IntsAt w'.heap.size w' v l ∧ valOther who' v := by
  refine ⟨ints_oth h hv hf.size (fun g h1 h2 => (hf.oth g h1 h2 (fun e => e)).1), hv.mono (fun g e o l' c' e2 hl' => ?_)⟩
  obtain ⟨ao', cap', e4, _, h5⟩ := h
  rw [e4] at e2
  simp only [Value.slice.injEq] at e2
  obtain ⟨g', o', e5, e6, _⟩ := h5 0 (by omega)
  rw [e2.1] at e5
  simp only [Option.some.injEq, Addr.mk.injEq, and_true] at e5
  exact (hf.oth g (by omega) e (fun e => e)).2

set_option maxRecDepth 100000 in
set_option maxHeartbeats 1000000 in
theorem schedule_g (B : Nat) (w : World) (b : Nat) (who : Nat → Role) (n : Int) (f : Nat → Value) (K : Nat → List (Value × Int)) (LI : List (Nat × List Int × Value)) (LC : List (Nat × List Ins × Value)) (LR : List (Nat × Nat)) (tail : Nat) (lv : Value) (l : List Int)
    (h : Lx B w b who n f K (EL LI LC LR) LI LC LR tail) (hI : IntsAt w.heap.size w lv l) (hvo : valOther who lv) (hln : l.length ≤ 17592186043904) (hLI : LI.length ≤ 1000) :
    Calls Tryz.prog 28 #[pt b, lv] w fun e w' => ∃ g who' f', e = .returned (.slice (some ⟨g, 0, none⟩) l.length (l.length + 2)) ∧ Lx B w' b who' n f' K (EL (LI ++ [(g, l, lv)]) LC LR) (LI ++ [(g, l, lv)]) LC LR tail ∧ Fr w w' who who' (fun _ => False) := by
  obtain ⟨i0, hi0, hz0, hz1, hz2⟩ := info_parts info_int
  obtain ⟨i1, hi1, hy0, hy1, hy2⟩ := info_parts info_ints
  have HH := hide h
  have HI := hide hI
  have HV := hide hvo
  have hb := h.low
  obtain ⟨ao, cap, rfl⟩ := hI.form
  have hpt : pt b = .pointer (some ⟨b, 0, none⟩) := rfl
  rw [hpt]
  clear h hI hpt hvo
  have q0 : (l.length : Int) ≤ 17592186043904 := by omega
  have q1 : (0 : Int) ≤ (l.length : Int) := by omega
  have hsz1 : (Tryz.prog.info? 3).map (·.size) = some 1 := by rw [hi0]; simp [hz1]
  go_enter Tryz.func28, Tryz.ntmps28
  go_upto_region 3 with (at_make; refine wpList_make_full _ rfl _ _ _ rfl w.heap.size 3 i0 _ 1 Tryz.underlying25 hi0 hz0 hz1 .i64 .i64 _ _ (l.length + 2) rfl rfl (by simp) (by simp) (by rw [hz2]; omega) (by unfold maxLen; omega) (by simp) ?_; intro w2 hown2 hg2)
  have hrow2 : ∃ cur, w2.heap[w.heap.size]? = some (.cells cur 3 (0, 0)) ∧ cur.size = l.length + 2 := by
    rcases hown2.2 with ⟨e, _⟩ | ⟨g', cap', cur, hv, _, hh, _, _, hcs, _⟩
    · cases e
    · simp only [Value.slice.injEq, Option.some.injEq, Addr.mk.injEq, true_and, and_true] at hv
      obtain ⟨rfl, rfl⟩ := hv
      exact ⟨cur, hh, by simpa using hcs⟩
  obtain ⟨cur, hcur, hcsz⟩ := hrow2
  have HG2 := hide hg2
  have HI2 : Hid (IntsAt w2.heap.size w2 (.slice ao l.length cap) l) := (HI.out.pres (pres_grown hg2)).mono hg2.size
  have HCUR := hide hcur
  clear hown2 hg2 hcur
  obtain ⟨w3, hrun, hrow3, hg3⟩ := run_copy_ints w2 25 3 3 Tryz.underlying25 hsz1 w.heap.size (l.length + 2) (l.length + 2) (.slice ao l.length cap) w2.heap.size l HI2.out cur 3 HCUR.out (by omega) (by omega)
  go_upto_region 4 with fail
  clear hrun
  have HG3 : Hid (w.grownBy w3 none) := ⟨hg3.os.trans HG2.out.os, hg3.tape.trans HG2.out.tape, hg3.output.trans HG2.out.output, Nat.le_trans HG2.out.size hg3.size, fun k hk _ => by
    rw [hg3.block k (Nat.lt_of_lt_of_le hk HG2.out.size) (by simp; omega)]; exact HG2.out.block k hk (by simp)⟩
  have hs3 : w.heap.size < w3.heap.size := (Array.getElem?_eq_some_iff.1 hrow3).1
  obtain ⟨R, hR⟩ : ∃ R : Array Value, R = (ints l ++ cur.toList.drop l.length).toArray := ⟨_, rfl⟩
  rw [← hR] at hrow3
  have hRs : R.size = l.length + 2 := by rw [hR]; simp [ints_len]; omega
  have HRI : Hid ((R.setIfInBounds l.length ink).setIfInBounds (l.length + 1) ink = lentRow l) := by unfold Hid; rw [hR]; exact row_ink l cur hcsz
  have hrow4 := heap_setCell_same w3 w.heap.size l.length R 3 ink hrow3
  have hrow5 := heap_setCell_same _ w.heap.size (l.length + 1) _ 3 ink hrow4
  rw [HRI.out] at hrow5
  have d0 : ∃ u, w3.cell? ⟨w.heap.size, l.length, none⟩ = some u := by
    refine ⟨R[l.length]'(by omega), ?_⟩
    simp [World.cell?, hrow3]
  have d1 : ∃ u, (w3.setCell ⟨w.heap.size, l.length, none⟩ ink).cell? ⟨w.heap.size, l.length + 1, none⟩ = some u := by
    refine ⟨(R.setIfInBounds l.length ink)[l.length + 1]'(by simp; omega), ?_⟩
    simp only [World.cell?, hrow4]
    exact Array.getElem?_eq_getElem _
  obtain ⟨u0, d0⟩ := d0
  obtain ⟨u1, d1⟩ := d1
  have f0 : w3.frozen? ⟨w.heap.size, l.length, none⟩ = false := by simp [World.frozen?, hrow3]
  have f1 : (w3.setCell ⟨w.heap.size, l.length, none⟩ ink).frozen? ⟨w.heap.size, l.length + 1, none⟩ = false := by simp [World.frozen?, hrow4]
  obtain ⟨w5, hw5⟩ : ∃ w5, w5 = (w3.setCell ⟨w.heap.size, l.length, none⟩ ink).setCell ⟨w.heap.size, l.length + 1, none⟩ ink := ⟨_, rfl⟩
  have hG5 : w.grownBy w5 none := by rw [hw5]; exact grown_setNew (grown_setNew HG3.out (Nat.le_refl _)) (Nat.le_refl _)
  have HR5 : Hid (w5.heap[w.heap.size]? = some (.cells (lentRow l) 3 (0, 0))) := by rw [hw5]; exact hrow5
  have hs5 : w.heap.size < w5.heap.size := by rw [hw5]; simpa using hs3
  have hink : ink = .int .i64 (-77000000) := rfl
  rw [hink] at hw5 d1 f1
  have HW5 := hide hw5
  obtain ⟨hx5, hf5⟩ := HH.out.new hG5 (Nat.le_refl _) hs5
  have HNI : Hid (w.heap.size ∉ LI.map (·.1) ++ (LC.map (·.1) ++ LR.map (·.1))) := fun e => by have := (HH.out.le.lt _ e).1; omega
  have HI5 : Hid (IntsAt w5.heap.size w5 (.slice ao l.length cap) l) := (HI.out.pres (pres_grown hG5)).mono hG5.size
  have HV5 : Hid (valOther (setW who w.heap.size .lent) (.slice ao l.length cap)) := by
    refine HV.out.mono (fun g e o l' c' e2 hl' => ?_)
    rw [setW_ne]
    · exact e
    · intro e3
      subst e3
      obtain ⟨ao', cap', e4, _, h5⟩ := HI.out
      simp only [Value.slice.injEq] at e2 e4
      obtain ⟨g', o', e5, e6, _⟩ := h5 0 (by omega)
      rw [← e4.1, e2.1] at e5
      simp only [Option.some.injEq, Addr.mk.injEq, and_true] at e5
      omega
  have HX5 := hide hx5
  have HF5 := hide hf5
  have HW : Hid (setW who w.heap.size .lent w.heap.size = .lent) := setW_at _ _ _
  have HEE := hide (EL_ints LI LC LR w.heap.size l (.slice ao l.length cap))
  have hE0 : (EL LI LC LR 0).length ≤ 1000 := by simp only [EL, List.length_map]; exact hLI
  have hE1 : (EL LI LC LR 1).length ≤ 1000 := by simp only [EL, List.length_map]; exact hLI
  clear hrow3 hg3 hR hrow4 hrow5 hw5 hx5 hf5 hG5 HI HV HH
  generalize setW who w.heap.size .lent = who5 at *
  generalize EL LI LC LR = E at *
  generalize hg0 : w.heap.size = g0 at *
  have HG0 := hide hg0
  clear hg0
  go_upto_region 6 with fail
  rw [← HW5.out]
  clear HW5 d0 d1 f0 f1
  have rO : w5.ownsRow B 25 1 (f 0) (E 0).length (E 0) := HX5.out.lr.r 0 (by omega)
  have c0 : w5.cell? ⟨b, 0, none⟩ = some (f 0) := HX5.out.cell (by omega)
  obtain ⟨o1, o2, o3, eO⟩ := owns_form rO
  rw [eO] at rO c0
  have ho2 := owns_lenq rO
  subst ho2
  have HPU : Hid (∀ {o : Obj} {g6 c6 : Nat} {w6 : World}, w6.ownsRow B 25 1 (.slice (some ⟨g6, 0, none⟩) ((E 0).length + 1) c6) ((E 0).length + 1) (E 0 ++ [sl2 g0 l.length]) →
      (((Value.slice o1 (E 0).length o3).ownBlock = some g6 ∧ (w5.alloc o).grownBy w6 (some g6)) ∨ (g6 = w5.heap.size + 1 ∧ (w5.alloc o).grownBy w6 none)) →
      HB w6 b f ∧ ∃ who' f', Lx B (w6.setCell ⟨b, 0, none⟩ (.slice (some ⟨g6, 0, none⟩) ((E 0).length + 1) c6)) b who' n f' K (setE E 0 (E 0 ++ [sl2 g0 l.length])) LI LC LR tail ∧
      Fr w5 (w6.setCell ⟨b, 0, none⟩ (.slice (some ⟨g6, 0, none⟩) ((E 0).length + 1) c6)) who5 who' (fun _ => False) ∧ (∀ j, j ≠ 0 → f' j = f j) ∧ (∀ g, who5 g = .lent → (w6.setCell ⟨b, 0, none⟩ (.slice (some ⟨g6, 0, none⟩) ((E 0).length + 1) c6)).heap[g]? = w5.heap[g]? ∧ who' g = .lent)) := by
    intro o g6 c6 w6 hown key
    rw [← eO] at key
    exact HX5.out.push (by omega) hown key
  have hbase : B ≤ w5.heap.size := by have := HX5.out.low; omega
  have HRO := hide rO
  have HEO := hide eO
  have h63a : (E 0).length + 1 ≤ maxLen := by unfold maxLen; omega
  have h63b : (E 1).length + 1 ≤ maxLen := by unfold maxLen; omega
  clear rO eO
  have HE1 : Hid (setE E 0 (E 0 ++ [sl2 g0 l.length]) 1 = E 1) := setE_ne _ _ (by omega)
  generalize hN0 : (E 0).length = N0 at *
  generalize hL0 : E 0 = L0 at *
  clear hN0 hL0
  go_upto_region 7 with (at_builtin; go_must (refine wpList_append_keeps rfl _ _ _ rfl B 25 i1 _ 1 24 Tryz.underlying38 hi1 hy0 hy1 hy2 rfl (by omega) (.slice o1 N0 o3) N0 L0 rfl (owns_alloc HRO.out) ⟨w5.heap.size, 0, none⟩ 1 1 [sl2 g0 l.length] rfl rfl (World.news_of_block (cs := #[.slice (some ⟨g0, 0, none⟩) (l.length + 2) (l.length + 2)]) (t := 25) (fr := (0, 0)) (heap_alloc_new w5 _)) (by simp [sl2, Value.oneCell']) (by omega) h63a (by omega) (by simp; omega) (w5.heap.size + 1) (by simp) ?_); intro g8 cap8 w8 hown8 key8 hlt8; have hb8 := (HPU.out hown8 key8).1; have p6 : w8.cell? ⟨b, 0, none⟩ = some (.slice o1 N0 o3) := (by rw [hb8.cell (by omega), HEO.out]); have p7 := hb8.frozen 0)
  obtain ⟨_, who9, f9, hx9, hf9, hj9, hl9⟩ := HPU.out hown8 key8
  generalize w8.setCell ⟨b, 0, none⟩ (.slice (some ⟨g8, 0, none⟩) (N0 + 1) cap8) = w9 at *
  generalize setE E 0 (L0 ++ [sl2 g0 l.length]) = E9 at *
  rw [← HE1.out] at hE1 h63b
  have rM : w9.ownsRow B 25 1 (f9 1) (E9 1).length (E9 1) := hx9.lr.r 1 (by omega)
  have c1 : w9.cell? ⟨b, 1, none⟩ = some (f9 1) := hx9.cell (by omega)
  obtain ⟨m1, m2, m3, eM⟩ := owns_form rM
  rw [eM] at rM c1
  have hm2 := owns_lenq rM
  subst hm2
  have HPU2 : Hid (∀ {o : Obj} {g6 c6 : Nat} {w6 : World}, w6.ownsRow B 25 1 (.slice (some ⟨g6, 0, none⟩) ((E9 1).length + 1) c6) ((E9 1).length + 1) (E9 1 ++ [.slice ao l.length cap]) →
      (((Value.slice m1 (E9 1).length m3).ownBlock = some g6 ∧ (w9.alloc o).grownBy w6 (some g6)) ∨ (g6 = w9.heap.size + 1 ∧ (w9.alloc o).grownBy w6 none)) →
      HB w6 b f9 ∧ ∃ who' f', Lx B (w6.setCell ⟨b, 1, none⟩ (.slice (some ⟨g6, 0, none⟩) ((E9 1).length + 1) c6)) b who' n f' K (setE E9 1 (E9 1 ++ [.slice ao l.length cap])) LI LC LR tail ∧
      Fr w9 (w6.setCell ⟨b, 1, none⟩ (.slice (some ⟨g6, 0, none⟩) ((E9 1).length + 1) c6)) who9 who' (fun _ => False) ∧ (∀ j, j ≠ 1 → f' j = f9 j) ∧ (∀ g, who9 g = .lent → (w6.setCell ⟨b, 1, none⟩ (.slice (some ⟨g6, 0, none⟩) ((E9 1).length + 1) c6)).heap[g]? = w9.heap[g]? ∧ who' g = .lent)) := by
    intro o g6 c6 w6 hown key
    rw [← eM] at key
    exact hx9.push (by omega) hown key
  have hbase9 : B ≤ w9.heap.size := by have := hx9.low; omega
  have HRM := hide rM
  have HEM := hide eM
  have HX9 := hide hx9
  have HF9 := hide (HF5.out.trans hf9)
  have HL9 := hide (hl9 g0 HW.out)
  have HI9 : Hid (IntsAt w9.heap.size w9 (.slice ao l.length cap) l ∧ valOther who9 (.slice ao l.length cap)) := int_keeps HI5.out HV5.out hf9
  clear rM eM hown8 key8 hb8 p6 p7 hlt8 c0 hx9 hf9 hj9 hl9 HPU HRO HEO HX5 HF5 HI5 HV5 HE1
  generalize hN1 : (E9 1).length = N1 at *
  generalize hL1 : E9 1 = L1 at *
  clear hN1
  go_upto_region 8 with (at_builtin; go_must (refine wpList_append_keeps rfl _ _ _ rfl B 25 i1 _ 1 24 Tryz.underlying38 hi1 hy0 hy1 hy2 rfl (by omega) (.slice m1 N1 m3) N1 L1 rfl (owns_alloc HRM.out) ⟨w9.heap.size, 0, none⟩ 1 1 [.slice ao l.length cap] rfl rfl (World.news_of_block (cs := #[.slice ao l.length cap]) (t := 25) (fr := (0, 0)) (heap_alloc_new w9 _)) (by simp [Value.oneCell']) (by omega) h63b (by omega) (by simp; omega) (w9.heap.size + 1) (by simp) ?_); intro g10 cap10 w10 hown10 key10 hlt10; have hb10 := (HPU2.out hown10 key10).1; have p6 : w10.cell? ⟨b, 1, none⟩ = some (.slice m1 N1 m3) := (by rw [hb10.cell (by omega), HEM.out]); have p7 := hb10.frozen 1)
  obtain ⟨_, who11, f11, hx11, hf11, hj11, hl11⟩ := HPU2.out hown10 key10
  generalize w10.setCell ⟨b, 1, none⟩ (.slice (some ⟨g10, 0, none⟩) (N1 + 1) cap10) = w11 at *
  have HFIN : Hid (Lx B w11 b who11 n f11 K (EL (LI ++ [(g0, l, .slice ao l.length cap)]) LC LR) (LI ++ [(g0, l, .slice ao l.length cap)]) LC LR tail ∧ Fr w w11 who who11 (fun _ => False)) := by
    obtain ⟨hI11, hV11⟩ := int_keeps HI9.out.1 HI9.out.2 hf11
    have hl := hl11 g0 HL9.out.2
    refine ⟨⟨hx11.hs, ?_, hx11.le.addInts (by rw [hl.1, HL9.out.1]; exact HR5.out) hl.2 hI11 hV11 hln HNI.out⟩, HF9.out.trans hf11⟩
    have := hx11.lr
    rw [HEE.out] at this
    exact this
  clear hown10 key10 hb10 p6 p7 hlt10 c1 hx11 hf11 hj11 hl11 HPU2 HRM HEM HX9 HF9 HI9
  have q2 : (l.length : Int) ≤ (l.length : Int) + 2 := by omega
  go_wp2_with fail
  go_ret
  exact ⟨g0, who11, f11, rfl, HFIN.out.1, HFIN.out.2⟩

end Go.Proofs.YtklenjmfalljgaaGreatDoor
