/- append, and what becomes of the old row; the walk of keepInts. -/
import Derived.Test.YthgeiolabecikaaDoorHnd3
namespace Go.Proofs.YthgeiolabecikaaDoor
open Go.RowKit
attribute [local go_sem] Go.World.cell?_alloc_some

section
variable {P : Program} {w : World}
/-- append: in its own row, or in a new one, and then all else stands, the old row too. -/
theorem wpList_append_keeps {ops : Array Oper} {rest : List Oper} {o : Oper} {a : Act} {Q : Exit → Act → World → Prop} (hgd : o.guard = none) (s x : Operand) (t : TypeId)
    (ho : o.op = .call { callee := .builtin .append, args := #[s, x], argTypes := #[t, t] })
    (base : Nat) (e : TypeId) (i : TypeInfo) (z : Value) (size bytes : Nat) (ht : P.underlying t = some (.slice e)) (hi : P.info? e = some i) (hz : i.zero = some z)
    (hsize : i.size = size) (hby : i.bytes = bytes) (hzs : z.cells.size = size) (hsz : 0 < size)
    (v : Value) (n : Nat) (xs : List Value) (hs : a.eval s = v) (hown : w.ownsRow base e size v n xs)
    (ad : Addr) (m c : Nat) (news : List Value) (hx : a.eval x = .slice (some ad) m c) (hl : news.length = m * size) (hnews : ∀ j u, news[j]? = some u → w.cell? (ad.add j) = some u) (h1 : ∀ u ∈ news, u.oneCell' = true)
    (hm : 0 < m) (h63 : n + m ≤ maxLen) (hbytes : (n + m) * bytes ≤ 140737488355328) (hbase : base ≤ w.heap.size) (H : Nat) (hH : w.heap.size = H)
    (h : ∀ g cap w', w'.ownsRow base e size (.slice (some ⟨g, 0, none⟩) (n + m) cap) (n + m) (xs ++ news) → ((v.ownBlock = some g ∧ w.grownBy w' (some g)) ∨ (g = H ∧ w.grownBy w' none)) → g < w'.heap.size → wpList P ops Q rest (a.put o.dst (.slice (some ⟨g, 0, none⟩) (n + m) cap)) w') : wpList P ops Q (o :: rest) a w := by
  refine wpList_plain hgd fun K hK => ?_
  obtain ⟨g, cap, w', hr, h2, h3, h4, h5⟩ := run_append_lies (P := P) w t o.type base e i z size bytes ht hi hz hsize hby hzs hsz v n xs hown ad m c news hl hnews h1 hm h63 hbytes hbase H hH
  have key : (v.ownBlock = some g ∧ w.grownBy w' (some g)) ∨ (g = H ∧ w.grownBy w' none) := by
    have hsmall : n + m ≤ 9223372036854775807 := by simp only [maxLen] at h63; omega
    rcases hown.2 with ⟨rfl, rfl⟩ | ⟨g0, cap0, cur, rfl, hbg, hg, hnc, hcm, hcs, htake⟩
    · rcases h4 with h4 | h4
      · cases h4
      · exact Or.inr ⟨h4, h3⟩
    · by_cases hroom : n + m ≤ cap0
      · obtain ⟨w2, hr2, h6, h7⟩ := run_append_fits (P := P) w base t o.type e i size ht hi hsize g0 n cap0 xs hown ad m c news hl hnews h1 hroom
        rw [hr] at hr2
        simp only [Result.ok.injEq, Value.slice.injEq, Option.some.injEq, Addr.mk.injEq, true_and, and_true] at hr2
        obtain ⟨⟨rfl, rfl⟩, rfl⟩ := hr2
        exact Or.inl ⟨rfl, h7⟩
      · subst hsize
        subst hby
        have holds : ∀ j u, xs[j]? = some u → w.cell? ((⟨g0, 0, none⟩ : Addr).add j) = some u := hown.cells (g := g0) rfl
        have hr2 := run_append_grow (P := P) w t o.type e i z ht hi hz ⟨g0, 0, none⟩ n cap0 xs hown.1 holds ad m c news hl hnews (by omega) (by omega) (growslice_fits (by omega) hbytes)
        rw [hr] at hr2
        simp only [Result.ok.injEq, Value.slice.injEq, Option.some.injEq, Addr.mk.injEq, true_and, and_true] at hr2
        obtain ⟨⟨rfl, rfl⟩, rfl⟩ := hr2
        exact Or.inr ⟨hH, ⟨rfl, rfl, rfl, by simp, fun k hk _ => Below.heap_alloc w.drew _ k hk⟩⟩
  unfold Oper.wp execOp
  simp only [ho, resolve, invoke, builtin, Sem.run_bind, Sem.run_pure, Result.andThen_ok, List.map_toArray, List.map_cons, List.map_nil, hs, hx, hr]
  exact hK _ _ (h g cap w' h2 key h5)
end

/-- A list that came out and was written full: it reads so. -/
def Kept (w : World) (x : Value × Int) : Prop := x.1 = .slice none 0 0 ∨ ∃ g len cap, x.1 = .slice (some ⟨g, 0, none⟩) len cap ∧ len ≤ 1000 ∧ ∀ k, k < len → w.cell? ⟨g, k, none⟩ = some (.int .i64 x.2)

structure KeptAll (B : Nat) (w : World) (b : Nat) (ov mv : Value) (K : List (Value × Int)) : Prop where
  orow : w.ownsRow B 25 1 ov K.length (K.map (·.1))
  mrow : w.ownsRow B 3 1 mv K.length (ints (K.map (·.2)))
  ob : ov.ownBlock ≠ some b
  mb : mv.ownBlock ≠ some b
  om : ∀ g, ov.ownBlock = some g → mv.ownBlock ≠ some g
  kept : ∀ x ∈ K, Kept w x ∧ ∀ g, x.1.ownBlock = some g → g ≠ b ∧ ov.ownBlock ≠ some g ∧ mv.ownBlock ≠ some g ∧ g < w.heap.size
  lo : B ≤ b

/-- The hands between two calls. -/
def Hd (B : Nat) (w : World) (b : Nat) (n : Int) (K : List (Value × Int)) : Prop := ∃ ov mv, HAt w b (.slice none 0 0) (.slice none 0 0) n ov mv ∧ KeptAll B w b ov mv K

theorem Kept.grown {w w' : World} {x : Value × Int} {r : Option Nat} (h : Kept w x) (hg : w.grownBy w' r) (hr : ∀ g, x.1.ownBlock = some g → r ≠ some g ∧ g < w.heap.size) : Kept w' x := by
  rcases h with h | ⟨g, len, cap, e, hl, hc⟩
  · exact Or.inl h
  · obtain ⟨h1, h2⟩ := hr g (by rw [e]; rfl)
    refine Or.inr ⟨g, len, cap, e, hl, fun k hk => ?_⟩
    rw [World.cell?_of_block (hg.block g h2 (fun e => h1 e.symm))]; exact hc k hk
theorem owns_lt {w : World} {base : Nat} {e : TypeId} {size : Nat} {v : Value} {n : Nat} {xs : List Value} (h : w.ownsRow base e size v n xs) : ∀ g, v.ownBlock = some g → g < w.heap.size := by
  intro g hg
  rcases h.2 with ⟨e1, _⟩ | ⟨g', cap, cur, hv, hb, hh, _⟩
  · rw [e1] at hg; cases hg
  · rw [hv] at hg; simp [Value.ownBlock] at hg; rw [← hg]; exact (Array.getElem?_eq_some_iff.1 hh).1
theorem owns_step' {w w' : World} {base : Nat} {e : TypeId} {size : Nat} {v : Value} {n : Nat} {xs : List Value} {r : Option Nat} (h : w.ownsRow base e size v n xs) (hg : w.grownBy w' r) (hr : ∀ g, v.ownBlock = some g → r ≠ some g) : w'.ownsRow base e size v n xs := by
  obtain ⟨h1, h2⟩ := h
  refine ⟨h1, ?_⟩
  rcases h2 with h2 | ⟨g, cap, cur, hv, hb, hh, rest⟩
  · exact Or.inl h2
  · refine Or.inr ⟨g, cap, cur, hv, hb, ?_, rest⟩
    rw [hg.block g (Array.getElem?_eq_some_iff.1 hh).1 (fun e => hr g (by rw [hv]; rfl) e.symm)]; exact hh

/-- What changes blocks that are not the hands' leaves them. -/
theorem KeptAll.grown {B : Nat} {w w' : World} {b : Nat} {ov mv : Value} {K : List (Value × Int)} {r : Option Nat} (h : KeptAll B w b ov mv K) (hg : w.grownBy w' r) (ho : ∀ g, r = some g → ov.ownBlock ≠ some g ∧ mv.ownBlock ≠ some g ∧ ∀ x ∈ K, x.1.ownBlock ≠ some g) : KeptAll B w' b ov mv K := by
  refine ⟨owns_step' h.orow hg (fun g e1 e2 => (ho g e2).1 e1), owns_step' h.mrow hg (fun g e1 e2 => (ho g e2).2.1 e1), h.ob, h.mb, h.om, fun x hx => ?_, h.lo⟩
  obtain ⟨k1, k2⟩ := h.kept x hx
  refine ⟨k1.grown hg (fun g e => ⟨fun e2 => (ho g e2).2.2 x hx e, (k2 g e).2.2.2⟩), fun g e => ?_⟩
  obtain ⟨h1, h2, h3, h4⟩ := k2 g e
  exact ⟨h1, h2, h3, Nat.lt_of_lt_of_le h4 hg.size⟩

theorem Hd.grown {B : Nat} {w w' : World} {b : Nat} {n : Int} {K : List (Value × Int)} (h : Hd B w b n K) (hg : w.grownBy w' none) : Hd B w' b n K := by
  obtain ⟨ov, mv, h1, h2⟩ := h
  exact ⟨ov, mv, h1.grown hg (by simp), h2.grown hg (fun g e => by cases e)⟩

/-- In the midst of keepInts: lists kept, marks kept, the list that is written. -/
structure KS (W : World) (B : Nat) (w : World) (b : Nat) (n m : Int) (ov mv lv : Value) (len : Nat) (K : List (Value × Int)) (M : List Int) : Prop where
  h : HAt w b (.slice none 0 0) (.slice none 0 0) n ov mv
  orow : w.ownsRow B 25 1 ov K.length (K.map (·.1))
  mrow : w.ownsRow B 3 1 mv M.length (ints M)
  lrow : w.ownsRow B 3 1 lv len (List.replicate len (.int .i64 m))
  ob : ov.ownBlock ≠ some b
  mb : mv.ownBlock ≠ some b
  lb : lv.ownBlock ≠ some b
  om : ∀ g, ov.ownBlock = some g → mv.ownBlock ≠ some g
  ol : ∀ g, ov.ownBlock = some g → lv.ownBlock ≠ some g
  ml : ∀ g, mv.ownBlock = some g → lv.ownBlock ≠ some g
  kept : ∀ x ∈ K, Kept w x ∧ ∀ g, x.1.ownBlock = some g → g ≠ b ∧ ov.ownBlock ≠ some g ∧ mv.ownBlock ≠ some g ∧ g < w.heap.size ∧ (lv.ownBlock = some g → x.2 = m ∧ ∃ l c, x.1 = .slice (some ⟨g, 0, none⟩) l c ∧ l ≤ len)
  lo : B ≤ b
  ln : len ≤ 1000
  base : W.grownBy w none
  wb : W.heap.size ≤ B

theorem grown_some {w w' : World} {r : Option Nat} (h : w.grownBy w' none) : w.grownBy w' r := ⟨h.os, h.tape, h.output, h.size, fun k hk _ => h.block k hk (by simp)⟩

/-- The frame of an append behind a new block. -/
theorem key_frame {w w6 : World} {o : Obj} {v : Value} {g6 : Nat} (key : (v.ownBlock = some g6 ∧ (w.alloc o).grownBy w6 (some g6)) ∨ (g6 = w.heap.size + 1 ∧ (w.alloc o).grownBy w6 none)) :
    ∃ r, w.grownBy w6 r ∧ (∀ g, r = some g → v.ownBlock = some g) ∧ (∀ g, g < w.heap.size → v.ownBlock ≠ some g → g6 ≠ g) ∧ (∀ g, g < w.heap.size → v.ownBlock ≠ some g → w6.heap[g]? = w.heap[g]?) ∧ w.heap.size ≤ w6.heap.size := by
  rcases key with ⟨e, hg⟩ | ⟨e, hg⟩
  · have hw : w.grownBy w6 (some g6) := grown_trans (grown_alloc (grown_refl _ _)) hg
    exact ⟨some g6, hw, fun g e2 => (by rw [e, e2]), fun g _ h2 e3 => h2 (by rw [e, e3]), fun g h1 h2 => hw.block g h1 (fun e3 => h2 (by rw [e, e3])), hw.size⟩
  · have hw : w.grownBy w6 none := grown_trans (grown_alloc (grown_refl _ _)) hg
    exact ⟨none, hw, fun g e2 => (by cases e2), fun g h1 _ e3 => (by omega), fun g h1 _ => hw.block g h1 (by simp), hw.size⟩

theorem Kept.same {w w' : World} {x : Value × Int} (h : Kept w x) (hb : ∀ g, x.1.ownBlock = some g → w'.heap[g]? = w.heap[g]?) : Kept w' x := by
  rcases h with h | ⟨g, len, cap, e, hl, hc⟩
  · exact Or.inl h
  · refine Or.inr ⟨g, len, cap, e, hl, fun k hk => ?_⟩
    rw [World.cell?_of_block (hb g (by rw [e]; rfl))]; exact hc k hk
theorem owns_same {w w' : World} {base : Nat} {e : TypeId} {size : Nat} {v : Value} {n : Nat} {xs : List Value} (h : w.ownsRow base e size v n xs) (hb : ∀ g, v.ownBlock = some g → w'.heap[g]? = w.heap[g]?) : w'.ownsRow base e size v n xs := by
  obtain ⟨h1, h2⟩ := h
  refine ⟨h1, ?_⟩
  rcases h2 with h2 | ⟨g, cap, cur, hv, hbb, hh, rest⟩
  · exact Or.inl h2
  · exact Or.inr ⟨g, cap, cur, hv, hbb, by rw [hb g (by rw [hv]; rfl)]; exact hh, rest⟩
theorem base_row {W w w6 : World} {r : Option Nat} {v : Value} {B : Nat} (h : W.grownBy w none) (hB : W.heap.size ≤ B) (hg : w.grownBy w6 r) (hr : ∀ g, r = some g → v.ownBlock = some g) (hv : ∀ g, v.ownBlock = some g → B ≤ g) : W.grownBy w6 none :=
  ⟨hg.os.trans h.os, hg.tape.trans h.tape, hg.output.trans h.output, Nat.le_trans h.size hg.size, fun k hk _ => by
    rw [hg.block k (Nat.lt_of_lt_of_le hk h.size) (fun e => by have := hv k (hr k e.symm); omega)]; exact h.block k hk (by simp)⟩

section
variable {W : World} {B : Nat} {w : World} {b : Nat} {n m : Int} {ov mv lv : Value} {len : Nat} {K : List (Value × Int)} {M : List Int}

/-- h.out = append(h.out, l). -/
theorem KS.out (s : KS W B w b n m ov mv lv len K M) {w6 : World} {o : Obj} {g6 c6 : Nat} (hown : w6.ownsRow B 25 1 (.slice (some ⟨g6, 0, none⟩) (K.length + 1) c6) (K.length + 1) (K.map (·.1) ++ [lv]))
    (key : (ov.ownBlock = some g6 ∧ (w.alloc o).grownBy w6 (some g6)) ∨ (g6 = w.heap.size + 1 ∧ (w.alloc o).grownBy w6 none)) :
    KS W B (w6.setCell ⟨b, 6, none⟩ (.slice (some ⟨g6, 0, none⟩) (K.length + 1) c6)) b n m (.slice (some ⟨g6, 0, none⟩) (K.length + 1) c6) mv lv len (K ++ [(lv, m)]) M := by
  obtain ⟨r, hg, hr, hne, hsame, hsz⟩ := key_frame key
  have hb := s.h.lt
  have hg6b : g6 ≠ b := hne b hb s.ob
  have oth : ∀ g, g < w.heap.size → ov.ownBlock ≠ some g → g ≠ b → (w6.setCell ⟨b, 6, none⟩ (.slice (some ⟨g6, 0, none⟩) (K.length + 1) c6)).heap[g]? = w.heap[g]? := fun g h1 h2 h3 => by
    rw [Below.heap_setCell _ _ _ _ (by simpa using h3)]; exact hsame g h1 h2
  have hmL := owns_lt s.mrow
  have hlL := owns_lt s.lrow
  refine ⟨?_, ?_, owns_same s.mrow (fun g e => oth g (hmL g e) (fun e2 => s.om g e2 e) (fun e2 => s.mb (by rw [e, e2]))), owns_same s.lrow (fun g e => oth g (hlL g e) (fun e2 => s.ol g e2 e) (fun e2 => s.lb (by rw [e, e2]))),
    by simpa [Value.ownBlock] using hg6b, s.mb, s.lb, ?_, ?_, s.ml, ?_, s.lo, s.ln, ?_, s.wb⟩
  · refine HAt.set6 (ov := ov) ?_ _
    have := s.h
    unfold HAt at *
    rw [hsame b hb s.ob]; exact this
  · refine ownsRow_setCell_other ?_ (by simpa [Value.ownBlock] using hg6b) _
    simpa using hown
  · intro g e e2
    simp only [Value.ownBlock, Option.some.injEq] at e
    exact hne g (hmL g e2) (fun e3 => s.om g e3 e2) e
  · intro g e e2
    simp only [Value.ownBlock, Option.some.injEq] at e
    exact hne g (hlL g e2) (fun e3 => s.ol g e3 e2) e
  · intro x hx
    rcases List.mem_append.1 hx with hx | hx
    · obtain ⟨k1, k2⟩ := s.kept x hx
      refine ⟨k1.same (fun g e => by obtain ⟨h1, h2, h3, h4, _⟩ := k2 g e; exact oth g h4 h2 h1), fun g e => ?_⟩
      obtain ⟨h1, h2, h3, h4, h5⟩ := k2 g e
      exact ⟨h1, by simpa [Value.ownBlock] using hne g h4 h2, h3, by simp; omega, h5⟩
    · simp at hx
      subst hx
      refine ⟨?_, fun g e => ⟨fun e2 => s.lb (by rw [← e2]; exact e), by simpa [Value.ownBlock] using hne g (hlL g e) (fun e3 => s.ol g e3 e), fun e3 => s.ml g e3 e, by have := hlL g e; simp; omega, fun _ => ⟨rfl, ?_⟩⟩⟩
      · rcases s.lrow.2 with ⟨e, _⟩ | ⟨g, cap, cur, hv, hbb, hh, hc1, hc2, hc3, hc4⟩
        · exact Or.inl e
        · refine Or.inr ⟨g, len, cap, hv, s.ln, fun k hk => ?_⟩
          have hlr := s.lrow
          rw [hv] at hlr
          rw [World.cell?_of_block (oth g (Array.getElem?_eq_some_iff.1 hh).1 (fun e3 => s.ol g e3 (by rw [hv]; rfl)) (fun e3 => s.lb (by rw [hv, ← e3]; rfl))), hlr.cellAt k (by omega)]
          simp [hk]
      · rcases s.lrow.2 with ⟨e2, _⟩ | ⟨g', cap, cur, hv, _⟩
        · rw [e2] at e; cases e
        · rw [hv] at e
          simp only [Value.ownBlock, Option.some.injEq] at e
          exact ⟨len, cap, by rw [hv, e], Nat.le_refl _⟩
  · exact grown_setNew (base_row s.base s.wb hg hr (owns_block s.orow)) (by have := s.lo; have := s.wb; omega)

/-- h.marks = append(h.marks, m). -/
theorem KS.mark (s : KS W B w b n m ov mv lv len K M) {w6 : World} {o : Obj} {g6 c6 : Nat} (hown : w6.ownsRow B 3 1 (.slice (some ⟨g6, 0, none⟩) (M.length + 1) c6) (M.length + 1) (ints M ++ [.int .i64 m]))
    (key : (mv.ownBlock = some g6 ∧ (w.alloc o).grownBy w6 (some g6)) ∨ (g6 = w.heap.size + 1 ∧ (w.alloc o).grownBy w6 none)) :
    KS W B (w6.setCell ⟨b, 7, none⟩ (.slice (some ⟨g6, 0, none⟩) (M.length + 1) c6)) b n m ov (.slice (some ⟨g6, 0, none⟩) (M.length + 1) c6) lv len K (M ++ [m]) := by
  obtain ⟨r, hg, hr, hne, hsame, hsz⟩ := key_frame key
  have hb := s.h.lt
  have hg6b : g6 ≠ b := hne b hb s.mb
  have oth : ∀ g, g < w.heap.size → mv.ownBlock ≠ some g → g ≠ b → (w6.setCell ⟨b, 7, none⟩ (.slice (some ⟨g6, 0, none⟩) (M.length + 1) c6)).heap[g]? = w.heap[g]? := fun g h1 h2 h3 => by
    rw [Below.heap_setCell _ _ _ _ (by simpa using h3)]; exact hsame g h1 h2
  have hoL := owns_lt s.orow
  have hlL := owns_lt s.lrow
  refine ⟨?_, owns_same s.orow (fun g e => oth g (hoL g e) (fun e2 => s.om g e e2) (fun e2 => s.ob (by rw [e, e2]))), ?_, owns_same s.lrow (fun g e => oth g (hlL g e) (fun e2 => s.ml g e2 e) (fun e2 => s.lb (by rw [e, e2]))),
    s.ob, by simpa [Value.ownBlock] using hg6b, s.lb, ?_, s.ol, ?_, ?_, s.lo, s.ln, ?_, s.wb⟩
  · refine HAt.set7 (mv := mv) ?_ _
    have := s.h
    unfold HAt at *
    rw [hsame b hb s.mb]; exact this
  · refine ownsRow_setCell_other ?_ (by simpa [Value.ownBlock] using hg6b) _
    simpa [ints] using hown
  · intro g e e2
    simp only [Value.ownBlock, Option.some.injEq] at e2
    exact hne g (hoL g e) (fun e3 => s.om g e e3) e2
  · intro g e e2
    simp only [Value.ownBlock, Option.some.injEq] at e
    exact hne g (hlL g e2) (fun e3 => s.ml g e3 e2) e
  · intro x hx
    obtain ⟨k1, k2⟩ := s.kept x hx
    refine ⟨k1.same (fun g e => by obtain ⟨h1, h2, h3, h4, _⟩ := k2 g e; exact oth g h4 h3 h1), fun g e => ?_⟩
    obtain ⟨h1, h2, h3, h4, h5⟩ := k2 g e
    exact ⟨h1, h2, by simpa [Value.ownBlock] using hne g h4 h3, by simp; omega, h5⟩
  · exact grown_setNew (base_row s.base s.wb hg hr (owns_block s.mrow)) (by have := s.lo; have := s.wb; omega)

/-- l = append(l, m). -/
theorem KS.list (s : KS W B w b n m ov mv lv len K M) (hl : len + 1 ≤ 1000) {w6 : World} {o : Obj} {g6 c6 : Nat} (hown : w6.ownsRow B 3 1 (.slice (some ⟨g6, 0, none⟩) (len + 1) c6) (len + 1) (List.replicate len (.int .i64 m) ++ [.int .i64 m]))
    (key : (lv.ownBlock = some g6 ∧ (w.alloc o).grownBy w6 (some g6)) ∨ (g6 = w.heap.size + 1 ∧ (w.alloc o).grownBy w6 none)) :
    KS W B w6 b n m ov mv (.slice (some ⟨g6, 0, none⟩) (len + 1) c6) (len + 1) K M := by
  obtain ⟨r, hg, hr, hne, hsame, hsz⟩ := key_frame key
  have hb := s.h.lt
  have hg6b : g6 ≠ b := hne b hb s.lb
  have hoL := owns_lt s.orow
  have hmL := owns_lt s.mrow
  have hrow : w6.ownsRow B 3 1 (.slice (some ⟨g6, 0, none⟩) (len + 1) c6) (len + 1) (List.replicate (len + 1) (.int .i64 m)) := by rw [List.replicate_succ']; exact hown
  refine ⟨?_, owns_same s.orow (fun g e => hsame g (hoL g e) (s.ol g e)), owns_same s.mrow (fun g e => hsame g (hmL g e) (s.ml g e)), hrow, s.ob, s.mb, by simpa [Value.ownBlock] using hg6b, s.om, ?_, ?_, ?_, s.lo, hl, ?_, s.wb⟩
  · have := s.h
    unfold HAt at *
    rw [hsame b hb s.lb]; exact this
  · intro g e e2
    simp only [Value.ownBlock, Option.some.injEq] at e2
    exact hne g (hoL g e) (s.ol g e) e2
  · intro g e e2
    simp only [Value.ownBlock, Option.some.injEq] at e2
    exact hne g (hmL g e) (s.ml g e) e2
  · intro x hx
    obtain ⟨k1, k2⟩ := s.kept x hx
    refine ⟨?_, fun g e => ?_⟩
    · rcases k1 with k1 | ⟨g, l, c, e, hl1, hc⟩
      · exact Or.inl k1
      · obtain ⟨h1, h2, h3, h4, h5⟩ := k2 g (by rw [e]; rfl)
        refine Or.inr ⟨g, l, c, e, hl1, fun k hk => ?_⟩
        by_cases hlg : lv.ownBlock = some g
        · obtain ⟨h6, l', c', e', hl'⟩ := h5 hlg
          rw [e] at e'
          simp only [Value.slice.injEq, true_and] at e'
          rcases key with ⟨e2, _⟩ | ⟨e2, hg2⟩
          · have : g6 = g := by rw [hlg] at e2; exact (Option.some.inj e2).symm
            subst this
            rw [hrow.cellAt k (by omega), h6, List.getElem?_replicate, if_pos (by omega)]
          · have hw : w.grownBy w6 none := grown_trans (grown_alloc (grown_refl _ _)) hg2
            rw [World.cell?_of_block (hw.block g h4 (by simp))]; exact hc k hk
        · rw [World.cell?_of_block (hsame g h4 hlg)]; exact hc k hk
    · obtain ⟨h1, h2, h3, h4, h5⟩ := k2 g e
      refine ⟨h1, h2, h3, by omega, fun e2 => ?_⟩
      simp only [Value.ownBlock, Option.some.injEq] at e2
      by_cases hlg : lv.ownBlock = some g
      · obtain ⟨h6, l', c', e', hl'⟩ := h5 hlg
        exact ⟨h6, l', c', e', by omega⟩
      · exact absurd e2 (hne g h4 hlg)
  · exact base_row s.base s.wb hg hr (owns_block s.lrow)
end

end Go.Proofs.YthgeiolabecikaaDoor
