/- The texts Hgh Hgi. -/
import Derived.Test.YtklenjmfalljgaaGreatDoorM05

/- Code that is copied; an append inside a region, and what becomes of the old row; code and rows that are lent. -/
namespace Go.Proofs.YtklenjmfalljgaaGreatDoor
open Go.RowKit

section
variable {P : Program}
theorem run_copy_front (w : World) (dT sT ty elem : TypeId) (g dLen dCap : Nat) (a : Addr) (sLen sCap sz : Nat) (cur : Array Value) (t : TypeId) (cs : List Value)
    (hu : P.underlying dT = some (.slice elem)) (hs : (P.info? elem).map (·.size) = some sz)
    (hg : w.heap[g]? = some (.cells cur t (0, 0))) (hn : cs.length = Nat.min sLen dLen * sz)
    (hsrc : ∀ j v, cs[j]? = some v → w.cell? (a.add j) = some v) (hfit : cs.length ≤ cur.size) (h1 : ∀ v ∈ cs, v.oneCell' = true) :
    (Builtin.copy_ #[dT, sT] ty #[.slice (some ⟨g, 0, none⟩) dLen dCap, .slice (some a) sLen sCap]).run P w =
      .ok (goInt (Nat.min sLen dLen)) (w.setRow g (cs ++ cur.toList.drop cs.length).toArray) := by
  have hl := run_loadCells_list (P := P) w a cs hsrc
  have hst := run_storeCells_at P g 0 t cs 0 cur w hg (by omega) h1
  have e : (cur.toList.take (0 + 0) ++ cs ++ cur.toList.drop (0 + 0 + cs.length)) = cs ++ cur.toList.drop cs.length := by simp
  rw [e] at hst
  cases hq : P.info? elem with
  | none => simp [hq] at hs
  | some i =>
    have hi : i.size = sz := by simpa [hq] using hs
    simp [Builtin.copy_, run_underlying hu, Builtin.lenOf, Builtin.firstCells, sizeOf, typeInfo, hq, hi, ← hn, hl, hst]

theorem wp_append_keeps {w : World} {o : Oper} {a : Act} {K : Act → World → Prop} {Q : Exit → Act → World → Prop} (s x : Operand) (t : TypeId)
    (ho : o.op = .call { callee := .builtin .append, args := #[s, x], argTypes := #[t, t] })
    (base : Nat) (e : TypeId) (i : TypeInfo) (z : Value) (size bytes : Nat) (ht : P.underlying t = some (.slice e)) (hi : P.info? e = some i) (hz : i.zero = some z)
    (hsize : i.size = size) (hby : i.bytes = bytes) (hzs : z.cells.size = size) (hsz : 0 < size)
    (v : Value) (n : Nat) (xs : List Value) (hs : a.eval s = v) (hown : w.ownsRow base e size v n xs)
    (ad : Addr) (m c : Nat) (news : List Value) (hx : a.eval x = .slice (some ad) m c) (hl : news.length = m * size) (hnews : ∀ j u, news[j]? = some u → w.cell? (ad.add j) = some u) (h1 : ∀ u ∈ news, u.oneCell' = true)
    (hm : 0 < m) (h63 : n + m ≤ maxLen) (hbytes : (n + m) * bytes ≤ 140737488355328) (hbase : base ≤ w.heap.size) (H : Nat) (hH : w.heap.size = H)
    (h : ∀ g cap w', w'.ownsRow base e size (.slice (some ⟨g, 0, none⟩) (n + m) cap) (n + m) (xs ++ news) → ((v.ownBlock = some g ∧ w.grownBy w' (some g)) ∨ (g = H ∧ w.grownBy w' none)) → g < w'.heap.size → K (a.put o.dst (.slice (some ⟨g, 0, none⟩) (n + m) cap)) w') : o.wp P a w K Q := by
  obtain ⟨g, cap, w', hr, h2, h3, h4, h5⟩ := run_append_lies (P := P) w t o.type base e i z size bytes ht hi hz hsize hby hzs hsz v n xs hown ad m c news hl hnews h1 hm h63 hbytes hbase H hH
  have key : (v.ownBlock = some g ∧ w.grownBy w' (some g)) ∨ (g = H ∧ w.grownBy w' none) := by
    have hsmall : n + m ≤ 9223372036854775807 := by simp only [maxLen] at h63; omega
    rcases hown.2 with ⟨rfl, rfl⟩ | ⟨g0, cap0, cur, rfl, hbg, hg, hnc, hcm, hcs, htake⟩
    · rcases h4 with h4 | h4
      · cases h4
      · exact Or.inr ⟨h4, h3⟩
    · by_cases hroom : n + m ≤ cap0
      · obtain ⟨w2, hr2, h6, h7⟩ := run_append_fits (P := P) w base t o.type e i size ht hi hsize g0 n cap0 xs hown ad m c news hl hnews h1 hroom
        rw [hr] at hr2
        simp only [Result.ok.injEq, Value.slice.injEq, Option.some.injEq, Addr.mk.injEq, true_and, and_true] at hr2
        obtain ⟨⟨rfl, rfl⟩, rfl⟩ := hr2
        exact Or.inl ⟨rfl, h7⟩
      · subst hsize
        subst hby
        have holds : ∀ j u, xs[j]? = some u → w.cell? ((⟨g0, 0, none⟩ : Addr).add j) = some u := hown.cells (g := g0) rfl
        have hr2 := run_append_grow (P := P) w t o.type e i z ht hi hz ⟨g0, 0, none⟩ n cap0 xs hown.1 holds ad m c news hl hnews (by omega) (by omega) (growslice_fits (by omega) hbytes)
        rw [hr] at hr2
        simp only [Result.ok.injEq, Value.slice.injEq, Option.some.injEq, Addr.mk.injEq, true_and, and_true] at hr2
        obtain ⟨⟨rfl, rfl⟩, rfl⟩ := hr2
        exact Or.inr ⟨hH, ⟨rfl, rfl, rfl, by simp, fun k hk _ => Below.heap_alloc w.drew _ k hk⟩⟩
  unfold Oper.wp execOp
  simp only [ho, resolve, invoke, builtin, Sem.run_bind, Sem.run_pure, Result.andThen_ok, List.map_toArray, List.map_cons, List.map_nil, hs, hx, hr]
  exact h g cap w' h2 key h5
end

def codeL (c : List Ins) : List Value := c.flatMap insL
theorem codeL_len (c : List Ins) : (codeL c).length = c.length * 4 := by
  induction c with
  | nil => rfl
  | cons i c ih => simp only [codeL, List.flatMap_cons, List.length_append] at *; rw [ih]; simp [insL]; omega
theorem codeL_one (c : List Ins) : ∀ v ∈ codeL c, v.oneCell' = true := by
  intro v hv
  simp only [codeL, List.mem_flatMap, insL, List.mem_cons, List.not_mem_nil, or_false] at hv
  obtain ⟨i, _, rfl | rfl | rfl | rfl⟩ := hv <;> rfl
theorem codeL_get : ∀ (c : List Ins) (k : Nat) (hk : k < c.length), (codeL c)[k * 4]? = some (.int .i64 c[k].op) ∧ (codeL c)[k * 4 + 1]? = some (.int .i64 c[k].a) ∧ (codeL c)[k * 4 + 2]? = some (.int .i64 c[k].b) ∧ (codeL c)[k * 4 + 3]? = some (.int .i64 c[k].n)
  | [], k, hk => by simp at hk
  | i :: c, 0, hk => by simp [codeL, insL]
  | i :: c, k + 1, hk => by
    have h := codeL_get c k (by simpa using hk)
    have e : codeL (i :: c) = insL i ++ codeL c := by simp [codeL]
    have e4 : ∀ j, (codeL (i :: c))[(k + 1) * 4 + j]? = (codeL c)[k * 4 + j]? := fun j => by
      rw [e, List.getElem?_append_right (by simp [insL]; omega)]
      congr 1
      simp [insL]; omega
    refine ⟨?_, ?_, ?_, ?_⟩
    · have := e4 0; simp only [Nat.add_zero] at this; rw [this]; simpa using h.1
    · rw [e4 1]; simpa using h.2.1
    · rw [e4 2]; simpa using h.2.2.1
    · rw [e4 3]; simpa using h.2.2.2
theorem codeL_cells {w : World} {ad : Addr} {cap : Nat} {c : List Ins} (h : CodeAt w (.slice (some ad) c.length cap) c) : ∀ j v, (codeL c)[j]? = some v → w.cell? (ad.add j) = some v := by
  intro j v hj
  have hjl := (List.getElem?_eq_some_iff.1 hj).1
  rw [codeL_len] at hjl
  obtain ⟨ao, cap', e, h⟩ := h
  have hk : j / 4 < c.length := by omega
  obtain ⟨g, o, rfl, e1, e2, e3, e4⟩ := h (j / 4) hk
  simp only [Value.slice.injEq, Option.some.injEq] at e
  obtain ⟨rfl, _⟩ := e
  have hadd : (⟨g, o, none⟩ : Addr).add j = ⟨g, o + j, none⟩ := by unfold Addr.add; split <;> simp_all
  obtain ⟨g1, g2, g3, g4⟩ := codeL_get c (j / 4) hk
  rw [hadd]
  rcases (by omega : j % 4 = 0 ∨ j % 4 = 1 ∨ j % 4 = 2 ∨ j % 4 = 3) with h0 | h0 | h0 | h0
  · have ej : j = j / 4 * 4 := by omega
    rw [ej, g1] at hj
    rw [ej]; rw [e1]; exact hj
  · have ej : j = j / 4 * 4 + 1 := by omega
    rw [ej, g2] at hj
    rw [ej, ← Nat.add_assoc]; rw [e2]; exact hj
  · have ej : j = j / 4 * 4 + 2 := by omega
    rw [ej, g3] at hj
    rw [ej, ← Nat.add_assoc]; rw [e3]; exact hj
  · have ej : j = j / 4 * 4 + 3 := by omega
    rw [ej, g4] at hj
    rw [ej, ← Nat.add_assoc]; rw [e4]; exact hj

theorem run_copy_code {P : Program} (w : World) (t ty elem : TypeId) (hu : P.underlying t = some (.slice elem)) (hsz : (P.info? elem).map (·.size) = some 4) (g dLen dCap : Nat) (sv : Value) (c : List Ins) (hC : CodeAt w sv c) (cur : Array Value) (ct : TypeId) (hg : w.heap[g]? = some (.cells cur ct (0, 0))) (hln : c.length ≤ dLen) (hfit : c.length * 4 ≤ cur.size) :
    ∃ w', (Builtin.copy_ #[t, t] ty #[.slice (some ⟨g, 0, none⟩) dLen dCap, sv]).run P w = .ok (goInt c.length) w' ∧ w'.heap[g]? = some (.cells (codeL c ++ cur.toList.drop (c.length * 4)).toArray ct (0, 0)) ∧ w.grownBy w' (some g) := by
  have hC' := hC
  obtain ⟨ao, cap, e, hc⟩ := hC
  subst e
  by_cases h0 : c.length = 0
  · have hl : c = [] := List.length_eq_zero_iff.1 h0
    subst hl
    refine ⟨w, ?_, ?_, grown_refl _ _⟩
    · cases hq : P.info? elem with
      | none => simp [hq] at hsz
      | some i =>
        have hi : i.size = 4 := by simpa [hq] using hsz
        cases ao with
        | none => simp [Builtin.copy_, run_underlying hu, Builtin.lenOf, Builtin.firstCells, sizeOf, typeInfo, hq, storeCells]
        | some a => simp [Builtin.copy_, run_underlying hu, Builtin.lenOf, Builtin.firstCells, sizeOf, typeInfo, hq, storeCells, loadCells, loadCellsFrom]
    · rw [hg]; simp [codeL]
  · obtain ⟨g', o', e', _⟩ := hc 0 (by omega)
    subst e'
    have hmin : Nat.min c.length dLen = c.length := Nat.min_eq_left hln
    have hr := run_copy_front (P := P) w t t ty elem g dLen dCap ⟨g', o', none⟩ c.length cap 4 cur ct (codeL c) hu hsz hg (by rw [codeL_len, hmin]) (codeL_cells hC') (by rw [codeL_len]; exact hfit) (codeL_one c)
    rw [hmin, codeL_len] at hr
    exact ⟨_, hr, setRow_heap w g cur _ ct (0, 0) hg, ⟨rfl, rfl, rfl, by simp, fun k hk hr => setRow_other w g k _ (fun e => hr (by rw [e]))⟩⟩

end Go.Proofs.YtklenjmfalljgaaGreatDoor

/- Code and rows that are lent. -/
namespace Go.Proofs.YtklenjmfalljgaaGreatDoor
open Go.RowKit

theorem sum_take_le (l : List Nat) (j : Nat) : (l.take j).sum ≤ l.sum := by
  conv => rhs; rw [← List.take_append_drop j l, List.sum_append]
  omega
theorem sum_take_step (l : List Nat) (j : Nat) (hj : j < l.length) : (l.take j).sum + l[j] ≤ l.sum := by
  have := sum_take_le l (j + 1)
  rw [List.take_succ_eq_append_getElem hj, List.sum_append] at this
  simpa using this

section
variable {B : Nat} {w w' : World} {b : Nat} {who who' : Nat → Role} {n : Int} {f : Nat → Value} {K : Nat → List (Value × Int)} {E : Nat → List Value} {LI : List (Nat × List Int × Value)} {LC : List (Nat × List Ins × Value)} {LR : List (Nat × Nat)} {tail : Nat}

theorem Le.row_in (h : Le w who LI LC LR tail) (j : Nat) (hj : j < LR.length) : ((LR.take j).map (·.2)).sum + LR[j].2 ≤ LC.length := by
  have h1 := sum_take_step (LR.map (·.2)) j (by simpa using hj)
  have h2 := h.sum
  rw [← List.map_take] at h1
  simp only [List.getElem_map] at h1
  omega

theorem Le.addCode (h : Le w who LI LC LR tail) {g : Nat} {c : List Ins} {cv : Value} (hb : w.heap[g]? = some (.cells (lentCode c) 74 (0, 0))) (hw : who g = .lent) (hC : CodeAt w cv c) (hv : valOther who cv) (hl : c.length ≤ 4398046510976)
    (hn : g ∉ LI.map (·.1) ++ (LC.map (·.1) ++ LR.map (·.1))) : Le w who LI (LC ++ [(g, c, cv)]) LR (tail + 1) := by
  refine ⟨h.li, fun x hx => ?_, fun j hj => ?_, by have := h.sum; simp; omega, ?_⟩
  · rcases List.mem_append.1 hx with hx | hx
    · exact h.lc x hx
    · simp at hx; subst hx; exact ⟨hb, hw, hC, hv, hl⟩
  · obtain ⟨a1, a2, a3⟩ := h.lr j hj
    have h1 := h.row_in j hj
    refine ⟨?_, a2, a3⟩
    rw [a1]
    congr 2
    rw [List.drop_append_of_le_length (by omega), List.take_append_of_le_length (by rw [List.length_drop]; omega)]
  · have := h.nd
    simp only [List.map_append, List.map_cons, List.map_nil, List.append_assoc, List.singleton_append]
    simp only [List.mem_append, not_or] at hn
    rw [List.nodup_append] at this ⊢
    obtain ⟨a1, a2, a3⟩ := this
    rw [List.nodup_append] at a2
    obtain ⟨b1, b2, b3⟩ := a2
    refine ⟨a1, ?_, ?_⟩
    · rw [List.nodup_append]
      refine ⟨b1, ?_, ?_⟩
      · rw [List.nodup_cons]; exact ⟨hn.2.2, b2⟩
      · intro x hx y hy
        rcases List.mem_cons.1 hy with rfl | hy
        · intro e; subst e; exact hn.2.1 hx
        · exact b3 x hx y hy
    · intro x hx y hy
      rcases List.mem_append.1 hy with hy | hy
      · exact a3 x hx y (List.mem_append.2 (Or.inl hy))
      · rcases List.mem_cons.1 hy with rfl | hy
        · intro e; subst e; exact hn.1 hx
        · exact a3 x hx y (List.mem_append.2 (Or.inr hy))

theorem Le.addRow (h : Le w who LI LC LR tail) {g : Nat} (hb : w.heap[g]? = some (.cells (lentRows (LC.drop ((LR.map (·.2)).sum))) 75 (0, 0))) (hw : who g = .lent) (hl : tail ≤ 5864062014634)
    (hn : g ∉ LI.map (·.1) ++ (LC.map (·.1) ++ LR.map (·.1))) : Le w who LI LC (LR ++ [(g, tail)]) 0 := by
  have hsum := h.sum
  refine ⟨h.li, h.lc, fun j hj => ?_, by simp; omega, ?_⟩
  · by_cases e : j < LR.length
    · obtain ⟨a1, a2, a3⟩ := h.lr j e
      rw [List.getElem_append_left e, List.take_append_of_le_length (by omega)]
      exact ⟨a1, a2, a3⟩
    · have ej : j = LR.length := by simp at hj; omega
      subst ej
      have e1 : (LR ++ [(g, tail)])[LR.length]'hj = (g, tail) := by simp
      rw [e1, List.take_append_of_le_length (Nat.le_refl _), List.take_length, List.take_of_length_le (by rw [List.length_drop]; omega)]
      exact ⟨hb, hw, hl⟩
  · have := h.nd
    simp only [List.mem_append, not_or] at hn
    simp only [List.map_append, List.map_cons, List.map_nil]
    rw [List.nodup_append] at this ⊢
    obtain ⟨a1, a2, a3⟩ := this
    rw [List.nodup_append] at a2
    obtain ⟨b1, b2, b3⟩ := a2
    refine ⟨a1, ?_, ?_⟩
    · rw [List.nodup_append]
      refine ⟨b1, ?_, ?_⟩
      · rw [List.nodup_append]
        refine ⟨b2, by simp, ?_⟩
        intro x hx y hy
        simp at hy; subst hy
        intro e; subst e; exact hn.2.2 hx
      · intro x hx y hy
        rcases List.mem_append.1 hy with hy | hy
        · exact b3 x hx y hy
        · simp at hy; subst hy
          intro e; subst e; exact hn.2.1 hx
    · intro x hx y hy
      rcases List.mem_append.1 hy with hy | hy
      · exact a3 x hx y (List.mem_append.2 (Or.inl hy))
      · rcases List.mem_append.1 hy with hy | hy
        · exact a3 x hx y (List.mem_append.2 (Or.inr hy))
        · simp at hy; subst hy
          intro e; subst e; exact hn.1 hx

theorem EL_code (LI : List (Nat × List Int × Value)) (LC : List (Nat × List Ins × Value)) (LR : List (Nat × Nat)) (g : Nat) (c : List Ins) (cv : Value) :
    setE (setE (EL LI LC LR) 2 (EL LI LC LR 2 ++ [sl2 g c.length])) 3 (setE (EL LI LC LR) 2 (EL LI LC LR 2 ++ [sl2 g c.length]) 3 ++ [cv]) = EL LI (LC ++ [(g, c, cv)]) LR := by
  funext k
  match k with
  | 0 => simp [setE, EL]
  | 1 => simp [setE, EL]
  | 2 => simp [setE, EL]
  | 3 => simp [setE, EL]
  | 4 => simp [setE, EL]
  | k + 5 => simp [setE, EL]
theorem EL_row (LI : List (Nat × List Int × Value)) (LC : List (Nat × List Ins × Value)) (LR : List (Nat × Nat)) (g t : Nat) :
    setE (EL LI LC LR) 4 (EL LI LC LR 4 ++ [sl2 g t]) = EL LI LC (LR ++ [(g, t)]) := by
  funext k
  match k with
  | 0 => simp [setE, EL]
  | 1 => simp [setE, EL]
  | 2 => simp [setE, EL]
  | 3 => simp [setE, EL]
  | 4 => simp [setE, EL]
  | k + 5 => simp [setE, EL]
end

/-- A block of code that was lent reads as the code. -/
theorem lentCode_at {w : World} {g : Nat} {c : List Ins} (h : w.heap[g]? = some (.cells (lentCode c) 74 (0, 0))) (cap : Nat) : CodeAt w (.slice (some ⟨g, 0, none⟩) c.length cap) c := by
  refine ⟨some ⟨g, 0, none⟩, cap, rfl, fun k hk => ⟨g, 0, rfl, ?_⟩⟩
  obtain ⟨g1, g2, g3, g4⟩ := codeL_get c k hk
  have hl := codeL_len c
  have key : ∀ j v, (codeL c)[j]? = some v → w.cell? ⟨g, j, none⟩ = some v := fun j v hj => by
    have hjl := (List.getElem?_eq_some_iff.1 hj).1
    simp only [World.cell?, h, lentCode, List.getElem?_toArray]
    have e : List.flatMap insL c = codeL c := rfl
    rw [e, List.getElem?_append_left hjl]; exact hj
  exact ⟨by rw [Nat.zero_add]; exact key _ _ g1, by rw [Nat.zero_add]; exact key _ _ g2, by rw [Nat.zero_add]; exact key _ _ g3, by rw [Nat.zero_add]; exact key _ _ g4⟩

/-- The last row that was lent reads as the program. -/
theorem lent_prog {w : World} {who : Nat → Role} {LI : List (Nat × List Int × Value)} {LC0 LC1 : List (Nat × List Ins × Value)} {LR : List (Nat × Nat)} {g : Nat} {p : List (List Ins)} (h : Le w who LI (LC0 ++ LC1) LR 0) (hb : w.heap[g]? = some (.cells (lentRows LC1) 75 (0, 0)))
    (hp : LC1.map (·.2.1) = p) (cap : Nat) : ProgAt w (.agg #[.slice (some ⟨g, 0, none⟩) p.length cap]) p := by
  have hl : LC1.length = p.length := by rw [← hp]; simp
  refine ⟨some ⟨g, 0, none⟩, cap, rfl, fun t ht => ⟨g, 0, rfl, slC (LC1[t]'(by omega)), ?_, ?_⟩⟩
  · rw [Nat.zero_add]
    simp only [World.cell?, hb, lentRows, List.getElem?_toArray]
    rw [List.getElem?_append_left (by simp; omega), List.getElem?_map, List.getElem?_eq_getElem (by omega)]; rfl
  · have hm : LC1[t]'(by omega) ∈ LC0 ++ LC1 := List.mem_append.2 (Or.inr (List.getElem_mem _))
    obtain ⟨a, _⟩ := h.lc _ hm
    have e : p[t] = (LC1[t]'(by omega)).2.1 := by simp [← hp]
    rw [e]
    exact lentCode_at a _

section
variable {B : Nat} {w w' : World} {b : Nat} {who who' : Nat → Role} {n : Int} {f : Nat → Value} {K : Nat → List (Value × Int)} {E : Nat → List Value} {LI : List (Nat × List Int × Value)} {LC : List (Nat × List Ins × Value)} {LR : List (Nat × Nat)} {tail : Nat}
/-- What leaves others' blocks and those of these lists. -/
theorem Le.keepIn (h : Le w who LI LC LR tail) (hf : Fr w w' who who' (fun _ => False)) (hl : ∀ g ∈ LI.map (·.1) ++ (LC.map (·.1) ++ LR.map (·.1)), w'.heap[g]? = w.heap[g]? ∧ who' g = .lent) : Le w' who' LI LC LR tail := by
  have ho : ∀ g, g < w.heap.size → who g = .other → w'.heap[g]? = w.heap[g]? := fun g h1 h2 => (hf.oth g h1 h2 (fun e => e)).1
  refine ⟨fun x hx => ?_, fun x hx => ?_, fun j hj => ?_, h.sum, h.nd⟩
  · obtain ⟨a, b, c, d, e⟩ := h.li x hx
    have hm := hl x.1 (List.mem_append.2 (Or.inl (List.mem_map.2 ⟨x, hx, rfl⟩)))
    obtain ⟨k1, k2⟩ := int_keeps c d hf
    exact ⟨by rw [hm.1]; exact a, hm.2, k1, k2, e⟩
  · obtain ⟨a, b, c, d, e⟩ := h.lc x hx
    have hm := hl x.1 (List.mem_append.2 (Or.inr (List.mem_append.2 (Or.inl (List.mem_map.2 ⟨x, hx, rfl⟩)))))
    refine ⟨by rw [hm.1]; exact a, hm.2, code_oth c d ho, ?_, e⟩
    obtain ⟨ao, cap, ev, h2⟩ := c
    intro g o l cc e2 hz
    have hgo := d g o l cc e2 hz
    rw [ev] at e2
    simp only [Value.slice.injEq] at e2
    obtain ⟨g', o', e3, e4, _⟩ := h2 0 (by omega)
    rw [e3] at e2
    simp only [Option.some.injEq, Addr.mk.injEq, and_true] at e2
    obtain ⟨⟨rfl, _⟩, _⟩ := e2
    exact (hf.oth _ (World.block_lt_of_cell? w _ e4) hgo (fun e => e)).2
  · obtain ⟨a, b, c⟩ := h.lr j hj
    have hm := hl LR[j].1 (List.mem_append.2 (Or.inr (List.mem_append.2 (Or.inr (List.mem_map.2 ⟨LR[j], List.getElem_mem hj, rfl⟩)))))
    exact ⟨by rw [hm.1]; exact a, hm.2, c⟩
/-- A cell of a block that is lent, but in no list yet, is set. -/
theorem Lx.setOut (h : Lx B w b who n f K E LI LC LR tail) {g o : Nat} {v : Value} (hg : who g = .lent) (hn : g ∉ LI.map (·.1) ++ (LC.map (·.1) ++ LR.map (·.1))) : Lx B (w.setCell ⟨g, o, none⟩ v) b who n f K E LI LC LR tail := by
  have hne : ∀ g', g' ≠ g → (w.setCell ⟨g, o, none⟩ v).heap[g']? = w.heap[g']? := fun g' e => Below.heap_setCell _ _ _ _ (by simpa using e)
  refine ⟨⟨h.hs.1.same (by simp) (fun g' _ _ h3 => hne g' (fun e => by subst e; rw [hg] at h3; cases h3)), h.hs.2⟩, h.lr.same (fun g' k e => hne g' (fun e2 => by subst e2; rw [hg] at e; cases e)), h.le.keepIn (Fr.set (Or.inl (by rw [hg]; simp))) (fun g' e => ⟨hne g' (fun e2 => hn (by rw [← e2]; exact e)), (h.le.lt g' e).2⟩)⟩

theorem Lx.addCode {LC1 : List (Nat × List Ins × Value)} (h : Lx B w b who n f K E LI LC LR tail) {g : Nat} {c : List Ins} {cv : Value} (hb : w.heap[g]? = some (.cells (lentCode c) 74 (0, 0))) (hw : who g = .lent) (hC : CodeAt w cv c) (hv : valOther who cv) (hl : c.length ≤ 4398046510976)
    (hn : g ∉ LI.map (·.1) ++ (LC.map (·.1) ++ LR.map (·.1))) (hE : E = EL LI LC1 LR) (h1 : LC1 = LC ++ [(g, c, cv)]) : Lx B w b who n f K (EL LI LC1 LR) LI LC1 LR (tail + 1) := by
  subst h1
  subst hE
  exact ⟨h.hs, h.lr, h.le.addCode hb hw hC hv hl hn⟩
end

section
variable {B : Nat} {w w' : World} {b : Nat} {who who' : Nat → Role} {n : Int} {f : Nat → Value} {K : Nat → List (Value × Int)} {E : Nat → List Value} {LI : List (Nat × List Int × Value)} {LC : List (Nat × List Ins × Value)} {LR : List (Nat × Nat)} {tail : Nat}
/-- Two new blocks are to be lent. -/
theorem Lx.new2 (h : Lx B w b who n f K E LI LC LR tail) (hg : w.grownBy w' none) {g1 g2 : Nat} (h1 : w.heap.size ≤ g1) (h2 : g1 < w'.heap.size) (h3 : w.heap.size ≤ g2) (h4 : g2 < w'.heap.size) :
    Lx B w' b (setW (setW who g1 .lent) g2 .lent) n f K E LI LC LR tail ∧ Fr w w' who (setW (setW who g1 .lent) g2 .lent) (fun _ => False) := by
  have hne : ∀ g', who g' ≠ .other → setW (setW who g1 .lent) g2 .lent g' = who g' := fun g' e => by
    have := (h.hs.1.dom g' e).2
    rw [setW_ne _ _ (by omega), setW_ne _ _ (by omega)]
  have h' := h.grown hg
  have hb := h.low
  have hfr : Fr w w' who (setW (setW who g1 .lent) g2 .lent) (fun _ => False) := Fr.setW (Fr.setW (Fr.grown hg) (Or.inl h1)) (Or.inl h3)
  refine ⟨⟨⟨h'.hs.1.more hne (fun g' e => ?_), fun c hc x hx g' e => ?_⟩, h'.lr.more hne, ?_⟩, hfr⟩
  · by_cases e2 : g' = g2
    · subst e2; exact ⟨by omega, h4⟩
    · rw [setW_ne _ _ e2] at e
      by_cases e3 : g' = g1
      · subst e3; exact ⟨by omega, h2⟩
      · rw [setW_ne _ _ e3] at e; exact h'.hs.1.dom g' e
  · have := h.hs.2 c hc x hx g' e
    rw [hne g' (by rw [this]; simp), this]
  · exact h.le.keep hfr (fun g' e => ⟨hg.block g' (h.hs.1.dom g' (by rw [e]; simp)).2 (by simp), by rw [hne g' (by rw [e]; simp)]; exact e⟩)
end

end Go.Proofs.YtklenjmfalljgaaGreatDoor
