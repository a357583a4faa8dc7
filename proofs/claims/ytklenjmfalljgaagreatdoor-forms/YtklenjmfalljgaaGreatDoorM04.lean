/- The texts Hnd Hnd2 Hnd3 Hnd4 Hga Hgb. -/
import Derived.Test.YtklenjmfalljgaaGreatDoorM03
import Derived.Laws.CopyOwn

/- The walks of the owner's hands: same, mark, schedule. -/
namespace Go.Proofs.YtklenjmfalljgaaGreatDoor
open Go.RowKit
attribute [local go_sem] Go.World.cell?_alloc_some

def hc (iv wv : Value) (n : Int) (ov mv : Value) : Array Value := #[iv, wv, .slice none 0 0, .slice none 0 0, .slice none 0 0, .int .i64 n, ov, mv, .slice none 0 0, .slice none 0 0, .slice none 0 0, .slice none 0 0, .slice none 0 0, .slice none 0 0, .slice none 0 0, .slice none 0 0]

def HAt (w : World) (b : Nat) (iv wv : Value) (n : Int) (ov mv : Value) : Prop := w.heap[b]? = some (.cells (hc iv wv n ov mv) 43 (0, 0))
theorem HAt.cell {w : World} {b : Nat} {iv wv : Value} {n : Int} {ov mv : Value} (h : HAt w b iv wv n ov mv) (o : Nat) : w.cell? ⟨b, o, none⟩ = (hc iv wv n ov mv)[o]? := by
  unfold HAt at h; simp [World.cell?, h]
theorem HAt.frozen {w : World} {b : Nat} {iv wv : Value} {n : Int} {ov mv : Value} (h : HAt w b iv wv n ov mv) (o : Nat) : w.frozen? ⟨b, o, none⟩ = false := by
  unfold HAt at h; simp [World.frozen?, h]
theorem HAt.lt {w : World} {b : Nat} {iv wv : Value} {n : Int} {ov mv : Value} (h : HAt w b iv wv n ov mv) : b < w.heap.size := (Array.getElem?_eq_some_iff.1 h).1
theorem HAt.grown {w w' : World} {b : Nat} {iv wv : Value} {n : Int} {ov mv : Value} {r : Option Nat} (h : HAt w b iv wv n ov mv) (hg : w.grownBy w' r) (hr : r ≠ some b) : HAt w' b iv wv n ov mv := by
  have hl := h.lt
  unfold HAt at *; rw [hg.block b hl (fun e => hr e.symm)]; exact h
theorem HAt.setOther {w : World} {b g o : Nat} {u : Value} {iv wv : Value} {n : Int} {ov mv : Value} (h : HAt w b iv wv n ov mv) (hg : b ≠ g) : HAt (w.setCell ⟨g, o, none⟩ u) b iv wv n ov mv := by
  unfold HAt at *; rw [Below.heap_setCell _ _ _ _ (by simpa using hg)]; exact h
theorem HAt.set6 {w : World} {b : Nat} {iv wv : Value} {n : Int} {ov mv : Value} (h : HAt w b iv wv n ov mv) (u : Value) : HAt (w.setCell ⟨b, 6, none⟩ u) b iv wv n u mv := by
  unfold HAt at *; rw [heap_setCell_same w b 6 _ _ _ h]; rfl
theorem HAt.set7 {w : World} {b : Nat} {iv wv : Value} {n : Int} {ov mv : Value} (h : HAt w b iv wv n ov mv) (u : Value) : HAt (w.setCell ⟨b, 7, none⟩ u) b iv wv n ov u := by
  unfold HAt at *; rw [heap_setCell_same w b 7 _ _ _ h]; rfl

set_option maxRecDepth 100000 in
set_option maxHeartbeats 1000000 in
theorem same_m (l m : List Int) (v u : Value) (w : World) (hI : IntsAt w.heap.size w v l) (hJ : IntsAt w.heap.size w u m) (hln : l.length ≤ 9223372036854775806) :
    Calls Tryz.prog 45 #[v, u] w fun e w' => e = .returned (.bool (l == m)) ∧ Like w' w := by
  obtain ⟨ao, cap, rfl, hcap, hc⟩ := hI
  obtain ⟨bo, dap, rfl, hdap, hd⟩ := hJ
  by_cases hlen : l.length = m.length
  · have HC := hide hc
    have HD := hide hd
    clear hc hd
    have hl2 : (l.length : Int) = m.length := by omega
    have hl3 : ((l.length : Int) != (m.length : Int)) = false := by simp; omega
    have HLN := hide hlen
    go_enter Tryz.func45, Tryz.ntmps45
    clear hlen hl2
    go_wp2_with fail
    go_loopw [5] (fun i w' => ∃ k : Nat, k ≤ l.length ∧ i = .int .i64 k ∧ Hid (Like w' w) ∧ Hid (l.take k = m.take k)) (fun i _ => l.length - (intOf i).toNat)
    case atStart => exact ⟨0, Nat.zero_le _, rfl, hide (like_refl _), by simp [Hid]⟩
    case round =>
      obtain ⟨k, hk, rfl, HK, HA⟩ := hrel
      obtain ⟨w5, hw5⟩ : ∃ w5, w5 = wr := ⟨_, rfl⟩
      subst hw5
      by_cases hlt : k < l.length
      · have hlt2 : k < m.length := by have := HLN.out; omega
        obtain ⟨g, o, rfl, _, c0⟩ := HC.out k hlt
        obtain ⟨g2, o2, rfl, _, c1⟩ := HD.out k hlt2
        have cL : ∀ a, w5.cell? a = w.cell? a := fun a => by simp [World.cell?, HK.out.1]
        have d0 : w5.cell? ⟨g, o + k, none⟩ = some (.int .i64 l[k]) := by rw [cL]; exact c0
        have d1 : w5.cell? ⟨g2, o2 + k, none⟩ = some (.int .i64 m[k]) := by rw [cL]; exact c1
        have hk0 : (0 : Int) ≤ (k : Int) := by omega
        have hk1 : (k : Int) < l.length := by omega
        have hk2 : (k : Int) < m.length := by omega
        have HT1 : Hid (l.take (k + 1) = l.take k ++ [l[k]]) := List.take_succ_eq_append_getElem hlt
        have HT2 : Hid (m.take (k + 1) = m.take k ++ [m[k]]) := List.take_succ_eq_append_getElem hlt2
        clear cL c0 c1
        by_cases heq : l[k] = m[k]
        · have hq : (l[k] != m[k]) = false := by simpa using heq
          have HA1 : Hid (l.take (k + 1) = m.take (k + 1)) := by unfold Hid; rw [HT1.out, HT2.out, HA.out, heq]
          clear heq HT1 HT2
          generalize l[k] = x at *
          generalize m[k] = y at *
          go_wp2_with fail
          go_quiet (fail)
          go_wp2_with fail
          go_roundw
          case rel => exact ⟨k + 1, by omega, by go_num, hide (like_dn HK.out _), HA1⟩
          case measure => simp [intOf]; omega
        · have hq : (l[k] != m[k]) = true := by simpa using heq
          have HE : Hid ((l == m) = false) := by
            unfold Hid
            simp only [beq_eq_false_iff_ne]
            intro e
            apply heq
            simp [e]
          clear heq HT1 HT2
          generalize l[k] = x at *
          generalize m[k] = y at *
          go_wp2_with fail
          go_quiet (fail)
          go_wp2_with fail
          go_ret
          exact ⟨by rw [HE.out]; rfl, like_dn HK.out _⟩
      · have HE : Hid ((l == m) = true) := by
          unfold Hid
          have h1 := HA.out
          rw [List.take_of_length_le (by omega), List.take_of_length_le (by have := HLN.out; omega)] at h1
          simpa using h1
        have q2 : (l.length : Int) ≤ (k : Int) := by omega
        go_wp2_with fail
        go_ret
        exact ⟨by rw [HE.out]; rfl, HK.out⟩
  · have HE : Hid ((l == m) = false) := by
      unfold Hid
      simp only [beq_eq_false_iff_ne]
      intro e; exact hlen (by rw [e])
    have hl3 : ((l.length : Int) != (m.length : Int)) = true := by simp; omega
    clear hc hd
    go_enter Tryz.func45, Tryz.ntmps45
    go_wp2_with fail
    go_ret
    exact ⟨by rw [HE.out]; rfl, like_refl _⟩

end Go.Proofs.YtklenjmfalljgaaGreatDoor

/- The walk of the hands' schedule. -/
namespace Go.Proofs.YtklenjmfalljgaaGreatDoor
open Go.RowKit
attribute [local go_sem] Go.World.cell?_alloc_some

/-- copy of a list of numbers onto a row of one's own. -/
theorem run_copy_ints {P : Program} (w : World) (t ty elem : TypeId) (hu : P.underlying t = some (.slice elem)) (hsz : (P.info? elem).map (·.size) = some 1) (g dLen dCap : Nat) (sv : Value) (B : Nat) (l : List Int) (hI : IntsAt B w sv l) (cur : Array Value) (ct : TypeId) (hg : w.heap[g]? = some (.cells cur ct (0, 0))) (hln : l.length ≤ dLen) (hfit : l.length ≤ cur.size) :
    ∃ w', (Builtin.copy_ #[t, t] ty #[.slice (some ⟨g, 0, none⟩) dLen dCap, sv]).run P w = .ok (goInt l.length) w' ∧ w'.heap[g]? = some (.cells (ints l ++ cur.toList.drop l.length).toArray ct (0, 0)) ∧ w.grownBy w' (some g) := by
  obtain ⟨ao, cap, e, hcap, hc⟩ := hI
  subst e
  by_cases h0 : l.length = 0
  · have hl : l = [] := List.length_eq_zero_iff.1 h0
    subst hl
    refine ⟨w, run_copy_none (P := P) w t t ty elem _ _ dLen dCap _ cap hu hsz (by simp), ?_, grown_refl _ _⟩
    rw [hg]; simp [ints]
  · obtain ⟨g', o', e', _, _⟩ := hc 0 (by omega)
    subst e'
    have hcc : ∀ k (hk : k < l.length), w.cell? ⟨g', o' + k, none⟩ = some (.int .i64 l[k]) := by
      intro k hk
      obtain ⟨g2, o2, e2, _, c⟩ := hc k hk
      simp only [Option.some.injEq, Addr.mk.injEq, and_true] at e2
      obtain ⟨rfl, rfl⟩ := e2
      exact c
    have hmin : Nat.min l.length dLen = l.length := Nat.min_eq_left hln
    have hr := run_copy_row (P := P) w t t ty elem g 0 dLen dCap ⟨g', o', none⟩ l.length cap cur ct (ints l) hu hsz hg (by rw [ints_len, hmin]) (fun j v hj => by
      have hjl : j < l.length := by have := (List.getElem?_eq_some_iff.1 hj).1; rwa [ints_len] at this
      have hadd : (⟨g', o', none⟩ : Addr).add j = ⟨g', o' + j, none⟩ := by unfold Addr.add; split <;> simp_all
      rw [hadd, hcc j hjl, ← hj]
      simp [ints, hjl]) (by rw [ints_len]; omega) (ints_one l)
    rw [ints_len] at hr
    simp only [List.take_zero, List.nil_append, Nat.zero_add] at hr
    exact ⟨_, hr, setRow_heap w g cur _ ct (0, 0) hg, ⟨rfl, rfl, rfl, by simp, fun k hk hr => setRow_other w g k _ (fun e => hr (by rw [e]))⟩⟩

def ink : Value := .int .i64 (-77000000)
def lentRow (l : List Int) : Array Value := (ints l ++ [ink, ink]).toArray

theorem info_ints : ((Tryz.prog.info? 25).map fun i => (i.zero, i.size, i.bytes)) = some (some (.slice none 0 0), 1, 24) := by kernel_rfl

theorem row_ink (l : List Int) (cur : Array Value) (hc : cur.size = l.length + 2) : ((ints l ++ cur.toList.drop l.length).toArray.setIfInBounds l.length ink).setIfInBounds (l.length + 1) ink = lentRow l := by
  obtain ⟨c⟩ := cur
  simp at hc
  obtain ⟨x, y, h1⟩ : ∃ x y, c.drop l.length = [x, y] := ⟨c[l.length]'(by omega), c[l.length + 1]'(by omega), by
    rw [List.drop_eq_getElem_cons (by omega), List.drop_eq_getElem_cons (by omega), List.drop_eq_nil_of_le (by omega)]⟩
  have e1 : ∀ (a : List Value) (x y z : Value) (k : Nat), k = a.length → (a ++ [x, y]).set k z = a ++ [z, y] := by
    intro a x y z k hk; subst hk; rw [List.set_append]; simp
  have e2 : ∀ (a : List Value) (x y z : Value) (k : Nat), k = a.length → (a ++ [x, y]).set (k + 1) z = a ++ [x, z] := by
    intro a x y z k hk; subst hk; rw [List.set_append, if_neg (by omega)]; simp
  have el := (ints_len l).symm
  simp only [h1, List.setIfInBounds_toArray, lentRow]
  rw [e1 _ _ _ _ _ el, e2 _ _ _ _ _ el]

end Go.Proofs.YtklenjmfalljgaaGreatDoor

/- The walk of the hands' back. -/
namespace Go.Proofs.YtklenjmfalljgaaGreatDoor
open Go.RowKit
attribute [local go_sem] Go.World.cell?_alloc_some

theorem lentRow_len (l : List Int) : (lentRow l).size = l.length + 2 := by simp [lentRow, ints_len]
theorem lentRow_at (l : List Int) (k : Nat) (hk : k < l.length) : (lentRow l)[k]? = some (.int .i64 l[k]) := by
  simp [lentRow, ints, List.getElem?_append, hk]
theorem lentRow_ink0 (l : List Int) : (lentRow l)[l.length]? = some ink := by
  simp [lentRow, ints_len]
theorem lentRow_ink1 (l : List Int) : (lentRow l)[l.length + 1]? = some ink := by
  simp [lentRow, ints_len]

theorem lent_ints {w : World} {g : Nat} {l : List Int} (h : w.heap[g]? = some (.cells (lentRow l) 3 (0, 0))) : IntsAt w.heap.size w (.slice (some ⟨g, 0, none⟩) l.length (l.length + 2)) l := by
  refine ⟨some ⟨g, 0, none⟩, l.length + 2, rfl, by omega, fun k hk => ⟨g, 0, rfl, (Array.getElem?_eq_some_iff.1 h).1, ?_⟩⟩
  rw [Nat.zero_add]
  simp only [World.cell?, h]
  exact lentRow_at l k hk

def Turned (w : World) (b g : Nat) (w' : World) : Prop := w'.os = w.os ∧ w'.tape = w.tape ∧ w'.output = w.output ∧ w.heap.size ≤ w'.heap.size ∧ ∀ k, k < w.heap.size → k ≠ b → k ≠ g → w'.heap[k]? = w.heap[k]?
theorem Turned.refl (w : World) (b g : Nat) : Turned w b g w := ⟨rfl, rfl, rfl, Nat.le_refl _, fun _ _ _ _ => rfl⟩
theorem Turned.below {w w1 w2 : World} {b g : Nat} (h : Turned w b g w1) (hb : Below w1.heap.size w1 w2) : Turned w b g w2 :=
  ⟨hb.os.trans h.1, hb.tape.trans h.2.1, hb.output.trans h.2.2.1, Nat.le_trans h.2.2.2.1 hb.size, fun k hk h1 h2 => by rw [hb.block k (Nat.lt_of_lt_of_le hk h.2.2.2.1)]; exact h.2.2.2.2 k hk h1 h2⟩
theorem Turned.set {w w1 : World} {b g c o : Nat} {v : Value} (h : Turned w b g w1) (hc : c = b ∨ c = g) : Turned w b g (w1.setCell ⟨c, o, none⟩ v) :=
  ⟨h.1, h.2.1, h.2.2.1, by simpa using h.2.2.2.1, fun k hk h1 h2 => by rw [Below.heap_setCell _ _ _ _ (by rcases hc with rfl | rfl <;> simpa using by assumption)]; exact h.2.2.2.2 k hk h1 h2⟩
theorem Turned.like {w w1 w2 : World} {b g : Nat} (h : Turned w b g w1) (hl : Like w2 w1) : Turned w b g w2 :=
  ⟨hl.2.1.trans h.1, hl.2.2.2.trans h.2.1, hl.2.2.1.trans h.2.2.1, by rw [hl.1]; exact h.2.2.2.1, fun k hk h1 h2 => by rw [hl.1]; exact h.2.2.2.2 k hk h1 h2⟩

end Go.Proofs.YtklenjmfalljgaaGreatDoor

/- append, and what becomes of the old row; the walk of keepInts. -/
namespace Go.Proofs.YtklenjmfalljgaaGreatDoor
open Go.RowKit
attribute [local go_sem] Go.World.cell?_alloc_some

section
variable {P : Program} {w : World}
/-- append: in its own row, or in a new one, and then all else stands, the old row too. -/
theorem wpList_append_keeps {ops : Array Oper} {rest : List Oper} {o : Oper} {a : Act} {Q : Exit → Act → World → Prop} (hgd : o.guard = none) (s x : Operand) (t : TypeId)
    (ho : o.op = .call { callee := .builtin .append, args := #[s, x], argTypes := #[t, t] })
    (base : Nat) (e : TypeId) (i : TypeInfo) (z : Value) (size bytes : Nat) (ht : P.underlying t = some (.slice e)) (hi : P.info? e = some i) (hz : i.zero = some z)
    (hsize : i.size = size) (hby : i.bytes = bytes) (hzs : z.cells.size = size) (hsz : 0 < size)
    (v : Value) (n : Nat) (xs : List Value) (hs : a.eval s = v) (hown : w.ownsRow base e size v n xs)
    (ad : Addr) (m c : Nat) (news : List Value) (hx : a.eval x = .slice (some ad) m c) (hl : news.length = m * size) (hnews : ∀ j u, news[j]? = some u → w.cell? (ad.add j) = some u) (h1 : ∀ u ∈ news, u.oneCell' = true)
    (hm : 0 < m) (h63 : n + m ≤ maxLen) (hbytes : (n + m) * bytes ≤ 140737488355328) (hbase : base ≤ w.heap.size) (H : Nat) (hH : w.heap.size = H)
    (h : ∀ g cap w', w'.ownsRow base e size (.slice (some ⟨g, 0, none⟩) (n + m) cap) (n + m) (xs ++ news) → ((v.ownBlock = some g ∧ w.grownBy w' (some g)) ∨ (g = H ∧ w.grownBy w' none)) → g < w'.heap.size → wpList P ops Q rest (a.put o.dst (.slice (some ⟨g, 0, none⟩) (n + m) cap)) w') : wpList P ops Q (o :: rest) a w := by
  refine wpList_plain hgd fun K hK => ?_
  obtain ⟨g, cap, w', hr, h2, h3, h4, h5⟩ := run_append_lies (P := P) w t o.type base e i z size bytes ht hi hz hsize hby hzs hsz v n xs hown ad m c news hl hnews h1 hm h63 hbytes hbase H hH
  have key : (v.ownBlock = some g ∧ w.grownBy w' (some g)) ∨ (g = H ∧ w.grownBy w' none) := by
    have hsmall : n + m ≤ 9223372036854775807 := by simp only [maxLen] at h63; omega
    rcases hown.2 with ⟨rfl, rfl⟩ | ⟨g0, cap0, cur, rfl, hbg, hg, hnc, hcm, hcs, htake⟩
    · rcases h4 with h4 | h4
      · cases h4
      · exact Or.inr ⟨h4, h3⟩
    · by_cases hroom : n + m ≤ cap0
      · obtain ⟨w2, hr2, h6, h7⟩ := run_append_fits (P := P) w base t o.type e i size ht hi hsize g0 n cap0 xs hown ad m c news hl hnews h1 hroom
        rw [hr] at hr2
        simp only [Result.ok.injEq, Value.slice.injEq, Option.some.injEq, Addr.mk.injEq, true_and, and_true] at hr2
        obtain ⟨⟨rfl, rfl⟩, rfl⟩ := hr2
        exact Or.inl ⟨rfl, h7⟩
      · subst hsize
        subst hby
        have holds : ∀ j u, xs[j]? = some u → w.cell? ((⟨g0, 0, none⟩ : Addr).add j) = some u := hown.cells (g := g0) rfl
        have hr2 := run_append_grow (P := P) w t o.type e i z ht hi hz ⟨g0, 0, none⟩ n cap0 xs hown.1 holds ad m c news hl hnews (by omega) (by omega) (growslice_fits (by omega) hbytes)
        rw [hr] at hr2
        simp only [Result.ok.injEq, Value.slice.injEq, Option.some.injEq, Addr.mk.injEq, true_and, and_true] at hr2
        obtain ⟨⟨rfl, rfl⟩, rfl⟩ := hr2
        exact Or.inr ⟨hH, ⟨rfl, rfl, rfl, by simp, fun k hk _ => Below.heap_alloc w.drew _ k hk⟩⟩
  unfold Oper.wp execOp
  simp only [ho, resolve, invoke, builtin, Sem.run_bind, Sem.run_pure, Result.andThen_ok, List.map_toArray, List.map_cons, List.map_nil, hs, hx, hr]
  exact hK _ _ (h g cap w' h2 key h5)
end

/-- A list that came out and was written full: it reads so. -/
def Kept (w : World) (x : Value × Int) : Prop := x.1 = .slice none 0 0 ∨ ∃ g len cap, x.1 = .slice (some ⟨g, 0, none⟩) len cap ∧ len ≤ 1000 ∧ ∀ k, k < len → w.cell? ⟨g, k, none⟩ = some (.int .i64 x.2)

structure KeptAll (B : Nat) (w : World) (b : Nat) (ov mv : Value) (K : List (Value × Int)) : Prop where
  orow : w.ownsRow B 25 1 ov K.length (K.map (·.1))
  mrow : w.ownsRow B 3 1 mv K.length (ints (K.map (·.2)))
  ob : ov.ownBlock ≠ some b
  mb : mv.ownBlock ≠ some b
  om : ∀ g, ov.ownBlock = some g → mv.ownBlock ≠ some g
  kept : ∀ x ∈ K, Kept w x ∧ ∀ g, x.1.ownBlock = some g → g ≠ b ∧ ov.ownBlock ≠ some g ∧ mv.ownBlock ≠ some g ∧ g < w.heap.size
  lo : B ≤ b

/-- The hands between two calls. -/
def Hd (B : Nat) (w : World) (b : Nat) (n : Int) (K : List (Value × Int)) : Prop := ∃ ov mv, HAt w b (.slice none 0 0) (.slice none 0 0) n ov mv ∧ KeptAll B w b ov mv K

theorem Kept.grown {w w' : World} {x : Value × Int} {r : Option Nat} (h : Kept w x) (hg : w.grownBy w' r) (hr : ∀ g, x.1.ownBlock = some g → r ≠ some g ∧ g < w.heap.size) : Kept w' x := by
  rcases h with h | ⟨g, len, cap, e, hl, hc⟩
  · exact Or.inl h
  · obtain ⟨h1, h2⟩ := hr g (by rw [e]; rfl)
    refine Or.inr ⟨g, len, cap, e, hl, fun k hk => ?_⟩
    rw [World.cell?_of_block (hg.block g h2 (fun e => h1 e.symm))]; exact hc k hk
theorem owns_ltH {w : World} {base : Nat} {e : TypeId} {size : Nat} {v : Value} {n : Nat} {xs : List Value} (h : w.ownsRow base e size v n xs) : ∀ g, v.ownBlock = some g → g < w.heap.size := by
  intro g hg
  rcases h.2 with ⟨e1, _⟩ | ⟨g', cap, cur, hv, hb, hh, _⟩
  · rw [e1] at hg; cases hg
  · rw [hv] at hg; simp [Value.ownBlock] at hg; rw [← hg]; exact (Array.getElem?_eq_some_iff.1 hh).1
theorem owns_step' {w w' : World} {base : Nat} {e : TypeId} {size : Nat} {v : Value} {n : Nat} {xs : List Value} {r : Option Nat} (h : w.ownsRow base e size v n xs) (hg : w.grownBy w' r) (hr : ∀ g, v.ownBlock = some g → r ≠ some g) : w'.ownsRow base e size v n xs := by
  obtain ⟨h1, h2⟩ := h
  refine ⟨h1, ?_⟩
  rcases h2 with h2 | ⟨g, cap, cur, hv, hb, hh, rest⟩
  · exact Or.inl h2
  · refine Or.inr ⟨g, cap, cur, hv, hb, ?_, rest⟩
    rw [hg.block g (Array.getElem?_eq_some_iff.1 hh).1 (fun e => hr g (by rw [hv]; rfl) e.symm)]; exact hh

/-- What changes blocks that are not the hands' leaves them. -/
theorem KeptAll.grown {B : Nat} {w w' : World} {b : Nat} {ov mv : Value} {K : List (Value × Int)} {r : Option Nat} (h : KeptAll B w b ov mv K) (hg : w.grownBy w' r) (ho : ∀ g, r = some g → ov.ownBlock ≠ some g ∧ mv.ownBlock ≠ some g ∧ ∀ x ∈ K, x.1.ownBlock ≠ some g) : KeptAll B w' b ov mv K := by
  refine ⟨owns_step' h.orow hg (fun g e1 e2 => (ho g e2).1 e1), owns_step' h.mrow hg (fun g e1 e2 => (ho g e2).2.1 e1), h.ob, h.mb, h.om, fun x hx => ?_, h.lo⟩
  obtain ⟨k1, k2⟩ := h.kept x hx
  refine ⟨k1.grown hg (fun g e => ⟨fun e2 => (ho g e2).2.2 x hx e, (k2 g e).2.2.2⟩), fun g e => ?_⟩
  obtain ⟨h1, h2, h3, h4⟩ := k2 g e
  exact ⟨h1, h2, h3, Nat.lt_of_lt_of_le h4 hg.size⟩

theorem Hd.grown {B : Nat} {w w' : World} {b : Nat} {n : Int} {K : List (Value × Int)} (h : Hd B w b n K) (hg : w.grownBy w' none) : Hd B w' b n K := by
  obtain ⟨ov, mv, h1, h2⟩ := h
  exact ⟨ov, mv, h1.grown hg (by simp), h2.grown hg (fun g e => by cases e)⟩

/-- In the midst of keepInts: lists kept, marks kept, the list that is written. -/
structure KS (W : World) (B : Nat) (w : World) (b : Nat) (n m : Int) (ov mv lv : Value) (len : Nat) (K : List (Value × Int)) (M : List Int) : Prop where
  h : HAt w b (.slice none 0 0) (.slice none 0 0) n ov mv
  orow : w.ownsRow B 25 1 ov K.length (K.map (·.1))
  mrow : w.ownsRow B 3 1 mv M.length (ints M)
  lrow : w.ownsRow B 3 1 lv len (List.replicate len (.int .i64 m))
  ob : ov.ownBlock ≠ some b
  mb : mv.ownBlock ≠ some b
  lb : lv.ownBlock ≠ some b
  om : ∀ g, ov.ownBlock = some g → mv.ownBlock ≠ some g
  ol : ∀ g, ov.ownBlock = some g → lv.ownBlock ≠ some g
  ml : ∀ g, mv.ownBlock = some g → lv.ownBlock ≠ some g
  kept : ∀ x ∈ K, Kept w x ∧ ∀ g, x.1.ownBlock = some g → g ≠ b ∧ ov.ownBlock ≠ some g ∧ mv.ownBlock ≠ some g ∧ g < w.heap.size ∧ (lv.ownBlock = some g → x.2 = m ∧ ∃ l c, x.1 = .slice (some ⟨g, 0, none⟩) l c ∧ l ≤ len)
  lo : B ≤ b
  ln : len ≤ 1000
  base : W.grownBy w none
  wb : W.heap.size ≤ B

/-- The frame of an append behind a new block. -/
theorem key_frame {w w6 : World} {o : Obj} {v : Value} {g6 : Nat} (key : (v.ownBlock = some g6 ∧ (w.alloc o).grownBy w6 (some g6)) ∨ (g6 = w.heap.size + 1 ∧ (w.alloc o).grownBy w6 none)) :
    ∃ r, w.grownBy w6 r ∧ (∀ g, r = some g → v.ownBlock = some g) ∧ (∀ g, g < w.heap.size → v.ownBlock ≠ some g → g6 ≠ g) ∧ (∀ g, g < w.heap.size → v.ownBlock ≠ some g → w6.heap[g]? = w.heap[g]?) ∧ w.heap.size ≤ w6.heap.size := by
  rcases key with ⟨e, hg⟩ | ⟨e, hg⟩
  · have hw : w.grownBy w6 (some g6) := grown_trans (grown_alloc (grown_refl _ _)) hg
    exact ⟨some g6, hw, fun g e2 => (by rw [e, e2]), fun g _ h2 e3 => h2 (by rw [e, e3]), fun g h1 h2 => hw.block g h1 (fun e3 => h2 (by rw [e, e3])), hw.size⟩
  · have hw : w.grownBy w6 none := grown_trans (grown_alloc (grown_refl _ _)) hg
    exact ⟨none, hw, fun g e2 => (by cases e2), fun g h1 _ e3 => (by omega), fun g h1 _ => hw.block g h1 (by simp), hw.size⟩

theorem Kept.same {w w' : World} {x : Value × Int} (h : Kept w x) (hb : ∀ g, x.1.ownBlock = some g → w'.heap[g]? = w.heap[g]?) : Kept w' x := by
  rcases h with h | ⟨g, len, cap, e, hl, hc⟩
  · exact Or.inl h
  · refine Or.inr ⟨g, len, cap, e, hl, fun k hk => ?_⟩
    rw [World.cell?_of_block (hb g (by rw [e]; rfl))]; exact hc k hk
theorem owns_same {w w' : World} {base : Nat} {e : TypeId} {size : Nat} {v : Value} {n : Nat} {xs : List Value} (h : w.ownsRow base e size v n xs) (hb : ∀ g, v.ownBlock = some g → w'.heap[g]? = w.heap[g]?) : w'.ownsRow base e size v n xs := by
  obtain ⟨h1, h2⟩ := h
  refine ⟨h1, ?_⟩
  rcases h2 with h2 | ⟨g, cap, cur, hv, hbb, hh, rest⟩
  · exact Or.inl h2
  · exact Or.inr ⟨g, cap, cur, hv, hbb, by rw [hb g (by rw [hv]; rfl)]; exact hh, rest⟩
theorem base_row {W w w6 : World} {r : Option Nat} {v : Value} {B : Nat} (h : W.grownBy w none) (hB : W.heap.size ≤ B) (hg : w.grownBy w6 r) (hr : ∀ g, r = some g → v.ownBlock = some g) (hv : ∀ g, v.ownBlock = some g → B ≤ g) : W.grownBy w6 none :=
  ⟨hg.os.trans h.os, hg.tape.trans h.tape, hg.output.trans h.output, Nat.le_trans h.size hg.size, fun k hk _ => by
    rw [hg.block k (Nat.lt_of_lt_of_le hk h.size) (fun e => by have := hv k (hr k e.symm); omega)]; exact h.block k hk (by simp)⟩

section
variable {W : World} {B : Nat} {w : World} {b : Nat} {n m : Int} {ov mv lv : Value} {len : Nat} {K : List (Value × Int)} {M : List Int}

/-- h.out = append(h.out, l). -/
theorem KS.out (s : KS W B w b n m ov mv lv len K M) {w6 : World} {o : Obj} {g6 c6 : Nat} (hown : w6.ownsRow B 25 1 (.slice (some ⟨g6, 0, none⟩) (K.length + 1) c6) (K.length + 1) (K.map (·.1) ++ [lv]))
    (key : (ov.ownBlock = some g6 ∧ (w.alloc o).grownBy w6 (some g6)) ∨ (g6 = w.heap.size + 1 ∧ (w.alloc o).grownBy w6 none)) :
    KS W B (w6.setCell ⟨b, 6, none⟩ (.slice (some ⟨g6, 0, none⟩) (K.length + 1) c6)) b n m (.slice (some ⟨g6, 0, none⟩) (K.length + 1) c6) mv lv len (K ++ [(lv, m)]) M := by
  obtain ⟨r, hg, hr, hne, hsame, hsz⟩ := key_frame key
  have hb := s.h.lt
  have hg6b : g6 ≠ b := hne b hb s.ob
  have oth : ∀ g, g < w.heap.size → ov.ownBlock ≠ some g → g ≠ b → (w6.setCell ⟨b, 6, none⟩ (.slice (some ⟨g6, 0, none⟩) (K.length + 1) c6)).heap[g]? = w.heap[g]? := fun g h1 h2 h3 => by
    rw [Below.heap_setCell _ _ _ _ (by simpa using h3)]; exact hsame g h1 h2
  have hmL := owns_ltH s.mrow
  have hlL := owns_ltH s.lrow
  refine ⟨?_, ?_, owns_same s.mrow (fun g e => oth g (hmL g e) (fun e2 => s.om g e2 e) (fun e2 => s.mb (by rw [e, e2]))), owns_same s.lrow (fun g e => oth g (hlL g e) (fun e2 => s.ol g e2 e) (fun e2 => s.lb (by rw [e, e2]))),
    by simpa [Value.ownBlock] using hg6b, s.mb, s.lb, ?_, ?_, s.ml, ?_, s.lo, s.ln, ?_, s.wb⟩
  · refine HAt.set6 (ov := ov) ?_ _
    have := s.h
    unfold HAt at *
    rw [hsame b hb s.ob]; exact this
  · refine ownsRow_setCell_other ?_ (by simpa [Value.ownBlock] using hg6b) _
    simpa using hown
  · intro g e e2
    simp only [Value.ownBlock, Option.some.injEq] at e
    exact hne g (hmL g e2) (fun e3 => s.om g e3 e2) e
  · intro g e e2
    simp only [Value.ownBlock, Option.some.injEq] at e
    exact hne g (hlL g e2) (fun e3 => s.ol g e3 e2) e
  · intro x hx
    rcases List.mem_append.1 hx with hx | hx
    · obtain ⟨k1, k2⟩ := s.kept x hx
      refine ⟨k1.same (fun g e => by obtain ⟨h1, h2, h3, h4, _⟩ := k2 g e; exact oth g h4 h2 h1), fun g e => ?_⟩
      obtain ⟨h1, h2, h3, h4, h5⟩ := k2 g e
      exact ⟨h1, by simpa [Value.ownBlock] using hne g h4 h2, h3, by simp; omega, h5⟩
    · simp at hx
      subst hx
      refine ⟨?_, fun g e => ⟨fun e2 => s.lb (by rw [← e2]; exact e), by simpa [Value.ownBlock] using hne g (hlL g e) (fun e3 => s.ol g e3 e), fun e3 => s.ml g e3 e, by have := hlL g e; simp; omega, fun _ => ⟨rfl, ?_⟩⟩⟩
      · rcases s.lrow.2 with ⟨e, _⟩ | ⟨g, cap, cur, hv, hbb, hh, hc1, hc2, hc3, hc4⟩
        · exact Or.inl e
        · refine Or.inr ⟨g, len, cap, hv, s.ln, fun k hk => ?_⟩
          have hlr := s.lrow
          rw [hv] at hlr
          rw [World.cell?_of_block (oth g (Array.getElem?_eq_some_iff.1 hh).1 (fun e3 => s.ol g e3 (by rw [hv]; rfl)) (fun e3 => s.lb (by rw [hv, ← e3]; rfl))), hlr.cellAt k (by omega)]
          simp [hk]
      · rcases s.lrow.2 with ⟨e2, _⟩ | ⟨g', cap, cur, hv, _⟩
        · rw [e2] at e; cases e
        · rw [hv] at e
          simp only [Value.ownBlock, Option.some.injEq] at e
          exact ⟨len, cap, by rw [hv, e], Nat.le_refl _⟩
  · exact grown_setNew (base_row s.base s.wb hg hr (owns_block s.orow)) (by have := s.lo; have := s.wb; omega)

/-- h.marks = append(h.marks, m). -/
theorem KS.mark (s : KS W B w b n m ov mv lv len K M) {w6 : World} {o : Obj} {g6 c6 : Nat} (hown : w6.ownsRow B 3 1 (.slice (some ⟨g6, 0, none⟩) (M.length + 1) c6) (M.length + 1) (ints M ++ [.int .i64 m]))
    (key : (mv.ownBlock = some g6 ∧ (w.alloc o).grownBy w6 (some g6)) ∨ (g6 = w.heap.size + 1 ∧ (w.alloc o).grownBy w6 none)) :
    KS W B (w6.setCell ⟨b, 7, none⟩ (.slice (some ⟨g6, 0, none⟩) (M.length + 1) c6)) b n m ov (.slice (some ⟨g6, 0, none⟩) (M.length + 1) c6) lv len K (M ++ [m]) := by
  obtain ⟨r, hg, hr, hne, hsame, hsz⟩ := key_frame key
  have hb := s.h.lt
  have hg6b : g6 ≠ b := hne b hb s.mb
  have oth : ∀ g, g < w.heap.size → mv.ownBlock ≠ some g → g ≠ b → (w6.setCell ⟨b, 7, none⟩ (.slice (some ⟨g6, 0, none⟩) (M.length + 1) c6)).heap[g]? = w.heap[g]? := fun g h1 h2 h3 => by
    rw [Below.heap_setCell _ _ _ _ (by simpa using h3)]; exact hsame g h1 h2
  have hoL := owns_ltH s.orow
  have hlL := owns_ltH s.lrow
  refine ⟨?_, owns_same s.orow (fun g e => oth g (hoL g e) (fun e2 => s.om g e e2) (fun e2 => s.ob (by rw [e, e2]))), ?_, owns_same s.lrow (fun g e => oth g (hlL g e) (fun e2 => s.ml g e2 e) (fun e2 => s.lb (by rw [e, e2]))),
    s.ob, by simpa [Value.ownBlock] using hg6b, s.lb, ?_, s.ol, ?_, ?_, s.lo, s.ln, ?_, s.wb⟩
  · refine HAt.set7 (mv := mv) ?_ _
    have := s.h
    unfold HAt at *
    rw [hsame b hb s.mb]; exact this
  · refine ownsRow_setCell_other ?_ (by simpa [Value.ownBlock] using hg6b) _
    simpa [ints] using hown
  · intro g e e2
    simp only [Value.ownBlock, Option.some.injEq] at e2
    exact hne g (hoL g e) (fun e3 => s.om g e e3) e2
  · intro g e e2
    simp only [Value.ownBlock, Option.some.injEq] at e
    exact hne g (hlL g e2) (fun e3 => s.ml g e3 e2) e
  · intro x hx
    obtain ⟨k1, k2⟩ := s.kept x hx
    refine ⟨k1.same (fun g e => by obtain ⟨h1, h2, h3, h4, _⟩ := k2 g e; exact oth g h4 h3 h1), fun g e => ?_⟩
    obtain ⟨h1, h2, h3, h4, h5⟩ := k2 g e
    exact ⟨h1, h2, by simpa [Value.ownBlock] using hne g h4 h3, by simp; omega, h5⟩
  · exact grown_setNew (base_row s.base s.wb hg hr (owns_block s.mrow)) (by have := s.lo; have := s.wb; omega)

/-- l = append(l, m). -/
theorem KS.list (s : KS W B w b n m ov mv lv len K M) (hl : len + 1 ≤ 1000) {w6 : World} {o : Obj} {g6 c6 : Nat} (hown : w6.ownsRow B 3 1 (.slice (some ⟨g6, 0, none⟩) (len + 1) c6) (len + 1) (List.replicate len (.int .i64 m) ++ [.int .i64 m]))
    (key : (lv.ownBlock = some g6 ∧ (w.alloc o).grownBy w6 (some g6)) ∨ (g6 = w.heap.size + 1 ∧ (w.alloc o).grownBy w6 none)) :
    KS W B w6 b n m ov mv (.slice (some ⟨g6, 0, none⟩) (len + 1) c6) (len + 1) K M := by
  obtain ⟨r, hg, hr, hne, hsame, hsz⟩ := key_frame key
  have hb := s.h.lt
  have hg6b : g6 ≠ b := hne b hb s.lb
  have hoL := owns_ltH s.orow
  have hmL := owns_ltH s.mrow
  have hrow : w6.ownsRow B 3 1 (.slice (some ⟨g6, 0, none⟩) (len + 1) c6) (len + 1) (List.replicate (len + 1) (.int .i64 m)) := by rw [List.replicate_succ']; exact hown
  refine ⟨?_, owns_same s.orow (fun g e => hsame g (hoL g e) (s.ol g e)), owns_same s.mrow (fun g e => hsame g (hmL g e) (s.ml g e)), hrow, s.ob, s.mb, by simpa [Value.ownBlock] using hg6b, s.om, ?_, ?_, ?_, s.lo, hl, ?_, s.wb⟩
  · have := s.h
    unfold HAt at *
    rw [hsame b hb s.lb]; exact this
  · intro g e e2
    simp only [Value.ownBlock, Option.some.injEq] at e2
    exact hne g (hoL g e) (s.ol g e) e2
  · intro g e e2
    simp only [Value.ownBlock, Option.some.injEq] at e2
    exact hne g (hmL g e) (s.ml g e) e2
  · intro x hx
    obtain ⟨k1, k2⟩ := s.kept x hx
    refine ⟨?_, fun g e => ?_⟩
    · rcases k1 with k1 | ⟨g, l, c, e, hl1, hc⟩
      · exact Or.inl k1
      · obtain ⟨h1, h2, h3, h4, h5⟩ := k2 g (by rw [e]; rfl)
        refine Or.inr ⟨g, l, c, e, hl1, fun k hk => ?_⟩
        by_cases hlg : lv.ownBlock = some g
        · obtain ⟨h6, l', c', e', hl'⟩ := h5 hlg
          rw [e] at e'
          simp only [Value.slice.injEq, true_and] at e'
          rcases key with ⟨e2, _⟩ | ⟨e2, hg2⟩
          · have : g6 = g := by rw [hlg] at e2; exact (Option.some.inj e2).symm
            subst this
            rw [hrow.cellAt k (by omega), h6, List.getElem?_replicate, if_pos (by omega)]
          · have hw : w.grownBy w6 none := grown_trans (grown_alloc (grown_refl _ _)) hg2
            rw [World.cell?_of_block (hw.block g h4 (by simp))]; exact hc k hk
        · rw [World.cell?_of_block (hsame g h4 hlg)]; exact hc k hk
    · obtain ⟨h1, h2, h3, h4, h5⟩ := k2 g e
      refine ⟨h1, h2, h3, by omega, fun e2 => ?_⟩
      simp only [Value.ownBlock, Option.some.injEq] at e2
      by_cases hlg : lv.ownBlock = some g
      · obtain ⟨h6, l', c', e', hl'⟩ := h5 hlg
        exact ⟨h6, l', c', e', by omega⟩
      · exact absurd e2 (hne g h4 hlg)
  · exact base_row s.base s.wb hg hr (owns_block s.lrow)
end

end Go.Proofs.YtklenjmfalljgaaGreatDoor

/- The owner's hands, whole: what block is whose, what they hold. -/
namespace Go.Proofs.YtklenjmfalljgaaGreatDoor
open Go.RowKit

/-- Whose a block is: another's, the hands' own, a row of lists (of a kind), a row of marks, a list that came out, the one that is written now, a row of what was lent, a list that was lent. -/
structure Role where
  k : Nat
  c : Nat
abbrev Role.other : Role := ⟨0, 0⟩
abbrev Role.hands : Role := ⟨1, 0⟩
abbrev Role.lst (c : Nat) : Role := ⟨2, c⟩
abbrev Role.mrk (c : Nat) : Role := ⟨3, c⟩
abbrev Role.kept : Role := ⟨4, 0⟩
abbrev Role.cur : Role := ⟨5, 0⟩
abbrev Role.lrow (c : Nat) : Role := ⟨6, c⟩
abbrev Role.lent : Role := ⟨7, 0⟩

def Role.lends (r : Role) : Bool := r.k == 6 || r.k == 7

def hcl (f : Nat → Value) : Array Value := #[f 0, f 1, f 2, f 3, f 4, f 5, f 6, f 7, f 8, f 9, f 10, f 11, f 12, f 13, f 14, f 15]
def setF (f : Nat → Value) (o : Nat) (v : Value) : Nat → Value := fun k => if k = o then v else f k
theorem setF_at (f : Nat → Value) (o : Nat) (v : Value) : setF f o v o = v := by simp [setF]
theorem setF_ne (f : Nat → Value) {o k : Nat} (v : Value) (h : k ≠ o) : setF f o v k = f k := by simp [setF, h]
theorem lt16 {o : Nat} (h : o < 16) : o = 0 ∨ o = 1 ∨ o = 2 ∨ o = 3 ∨ o = 4 ∨ o = 5 ∨ o = 6 ∨ o = 7 ∨ o = 8 ∨ o = 9 ∨ o = 10 ∨ o = 11 ∨ o = 12 ∨ o = 13 ∨ o = 14 ∨ o = 15 := by omega
theorem hcl_get (f : Nat → Value) {o : Nat} (h : o < 16) : (hcl f)[o]? = some (f o) := by
  rcases lt16 h with rfl | rfl | rfl | rfl | rfl | rfl | rfl | rfl | rfl | rfl | rfl | rfl | rfl | rfl | rfl | rfl <;> rfl
theorem hcl_set (f : Nat → Value) {o : Nat} (v : Value) (h : o < 16) : (hcl f).setIfInBounds o v = hcl (setF f o v) := by
  rcases lt16 h with rfl | rfl | rfl | rfl | rfl | rfl | rfl | rfl | rfl | rfl | rfl | rfl | rfl | rfl | rfl | rfl <;> rfl

def HB (w : World) (b : Nat) (f : Nat → Value) : Prop := w.heap[b]? = some (.cells (hcl f) 43 (0, 0))
theorem HB.cell {w : World} {b : Nat} {f : Nat → Value} (h : HB w b f) {o : Nat} (ho : o < 16) : w.cell? ⟨b, o, none⟩ = some (f o) := by
  unfold HB at h; simp only [World.cell?, h]; exact hcl_get f ho
theorem HB.frozen {w : World} {b : Nat} {f : Nat → Value} (h : HB w b f) (o : Nat) : w.frozen? ⟨b, o, none⟩ = false := by
  unfold HB at h; simp [World.frozen?, h]
theorem HB.lt {w : World} {b : Nat} {f : Nat → Value} (h : HB w b f) : b < w.heap.size := (Array.getElem?_eq_some_iff.1 h).1
theorem HB.set {w : World} {b : Nat} {f : Nat → Value} (h : HB w b f) {o : Nat} (ho : o < 16) (v : Value) : HB (w.setCell ⟨b, o, none⟩ v) b (setF f o v) := by
  unfold HB at *; rw [heap_setCell_same w b o _ _ v h, hcl_set f v ho]
theorem HB.same {w w' : World} {b : Nat} {f : Nat → Value} (h : HB w b f) (e : w'.heap[b]? = w.heap[b]?) : HB w' b f := by unfold HB at *; rw [e]; exact h

/-- The kinds of lists that came out: numbers, steps, registers, instructions, threads. -/
def tlC : Nat → TypeId
  | 0 => 25
  | 1 => 28
  | 2 => 30
  | 3 => 75
  | _ => 22
def teC : Nat → TypeId
  | 0 => 3
  | 1 => 84
  | 2 => 29
  | 3 => 74
  | _ => 75
def elC (m : Int) : Nat → List Value
  | 0 => [.int .i64 m]
  | 1 => [.int .i64 m, .int .i64 0]
  | 2 => [.int .i64 m, .int .i64 1, .int .i64 2, .int .i64 3]
  | 3 => [.int .i64 m, .int .i64 0, .int .i64 0, .int .i64 0]
  | _ => []

/-- The elements of a list that came out read as their owner wrote them. -/
def KeptIn (w : World) (who : Nat → Role) (g len : Nat) (m : Int) (c : Nat) : Prop :=
  if c = 4 then ∀ k, k < len → ∃ g' cap', w.cell? ⟨g, k, none⟩ = some (.slice (some ⟨g', 0, none⟩) 1 cap') ∧ w.heap[g']? = some (.cells (elC m 3).toArray 74 (0, 0)) ∧ who g' = .kept
  else ∀ k, k < len → ∀ j u, (elC m c)[j]? = some u → w.cell? ⟨g, k * (elC m c).length + j, none⟩ = some u
theorem keptIn_four {w : World} {who : Nat → Role} {g len : Nat} {m : Int} : KeptIn w who g len m 4 ↔ ∀ k, k < len → ∃ g' cap', w.cell? ⟨g, k, none⟩ = some (.slice (some ⟨g', 0, none⟩) 1 cap') ∧ w.heap[g']? = some (.cells (elC m 3).toArray 74 (0, 0)) ∧ who g' = .kept := by
  unfold KeptIn; rw [if_pos rfl]
theorem keptIn_plain {w : World} {who : Nat → Role} {g len : Nat} {m : Int} {c : Nat} (h : c ≠ 4) : KeptIn w who g len m c ↔ ∀ k, k < len → ∀ j u, (elC m c)[j]? = some u → w.cell? ⟨g, k * (elC m c).length + j, none⟩ = some u := by
  unfold KeptIn; rw [if_neg h]
def KeptC (c : Nat) (w : World) (who : Nat → Role) (x : Value × Int) : Prop :=
  x.1 = .slice none 0 0 ∨ ∃ g len cap, x.1 = .slice (some ⟨g, 0, none⟩) len cap ∧ len ≤ 1000 ∧ KeptIn w who g len x.2 c

/-- The hands: at b; n marks; K the lists that came out, each with its mark; M the marks. -/
structure Hs (B : Nat) (w : World) (b : Nat) (who : Nat → Role) (n : Int) (f : Nat → Value) (K : Nat → List (Value × Int)) (M : Nat → List Int) : Prop where
  blk : HB w b f
  cnt : f 5 = .int .i64 n
  lst : ∀ c, c < 5 → w.ownsRow B (tlC c) 1 (f (6 + 2 * c)) (K c).length ((K c).map (·.1))
  mrk : ∀ c, c < 5 → w.ownsRow B 3 1 (f (7 + 2 * c)) (M c).length (ints (M c))
  wl : ∀ c, c < 5 → ∀ g, (f (6 + 2 * c)).ownBlock = some g → who g = .lst c
  wm : ∀ c, c < 5 → ∀ g, (f (7 + 2 * c)).ownBlock = some g → who g = .mrk c
  wb : who b = .hands
  kept : ∀ c, c < 5 → ∀ x ∈ K c, KeptC c w who x ∧ ∀ g, x.1.ownBlock = some g → who g = .kept ∨ who g = .cur
  dom : ∀ g, who g ≠ .other → B ≤ g ∧ g < w.heap.size

theorem keptIn_same {w w' : World} {who : Nat → Role} {g len : Nat} {m : Int} {c : Nat} (h : KeptIn w who g len m c) (hg : w'.heap[g]? = w.heap[g]?) (hk : ∀ g, who g = .kept → w'.heap[g]? = w.heap[g]?) : KeptIn w' who g len m c := by
  by_cases hc : c = 4
  · subst hc
    rw [keptIn_four] at *
    intro k hkl
    obtain ⟨g', cap', h1, h2, h3⟩ := h k hkl
    exact ⟨g', cap', by rw [World.cell?_of_block hg]; exact h1, by rw [hk g' h3]; exact h2, h3⟩
  · rw [keptIn_plain hc] at *
    intro k hkl j u hu
    rw [World.cell?_of_block hg]
    exact h k hkl j u hu
theorem KeptC.same {w w' : World} {who : Nat → Role} {c : Nat} {x : Value × Int} (h : KeptC c w who x) (hx : ∀ g, x.1.ownBlock = some g → who g = .kept ∨ who g = .cur) (hk : ∀ g, who g = .kept ∨ who g = .cur → w'.heap[g]? = w.heap[g]?) : KeptC c w' who x := by
  rcases h with h | ⟨g, len, cap, e, hl, hc⟩
  · exact Or.inl h
  · exact Or.inr ⟨g, len, cap, e, hl, keptIn_same hc (hk g (hx g (by rw [e]; rfl))) (fun g e => hk g (Or.inl e))⟩
theorem keptIn_who {w : World} {who who' : Nat → Role} {g len : Nat} {m : Int} {c : Nat} (h : KeptIn w who g len m c) (hk : ∀ g, who g = .kept → who' g = .kept) : KeptIn w who' g len m c := by
  by_cases hc : c = 4
  · subst hc
    rw [keptIn_four] at *
    intro k hkl
    obtain ⟨g', cap', h1, h2, h3⟩ := h k hkl
    exact ⟨g', cap', h1, h2, hk g' h3⟩
  · rw [keptIn_plain hc] at *
    exact h
theorem KeptC.who {w : World} {who who' : Nat → Role} {c : Nat} {x : Value × Int} (h : KeptC c w who x) (hk : ∀ g, who g = .kept → who' g = .kept) : KeptC c w who' x := by
  rcases h with h | ⟨g, len, cap, e, hl, hc⟩
  · exact Or.inl h
  · exact Or.inr ⟨g, len, cap, e, hl, keptIn_who hc hk⟩

section
variable {B : Nat} {w w' : World} {b : Nat} {who who' : Nat → Role} {n : Int} {f : Nat → Value} {K : Nat → List (Value × Int)} {M : Nat → List Int}

/-- What changes other blocks leaves the hands (and what they lent to themselves). -/
theorem Hs.same (h : Hs B w b who n f K M) (hs : w.heap.size ≤ w'.heap.size) (hb : ∀ g, g < w.heap.size → who g ≠ .other → (who g).lends = false → w'.heap[g]? = w.heap[g]?) : Hs B w' b who n f K M := by
  have hr : ∀ g, who g ≠ .other → (who g).lends = false → w'.heap[g]? = w.heap[g]? := fun g h1 h2 => hb g (h.dom g h1).2 h1 h2
  have hk : ∀ g, who g = .kept ∨ who g = .cur → w'.heap[g]? = w.heap[g]? := fun g e => by
    rcases e with e | e <;> exact hr g (by rw [e]; simp) (by rw [e]; rfl)
  refine ⟨h.blk.same (hr b (by rw [h.wb]; simp) (by rw [h.wb]; rfl)), h.cnt, fun c hc => owns_same (h.lst c hc) (fun g e => ?_), fun c hc => owns_same (h.mrk c hc) (fun g e => ?_), h.wl, h.wm, h.wb, fun c hc x hx => ?_, fun g e => ?_⟩
  · have := h.wl c hc g e; exact hr g (by rw [this]; simp) (by rw [this]; rfl)
  · have := h.wm c hc g e; exact hr g (by rw [this]; simp) (by rw [this]; rfl)
  · obtain ⟨k1, k2⟩ := h.kept c hc x hx
    exact ⟨k1.same k2 hk, k2⟩
  · have := h.dom g e; exact ⟨this.1, by omega⟩
theorem Hs.grown (h : Hs B w b who n f K M) (hg : w.grownBy w' none) : Hs B w' b who n f K M := h.same hg.size (fun g hg1 _ _ => hg.block g hg1 (by simp))
theorem Hs.like (h : Hs B w b who n f K M) (hl : Like w' w) : Hs B w' b who n f K M := h.grown (grown_of_like hl)

/-- One more block is somebody's. -/
theorem Hs.more (h : Hs B w b who n f K M) (hw : ∀ g, who g ≠ .other → who' g = who g) (hd : ∀ g, who' g ≠ .other → B ≤ g ∧ g < w.heap.size) : Hs B w b who' n f K M := by
  have hk : ∀ g, who g = .kept ∨ who g = .cur → who' g = .kept ∨ who' g = .cur := fun g e => by
    have : who' g = who g := hw g (by rcases e with e | e <;> rw [e] <;> simp)
    rw [this]; exact e
  refine ⟨h.blk, h.cnt, h.lst, h.mrk, fun c hc g e => ?_, fun c hc g e => ?_, ?_, fun c hc x hx => ?_, hd⟩
  · have := h.wl c hc g e; rw [hw g (by rw [this]; simp), this]
  · have := h.wm c hc g e; rw [hw g (by rw [this]; simp), this]
  · rw [hw b (by rw [h.wb]; simp), h.wb]
  · obtain ⟨k1, k2⟩ := h.kept c hc x hx
    exact ⟨k1.who (fun g e => by rw [hw g (by rw [e]; simp)]; exact e), fun g e => hk g (k2 g e)⟩

/-- A field of what is lent is set. -/
theorem Hs.setLent (h : Hs B w b who n f K M) {o : Nat} (ho : o < 5) (v : Value) : Hs B (w.setCell ⟨b, o, none⟩ v) b who n (setF f o v) K M := by
  have hr : ∀ g, who g ≠ .hands → (w.setCell ⟨b, o, none⟩ v).heap[g]? = w.heap[g]? := fun g e => Below.heap_setCell _ _ _ _ (by intro e2; simp only at e2; rw [e2] at e; exact e h.wb)
  have hk : ∀ g, who g = .kept ∨ who g = .cur → (w.setCell ⟨b, o, none⟩ v).heap[g]? = w.heap[g]? := fun g e => hr g (by rcases e with e | e <;> rw [e] <;> simp)
  refine ⟨h.blk.set (by omega) v, by rw [setF_ne _ _ (by omega)]; exact h.cnt, fun c hc => ?_, fun c hc => ?_, fun c hc => ?_, fun c hc => ?_, h.wb, fun c hc x hx => ?_, fun g e => ?_⟩
  · rw [setF_ne _ _ (by omega)]; exact owns_same (h.lst c hc) (fun g e => hr g (by rw [h.wl c hc g e]; simp))
  · rw [setF_ne _ _ (by omega)]; exact owns_same (h.mrk c hc) (fun g e => hr g (by rw [h.wm c hc g e]; simp))
  · rw [setF_ne _ _ (by omega)]; exact h.wl c hc
  · rw [setF_ne _ _ (by omega)]; exact h.wm c hc
  · obtain ⟨k1, k2⟩ := h.kept c hc x hx
    exact ⟨k1.same k2 hk, k2⟩
  · have := h.dom g e; exact ⟨this.1, by simpa using this.2⟩

/-- A mark more. -/
theorem Hs.setCnt (h : Hs B w b who n f K M) (m : Int) : Hs B (w.setCell ⟨b, 5, none⟩ (.int .i64 m)) b who m (setF f 5 (.int .i64 m)) K M := by
  have hr : ∀ g, who g ≠ .hands → (w.setCell ⟨b, 5, none⟩ (.int .i64 m)).heap[g]? = w.heap[g]? := fun g e => Below.heap_setCell _ _ _ _ (by intro e2; simp only at e2; rw [e2] at e; exact e h.wb)
  have hk : ∀ g, who g = .kept ∨ who g = .cur → (w.setCell ⟨b, 5, none⟩ (.int .i64 m)).heap[g]? = w.heap[g]? := fun g e => hr g (by rcases e with e | e <;> rw [e] <;> simp)
  refine ⟨h.blk.set (by omega) _, setF_at _ _ _, fun c hc => ?_, fun c hc => ?_, fun c hc => ?_, fun c hc => ?_, h.wb, fun c hc x hx => ?_, fun g e => ?_⟩
  · rw [setF_ne _ _ (by omega)]; exact owns_same (h.lst c hc) (fun g e => hr g (by rw [h.wl c hc g e]; simp))
  · rw [setF_ne _ _ (by omega)]; exact owns_same (h.mrk c hc) (fun g e => hr g (by rw [h.wm c hc g e]; simp))
  · rw [setF_ne _ _ (by omega)]; exact h.wl c hc
  · rw [setF_ne _ _ (by omega)]; exact h.wm c hc
  · obtain ⟨k1, k2⟩ := h.kept c hc x hx
    exact ⟨k1.same k2 hk, k2⟩
  · have := h.dom g e; exact ⟨this.1, by simpa using this.2⟩
end

end Go.Proofs.YtklenjmfalljgaaGreatDoor

/- A list that came out is kept: what each step does to the hands. -/
namespace Go.Proofs.YtklenjmfalljgaaGreatDoor
open Go.RowKit

def setW (who : Nat → Role) (g : Nat) (r : Role) : Nat → Role := fun k => if k = g then r else who k
theorem setW_at (who : Nat → Role) (g : Nat) (r : Role) : setW who g r g = r := by simp [setW]
theorem setW_ne (who : Nat → Role) {g k : Nat} (r : Role) (h : k ≠ g) : setW who g r k = who k := by simp [setW, h]
def setK (K : Nat → List (Value × Int)) (c : Nat) (l : List (Value × Int)) : Nat → List (Value × Int) := fun k => if k = c then l else K k
theorem setK_at (K : Nat → List (Value × Int)) (c : Nat) (l : List (Value × Int)) : setK K c l c = l := by simp [setK]
theorem setK_ne (K : Nat → List (Value × Int)) {c k : Nat} (l : List (Value × Int)) (h : k ≠ c) : setK K c l k = K k := by simp [setK, h]
def setM (M : Nat → List Int) (c : Nat) (l : List Int) : Nat → List Int := fun k => if k = c then l else M k
theorem setM_at (M : Nat → List Int) (c : Nat) (l : List Int) : setM M c l c = l := by simp [setM]
theorem setM_ne (M : Nat → List Int) {c k : Nat} (l : List Int) (h : k ≠ c) : setM M c l k = M k := by simp [setM, h]
def marksOf (K : Nat → List (Value × Int)) : Nat → List Int := fun c => (K c).map (·.2)

/-- What is others' stays so, and as it was, but for what ex says. -/
structure Fr (w w' : World) (who who' : Nat → Role) (ex : Nat → Prop) : Prop where
  os : w'.os = w.os
  tape : w'.tape = w.tape
  output : w'.output = w.output
  size : w.heap.size ≤ w'.heap.size
  oth : ∀ g, g < w.heap.size → who g = .other → ¬ ex g → w'.heap[g]? = w.heap[g]? ∧ who' g = .other
theorem Fr.refl (w : World) (who : Nat → Role) (ex : Nat → Prop) : Fr w w who who ex := ⟨rfl, rfl, rfl, Nat.le_refl _, fun _ _ h _ => ⟨rfl, h⟩⟩
theorem Fr.trans {w w1 w2 : World} {who who1 who2 : Nat → Role} {ex : Nat → Prop} (h : Fr w w1 who who1 ex) (h' : Fr w1 w2 who1 who2 ex) : Fr w w2 who who2 ex :=
  ⟨h'.os.trans h.os, h'.tape.trans h.tape, h'.output.trans h.output, Nat.le_trans h.size h'.size, fun g h1 h2 h3 => by
    obtain ⟨a, b⟩ := h.oth g h1 h2 h3
    obtain ⟨c, d⟩ := h'.oth g (Nat.lt_of_lt_of_le h1 h.size) b h3
    exact ⟨c.trans a, d⟩⟩
theorem Fr.mono {w w' : World} {who who' : Nat → Role} {ex ex' : Nat → Prop} (h : Fr w w' who who' ex) (he : ∀ g, ex g → ex' g) : Fr w w' who who' ex' :=
  ⟨h.os, h.tape, h.output, h.size, fun g h1 h2 h3 => h.oth g h1 h2 (fun e => h3 (he g e))⟩
theorem Fr.grown {w w' : World} {who : Nat → Role} {ex : Nat → Prop} (h : w.grownBy w' none) : Fr w w' who who ex := ⟨h.os, h.tape, h.output, h.size, fun g h1 h2 _ => ⟨h.block g h1 (by simp), h2⟩⟩
theorem Fr.like {w w' : World} {who : Nat → Role} {ex : Nat → Prop} (h : Like w' w) : Fr w w' who who ex := Fr.grown (grown_of_like h)
/-- A cell of a block that is somebody's, or that ex says, is set. -/
theorem Fr.set {w : World} {who : Nat → Role} {ex : Nat → Prop} {g o : Nat} {v : Value} (h : who g ≠ .other ∨ ex g) : Fr w (w.setCell ⟨g, o, none⟩ v) who who ex :=
  ⟨rfl, rfl, rfl, by simp, fun k _ h2 h3 => ⟨Below.heap_setCell _ _ _ _ (fun e => by simp only at e; subst e; rcases h with h | h; exact h h2; exact h3 h), h2⟩⟩
theorem Fr.setW {w w' : World} {who who' : Nat → Role} {ex : Nat → Prop} {g : Nat} {r : Role} (h : Fr w w' who who' ex) (hg : w.heap.size ≤ g ∨ who' g ≠ .other ∨ ex g) : Fr w w' who (setW who' g r) ex :=
  ⟨h.os, h.tape, h.output, h.size, fun k h1 h2 h3 => by
    obtain ⟨a, b⟩ := h.oth k h1 h2 h3
    refine ⟨a, ?_⟩
    rw [setW_ne]
    · exact b
    · intro e; subst e
      rcases hg with hg | hg | hg
      · omega
      · exact hg b
      · exact h3 hg⟩
/-- The frame of an append behind a new block, whose row is somebody's. -/
theorem Fr.key {w w6 : World} {who : Nat → Role} {ex : Nat → Prop} {o : Obj} {v : Value} {g6 : Nat} {r : Role} (hv : ∀ g, v.ownBlock = some g → who g ≠ .other) (key : (v.ownBlock = some g6 ∧ (w.alloc o).grownBy w6 (some g6)) ∨ (g6 = w.heap.size + 1 ∧ (w.alloc o).grownBy w6 none)) :
    Fr w w6 who (Go.Proofs.YtklenjmfalljgaaGreatDoor.setW who g6 r) ex := by
  rcases key with ⟨e, hg⟩ | ⟨e, hg⟩
  · have hw : w.grownBy w6 (some g6) := grown_trans (grown_alloc (grown_refl _ _)) hg
    refine Fr.setW ⟨hw.os, hw.tape, hw.output, hw.size, fun k h1 h2 _ => ⟨hw.block k h1 (fun e2 => ?_), h2⟩⟩ (Or.inr (Or.inl (hv g6 e)))
    simp only [Option.some.injEq] at e2; subst e2; exact hv _ e h2
  · exact Fr.setW (Fr.grown (grown_trans (grown_alloc (grown_refl _ _)) hg)) (Or.inl (by omega))
theorem Fr.base {W w w' : World} {who who' : Nat → Role} {ex : Nat → Prop} {B : Nat} (h : Fr w w' who who' ex) (hW : W.grownBy w none) (hB : W.heap.size ≤ B) (hd : ∀ g, who g ≠ .other → B ≤ g) (he : ∀ g, ex g → W.heap.size ≤ g) : W.grownBy w' none :=
  ⟨h.os.trans hW.os, h.tape.trans hW.tape, h.output.trans hW.output, Nat.le_trans hW.size h.size, fun k hk _ => by
    have ho : who k = .other := by
      by_cases e : who k = .other
      · exact e
      · exact absurd (hd k e) (by omega)
    rw [(h.oth k (Nat.lt_of_lt_of_le hk hW.size) ho (fun e => by have := he k e; omega)).1]
    exact hW.block k hk (by simp)⟩

/-- The list that is written now, of kind c (below 4): all of its elements are the mark's. -/
structure Cur (B : Nat) (w : World) (who : Nat → Role) (m : Int) (c : Nat) (lv : Value) (len : Nat) (K : Nat → List (Value × Int)) : Prop where
  row : w.ownsRow B (teC c) (elC m c).length lv len (List.replicate len (elC m c)).flatten
  wc : ∀ g, lv.ownBlock = some g → who g = .cur
  ent : ∀ x ∈ K c, ∀ g, x.1.ownBlock = some g → who g = .cur → x.2 = m ∧ ∃ l c', x.1 = .slice (some ⟨g, 0, none⟩) l c' ∧ (lv.ownBlock = some g → l ≤ len)
  oth : ∀ c', c' < 5 → c' ≠ c → ∀ x ∈ K c', ∀ g, x.1.ownBlock = some g → who g = .kept
  ln : len ≤ 1000

section
variable {B : Nat} {w w6 : World} {b : Nat} {who : Nat → Role} {n m : Int} {f : Nat → Value} {K : Nat → List (Value × Int)} {M : Nat → List Int} {c : Nat} {lv : Value} {len : Nat}

theorem flat_rep_len (e : List Value) (k : Nat) : ((List.replicate k e).flatten).length = k * e.length := by
  induction k with
  | zero => simp
  | succ k ih => rw [List.replicate_succ, List.flatten_cons, List.length_append, ih, Nat.succ_mul]; omega
theorem flat_rep_get (e : List Value) (n k j : Nat) (u : Value) (hk : k < n) (hj : e[j]? = some u) : ((List.replicate n e).flatten)[k * e.length + j]? = some u := by
  induction n generalizing k with
  | zero => omega
  | succ n ih =>
    have hjl := (List.getElem?_eq_some_iff.1 hj).1
    rw [List.replicate_succ, List.flatten_cons]
    cases k with
    | zero => rw [Nat.zero_mul, Nat.zero_add, List.getElem?_append_left hjl]; exact hj
    | succ k =>
      rw [List.getElem?_append_right (by rw [Nat.succ_mul]; omega), Nat.succ_mul]
      have : k * e.length + e.length + j - e.length = k * e.length + j := by omega
      rw [this]
      exact ih k (by omega)
theorem flat_rep_snoc (e : List Value) (n : Nat) : (List.replicate n e).flatten ++ e = (List.replicate (n + 1) e).flatten := by
  rw [List.replicate_succ', List.flatten_append]; simp

/-- The list so far, as one that came out. -/
theorem Cur.keptNow (cu : Cur B w who m c lv len K) (hc : c < 4) : KeptC c w who (lv, m) := by
  rcases cu.row.2 with ⟨e, _⟩ | ⟨g, cap, cur, hv, hbb, hh, hrest⟩
  · exact Or.inl e
  · refine Or.inr ⟨g, len, cap, hv, cu.ln, ?_⟩
    have hr := cu.row
    rw [hv] at hr
    have hkey : ∀ k, k < len → ∀ j u, (elC m c)[j]? = some u → w.cell? ⟨g, k * (elC m c).length + j, none⟩ = some u := fun k hk j u hu => by
      have hjl := (List.getElem?_eq_some_iff.1 hu).1
      have h2 : (k + 1) * (elC m c).length ≤ len * (elC m c).length := Nat.mul_le_mul_right _ hk
      rw [Nat.succ_mul] at h2
      rw [hr.cellAt _ (by omega)]
      exact flat_rep_get _ _ _ _ _ hk hu
    exact (keptIn_plain (by omega)).2 hkey

/-- An append to a row of the hands' own: what stays. -/
theorem key_stays {v : Value} {o : Obj} {g6 : Nat} (key : (v.ownBlock = some g6 ∧ (w.alloc o).grownBy w6 (some g6)) ∨ (g6 = w.heap.size + 1 ∧ (w.alloc o).grownBy w6 none)) (hd : ∀ g, who g ≠ .other → g < w.heap.size) {r : Role} (hr : r ≠ .other) (hv : ∀ g, v.ownBlock = some g → who g = r) :
    w.heap.size ≤ w6.heap.size ∧ (∀ g, who g ≠ .other → who g ≠ r → w6.heap[g]? = w.heap[g]? ∧ g6 ≠ g) ∧ (∀ g, who g = r → g6 ≠ g → w6.heap[g]? = w.heap[g]?) ∧ (g6 < w.heap.size → who g6 = r) := by
  rcases key with ⟨e, hg⟩ | ⟨e, hg⟩
  · have hw : w.grownBy w6 (some g6) := grown_trans (grown_alloc (grown_refl _ _)) hg
    have h6 := hv g6 e
    refine ⟨hw.size, fun g h1 h2 => ?_, fun g h1 h2 => hw.block g (hd g (by rw [h1]; exact hr)) (by simpa using fun e2 => h2 e2.symm), fun _ => h6⟩
    have hne : g6 ≠ g := fun e2 => h2 (by rw [← e2]; exact h6)
    exact ⟨hw.block g (hd g h1) (by simpa using fun e2 => hne e2.symm), hne⟩
  · have hw : w.grownBy w6 none := grown_trans (grown_alloc (grown_refl _ _)) hg
    refine ⟨hw.size, fun g h1 h2 => ⟨hw.block g (hd g h1) (by simp), by have := hd g h1; omega⟩, fun g h1 h2 => hw.block g (hd g (by rw [h1]; exact hr)) (by simp), fun h => by omega⟩
end

end Go.Proofs.YtklenjmfalljgaaGreatDoor
