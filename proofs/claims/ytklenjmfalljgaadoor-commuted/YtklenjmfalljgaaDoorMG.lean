/- Proved: rerunkeep.Commuted answers true and never panics, whatever its arguments are: no condition. -/
import Derived.Test.YtklenjmfalljgaaDoorMF
import Derived.Test.YtklenjmfalljgaaDoorRows
import Derived.Deep.Slices
import Derived.Deep.DeepHandedRow
import Derived.Deep.DeepWitnessRowRef
import Derived.LaidMore
import Derived.Carry
import Derived.ProofKit
import Derived.OpenShut
import Derived.Test.YtklenjmfalljgaaDoorCards
import Derived.Test.YtklenjmfalljgaaDoorTie

/- Commuted: the schedule with the two changed, and its answers. -/
namespace Go.Proofs.YtklenjmfalljgaaDoor
open Go.RowKit
attribute [local go_sem] Go.World.cell?_alloc_some

set_option maxHeartbeats 8000000 in
set_option maxRecDepth 100000 in
theorem commC {p : List (List Ins)} {f b : List Int} {AP : Bool} {n1 n5 i k t1 k1 t2 k2 pg po pcap bc f3 : Nat} {bo f1 : Option Addr} {w2 w10 : World} (HVP : Hid (vProg p = true)) (hlen : 1 ≤ p.length ∧ p.length ≤ 4) (hb : b.length ≤ 200) (hk1 : k + 1 < b.length) (hfl : f.length ≤ 200) (h12 : n1 + 1 ≤ w2.heap.size)
    (HST : Hid (b[k]? = some (t1 : Int) ∧ b[k + 1]? = some (t2 : Int)))
    (HRD : Hid ((AP = true → Sched p (swapL b k) ∧ (runS p (swapL b k)).kind = (runS p b).kind ∧ (runS p (swapL b k)).thread = (runS p b).thread ∧ (runS p (swapL b k)).at_ = (runS p b).at_ ∧ (runS p (swapL b k)).st = (runS p b).st ∧ formS p (runS p (swapL b k)) = formS p (runS p b) ∧ sameS p b (swapL b k) = true) ∧
      (AP = false → (runS p (swapL b k)).kind ≠ 2 → (runS p (swapL b k)).steps.length = b.length → (runS p (swapL b k)).steps[k]? = some ((t2 : Int), (k2 : Int)) → (runS p (swapL b k)).steps[k + 1]? = some ((t1 : Int), (k1 : Int)) → (formS p (runS p b) == formS p (runS p (swapL b k))) = false ∧ sameS p b (swapL b k) = false)))
    (HI10 : Hid (CmI p f w2.heap.size (n1 + 1) w2 (.slice f1 f.length f3) (.slice bo b.length bc) b w10))
    (HPC : Hid (∀ u, w2.grownBy u none → u.cell? ⟨n1, 0, none⟩ = some (.slice (some ⟨pg, po, none⟩) p.length pcap))) (HPP : Hid (∀ u, w2.grownBy u none → ShpAt u ∧ ProgAt u (.agg #[.slice (some ⟨pg, po, none⟩) p.length pcap]) p))
    (HY : Hid (∀ u, w10.grownBy u none → (u.cell? ⟨n5, 0, none⟩ = some (.int .i64 (t1 : Int)) ∧ u.cell? ⟨n5, 1, none⟩ = some (.int .i64 (k1 : Int))) ∧ u.cell? ⟨n5 + 1, 0, none⟩ = some (.int .i64 (t2 : Int)) ∧ u.cell? ⟨n5 + 1, 1, none⟩ = some (.int .i64 (k2 : Int))))
    (HFA : Hid (∀ g, (Value.slice f1 f.length f3).ownBlock = some g → g ≠ w2.heap.size))
    {K : Act → World → Prop} {Q' : Exit → Act → World → Prop} {c0 c1 c2 c3 c4 c5 c6 c10 c12 c17 c18 c19 c20 c22 c23 c24 c25 c26 c27 c28 c29 c30 c31 c32 c33 c34 c35 c36 c37 c38 c39 c40 c41 c42 c43 c44 c45 c46 c47 c48 c49 c50 c51 c52 c53 c54 c55 c56 c57 c58 c59 c60 c61 c62 c63 c64 c65 c66 c67 c68 c69 c70 c71 c72 c73 c74 c75 c76 c77 c78 c79 c80 c81 c82 c83 c84 c85 c86 c87 c88 c89 c90 c91 c92 c93 c94 c95 c96 c97 c98 c99 c100 c101 c102 c103 c104 c105 c106 c107 c108 c109 c110 c111 c112 c113 c114 c115 c116 c117 c118 c119 c120 c121 c122 c123 c124 c125 c126 c127 c128 c129 c130 c131 c132 c133 c134 c135 c136 c137 c138 c139 c140 c141 c142 c143 c144 c145 c146 c147 c148 c149 c150 c151 c152 c153 c154 c155 c156 c157 c158 c159 c160 c161 c162 c163 c164 c165 c166 c167 c168 c169 c170 c171 c172 c173 c174 c175 c176 c177 c178 c179 c180 c181 c182 c183 c184 c185 c186 c187 c188 c189 c190 c191 c192 c193 c194 c195 c196 c197 c198 c199 c200 c201 c202 c203 c204 c205 c206 c207 c208 c209 c210 c211 c212 c213 c214 c215 c216 c217 c218 c219 c220 c221 c222 c223 c224 c225 c226 c227 c228 c229 c230 c231 c232 c233 c234 c235 c236 c237 c238 c239 c240 c241 c242 c243 c244 c245 c246 c247 c248 c249 c250 c251 c252 c253 c254 c255 c256 c257 c258 c259 : Value}
    (HK : Hid (∀ {z6 z17 z18 z19 z20 z21 z22 z23 z24 z25 z26 z27 z28 z29 z30 z102 z103 z104 z105 z106 z107 z108 z109 z110 z111 z112 z113 z114 z115 z116 z117 z118 z119 z120 z121 z122 z123 z124 z125 z126 z127 z128 z129 z130 z131 z132 z133 z134 z135 z136 z137 z138 z139 z140 z141 z142 z143 z144 z145 z146 z147 z148 z149 z150 z151 z152 z153 z154 z155 z156 z157 z158 z159 z160 z161 z162 z163 z164 z165 z166 z167 z168 z169 z170 z171 z172 z173 z174 z175 z176 z177 z178 z179 z180 z181 z182 z183 z184 z185 z186 z187 z188 z189 z190 z191 z192 z193 z194 z195 z196 z197 z198 z199 z200 z201 z202 z203 z204 z205 z206 z207 z208 z209 z210 z211 z212 z213 z214 z215 z216 z217 z218 z219 z220 z221 z222 z223 z224 z225 z226 z227 z228 z229 z230 z231 z232 z233 z234 z235 z236 z237 z238 z239 z240 z241 z242 z243 z244 z245 z246 z247 z248 z249 z250 z251 z252 z253 z254 z255 z256 z257 z258 z259 : Value} (t2 : List Int) (bo2 : Option Addr) (L bc2 : Nat) (w' : World), L = t2.length → L ≤ 200 → CmI p f w2.heap.size (n1 + 1) w2 (.slice f1 f.length f3) (.slice bo2 L bc2) t2 w' → K ⟨#[c0, c1, c2, c3, c4, c5, z6, .pointer (some ⟨n1, 0, none⟩), .slice bo2 L bc2, .pointer (some ⟨w2.heap.size, 0, none⟩), c10, .slice f1 f.length f3, c12, .int .i64 (i : Int), .int .i64 (k : Int), .pointer (some ⟨n5, 0, none⟩), .pointer (some ⟨n5 + 1, 0, none⟩), z17, z18, z19, z20, z21, z22, z23, z24, z25, z26, z27, z28, z29, z30, c31, c32, c33, c34, c35, c36, c37, c38, c39, c40, c41, c42, c43, c44, c45, c46, c47, c48, c49, c50, c51, c52, c53, c54, c55, c56, c57, c58, c59, c60, c61, c62, c63, c64, c65, c66, c67, c68, c69, c70, c71, c72, c73, c74, c75, c76, c77, c78, c79, c80, c81, c82, c83, c84, c85, c86, c87, c88, c89, c90, c91, c92, c93, c94, c95, c96, c97, c98, c99, c100, c101, z102, z103, z104, z105, z106, z107, z108, z109, z110, z111, z112, z113, z114, z115, z116, z117, z118, z119, z120, z121, z122, z123, z124, z125, z126, z127, z128, z129, z130, z131, z132, z133, z134, z135, z136, z137, z138, z139, z140, z141, z142, z143, z144, z145, z146, z147, z148, z149, z150, z151, z152, z153, z154, z155, z156, z157, z158, z159, z160, z161, z162, z163, z164, z165, z166, z167, z168, z169, z170, z171, z172, z173, z174, z175, z176, z177, z178, z179, z180, z181, z182, z183, z184, z185, z186, z187, z188, z189, z190, z191, z192, z193, z194, z195, z196, z197, z198, z199, z200, z201, z202, z203, z204, z205, z206, z207, z208, z209, z210, z211, z212, z213, z214, z215, z216, z217, z218, z219, z220, z221, z222, z223, z224, z225, z226, z227, z228, z229, z230, z231, z232, z233, z234, z235, z236, z237, z238, z239, z240, z241, z242, z243, z244, z245, z246, z247, z248, z249, z250, z251, z252, z253, z254, z255, z256, z257, z258, z259], []⟩ w')) :
    Code.wp Tryd.prog (tailOf Tryd.f10 18) (Exit.inBlock 1 (Exit.then K Q')) ⟨#[c0, c1, c2, c3, c4, c5, c6, .pointer (some ⟨n1, 0, none⟩), .slice bo b.length bc, .pointer (some ⟨w2.heap.size, 0, none⟩), c10, .slice f1 f.length f3, c12, .int .i64 (i : Int), .int .i64 (k : Int), .pointer (some ⟨n5, 0, none⟩), .pointer (some ⟨n5 + 1, 0, none⟩), c17, c18, c19, c20, .bool AP, c22, c23, c24, c25, c26, c27, c28, c29, c30, c31, c32, c33, c34, c35, c36, c37, c38, c39, c40, c41, c42, c43, c44, c45, c46, c47, c48, c49, c50, c51, c52, c53, c54, c55, c56, c57, c58, c59, c60, c61, c62, c63, c64, c65, c66, c67, c68, c69, c70, c71, c72, c73, c74, c75, c76, c77, c78, c79, c80, c81, c82, c83, c84, c85, c86, c87, c88, c89, c90, c91, c92, c93, c94, c95, c96, c97, c98, c99, c100, c101, c102, c103, c104, c105, c106, c107, c108, c109, c110, c111, c112, c113, c114, c115, c116, c117, c118, c119, c120, c121, c122, c123, c124, c125, c126, c127, c128, c129, c130, c131, c132, c133, c134, c135, c136, c137, c138, c139, c140, c141, c142, c143, c144, c145, c146, c147, c148, c149, c150, c151, c152, c153, c154, c155, c156, c157, c158, c159, c160, c161, c162, c163, c164, c165, c166, c167, c168, c169, c170, c171, c172, c173, c174, c175, c176, c177, c178, c179, c180, c181, c182, c183, c184, c185, c186, c187, c188, c189, c190, c191, c192, c193, c194, c195, c196, c197, c198, c199, c200, c201, c202, c203, c204, c205, c206, c207, c208, c209, c210, c211, c212, c213, c214, c215, c216, c217, c218, c219, c220, c221, c222, c223, c224, c225, c226, c227, c228, c229, c230, c231, c232, c233, c234, c235, c236, c237, c238, c239, c240, c241, c242, c243, c244, c245, c246, c247, c248, c249, c250, c251, c252, c253, c254, c255, c256, c257, c258, c259], []⟩ w10 := by
  conv => arg 2; whnf
  obtain ⟨i0, hi0, hz0, hz1, hz2⟩ := info_parts info_int
  have q0 : (b.length : Int) ≤ 200 := by omega
  have v0 : (0 : Int) ≤ (k : Int) := by omega
  have v1 : (k : Int) + 1 < b.length := by omega
  have v2 : (k : Int) < b.length := by omega
  have hl3 : 1 < b.length := by omega
  have HSO : Hid (bo = none → b.length = 0 ∧ bc = 0) := fun e => HI10.out.nok b.length bc (by rw [e])
  have HNW : Hid (∀ ad, bo = some ad → ∀ j u, (ints b)[j]? = some u → w10.cell? (ad.add j) = some u) := ints_ofC HI10.out.row
  have hil : (ints b).length = b.length * 1 := by rw [ints_len]; omega
  have h63 : 0 + b.length ≤ maxLen := by unfold maxLen; omega
  go_upto_region 20 with (at_builtin; refine wpList_append_any rfl _ _ _ rfl w10.heap.size 3 i0 _ 1 8 Tryd.underlying22 hi0 hz0 hz1 hz2 rfl (by omega) (.slice none 0 0) 0 [] rfl ⟨rfl, Or.inl ⟨rfl, rfl⟩⟩ bo b.length bc (ints b) rfl hil HSO.out HNW.out (ints_one _) h63 (by omega) (Nat.le_refl _) ?_; intro ta tn tc w11 hown11 hg11)
  simp only [Nat.zero_add, List.nil_append] at hown11
  have htn := owns_lenq hown11
  subst htn
  have hg11' : w10.grownBy w11 none := hg11
  obtain ⟨tg, hta, htg, hfz⟩ : ∃ tg, ta = some ⟨tg, 0, none⟩ ∧ w10.heap.size ≤ tg ∧ ∀ o, w11.frozen? ⟨tg, o, none⟩ = false := by
    rcases hown11.2 with ⟨_, e⟩ | ⟨g, cap, cur, hv, hb', hh, _⟩
    · omega
    · simp only [Value.slice.injEq] at hv
      exact ⟨g, hv.1, hb', fun o => by simp [World.frozen?, hh]⟩
  subst hta
  obtain ⟨bg, bof, hbo, hbg, e0, e1⟩ : ∃ g o, bo = some ⟨g, o, none⟩ ∧ g < w10.heap.size ∧ w11.cell? ⟨g, o + k, none⟩ = some (.int .i64 (t1 : Int)) ∧ w11.cell? ⟨g, o + (k + 1), none⟩ = some (.int .i64 (t2 : Int)) := by
    obtain ⟨ao, cap, e, _, h⟩ := HI10.out.row
    simp only [Value.slice.injEq] at e
    obtain ⟨g, o, c1, c2, c3⟩ := h k (by omega)
    obtain ⟨g', o', c1', _, c3'⟩ := h (k + 1) hk1
    rw [c1] at c1'
    simp only [Option.some.injEq, Addr.mk.injEq, and_true] at c1'
    obtain ⟨rfl, rfl⟩ := c1'
    obtain ⟨r3, r4⟩ := HST.out
    rw [List.getElem?_eq_getElem (by omega : k < b.length)] at r3
    rw [List.getElem?_eq_getElem hk1] at r4
    simp only [Option.some.injEq] at r3 r4
    rw [r3] at c3
    rw [r4] at c3'
    exact ⟨g, o, by rw [e.1]; exact c1, c2, pres_grown hg11' _ _ c3, pres_grown hg11' _ _ c3'⟩
  subst hbo
  have hne1 : tg ≠ bg := by omega
  have fz0 := hfz k
  have fz1 := hfz (k + 1)
  have ct0 : w11.cell? ⟨tg, k, none⟩ = some (.int .i64 (t1 : Int)) := by
    obtain ⟨r3, _⟩ := HST.out
    rw [hown11.cellAt _ (by omega)]; simp [ints, r3]
  have ct1 : w11.cell? ⟨tg, k + 1, none⟩ = some (.int .i64 (t2 : Int)) := by
    obtain ⟨_, r4⟩ := HST.out
    rw [hown11.cellAt _ (by omega)]; simp [ints, r4]
  have HO11 := hide hown11
  have HG11 := hide hg11'
  clear hown11 hg11' hg11 hil h63 HSO HNW hfz
  go_upto_region 22 with fail
  obtain ⟨w12, hw12⟩ : ∃ w12, w12 = (w11.setCell ⟨tg, k, none⟩ (.int .i64 (t2 : Int))).setCell ⟨tg, k + 1, none⟩ (.int .i64 (t1 : Int)) := ⟨_, rfl⟩
  have HO12 : Hid (w12.ownsRow w10.heap.size 3 1 (.slice (some ⟨tg, 0, none⟩) b.length tc) (swapL b k).length (ints (swapL b k))) := by
    unfold Hid
    rw [hw12, swapL_len, ← ints_swap b k HST.out.1 HST.out.2]
    exact owns_putC (owns_putC HO11.out k _) (k + 1) _
  have HG12 : Hid (w10.grownBy w12 none) := by
    unfold Hid; rw [hw12]; exact grown_setNew (grown_setNew HG11.out htg) htg
  rw [← hw12]
  clear hw12 e0 e1 ct0 ct1 fz0 fz1 hne1 HO11 HG11
  have HTL := hide (swapL_len b k)
  generalize swapL b k = t at *
  have htl : t.length = b.length := HTL.out
  have ht5 : t.length ≤ 500 := by omega
  have HI12 : Hid (CmI p f w2.heap.size (n1 + 1) w2 (.slice f1 f.length f3) (.slice (some ⟨bg, bof, none⟩) b.length bc) b w12) := HI10.out.grow HG12.out
  have HTI : Hid (∀ u, w12.grownBy u none → IntsAt u.heap.size u (.slice (some ⟨tg, 0, none⟩) b.length tc) t) := fun u hu => ((owns_ints HO12.out).pres (pres_grown hu)).mono hu.size
  have c12 := HPC.out w12 HI12.out.gr
  have HR12 : Hid (Calls Tryd.prog 16 #[.agg #[.slice (some ⟨pg, po, none⟩) p.length pcap], .slice (some ⟨tg, 0, none⟩) b.length tc] w12 (fun e w' => w12.grownBy w' none ∧ ∃ rv, e = .returned (.tuple #[rv, .int .i64 0]) ∧ ResAt w12.heap.size w' (runS p t) p.length rv)) := by
    obtain ⟨k1, k2⟩ := HPP.out w12 HI12.out.gr
    refine (replay_m p t _ _ w12 k1 k2 (HTI.out w12 (grown_refl _ _))).mono ?_
    rintro e w' ⟨hg, h⟩
    rcases h with ⟨_, rv, he, ho⟩ | ⟨h, _⟩
    · exact ⟨hg, rv, he, ho⟩
    · exact absurd (checkRun_ok HVP.out ht5) h
  go_wp2_with fail
  refine HR12.out.mono ?_
  clear HR12 c12
  rintro e w13 ⟨hg13, rv, rfl, sv5, gv5, rfl, hp5, hq5⟩
  obtain ⟨j1, j2, j3, rfl⟩ := owns_form hp5
  have hj2 := owns_lenq hp5
  subst hj2
  obtain ⟨o1, o2, o3, rfl⟩ := owns_form hq5
  have ho2 := owns_lenq hq5
  subst ho2
  have HP13 := hide hp5
  have HQ13 := hide hq5
  have HG13 := hide hg13
  have HI13 : Hid (CmI p f w2.heap.size (n1 + 1) w2 (.slice f1 f.length f3) (.slice (some ⟨bg, bof, none⟩) b.length bc) b w13) := HI12.out.grow hg13
  have c13 := HPC.out w13 HI13.out.gr
  clear hp5 hq5 hg13
  generalize hot : runS p t = ot at *
  have HOT := hide hot
  clear hot
  go_upto_region 23 with fail
  generalize hw14 : w13.alloc (Obj.cells #[Value.int IntKind.i64 ot.kind, Value.int IntKind.i64 ot.thread, Value.int IntKind.i64 ot.at_, Value.slice j1 ot.steps.length j3, Value.int IntKind.i64 (ot.st.vars 0), Value.int IntKind.i64 (ot.st.vars 1), Value.int IntKind.i64 (ot.st.vars 2), Value.int IntKind.i64 (ot.st.vars 3), Value.slice o1 p.length o3] 37) = w14
  have HG1314 : Hid (w13.grownBy w14 none) := by unfold Hid; rw [← hw14]; exact grown_alloc (grown_refl _ _)
  have HXB : Hid (w14.heap[w13.heap.size]? = some (.cells (resCells ot (.slice j1 ot.steps.length j3) (.slice o1 p.length o3)) 37 (0, 0))) := by
    unfold Hid; rw [← hw14]; exact heap_alloc_new w13 _
  clear hw14 c13
  have HI14 : Hid (CmI p f w2.heap.size (n1 + 1) w2 (.slice f1 f.length f3) (.slice (some ⟨bg, bof, none⟩) b.length bc) b w14) := HI13.out.grow HG1314.out
  have HG1214 : Hid (w12.grownBy w14 none) := grown_trans HG13.out HG1314.out
  have c14 := HPC.out w14 HI14.out.gr
  have HF14 : Hid (Calls Tryd.prog 31 #[.agg #[.slice (some ⟨pg, po, none⟩) p.length pcap], .slice (some ⟨tg, 0, none⟩) b.length tc] w14 (fun e w' => w14.grownBy w' none ∧ ∃ v, e = .returned (.tuple #[v, .int .i64 0]) ∧ w'.ownsRow w14.heap.size 3 1 v (formS p ot).length (ints (formS p ot)))) := by
    obtain ⟨k1, k2⟩ := HPP.out w14 HI14.out.gr
    refine (form_m p t _ _ w14 k1 k2 (HTI.out w14 HG1214.out)).mono ?_
    rintro e w' ⟨hg, h⟩
    rcases h with ⟨_, v, he, ho⟩ | ⟨h, _⟩
    · rw [HOT.out] at ho; exact ⟨hg, v, he, ho⟩
    · exact absurd (checkRun_ok HVP.out ht5) h
  go_wp2_with fail
  refine HF14.out.mono ?_
  clear HF14 c14
  rintro e w15 ⟨hg15, gv15, rfl, hown15⟩
  obtain ⟨g1, g2, g3, rfl⟩ := owns_form hown15
  have hg2' := owns_lenq hown15
  subst hg2'
  have HO15 := hide (owns_ints hown15)
  have HG15 := hide hg15
  have HI15 : Hid (CmI p f w2.heap.size (n1 + 1) w2 (.slice f1 f.length f3) (.slice (some ⟨bg, bof, none⟩) b.length bc) b w15) := HI14.out.grow hg15
  have HG1215 : Hid (w12.grownBy w15 none) := grown_trans HG1214.out hg15
  have c15 := HPC.out w15 HI15.out.gr
  clear hown15 hg15
  obtain ⟨IS, hIS⟩ : ∃ IS, IS = sameS p b t := ⟨_, rfl⟩
  have HIS := hide hIS
  have HS15 : Hid (Calls Tryd.prog 32 #[.agg #[.slice (some ⟨pg, po, none⟩) p.length pcap], .slice (some ⟨bg, bof, none⟩) b.length bc, .slice (some ⟨tg, 0, none⟩) b.length tc] w15 (fun e w' => w15.grownBy w' none ∧ e = .returned (.tuple #[.bool IS, .int .i64 0]))) := by
    obtain ⟨k1, k2⟩ := HPP.out w15 HI15.out.gr
    refine (sameP_m p b t _ _ _ w15 k1 k2 HI15.out.row (HTI.out w15 HG1215.out)).mono ?_
    rintro e w' ⟨hg, h⟩
    rcases h with ⟨_, he⟩ | ⟨h, _⟩
    · rw [← HIS.out] at he; exact ⟨hg, he⟩
    · refine absurd ?_ h
      unfold checkRunsN; rw [if_pos HVP.out]; simp; omega
  clear hIS
  go_wp2_with fail
  refine HS15.out.mono ?_
  clear HS15 c15
  rintro e w16 ⟨hg16, rfl⟩
  have HG1516 := hide hg16
  have HI16 : Hid (CmI p f w2.heap.size (n1 + 1) w2 (.slice f1 f.length f3) (.slice (some ⟨bg, bof, none⟩) b.length bc) b w16) := HI15.out.grow hg16
  clear hg16
  obtain ⟨EQ, hEQ⟩ : ∃ EQ, EQ = (f == formS p ot) := ⟨_, rfl⟩
  have HEQ := hide hEQ
  have HKS : Hid (Calls Tryd.prog 34 #[.slice f1 f.length f3, .slice g1 (formS p ot).length g3] w16 (fun e w' => e = .returned (.bool EQ) ∧ w16.grownBy w' none)) := by
    refine (keepSame_m f (formS p ot) _ _ w16 HI16.out.frow ((HO15.out.pres (pres_grown HG1516.out)).mono HG1516.out.size) (by omega)).mono ?_
    rintro e w' ⟨rfl, hl⟩
    exact ⟨by rw [← HEQ.out], grown_of_like hl⟩
  clear hEQ
  go_wp2_with fail
  refine HKS.out.mono ?_
  clear HKS
  rintro e w17 ⟨rfl, hg17⟩
  have HI17 : Hid (CmI p f w2.heap.size (n1 + 1) w2 (.slice f1 f.length f3) (.slice (some ⟨bg, bof, none⟩) b.length bc) b w17) := HI16.out.grow hg17
  have HG1417 : Hid (w14.grownBy w17 none) := grown_trans HG15.out (grown_trans HG1516.out hg17)
  have HG1217 : Hid (w12.grownBy w17 none) := grown_trans HG1214.out HG1417.out
  have HXB17 : Hid (w17.heap[w13.heap.size]? = some (.cells (resCells ot (.slice j1 ot.steps.length j3) (.slice o1 p.length o3)) 37 (0, 0))) := by
    unfold Hid; rw [HG1417.out.block _ (Array.getElem?_eq_some_iff.1 HXB.out).1 (by simp)]; exact HXB.out
  have HP17 : Hid (w17.ownsRow w12.heap.size 48 2 (.slice j1 ot.steps.length j3) ot.steps.length (flatS ot.steps)) := owns_grown HP13.out (grown_trans HG1314.out HG1417.out) (fun _ e => by cases e)
  have HQ17 : Hid (w17.ownsRow w12.heap.size 34 4 (.slice o1 p.length o3) p.length (regsF p.length ot.st)) := owns_grown HQ13.out (grown_trans HG1314.out HG1417.out) (fun _ e => by cases e)
  have hbx : w2.heap.size < w12.heap.size := by
    obtain ⟨_, _, _, _, h, _⟩ := HI12.out.blk
    exact (Array.getElem?_eq_some_iff.1 h).1
  clear hg17 HXB HP13 HQ13 HO15 HG15 HG1516 HG1314 HG1214 HG1215 HI13 HI14 HI15 HI16 HI12
  go_upto_if 206 with fail
  refine wp_cond_false rfl ?_
  refine wp_skip ?_
  have htw : w2.heap.size < tg := by
    obtain ⟨_, _, _, _, h, _⟩ := HI10.out.blk
    have := (Array.getElem?_eq_some_iff.1 h).1
    omega
  have hT17 : Hid (IntsAt w17.heap.size w17 (.slice (some ⟨tg, 0, none⟩) b.length tc) t) := HTI.out w17 HG1217.out
  cases AP with
  | true =>
    obtain ⟨hsch, kd, th_, at1, stq, fmq, smq⟩ := HRD.out.1 rfl
    have hEQ : EQ = true := by rw [HEQ.out, fmq, HI17.out.fm]; simp
    have hIS : IS = true := by rw [HIS.out]; exact smq
    subst hEQ hIS
    refine ‹∀ a w, _ → _› _ _ ?_
    refine commT hlen hb HTL HOT ⟨hsch, kd, th_, at1, stq, fmq⟩ HI17 HXB17 HP17 HQ17 hT17 hbx HG13.out.size (by omega) htw HFA HK
  | false =>
    refine ‹∀ a w, _ → _› _ _ ?_
    refine commF hb hk1 HEQ HIS (HRD.out.2 rfl) HI17 HXB17 HP17 (HY.out w17 (grown_trans HG12.out HG1217.out)) HK

end Go.Proofs.YtklenjmfalljgaaDoor

/- Commuted: what the two touch. -/
namespace Go.Proofs.YtklenjmfalljgaaDoor
open Go.RowKit
attribute [local go_sem] Go.World.cell?_alloc_some

set_option maxHeartbeats 8000000 in
set_option maxRecDepth 100000 in
theorem commB {p : List (List Ins)} {f b : List Int} {n1 n5 i k t1 k1 t2 k2 pg po pcap cg1 co1 cl1 cc1 cg2 co2 cl2 cc2 bc f3 : Nat} {i1 i2 : Ins} {bo f1 : Option Addr} {w2 w8 : World} (HVP : Hid (vProg p = true)) (hlen : 1 ≤ p.length ∧ p.length ≤ 4) (hb : b.length ≤ 200) (hk1 : k + 1 < b.length) (hfl : f.length ≤ 200) (h12 : n1 + 1 ≤ w2.heap.size)
    (_hx1 : cl1 ≤ 16) (_hx2 : cl2 ≤ 16) (hu : t1 < p.length ∧ k1 < cl1 ∧ t2 < p.length ∧ k2 < cl2) (HST : Hid (b[k]? = some (t1 : Int) ∧ b[k + 1]? = some (t2 : Int)))
    (HRD : Hid ((apartB i1 i2 = true → Sched p (swapL b k) ∧ (runS p (swapL b k)).kind = (runS p b).kind ∧ (runS p (swapL b k)).thread = (runS p b).thread ∧ (runS p (swapL b k)).at_ = (runS p b).at_ ∧ (runS p (swapL b k)).st = (runS p b).st ∧ formS p (runS p (swapL b k)) = formS p (runS p b) ∧ sameS p b (swapL b k) = true) ∧
      (apartB i1 i2 = false → (runS p (swapL b k)).kind ≠ 2 → (runS p (swapL b k)).steps.length = b.length → (runS p (swapL b k)).steps[k]? = some ((t2 : Int), (k2 : Int)) → (runS p (swapL b k)).steps[k + 1]? = some ((t1 : Int), (k1 : Int)) → (formS p (runS p b) == formS p (runS p (swapL b k))) = false ∧ sameS p b (swapL b k) = false)))
    (HI8 : Hid (CmI p f w2.heap.size (n1 + 1) w2 (.slice f1 f.length f3) (.slice bo b.length bc) b w8))
    (HPC : Hid (∀ u, w2.grownBy u none → u.cell? ⟨n1, 0, none⟩ = some (.slice (some ⟨pg, po, none⟩) p.length pcap))) (HPP : Hid (∀ u, w2.grownBy u none → ShpAt u ∧ ProgAt u (.agg #[.slice (some ⟨pg, po, none⟩) p.length pcap]) p))
    (HST2 : Hid (∀ u, w8.grownBy u none → (u.cell? ⟨n5, 0, none⟩ = some (.int .i64 (t1 : Int)) ∧ u.cell? ⟨n5, 1, none⟩ = some (.int .i64 (k1 : Int))) ∧ u.cell? ⟨n5 + 1, 0, none⟩ = some (.int .i64 (t2 : Int)) ∧ u.cell? ⟨n5 + 1, 1, none⟩ = some (.int .i64 (k2 : Int))))
    (HMM : Hid (w8.cell? ⟨pg, po + t1, none⟩ = some (.slice (some ⟨cg1, co1, none⟩) cl1 cc1) ∧ w8.cell? ⟨cg1, co1 + k1 * 4, none⟩ = some (.int .i64 i1.op) ∧ w8.cell? ⟨cg1, co1 + k1 * 4 + 1, none⟩ = some (.int .i64 i1.a) ∧ w8.cell? ⟨cg1, co1 + k1 * 4 + 2, none⟩ = some (.int .i64 i1.b) ∧ w8.cell? ⟨cg1, co1 + k1 * 4 + 3, none⟩ = some (.int .i64 i1.n)))
    (HNN : Hid (w8.cell? ⟨pg, po + t2, none⟩ = some (.slice (some ⟨cg2, co2, none⟩) cl2 cc2) ∧ w8.cell? ⟨cg2, co2 + k2 * 4, none⟩ = some (.int .i64 i2.op) ∧ w8.cell? ⟨cg2, co2 + k2 * 4 + 1, none⟩ = some (.int .i64 i2.a) ∧ w8.cell? ⟨cg2, co2 + k2 * 4 + 2, none⟩ = some (.int .i64 i2.b) ∧ w8.cell? ⟨cg2, co2 + k2 * 4 + 3, none⟩ = some (.int .i64 i2.n)))
    (HFA : Hid (∀ g, (Value.slice f1 f.length f3).ownBlock = some g → g ≠ w2.heap.size))
    {K : Act → World → Prop} {Q' : Exit → Act → World → Prop} {c0 c1 c2 c3 c4 c5 c6 c10 c12 c17 c18 c19 c20 c21 c22 c23 c24 c25 c26 c27 c28 c29 c30 c31 c32 c33 c34 c35 c36 c37 c38 c39 c40 c41 c42 c43 c44 c45 c46 c47 c48 c49 c50 c51 c52 c53 c54 c55 c56 c57 c58 c59 c60 c61 c62 c63 c64 c65 c66 c67 c68 c69 c70 c71 c72 c73 c74 c75 c76 c77 c78 c79 c80 c81 c82 c83 c84 c85 c86 c87 c88 c89 c90 c91 c92 c93 c94 c95 c96 c97 c98 c99 c100 c101 c102 c103 c104 c105 c106 c107 c108 c109 c110 c111 c112 c113 c114 c115 c116 c117 c118 c119 c120 c121 c122 c123 c124 c125 c126 c127 c128 c129 c130 c131 c132 c133 c134 c135 c136 c137 c138 c139 c140 c141 c142 c143 c144 c145 c146 c147 c148 c149 c150 c151 c152 c153 c154 c155 c156 c157 c158 c159 c160 c161 c162 c163 c164 c165 c166 c167 c168 c169 c170 c171 c172 c173 c174 c175 c176 c177 c178 c179 c180 c181 c182 c183 c184 c185 c186 c187 c188 c189 c190 c191 c192 c193 c194 c195 c196 c197 c198 c199 c200 c201 c202 c203 c204 c205 c206 c207 c208 c209 c210 c211 c212 c213 c214 c215 c216 c217 c218 c219 c220 c221 c222 c223 c224 c225 c226 c227 c228 c229 c230 c231 c232 c233 c234 c235 c236 c237 c238 c239 c240 c241 c242 c243 c244 c245 c246 c247 c248 c249 c250 c251 c252 c253 c254 c255 c256 c257 c258 c259 : Value}
    (HQP : Hid (∀ c a d v w, Q' (.panic c) (Act.put a (some d) v) w → Q' (.panic c) a w)) (HK : Hid (∀ {z6 z17 z18 z19 z20 z21 z22 z23 z24 z25 z26 z27 z28 z29 z30 z102 z103 z104 z105 z106 z107 z108 z109 z110 z111 z112 z113 z114 z115 z116 z117 z118 z119 z120 z121 z122 z123 z124 z125 z126 z127 z128 z129 z130 z131 z132 z133 z134 z135 z136 z137 z138 z139 z140 z141 z142 z143 z144 z145 z146 z147 z148 z149 z150 z151 z152 z153 z154 z155 z156 z157 z158 z159 z160 z161 z162 z163 z164 z165 z166 z167 z168 z169 z170 z171 z172 z173 z174 z175 z176 z177 z178 z179 z180 z181 z182 z183 z184 z185 z186 z187 z188 z189 z190 z191 z192 z193 z194 z195 z196 z197 z198 z199 z200 z201 z202 z203 z204 z205 z206 z207 z208 z209 z210 z211 z212 z213 z214 z215 z216 z217 z218 z219 z220 z221 z222 z223 z224 z225 z226 z227 z228 z229 z230 z231 z232 z233 z234 z235 z236 z237 z238 z239 z240 z241 z242 z243 z244 z245 z246 z247 z248 z249 z250 z251 z252 z253 z254 z255 z256 z257 z258 z259 : Value} (t2 : List Int) (bo2 : Option Addr) (L bc2 : Nat) (w' : World), L = t2.length → L ≤ 200 → CmI p f w2.heap.size (n1 + 1) w2 (.slice f1 f.length f3) (.slice bo2 L bc2) t2 w' → K ⟨#[c0, c1, c2, c3, c4, c5, z6, .pointer (some ⟨n1, 0, none⟩), .slice bo2 L bc2, .pointer (some ⟨w2.heap.size, 0, none⟩), c10, .slice f1 f.length f3, c12, .int .i64 (i : Int), .int .i64 (k : Int), .pointer (some ⟨n5, 0, none⟩), .pointer (some ⟨n5 + 1, 0, none⟩), z17, z18, z19, z20, z21, z22, z23, z24, z25, z26, z27, z28, z29, z30, c31, c32, c33, c34, c35, c36, c37, c38, c39, c40, c41, c42, c43, c44, c45, c46, c47, c48, c49, c50, c51, c52, c53, c54, c55, c56, c57, c58, c59, c60, c61, c62, c63, c64, c65, c66, c67, c68, c69, c70, c71, c72, c73, c74, c75, c76, c77, c78, c79, c80, c81, c82, c83, c84, c85, c86, c87, c88, c89, c90, c91, c92, c93, c94, c95, c96, c97, c98, c99, c100, c101, z102, z103, z104, z105, z106, z107, z108, z109, z110, z111, z112, z113, z114, z115, z116, z117, z118, z119, z120, z121, z122, z123, z124, z125, z126, z127, z128, z129, z130, z131, z132, z133, z134, z135, z136, z137, z138, z139, z140, z141, z142, z143, z144, z145, z146, z147, z148, z149, z150, z151, z152, z153, z154, z155, z156, z157, z158, z159, z160, z161, z162, z163, z164, z165, z166, z167, z168, z169, z170, z171, z172, z173, z174, z175, z176, z177, z178, z179, z180, z181, z182, z183, z184, z185, z186, z187, z188, z189, z190, z191, z192, z193, z194, z195, z196, z197, z198, z199, z200, z201, z202, z203, z204, z205, z206, z207, z208, z209, z210, z211, z212, z213, z214, z215, z216, z217, z218, z219, z220, z221, z222, z223, z224, z225, z226, z227, z228, z229, z230, z231, z232, z233, z234, z235, z236, z237, z238, z239, z240, z241, z242, z243, z244, z245, z246, z247, z248, z249, z250, z251, z252, z253, z254, z255, z256, z257, z258, z259], []⟩ w')) :
    Code.wp Tryd.prog (tailOf Tryd.f10 15) (Exit.inBlock 1 (Exit.then K Q')) ⟨#[c0, c1, c2, c3, c4, c5, c6, .pointer (some ⟨n1, 0, none⟩), .slice bo b.length bc, .pointer (some ⟨w2.heap.size, 0, none⟩), c10, .slice f1 f.length f3, c12, .int .i64 (i : Int), .int .i64 (k : Int), .pointer (some ⟨n5, 0, none⟩), .pointer (some ⟨n5 + 1, 0, none⟩), c17, c18, c19, c20, c21, c22, c23, c24, c25, c26, c27, c28, c29, c30, c31, c32, c33, c34, c35, c36, c37, c38, c39, c40, c41, c42, c43, c44, c45, c46, c47, c48, c49, c50, c51, c52, c53, c54, c55, c56, c57, c58, c59, c60, c61, c62, c63, c64, c65, c66, c67, c68, c69, c70, c71, c72, c73, c74, c75, c76, c77, c78, c79, c80, c81, c82, c83, c84, c85, c86, c87, c88, c89, c90, c91, c92, c93, c94, c95, c96, c97, c98, c99, c100, c101, c102, c103, c104, c105, c106, c107, c108, c109, c110, c111, c112, c113, c114, c115, c116, c117, c118, c119, c120, c121, c122, c123, c124, c125, c126, c127, c128, c129, c130, c131, c132, c133, c134, c135, c136, c137, c138, c139, c140, c141, c142, c143, c144, c145, c146, c147, c148, c149, c150, c151, c152, c153, c154, c155, c156, c157, c158, c159, c160, c161, c162, c163, c164, c165, c166, c167, c168, c169, c170, c171, c172, c173, c174, c175, c176, c177, c178, c179, c180, c181, c182, c183, c184, c185, c186, c187, c188, c189, c190, c191, c192, c193, c194, c195, c196, c197, c198, c199, c200, c201, c202, c203, c204, c205, c206, c207, c208, c209, c210, c211, c212, c213, c214, c215, c216, c217, c218, c219, c220, c221, c222, c223, c224, c225, c226, c227, c228, c229, c230, c231, c232, c233, c234, c235, c236, c237, c238, c239, c240, c241, c242, c243, c244, c245, c246, c247, c248, c249, c250, c251, c252, c253, c254, c255, c256, c257, c258, c259], []⟩ w8 := by
  conv => arg 2; whnf
  obtain ⟨u1, u2, u3, u4⟩ := hu
  have p1 : (t1 : Int) < p.length := by omega
  have p2 : (k1 : Int) < cl1 := by omega
  have p3 : (t2 : Int) < p.length := by omega
  have p4 : (k2 : Int) < cl2 := by omega
  have p5 : (0 : Int) ≤ (t1 : Int) := by omega
  have p6 : (0 : Int) ≤ (k1 : Int) := by omega
  have p7 : (0 : Int) ≤ (t2 : Int) := by omega
  have p8 : (0 : Int) ≤ (k2 : Int) := by omega
  go_upto_region 15 with fail
  have hp8 := HPC.out w8 HI8.out.gr
  have HS1 : Hid (∀ u, w8.grownBy u none → u.cell? ⟨n5, 0, none⟩ = some (.int .i64 (t1 : Int)) ∧ u.cell? ⟨n5, 1, none⟩ = some (.int .i64 (k1 : Int)) ∧ u.cell? ⟨n1, 0, none⟩ = some (.slice (some ⟨pg, po, none⟩) p.length pcap) ∧ u.cell? ⟨pg, po + t1, none⟩ = some (.slice (some ⟨cg1, co1, none⟩) cl1 cc1) ∧ u.cell? ⟨cg1, co1 + k1 * 4, none⟩ = some (.int .i64 i1.op) ∧ u.cell? ⟨cg1, co1 + k1 * 4 + 1, none⟩ = some (.int .i64 i1.a) ∧ u.cell? ⟨cg1, co1 + k1 * 4 + 2, none⟩ = some (.int .i64 i1.b) ∧ u.cell? ⟨cg1, co1 + k1 * 4 + 3, none⟩ = some (.int .i64 i1.n)) := fun u hu => by
    obtain ⟨m0, m1, m2, m3, m4⟩ := HMM.out
    obtain ⟨⟨s0, s1⟩, _⟩ := HST2.out u hu
    exact ⟨s0, s1, pres_grown hu _ _ hp8, pres_grown hu _ _ m0, pres_grown hu _ _ m1, pres_grown hu _ _ m2, pres_grown hu _ _ m3, pres_grown hu _ _ m4⟩
  have HS2 : Hid (∀ u, w8.grownBy u none → u.cell? ⟨n5 + 1, 0, none⟩ = some (.int .i64 (t2 : Int)) ∧ u.cell? ⟨n5 + 1, 1, none⟩ = some (.int .i64 (k2 : Int)) ∧ u.cell? ⟨n1, 0, none⟩ = some (.slice (some ⟨pg, po, none⟩) p.length pcap) ∧ u.cell? ⟨pg, po + t2, none⟩ = some (.slice (some ⟨cg2, co2, none⟩) cl2 cc2) ∧ u.cell? ⟨cg2, co2 + k2 * 4, none⟩ = some (.int .i64 i2.op) ∧ u.cell? ⟨cg2, co2 + k2 * 4 + 1, none⟩ = some (.int .i64 i2.a) ∧ u.cell? ⟨cg2, co2 + k2 * 4 + 2, none⟩ = some (.int .i64 i2.b) ∧ u.cell? ⟨cg2, co2 + k2 * 4 + 3, none⟩ = some (.int .i64 i2.n)) := fun u hu => by
    obtain ⟨m0, m1, m2, m3, m4⟩ := HNN.out
    obtain ⟨_, s0, s1⟩ := HST2.out u hu
    exact ⟨s0, s1, pres_grown hu _ _ hp8, pres_grown hu _ _ m0, pres_grown hu _ _ m1, pres_grown hu _ _ m2, pres_grown hu _ _ m3, pres_grown hu _ _ m4⟩
  clear hp8 HMM HNN
  have hHeld0 : w8.drew.cell? ⟨n5, 0, none⟩ = some (.int .i64 (t1 : Int)) ∧ w8.drew.cell? ⟨n5, 1, none⟩ = some (.int .i64 (k1 : Int)) ∧ w8.drew.cell? ⟨n1, 0, none⟩ = some (.slice (some ⟨pg, po, none⟩) p.length pcap) ∧ w8.drew.cell? ⟨pg, po + t1, none⟩ = some (.slice (some ⟨cg1, co1, none⟩) cl1 cc1) ∧ w8.drew.cell? ⟨cg1, co1 + k1 * 4, none⟩ = some (.int .i64 i1.op) ∧ w8.drew.cell? ⟨cg1, co1 + k1 * 4 + 1, none⟩ = some (.int .i64 i1.a) ∧ w8.drew.cell? ⟨cg1, co1 + k1 * 4 + 2, none⟩ = some (.int .i64 i1.b) ∧ w8.drew.cell? ⟨cg1, co1 + k1 * 4 + 3, none⟩ = some (.int .i64 i1.n) := HS1.out w8 (grown_refl _ _)
  refine wp_region_head (fun u => u.cell? ⟨n5, 0, none⟩ = some (.int .i64 (t1 : Int)) ∧ u.cell? ⟨n5, 1, none⟩ = some (.int .i64 (k1 : Int)) ∧ u.cell? ⟨n1, 0, none⟩ = some (.slice (some ⟨pg, po, none⟩) p.length pcap) ∧ u.cell? ⟨pg, po + t1, none⟩ = some (.slice (some ⟨cg1, co1, none⟩) cl1 cc1) ∧ u.cell? ⟨cg1, co1 + k1 * 4, none⟩ = some (.int .i64 i1.op) ∧ u.cell? ⟨cg1, co1 + k1 * 4 + 1, none⟩ = some (.int .i64 i1.a) ∧ u.cell? ⟨cg1, co1 + k1 * 4 + 2, none⟩ = some (.int .i64 i1.b) ∧ u.cell? ⟨cg1, co1 + k1 * 4 + 3, none⟩ = some (.int .i64 i1.n)) 15 (by kernel_rfl) (by kernel_rfl) hHeld0 ?_
  intro hHeld
  refine wpHead_take (i := 0) (v := ?vva0) rfl (by kernel_rfl) (fun c _ _ h => HQP.out c _ _ _ _ h) (Or.inl ⟨by rfl, ?hya0⟩) hHeld ?resta0
  case hya0 => (rintro u ⟨hu0, hu1, hu2, hu3, hu4, hu5, hu6, hu7⟩; go_simp; try with_reducible rfl)
  simp only [Act.put, List.setIfInBounds_toArray]
  refine wpHead_take (i := 1) (v := ?vva1) rfl (by kernel_rfl) (fun c _ _ h => HQP.out c _ _ _ _ h) (Or.inl ⟨by rfl, ?hya1⟩) hHeld ?resta1
  case hya1 => (rintro u ⟨hu0, hu1, hu2, hu3, hu4, hu5, hu6, hu7⟩; go_simp; try with_reducible rfl)
  simp only [Act.put]
  refine wpHead_take (i := 2) (v := ?vva2) rfl (by kernel_rfl) (fun c _ _ h => HQP.out c _ _ _ _ h) (Or.inl ⟨by rfl, ?hya2⟩) hHeld ?resta2
  case hya2 => (rintro u ⟨hu0, hu1, hu2, hu3, hu4, hu5, hu6, hu7⟩; go_simp; try with_reducible rfl)
  simp only [Act.put]
  refine wpHead_take (i := 3) (v := ?vva3) rfl (by kernel_rfl) (fun c _ _ h => HQP.out c _ _ _ _ h) (Or.inl ⟨by rfl, ?hya3⟩) hHeld ?resta3
  case hya3 => (rintro u ⟨hu0, hu1, hu2, hu3, hu4, hu5, hu6, hu7⟩; go_simp; try with_reducible rfl)
  simp only [Act.put]
  refine wpHead_take (i := 4) (v := ?vva4) rfl (by kernel_rfl) (fun c _ _ h => HQP.out c _ _ _ _ h) (Or.inl ⟨by rfl, ?hya4⟩) hHeld ?resta4
  case hya4 => (rintro u ⟨hu0, hu1, hu2, hu3, hu4, hu5, hu6, hu7⟩; go_simp; try with_reducible rfl)
  simp only [Act.put]
  refine wpHead_take (i := 5) (v := ?vva5) rfl (by kernel_rfl) (fun c _ _ h => HQP.out c _ _ _ _ h) (Or.inl ⟨by rfl, ?hya5⟩) hHeld ?resta5
  case hya5 => (rintro u ⟨hu0, hu1, hu2, hu3, hu4, hu5, hu6, hu7⟩; go_simp; try with_reducible rfl)
  simp only [Act.put]
  refine wpHead_take (i := 6) (v := ?vva6) rfl (by kernel_rfl) (fun c _ _ h => HQP.out c _ _ _ _ h) (Or.inl ⟨by rfl, ?hya6⟩) hHeld ?resta6
  case hya6 => (rintro u ⟨hu0, hu1, hu2, hu3, hu4, hu5, hu6, hu7⟩; go_simp; try with_reducible rfl)
  simp only [Act.put]
  refine wpHead_take (i := 7) (v := ?vva7) rfl (by kernel_rfl) (fun c _ _ h => HQP.out c _ _ _ _ h) (Or.inl ⟨by rfl, ?hya7⟩) hHeld ?resta7
  case hya7 => (rintro u ⟨hu0, hu1, hu2, hu3, hu4, hu5, hu6, hu7⟩; go_simp; try with_reducible rfl)
  simp only [Act.put]
  refine wpHead_take (i := 8) (v := ?vva8) rfl (by kernel_rfl) (fun c _ _ h => HQP.out c _ _ _ _ h) (Or.inl ⟨by rfl, ?hya8⟩) hHeld ?resta8
  case hya8 => (rintro u ⟨hu0, hu1, hu2, hu3, hu4, hu5, hu6, hu7⟩; go_simp; try with_reducible rfl)
  simp only [Act.put]
  refine wpHead_take (i := 9) (v := ?vva9) rfl (by kernel_rfl) (fun c _ _ h => HQP.out c _ _ _ _ h) (Or.inl ⟨by rfl, ?hya9⟩) hHeld ?resta9
  case hya9 => (rintro u ⟨hu0, hu1, hu2, hu3, hu4, hu5, hu6, hu7⟩; go_simp; try with_reducible rfl)
  simp only [Act.put]
  refine wpHead_alone (i := 10) rfl (by kernel_rfl) (by kernel_rfl) (by rfl) ?_
  intro K10 hK10
  have HK10 := hide hK10
  clear hK10
  go_simp
  refine (touches_m i1 _).mono ?_
  rintro e w9 ⟨rfl, hg9⟩
  have HG9 : Hid (w8.grownBy w9 none) := grown_fromDrew hg9
  have hHeld9 : w9.cell? ⟨n5, 0, none⟩ = some (.int .i64 (t1 : Int)) ∧ w9.cell? ⟨n5, 1, none⟩ = some (.int .i64 (k1 : Int)) ∧ w9.cell? ⟨n1, 0, none⟩ = some (.slice (some ⟨pg, po, none⟩) p.length pcap) ∧ w9.cell? ⟨pg, po + t1, none⟩ = some (.slice (some ⟨cg1, co1, none⟩) cl1 cc1) ∧ w9.cell? ⟨cg1, co1 + k1 * 4, none⟩ = some (.int .i64 i1.op) ∧ w9.cell? ⟨cg1, co1 + k1 * 4 + 1, none⟩ = some (.int .i64 i1.a) ∧ w9.cell? ⟨cg1, co1 + k1 * 4 + 2, none⟩ = some (.int .i64 i1.b) ∧ w9.cell? ⟨cg1, co1 + k1 * 4 + 3, none⟩ = some (.int .i64 i1.n) := ⟨pres_grown hg9 _ _ hHeld.1, pres_grown hg9 _ _ hHeld.2.1, pres_grown hg9 _ _ hHeld.2.2.1, pres_grown hg9 _ _ hHeld.2.2.2.1, pres_grown hg9 _ _ hHeld.2.2.2.2.1, pres_grown hg9 _ _ hHeld.2.2.2.2.2.1, pres_grown hg9 _ _ hHeld.2.2.2.2.2.2.1, pres_grown hg9 _ _ hHeld.2.2.2.2.2.2.2⟩
  refine HK10.out _ _ hHeld9 ?_
  clear HK10 hg9 hHeld hHeld0
  try simp only [Act.put, List.setIfInBounds_toArray]
  refine wpHead_take (i := 11) (v := ?vva11) rfl (by kernel_rfl) (fun c _ _ h => HQP.out c _ _ _ _ h) (Or.inl ⟨by rfl, ?hya11⟩) hHeld9 ?resta11
  case hya11 => (rintro u ⟨hu0, hu1, hu2, hu3, hu4, hu5, hu6, hu7⟩; go_simp; try with_reducible rfl)
  simp only [Act.put]
  refine wpHead_take (i := 12) (v := ?vva12) rfl (by kernel_rfl) (fun c _ _ h => HQP.out c _ _ _ _ h) (Or.inl ⟨by rfl, ?hya12⟩) hHeld9 ?resta12
  case hya12 => (rintro u ⟨hu0, hu1, hu2, hu3, hu4, hu5, hu6, hu7⟩; go_simp; try with_reducible rfl)
  simp only [Act.put]
  refine wpHead_take (i := 13) (v := ?vva13) rfl (by kernel_rfl) (fun c _ _ h => HQP.out c _ _ _ _ h) (Or.inl ⟨by rfl, ?hya13⟩) hHeld9 ?resta13
  case hya13 => (rintro u ⟨hu0, hu1, hu2, hu3, hu4, hu5, hu6, hu7⟩; go_simp; try with_reducible rfl)
  simp only [Act.put]
  refine wpHead_take (i := 14) (v := ?vva14) rfl (by kernel_rfl) (fun c _ _ h => HQP.out c _ _ _ _ h) (Or.inl ⟨by rfl, ?hya14⟩) hHeld9 ?resta14
  case hya14 => (rintro u ⟨hu0, hu1, hu2, hu3, hu4, hu5, hu6, hu7⟩; go_simp; try with_reducible rfl)
  simp only [Act.put]
  refine wpHead_last rfl (by kernel_rfl) (by kernel_rfl) (by rfl) ?_
  go_simp
  clear hHeld9
  go_upto_region 16 with fail
  have hHeld0 : w9.drew.cell? ⟨(n5 + 1), 0, none⟩ = some (.int .i64 (t2 : Int)) ∧ w9.drew.cell? ⟨(n5 + 1), 1, none⟩ = some (.int .i64 (k2 : Int)) ∧ w9.drew.cell? ⟨n1, 0, none⟩ = some (.slice (some ⟨pg, po, none⟩) p.length pcap) ∧ w9.drew.cell? ⟨pg, po + t2, none⟩ = some (.slice (some ⟨cg2, co2, none⟩) cl2 cc2) ∧ w9.drew.cell? ⟨cg2, co2 + k2 * 4, none⟩ = some (.int .i64 i2.op) ∧ w9.drew.cell? ⟨cg2, co2 + k2 * 4 + 1, none⟩ = some (.int .i64 i2.a) ∧ w9.drew.cell? ⟨cg2, co2 + k2 * 4 + 2, none⟩ = some (.int .i64 i2.b) ∧ w9.drew.cell? ⟨cg2, co2 + k2 * 4 + 3, none⟩ = some (.int .i64 i2.n) := HS2.out w9 HG9.out
  refine wp_region_head (fun u => u.cell? ⟨(n5 + 1), 0, none⟩ = some (.int .i64 (t2 : Int)) ∧ u.cell? ⟨(n5 + 1), 1, none⟩ = some (.int .i64 (k2 : Int)) ∧ u.cell? ⟨n1, 0, none⟩ = some (.slice (some ⟨pg, po, none⟩) p.length pcap) ∧ u.cell? ⟨pg, po + t2, none⟩ = some (.slice (some ⟨cg2, co2, none⟩) cl2 cc2) ∧ u.cell? ⟨cg2, co2 + k2 * 4, none⟩ = some (.int .i64 i2.op) ∧ u.cell? ⟨cg2, co2 + k2 * 4 + 1, none⟩ = some (.int .i64 i2.a) ∧ u.cell? ⟨cg2, co2 + k2 * 4 + 2, none⟩ = some (.int .i64 i2.b) ∧ u.cell? ⟨cg2, co2 + k2 * 4 + 3, none⟩ = some (.int .i64 i2.n)) 15 (by kernel_rfl) (by kernel_rfl) hHeld0 ?_
  intro hHeld
  refine wpHead_take (i := 0) (v := ?vvb0) rfl (by kernel_rfl) (fun c _ _ h => HQP.out c _ _ _ _ h) (Or.inl ⟨by rfl, ?hyb0⟩) hHeld ?restb0
  case hyb0 => (rintro u ⟨hu0, hu1, hu2, hu3, hu4, hu5, hu6, hu7⟩; go_simp; try with_reducible rfl)
  simp only [Act.put, List.setIfInBounds_toArray]
  refine wpHead_take (i := 1) (v := ?vvb1) rfl (by kernel_rfl) (fun c _ _ h => HQP.out c _ _ _ _ h) (Or.inl ⟨by rfl, ?hyb1⟩) hHeld ?restb1
  case hyb1 => (rintro u ⟨hu0, hu1, hu2, hu3, hu4, hu5, hu6, hu7⟩; go_simp; try with_reducible rfl)
  simp only [Act.put]
  refine wpHead_take (i := 2) (v := ?vvb2) rfl (by kernel_rfl) (fun c _ _ h => HQP.out c _ _ _ _ h) (Or.inl ⟨by rfl, ?hyb2⟩) hHeld ?restb2
  case hyb2 => (rintro u ⟨hu0, hu1, hu2, hu3, hu4, hu5, hu6, hu7⟩; go_simp; try with_reducible rfl)
  simp only [Act.put]
  refine wpHead_take (i := 3) (v := ?vvb3) rfl (by kernel_rfl) (fun c _ _ h => HQP.out c _ _ _ _ h) (Or.inl ⟨by rfl, ?hyb3⟩) hHeld ?restb3
  case hyb3 => (rintro u ⟨hu0, hu1, hu2, hu3, hu4, hu5, hu6, hu7⟩; go_simp; try with_reducible rfl)
  simp only [Act.put]
  refine wpHead_take (i := 4) (v := ?vvb4) rfl (by kernel_rfl) (fun c _ _ h => HQP.out c _ _ _ _ h) (Or.inl ⟨by rfl, ?hyb4⟩) hHeld ?restb4
  case hyb4 => (rintro u ⟨hu0, hu1, hu2, hu3, hu4, hu5, hu6, hu7⟩; go_simp; try with_reducible rfl)
  simp only [Act.put]
  refine wpHead_take (i := 5) (v := ?vvb5) rfl (by kernel_rfl) (fun c _ _ h => HQP.out c _ _ _ _ h) (Or.inl ⟨by rfl, ?hyb5⟩) hHeld ?restb5
  case hyb5 => (rintro u ⟨hu0, hu1, hu2, hu3, hu4, hu5, hu6, hu7⟩; go_simp; try with_reducible rfl)
  simp only [Act.put]
  refine wpHead_take (i := 6) (v := ?vvb6) rfl (by kernel_rfl) (fun c _ _ h => HQP.out c _ _ _ _ h) (Or.inl ⟨by rfl, ?hyb6⟩) hHeld ?restb6
  case hyb6 => (rintro u ⟨hu0, hu1, hu2, hu3, hu4, hu5, hu6, hu7⟩; go_simp; try with_reducible rfl)
  simp only [Act.put]
  refine wpHead_take (i := 7) (v := ?vvb7) rfl (by kernel_rfl) (fun c _ _ h => HQP.out c _ _ _ _ h) (Or.inl ⟨by rfl, ?hyb7⟩) hHeld ?restb7
  case hyb7 => (rintro u ⟨hu0, hu1, hu2, hu3, hu4, hu5, hu6, hu7⟩; go_simp; try with_reducible rfl)
  simp only [Act.put]
  refine wpHead_take (i := 8) (v := ?vvb8) rfl (by kernel_rfl) (fun c _ _ h => HQP.out c _ _ _ _ h) (Or.inl ⟨by rfl, ?hyb8⟩) hHeld ?restb8
  case hyb8 => (rintro u ⟨hu0, hu1, hu2, hu3, hu4, hu5, hu6, hu7⟩; go_simp; try with_reducible rfl)
  simp only [Act.put]
  refine wpHead_take (i := 9) (v := ?vvb9) rfl (by kernel_rfl) (fun c _ _ h => HQP.out c _ _ _ _ h) (Or.inl ⟨by rfl, ?hyb9⟩) hHeld ?restb9
  case hyb9 => (rintro u ⟨hu0, hu1, hu2, hu3, hu4, hu5, hu6, hu7⟩; go_simp; try with_reducible rfl)
  simp only [Act.put]
  refine wpHead_alone (i := 10) rfl (by kernel_rfl) (by kernel_rfl) (by rfl) ?_
  intro K10 hK10
  have HK10 := hide hK10
  clear hK10
  go_simp
  refine (touches_m i2 _).mono ?_
  rintro e w10 ⟨rfl, hg10⟩
  have HG10 : Hid (w9.grownBy w10 none) := grown_fromDrew hg10
  have hHeld10 : w10.cell? ⟨(n5 + 1), 0, none⟩ = some (.int .i64 (t2 : Int)) ∧ w10.cell? ⟨(n5 + 1), 1, none⟩ = some (.int .i64 (k2 : Int)) ∧ w10.cell? ⟨n1, 0, none⟩ = some (.slice (some ⟨pg, po, none⟩) p.length pcap) ∧ w10.cell? ⟨pg, po + t2, none⟩ = some (.slice (some ⟨cg2, co2, none⟩) cl2 cc2) ∧ w10.cell? ⟨cg2, co2 + k2 * 4, none⟩ = some (.int .i64 i2.op) ∧ w10.cell? ⟨cg2, co2 + k2 * 4 + 1, none⟩ = some (.int .i64 i2.a) ∧ w10.cell? ⟨cg2, co2 + k2 * 4 + 2, none⟩ = some (.int .i64 i2.b) ∧ w10.cell? ⟨cg2, co2 + k2 * 4 + 3, none⟩ = some (.int .i64 i2.n) := ⟨pres_grown hg10 _ _ hHeld.1, pres_grown hg10 _ _ hHeld.2.1, pres_grown hg10 _ _ hHeld.2.2.1, pres_grown hg10 _ _ hHeld.2.2.2.1, pres_grown hg10 _ _ hHeld.2.2.2.2.1, pres_grown hg10 _ _ hHeld.2.2.2.2.2.1, pres_grown hg10 _ _ hHeld.2.2.2.2.2.2.1, pres_grown hg10 _ _ hHeld.2.2.2.2.2.2.2⟩
  refine HK10.out _ _ hHeld10 ?_
  clear HK10 hg10 hHeld hHeld0
  try simp only [Act.put, List.setIfInBounds_toArray]
  refine wpHead_take (i := 11) (v := ?vvb11) rfl (by kernel_rfl) (fun c _ _ h => HQP.out c _ _ _ _ h) (Or.inl ⟨by rfl, ?hyb11⟩) hHeld10 ?restb11
  case hyb11 => (rintro u ⟨hu0, hu1, hu2, hu3, hu4, hu5, hu6, hu7⟩; go_simp; try with_reducible rfl)
  simp only [Act.put]
  refine wpHead_take (i := 12) (v := ?vvb12) rfl (by kernel_rfl) (fun c _ _ h => HQP.out c _ _ _ _ h) (Or.inl ⟨by rfl, ?hyb12⟩) hHeld10 ?restb12
  case hyb12 => (rintro u ⟨hu0, hu1, hu2, hu3, hu4, hu5, hu6, hu7⟩; go_simp; try with_reducible rfl)
  simp only [Act.put]
  refine wpHead_take (i := 13) (v := ?vvb13) rfl (by kernel_rfl) (fun c _ _ h => HQP.out c _ _ _ _ h) (Or.inl ⟨by rfl, ?hyb13⟩) hHeld10 ?restb13
  case hyb13 => (rintro u ⟨hu0, hu1, hu2, hu3, hu4, hu5, hu6, hu7⟩; go_simp; try with_reducible rfl)
  simp only [Act.put]
  refine wpHead_take (i := 14) (v := ?vvb14) rfl (by kernel_rfl) (fun c _ _ h => HQP.out c _ _ _ _ h) (Or.inl ⟨by rfl, ?hyb14⟩) hHeld10 ?restb14
  case hyb14 => (rintro u ⟨hu0, hu1, hu2, hu3, hu4, hu5, hu6, hu7⟩; go_simp; try with_reducible rfl)
  simp only [Act.put]
  refine wpHead_last rfl (by kernel_rfl) (by kernel_rfl) (by rfl) ?_
  go_simp
  clear hHeld10
  have HG810 : Hid (w8.grownBy w10 none) := grown_trans HG9.out HG10.out
  clear HS1 HS2 u1 u2 u3 u4 p1 p2 p3 p4 p5 p6 p7 p8 HG9 HG10
  obtain ⟨AP, hAP⟩ : ∃ AP, AP = apartB i1 i2 := ⟨_, rfl⟩
  rw [← hAP] at HRD
  unfold apartB at hAP
  generalize touK i1 = K1 at *
  generalize touK i2 = K2 at *
  generalize touW i1 = W1 at *
  generalize touW i2 = W2 at *
  have HAP := hide hAP
  clear hAP
  go_upto_region 17 with fail
  go_cut [21] from 102 to 155 (fun q w' => q = .bool AP ∧ w' = w10)
  case first =>
    --AB
    as_aux_lemma =>
    clear HRD
    by_cases a1 : K1 = 0
    · subst a1
      go_wp2_with fail
      go_meet
      exact ⟨congrArg Value.bool (by rw [HAP.out]; simp), rfl⟩
    · have b1 : (K1 == 0) = false := by simpa using a1
      by_cases a2 : K2 = 0
      · subst a2
        go_wp2_with fail
        go_meet
        exact ⟨congrArg Value.bool (by rw [HAP.out]; simp), rfl⟩
      · have b2 : (K2 == 0) = false := by simpa using a2
        by_cases a3 : W1 = W2
        · subst a3
          by_cases a4 : K1 = 1
          · subst a4
            by_cases a5 : K2 = 1
            · subst a5
              clear a1 a2 b1 b2
              go_wp2_with fail
              go_meet
              exact ⟨congrArg Value.bool (by rw [HAP.out]; simp), rfl⟩
            · have b5 : (K2 == 1) = false := by simpa using a5
              clear a1 a2 a5 b1
              go_wp2_with fail
              go_meet
              exact ⟨congrArg Value.bool (by rw [HAP.out]; simp [b2, b5]), rfl⟩
          · have b4 : (K1 == 1) = false := by simpa using a4
            by_cases a5 : K2 = 1
            · subst a5
              clear a1 a2 a4 b2
              go_wp2_with fail
              go_meet
              exact ⟨congrArg Value.bool (by rw [HAP.out]; simp [b1, b4]), rfl⟩
            · have b5 : (K2 == 1) = false := by simpa using a5
              by_cases a6 : K1 = 2
              · subst a6
                by_cases a7 : K2 = 2
                · subst a7
                  clear a1 a2 a4 a5 b1 b2 b4 b5
                  go_wp2_with fail
                  go_meet
                  exact ⟨congrArg Value.bool (by rw [HAP.out]; simp), rfl⟩
                · have b7 : (K2 == 2) = false := by simpa using a7
                  clear a1 a2 a4 a5 a7 b1 b4
                  go_wp2_with fail
                  go_meet
                  exact ⟨congrArg Value.bool (by rw [HAP.out]; simp [b2, b5, b7]), rfl⟩
              · have b6 : (K1 == 2) = false := by simpa using a6
                clear a1 a2 a4 a5 a6
                go_wp2_with fail
                go_meet
                exact ⟨congrArg Value.bool (by rw [HAP.out]; simp [b1, b2, b4, b5, b6]), rfl⟩
        · have b3 : (W1 == W2) = false := by simpa using a3
          have b3' : (W1 != W2) = true := by simpa using a3
          clear a1 a2
          go_wp2_with fail
          go_meet
          exact ⟨congrArg Value.bool (by rw [HAP.out]; simp [b1, b2, b3']), rfl⟩
    --AE
  case rest =>
    obtain ⟨rfl, hwc⟩ := hcut
    have hwc2 := hwc.symm
    subst hwc2
    refine ‹∀ a w, _ → _› _ _ ?_
    refine commC HVP hlen hb hk1 hfl h12 HST HRD (HI8.out.grow HG810.out) HPC HPP (fun u hu => HST2.out u (grown_trans HG810.out hu)) HFA HK

end Go.Proofs.YtklenjmfalljgaaDoor

/- The walk of Commuted. -/
namespace Go.Proofs.YtklenjmfalljgaaDoor
open Go.RowKit
attribute [local go_sem] Go.World.cell?_alloc_some

set_option maxHeartbeats 8000000 in
set_option maxRecDepth 100000 in
theorem commuted_m (raw : List (List Int)) (ch pl : List Int) (rawv chv plv : Value) (w : World) (hS : ShpAt w) (hR : RawAt w rawv raw) (hbR : ∀ t (ht : t < raw.length) k (hk : k < raw[t].length), isInt raw[t][k])
    (hC : IntsAt w.heap.size w chv ch) (hbC : ∀ k (hk : k < ch.length), -9223372036854775808 ≤ ch[k] ∧ ch[k] ≤ 9223372036854775807)
    (hL : IntsAt w.heap.size w plv pl) (hbL : ∀ k (hk : k < pl.length), -9223372036854775808 ≤ pl[k] ∧ pl[k] ≤ 9223372036854775807) :
    Calls Tryd.prog 10 #[rawv, chv, plv] w fun e w' => e = .returned (.bool true) ∧ w.grownBy w' none := by
  obtain ⟨i0, hi0, hz0, hz1, hz2⟩ := info_parts info_int
  have HSh := hide hS
  have HC := hide hC
  have HBC := hide hbC
  have HBL := hide hbL
  have HLL := hide hL
  obtain ⟨lao, lcap, rfl, _, _⟩ := hL
  have HPR := hide (program_m raw rawv w hR hbR)
  have hvp := progN_valid raw
  clear hS hR hbR hC hbC hbL
  generalize progN raw = p at *
  have HVP := hide hvp
  have hlen := vProg_len hvp
  clear hvp
  go_enter Tryd.func10, Tryd.ntmps10
  go_wp2_with fail
  refine HPR.out.mono ?_
  clear HPR
  rintro e w1 ⟨tv, rfl, hP, hg1⟩
  have hform := hP.form
  obtain ⟨pao, pcap, htv⟩ := hform
  have htv2 : tv = .slice pao p.length pcap := by simpa using htv
  subst htv2
  have HP1 := hide hP
  have HG1 := hide hg1
  have hs1 := hg1.size
  clear hP hg1 htv
  go_wp2_with fail
  have HSC := hide (schedule_m p ch (.agg #[.slice pao p.length pcap]) chv (w1.alloc (.cells #[.slice pao p.length pcap] 25)) (HSh.out.pres (pres_grown (grown_alloc HG1.out))) HVP.out (HP1.out.pres (pres_grown (grown_alloc (grown_refl _ _)))) ((HC.out.pres (pres_grown (grown_alloc HG1.out))).mono (by simp; omega)) HBC.out)
  refine HSC.out.mono ?_
  clear HSC HC HBC
  rintro e w2 ⟨sv, rv, a, rfl, hrow, ⟨st, gt, rfl, ho1, ho2⟩, hsd, h200, _, hg2⟩
  have hsz2 : w1.heap.size + 1 ≤ w2.heap.size := by have := hg2.size; simpa using this
  obtain ⟨s1, s2, s3, rfl⟩ := owns_form hrow
  have e2 := owns_lenq hrow
  subst e2
  obtain ⟨x1, x2, x3, rfl⟩ := owns_form ho1
  have e3 := (owns_lenq ho1).trans hsd.2
  subst e3
  obtain ⟨y1, y2, y3, rfl⟩ := owns_form ho2
  have e4 := owns_lenq ho2
  subst e4
  have HPB : Hid (w2.heap[w1.heap.size]? = some (.cells #[.slice pao p.length pcap] 25 (0, 0))) := by
    unfold Hid; rw [hg2.block _ (by simp) (by simp)]; exact heap_alloc_new w1 _
  have HG2 : Hid (w.grownBy w2 none) := grown_trans (grown_alloc HG1.out) hg2
  have HP2 : Hid (ProgAt w2 (.agg #[.slice pao p.length pcap]) p) := HP1.out.pres (pres_grown (grown_trans (grown_alloc (grown_refl _ _)) hg2))
  have HSh2 : Hid (ShpAt w2) := HSh.out.pres (pres_grown HG2.out)
  have HO1 : Hid (w2.ownsRow (w1.heap.size + 1) 48 2 (.slice x1 a.length x3) (runS p a).steps.length (flatS (runS p a).steps)) := by unfold Hid; simpa using ho1
  have HO2 : Hid (w2.ownsRow (w1.heap.size + 1) 34 4 (.slice y1 p.length y3) p.length (regsF p.length (runS p a).st)) := by unfold Hid; simpa using ho2
  have HII := hide (owns_ints hrow)
  have HNO := hide (owns_nilC hrow)
  have HAW : Hid (∀ g, (Value.slice s1 a.length s3).ownBlock = some g → g ≠ w2.heap.size) := fun g e => by have := owns_ltC hrow g e; omega
  have HSD := hide hsd
  clear hrow ho1 ho2 hsd hg2 HP1 HG1 HSh
  have HM7 : Hid ((formS p (runS p a)).length = a.length) := (formed_run HSD.out).2.2.2.2.2.2
  have HCA : Hid (checkRunN p a = 0) := checkRun_ok HVP.out (by omega)
  obtain ⟨f, hf⟩ : ∃ f, f = formS p (runS p a) := ⟨_, rfl⟩
  rw [← hf] at HM7
  have HFQ := hide hf
  clear hf
  have q1 : (a.length : Int) ≤ 200 := by omega
  generalize hO : runS p a = o at *
  have HOE := hide hO
  clear hO
  go_upto_region 5 with fail
  generalize hw3 : w2.alloc (Obj.cells #[Value.int IntKind.i64 o.kind, Value.int IntKind.i64 o.thread, Value.int IntKind.i64 o.at_, Value.slice x1 a.length x3, Value.int IntKind.i64 (o.st.vars 0), Value.int IntKind.i64 (o.st.vars 1), Value.int IntKind.i64 (o.st.vars 2), Value.int IntKind.i64 (o.st.vars 3), Value.slice y1 p.length y3] 37) = w3
  have HG23 : Hid (w2.grownBy w3 none) := by unfold Hid; rw [← hw3]; exact grown_alloc (grown_refl _ _)
  have hsz3 : w3.heap.size = w2.heap.size + 1 := by rw [← hw3]; simp
  have HRB : Hid (w3.heap[w2.heap.size]? = some (.cells (resCells o (.slice x1 a.length x3) (.slice y1 p.length y3)) 37 (0, 0))) := by
    unfold Hid; rw [← hw3]; exact heap_alloc_new w2 _
  clear hw3
  have HPC : Hid (∀ u, w2.grownBy u none → u.cell? ⟨w1.heap.size, 0, none⟩ = some (.slice pao p.length pcap)) := fun u hu => by
    rw [World.cell?_of_block (hu.block _ (by simp; omega) (by simp))]
    simp [World.cell?, HPB.out]
  have HPP : Hid (∀ u, w2.grownBy u none → ShpAt u ∧ ProgAt u (.agg #[.slice pao p.length pcap]) p) := fun u hu =>
    ⟨HSh2.out.pres (pres_grown hu), HP2.out.pres (pres_grown hu)⟩
  have c3 := HPC.out w3 HG23.out
  have HF3 : Hid (Calls Tryd.prog 31 #[.agg #[.slice pao p.length pcap], .slice s1 a.length s3] w3 (fun e w' => w3.grownBy w' none ∧ ∃ v, e = .returned (.tuple #[v, .int .i64 0]) ∧ w'.ownsRow w3.heap.size 3 1 v f.length (ints f))) := by
    obtain ⟨k1, k2⟩ := HPP.out w3 HG23.out
    refine (form_m p a _ _ w3 k1 k2 ((HII.out.pres (pres_grown HG23.out)).mono HG23.out.size)).mono ?_
    rintro e w' ⟨hg, h⟩
    rcases h with ⟨_, v, he, ho⟩ | ⟨h, _⟩
    · rw [HOE.out, ← HFQ.out] at ho; exact ⟨hg, v, he, ho⟩
    · exact absurd HCA.out h
  go_wp2_with fail
  refine HF3.out.mono ?_
  clear HF3 c3
  rintro e w4 ⟨hg4, fv, rfl, hown4⟩
  obtain ⟨f1, f2, f3, rfl⟩ := owns_form hown4
  have hf2 := owns_lenq hown4
  subst hf2
  have HFA : Hid (∀ g, (Value.slice f1 f.length f3).ownBlock = some g → g ≠ w2.heap.size) := fun g e => by have := owns_block hown4 g e; omega
  have hfl : f.length ≤ 200 := by have := HM7.out; omega
  have H0 : Hid (CmI p f w2.heap.size (w1.heap.size + 1) w2 (.slice f1 f.length f3) (.slice s1 a.length s3) a w4) := by
    have hg24 := grown_trans HG23.out hg4
    refine ⟨HSD.out, by rw [HOE.out]; exact HFQ.out.symm, (HII.out.pres (pres_grown hg24)).mono hg24.size, HNO.out, HAW.out, hg24, owns_ints hown4, x1, x3, y1, y3, ?_, ?_, ?_⟩
    · rw [HOE.out, hg4.block _ (by omega) (by simp)]; exact HRB.out
    · rw [HOE.out]; exact owns_grown HO1.out hg24 (fun _ e => by cases e)
    · rw [HOE.out]; exact owns_grown HO2.out hg24 (fun _ e => by cases e)
  have HQ : Hid (a.length ≤ 200 ∧ w2.heap.size < w3.heap.size ∧ w1.heap.size + 1 ≤ w2.heap.size) := ⟨by omega, by omega, hsz2⟩
  clear hown4 hg4 HII HNO HAW HSD HO1 HO2 HRB HG23 HSh2 HP2 HCA HFQ HOE hsz3 hsz2 h200 hs1 HM7 q1
  go_wp2_with fail
  go_loopw [8, 13] (fun sv iv w' => ∃ (i : Nat) (b : List Int) (bo : Option Addr) (bc : Nat), i ≤ pl.length ∧ i ≤ 20 ∧ iv = .int .i64 i ∧ sv = .slice bo b.length bc ∧ b.length ≤ 200 ∧ Hid (CmI p f w2.heap.size (w1.heap.size + 1) w2 (.slice f1 f.length f3) sv b w')) (fun _ iv _ => 20 - (intOf iv).toNat)
  case atStart => exact ⟨0, a, s1, s3, Nat.zero_le _, by omega, rfl, rfl, HQ.out.1, H0⟩
  case round =>
    clear H0
    obtain ⟨i, b, bo, bc, hi, hi20, rfl, rfl, hb, HI⟩ := hrel
    obtain ⟨w5, hw5⟩ : ∃ w5, w5 = wr := ⟨_, rfl⟩
    rw [← hw5] at HI ⊢
    clear hw5
    have q0 : (b.length : Int) ≤ 200 := by omega
    by_cases hlt : i < pl.length ∧ i < 20 ∧ 1 < b.length
    · obtain ⟨hl1, hl2, hl3⟩ := hlt
      have t0 : (0 : Int) ≤ (i : Int) := by omega
      have t1' : (i : Int) < pl.length := by omega
      have t2' : (i : Int) < 20 := by omega
      have t3' : (1 : Int) < b.length := by omega
      obtain ⟨lg, lo, hla, _, hlc⟩ : ∃ g o, lao = some ⟨g, o, none⟩ ∧ g < w.heap.size ∧ w.cell? ⟨g, o + i, none⟩ = some (.int .i64 pl[i]) := by
        obtain ⟨ao, cap, e, _, h⟩ := HLL.out
        simp only [Value.slice.injEq] at e
        obtain ⟨g, o, e1, e2, e3⟩ := h i hl1
        exact ⟨g, o, by rw [e.1]; exact e1, e2, e3⟩
      subst hla
      have c0 : w5.cell? ⟨lg, lo + i, none⟩ = some (.int .i64 pl[i]) := pres_grown (grown_trans HG2.out HI.out.gr) _ _ hlc
      have hbl := HBL.out i hl1
      generalize pl[i] = P at *
      have HPK := hide (pick_m P (b.length - 1) (by omega) (by omega) hbl.1 hbl.2)
      obtain ⟨k, hk⟩ := Int.eq_ofNat_of_zero_le (pickN_range P (b.length - 1) (by omega)).1
      have hk1 : k + 1 < b.length := by have := (pickN_range P (b.length - 1) (by omega)).2; omega
      rw [hk] at HPK
      clear hk hbl hlc
      obtain ⟨t1, k1, t2, k2, r1, r2, r3, r4, u1, u2, u3, u4, hround⟩ := comm_round HVP.out HI.out.sch hk1
      have HRO := hide hround
      have HST := hide (And.intro r1 (And.intro r2 (And.intro r3 r4)))
      have HU := hide (And.intro u1 (And.intro u2 (And.intro u3 u4)))
      clear hround
      obtain ⟨bx1, bx3, by1, by3, hblk, hsr, hrr⟩ := HI.out.blk
      have hslen := HI.out.sch.2
      have e1 : k < (runS p b).steps.length := by omega
      have e2 : k + 1 < (runS p b).steps.length := by omega
      have g1 : (runS p b).steps[k] = ((t1 : Int), (k1 : Int)) := by rw [List.getElem?_eq_getElem e1] at r1; simpa using r1
      have g2 : (runS p b).steps[k + 1] = ((t2 : Int), (k2 : Int)) := by rw [List.getElem?_eq_getElem e2] at r2; simpa using r2
      obtain ⟨sg, rfl, _, d0, d1⟩ := step_cells hsr rfl e1
      obtain ⟨sg', hsg, _, d2, d3⟩ := step_cells hsr rfl e2
      simp only [Option.some.injEq, Addr.mk.injEq, and_true] at hsg
      subst hsg
      rw [g1] at d0 d1
      rw [g2] at d2 d3
      simp only at d0 d1 d2 d3
      obtain ⟨n0, n1, n2, n3, -⟩ := nine_cells hblk
      have hx5 : w2.heap.size < w5.heap.size := (Array.getElem?_eq_some_iff.1 hblk).1
      have HSR := hide hsr
      have HRR := hide hrr
      have HBK := hide hblk
      clear r1 r2 r3 r4 u1 u2 u3 u4 g1 g2 e1 e2 hslen hsr hrr hblk
      have v0 : (0 : Int) ≤ (k : Int) := by omega
      have v1 : (k : Int) + 1 < b.length := by omega
      have v2 : (k : Int) < b.length := by omega
      go_upto_region 14 with (go_at_call 12; refine (HPK.out _).mono ?_; rintro e w6 ⟨rfl, hw6⟩; obtain rfl := hw6.symm)
      obtain ⟨w8, hw8⟩ : ∃ w8, w8 = (w5.alloc (.cells #[.int .i64 (t1 : Int), .int .i64 (k1 : Int)] 48)).alloc (.cells #[.int .i64 (t2 : Int), .int .i64 (k2 : Int)] 48) := ⟨_, rfl⟩
      have HG8 : Hid (w5.grownBy w8 none) := by unfold Hid; rw [hw8]; exact grown_alloc (grown_alloc (grown_refl _ _))
      have hs8 : w8.heap.size = w5.heap.size + 2 := by rw [hw8]; simp
      have z1 : w8.heap[w5.heap.size]? = some (.cells #[.int .i64 (t1 : Int), .int .i64 (k1 : Int)] 48 (0, 0)) := by
        rw [hw8, Below.heap_alloc _ _ _ (by simp)]; exact heap_alloc_new _ _
      have z2 : w8.heap[w5.heap.size + 1]? = some (.cells #[.int .i64 (t2 : Int), .int .i64 (k2 : Int)] 48 (0, 0)) := by
        have := heap_alloc_new (w5.alloc (.cells #[.int .i64 (t1 : Int), .int .i64 (k1 : Int)] 48)) (.cells #[.int .i64 (t2 : Int), .int .i64 (k2 : Int)] 48)
        rw [hw8]; simpa using this
      rw [← hw8]
      have HW8 := hide hw8
      clear hw8 d0 d1 d2 d3 n1 n2 n3 c0
      have HST2 : Hid (∀ u, w8.grownBy u none → (u.cell? ⟨w5.heap.size, 0, none⟩ = some (.int .i64 (t1 : Int)) ∧ u.cell? ⟨w5.heap.size, 1, none⟩ = some (.int .i64 (k1 : Int))) ∧ (u.cell? ⟨w5.heap.size + 1, 0, none⟩ = some (.int .i64 (t2 : Int)) ∧ u.cell? ⟨w5.heap.size + 1, 1, none⟩ = some (.int .i64 (k2 : Int)))) := fun u hu => by
        have bl : ∀ k, k < w8.heap.size → u.heap[k]? = w8.heap[k]? := fun k hk => hu.block k hk (by simp)
        refine ⟨⟨?_, ?_⟩, ?_, ?_⟩
        · simp only [World.cell?, bl _ (by omega : w5.heap.size < w8.heap.size), z1]; rfl
        · simp only [World.cell?, bl _ (by omega : w5.heap.size < w8.heap.size), z1]; rfl
        · simp only [World.cell?, bl _ (by omega : w5.heap.size + 1 < w8.heap.size), z2]; rfl
        · simp only [World.cell?, bl _ (by omega : w5.heap.size + 1 < w8.heap.size), z2]; rfl
      have HS8 := hide hs8
      clear z1 z2 hs8
      have HI8 : Hid (CmI p f w2.heap.size (w1.heap.size + 1) w2 (.slice f1 f.length f3) (.slice bo b.length bc) b w8) := HI.out.grow HG8.out
      have n0' := pres_grown HG8.out _ _ n0
      obtain ⟨⟨z1, _⟩, z2, _⟩ := HST2.out w8 (grown_refl _ _)
      obtain ⟨C, hC⟩ : ∃ C, C = (decide (t1 = t2) || (decide ((runS p b).kind = 1) && decide (k + 2 = b.length))) := ⟨_, rfl⟩
      go_cut [101] (fun q w' => q = .bool C ∧ w' = w8)
      case first =>
        by_cases h1 : t1 = t2
        · have hC' : C = true := by rw [hC]; simp [h1]
          subst h1
          have HC' := hide hC'
          clear hC hC' HRO
          go_wp2_with fail
          go_meet
          exact ⟨by rw [HC'.out], rfl⟩
        · have h1' : ((t1 : Int) == (t2 : Int)) = false := by simp; omega
          by_cases h2 : (runS p b).kind = 1
          · rw [h2] at n0'
            by_cases h3 : k + 2 = b.length
            · have hC' : C = true := by rw [hC]; simp [h2, h3]
              have h3' : ((k : Int) + 2 == (b.length : Int)) = true := by simp; omega
              have HC' := hide hC'
              clear hC hC' HRO h1 h2 h3
              go_wp2_with fail
              go_meet
              exact ⟨by rw [HC'.out], rfl⟩
            · have hC' : C = false := by rw [hC]; simp [h1, h3]
              have h3' : ((k : Int) + 2 == (b.length : Int)) = false := by simp; omega
              have HC' := hide hC'
              clear hC hC' HRO h1 h2 h3
              go_wp2_with fail
              go_meet
              exact ⟨by rw [HC'.out], rfl⟩
          · have hC' : C = false := by rw [hC]; simp [h1, h2]
            have h2' : ((runS p b).kind == 1) = false := by simpa using h2
            have HC' := hide hC'
            clear hC hC' HRO h1 h2
            go_wp2_with fail
            go_meet
            exact ⟨by rw [HC'.out], rfl⟩
      case rest =>
      obtain ⟨rfl, hwc⟩ := hcut
      have hwc2 := hwc.symm
      subst hwc2
      clear n0 n0' z1 z2
      cases C with
      | true =>
        clear hC HRO
        go_wp2_with fail
        go_roundw
        case rel => exact ⟨i + 1, b, bo, bc, by omega, by omega, by go_num, rfl, hb, HI8.out⟩
        case measure => simp [intOf]; omega
      | false =>
      have hne : t1 ≠ t2 ∧ ¬ ((runS p b).kind = 1 ∧ k + 2 = b.length) := by
        have hC2 := hC.symm
        simp at hC2
        exact ⟨hC2.1, fun h => hC2.2 h.1 h.2⟩
      have HRD := hide (HRO.out hne.1 hne.2)
      clear hC hne HRO
      obtain ⟨u1, u2, u3, u4⟩ := HU.out
      obtain ⟨pg, po, ca1, cc1, cg1, co1, hpa, rfl, m0, m1, m2, m3, m4⟩ := ins_at (HPP.out w8 HI8.out.gr).2 u1 u2
      subst hpa
      obtain ⟨pg', po', ca2, cc2, cg2, co2, hpa, rfl, l0, l1, l2, l3, l4⟩ := ins_at (HPP.out w8 HI8.out.gr).2 u3 u4
      simp only [Option.some.injEq, Addr.mk.injEq, and_true] at hpa
      obtain ⟨rfl, rfl⟩ := hpa
      have hx1 : (codeOf p t1).length ≤ 16 := vCode_len (vProg_code HVP.out u1)
      have hx2 : (codeOf p t2).length ≤ 16 := vCode_len (vProg_code HVP.out u3)
      have HMM := hide (And.intro m0 (And.intro m1 (And.intro m2 (And.intro m3 m4))))
      have HNN := hide (And.intro l0 (And.intro l1 (And.intro l2 (And.intro l3 l4))))
      clear m0 m1 m2 m3 m4 l0 l1 l2 l3 l4
      generalize hcl1 : (codeOf p t1).length = cl1 at *
      generalize hcl2 : (codeOf p t2).length = cl2 at *
      generalize hii1 : insAt p t1 (k1 : Int) = i1 at *
      generalize hii2 : insAt p t2 (k2 : Int) = i2 at *
      clear hcl1 hcl2 hii1 hii2
      have HRK := hide HST.out.2.2
      go_upto_if 101 with fail
      refine wp_cond_false rfl ?_
      refine wp_skip ?_
      refine ‹∀ a w, Code.wp Tryd.prog _ (Exit.inBlock 1 _) a w → _› _ _ ?_
      refine commB HVP hlen hb hk1 hfl HQ.out.2.2 hx1 hx2 HU.out HRK HRD HI8 HPC HPP HST2 HMM HNN HFA ?_ ?_
      · exact fun _ _ _ _ _ h => h
      intro z6 z17 z18 z19 z20 z21 z22 z23 z24 z25 z26 z27 z28 z29 z30 z102 z103 z104 z105 z106 z107 z108 z109 z110 z111 z112 z113 z114 z115 z116 z117 z118 z119 z120 z121 z122 z123 z124 z125 z126 z127 z128 z129 z130 z131 z132 z133 z134 z135 z136 z137 z138 z139 z140 z141 z142 z143 z144 z145 z146 z147 z148 z149 z150 z151 z152 z153 z154 z155 z156 z157 z158 z159 z160 z161 z162 z163 z164 z165 z166 z167 z168 z169 z170 z171 z172 z173 z174 z175 z176 z177 z178 z179 z180 z181 z182 z183 z184 z185 z186 z187 z188 z189 z190 z191 z192 z193 z194 z195 z196 z197 z198 z199 z200 z201 z202 z203 z204 z205 z206 z207 z208 z209 z210 z211 z212 z213 z214 z215 z216 z217 z218 z219 z220 z221 z222 z223 z224 z225 z226 z227 z228 z229 z230 z231 z232 z233 z234 z235 z236 z237 z238 z239 z240 z241 z242 z243 z244 z245 z246 z247 z248 z249 z250 z251 z252 z253 z254 z255 z256 z257 z258 z259 t2q bo2 L bc2 w' hL hL2 hI
      have HIQ := hide hI
      subst hL
      clear hI
      go_wp2_with fail
      go_roundw
      case rel => exact ⟨i + 1, t2q, bo2, bc2, by omega, by omega, by go_num, rfl, hL2, HIQ.out⟩
      case measure => simp [intOf]; omega
    · have t0 : (0 : Int) ≤ (i : Int) := by omega
      by_cases hl1 : i < pl.length
      · have s0 : (i : Int) < pl.length := by omega
        by_cases hl2 : i < 20
        · have s1 : (i : Int) < 20 := by omega
          have s2 : (b.length : Int) ≤ 1 := by omega
          go_wp2_with fail
          go_ret
          exact ⟨rfl, grown_trans HG2.out HI.out.gr⟩
        · have s1 : (20 : Int) ≤ (i : Int) := by omega
          go_wp2_with fail
          go_ret
          exact ⟨rfl, grown_trans HG2.out HI.out.gr⟩
      · have s0 : (pl.length : Int) ≤ (i : Int) := by omega
        go_wp2_with fail
        go_ret
        exact ⟨rfl, grown_trans HG2.out HI.out.gr⟩

end Go.Proofs.YtklenjmfalljgaaDoor

/- From the rows' readings to the walks' facts. -/
namespace Go.Proofs.YtklenjmfalljgaaDoor
open Go.ChangeShapes Go.WideShapes Go.ChangeAt Go.RowKit

theorem own : ownKnob Tryd.prog.godebug = none := by kernel_rfl
theorem laidOut : laidOutB Tryd.prog = true := by kernel_rfl
theorem gShp : Tryd.prog.globalNamed "rerun/machine.shapes" = some 0 := by kernel_rfl
theorem tShp : (Tryd.prog.globals[0]?).map (·.type) = some 263 := by kernel_rfl
theorem cInt : Tryd.prog.cellsOf 3 = 1 := by kernel_rfl
theorem cInts : Tryd.prog.cellsOf 22 = 1 := by kernel_rfl
theorem cShape : Tryd.prog.cellsOf 262 = 3 := by kernel_rfl
theorem cKind : Tryd.prog.cellsOf 260 = 1 := by kernel_rfl

theorem grown_below {w w' : World} (h : w.grownBy w' none) : Below w.heap.size w w' := ⟨h.os, h.tape, h.output, h.size, fun k hk => h.block k hk (by simp)⟩

theorem lt_cell {w : World} {a : Addr} {v : Value} (h : w.cell? a = some v) : a.block < w.heap.size := by
  unfold World.cell? at h
  split at h
  · rename_i hh; exact (Array.getElem?_eq_some_iff.1 hh).1
  · cases h

theorem addr_form {w : World} {a : Addr} {j : Nat} {v : Value} (h0 : a.spot = none) (h : w.cell? (a.add j) = some v) : w.cell? ⟨a.block, a.off + j, none⟩ = some v := by
  have e : a.add j = ⟨a.block, a.off + j, none⟩ := by
    obtain ⟨b, o, s⟩ := a
    simp only at h0
    subst h0
    unfold Addr.add; split <;> simp_all
  rw [e] at h; exact h

section
variable {H : Type} {enc : TypeId × Value → H} {W : World}

theorem intsAt_of {fuel : Nat} {cs : List Value} {x : DataW H × List MemPlace} (h : DataW.trod enc Tryd.prog W 0 (fun _ => true) true fuel 22 cs = some x) :
    ∃ v l, cs = [v] ∧ IntsAt W.heap.size W v l ∧ ∀ k (hk : k < l.length), isInt l[k] := by
  rcases open_ints Tryd.underlying22 Tryd.underlying3 cInt h with ⟨rfl, _⟩ | ⟨a, len, cap, zs, rfl, _, hl, _, hz, _, hc, hw⟩
  · exact ⟨_, [], rfl, ⟨none, 0, rfl, Nat.le_refl _, fun k hk => by simp at hk⟩, fun k hk => by simp at hk⟩
  · simp only [if_true] at hz
    have hlen : (zs.take len).length = len := by simp; omega
    refine ⟨_, zs.take len, rfl, ⟨some a, cap, by rw [hlen], by omega, fun k hk => ?_⟩, fun k hk => ?_⟩
    · have h0 : a.spot = none := by
        have := hc 0 (by omega)
        exact World.cell?_spot (w := W) (by simpa [Addr.add] using this)
      have hkz : k < zs.length := by omega
      have := hc k hkz
      refine ⟨a.block, a.off, ?_, lt_cell (a := ⟨a.block, a.off + k, none⟩) (addr_form h0 this), ?_⟩
      · obtain ⟨b, o, s⟩ := a
        simp only at h0; subst h0; rfl
      · rw [addr_form h0 this]
        simp [List.getD, hkz]
    · have hkz : k < zs.length := by omega
      have := hw zs[k] (List.getElem_mem hkz)
      simp only [List.getElem_take]
      simpa [Lit.wf, IntKind.min, IntKind.max, IntKind.signed, IntKind.bits, isInt] using this

theorem rawAt_of {fuel : Nat} {cs : List Value} {x : DataW H × List MemPlace} (h : DataW.trod enc Tryd.prog W 0 (fun _ => true) true fuel 41 cs = some x) :
    ∃ v l, cs = [v] ∧ RawAt W v l ∧ ∀ t (ht : t < l.length) k (hk : k < l[t].length), isInt l[t][k] := by
  rcases Deep.open_slice1 Tryd.underlying41 cInts h with ⟨rfl, _⟩ | ⟨a, len, cap, m, n, V, D, Pl, rfl, _, hl, _, hm, _, hx⟩
  · exact ⟨_, [], rfl, ⟨none, 0, rfl, fun k hk => by simp at hk⟩, fun k hk => by simp at hk⟩
  · simp only [if_true] at hm
    obtain ⟨f, hf⟩ := Deep.choose_lt (α := List Int) (n := len) (p := fun i l => IntsAt W.heap.size W (V i) l ∧ ∀ k (hk : k < l.length), isInt l[k]) (fun i hi => by
      obtain ⟨v, l, e, h1, h2⟩ := intsAt_of (hx i (by omega)).2
      simp only [List.cons.injEq, and_true] at e
      rw [← e] at h1
      exact ⟨l, h1, h2⟩)
    have hlen : ((List.range len).map f).length = len := by simp
    refine ⟨_, (List.range len).map f, rfl, ⟨some a, cap, by rw [hlen], fun t ht => ?_⟩, fun t ht => ?_⟩
    · have ht' : t < len := by omega
      have h0 : a.spot = none := by
        have := (hx 0 (by omega)).1
        exact World.cell?_spot (w := W) (by simpa [Addr.add] using this)
      refine ⟨a.block, a.off, ?_, V t, addr_form h0 (hx t (by omega)).1, ?_⟩
      · obtain ⟨b, o, s⟩ := a
        simp only at h0; subst h0; rfl
      · simpa using (hf t ht').1
    · have ht' : t < len := by omega
      simpa using (hf t ht').2

set_option maxRecDepth 100000 in
theorem ints_arg {v : Value} {d : DataW H} {ps : List MemPlace} {base : Nat} (hval : Value.okWide Tryd.prog W .any base 22 v) (h : DataW.Trod enc Tryd.prog W 0 (fun _ => true) true 22 v d ps) :
    ∃ l, IntsAt W.heap.size W v l ∧ ∀ k (hk : k < l.length), isInt l[k] := by
  obtain ⟨a, len, cap, rfl⟩ := okWide_slice Tryd.underlying22 hval
  obtain ⟨fuel, hf⟩ := h
  obtain ⟨v', l, e, h1, h2⟩ := intsAt_of hf
  simp [Value.cells] at e
  rw [← e] at h1
  exact ⟨l, h1, h2⟩
set_option maxRecDepth 100000 in
theorem raw_arg {v : Value} {d : DataW H} {ps : List MemPlace} {base : Nat} (hval : Value.okWide Tryd.prog W .any base 41 v) (h : DataW.Trod enc Tryd.prog W 0 (fun _ => true) true 41 v d ps) :
    ∃ l, RawAt W v l ∧ ∀ t (ht : t < l.length) k (hk : k < l[t].length), isInt l[t][k] := by
  obtain ⟨a, len, cap, rfl⟩ := okWide_slice Tryd.underlying41 hval
  obtain ⟨fuel, hf⟩ := h
  obtain ⟨v', l, e, h1, h2⟩ := rawAt_of hf
  simp [Value.cells] at e
  rw [← e] at h1
  exact ⟨l, h1, h2⟩
set_option maxRecDepth 100000 in
theorem int_arg {v : Value} {d : DataW H} {ps : List MemPlace} {base : Nat} (hval : Value.okWide Tryd.prog W .any base 3 v) (h : DataW.Trod enc Tryd.prog W 0 (fun _ => true) true 3 v d ps) :
    ∃ n, v = .int .i64 n ∧ isInt n := by
  obtain ⟨n, rfl, _, _, hw⟩ := open_int Tryd.underlying3 hval h
  exact ⟨n, rfl, by simpa [Lit.wf, IntKind.min, IntKind.max, IntKind.signed, IntKind.bits, isInt] using hw⟩
end

theorem shp_tab (o j : Nat) (ho : o < 12) (hj : j < 3) (l : List (DataW Unit)) (h : (DataW.agg l : DataW Unit) = (match (Rows.laid_rerun_machine_shapes : DataW Unit) with | .agg l => l[o]?.getD .nil | _ => .nil)) : l[j]? = some (.lit (.int .i64 (shp o j))) := by
  have ho' : o = 0 ∨ o = 1 ∨ o = 2 ∨ o = 3 ∨ o = 4 ∨ o = 5 ∨ o = 6 ∨ o = 7 ∨ o = 8 ∨ o = 9 ∨ o = 10 ∨ o = 11 := by omega
  have hj' : j = 0 ∨ j = 1 ∨ j = 2 := by omega
  rcases ho' with rfl | rfl | rfl | rfl | rfl | rfl | rfl | rfl | rfl | rfl | rfl | rfl <;> (simp [Rows.laid_rerun_machine_shapes] at h; subst h; rcases hj' with rfl | rfl | rfl <;> rfl)

theorem shp_one {W : World} {g0 : Nat} {t0 : TypeId} {cs0 : Array Value} {f0 : Nat} {p0 : List MemPlace} (hg0 : Tryd.prog.globalNamed "rerun/machine.shapes" = some g0) (ht0 : (Tryd.prog.globals[g0]?).map (·.type) = some t0) (hv0 : W.var? Tryd.prog "rerun/machine.shapes" = some cs0)
    (hd0 : DataW.trod (fun _ => ()) Tryd.prog W 0 (fun _ => true) false f0 t0 cs0.toList = some (Rows.laid_rerun_machine_shapes, p0)) : ShpAt W := by
  obtain rfl := Option.some.inj (gShp.symm.trans hg0)
  obtain rfl := Option.some.inj (tShp.symm.trans ht0)
  obtain ⟨xs, m1, rfl, hx1, hlen, hn12, hel⟩ := DataW.trod_array Tryd.underlying263 hd0
  simp only [Prod.mk.injEq] at hx1
  intro o j ho hj
  have hox : o < xs.length := by omega
  have h1 := hel o ho
  rw [cShape, List.getElem?_eq_getElem hox] at h1
  obtain ⟨ys, m2, rfl, hy1, hylen, hn3, hfe⟩ := DataW.trod_struct Tryd.underlying262 h1
  have hdo : (DataW.agg (ys.map (·.1)) : DataW Unit) = xs[o].1 := by rw [hy1]
  have hxo : (xs.map (·.1))[o]? = some xs[o].1 := by simp [hox]
  have hdat : (DataW.agg (ys.map (·.1)) : DataW Unit) = (match (Rows.laid_rerun_machine_shapes : DataW Unit) with | .agg l => l[o]?.getD .nil | _ => .nil) := by
    rw [hdo, hx1.1]; simp [hox]
  have hyj := shp_tab o j ho hj _ hdat
  have hjl : j < ys.length := by rw [hn3]; simpa using hj
  have hf : DataW.trod (fun _ => ()) Tryd.prog W 0 (fun _ => true) false m2 260 ((((cs0.toList.drop (o * 3)).take 3).drop j).take 1) = some ys[j] := by
    have hj' : j = 0 ∨ j = 1 ∨ j = 2 := by omega
    rcases hj' with rfl | rfl | rfl
    · have := hfe 0 _ rfl; rw [List.getElem?_eq_getElem hjl] at this; simpa [cKind] using this
    · have := hfe 1 _ rfl; rw [List.getElem?_eq_getElem hjl] at this; simpa [cKind] using this
    · have := hfe 2 _ rfl; rw [List.getElem?_eq_getElem hjl] at this; simpa [cKind] using this
  obtain ⟨k, e1, e2, _⟩ := DataW.trod_int Tryd.underlying260 hf
  have hk : k = shp o j := by
    rw [List.getElem?_map, List.getElem?_eq_getElem hjl, e2] at hyj
    simpa using hyj
  have hcell := World.var?_cell hg0 hv0 (o * 3 + j)
  have hc : cs0[o * 3 + j]? = some (.int .i64 k) := by
    have h0 := congrArg (fun l => l[0]?) e1
    simp [hj] at h0
    exact h0
  rw [hk] at hc
  rw [hcell]; exact hc

theorem shp_of_laid {W : World} (h : laidMetH Tryd.prog [("rerun/machine.shapes", Rows.laid_rerun_machine_shapes)] W) : ShpAt W := by
  rw [MakeChecks.laidMetH_plain _ _ _ (by kernel_rfl)] at h
  obtain ⟨ps, ⟨g0, t0, cs0, f0, p0, q0, hg0, ht0, hv0, hd0, _, _⟩, _, _⟩ := h
  exact shp_one hg0 ht0 hv0 hd0

end Go.Proofs.YtklenjmfalljgaaDoor

/- Proved: rerunkeep.Commuted answers true and never panics, whatever its arguments are: no condition. -/
namespace Go.Proofs.YtklenjmfalljgaaDoor
open Go.ChangeShapes Go.WideShapes Go.ChangeAt Go.RowKit

set_option maxRecDepth 100000 in
/-- What the walk gives, for every argument and every world that holds the table. -/
theorem commuted_contract (H : Type) (enc : TypeId × Value → H) (W : World) (base : Nat) (args : Array Value) (ds gs : List (DataW H)) (before : List MemPlace)
    (hval : ∀ (j : Nat) t v, Tryd.f10.params[j]? = some t → args[j]? = some v → Value.okWide Tryd.prog W .any base t v)
    (hW : DataW.Whole enc Tryd.prog Tryd.f10.params.toList Rows.commutedSpec.vars false W args.toList ds gs before) (hL : laidMetH Tryd.prog Rows.commutedRow.laid W) :
    Calls Tryd.prog 10 args W fun e W' => ∃ v, e = .returned v ∧ Rows.commutedSpec.post enc Tryd.prog Tryd.f10 false true false false W args v W' := by
  have hW' := hW
  obtain ⟨p, q, hA0, hV, rfl, hfz, hnd⟩ := hW
  have hA : DataW.TrodAll enc Tryd.prog W 0 (fun _ => true) true Tryd.f10.params.toList args.toList ds p := hA0
  rw [Tryd.params10] at hA hval
  obtain ⟨v0, v1, v2, d0, d1, d2, p0, p1, p2, rfl, rfl, rfl, h0, h1, h2⟩ := trodAll_three hA
  obtain ⟨rfl, rfl⟩ := trodVars_none hV
  clear hA0
  obtain ⟨raw, hr, hbr⟩ := raw_arg (hval 0 41 v0 rfl rfl) h0
  obtain ⟨ch, hc, hbc⟩ := ints_arg (hval 1 22 v1 rfl rfl) h1
  obtain ⟨pl, hl, hbl⟩ := ints_arg (hval 2 22 v2 rfl rfl) h2
  refine (commuted_m raw ch pl v0 v1 v2 W (shp_of_laid hL) hr hbr hc hbc hl hbl).mono fun e W' ⟨he, hg⟩ => ?_
  subst he
  have hb := grown_below hg
  have hlt : ∀ x ∈ p0 ++ p1 ++ p2, x.block < W.heap.size := fun x hx => by simpa using hW'.lt x (by simpa using hx)
  refine ⟨_, rfl, _, _, _, [] ++ [], p0 ++ (p1 ++ p2), [], hW', trodAll_cons_mk (shut_bool Tryd.underlying4 _) trodAll_mk0, ?_, rfl, hb.frame _, fun h => by cases h⟩
  rw [Tryd.params10]
  exact trodAll_mk3 (p := p0) (p' := p1) (p'' := p2) (Below.trod laidOut (by kernel_rfl) (of_decide_eq_true (by kernel_rfl)) h0 hb (fun x hx => hlt x (by simp [hx]))) (Below.trod laidOut (by kernel_rfl) (of_decide_eq_true (by kernel_rfl)) h1 hb (fun x hx => hlt x (by simp [hx])))
    (Below.trod laidOut (by kernel_rfl) (of_decide_eq_true (by kernel_rfl)) h2 hb (fun x hx => hlt x (by simp [hx])))

theorem commuted_laid (os : Os) : laidMetH Tryd.prog Rows.commutedRow.laid ((World.doorLaid Tryd.prog 400 os).forCall (fun _ _ => 0) ⟨#[], #[.slice none 0 0, .slice none 0 0, .slice none 0 0], []⟩).memory :=
  laidMetH_of_parts3 (fuel := 8) (laidMet_of_run' 8 (by kernel_rfl) (by kernel_rfl)) (by kernel_rfl) (by kernel_rfl)
theorem commuted_reads (os : Os) {H : Type} (enc : TypeId × Value → H) : ∃ places, DataW.whole enc Tryd.prog ((World.doorLaid Tryd.prog 400 os).forCall (fun _ _ => 0) ⟨#[], #[.slice none 0 0, .slice none 0 0, .slice none 0 0], []⟩).memory Tryd.f10.params.toList Rows.commutedSpec.vars false #[Value.slice none 0 0, .slice none 0 0, .slice none 0 0].toList 8 = some ([.nil, .nil, .nil], [], places) :=
  ⟨[], by kernel_rfl⟩

set_option maxRecDepth 100000 in
theorem commuted_lifted (os : Os) (started : os.Started) (H : Type) (enc : TypeId × Value → H) (F : Stop.Interp) :
    ReturnsInHanded {} Tryd.checked os 10 .any ((OpenSpec.ofChange Rows.commutedSpec).preRow enc Tryd.prog Tryd.f10 Rows.commutedRow.domain false Rows.commutedRow.laid) (((OpenSpec.ofChange Rows.commutedSpec).at F).post enc Tryd.prog Tryd.f10 false true false false) := by
  obtain ⟨places, hx⟩ := commuted_reads os enc
  refine returnsInHanded_of_row (C := Tryd.checked) (s := OpenSpec.ofChange Rows.commutedSpec) own started (by kernel_rfl) Tryd.func10
    (witness_row_atRef (enc := enc) (C := Tryd.checked) false (World.doorLaid Tryd.prog 400 os) #[.slice none 0 0, .slice none 0 0, .slice none 0 0] rfl (by kernel_rfl) (by kernel_rfl) (by kernel_rfl)
      (OpenSpec.preRow_of_cond 8 hx (by kernel_rfl) (fun k hk => by cases hk) (by kernel_rfl) (commuted_laid os))) ?_
  intro W base args ds gs before hval hW _ _ _ hL _ _
  exact commuted_contract H enc W base args ds gs before hval hW hL

theorem commuted_said : Rows.CommutedSaid :=
  OpenClaim.holds_of_cond 10 Tryd.f10 rfl rfl rfl rfl rfl rfl rfl ⟨rfl, rfl, rfl, rfl, rfl⟩ rfl rfl rfl rfl rfl (by kernel_rfl) Tryd.func10 (by kernel_rfl)
    (of_decide_eq_true (by kernel_rfl)) (by unfold Func.isWrapper; first | (rw [if_pos (by decide +kernel)]; kernel_rfl) | (rw [if_neg (by decide +kernel)]; exact ⟨rfl, rfl⟩))
    (fun os started H enc _ F => by rw [OpenClaim.pre_eq_preRow]; exact commuted_lifted os started H enc F)

theorem commuted_plain (f : FuncId) (fn : Func) (hf : Tryd.pinned.checked.prog.funcNamed "rerun/rerunkeep.Commuted" = some f) (hfn : Tryd.pinned.checked.prog.funcs[f]? = some fn) :
    Rows.commutedCard.stood.looks = Tryd.pinned.checked.prog.looks [] ∧ ∀ (j : Nat) t, fn.params[j]? = some t → Tryd.pinned.checked.prog.wantsStandIn t = false := by
  obtain rfl : f = 10 := Option.some.inj ((show Tryd.prog.funcNamed "rerun/rerunkeep.Commuted" = some 10 by kernel_rfl).symm.trans hf) |>.symm
  obtain rfl : fn = Tryd.f10 := (Option.some.inj (Tryd.func10.symm.trans hfn)).symm
  refine ⟨by kernel_rfl, fun j t ht => ?_⟩
  rw [Tryd.params10] at ht
  have hm : t ∈ [41, 22, 22] := by simpa using Array.mem_of_getElem? ht
  have hall : ([41, 22, 22].all fun u => !Tryd.prog.wantsStandIn u) = true := by kernel_rfl
  exact (show Tryd.prog.wantsStandIn t = false by simpa using List.all_eq_true.1 hall t hm)

theorem commuted_card : Rows.CommutedCardSaid :=
  Claim7.holds_tied_plain_at .later [] _ _ _ _ commuted_said (fun _ h => by cases h) (by kernel_rfl) (fun _ h => by cases h) commuted_row_tie rfl ⟨rfl, rfl⟩ (by kernel_rfl) rfl commuted_plain (by kernel_rfl)
#print axioms commuted_card

end Go.Proofs.YtklenjmfalljgaaDoor
