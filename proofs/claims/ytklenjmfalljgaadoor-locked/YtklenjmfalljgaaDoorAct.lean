/- What a closure does, whichever instruction it is of. -/
import Derived.Test.YtklenjmfalljgaaDoorMem
namespace Go.Proofs.YtklenjmfalljgaaDoor
open Go.RowKit

/-- The post of an action. -/
def Acted (b : Nat) (w : World) (t : Nat) (i : Ins) (s : St) (r : Bool) (w' : World) : Prop := r = (act t i s).1 ∧ StAt w' b (act t i s).2 ∧ w.grownBy w' (some b)

theorem does_mk {w : World} {b k : Nat} {caps : Array Value} {R : Bool → World → Prop} {r : Bool} {w0 : World} (hk : ∀ args w, (callFunc k args).run Tryd.prog w = .ok (.enter k args) w)
    (hc : Calls Tryd.prog k (#[.pointer (some ⟨b, 0, none⟩)] ++ caps) w fun e w' => e = .returned (.bool r) ∧ Like w' w0) (hR : ∀ w', Like w' w0 → R r w') : Does w (.func (.func k) #[] caps) b R :=
  ⟨k, caps, rfl, hk, hc.mono fun _e w' ⟨he, hl⟩ => ⟨r, he, hR w' hl⟩⟩

theorem Acted.mk {b t : Nat} {w w0 w' : World} {i : Ins} {s s' : St} {r : Bool} (ha : act t i s = (r, s')) (hs : StAt w0 b s') (hg : w.grownBy w0 (some b)) (hl : Like w' w0) : Acted b w t i s r w' :=
  ⟨by rw [ha], by rw [ha]; exact hs.like hl, grown_like hg hl⟩

theorem act_does {B : Nat} {w : World} {v : Value} {t : Nat} {i : Ins} {len : Int} {b : Nat} {s : St} (ht : t < 4) (hi : vIns i len = true) (h : ActIs B w v t i) (hs : StAt w b s) :
    Does w v b (Acted b w t i s) := by
  obtain ⟨x, y, z, u, _, _, _, _, h⟩ := h
  have hsay := vIns_say hi
  rcases h with ⟨e, rfl, h1, h2, h3⟩ | ⟨e, rfl, h1, h2, h3⟩ | ⟨e, rfl, h1, h2, h3⟩ | ⟨f, hf, rfl, h1, h2, h3, h4⟩ | ⟨e, rfl, h1, h2, h3⟩ | ⟨e, rfl, h1, h2, h3⟩ | ⟨e, rfl, h1, h2⟩ | ⟨e, rfl, h1, h2, h3⟩ | ⟨e, rfl, h1, h2⟩
  · have ha : 0 ≤ i.a ∧ i.a < 4 := by omega
    have ea : ((i.a.toNat : Nat) : Int) = i.a := by omega
    rw [← ea] at h3
    have ha4 : i.a.toNat < 4 := by omega
    exact does_mk Tryd.call183 (set_clo t i.a.toNat ht ha4 i.n b x y z w _ h1 h2 h3 (hs.reg ht ha4) (hs.frozen _))
      fun w' hl => Acted.mk (by simp [act, e]) (hs.setCell (cells_setReg s ht ha4 _)) grown_set hl
  · have ha : 0 ≤ i.a ∧ i.a < 4 ∧ 0 ≤ i.b ∧ i.b < 4 := by omega
    have ea : ((i.a.toNat : Nat) : Int) = i.a := by omega
    have eb : ((i.b.toNat : Nat) : Int) = i.b := by omega
    rw [← ea] at h3; rw [← eb] at h1
    have ha4 : i.a.toNat < 4 := by omega
    have hb4 : i.b.toNat < 4 := by omega
    exact does_mk Tryd.call184 (load_clo t i.a.toNat i.b.toNat ht ha4 hb4 _ b x y z w _ h1 h2 h3 (hs.var hb4) (hs.reg ht ha4) (hs.frozen _))
      fun w' hl => Acted.mk (by simp [act, e]) (hs.setCell (cells_setReg s ht ha4 _)) grown_set hl
  · have ha : 0 ≤ i.a ∧ i.a < 4 ∧ 0 ≤ i.b ∧ i.b < 4 := by omega
    have ea : ((i.a.toNat : Nat) : Int) = i.a := by omega
    have eb : ((i.b.toNat : Nat) : Int) = i.b := by omega
    rw [← ea] at h3; rw [← eb] at h2
    have ha4 : i.a.toNat < 4 := by omega
    have hb4 : i.b.toNat < 4 := by omega
    exact does_mk Tryd.call185 (store_clo t i.b.toNat i.a.toNat ht hb4 ha4 _ b z x y w _ h3 h1 h2 (hs.reg ht hb4) (hs.var ha4) (hs.frozen _))
      fun w' hl => Acted.mk (by simp [act, e]) (hs.setCell (cells_setVar s ha4 _)) grown_set hl
  · have hop : i.op = 4 ∨ i.op = 5 ∨ i.op = 6 := by rcases hf with hf | hf | hf <;> simp [hf.1]
    have ha : 0 ≤ i.a ∧ i.a < 4 ∧ 0 ≤ i.b ∧ i.b < 4 := by omega
    have ea : ((i.a.toNat : Nat) : Int) = i.a := by omega
    have eb : ((i.b.toNat : Nat) : Int) = i.b := by omega
    rw [← ea] at h3; rw [← eb] at h4
    have ha4 : i.a.toNat < 4 := by omega
    have hb4 : i.b.toNat < 4 := by omega
    rcases hf with ⟨e, rfl⟩ | ⟨e, rfl⟩ | ⟨e, rfl⟩
    · exact does_mk Tryd.call186 (add_clo t i.a.toNat i.b.toNat ht ha4 hb4 _ _ b x y z u w h1 h2 h3 h4 (hs.reg ht ha4) (hs.reg ht hb4) (hs.frozen _))
        fun w' hl => Acted.mk (by simp [act, e]) (hs.setCell (cells_setReg s ht ha4 _)) grown_set hl
    · exact does_mk Tryd.call186 (sub_clo t i.a.toNat i.b.toNat ht ha4 hb4 _ _ b x y z u w h1 h2 h3 h4 (hs.reg ht ha4) (hs.reg ht hb4) (hs.frozen _))
        fun w' hl => Acted.mk (by simp [act, e]) (hs.setCell (cells_setReg s ht ha4 _)) grown_set hl
    · exact does_mk Tryd.call186 (mul_clo t i.a.toNat i.b.toNat ht ha4 hb4 _ _ b x y z u w h1 h2 h3 h4 (hs.reg ht ha4) (hs.reg ht hb4) (hs.frozen _))
        fun w' hl => Acted.mk (by simp [act, e]) (hs.setCell (cells_setReg s ht ha4 _)) grown_set hl
  · have ha : 0 ≤ i.a ∧ i.a < 4 ∧ 0 ≤ i.b ∧ i.b < 4 := by omega
    have ea : ((i.a.toNat : Nat) : Int) = i.a := by omega
    have eb : ((i.b.toNat : Nat) : Int) = i.b := by omega
    rw [← ea] at h3; rw [← eb] at h2
    have ha4 : i.a.toNat < 4 := by omega
    have hb4 : i.b.toNat < 4 := by omega
    by_cases h0 : s.regs t i.b.toNat = 0
    · have hz := hs.reg ht hb4
      rw [h0] at hz
      exact does_mk Tryd.call187 (div_clo_no t i.a.toNat i.b.toNat ht ha4 hb4 b x z y w h1 h3 h2 hz)
        fun w' hl => Acted.mk (by simp [act, e, h0]) hs (grown_refl _ _) hl
    · exact does_mk Tryd.call187 (div_clo_yes t i.a.toNat i.b.toNat ht ha4 hb4 _ _ (by simpa using h0) b x z y w h1 h3 h2 (hs.reg ht ha4) (hs.reg ht hb4) (hs.frozen _))
        fun w' hl => Acted.mk (by simp [act, e, h0]) (hs.setCell (cells_setReg s ht ha4 _)) grown_set hl
  · have ha : 0 ≤ i.a ∧ i.a < 4 := by omega
    have ea : ((i.a.toNat : Nat) : Int) = i.a := by omega
    rw [← ea] at h2
    have ha4 : i.a.toNat < 4 := by omega
    refine does_mk Tryd.call188 (jump_clo t i.a.toNat ht ha4 i.n _ b z x y w _ h3 h1 h2 (hs.reg ht ha4) (hs.next ht) (hs.frozen _)) fun w' hl => ?_
    by_cases h0 : s.regs t i.a.toNat = 0
    · rw [if_pos h0] at hl
      exact Acted.mk (by simp [act, e, h0]) (hs.setCell (cells_setNext s ht _)) grown_set hl
    · rw [if_neg h0] at hl
      exact Acted.mk (by simp [act, e, h0]) hs (grown_refl _ _) hl
  · have ha : 0 ≤ i.a ∧ i.a < 3 := by omega
    have ea : ((i.a.toNat : Nat) : Int) = i.a := by omega
    rw [← ea] at h2
    have ha3 : i.a.toNat < 3 := by omega
    exact does_mk Tryd.call189 (take_clo t i.a.toNat ha3 b x y w _ _ h1 h2 (hs.held ha3) (hs.frozen _) (hs.own ha3) (hs.frozen _))
      fun w' hl => Acted.mk (by simp [act, e]) (hs.setCell2 (cells_setLock s ha3 _ _)) grown_set2 hl
  · have ha : 0 ≤ i.a ∧ i.a < 3 := by omega
    have ea : ((i.a.toNat : Nat) : Int) = i.a := by omega
    rw [← ea] at h1
    have ha3 : i.a.toNat < 3 := by omega
    by_cases hh : s.held i.a.toNat = true
    · have c1 := hs.held ha3
      rw [hh] at c1
      by_cases ho : s.own i.a.toNat = t
      · have c2 := hs.own ha3
        rw [ho] at c2
        exact does_mk Tryd.call190 (release_clo_yes t i.a.toNat ha3 b y x w h2 h3 h1 c1 (hs.frozen _) c2 (hs.frozen _))
          fun w' hl => Acted.mk (by simp [act, e, hh, ho]) (hs.setCell2 (cells_setLock s ha3 _ _)) grown_set2 hl
      · exact does_mk Tryd.call190 (release_clo_no t i.a.toNat ha3 b y x w _ ho h2 h3 h1 c1 (hs.own ha3))
          fun w' hl => Acted.mk (by simp [act, e, hh, ho]) hs (grown_refl _ _) hl
    · have hf : s.held i.a.toNat = false := by simpa using hh
      have c1 := hs.held ha3
      rw [hf] at c1
      exact does_mk Tryd.call190 (release_clo_free t i.a.toNat ha3 b y x w _ h2 h3 h1 c1 (hs.own ha3))
        fun w' hl => Acted.mk (by simp [act, e, hf]) hs (grown_refl _ _) hl
  · have ha : 0 ≤ i.a ∧ i.a < 4 := by omega
    have ea : ((i.a.toNat : Nat) : Int) = i.a := by omega
    rw [← ea] at h2
    have ha4 : i.a.toNat < 4 := by omega
    exact does_mk Tryd.call191 (assert_clo t i.a.toNat ht ha4 _ b x y w h1 h2 (hs.reg ht ha4))
      fun w' hl => Acted.mk (by simp [act, e]) hs (grown_refl _ _) hl

end Go.Proofs.YtklenjmfalljgaaDoor
