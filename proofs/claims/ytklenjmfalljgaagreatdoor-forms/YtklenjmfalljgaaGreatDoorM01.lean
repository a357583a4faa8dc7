/- The texts Rdy Stp Mach End Fol Run. -/
import Derived.Test.YtklenjmfalljgaaGreatDoorM00
import Derived.Deep.DeepMust
import Derived.Deep.RegionHeld3
import Derived.Laws.EntriesVeiled
import Derived.Deep.AppendLies
import Derived.OwnWalk
import Derived.Laws.CopyRow

/- Walks of done, ready and step, said of cells. -/
namespace Go.Proofs.YtklenjmfalljgaaGreatDoor
open Go.RowKit
attribute [local go_sem] Go.World.cell?_alloc_some

theorem grown_of_like {w w' : World} {r : Option Nat} (h : w'.heap = w.heap ∧ w'.os = w.os ∧ w'.output = w.output ∧ w'.tape = w.tape) : w.grownBy w' r := grown_like (grown_refl w r) h
theorem grown_alloc {w w' : World} {r : Option Nat} {o : Obj} (h : w.grownBy w' r) : w.grownBy (w'.alloc o) r :=
  grown_trans h ⟨rfl, rfl, rfl, by simp, fun k hk _ => Below.heap_alloc _ _ _ hk⟩
theorem grown_drew {w w' : World} {r : Option Nat} (h : w.grownBy w' r) : w.grownBy w'.drew r := grown_like h ⟨rfl, rfl, rfl, rfl⟩
theorem like_drewN (w : World) : ∀ n, Like (w.drewN n) w
  | 0 => ⟨rfl, rfl, rfl, rfl⟩
  | n + 1 => like_drewN w n
theorem grown_drewN {w w' : World} {r : Option Nat} (n : Nat) (h : w.grownBy w' r) : w.grownBy (w'.drewN n) r := grown_like h (like_drewN w' n)

set_option maxHeartbeats 400000 in
theorem done_raw (m g cap b t n : Nat) (ao : Option Addr) (len c : Nat) (x : Int) (w : World) (ht : t < n) (ht4 : t < 4)
    (hm : w.cell? ⟨m, 0, none⟩ = some (.slice (some ⟨g, 0, none⟩) n cap)) (hr : w.cell? ⟨g, t, none⟩ = some (.slice ao len c)) (hx : w.cell? ⟨b, 26 + t, none⟩ = some (.int .i64 x)) :
    Calls Tryz.prog 127 #[.pointer (some ⟨m, 0, none⟩), .pointer (some ⟨b, 0, none⟩), .int .i64 t] w
      fun e w' => e = .returned (.bool (x == (len : Int))) ∧ Like w' w := by
  have h1 : (0 : Int) ≤ (t : Int) := by omega
  have h2 : (t : Int) < 4 := by omega
  have h3 : (t : Int) < n := by omega
  go_enter Tryz.func127, Tryz.ntmps127
  go_wp2
  go_region
  all_goals (go_wp2; go_ret; exact ⟨rfl, rfl, rfl, rfl, rfl⟩)

set_option maxHeartbeats 400000 in
theorem ready_raw_done (m g cap b t n : Nat) (ao : Option Addr) (len c : Nat) (w : World) (ht : t < n) (ht4 : t < 4)
    (hm : w.cell? ⟨m, 0, none⟩ = some (.slice (some ⟨g, 0, none⟩) n cap)) (hr : w.cell? ⟨g, t, none⟩ = some (.slice ao len c)) (hx : w.cell? ⟨b, 26 + t, none⟩ = some (.int .i64 len)) :
    Calls Tryz.prog 86 #[.pointer (some ⟨m, 0, none⟩), .pointer (some ⟨b, 0, none⟩), .int .i64 t] w
      fun e w' => e = .returned (.bool false) ∧ Like w' w := by
  go_enter Tryz.func86, Tryz.ntmps86
  go_wp2_with fail
  refine (done_raw m g cap b t n ao len c len w ht ht4 hm hr hx).mono ?_
  rintro e w' ⟨rfl, hl⟩
  simp only [beq_self_eq_true]
  go_wp2
  go_ret
  exact ⟨rfl, hl⟩

set_option maxHeartbeats 1000000 in
theorem ready_raw_free (m g cap b t n h k : Nat) (len c : Nat) (kf : Nat) (caps : Array Value) (l : Int) (w : World) (ht : t < n) (ht4 : t < 4) (hk : k < len)
    (hm : w.cell? ⟨m, 0, none⟩ = some (.slice (some ⟨g, 0, none⟩) n cap)) (hr : w.cell? ⟨g, t, none⟩ = some (.slice (some ⟨h, 0, none⟩) len c)) (hx : w.cell? ⟨b, 26 + t, none⟩ = some (.int .i64 k))
    (hc0 : w.cell? ⟨h, k * 3, none⟩ = some (.func (.func kf) #[] caps)) (hc1 : w.cell? ⟨h, k * 3 + 1, none⟩ = some (.bool false)) (hc2 : w.cell? ⟨h, k * 3 + 2, none⟩ = some (.int .i64 l)) :
    Calls Tryz.prog 86 #[.pointer (some ⟨m, 0, none⟩), .pointer (some ⟨b, 0, none⟩), .int .i64 t] w
      fun e w' => e = .returned (.bool true) ∧ w.grownBy w' none := by
  have h1 : (0 : Int) ≤ (t : Int) := by omega
  have h2 : (t : Int) < 4 := by omega
  have h3 : (t : Int) < n := by omega
  have h4 : (0 : Int) ≤ (k : Int) := by omega
  have h5 : (k : Int) < len := by omega
  have hne : ((k : Int) == (len : Int)) = false := by simp; omega
  go_enter Tryz.func86, Tryz.ntmps86
  go_wp2_with fail
  refine (done_raw m g cap b t n _ len c k w ht ht4 hm hr hx).mono ?_
  rintro e w' ⟨rfl, hl⟩
  rw [hne]
  obtain ⟨q1, q2, q3, q4⟩ := hl
  have c1 : ∀ a, w'.cell? a = w.cell? a := fun a => by simp [World.cell?, q1]
  have Q1 : Hid (w'.heap = w.heap ∧ w'.os = w.os ∧ w'.output = w.output ∧ w'.tape = w.tape) := ⟨q1, q2, q3, q4⟩
  have hm' : w'.cell? ⟨m, 0, none⟩ = some (.slice (some ⟨g, 0, none⟩) n cap) := by rw [c1]; exact hm
  have hr' : w'.cell? ⟨g, t, none⟩ = some (.slice (some ⟨h, 0, none⟩) len c) := by rw [c1]; exact hr
  have hx' : w'.cell? ⟨b, 26 + t, none⟩ = some (.int .i64 k) := by rw [c1]; exact hx
  have d0 : w'.cell? ⟨h, k * 3, none⟩ = some (.func (.func kf) #[] caps) := by rw [c1]; exact hc0
  have d1 : w'.cell? ⟨h, k * 3 + 1, none⟩ = some (.bool false) := by rw [c1]; exact hc1
  have d2 : w'.cell? ⟨h, k * 3 + 2, none⟩ = some (.int .i64 l) := by rw [c1]; exact hc2
  clear q1 q2 q3 q4 c1 hm hr hx hc0 hc1 hc2
  have n1 := World.new_ne w' _ hm'
  have n2 := World.new_ne w' _ hr'
  have n3 := World.new_ne w' _ hx'
  have n4 := World.new_ne w' _ d0
  simp only at n1 n2 n3 n4
  have m1 := Ne.symm n1
  have m2 := Ne.symm n2
  have m3 := Ne.symm n3
  have m4 := Ne.symm n4
  go_wp2
  go_region
  go_wp2
  go_quiet (fail)
  go_wp2
  go_ret
  exact ⟨rfl, grown_drewN _ (grown_drew (grown_alloc (grown_of_like Q1.out)))⟩

set_option maxHeartbeats 1000000 in
theorem ready_raw_lock (m g cap b t n h k : Nat) (len c : Nat) (kf : Nat) (caps : Array Value) (l : Nat) (hd : Bool) (hl3 : l < 3) (w : World) (ht : t < n) (ht4 : t < 4) (hk : k < len)
    (hm : w.cell? ⟨m, 0, none⟩ = some (.slice (some ⟨g, 0, none⟩) n cap)) (hr : w.cell? ⟨g, t, none⟩ = some (.slice (some ⟨h, 0, none⟩) len c)) (hx : w.cell? ⟨b, 26 + t, none⟩ = some (.int .i64 k))
    (hc0 : w.cell? ⟨h, k * 3, none⟩ = some (.func (.func kf) #[] caps)) (hc1 : w.cell? ⟨h, k * 3 + 1, none⟩ = some (.bool true)) (hc2 : w.cell? ⟨h, k * 3 + 2, none⟩ = some (.int .i64 l)) (hh : w.cell? ⟨b, 4 + l * 2, none⟩ = some (.bool hd)) :
    Calls Tryz.prog 86 #[.pointer (some ⟨m, 0, none⟩), .pointer (some ⟨b, 0, none⟩), .int .i64 t] w
      fun e w' => e = .returned (.bool (!hd)) ∧ w.grownBy w' none := by
  have h1 : (0 : Int) ≤ (t : Int) := by omega
  have h2 : (t : Int) < 4 := by omega
  have h3 : (t : Int) < n := by omega
  have h4 : (0 : Int) ≤ (k : Int) := by omega
  have h5 : (k : Int) < len := by omega
  have hne : ((k : Int) == (len : Int)) = false := by simp; omega
  go_enter Tryz.func86, Tryz.ntmps86
  go_wp2_with fail
  refine (done_raw m g cap b t n _ len c k w ht ht4 hm hr hx).mono ?_
  rintro e w' ⟨rfl, hl⟩
  rw [hne]
  obtain ⟨q1, q2, q3, q4⟩ := hl
  have c1 : ∀ a, w'.cell? a = w.cell? a := fun a => by simp [World.cell?, q1]
  have Q1 : Hid (w'.heap = w.heap ∧ w'.os = w.os ∧ w'.output = w.output ∧ w'.tape = w.tape) := ⟨q1, q2, q3, q4⟩
  have hm' : w'.cell? ⟨m, 0, none⟩ = some (.slice (some ⟨g, 0, none⟩) n cap) := by rw [c1]; exact hm
  have hr' : w'.cell? ⟨g, t, none⟩ = some (.slice (some ⟨h, 0, none⟩) len c) := by rw [c1]; exact hr
  have hx' : w'.cell? ⟨b, 26 + t, none⟩ = some (.int .i64 k) := by rw [c1]; exact hx
  have d0 : w'.cell? ⟨h, k * 3, none⟩ = some (.func (.func kf) #[] caps) := by rw [c1]; exact hc0
  have d1 : w'.cell? ⟨h, k * 3 + 1, none⟩ = some (.bool true) := by rw [c1]; exact hc1
  have d2 : w'.cell? ⟨h, k * 3 + 2, none⟩ = some (.int .i64 l) := by rw [c1]; exact hc2
  have d3 : w'.cell? ⟨b, 4 + l * 2, none⟩ = some (.bool hd) := by rw [c1]; exact hh
  have h6 : (0 : Int) ≤ (l : Int) := by omega
  have h7 : (l : Int) < 3 := by omega
  clear q1 q2 q3 q4 c1 hm hr hx hc0 hc1 hc2 hh
  have n1 := World.new_ne w' _ hm'
  have n2 := World.new_ne w' _ hr'
  have n3 := World.new_ne w' _ hx'
  have n4 := World.new_ne w' _ d0
  simp only at n1 n2 n3 n4
  have m1 := Ne.symm n1
  have m2 := Ne.symm n2
  have m3 := Ne.symm n3
  have m4 := Ne.symm n4
  go_wp2
  go_region
  go_wp2
  go_quiet (fail)
  go_wp2
  go_ret
  exact ⟨rfl, grown_drewN _ (grown_drew (grown_alloc (grown_of_like Q1.out)))⟩

end Go.Proofs.YtklenjmfalljgaaGreatDoor

/- The walk of step. -/
namespace Go.Proofs.YtklenjmfalljgaaGreatDoor
open Go.RowKit
attribute [local go_sem] Go.World.cell?_alloc_some

set_option maxHeartbeats 400000 in
theorem step_raw (m g cap b t n h k : Nat) (len c : Nat) (kf : Nat) (caps : Array Value) (w : World) (R : Bool → World → Prop) (ht : t < n) (ht4 : t < 4) (hk : k < len) (hk16 : k < 16)
    (hmb : m ≠ b) (hgb : g ≠ b) (hhb : h ≠ b)
    (hm : w.cell? ⟨m, 0, none⟩ = some (.slice (some ⟨g, 0, none⟩) n cap)) (hr : w.cell? ⟨g, t, none⟩ = some (.slice (some ⟨h, 0, none⟩) len c)) (hx : w.cell? ⟨b, 26 + t, none⟩ = some (.int .i64 k)) (hxf : w.frozen? ⟨b, 26 + t, none⟩ = false)
    (hc0 : w.cell? ⟨h, k * 3, none⟩ = some (.func (.func kf) #[] caps))
    (hent : ∀ args w, (callFunc kf args).run Tryz.prog w = .ok (.enter kf args) w)
    (hcall : Calls Tryz.prog kf (#[.pointer (some ⟨b, 0, none⟩)] ++ caps) (w.setCell ⟨b, 26 + t, none⟩ (.int .i64 ((k : Int) + 1))) fun e w' => ∃ r, e = .returned (.bool r) ∧ R r w') :
    Calls Tryz.prog 87 #[.pointer (some ⟨m, 0, none⟩), .pointer (some ⟨b, 0, none⟩), .int .i64 t] w
      fun e w' => ∃ r, e = .returned (.bool r) ∧ R r w' := by
  have h1 : (0 : Int) ≤ (t : Int) := by omega
  have h2 : (t : Int) < 4 := by omega
  have h3 : (t : Int) < n := by omega
  have h4 : (0 : Int) ≤ (k : Int) := by omega
  have h5 : (k : Int) < len := by omega
  have h6 : (k : Int) < 16 := by omega
  have HC : Hid (Calls Tryz.prog kf (#[.pointer (some ⟨b, 0, none⟩)] ++ caps) (w.setCell ⟨b, 26 + t, none⟩ (.int .i64 ((k : Int) + 1))) fun e w' => ∃ r, e = .returned (.bool r) ∧ R r w') := hcall
  clear hcall
  have s1 : (w.setCell ⟨b, 26 + t, none⟩ (.int .i64 ((k : Int) + 1))).cell? ⟨m, 0, none⟩ = some (.slice (some ⟨g, 0, none⟩) n cap) := by rw [World.cell?_setCell_far _ _ _ _ (by simpa using Ne.symm hmb)]; exact hm
  have s2 : (w.setCell ⟨b, 26 + t, none⟩ (.int .i64 ((k : Int) + 1))).cell? ⟨g, t, none⟩ = some (.slice (some ⟨h, 0, none⟩) len c) := by rw [World.cell?_setCell_far _ _ _ _ (by simpa using Ne.symm hgb)]; exact hr
  have s3 : (w.setCell ⟨b, 26 + t, none⟩ (.int .i64 ((k : Int) + 1))).cell? ⟨h, k * 3, none⟩ = some (.func (.func kf) #[] caps) := by rw [World.cell?_setCell_far _ _ _ _ (by simpa using Ne.symm hhb)]; exact hc0
  go_enter Tryz.func87, Tryz.ntmps87
  go_wp2_with fail
  go_show
  refine HC.out.mono ?_
  rintro e w' ⟨r, rfl, hR⟩
  go_wp2
  go_ret
  exact ⟨r, rfl, hR⟩

end Go.Proofs.YtklenjmfalljgaaGreatDoor

/- The machine in memory; done, ready, step, ending by its program. -/
namespace Go.Proofs.YtklenjmfalljgaaGreatDoor
open Go.RowKit

def MoveAt (B : Nat) (w : World) (h k t : Nat) (i : Ins) : Prop :=
  ∃ kf caps, w.cell? ⟨h, k * 3, none⟩ = some (.func (.func kf) #[] caps) ∧ ActIs B w (.func (.func kf) #[] caps) t i ∧
    w.cell? ⟨h, k * 3 + 1, none⟩ = some (.bool (i.op == 9)) ∧ w.cell? ⟨h, k * 3 + 2, none⟩ = some (.int .i64 (if i.op = 9 then i.a else 0))

def RowIs (B : Nat) (w : World) (v : Value) (t : Nat) (c : List Ins) : Prop :=
  (c = [] ∧ v = .slice none 0 0) ∨ ∃ h cap, v = .slice (some ⟨h, 0, none⟩) c.length cap ∧ h < B ∧ ∀ k (hk : k < c.length), MoveAt B w h k t c[k]

def MachAt (B : Nat) (w : World) (m : Nat) (p : List (List Ins)) : Prop :=
  ∃ g cap, m < B ∧ g < B ∧ w.cell? ⟨m, 0, none⟩ = some (.slice (some ⟨g, 0, none⟩) p.length cap) ∧
    ∀ t, t < p.length → ∃ v, w.cell? ⟨g, t, none⟩ = some v ∧ RowIs B w v t (codeOf p t)

theorem MoveAt.of_block {B : Nat} {w w' : World} {h k t : Nat} {i : Ins} (hh : h < B) (H : MoveAt B w h k t i) (hb : ∀ k, k < B → w'.heap[k]? = w.heap[k]?) : MoveAt B w' h k t i := by
  obtain ⟨kf, caps, h0, h1, h2, h3⟩ := H
  have c : ∀ o, w'.cell? ⟨h, o, none⟩ = w.cell? ⟨h, o, none⟩ := fun o => World.cell?_of_block (hb h hh)
  exact ⟨kf, caps, by rw [c]; exact h0, h1.of_block hb, by rw [c]; exact h2, by rw [c]; exact h3⟩
theorem MoveAt.mono {B B' : Nat} {w : World} {h k t : Nat} {i : Ins} (H : MoveAt B w h k t i) (hb : B ≤ B') : MoveAt B' w h k t i := by
  obtain ⟨kf, caps, h0, h1, h2, h3⟩ := H
  exact ⟨kf, caps, h0, h1.mono hb, h2, h3⟩

theorem RowIs.of_block {B : Nat} {w w' : World} {v : Value} {t : Nat} {c : List Ins} (H : RowIs B w v t c) (hb : ∀ k, k < B → w'.heap[k]? = w.heap[k]?) : RowIs B w' v t c := by
  rcases H with H | ⟨h, cap, h1, h2, h3⟩
  · exact Or.inl H
  · exact Or.inr ⟨h, cap, h1, h2, fun k hk => (h3 k hk).of_block h2 hb⟩
theorem RowIs.mono {B B' : Nat} {w : World} {v : Value} {t : Nat} {c : List Ins} (H : RowIs B w v t c) (hb : B ≤ B') : RowIs B' w v t c := by
  rcases H with H | ⟨h, cap, h1, h2, h3⟩
  · exact Or.inl H
  · exact Or.inr ⟨h, cap, h1, by omega, fun k hk => (h3 k hk).mono hb⟩

theorem MachAt.of_block {B : Nat} {w w' : World} {m : Nat} {p : List (List Ins)} (H : MachAt B w m p) (hb : ∀ k, k < B → w'.heap[k]? = w.heap[k]?) : MachAt B w' m p := by
  obtain ⟨g, cap, hm, hg, h1, h2⟩ := H
  refine ⟨g, cap, hm, hg, by rw [World.cell?_of_block (hb m hm)]; exact h1, fun t ht => ?_⟩
  obtain ⟨v, h3, h4⟩ := h2 t ht
  exact ⟨v, by rw [World.cell?_of_block (hb g hg)]; exact h3, h4.of_block hb⟩

theorem StAt.lt {w : World} {b : Nat} {s : St} (h : StAt w b s) : b < w.heap.size := by
  unfold StAt at h
  exact (Array.getElem?_eq_some_iff.1 h).1
theorem StAt.grown {w w' : World} {b : Nat} {s : St} (h : StAt w b s) (hg : w.grownBy w' none) : StAt w' b s := by
  have hl := h.lt
  unfold StAt at *
  rw [hg.block b hl (by simp)]; exact h
theorem MachAt.grown {B b : Nat} {w w' : World} {m : Nat} {p : List (List Ins)} (H : MachAt B w m p) (hB : B ≤ b) (hb : b < w.heap.size) (hg : w.grownBy w' (some b)) : MachAt B w' m p :=
  H.of_block fun k hk => hg.block k (by omega) (by simp; omega)
theorem MachAt.grown' {B : Nat} {w w' : World} {m : Nat} {p : List (List Ins)} (H : MachAt B w m p) (hB : B ≤ w.heap.size) (hg : w.grownBy w' none) : MachAt B w' m p :=
  H.of_block fun k hk => hg.block k (by omega) (by simp)

theorem done_m {B m b t : Nat} {w : World} {p : List (List Ins)} {s : St} (hp : vProg p = true) (hM : MachAt B w m p) (hs : StAt w b s) (ht : t < p.length) :
    Calls Tryz.prog 127 #[.pointer (some ⟨m, 0, none⟩), .pointer (some ⟨b, 0, none⟩), .int .i64 t] w
      fun e w' => e = .returned (.bool (doneB p s t)) ∧ w.grownBy w' none := by
  obtain ⟨g, cap, hm, hg, h1, h2⟩ := hM
  obtain ⟨v, h3, h4⟩ := h2 t ht
  have ht4 : t < 4 := by have := (vProg_len hp).2; omega
  have hv : ∃ ao c, v = .slice ao (codeOf p t).length c := by
    rcases h4 with ⟨e, rfl⟩ | ⟨h, c, rfl, _⟩
    · exact ⟨none, 0, by rw [e]; rfl⟩
    · exact ⟨_, _, rfl⟩
  obtain ⟨ao, c, rfl⟩ := hv
  exact (done_raw m g cap b t _ ao _ c _ w ht ht4 h1 h3 (hs.next ht4)).mono fun e w' ⟨he, hl⟩ => ⟨he, grown_like (grown_refl _ _) hl⟩

theorem row_move {B : Nat} {w : World} {v : Value} {t : Nat} {c : List Ins} (H : RowIs B w v t c) {k : Nat} (hk : k < c.length) :
    ∃ h cap, v = .slice (some ⟨h, 0, none⟩) c.length cap ∧ h < B ∧ MoveAt B w h k t c[k] := by
  rcases H with ⟨e, _⟩ | ⟨h, cap, e, hh, hm⟩
  · subst e; simp at hk
  · exact ⟨h, cap, e, hh, hm k hk⟩

theorem ready_m {B m b t : Nat} {w : World} {p : List (List Ins)} {s : St} (hp : vProg p = true) (hM : MachAt B w m p) (hs : StAt w b s) (hI : Inv p s) (ht : t < p.length) :
    Calls Tryz.prog 86 #[.pointer (some ⟨m, 0, none⟩), .pointer (some ⟨b, 0, none⟩), .int .i64 t] w
      fun e w' => e = .returned (.bool (readyB p s t)) ∧ w.grownBy w' none := by
  obtain ⟨g, cap, hm, hg, h1, h2⟩ := hM
  obtain ⟨v, h3, h4⟩ := h2 t ht
  have ht4 : t < 4 := by have := (vProg_len hp).2; omega
  have hn := hI t ht
  by_cases hd : doneB p s t = true
  · have hv : ∃ ao c, v = .slice ao (codeOf p t).length c := by
      rcases h4 with ⟨e, rfl⟩ | ⟨h, c, rfl, _⟩
      · exact ⟨none, 0, by rw [e]; rfl⟩
      · exact ⟨_, _, rfl⟩
    obtain ⟨ao, c, rfl⟩ := hv
    have hx := hs.next ht4
    have e : s.next t = ((codeOf p t).length : Int) := by simpa [doneB] using hd
    rw [e] at hx
    exact (ready_raw_done m g cap b t _ ao _ c w ht ht4 h1 h3 hx).mono fun e w' ⟨he, hl⟩ => ⟨by rw [he]; simp [readyB, hd], grown_like (grown_refl _ _) hl⟩
  · have hd' : doneB p s t = false := by simpa using hd
    have hne : s.next t ≠ ((codeOf p t).length : Int) := by simpa [doneB] using hd'
    have hk : (s.next t).toNat < (codeOf p t).length := by omega
    have ek : ((s.next t).toNat : Int) = s.next t := by omega
    obtain ⟨h, c, rfl, hh, kf, caps, m0, m1, m2, m3⟩ := row_move h4 hk
    have hx := hs.next ht4
    rw [← ek] at hx
    have hv := vProg_ins hp ht hk
    have hi : insAt p t (s.next t) = (codeOf p t)[(s.next t).toNat] := insAt_get hk
    rw [← hi] at m1 m2 m3
    by_cases h9 : (insAt p t (s.next t)).op = 9
    · have hsay := vIns_say hv
      have ha : 0 ≤ (insAt p t (s.next t)).a ∧ (insAt p t (s.next t)).a < 3 := by omega
      have ea : ((insAt p t (s.next t)).a.toNat : Int) = (insAt p t (s.next t)).a := by omega
      have ha3 : (insAt p t (s.next t)).a.toNat < 3 := by omega
      rw [if_pos h9, ← ea] at m3
      rw [h9] at m2
      exact (ready_raw_lock m g cap b t _ h _ _ c kf caps _ _ ha3 w ht ht4 hk h1 h3 hx m0 m2 m3 (hs.held ha3)).mono fun e w' ⟨he, hl⟩ => ⟨by rw [he]; simp [readyB, hd', h9], hl⟩
    · have e9 : ((insAt p t (s.next t)).op == 9) = false := by simpa using h9
      rw [e9] at m2
      exact (ready_raw_free m g cap b t _ h _ _ c kf caps _ w ht ht4 hk h1 h3 hx m0 m2 m3).mono fun e w' ⟨he, hl⟩ => ⟨by rw [he]; simp [readyB, hd', h9], hl⟩

theorem step_m {B m b t : Nat} {w : World} {p : List (List Ins)} {s : St} (hp : vProg p = true) (hM : MachAt B w m p) (hB : B ≤ b) (hs : StAt w b s) (hI : Inv p s) (ht : t < p.length) (hd : doneB p s t = false) :
    Calls Tryz.prog 87 #[.pointer (some ⟨m, 0, none⟩), .pointer (some ⟨b, 0, none⟩), .int .i64 t] w
      fun e w' => ∃ r, e = .returned (.bool r) ∧ r = (stepS p s t).1 ∧ StAt w' b (stepS p s t).2 ∧ w.grownBy w' (some b) := by
  obtain ⟨g, cap, hm, hg, h1, h2⟩ := hM
  obtain ⟨v, h3, h4⟩ := h2 t ht
  have ht4 : t < 4 := by have := (vProg_len hp).2; omega
  have hn := hI t ht
  have hne : s.next t ≠ ((codeOf p t).length : Int) := by simpa [doneB] using hd
  have hk : (s.next t).toNat < (codeOf p t).length := by omega
  have ek : ((s.next t).toNat : Int) = s.next t := by omega
  have h16 := vCode_len (vProg_code hp ht)
  obtain ⟨h, c, rfl, hh, kf, caps, m0, m1, m2, m3⟩ := row_move h4 hk
  have hx := hs.next ht4
  rw [← ek] at hx
  have hv := vProg_ins hp ht hk
  have hi : insAt p t (s.next t) = (codeOf p t)[(s.next t).toNat] := insAt_get hk
  rw [← hi] at m1
  have hs1 : StAt (w.setCell ⟨b, 26 + t, none⟩ (.int .i64 (s.next t + 1))) b (s.setNext t (s.next t + 1)) := hs.setCell (cells_setNext s ht4 _)
  have hgr : w.grownBy (w.setCell ⟨b, 26 + t, none⟩ (.int .i64 (s.next t + 1))) (some b) := grown_set
  have m1' := m1.of_block (w' := w.setCell ⟨b, 26 + t, none⟩ (.int .i64 (s.next t + 1))) fun k hk => Below.heap_setCell _ _ _ _ (by simp; omega)
  obtain ⟨kf', caps', e1, e2, e3⟩ := act_does ht4 hv m1' hs1
  have e4 : kf' = kf ∧ caps' = caps := by simp at e1; exact ⟨e1.1.symm, e1.2.symm⟩
  obtain ⟨rfl, rfl⟩ := e4
  rw [← ek] at e3
  refine (step_raw m g cap b t _ h _ _ c kf' caps' w (fun r w' => r = (stepS p s t).1 ∧ StAt w' b (stepS p s t).2 ∧ w.grownBy w' (some b)) ht ht4 hk (by omega) (by omega) (by omega) (by omega) h1 h3 hx (hs.frozen _) m0 e2 (e3.mono ?_))
  rintro e w' ⟨r, he, q1, q2, q3⟩
  rw [ek] at q1 q2 q3
  exact ⟨r, he, q1, q2, grown_trans hgr q3⟩

end Go.Proofs.YtklenjmfalljgaaGreatDoor

/- The walk of ending. -/
namespace Go.Proofs.YtklenjmfalljgaaGreatDoor
open Go.RowKit

/-- ending's answer after k threads, none of which was ready. -/
def endTo (p : List (List Ins)) (s : St) (k : Nat) : Int := if (List.range k).all (doneB p s) then 3 else 4

theorem endTo_succ (p : List (List Ins)) (s : St) (k : Nat) : endTo p s (k + 1) = if doneB p s k = true then endTo p s k else 4 := by
  unfold endTo
  rw [List.range_succ, List.all_append]
  by_cases h : doneB p s k = true <;> simp [h]

theorem ending_open {p : List (List Ins)} {s : St} {k : Nat} (hk : k < p.length) (h : readyB p s k = true) : endingS p s = 5 := by
  unfold endingS
  rw [if_pos]
  exact List.any_eq_true.2 ⟨k, List.mem_range.2 hk, h⟩

theorem ending_end {p : List (List Ins)} {s : St} (h : ∀ k, k < p.length → readyB p s k = false) : endingS p s = endTo p s p.length := by
  unfold endingS endTo
  rw [if_neg]
  intro hc
  obtain ⟨k, hk, hr⟩ := List.any_eq_true.1 hc
  rw [h k (List.mem_range.1 hk)] at hr
  cases hr

set_option maxHeartbeats 1000000 in
theorem ending_m {B m b : Nat} {w : World} {p : List (List Ins)} {s : St} (hp : vProg p = true) (hM : MachAt B w m p) (hB : B ≤ b) (hs : StAt w b s) (hI : Inv p s) :
    Calls Tryz.prog 88 #[.pointer (some ⟨m, 0, none⟩), .pointer (some ⟨b, 0, none⟩)] w
      fun e w' => e = .returned (.int .i64 (endingS p s)) ∧ w.grownBy w' none := by
  have hb := hs.lt
  have hlen := vProg_len hp
  have HM : Hid (MachAt B w m p) := hM
  have HS : Hid (StAt w b s) := hs
  have HI : Hid (Inv p s) := hI
  have HP : Hid (vProg p = true) := hp
  obtain ⟨g, cap, hm, hg, h1, h2⟩ := hM
  have h3 : (p.length : Int) ≤ 4 := by omega
  clear h2 hs hI hp hm hg
  go_enter Tryz.func88, Tryz.ntmps88
  go_wp2
  go_loopw [5, 12] (fun e i w' => ∃ k : Nat, k ≤ p.length ∧ i = .int .i64 k ∧ e = .int .i64 (endTo p s k) ∧ Hid (w.grownBy w' none) ∧ Hid (∀ j, j < k → readyB p s j = false)) (fun _ i _ => p.length - (intOf i).toNat)
  case atStart => exact ⟨0, Nat.zero_le _, rfl, rfl, grown_refl _ _, fun j hj => by omega⟩
  case round =>
    obtain ⟨k, hk, rfl, rfl, HG, HR⟩ := hrel
    by_cases hlt : k < p.length
    · go_wp2_with fail
      refine (ready_m HP.out (HM.out.grown' (by omega) HG.out) (HS.out.grown HG.out) HI.out hlt).mono ?_
      rintro e w1 ⟨rfl, hg1⟩
      have HG1 : Hid (w.grownBy w1 none) := grown_trans HG.out hg1
      clear hg1
      cases hr : readyB p s k
      · go_wp2_with fail
        refine (done_m HP.out (HM.out.grown' (by omega) HG1.out) (HS.out.grown HG1.out) hlt).mono ?_
        rintro e w2 ⟨rfl, hg2⟩
        have HG2 : Hid (w.grownBy w2 none) := grown_trans HG1.out hg2
        clear hg2
        have HS1 : Hid (endTo p s (k + 1) = if doneB p s k = true then endTo p s k else 4) := endTo_succ p s k
        have HR1 : Hid (∀ j, j < k + 1 → readyB p s j = false) := fun j hj => by
          by_cases e : j = k
          · rw [e]; exact hr
          · exact HR.out j (by omega)
        clear hr
        cases hd : doneB p s k
        · go_wp2
          go_roundw
          case rel => exact ⟨k + 1, by omega, by go_num, by rw [HS1.out, hd]; rfl, HG2, HR1⟩
          case measure => simp [intOf]; omega
        · go_wp2
          go_roundw
          case rel => exact ⟨k + 1, by omega, by go_num, by rw [HS1.out, hd]; rfl, HG2, HR1⟩
          case measure => simp [intOf]; omega
      · have HE : Hid (endingS p s = 5) := ending_open hlt hr
        clear hr
        go_wp2
        go_ret
        exact ⟨by rw [HE.out]; rfl, HG1⟩
    · have e : k = p.length := by omega
      have HE : Hid (endingS p s = endTo p s k) := by rw [e]; exact ending_end (fun j hj => HR.out j (by omega))
      clear e
      go_wp2
      go_ret
      exact ⟨by rw [HE.out]; rfl, HG⟩

end Go.Proofs.YtklenjmfalljgaaGreatDoor

/- The walk of follow. -/
namespace Go.Proofs.YtklenjmfalljgaaGreatDoor
open Go.RowKit

set_option maxHeartbeats 400000 in
theorem below_m (x n : Int) (w : World) : Calls Tryz.prog 85 #[.int .i64 x, .int .i64 n] w fun e w' => e = .returned (.bool (belowB x n)) ∧ w' = w := by
  by_cases h1 : 0 ≤ x
  · by_cases h2 : x < n
    · have HB : Hid (belowB x n = true) := by unfold Hid; simp [belowB, h1, h2]
      go_enter Tryz.func85, Tryz.ntmps85
      go_wp2
      go_ret
      exact ⟨by rw [HB.out]; rfl, rfl⟩
    · have HB : Hid (belowB x n = false) := by unfold Hid; simp [belowB, h1, h2]
      have h3 : n ≤ x := by omega
      go_enter Tryz.func85, Tryz.ntmps85
      go_wp2
      go_ret
      exact ⟨by rw [HB.out]; rfl, rfl⟩
  · have HB : Hid (belowB x n = false) := by unfold Hid; simp [belowB, h1]
    have h3 : x < 0 := by omega
    go_enter Tryz.func85, Tryz.ntmps85
    go_wp2
    go_ret
    exact ⟨by rw [HB.out]; rfl, rfl⟩

/-- A slice of numbers in memory; its row lies below block B. -/
def IntsAt (B : Nat) (w : World) (v : Value) (l : List Int) : Prop :=
  ∃ ao cap, v = .slice ao l.length cap ∧ l.length ≤ cap ∧ ∀ k (hk : k < l.length), ∃ g o, ao = some ⟨g, o, none⟩ ∧ g < B ∧ w.cell? ⟨g, o + k, none⟩ = some (.int .i64 l[k])

def flatS (acc : List (Int × Int)) : List Value := acc.flatMap fun x => [.int .i64 x.1, .int .i64 x.2]
theorem flatS_snoc (acc : List (Int × Int)) (x : Int × Int) : flatS (acc ++ [x]) = flatS acc ++ [.int .i64 x.1, .int .i64 x.2] := by simp [flatS]

theorem owns_grown {w w' : World} {base : Nat} {e : TypeId} {size : Nat} {v : Value} {n : Nat} {xs : List Value} {r : Option Nat} (h : w.ownsRow base e size v n xs) (hg : w.grownBy w' r) (hr : ∀ k, r = some k → k < base) : w'.ownsRow base e size v n xs := by
  obtain ⟨h1, h2⟩ := h
  refine ⟨h1, ?_⟩
  rcases h2 with h2 | ⟨g, cap, cur, hv, hb, hh, rest⟩
  · exact Or.inl h2
  · have hlt : g < w.heap.size := (Array.getElem?_eq_some_iff.1 hh).1
    refine Or.inr ⟨g, cap, cur, hv, hb, ?_, rest⟩
    rw [hg.block g hlt (fun e => by have := hr g e.symm; omega)]; exact hh

theorem owns_block {w : World} {base : Nat} {e : TypeId} {size : Nat} {v : Value} {n : Nat} {xs : List Value} (h : w.ownsRow base e size v n xs) : ∀ k, v.ownBlock = some k → base ≤ k := by
  rcases h.2 with ⟨e1, _⟩ | ⟨g, cap, cur, hv, hb, _⟩
  · intro k hk; rw [e1] at hk; cases hk
  · intro k hk; rw [hv] at hk; simp [Value.ownBlock] at hk; omega

theorem info_step : ((Tryz.prog.info? 84).map fun i => (i.zero, i.size, i.bytes)) = some (some (.agg #[.int .i64 0, .int .i64 0]), 2, 16) := by kernel_rfl

theorem owns_mono {w : World} {base base' : Nat} {e : TypeId} {size : Nat} {v : Value} {n : Nat} {xs : List Value} (h : w.ownsRow base e size v n xs) (hb : base' ≤ base) : w.ownsRow base' e size v n xs := by
  obtain ⟨h1, h2⟩ := h
  refine ⟨h1, h2.imp id ?_⟩
  rintro ⟨g, cap, cur, hv, hg, rest⟩
  exact ⟨g, cap, cur, hv, by omega, rest⟩
theorem grown_setNew {w w' : World} {r : Option Nat} {g o : Nat} {v : Value} (h : w.grownBy w' r) (hg : w.heap.size ≤ g) : w.grownBy (w'.setCell ⟨g, o, none⟩ v) r :=
  ⟨h.os, h.tape, h.output, by simpa using h.size, fun k hk hr => by rw [Below.heap_setCell _ _ _ _ (by simp; omega)]; exact h.block k hk hr⟩
theorem StAt.setOther {w : World} {b : Nat} {s : St} {g o : Nat} {v : Value} (h : StAt w b s) (hg : b ≠ g) : StAt (w.setCell ⟨g, o, none⟩ v) b s := by
  unfold StAt at *
  rw [Below.heap_setCell _ _ _ _ (by simpa using hg)]; exact h
theorem grown_old {w w' : World} {r : Option Nat} {o : Obj} (h : (w.alloc o).grownBy w' r) : w.grownBy w' r := grown_trans (grown_alloc (grown_refl w r)) h
theorem new_block {w w' : World} {b : Nat} {o : Obj} (h : (w.alloc o).grownBy w' (some b)) (hb : b < w.heap.size) : w'.heap[w.heap.size]? = some o := by
  rw [h.block w.heap.size (by simp) (by simp; omega)]
  show (w.heap.push o)[w.heap.size]? = some o
  simp
theorem grown_none {w w' : World} {r : Option Nat} (h : w.grownBy w' none) : w.grownBy w' r := ⟨h.os, h.tape, h.output, h.size, fun k hk _ => h.block k hk (by simp)⟩
theorem grown_row {w0 w w' : World} {r : Option Nat} {v : Value} (h : w0.grownBy w r) (hg : w.grownBy w' v.ownBlock) (hv : ∀ k, v.ownBlock = some k → w0.heap.size ≤ k) : w0.grownBy w' r :=
  ⟨hg.os.trans h.os, hg.tape.trans h.tape, hg.output.trans h.output, Nat.le_trans h.size hg.size, fun k hk hr => by
    rw [hg.block k (Nat.lt_of_lt_of_le hk h.size) (fun e => by have := hv k e.symm; omega)]; exact h.block k hk hr⟩
theorem StAt.rowGrown {w w' : World} {b : Nat} {s : St} {v : Value} (h : StAt w b s) (hg : w.grownBy w' v.ownBlock) (hv : ∀ k, v.ownBlock = some k → b < k) : StAt w' b s := by
  have hl := h.lt
  unfold StAt at *
  rw [hg.block b hl (fun e => by have := hv b e.symm; omega)]; exact h
theorem owns_alloc {w : World} {base : Nat} {e : TypeId} {size : Nat} {v : Value} {n : Nat} {xs : List Value} {o : Obj} (h : w.ownsRow base e size v n xs) : (w.alloc o).ownsRow base e size v n xs :=
  owns_grown h (grown_alloc (grown_refl w none)) (fun _ e => by cases e)
theorem three_cells {w : World} {g : Nat} {x y z : Value} {t : TypeId} (h : w.heap[g]? = some (.cells #[x, y, z] t (0, 0))) :
    w.cell? ⟨g, 0, none⟩ = some x ∧ w.cell? ⟨g, 1, none⟩ = some y ∧ w.cell? ⟨g, 2, none⟩ = some z ∧ (∀ o, w.frozen? ⟨g, o, none⟩ = false) := by
  simp [World.cell?, World.frozen?, h]

/-- What follow leaves. -/
def Followed (w : World) (b : Nat) (o : Out) (e : Ending) (w' : World) : Prop :=
  ∃ sv, e = .returned (.tuple #[sv, .agg #[.int .i64 o.kind, .int .i64 o.thread, .int .i64 o.at_]]) ∧ w'.ownsRow w.heap.size 84 2 sv o.steps.length (flatS o.steps) ∧
    StAt w' b o.st ∧ w.grownBy w' (some b)

set_option maxHeartbeats 4000000 in
set_option maxRecDepth 100000 in
theorem follow_m {B m b : Nat} {w : World} {p : List (List Ins)} {s0 : St} {v : Value} {sch : List Int} (hp : vProg p = true) (hM : MachAt B w m p) (hB : B ≤ b) (hs : StAt w b s0) (hI : Inv p s0)
    (hv : IntsAt B w v sch) (h500 : sch.length ≤ 500) :
    Calls Tryz.prog 52 #[.pointer (some ⟨m, 0, none⟩), .pointer (some ⟨b, 0, none⟩), v] w (Followed w b (follow p sch 0 s0 [])) := by
  obtain ⟨i0, hi0, hz0, hz1, hz2⟩ := info_parts info_step
  obtain ⟨ao, cap, rfl, hcap, hcell⟩ := hv
  have hb := hs.lt
  have hlen := vProg_len hp
  have HM : Hid (MachAt B w m p) := hM
  have HS : Hid (StAt w b s0) := hs
  have HI : Hid (Inv p s0) := hI
  have HP : Hid (vProg p = true) := hp
  have HC : Hid (∀ k (hk : k < sch.length), ∃ g o, ao = some ⟨g, o, none⟩ ∧ g < B ∧ w.cell? ⟨g, o + k, none⟩ = some (.int .i64 sch[k])) := hcell
  obtain ⟨g, mcap, hm, hg, h1, h2⟩ := hM
  have h3 : (p.length : Int) ≤ 4 := by omega
  have h4 : (sch.length : Int) ≤ 500 := by omega
  clear h2 hs hI hp hcell
  have HI0 : Hid (Tryz.prog.info? 84 = some i0) := hi0
  have HZ0 := hz0
  go_enter Tryz.func52, Tryz.ntmps52
  go_wp2_with (at_make; refine wpList_make_own _ rfl _ _ _ rfl (w.heap.size + 1) 84 i0 _ 2 Tryz.underlying28 hi0 hz0 hz1 .i64 .i64 _ sch.length rfl rfl rfl (by rw [hz2]; omega) (by unfold maxLen; omega) (by simp) ?_; intro w0 hown0 hg0)
  have HO0 : Hid (w0.ownsRow (w.heap.size + 1) 84 2 (.slice (some ⟨w.heap.size + 1, 0, none⟩) 0 sch.length) 0 []) := by unfold Hid; simpa using hown0
  have HG0 : Hid ((w.alloc (.cells #[.int .i64 0, .int .i64 0, .int .i64 0] 27)).grownBy w0 (some b)) := grown_none hg0
  have HW0 := (show Hid _ from hg0)
  clear hown0 hg0
  go_loopw [8, 17] (fun sv i w' => ∃ (k : Nat) (s : St) (acc : List (Int × Int)), k ≤ sch.length ∧ i = .int .i64 k ∧ acc.length = k ∧ Hid (w'.ownsRow (w.heap.size + 1) 84 2 sv k (flatS acc)) ∧
      Hid (StAt w' b s) ∧ Hid (Inv p s) ∧ Hid ((w.alloc (.cells #[.int .i64 0, .int .i64 0, .int .i64 0] 27)).grownBy w' (some b)) ∧
      Hid (follow p sch 0 s0 [] = follow p (sch.drop k) k s acc)) (fun _ i _ => sch.length - (intOf i).toNat)
  case atStart =>
    refine ⟨0, s0, [], Nat.zero_le _, rfl, rfl, HO0, ?_, HI, HG0, rfl⟩
    have hh : w0.heap[b]? = w.heap[b]? := by rw [HW0.out.block b (by simp; omega) (by simp), Below.heap_alloc _ _ _ (by omega)]
    have hst := HS.out
    unfold StAt at *
    unfold Hid
    rw [hh]; exact hst
  case round =>
    clear HO0 HG0 HW0
    obtain ⟨k, s, acc, hk, rfl, hacc, HO, HSt, HIn, HG, HF⟩ := hrel
    have hvb := new_block HG.out hb
    obtain ⟨v0, v1, v2, vf⟩ := three_cells hvb
    have vf0 := vf 0
    have vf1 := vf 1
    have vf2 := vf 2
    have HV : Hid (∀ o, wr.frozen? ⟨w.heap.size, o, none⟩ = false) := vf
    clear vf hvb
    have hsz : w.heap.size + 1 ≤ wr.heap.size := by have := HG.out.size; simpa using this
    have HM' : Hid (MachAt B wr m p) := (HM.out.grown' (by omega) (grown_alloc (grown_refl w none))).grown hB (by simp; omega) HG.out
    by_cases hlt : k < sch.length
    · obtain ⟨gb, go, rfl, hgb, hc⟩ := HC.out k hlt
      have hcr : wr.cell? ⟨gb, go + k, none⟩ = some (.int .i64 sch[k]) := by
        rw [HG.out.cell_far _ (by simp; omega) (by simp; omega), World.cell?_alloc_lt _ _ _ (by simp; omega)]; exact hc
      clear hc
      have HD : Hid (sch.drop k = sch[k] :: sch.drop (k + 1)) := List.drop_eq_getElem_cons hlt
      generalize sch[k] = t at *
      have hmr : wr.cell? ⟨m, 0, none⟩ = some (.slice (some ⟨g, 0, none⟩) p.length mcap) := by
        rw [HG.out.cell_far _ (by simp; omega) (by simp; omega), World.cell?_alloc_lt _ _ _ (by simp; omega)]; exact h1
      have hk0 : (0 : Int) ≤ (k : Int) := by omega
      have hk1 : (k : Int) < sch.length := by omega
      have hk2 : (k : Int) < 500 := by omega
      go_wp2_with fail
      refine (below_m t p.length wr).mono ?_
      rintro e w1 ⟨rfl, rfl⟩
      cases hbl : belowB t p.length
      · have HW : Hid (follow p sch 0 s0 [] = ⟨acc, 2, 0, k, s⟩) := by
          unfold Hid
          rw [HF.out, HD.out]; exact follow_wrong _ _ _ _ _ _ (by simp [okAt, hbl])
        clear hbl
        go_wp2
        rw [HW.out]
        exact bodyPost_ret (v := .tuple #[u8, .agg #[.int .i64 2, .int .i64 0, .int .i64 k]]) (by simp [results, Tryz.results52, go_sem, v0, v1, v2]) rfl
          ⟨u8, rfl, by rw [hacc]; exact owns_mono (ownsRow_setCell_below (ownsRow_setCell_below (ownsRow_setCell_below HO.out (by simp) _) (by simp) _) (by simp) _) (by omega), ((HSt.out.setOther (by omega)).setOther (by omega)).setOther (by omega), grown_setNew (grown_setNew (grown_setNew (grown_old HG.out) (by omega)) (by omega)) (by omega)⟩
      · have ht : 0 ≤ t ∧ t < p.length := by simpa [belowB] using hbl
        obtain ⟨t', rfl⟩ := Int.eq_ofNat_of_zero_le ht.1
        have ht' : t' < p.length := by omega
        have HT : Hid (belowB (t' : Int) p.length = true) := hbl
        clear hbl ht
        go_wp2_with fail
        refine (ready_m HP.out HM'.out HSt.out HIn.out ht').mono ?_
        rintro e w1 ⟨rfl, hg1⟩
        have HG1 : Hid ((w.alloc (.cells #[.int .i64 0, .int .i64 0, .int .i64 0] 27)).grownBy w1 (some b)) := grown_trans HG.out (grown_none hg1)
        have HO1 : Hid (w1.ownsRow (w.heap.size + 1) 84 2 u8 k (flatS acc)) := owns_grown HO.out hg1 (fun _ e => by cases e)
        have HS1 : Hid (StAt w1 b s) := HSt.out.grown hg1
        have HM1 : Hid (MachAt B w1 m p) := HM'.out.grown' (by omega) hg1
        have hsz1 : w.heap.size + 1 ≤ w1.heap.size := by have := HG1.out.size; simpa using this
        clear v0 v1 v2 vf0 vf1 vf2 HV hcr hmr hg1 HM' HSt HO HG hsz
        have hvb := new_block HG1.out hb
        obtain ⟨v0, v1, v2, vf⟩ := three_cells hvb
        have vf0 := vf 0
        have vf1 := vf 1
        have vf2 := vf 2
        clear vf hvb
        cases hrd : readyB p s t'
        · have HW : Hid (follow p sch 0 s0 [] = ⟨acc, 2, 0, k, s⟩) := by
            unfold Hid
            rw [HF.out, HD.out]; exact follow_wrong _ _ _ _ _ _ (by simp [okAt, hrd])
          clear hrd
          go_wp2
          rw [HW.out]
          exact bodyPost_ret (v := .tuple #[u8, .agg #[.int .i64 2, .int .i64 0, .int .i64 k]]) (by simp [results, Tryz.results52, go_sem, v0, v1, v2]) rfl
            ⟨u8, rfl, by rw [hacc]; exact owns_mono (ownsRow_setCell_below (ownsRow_setCell_below (ownsRow_setCell_below HO1.out (by simp) _) (by simp) _) (by simp) _) (by omega), ((HS1.out.setOther (by omega)).setOther (by omega)).setOther (by omega), grown_setNew (grown_setNew (grown_setNew (grown_old HG1.out) (by omega)) (by omega)) (by omega)⟩
        · have HK : Hid (okAt p s t' = true) := by unfold Hid; simp [okAt, hrd, HT.out]
          have HDn : Hid (doneB p s t' = false) := by
            unfold Hid
            cases hd : doneB p s t' with
            | false => rfl
            | true => simp [readyB, hd] at hrd
          clear hrd
          have ht4 : t' < 4 := by omega
          have hnx := HS1.out.next ht4
          have ht0 : (0 : Int) ≤ (t' : Int) := by omega
          have ht1 : (t' : Int) < 4 := by omega
          have h63 : k + 1 ≤ maxLen := by unfold maxLen; omega
          have hby : (k + 1) * 16 ≤ 140737488355328 := by omega
          go_wp2_with (at_builtin; refine wpList_append_lies _ rfl _ _ _ rfl (w.heap.size + 1) 84 i0 _ 2 16 Tryz.underlying28 hi0 hz0 hz1 hz2 rfl (by omega) u8 k (flatS acc) rfl (owns_alloc HO1.out) ⟨w1.heap.size, 0, none⟩ 1 1 [.int .i64 t', .int .i64 (s.next t')] rfl rfl (World.news_of_block (cs := #[.int .i64 t', .int .i64 (s.next t')]) (t := 84) (fr := (0, 0)) (heap_alloc_new w1 _)) (by simp [Value.oneCell']) (by omega) h63 hby (by simp; omega) (w1.heap.size + 1) (by simp) ?_; intro g2 cap2 w2 hown2 hgrow hat hlt2)
          have hob := owns_block HO1.out
          have HG2 : Hid ((w.alloc (.cells #[.int .i64 0, .int .i64 0, .int .i64 0] 27)).grownBy w2 (some b)) := grown_row (grown_alloc HG1.out) hgrow (fun k e => by have := hob k e; simp; omega)
          have HS2 : Hid (StAt w2 b s) := StAt.rowGrown (HS1.out.grown (grown_alloc (grown_refl _ _))) hgrow (fun k e => by have := hob k e; omega)
          have HM2 : Hid (MachAt B w2 m p) := (HM.out.grown' (by omega) (grown_alloc (grown_refl w none))).grown hB (by simp; omega) HG2.out
          have HO2 : Hid (w2.ownsRow (w.heap.size + 1) 84 2 (.slice (some ⟨g2, 0, none⟩) (k + 1) cap2) (k + 1) (flatS (acc ++ [((t' : Int), s.next t')]))) := by
            unfold Hid; rw [flatS_snoc]; exact hown2
          clear v0 v1 v2 vf0 vf1 vf2 hob hgrow hat hown2 HS1 HM1 HO1 HG1 hnx
          refine (step_m HP.out HM2.out hB HS2.out HIn.out ht' HDn.out).mono ?_
          rintro e w3 ⟨r, rfl, hr, hS3, hg3⟩
          have HG3 : Hid ((w.alloc (.cells #[.int .i64 0, .int .i64 0, .int .i64 0] 27)).grownBy w3 (some b)) := grown_trans HG2.out hg3
          have HO3 : Hid (w3.ownsRow (w.heap.size + 1) 84 2 (.slice (some ⟨g2, 0, none⟩) (k + 1) cap2) (k + 1) (flatS (acc ++ [((t' : Int), s.next t')]))) := owns_grown HO2.out hg3 (fun k e => by cases e; omega)
          have HS3 : Hid (StAt w3 b (stepS p s t').2) := hS3
          have HI3 : Hid (Inv p (stepS p s t').2) := Inv.step HP.out HIn.out ht' HDn.out
          have HR : Hid (r = (stepS p s t').1) := hr
          clear hr hS3 hg3 HO2 HM2 HS2 HG2
          have hvb := new_block HG3.out hb
          obtain ⟨v0, v1, v2, vf⟩ := three_cells hvb
          have vf0 := vf 0
          have vf1 := vf 1
          have vf2 := vf 2
          clear vf hvb
          cases r
          · have HW : Hid (follow p sch 0 s0 [] = ⟨acc ++ [((t' : Int), s.next t')], 1, t', s.next t', (stepS p s t').2⟩) := by
              unfold Hid
              rw [HF.out, HD.out, follow_fail p t' _ _ s acc HK.out (by simpa using HR.out.symm)]; rfl
            go_wp2
            rw [HW.out]
            exact bodyPost_ret (v := .tuple #[.slice (some ⟨g2, 0, none⟩) (k + 1) cap2, .agg #[.int .i64 1, .int .i64 t', .int .i64 (s.next t')]]) (by simp [results, Tryz.results52, go_sem, v0, v1, v2]) rfl
              ⟨_, rfl, by
                have e : (acc ++ [((t' : Int), s.next t')]).length = k + 1 := by simp [hacc]
                simp only [e]
                exact owns_mono (ownsRow_setCell_below (ownsRow_setCell_below (ownsRow_setCell_below HO3.out (by simp) _) (by simp) _) (by simp) _) (by omega), ((HS3.out.setOther (by omega)).setOther (by omega)).setOther (by omega), grown_setNew (grown_setNew (grown_setNew (grown_old HG3.out) (by omega)) (by omega)) (by omega)⟩
          · have HW : Hid (follow p sch 0 s0 [] = follow p (sch.drop (k + 1)) ((k + 1 : Nat) : Int) (stepS p s t').2 (acc ++ [((t' : Int), s.next t')])) := by
              unfold Hid
              rw [HF.out, HD.out, follow_go p t' _ _ s acc HK.out (by simpa using HR.out.symm)]; rfl
            clear v0 v1 v2 vf0 vf1 vf2
            go_wp2
            go_roundw
            case rel => exact ⟨k + 1, (stepS p s t').2, acc ++ [((t' : Int), s.next t')], by omega, by go_num, by simp [hacc], HO3, HS3, HI3, HG3, HW⟩
            case measure => simp [intOf]; omega
    · have HW : Hid (follow p sch 0 s0 [] = ⟨acc, endingS p s, 0, 0, s⟩) := by
        unfold Hid
        rw [HF.out, List.drop_of_length_le (by omega)]; rfl
      go_wp2_with fail
      refine (ending_m HP.out HM'.out hB HSt.out HIn.out).mono ?_
      rintro e w1 ⟨rfl, hg1⟩
      have HG1 : Hid ((w.alloc (.cells #[.int .i64 0, .int .i64 0, .int .i64 0] 27)).grownBy w1 (some b)) := grown_trans HG.out (grown_none hg1)
      have HO1 : Hid (w1.ownsRow (w.heap.size + 1) 84 2 u8 k (flatS acc)) := owns_grown HO.out hg1 (fun _ e => by cases e)
      have HS1 : Hid (StAt w1 b s) := HSt.out.grown hg1
      clear v0 v1 v2 vf0 vf1 vf2 HV hg1
      have hvb := new_block HG1.out hb
      obtain ⟨v0, v1, v2, vf⟩ := three_cells hvb
      have vf0 := vf 0
      have vf1 := vf 1
      have vf2 := vf 2
      clear vf hvb
      go_wp2
      rw [HW.out]
      exact bodyPost_ret (v := .tuple #[u8, .agg #[.int .i64 (endingS p s), .int .i64 0, .int .i64 0]]) (by simp [results, Tryz.results52, go_sem, v0, v1, v2]) rfl
        ⟨u8, rfl, by rw [hacc]; exact owns_mono (ownsRow_setCell_below (ownsRow_setCell_below (ownsRow_setCell_below HO1.out (by simp) _) (by simp) _) (by simp) _) (by omega), ((HS1.out.setOther (by omega)).setOther (by omega)).setOther (by omega), grown_setNew (grown_setNew (grown_setNew (grown_old HG1.out) (by omega)) (by omega)) (by omega)⟩

end Go.Proofs.YtklenjmfalljgaaGreatDoor

/- The walk of Run. -/
namespace Go.Proofs.YtklenjmfalljgaaGreatDoor
open Go.RowKit
attribute [local go_sem] Go.World.cell?_alloc_some

theorem hide {p : Prop} (h : p) : Hid p := h
theorem unhide {p : Prop} (h : Hid p) : p := h

section
variable {P : Program}
/-- copy of elements of several cells, over the whole of a row. -/
theorem run_copy_wide (w : World) (dT sT ty elem : TypeId) (g dLen dCap : Nat) (a : Addr) (sLen sCap sz : Nat) (cur : Array Value) (t : TypeId) (cs : List Value)
    (hu : P.underlying dT = some (.slice elem)) (hs : (P.info? elem).map (·.size) = some sz)
    (hg : w.heap[g]? = some (.cells cur t (0, 0))) (hn : cs.length = Nat.min sLen dLen * sz)
    (hsrc : ∀ j v, cs[j]? = some v → w.cell? (a.add j) = some v) (hfit : cs.length = cur.size) (h1 : ∀ v ∈ cs, v.oneCell' = true) :
    (Builtin.copy_ #[dT, sT] ty #[.slice (some ⟨g, 0, none⟩) dLen dCap, .slice (some a) sLen sCap]).run P w =
      .ok (goInt (Nat.min sLen dLen)) (w.setRow g cs.toArray) := by
  have hl := run_loadCells_list (P := P) w a cs hsrc
  have hst := run_storeCells_at P g 0 t cs 0 cur w hg (by omega) h1
  have e : (cur.toList.take (0 + 0) ++ cs ++ cur.toList.drop (0 + 0 + cs.length)) = cs := by
    have : cur.toList.drop (0 + 0 + cs.length) = [] := List.drop_of_length_le (by simp; omega)
    rw [this]; simp
  rw [e] at hst
  cases hq : P.info? elem with
  | none => simp [hq] at hs
  | some i =>
    have hi : i.size = sz := by simpa [hq] using hs
    simp [Builtin.copy_, run_underlying hu, Builtin.lenOf, Builtin.firstCells, sizeOf, typeInfo, hq, hi, ← hn, hl, hst]

end

def regsF (n : Nat) (s : St) : List Value := (List.range n).flatMap fun t => [.int .i64 (s.regs t 0), .int .i64 (s.regs t 1), .int .i64 (s.regs t 2), .int .i64 (s.regs t 3)]

theorem regsF_len (n : Nat) (s : St) : (regsF n s).length = n * 4 := by
  induction n with
  | zero => rfl
  | succ n ih => unfold regsF at *; rw [List.range_succ, List.flatMap_append, List.length_append, ih]; simp; omega

theorem regsF_cells {w : World} {b : Nat} {s : St} (hs : StAt w b s) {n : Nat} (hn : n ≤ 4) : ∀ j v, (regsF n s)[j]? = some v → w.cell? ((⟨b, 10, none⟩ : Addr).add j) = some v := by
  intro j v hj
  have hadd : (⟨b, 10, none⟩ : Addr).add j = ⟨b, 10 + j, none⟩ := by unfold Addr.add; split <;> simp_all
  have hlt : j < n * 4 := by
    have := (List.getElem?_eq_some_iff.1 hj).1
    rw [regsF_len] at this; exact this
  rw [hadd, hs.cell]
  have hc : n = 0 ∨ n = 1 ∨ n = 2 ∨ n = 3 ∨ n = 4 := by omega
  have e : (regsF 4 s)[j]? = some v := by
    have h4 : ∃ l, regsF 4 s = regsF n s ++ l := by
      rcases hc with rfl | rfl | rfl | rfl | rfl
      · exact ⟨_, rfl⟩
      · exact ⟨_, rfl⟩
      · exact ⟨_, rfl⟩
      · exact ⟨_, rfl⟩
      · exact ⟨[], by simp⟩
    obtain ⟨l, e⟩ := h4
    rw [e, List.getElem?_append_left (by rw [regsF_len]; exact hlt)]
    exact hj
  have h16 : j < 16 := by omega
  have hd : s.cells[10 + j]? = (regsF 4 s)[j]? := by
    have : s.cells.toList.drop 10 = regsF 4 s ++ [.int .i64 (s.next 0), .int .i64 (s.next 1), .int .i64 (s.next 2), .int .i64 (s.next 3)] := rfl
    have h2 : (s.cells.toList.drop 10)[j]? = (regsF 4 s)[j]? := by
      rw [this, List.getElem?_append_left (by rw [regsF_len]; omega)]
    rw [← h2, List.getElem?_drop]
    simp
  rw [hd]; exact e

theorem regsF_one (n : Nat) (s : St) : ∀ v ∈ regsF n s, v.oneCell' = true := by
  intro v hv
  unfold regsF at hv
  simp only [List.mem_flatMap, List.mem_cons, List.not_mem_nil, or_false] at hv
  obtain ⟨t, _, h⟩ := hv
  rcases h with rfl | rfl | rfl | rfl <;> rfl

theorem owns_cells {w : World} {base : Nat} {e : TypeId} {size : Nat} {g n cap : Nat} {xs : List Value} (h : w.ownsRow base e size (.slice (some ⟨g, 0, none⟩) n cap) n xs) :
    ∃ cur, w.heap[g]? = some (.cells cur e (0, 0)) ∧ cur.size = cap * size := by
  rcases h.2 with ⟨e1, _⟩ | ⟨g', cap', cur, hv, hb, hh, _, _, hs, _⟩
  · cases e1
  · simp at hv
    obtain ⟨rfl, rfl⟩ := hv
    exact ⟨cur, hh, hs⟩

theorem nine_cells {w : World} {g : Nat} {x0 x1 x2 x3 x4 x5 x6 x7 x8 : Value} {t : TypeId} (h : w.heap[g]? = some (.cells #[x0, x1, x2, x3, x4, x5, x6, x7, x8] t (0, 0))) :
    w.cell? ⟨g, 0, none⟩ = some x0 ∧ w.cell? ⟨g, 1, none⟩ = some x1 ∧ w.cell? ⟨g, 2, none⟩ = some x2 ∧ w.cell? ⟨g, 3, none⟩ = some x3 ∧ w.cell? ⟨g, 4, none⟩ = some x4 ∧ w.cell? ⟨g, 5, none⟩ = some x5 ∧ w.cell? ⟨g, 6, none⟩ = some x6 ∧ w.cell? ⟨g, 7, none⟩ = some x7 ∧ w.cell? ⟨g, 8, none⟩ = some x8 ∧ (∀ o, w.frozen? ⟨g, o, none⟩ = false) := by
  simp [World.cell?, World.frozen?, h]
theorem heap_setRow_other (w : World) (g k : Nat) (cs : Array Value) (h : k ≠ g) : (w.setRow g cs).heap[k]? = w.heap[k]? := by
  simp only [World.setRow, Array.getElem?_modify]
  rw [if_neg (by omega)]

theorem owns_form {w : World} {base : Nat} {e : TypeId} {size : Nat} {v : Value} {n : Nat} {xs : List Value} (h : w.ownsRow base e size v n xs) : ∃ ao n c, v = .slice ao n c := by
  rcases h.2 with ⟨e1, _⟩ | ⟨g', cap', cur, hv, _⟩
  · exact ⟨_, _, _, e1⟩
  · exact ⟨_, _, _, hv⟩

/-- A result in memory. -/
def ResAt (base : Nat) (w : World) (o : Out) (n : Nat) (rv : Value) : Prop :=
  ∃ sv gv, rv = .agg #[.int .i64 o.kind, .int .i64 o.thread, .int .i64 o.at_, sv, .int .i64 (o.st.vars 0), .int .i64 (o.st.vars 1), .int .i64 (o.st.vars 2), .int .i64 (o.st.vars 3), gv] ∧
    w.ownsRow base 84 2 sv o.steps.length (flatS o.steps) ∧ w.ownsRow base 29 4 gv n (regsF n o.st)

theorem info_arr : ((Tryz.prog.info? 29).map fun i => (i.zero, i.size, i.bytes)) = some (some (.agg #[.int .i64 0, .int .i64 0, .int .i64 0, .int .i64 0]), 4, 32) := by kernel_rfl

set_option maxHeartbeats 4000000 in
set_option maxRecDepth 100000 in
theorem run_m {B m : Nat} {w : World} {p : List (List Ins)} {v : Value} {sch : List Int} (hp : vProg p = true) (hM : MachAt B w m p) (hB : B ≤ w.heap.size)
    (hv : IntsAt B w v sch) (h500 : sch.length ≤ 500) :
    Calls Tryz.prog 25 #[.pointer (some ⟨m, 0, none⟩), v] w fun e w' => ∃ rv, e = .returned rv ∧ ResAt w.heap.size w' (runS p sch) p.length rv ∧ w.grownBy w' none := by
  obtain ⟨i0, hi0, hz0, hz1, hz2⟩ := info_parts info_arr
  have hlen := vProg_len hp
  have HM : Hid (MachAt B w m p) := hM
  have HV : Hid (IntsAt B w v sch) := hv
  have HP : Hid (vProg p = true) := hp
  clear hM hv hp
  go_enter Tryz.func25, Tryz.ntmps25
  go_wp2_with fail
  generalize hR9 : Obj.cells #[Value.int IntKind.i64 0, Value.int IntKind.i64 0, Value.int IntKind.i64 0, Value.slice none 0 0, Value.int IntKind.i64 0, Value.int IntKind.i64 0, Value.int IntKind.i64 0, Value.int IntKind.i64 0, Value.slice none 0 0] 32 = R9
  have HR9 := hide hR9
  clear hR9
  have HZ : Hid (StAt ((w.alloc R9).alloc (.cells St.zero.cells 118)) (w.heap.size + 1) St.zero) := by
    unfold Hid StAt
    have := heap_alloc_new (w.alloc R9) (.cells St.zero.cells 118)
    simpa using this
  have HB : Hid (w.grownBy ((w.alloc R9).alloc (.cells St.zero.cells 118)) none) := grown_alloc (grown_alloc (grown_refl _ _))
  have HV' : Hid (IntsAt B ((w.alloc R9).alloc (.cells St.zero.cells 118)) v sch) := by
    obtain ⟨ao, cap, e, h1, h2⟩ := HV.out
    refine ⟨ao, cap, e, h1, fun k hk => ?_⟩
    obtain ⟨g, o, e1, e2, e3⟩ := h2 k hk
    exact ⟨g, o, e1, e2, by rw [HB.out.cell_far _ (by simp; omega) (by simp)]; exact e3⟩
  have HF := hide (follow_m HP.out (HM.out.grown' hB HB.out) (by omega : B ≤ w.heap.size + 1) HZ.out (Inv.zero p) HV'.out h500)
  refine (unhide HF).mono ?_
  rintro e w1 ⟨sv, rfl, ho, hs, hg⟩
  have HO : Hid (w1.ownsRow (w.heap.size + 2) 84 2 sv (runS p sch).steps.length (flatS (runS p sch).steps)) := by
    have e : ((w.alloc R9).alloc (.cells St.zero.cells 118)).heap.size = w.heap.size + 2 := by simp
    rw [e] at ho; exact ho
  have HS : Hid (StAt w1 (w.heap.size + 1) (runS p sch).st) := hs
  have HG : Hid (((w.alloc R9).alloc (.cells St.zero.cells 118)).grownBy w1 (some (w.heap.size + 1))) := hg
  have hsz : w.heap.size + 2 ≤ w1.heap.size := by have := hg.size; simpa using this
  have HG0 : Hid (w.grownBy w1 none) := by
    refine ⟨hg.os, hg.tape, hg.output, by omega, fun k hk _ => ?_⟩
    rw [hg.block k (by simp; omega) (by simp; omega)]
    exact HB.out.block k hk (by simp)
  obtain ⟨sao, sln, scp, rfl⟩ := owns_form ho
  have HMm : Hid (MachAt B w1 m p) := HM.out.grown' hB HG0.out
  clear ho hs hg HF
  generalize hO : runS p sch = o at *
  have hoe : follow p sch 0 St.zero [] = o := hO
  rw [hoe]
  clear hoe
  have HOe := hide hO
  clear hO
  obtain ⟨mg, mcap, hm1, hm2, hm3, hm4⟩ := HMm.out
  clear hm4
  have hn4 : (p.length : Int) ≤ 4 := by omega
  have HSa : Hid (StAt (w1.alloc (.cells #[.int .i64 o.kind, .int .i64 o.thread, .int .i64 o.at_] 27)) (w.heap.size + 1) o.st) := HS.out.grown (grown_alloc (grown_refl _ _))
  go_wp2_with (at_make; refine wpList_make_full _ rfl _ _ _ rfl (w.heap.size + 2) 29 i0 _ 4 Tryz.underlying30 hi0 hz0 hz1 .i64 .i64 _ _ p.length rfl rfl rfl rfl (by rw [hz2]; omega) (by unfold maxLen; omega) (by simp; omega) ?_; intro w2 hown2 hg2; simp only [World.size_alloc] at hown2; obtain ⟨cur, hcur, hcsz⟩ := owns_cells hown2)
  rw [run_copy_wide w2 30 30 3 29 (w1.heap.size + 1) p.length p.length ⟨w.heap.size + 1, 10, none⟩ 4 4 4 cur 29 (regsF p.length o.st) Tryz.underlying30 (by rw [hi0]; simp [hz1]) hcur (by rw [regsF_len]; show p.length * 4 = min 4 p.length * 4; omega) (regsF_cells (HSa.out.grown hg2) (by omega)) (by rw [regsF_len, hcsz]) (regsF_one _ _)]
  have HGc : Hid ((w1.alloc (.cells #[.int .i64 o.kind, .int .i64 o.thread, .int .i64 o.at_] 27)).grownBy w2 none) := hg2
  have HCu : Hid (w2.heap[w1.heap.size + 1]? = some (.cells cur 29 (0, 0))) := hcur
  clear hg2 hown2 hcur
  generalize hw3 : w2.setRow (w1.heap.size + 1) (regsF p.length o.st).toArray = w3
  have HW3 := hide hw3
  clear hw3
  have hb3 : ∀ k, k < w1.heap.size + 1 → w3.heap[k]? = (w1.alloc (.cells #[.int .i64 o.kind, .int .i64 o.thread, .int .i64 o.at_] 27)).heap[k]? := fun k hk => by
    rw [← HW3.out, heap_setRow_other _ _ _ _ (by omega), HGc.out.block k (by simp; omega) (by simp)]
  have HB3 := hide hb3
  have hvb : w3.heap[w1.heap.size]? = some (.cells #[.int .i64 o.kind, .int .i64 o.thread, .int .i64 o.at_] 27 (0, 0)) := by rw [hb3 _ (by omega)]; exact heap_alloc_new w1 _
  have hst : StAt w3 (w.heap.size + 1) o.st := by
    unfold StAt; rw [hb3 _ (by omega)]; exact HSa.out
  have hrb : w3.heap[w.heap.size]? = some R9 := by
    rw [hb3 _ (by omega), Below.heap_alloc _ _ _ (by omega), HG.out.block _ (by simp; omega) (by simp)]
    rw [Below.heap_alloc _ _ _ (by simp)]
    exact heap_alloc_new w R9
  obtain ⟨q0, q1, q2, _⟩ := three_cells hvb
  have s0 := hst.var (v := 0) (by omega)
  have s1 := hst.var (v := 1) (by omega)
  have s2 := hst.var (v := 2) (by omega)
  have s3 := hst.var (v := 3) (by omega)
  have HST := hide hst
  rw [← HR9.out] at hrb
  obtain ⟨r0, r1, r2, r3, r4, r5, r6, r7, r8, rf⟩ := nine_cells hrb
  have f0 := rf 0
  have f1 := rf 1
  have f2 := rf 2
  have f3 := rf 3
  have f4 := rf 4
  have f5 := rf 5
  have f6 := rf 6
  have f7 := rf 7
  have f8 := rf 8
  have HG3 : Hid (w1.grownBy w3 none) := by
    refine ⟨?_, ?_, ?_, ?_, fun k hk _ => by rw [hb3 k (by omega), Below.heap_alloc _ _ _ hk]⟩
    · rw [← HW3.out]; exact HGc.out.os
    · rw [← HW3.out]; exact HGc.out.tape
    · rw [← HW3.out]; exact HGc.out.output
    · rw [← HW3.out]; have := HGc.out.size; simp at this ⊢; omega
  have HO3 : Hid (w3.ownsRow (w.heap.size + 2) 29 4 (.slice (some ⟨w1.heap.size + 1, 0, none⟩) p.length p.length) p.length (regsF p.length o.st)) := by
    refine ⟨regsF_len _ _, Or.inr ⟨w1.heap.size + 1, p.length, (regsF p.length o.st).toArray, rfl, by omega, ?_, Nat.le_refl _, by unfold maxLen; omega, by simp [regsF_len], ?_⟩⟩
    · rw [← HW3.out]; exact setRow_heap _ _ _ _ _ _ HCu.out
    · rw [List.take_of_length_le (by simp [regsF_len])]
  clear rf hrb hvb hst hb3 hm3
  go_wp2
  rw [HOe.out]
  refine bodyPost_ret (v := .agg #[.int .i64 o.kind, .int .i64 o.thread, .int .i64 o.at_, .slice sao sln scp, .int .i64 (o.st.vars 0), .int .i64 (o.st.vars 1), .int .i64 (o.st.vars 2), .int .i64 (o.st.vars 3), .slice (some ⟨w1.heap.size + 1, 0, none⟩) p.length p.length]) ?_ rfl ⟨_, rfl, ⟨_, _, rfl, ?_, ?_⟩, ?_⟩
  · simp [results, Tryz.results25, go_sem, r0, r1, r2, r3, r4, r5, r6, r7, r8]
  · refine owns_mono (base := w.heap.size + 2) ?_ (by omega)
    iterate 9 refine ownsRow_setCell_below ?_ (by simp) _
    exact owns_grown HO.out HG3.out (fun _ e => by cases e)
  · refine owns_mono (base := w.heap.size + 2) ?_ (by omega)
    iterate 9 refine ownsRow_setCell_below ?_ (by simp) _
    exact HO3.out
  · iterate 9 refine grown_setNew ?_ (by omega)
    exact grown_trans HG0.out HG3.out

end Go.Proofs.YtklenjmfalljgaaGreatDoor
