/- Walks of done, ready and step, said of cells. -/
import Derived.Test.YtklenjmfalljgaaDoorAct
import Derived.Deep.DeepMust
import Derived.Deep.RegionHeld3
import Derived.Laws.EntriesVeiled
namespace Go.Proofs.YtklenjmfalljgaaDoor
open Go.RowKit
attribute [local go_sem] Go.World.cell?_alloc_some

theorem grown_of_like {w w' : World} {r : Option Nat} (h : w'.heap = w.heap ∧ w'.os = w.os ∧ w'.output = w.output ∧ w'.tape = w.tape) : w.grownBy w' r := grown_like (grown_refl w r) h
theorem grown_alloc {w w' : World} {r : Option Nat} {o : Obj} (h : w.grownBy w' r) : w.grownBy (w'.alloc o) r :=
  grown_trans h ⟨rfl, rfl, rfl, by simp, fun k hk _ => Below.heap_alloc _ _ _ hk⟩
theorem grown_drew {w w' : World} {r : Option Nat} (h : w.grownBy w' r) : w.grownBy w'.drew r := grown_like h ⟨rfl, rfl, rfl, rfl⟩
theorem like_drewN (w : World) : ∀ n, Like (w.drewN n) w
  | 0 => ⟨rfl, rfl, rfl, rfl⟩
  | n + 1 => like_drewN w n
theorem grown_drewN {w w' : World} {r : Option Nat} (n : Nat) (h : w.grownBy w' r) : w.grownBy (w'.drewN n) r := grown_like h (like_drewN w' n)

set_option maxHeartbeats 400000 in
theorem done_raw (m g cap b t n : Nat) (ao : Option Addr) (len c : Nat) (x : Int) (w : World) (ht : t < n) (ht4 : t < 4)
    (hm : w.cell? ⟨m, 0, none⟩ = some (.slice (some ⟨g, 0, none⟩) n cap)) (hr : w.cell? ⟨g, t, none⟩ = some (.slice ao len c)) (hx : w.cell? ⟨b, 26 + t, none⟩ = some (.int .i64 x)) :
    Calls Tryd.prog 156 #[.pointer (some ⟨m, 0, none⟩), .pointer (some ⟨b, 0, none⟩), .int .i64 t] w
      fun e w' => e = .returned (.bool (x == (len : Int))) ∧ Like w' w := by
  have h1 : (0 : Int) ≤ (t : Int) := by omega
  have h2 : (t : Int) < 4 := by omega
  have h3 : (t : Int) < n := by omega
  go_enter Tryd.func156, Tryd.ntmps156
  go_wp2
  go_region
  all_goals (go_wp2; go_ret; exact ⟨rfl, rfl, rfl, rfl, rfl⟩)

set_option maxHeartbeats 400000 in
theorem ready_raw_done (m g cap b t n : Nat) (ao : Option Addr) (len c : Nat) (w : World) (ht : t < n) (ht4 : t < 4)
    (hm : w.cell? ⟨m, 0, none⟩ = some (.slice (some ⟨g, 0, none⟩) n cap)) (hr : w.cell? ⟨g, t, none⟩ = some (.slice ao len c)) (hx : w.cell? ⟨b, 26 + t, none⟩ = some (.int .i64 len)) :
    Calls Tryd.prog 106 #[.pointer (some ⟨m, 0, none⟩), .pointer (some ⟨b, 0, none⟩), .int .i64 t] w
      fun e w' => e = .returned (.bool false) ∧ Like w' w := by
  go_enter Tryd.func106, Tryd.ntmps106
  go_wp2_with fail
  refine (done_raw m g cap b t n ao len c len w ht ht4 hm hr hx).mono ?_
  rintro e w' ⟨rfl, hl⟩
  simp only [beq_self_eq_true]
  go_wp2
  go_ret
  exact ⟨rfl, hl⟩

set_option maxHeartbeats 1000000 in
theorem ready_raw_free (m g cap b t n h k : Nat) (len c : Nat) (kf : Nat) (caps : Array Value) (l : Int) (w : World) (ht : t < n) (ht4 : t < 4) (hk : k < len)
    (hm : w.cell? ⟨m, 0, none⟩ = some (.slice (some ⟨g, 0, none⟩) n cap)) (hr : w.cell? ⟨g, t, none⟩ = some (.slice (some ⟨h, 0, none⟩) len c)) (hx : w.cell? ⟨b, 26 + t, none⟩ = some (.int .i64 k))
    (hc0 : w.cell? ⟨h, k * 3, none⟩ = some (.func (.func kf) #[] caps)) (hc1 : w.cell? ⟨h, k * 3 + 1, none⟩ = some (.bool false)) (hc2 : w.cell? ⟨h, k * 3 + 2, none⟩ = some (.int .i64 l)) :
    Calls Tryd.prog 106 #[.pointer (some ⟨m, 0, none⟩), .pointer (some ⟨b, 0, none⟩), .int .i64 t] w
      fun e w' => e = .returned (.bool true) ∧ w.grownBy w' none := by
  have h1 : (0 : Int) ≤ (t : Int) := by omega
  have h2 : (t : Int) < 4 := by omega
  have h3 : (t : Int) < n := by omega
  have h4 : (0 : Int) ≤ (k : Int) := by omega
  have h5 : (k : Int) < len := by omega
  have hne : ((k : Int) == (len : Int)) = false := by simp; omega
  go_enter Tryd.func106, Tryd.ntmps106
  go_wp2_with fail
  refine (done_raw m g cap b t n _ len c k w ht ht4 hm hr hx).mono ?_
  rintro e w' ⟨rfl, hl⟩
  rw [hne]
  obtain ⟨q1, q2, q3, q4⟩ := hl
  have c1 : ∀ a, w'.cell? a = w.cell? a := fun a => by simp [World.cell?, q1]
  have Q1 : Hid (w'.heap = w.heap ∧ w'.os = w.os ∧ w'.output = w.output ∧ w'.tape = w.tape) := ⟨q1, q2, q3, q4⟩
  have hm' : w'.cell? ⟨m, 0, none⟩ = some (.slice (some ⟨g, 0, none⟩) n cap) := by rw [c1]; exact hm
  have hr' : w'.cell? ⟨g, t, none⟩ = some (.slice (some ⟨h, 0, none⟩) len c) := by rw [c1]; exact hr
  have hx' : w'.cell? ⟨b, 26 + t, none⟩ = some (.int .i64 k) := by rw [c1]; exact hx
  have d0 : w'.cell? ⟨h, k * 3, none⟩ = some (.func (.func kf) #[] caps) := by rw [c1]; exact hc0
  have d1 : w'.cell? ⟨h, k * 3 + 1, none⟩ = some (.bool false) := by rw [c1]; exact hc1
  have d2 : w'.cell? ⟨h, k * 3 + 2, none⟩ = some (.int .i64 l) := by rw [c1]; exact hc2
  clear q1 q2 q3 q4 c1 hm hr hx hc0 hc1 hc2
  have n1 := World.new_ne w' _ hm'
  have n2 := World.new_ne w' _ hr'
  have n3 := World.new_ne w' _ hx'
  have n4 := World.new_ne w' _ d0
  simp only at n1 n2 n3 n4
  have m1 := Ne.symm n1
  have m2 := Ne.symm n2
  have m3 := Ne.symm n3
  have m4 := Ne.symm n4
  go_wp2
  go_region
  go_wp2
  go_quiet (fail)
  go_wp2
  go_ret
  exact ⟨rfl, grown_drewN _ (grown_drew (grown_alloc (grown_of_like Q1.out)))⟩

set_option maxHeartbeats 1000000 in
theorem ready_raw_lock (m g cap b t n h k : Nat) (len c : Nat) (kf : Nat) (caps : Array Value) (l : Nat) (hd : Bool) (hl3 : l < 3) (w : World) (ht : t < n) (ht4 : t < 4) (hk : k < len)
    (hm : w.cell? ⟨m, 0, none⟩ = some (.slice (some ⟨g, 0, none⟩) n cap)) (hr : w.cell? ⟨g, t, none⟩ = some (.slice (some ⟨h, 0, none⟩) len c)) (hx : w.cell? ⟨b, 26 + t, none⟩ = some (.int .i64 k))
    (hc0 : w.cell? ⟨h, k * 3, none⟩ = some (.func (.func kf) #[] caps)) (hc1 : w.cell? ⟨h, k * 3 + 1, none⟩ = some (.bool true)) (hc2 : w.cell? ⟨h, k * 3 + 2, none⟩ = some (.int .i64 l)) (hh : w.cell? ⟨b, 4 + l * 2, none⟩ = some (.bool hd)) :
    Calls Tryd.prog 106 #[.pointer (some ⟨m, 0, none⟩), .pointer (some ⟨b, 0, none⟩), .int .i64 t] w
      fun e w' => e = .returned (.bool (!hd)) ∧ w.grownBy w' none := by
  have h1 : (0 : Int) ≤ (t : Int) := by omega
  have h2 : (t : Int) < 4 := by omega
  have h3 : (t : Int) < n := by omega
  have h4 : (0 : Int) ≤ (k : Int) := by omega
  have h5 : (k : Int) < len := by omega
  have hne : ((k : Int) == (len : Int)) = false := by simp; omega
  go_enter Tryd.func106, Tryd.ntmps106
  go_wp2_with fail
  refine (done_raw m g cap b t n _ len c k w ht ht4 hm hr hx).mono ?_
  rintro e w' ⟨rfl, hl⟩
  rw [hne]
  obtain ⟨q1, q2, q3, q4⟩ := hl
  have c1 : ∀ a, w'.cell? a = w.cell? a := fun a => by simp [World.cell?, q1]
  have Q1 : Hid (w'.heap = w.heap ∧ w'.os = w.os ∧ w'.output = w.output ∧ w'.tape = w.tape) := ⟨q1, q2, q3, q4⟩
  have hm' : w'.cell? ⟨m, 0, none⟩ = some (.slice (some ⟨g, 0, none⟩) n cap) := by rw [c1]; exact hm
  have hr' : w'.cell? ⟨g, t, none⟩ = some (.slice (some ⟨h, 0, none⟩) len c) := by rw [c1]; exact hr
  have hx' : w'.cell? ⟨b, 26 + t, none⟩ = some (.int .i64 k) := by rw [c1]; exact hx
  have d0 : w'.cell? ⟨h, k * 3, none⟩ = some (.func (.func kf) #[] caps) := by rw [c1]; exact hc0
  have d1 : w'.cell? ⟨h, k * 3 + 1, none⟩ = some (.bool true) := by rw [c1]; exact hc1
  have d2 : w'.cell? ⟨h, k * 3 + 2, none⟩ = some (.int .i64 l) := by rw [c1]; exact hc2
  have d3 : w'.cell? ⟨b, 4 + l * 2, none⟩ = some (.bool hd) := by rw [c1]; exact hh
  have h6 : (0 : Int) ≤ (l : Int) := by omega
  have h7 : (l : Int) < 3 := by omega
  clear q1 q2 q3 q4 c1 hm hr hx hc0 hc1 hc2 hh
  have n1 := World.new_ne w' _ hm'
  have n2 := World.new_ne w' _ hr'
  have n3 := World.new_ne w' _ hx'
  have n4 := World.new_ne w' _ d0
  simp only at n1 n2 n3 n4
  have m1 := Ne.symm n1
  have m2 := Ne.symm n2
  have m3 := Ne.symm n3
  have m4 := Ne.symm n4
  go_wp2
  go_region
  go_wp2
  go_quiet (fail)
  go_wp2
  go_ret
  exact ⟨rfl, grown_drewN _ (grown_drew (grown_alloc (grown_of_like Q1.out)))⟩

end Go.Proofs.YtklenjmfalljgaaDoor
