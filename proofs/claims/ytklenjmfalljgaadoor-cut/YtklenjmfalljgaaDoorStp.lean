/- The walk of step. -/
import Derived.Test.YtklenjmfalljgaaDoorRdy
namespace Go.Proofs.YtklenjmfalljgaaDoor
open Go.RowKit
attribute [local go_sem] Go.World.cell?_alloc_some

set_option maxHeartbeats 400000 in
theorem step_raw (m g cap b t n h k : Nat) (len c : Nat) (kf : Nat) (caps : Array Value) (w : World) (R : Bool → World → Prop) (ht : t < n) (ht4 : t < 4) (hk : k < len) (hk16 : k < 16)
    (hmb : m ≠ b) (hgb : g ≠ b) (hhb : h ≠ b)
    (hm : w.cell? ⟨m, 0, none⟩ = some (.slice (some ⟨g, 0, none⟩) n cap)) (hr : w.cell? ⟨g, t, none⟩ = some (.slice (some ⟨h, 0, none⟩) len c)) (hx : w.cell? ⟨b, 26 + t, none⟩ = some (.int .i64 k)) (hxf : w.frozen? ⟨b, 26 + t, none⟩ = false)
    (hc0 : w.cell? ⟨h, k * 3, none⟩ = some (.func (.func kf) #[] caps))
    (hent : ∀ args w, (callFunc kf args).run Tryd.prog w = .ok (.enter kf args) w)
    (hcall : Calls Tryd.prog kf (#[.pointer (some ⟨b, 0, none⟩)] ++ caps) (w.setCell ⟨b, 26 + t, none⟩ (.int .i64 ((k : Int) + 1))) fun e w' => ∃ r, e = .returned (.bool r) ∧ R r w') :
    Calls Tryd.prog 107 #[.pointer (some ⟨m, 0, none⟩), .pointer (some ⟨b, 0, none⟩), .int .i64 t] w
      fun e w' => ∃ r, e = .returned (.bool r) ∧ R r w' := by
  have h1 : (0 : Int) ≤ (t : Int) := by omega
  have h2 : (t : Int) < 4 := by omega
  have h3 : (t : Int) < n := by omega
  have h4 : (0 : Int) ≤ (k : Int) := by omega
  have h5 : (k : Int) < len := by omega
  have h6 : (k : Int) < 16 := by omega
  have HC : Hid (Calls Tryd.prog kf (#[.pointer (some ⟨b, 0, none⟩)] ++ caps) (w.setCell ⟨b, 26 + t, none⟩ (.int .i64 ((k : Int) + 1))) fun e w' => ∃ r, e = .returned (.bool r) ∧ R r w') := hcall
  clear hcall
  have s1 : (w.setCell ⟨b, 26 + t, none⟩ (.int .i64 ((k : Int) + 1))).cell? ⟨m, 0, none⟩ = some (.slice (some ⟨g, 0, none⟩) n cap) := by rw [World.cell?_setCell_far _ _ _ _ (by simpa using Ne.symm hmb)]; exact hm
  have s2 : (w.setCell ⟨b, 26 + t, none⟩ (.int .i64 ((k : Int) + 1))).cell? ⟨g, t, none⟩ = some (.slice (some ⟨h, 0, none⟩) len c) := by rw [World.cell?_setCell_far _ _ _ _ (by simpa using Ne.symm hgb)]; exact hr
  have s3 : (w.setCell ⟨b, 26 + t, none⟩ (.int .i64 ((k : Int) + 1))).cell? ⟨h, k * 3, none⟩ = some (.func (.func kf) #[] caps) := by rw [World.cell?_setCell_far _ _ _ _ (by simpa using Ne.symm hhb)]; exact hc0
  go_enter Tryd.func107, Tryd.ntmps107
  go_wp2_with fail
  go_show
  refine HC.out.mono ?_
  rintro e w' ⟨r, rfl, hR⟩
  go_wp2
  go_ret
  exact ⟨r, rfl, hR⟩

end Go.Proofs.YtklenjmfalljgaaDoor
