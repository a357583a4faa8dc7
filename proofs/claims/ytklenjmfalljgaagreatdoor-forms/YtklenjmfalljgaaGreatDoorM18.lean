/- The texts Nil. -/
import Derived.Test.YtklenjmfalljgaaGreatDoorM02

/- Lists that are nil have no room. -/
namespace Go.Proofs.YtklenjmfalljgaaGreatDoor

/-- A nil list has no room. -/
def nilA (x : Value) : Prop := ∀ n c, x = .slice none n c → n = 0 ∧ c = 0
/-- A nil list of a program has no room. -/
def ProgNil (W : World) (pv : Value) : Prop := ∀ g o n cap t rv, pv = .agg #[.slice (some ⟨g, o, none⟩) n cap] → t < n → W.cell? ⟨g, o + t, none⟩ = some rv → nilA rv

end Go.Proofs.YtklenjmfalljgaaGreatDoor
