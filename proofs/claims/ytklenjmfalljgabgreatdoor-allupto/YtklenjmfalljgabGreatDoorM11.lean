/- The texts Tla. -/
import Derived.Control
namespace Go.Proofs.YtklenjmfalljgabGreatDoor
set_option maxRecDepth 100000
set_option maxHeartbeats 8000000
section
def atR(n:Nat):Code->Bool
 | .region k _ _=>Nat.beq k n
 | .seq a _=>atR n a
 | .block _ c=>atR n c
 | .scope c=>atR n c
 | .loop c=>atR n c
 | _=>false
def tailAt(n:Nat):Code->Option Code
 | .seq a b=>match atR n a with
  | true=>some (.seq a b)
  | false=>match tailAt n a with
   | some c=>some c
   | none=>tailAt n b
 | .block _ c=>tailAt n c
 | .scope c=>tailAt n c
 | .loop c=>tailAt n c
 | .cond _ a b=>match tailAt n a with
  | some c=>some c
  | none=>tailAt n b
 | _=>none
def tailOf(f:Func)(n:Nat):Code:=match f.body with
 | some c=>(tailAt n c).getD .skip
 | none=> .skip
end
end Go.Proofs.YtklenjmfalljgabGreatDoor
