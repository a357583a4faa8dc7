/-
  DERIVED. GIVEN WITH THE SEED: THE CARDS: each row of YtklenjmfalljgaaDoorRows.lean that lists a variable, with what it lists TIED to the program's text (the seventh form; the later family's looks); each row that meets fmt, with fmt's text TOLD by the authors' own Lean function (tested against real Go, not proved from fmt's source: count such statements apart). THE CARD IS WHAT COUNTS. Prove the row's statement (the work); the ties are given (YtklenjmfalljgaaDoorTie.lean); close each card by the builder's one call (the guide's Derived/Test/ToyasCard.lean, 'card_holds'). Laid BY PROGRAM, IN A SANDBOX (cutbox-door.mjs). By AI agents, Wed Nov 11 2026. No macro, syntax, notation, axiom, sorry.
-/
import Derived.Test.YtklenjmfalljgaaDoorRows
import GoSem.ClaimSeven
namespace Go.Proofs.YtklenjmfalljgaaDoor
namespace Rows

/-- THE TIED CARD OF 'rerunkeep.Locked'. -/
def lockedCard : Claim7 := { stood := { row := lockedRow, standIns := [], harness := (true, "6ce77d08c5af3d2fd203c43701ec058fdf043fb4287fab3b7ad7363a6f8e9634"), looks := true }, kinds := [], alts := [], laidByText := true, laidKinds := [.data], laidTests := true, laidLooks := .later }
def LockedCardSaid : Prop := Claim7.holds Tryd.pinned (.plain (OpenSpec.ofChange lockedSpec)) lockedCard

/-- THE TIED CARD OF 'rerunkeep.Renamed'. -/
def renamedCard : Claim7 := { stood := { row := renamedRow, standIns := [], harness := (true, "6ce77d08c5af3d2fd203c43701ec058fdf043fb4287fab3b7ad7363a6f8e9634"), looks := true }, kinds := [], alts := [], laidByText := true, laidKinds := [.data], laidTests := true, laidLooks := .later }
def RenamedCardSaid : Prop := Claim7.holds Tryd.pinned (.plain (OpenSpec.ofChange renamedSpec)) renamedCard

/-- THE TIED CARD OF 'rerunkeep.Cut'. -/
def cutCard : Claim7 := { stood := { row := cutRow, standIns := [], harness := (true, "6ce77d08c5af3d2fd203c43701ec058fdf043fb4287fab3b7ad7363a6f8e9634"), looks := true }, kinds := [], alts := [], laidByText := true, laidKinds := [.data], laidTests := true, laidLooks := .later }
def CutCardSaid : Prop := Claim7.holds Tryd.pinned (.plain (OpenSpec.ofChange cutSpec)) cutCard

/-- THE TIED CARD OF 'rerunlaw.Writes'. -/
def writesCard : Claim7 := { stood := { row := writesRow, standIns := [], harness := (true, "6ce77d08c5af3d2fd203c43701ec058fdf043fb4287fab3b7ad7363a6f8e9634"), looks := true }, kinds := [], alts := [], laidByText := true, laidKinds := [.data], laidTests := true, laidLooks := .later }
def WritesCardSaid : Prop := Claim7.holds Tryd.pinned (.plain (OpenSpec.ofChange writesSpec)) writesCard

/-- THE TIED CARD OF 'rerunlaw.Texts'. -/
def textsCard : Claim7 := { stood := { row := textsRow, standIns := [], harness := (true, "6ce77d08c5af3d2fd203c43701ec058fdf043fb4287fab3b7ad7363a6f8e9634"), looks := true }, kinds := [], alts := [], laidByText := true, laidKinds := [.data, .data, .data], laidTests := true, laidLooks := .later }
def TextsCardSaid : Prop := Claim7.holds Tryd.pinned (.plain (OpenSpec.ofChange textsSpec)) textsCard

/-- THE TIED CARD OF 'rerunlaw.Shortens'. -/
def shortensCard : Claim7 := { stood := { row := shortensRow, standIns := [], harness := (true, "6ce77d08c5af3d2fd203c43701ec058fdf043fb4287fab3b7ad7363a6f8e9634"), looks := true }, kinds := [], alts := [], laidByText := true, laidKinds := [.data], laidTests := true, laidLooks := .later }
def ShortensCardSaid : Prop := Claim7.holds Tryd.pinned (.plain (OpenSpec.ofChange shortensSpec)) shortensCard

/-- THE TIED CARD OF 'rerunkeep.Formed'. -/
def formedCard : Claim7 := { stood := { row := formedRow, standIns := [], harness := (true, "6ce77d08c5af3d2fd203c43701ec058fdf043fb4287fab3b7ad7363a6f8e9634"), looks := true }, kinds := [], alts := [], laidByText := true, laidKinds := [.data], laidTests := true, laidLooks := .later }
def FormedCardSaid : Prop := Claim7.holds Tryd.pinned (.plain (OpenSpec.ofChange formedSpec)) formedCard

/-- THE TIED CARD OF 'rerunkeep.Commuted'. -/
def commutedCard : Claim7 := { stood := { row := commutedRow, standIns := [], harness := (true, "6ce77d08c5af3d2fd203c43701ec058fdf043fb4287fab3b7ad7363a6f8e9634"), looks := true }, kinds := [], alts := [], laidByText := true, laidKinds := [.data], laidTests := true, laidLooks := .later }
def CommutedCardSaid : Prop := Claim7.holds Tryd.pinned (.plain (OpenSpec.ofChange commutedSpec)) commutedCard

/-- THE TIED CARD OF 'rerunkeep.Enough'. -/
def enoughCard : Claim7 := { stood := { row := enoughRow, standIns := [], harness := (true, "6ce77d08c5af3d2fd203c43701ec058fdf043fb4287fab3b7ad7363a6f8e9634"), looks := true }, kinds := [], alts := [], laidByText := true, laidKinds := [.data], laidTests := true, laidLooks := .later }
def EnoughCardSaid : Prop := Claim7.holds Tryd.pinned (.plain (OpenSpec.ofChange enoughSpec)) enoughCard

/-- THE SECOND FORM's CARD OF 'rerunkeep.Locked'. -/
def lockedUptoCard : Claim7 := { stood := { row := lockedUptoRow, standIns := [], harness := (true, "6ce77d08c5af3d2fd203c43701ec058fdf043fb4287fab3b7ad7363a6f8e9634"), looks := true }, kinds := [], alts := [], laidByText := true, laidKinds := [.data], laidTests := true, laidLooks := .later }
def LockedUptoCardSaid : Prop := Claim7.holds Tryd.pinned (.plain (OpenSpec.upto lockedSpec)) lockedUptoCard

/-- THE SECOND FORM's CARD OF 'rerunkeep.Renamed'. -/
def renamedUptoCard : Claim7 := { stood := { row := renamedUptoRow, standIns := [], harness := (true, "6ce77d08c5af3d2fd203c43701ec058fdf043fb4287fab3b7ad7363a6f8e9634"), looks := true }, kinds := [], alts := [], laidByText := true, laidKinds := [.data], laidTests := true, laidLooks := .later }
def RenamedUptoCardSaid : Prop := Claim7.holds Tryd.pinned (.plain (OpenSpec.upto renamedSpec)) renamedUptoCard

/-- THE SECOND FORM's CARD OF 'rerunkeep.Cut'. -/
def cutUptoCard : Claim7 := { stood := { row := cutUptoRow, standIns := [], harness := (true, "6ce77d08c5af3d2fd203c43701ec058fdf043fb4287fab3b7ad7363a6f8e9634"), looks := true }, kinds := [], alts := [], laidByText := true, laidKinds := [.data], laidTests := true, laidLooks := .later }
def CutUptoCardSaid : Prop := Claim7.holds Tryd.pinned (.plain (OpenSpec.upto cutSpec)) cutUptoCard

/-- THE SECOND FORM's CARD OF 'rerunlaw.Writes'. -/
def writesUptoCard : Claim7 := { stood := { row := writesUptoRow, standIns := [], harness := (true, "6ce77d08c5af3d2fd203c43701ec058fdf043fb4287fab3b7ad7363a6f8e9634"), looks := true }, kinds := [], alts := [], laidByText := true, laidKinds := [.data], laidTests := true, laidLooks := .later }
def WritesUptoCardSaid : Prop := Claim7.holds Tryd.pinned (.plain (OpenSpec.upto writesSpec)) writesUptoCard

/-- THE SECOND FORM's CARD OF 'rerunlaw.Texts'. -/
def textsUptoCard : Claim7 := { stood := { row := textsUptoRow, standIns := [], harness := (true, "6ce77d08c5af3d2fd203c43701ec058fdf043fb4287fab3b7ad7363a6f8e9634"), looks := true }, kinds := [], alts := [], laidByText := true, laidKinds := [.data, .data, .data], laidTests := true, laidLooks := .later }
def TextsUptoCardSaid : Prop := Claim7.holds Tryd.pinned (.plain (OpenSpec.upto textsSpec)) textsUptoCard

/-- THE SECOND FORM's CARD OF 'rerunlaw.Shortens'. -/
def shortensUptoCard : Claim7 := { stood := { row := shortensUptoRow, standIns := [], harness := (true, "6ce77d08c5af3d2fd203c43701ec058fdf043fb4287fab3b7ad7363a6f8e9634"), looks := true }, kinds := [], alts := [], laidByText := true, laidKinds := [.data], laidTests := true, laidLooks := .later }
def ShortensUptoCardSaid : Prop := Claim7.holds Tryd.pinned (.plain (OpenSpec.upto shortensSpec)) shortensUptoCard

/-- THE SECOND FORM's CARD OF 'rerunkeep.Formed'. -/
def formedUptoCard : Claim7 := { stood := { row := formedUptoRow, standIns := [], harness := (true, "6ce77d08c5af3d2fd203c43701ec058fdf043fb4287fab3b7ad7363a6f8e9634"), looks := true }, kinds := [], alts := [], laidByText := true, laidKinds := [.data], laidTests := true, laidLooks := .later }
def FormedUptoCardSaid : Prop := Claim7.holds Tryd.pinned (.plain (OpenSpec.upto formedSpec)) formedUptoCard

/-- THE SECOND FORM's CARD OF 'rerunkeep.Commuted'. -/
def commutedUptoCard : Claim7 := { stood := { row := commutedUptoRow, standIns := [], harness := (true, "6ce77d08c5af3d2fd203c43701ec058fdf043fb4287fab3b7ad7363a6f8e9634"), looks := true }, kinds := [], alts := [], laidByText := true, laidKinds := [.data], laidTests := true, laidLooks := .later }
def CommutedUptoCardSaid : Prop := Claim7.holds Tryd.pinned (.plain (OpenSpec.upto commutedSpec)) commutedUptoCard

/-- THE SECOND FORM's CARD OF 'rerunkeep.Enough'. -/
def enoughUptoCard : Claim7 := { stood := { row := enoughUptoRow, standIns := [], harness := (true, "6ce77d08c5af3d2fd203c43701ec058fdf043fb4287fab3b7ad7363a6f8e9634"), looks := true }, kinds := [], alts := [], laidByText := true, laidKinds := [.data], laidTests := true, laidLooks := .later }
def EnoughUptoCardSaid : Prop := Claim7.holds Tryd.pinned (.plain (OpenSpec.upto enoughSpec)) enoughUptoCard
end Rows
end Go.Proofs.YtklenjmfalljgaaDoor
