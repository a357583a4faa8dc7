/-
  DERIVED. GIVEN WITH THE SEED: THE CARDS: each row of YtklenjmfalljgaaGreatDoorRows.lean that lists a variable, with what it lists TIED to the program's text (the seventh form; the later family's looks); each row that meets fmt, with fmt's text TOLD by the authors' own Lean function (tested against real Go, not proved from fmt's source: count such statements apart). THE CARD IS WHAT COUNTS. Prove the row's statement (the work); the ties are given (YtklenjmfalljgaaGreatDoorTie.lean); close each card by the builder's one call (the guide's Derived/Test/ToyasCard.lean, 'card_holds'). Laid BY PROGRAM, IN A SANDBOX (cutbox-door.mjs). By AI agents, Wed Nov 11 2026. No macro, syntax, notation, axiom, sorry.
-/
import Derived.Test.YtklenjmfalljgaaGreatDoorRows
import GoSem.ClaimSeven
namespace Go.Proofs.YtklenjmfalljgaaGreatDoor
namespace Rows

/-- THE TIED CARD OF 'rerunlaw.Runs'. -/
def runsCard : Claim7 := { stood := { row := runsRow, standIns := [], harness := (true, "a4403e31aa839f00ff13931f328fa161c80231452f1a1200c6b1a168a7ac3cf2"), looks := true }, kinds := [], alts := [], laidByText := true, laidKinds := [.data], laidTests := true, laidLooks := .later }
def RunsCardSaid : Prop := Claim7.holds Tryz.pinned (.plain (OpenSpec.ofChange runsSpec)) runsCard

/-- THE TIED CARD OF 'rerunkeep.Written'. -/
def writtenCard : Claim7 := { stood := { row := writtenRow, standIns := [], harness := (true, "a4403e31aa839f00ff13931f328fa161c80231452f1a1200c6b1a168a7ac3cf2"), looks := true }, kinds := [], alts := [], laidByText := true, laidKinds := [.data, .data, .data, .data], laidTests := true, laidLooks := .later }
def WrittenCardSaid : Prop := Claim7.holds Tryz.pinned (.plain (OpenSpec.ofChange writtenSpec)) writtenCard

/-- THE TIED CARD OF 'rerunlaw.Forms'. -/
def formsCard : Claim7 := { stood := { row := formsRow, standIns := [], harness := (true, "a4403e31aa839f00ff13931f328fa161c80231452f1a1200c6b1a168a7ac3cf2"), looks := true }, kinds := [], alts := [], laidByText := true, laidKinds := [.data], laidTests := true, laidLooks := .later }
def FormsCardSaid : Prop := Claim7.holds Tryz.pinned (.plain (OpenSpec.ofChange formsSpec)) formsCard

/-- THE SECOND FORM's CARD OF 'rerunlaw.Runs'. -/
def runsUptoCard : Claim7 := { stood := { row := runsUptoRow, standIns := [], harness := (true, "a4403e31aa839f00ff13931f328fa161c80231452f1a1200c6b1a168a7ac3cf2"), looks := true }, kinds := [], alts := [], laidByText := true, laidKinds := [.data], laidTests := true, laidLooks := .later }
def RunsUptoCardSaid : Prop := Claim7.holds Tryz.pinned (.plain (OpenSpec.upto runsSpec)) runsUptoCard

/-- THE SECOND FORM's CARD OF 'rerunkeep.Written'. -/
def writtenUptoCard : Claim7 := { stood := { row := writtenUptoRow, standIns := [], harness := (true, "a4403e31aa839f00ff13931f328fa161c80231452f1a1200c6b1a168a7ac3cf2"), looks := true }, kinds := [], alts := [], laidByText := true, laidKinds := [.data, .data, .data, .data], laidTests := true, laidLooks := .later }
def WrittenUptoCardSaid : Prop := Claim7.holds Tryz.pinned (.plain (OpenSpec.upto writtenSpec)) writtenUptoCard

/-- THE SECOND FORM's CARD OF 'rerunlaw.Forms'. -/
def formsUptoCard : Claim7 := { stood := { row := formsUptoRow, standIns := [], harness := (true, "a4403e31aa839f00ff13931f328fa161c80231452f1a1200c6b1a168a7ac3cf2"), looks := true }, kinds := [], alts := [], laidByText := true, laidKinds := [.data], laidTests := true, laidLooks := .later }
def FormsUptoCardSaid : Prop := Claim7.holds Tryz.pinned (.plain (OpenSpec.upto formsSpec)) formsUptoCard
end Rows
end Go.Proofs.YtklenjmfalljgaaGreatDoor
