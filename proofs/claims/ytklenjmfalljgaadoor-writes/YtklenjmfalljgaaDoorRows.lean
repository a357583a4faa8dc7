/-
  NARROWER THAN 'FOR EVERY INPUT', by the rows' own cells (each row's printed sentence says how): Locked: laid · Renamed: laid · Cut: laid · Writes: laid · Texts: laid · Shortens: laid · Formed: laid · Commuted: laid · Enough: laid.
  DERIVED. THE GIVEN ROWS OF THIS SEAT. 9 by the template 'for every input the law returns true; each argument reads behind the call as it read before'; 0 by the template 'total and deterministic' (their statements: YtklenjmfalljgaaDoorTotals.lean).
  GIVEN WITH THE SEED: the statements are not yours to turn. If you find one false, say at which input.
  Laid BY PROGRAM, IN A SANDBOX (cutbox-rows.mjs): the forced cells as the released guide's own fill.sh prints them over the translation 09d20e204b295ab6… (all of the seat's roots in one cut). By AI agents, Wed Nov 11 2026. No macro, syntax, notation, axiom, sorry.
-/
import Derived.Test.YtklenjmfalljgaaDoorChecked
import GoSem.Claim
import GoSem.ClaimJoined
import GoSem.ClaimMapViews
import Derived.JoinedTies
import Derived.KernelRfl
namespace Go.Proofs.YtklenjmfalljgaaDoor
/- THE CELL 'sum', in the pinned program and in every row, IS THE sha256 OF THE DUMP (.gsa) THAT YtklenjmfalljgaaDoorProg.lean LOADS. Nothing in Lean hashes anything: it is a label: what it is worth is what the hold of that sum in a sandbox is worth. -/
noncomputable def Tryd.pinned : Pinned := { name := "ytklenjmfalljgaadoor", sum := "09d20e204b295ab631599c6614b278bc6e865d70883c567b34b516180f829eaf", checked := Tryd.checked }
namespace Rows
def none {H : Type} : Left H := { results := [], args := [] }

/- WHAT THE LISTED PACKAGE-LEVEL VARIABLES READ AS WHEN THE CALL BEGINS. Each datum BY PROGRAM (the guide's laid-datum.mjs) off the statement by which the dump's own 'gosem.cut.vars' lays the variable. In a bare row this is a premise. The card (YtklenjmfalljgaaDoorCards.lean) ties it to the program's text. -/
def laid_rerun_machine_shapes {H : Type} : DataW H := .agg [.agg [.lit (.int .i64 0), .lit (.int .i64 0), .lit (.int .i64 0)], .agg [.lit (.int .i64 1), .lit (.int .i64 0), .lit (.int .i64 5)], .agg [.lit (.int .i64 1), .lit (.int .i64 2), .lit (.int .i64 0)], .agg [.lit (.int .i64 2), .lit (.int .i64 1), .lit (.int .i64 0)], .agg [.lit (.int .i64 1), .lit (.int .i64 1), .lit (.int .i64 0)], .agg [.lit (.int .i64 1), .lit (.int .i64 1), .lit (.int .i64 0)], .agg [.lit (.int .i64 1), .lit (.int .i64 1), .lit (.int .i64 0)], .agg [.lit (.int .i64 1), .lit (.int .i64 1), .lit (.int .i64 0)], .agg [.lit (.int .i64 1), .lit (.int .i64 0), .lit (.int .i64 4)], .agg [.lit (.int .i64 3), .lit (.int .i64 0), .lit (.int .i64 0)], .agg [.lit (.int .i64 3), .lit (.int .i64 0), .lit (.int .i64 0)], .agg [.lit (.int .i64 1), .lit (.int .i64 0), .lit (.int .i64 0)]]
def laid_math_bits_deBruijn32tab {H : Type} : DataW H := .agg [.lit (.int .u8 0), .lit (.int .u8 1), .lit (.int .u8 28), .lit (.int .u8 2), .lit (.int .u8 29), .lit (.int .u8 14), .lit (.int .u8 24), .lit (.int .u8 3), .lit (.int .u8 30), .lit (.int .u8 22), .lit (.int .u8 20), .lit (.int .u8 15), .lit (.int .u8 25), .lit (.int .u8 17), .lit (.int .u8 4), .lit (.int .u8 8), .lit (.int .u8 31), .lit (.int .u8 27), .lit (.int .u8 13), .lit (.int .u8 23), .lit (.int .u8 21), .lit (.int .u8 19), .lit (.int .u8 16), .lit (.int .u8 7), .lit (.int .u8 26), .lit (.int .u8 12), .lit (.int .u8 18), .lit (.int .u8 6), .lit (.int .u8 11), .lit (.int .u8 5), .lit (.int .u8 10), .lit (.int .u8 9)]
def laid_math_bits_deBruijn64tab {H : Type} : DataW H := .agg [.lit (.int .u8 0), .lit (.int .u8 1), .lit (.int .u8 56), .lit (.int .u8 2), .lit (.int .u8 57), .lit (.int .u8 49), .lit (.int .u8 28), .lit (.int .u8 3), .lit (.int .u8 61), .lit (.int .u8 58), .lit (.int .u8 42), .lit (.int .u8 50), .lit (.int .u8 38), .lit (.int .u8 29), .lit (.int .u8 17), .lit (.int .u8 4), .lit (.int .u8 62), .lit (.int .u8 47), .lit (.int .u8 59), .lit (.int .u8 36), .lit (.int .u8 45), .lit (.int .u8 43), .lit (.int .u8 51), .lit (.int .u8 22), .lit (.int .u8 53), .lit (.int .u8 39), .lit (.int .u8 33), .lit (.int .u8 30), .lit (.int .u8 24), .lit (.int .u8 18), .lit (.int .u8 12), .lit (.int .u8 5), .lit (.int .u8 63), .lit (.int .u8 55), .lit (.int .u8 48), .lit (.int .u8 27), .lit (.int .u8 60), .lit (.int .u8 41), .lit (.int .u8 37), .lit (.int .u8 16), .lit (.int .u8 46), .lit (.int .u8 35), .lit (.int .u8 44), .lit (.int .u8 21), .lit (.int .u8 52), .lit (.int .u8 32), .lit (.int .u8 23), .lit (.int .u8 11), .lit (.int .u8 54), .lit (.int .u8 26), .lit (.int .u8 40), .lit (.int .u8 15), .lit (.int .u8 34), .lit (.int .u8 20), .lit (.int .u8 31), .lit (.int .u8 10), .lit (.int .u8 25), .lit (.int .u8 14), .lit (.int .u8 19), .lit (.int .u8 9), .lit (.int .u8 13), .lit (.int .u8 8), .lit (.int .u8 7), .lit (.int .u8 6)]
def laid_internal_strconv_uint64pow10 {H : Type} : DataW H := .agg [.lit (.int .u64 1), .lit (.int .u64 10), .lit (.int .u64 100), .lit (.int .u64 1000), .lit (.int .u64 10000), .lit (.int .u64 100000), .lit (.int .u64 1000000), .lit (.int .u64 10000000), .lit (.int .u64 100000000), .lit (.int .u64 1000000000), .lit (.int .u64 10000000000), .lit (.int .u64 100000000000), .lit (.int .u64 1000000000000), .lit (.int .u64 10000000000000), .lit (.int .u64 100000000000000), .lit (.int .u64 1000000000000000), .lit (.int .u64 10000000000000000), .lit (.int .u64 100000000000000000), .lit (.int .u64 1000000000000000000), .lit (.int .u64 10000000000000000000)]

/-- 'rerunkeep.Locked': WHATEVER THE INPUT: true; the input reads as it did. -/
def lockedSpec : ChangeSpec := { name := "locked", fn := fun _ => fun
  | [d1, d2, d3] => { results := [.lit (.bool true)], args := [d1, d2, d3] }
  | _ => none }
def lockedRow : OpenClaim := { program := "ytklenjmfalljgaadoor", sum := "09d20e204b295ab631599c6614b278bc6e865d70883c567b34b516180f829eaf", func := "rerun/rerunkeep.Locked", spec := "locked", unfollowed := true, recurses := true, named := ["rerun/machine.shapes"], plainKeys := false, apart := false, laid := [("rerun/machine.shapes", laid_rerun_machine_shapes)] }
def LockedSaid : Prop := lockedRow.holds Tryd.pinned (OpenSpec.ofChange lockedSpec)

/-- ITS FALSE NEIGHBOUR: 'it returns false'. Refute it at one input. -/
def lockedWrong : ChangeSpec := { name := "locked", fn := fun _ => fun
  | [d1, d2, d3] => { results := [.lit (.bool false)], args := [d1, d2, d3] }
  | _ => none }
def LockedWrongFalsely : Prop := lockedRow.holds Tryd.pinned (OpenSpec.ofChange lockedWrong)

/-- 'rerunkeep.Renamed': WHATEVER THE INPUT: true; the input reads as it did. -/
def renamedSpec : ChangeSpec := { name := "renamed", fn := fun _ => fun
  | [d1, d2, d3] => { results := [.lit (.bool true)], args := [d1, d2, d3] }
  | _ => none }
def renamedRow : OpenClaim := { program := "ytklenjmfalljgaadoor", sum := "09d20e204b295ab631599c6614b278bc6e865d70883c567b34b516180f829eaf", func := "rerun/rerunkeep.Renamed", spec := "renamed", unfollowed := true, recurses := true, named := ["rerun/machine.shapes"], plainKeys := false, apart := false, laid := [("rerun/machine.shapes", laid_rerun_machine_shapes)] }
def RenamedSaid : Prop := renamedRow.holds Tryd.pinned (OpenSpec.ofChange renamedSpec)

/-- ITS FALSE NEIGHBOUR: 'it returns false'. Refute it at one input. -/
def renamedWrong : ChangeSpec := { name := "renamed", fn := fun _ => fun
  | [d1, d2, d3] => { results := [.lit (.bool false)], args := [d1, d2, d3] }
  | _ => none }
def RenamedWrongFalsely : Prop := renamedRow.holds Tryd.pinned (OpenSpec.ofChange renamedWrong)

/-- 'rerunkeep.Cut': WHATEVER THE INPUT: true; the input reads as it did. -/
def cutSpec : ChangeSpec := { name := "cut", fn := fun _ => fun
  | [d1, d2, d3, d4] => { results := [.lit (.bool true)], args := [d1, d2, d3, d4] }
  | _ => none }
def cutRow : OpenClaim := { program := "ytklenjmfalljgaadoor", sum := "09d20e204b295ab631599c6614b278bc6e865d70883c567b34b516180f829eaf", func := "rerun/rerunkeep.Cut", spec := "cut", unfollowed := true, recurses := true, named := ["rerun/machine.shapes"], plainKeys := false, apart := false, laid := [("rerun/machine.shapes", laid_rerun_machine_shapes)] }
def CutSaid : Prop := cutRow.holds Tryd.pinned (OpenSpec.ofChange cutSpec)

/-- ITS FALSE NEIGHBOUR: 'it returns false'. Refute it at one input. -/
def cutWrong : ChangeSpec := { name := "cut", fn := fun _ => fun
  | [d1, d2, d3, d4] => { results := [.lit (.bool false)], args := [d1, d2, d3, d4] }
  | _ => none }
def CutWrongFalsely : Prop := cutRow.holds Tryd.pinned (OpenSpec.ofChange cutWrong)

/-- 'rerunlaw.Writes': WHATEVER THE INPUT: true; the input reads as it did. -/
def writesSpec : ChangeSpec := { name := "writes", fn := fun _ => fun
  | [d1, d2] => { results := [.lit (.bool true)], args := [d1, d2] }
  | _ => none }
def writesRow : OpenClaim := { program := "ytklenjmfalljgaadoor", sum := "09d20e204b295ab631599c6614b278bc6e865d70883c567b34b516180f829eaf", func := "rerun/rerunlaw.Writes", spec := "writes", unfollowed := true, recurses := true, named := ["rerun/machine.shapes"], plainKeys := false, apart := false, laid := [("rerun/machine.shapes", laid_rerun_machine_shapes)] }
def WritesSaid : Prop := writesRow.holds Tryd.pinned (OpenSpec.ofChange writesSpec)

/-- ITS FALSE NEIGHBOUR: 'it returns false'. Refute it at one input. -/
def writesWrong : ChangeSpec := { name := "writes", fn := fun _ => fun
  | [d1, d2] => { results := [.lit (.bool false)], args := [d1, d2] }
  | _ => none }
def WritesWrongFalsely : Prop := writesRow.holds Tryd.pinned (OpenSpec.ofChange writesWrong)

/-- 'rerunlaw.Texts': WHATEVER THE INPUT: true; the input reads as it did. -/
def textsSpec : ChangeSpec := { name := "texts", fn := fun _ => fun
  | [d1, d2] => { results := [.lit (.bool true)], args := [d1, d2] }
  | _ => none }
def textsRow : OpenClaim := { program := "ytklenjmfalljgaadoor", sum := "09d20e204b295ab631599c6614b278bc6e865d70883c567b34b516180f829eaf", func := "rerun/rerunlaw.Texts", spec := "texts", inPlace := ["internal/abi.NoEscape", "internal/bytealg.MakeNoZero"], named := ["internal/strconv.uint64pow10", "math/bits.deBruijn32tab", "math/bits.deBruijn64tab"], plainKeys := false, apart := false, laid := [("math/bits.deBruijn32tab", laid_math_bits_deBruijn32tab), ("math/bits.deBruijn64tab", laid_math_bits_deBruijn64tab), ("internal/strconv.uint64pow10", laid_internal_strconv_uint64pow10)] }
def TextsSaid : Prop := textsRow.holds Tryd.pinned (OpenSpec.ofChange textsSpec)

/-- ITS FALSE NEIGHBOUR: 'it returns false'. Refute it at one input. -/
def textsWrong : ChangeSpec := { name := "texts", fn := fun _ => fun
  | [d1, d2] => { results := [.lit (.bool false)], args := [d1, d2] }
  | _ => none }
def TextsWrongFalsely : Prop := textsRow.holds Tryd.pinned (OpenSpec.ofChange textsWrong)

/-- 'rerunlaw.Shortens': WHATEVER THE INPUT: true; the input reads as it did. -/
def shortensSpec : ChangeSpec := { name := "shortens", fn := fun _ => fun
  | [d1, d2, d3] => { results := [.lit (.bool true)], args := [d1, d2, d3] }
  | _ => none }
def shortensRow : OpenClaim := { program := "ytklenjmfalljgaadoor", sum := "09d20e204b295ab631599c6614b278bc6e865d70883c567b34b516180f829eaf", func := "rerun/rerunlaw.Shortens", spec := "shortens", unfollowed := true, recurses := true, named := ["rerun/machine.shapes"], plainKeys := false, apart := false, laid := [("rerun/machine.shapes", laid_rerun_machine_shapes)] }
def ShortensSaid : Prop := shortensRow.holds Tryd.pinned (OpenSpec.ofChange shortensSpec)

/-- ITS FALSE NEIGHBOUR: 'it returns false'. Refute it at one input. -/
def shortensWrong : ChangeSpec := { name := "shortens", fn := fun _ => fun
  | [d1, d2, d3] => { results := [.lit (.bool false)], args := [d1, d2, d3] }
  | _ => none }
def ShortensWrongFalsely : Prop := shortensRow.holds Tryd.pinned (OpenSpec.ofChange shortensWrong)

/-- 'rerunkeep.Formed': WHATEVER THE INPUT: true; the input reads as it did. -/
def formedSpec : ChangeSpec := { name := "formed", fn := fun _ => fun
  | [d1, d2] => { results := [.lit (.bool true)], args := [d1, d2] }
  | _ => none }
def formedRow : OpenClaim := { program := "ytklenjmfalljgaadoor", sum := "09d20e204b295ab631599c6614b278bc6e865d70883c567b34b516180f829eaf", func := "rerun/rerunkeep.Formed", spec := "formed", unfollowed := true, recurses := true, named := ["rerun/machine.shapes"], plainKeys := false, apart := false, laid := [("rerun/machine.shapes", laid_rerun_machine_shapes)] }
def FormedSaid : Prop := formedRow.holds Tryd.pinned (OpenSpec.ofChange formedSpec)

/-- ITS FALSE NEIGHBOUR: 'it returns false'. Refute it at one input. -/
def formedWrong : ChangeSpec := { name := "formed", fn := fun _ => fun
  | [d1, d2] => { results := [.lit (.bool false)], args := [d1, d2] }
  | _ => none }
def FormedWrongFalsely : Prop := formedRow.holds Tryd.pinned (OpenSpec.ofChange formedWrong)

/-- 'rerunkeep.Commuted': WHATEVER THE INPUT: true; the input reads as it did. -/
def commutedSpec : ChangeSpec := { name := "commuted", fn := fun _ => fun
  | [d1, d2, d3] => { results := [.lit (.bool true)], args := [d1, d2, d3] }
  | _ => none }
def commutedRow : OpenClaim := { program := "ytklenjmfalljgaadoor", sum := "09d20e204b295ab631599c6614b278bc6e865d70883c567b34b516180f829eaf", func := "rerun/rerunkeep.Commuted", spec := "commuted", unfollowed := true, recurses := true, named := ["rerun/machine.shapes"], plainKeys := false, apart := false, laid := [("rerun/machine.shapes", laid_rerun_machine_shapes)] }
def CommutedSaid : Prop := commutedRow.holds Tryd.pinned (OpenSpec.ofChange commutedSpec)

/-- ITS FALSE NEIGHBOUR: 'it returns false'. Refute it at one input. -/
def commutedWrong : ChangeSpec := { name := "commuted", fn := fun _ => fun
  | [d1, d2, d3] => { results := [.lit (.bool false)], args := [d1, d2, d3] }
  | _ => none }
def CommutedWrongFalsely : Prop := commutedRow.holds Tryd.pinned (OpenSpec.ofChange commutedWrong)

/-- 'rerunkeep.Enough': WHATEVER THE INPUT: true; the input reads as it did. -/
def enoughSpec : ChangeSpec := { name := "enough", fn := fun _ => fun
  | [d1, d2, d3, d4] => { results := [.lit (.bool true)], args := [d1, d2, d3, d4] }
  | _ => none }
def enoughRow : OpenClaim := { program := "ytklenjmfalljgaadoor", sum := "09d20e204b295ab631599c6614b278bc6e865d70883c567b34b516180f829eaf", func := "rerun/rerunkeep.Enough", spec := "enough", unfollowed := true, recurses := true, named := ["rerun/machine.shapes"], plainKeys := false, apart := false, laid := [("rerun/machine.shapes", laid_rerun_machine_shapes)] }
def EnoughSaid : Prop := enoughRow.holds Tryd.pinned (OpenSpec.ofChange enoughSpec)

/-- ITS FALSE NEIGHBOUR: 'it returns false'. Refute it at one input. -/
def enoughWrong : ChangeSpec := { name := "enough", fn := fun _ => fun
  | [d1, d2, d3, d4] => { results := [.lit (.bool false)], args := [d1, d2, d3, d4] }
  | _ => none }
def EnoughWrongFalsely : Prop := enoughRow.holds Tryd.pinned (OpenSpec.ofChange enoughWrong)

/- THE SECOND FORM. 'bulk': how many values and letters a reading holds, each counted each time it is reached (what is shared counts as often as it is met; a slice's spare places count too). A statement '..UptoSaid' is the law's where the arguments, and the package variables that the reading takes, are together of bulk at most 1048576: NARROWER than '..Said'. Prove '..Said' where nothing that the law and all that it calls make is longer than what came in: it says more and counts as full. Else prove '..UptoSaid'. A law counts once. -/
mutual
def uptoBulk {H : Type} : DataW H → Nat
  | .lit (.string bytes) => bytes.length + 1
  | .lit _ => 1
  | .nil => 1
  | .ptr d => uptoBulk d + 1
  | .slice elems spare => uptoBulkAll elems + uptoBulkAll spare + 1
  | .agg parts => uptoBulkAll parts + 1
  | .iface _ d => uptoBulk d + 1
  | .map entries => uptoBulkEntries entries + 1
  | .held _ => 1
def uptoBulkAll {H : Type} : List (DataW H) → Nat
  | [] => 0
  | d :: r => uptoBulk d + uptoBulkAll r
def uptoBulkEntries {H : Type} : List (Lit × DataW H) → Nat
  | [] => 0
  | x :: r => uptoBulkEntry x + uptoBulkEntries r
def uptoBulkEntry {H : Type} : Lit × DataW H → Nat
  | (.string bytes, d) => bytes.length + uptoBulk d + 1
  | (_, d) => uptoBulk d + 1
 end
def uptoSmall : (H : Type) → List (DataW H) → Bool := fun _ ds => decide (uptoBulkAll ds ≤ 1048576)
def OpenSpec.upto (s : _root_.Go.ChangeSpec) : _root_.Go.OpenSpec := { _root_.Go.OpenSpec.ofChange s with cond := some uptoSmall }

/-- 'rerunkeep.Locked', WHERE WHAT IT READS IS OF BULK AT MOST 1048576: true; the input reads as it did. -/
def lockedUptoRow : OpenClaim := { program := "ytklenjmfalljgaadoor", sum := "09d20e204b295ab631599c6614b278bc6e865d70883c567b34b516180f829eaf", func := "rerun/rerunkeep.Locked", spec := "locked", unfollowed := true, recurses := true, named := ["rerun/machine.shapes"], plainKeys := false, apart := false, laid := [("rerun/machine.shapes", laid_rerun_machine_shapes)], narrowed := true }
def LockedUptoSaid : Prop := lockedUptoRow.holds Tryd.pinned (OpenSpec.upto lockedSpec)

/-- 'rerunkeep.Renamed', WHERE WHAT IT READS IS OF BULK AT MOST 1048576: true; the input reads as it did. -/
def renamedUptoRow : OpenClaim := { program := "ytklenjmfalljgaadoor", sum := "09d20e204b295ab631599c6614b278bc6e865d70883c567b34b516180f829eaf", func := "rerun/rerunkeep.Renamed", spec := "renamed", unfollowed := true, recurses := true, named := ["rerun/machine.shapes"], plainKeys := false, apart := false, laid := [("rerun/machine.shapes", laid_rerun_machine_shapes)], narrowed := true }
def RenamedUptoSaid : Prop := renamedUptoRow.holds Tryd.pinned (OpenSpec.upto renamedSpec)

/-- 'rerunkeep.Cut', WHERE WHAT IT READS IS OF BULK AT MOST 1048576: true; the input reads as it did. -/
def cutUptoRow : OpenClaim := { program := "ytklenjmfalljgaadoor", sum := "09d20e204b295ab631599c6614b278bc6e865d70883c567b34b516180f829eaf", func := "rerun/rerunkeep.Cut", spec := "cut", unfollowed := true, recurses := true, named := ["rerun/machine.shapes"], plainKeys := false, apart := false, laid := [("rerun/machine.shapes", laid_rerun_machine_shapes)], narrowed := true }
def CutUptoSaid : Prop := cutUptoRow.holds Tryd.pinned (OpenSpec.upto cutSpec)

/-- 'rerunlaw.Writes', WHERE WHAT IT READS IS OF BULK AT MOST 1048576: true; the input reads as it did. -/
def writesUptoRow : OpenClaim := { program := "ytklenjmfalljgaadoor", sum := "09d20e204b295ab631599c6614b278bc6e865d70883c567b34b516180f829eaf", func := "rerun/rerunlaw.Writes", spec := "writes", unfollowed := true, recurses := true, named := ["rerun/machine.shapes"], plainKeys := false, apart := false, laid := [("rerun/machine.shapes", laid_rerun_machine_shapes)], narrowed := true }
def WritesUptoSaid : Prop := writesUptoRow.holds Tryd.pinned (OpenSpec.upto writesSpec)

/-- 'rerunlaw.Texts', WHERE WHAT IT READS IS OF BULK AT MOST 1048576: true; the input reads as it did. -/
def textsUptoRow : OpenClaim := { program := "ytklenjmfalljgaadoor", sum := "09d20e204b295ab631599c6614b278bc6e865d70883c567b34b516180f829eaf", func := "rerun/rerunlaw.Texts", spec := "texts", inPlace := ["internal/abi.NoEscape", "internal/bytealg.MakeNoZero"], named := ["internal/strconv.uint64pow10", "math/bits.deBruijn32tab", "math/bits.deBruijn64tab"], plainKeys := false, apart := false, laid := [("math/bits.deBruijn32tab", laid_math_bits_deBruijn32tab), ("math/bits.deBruijn64tab", laid_math_bits_deBruijn64tab), ("internal/strconv.uint64pow10", laid_internal_strconv_uint64pow10)], narrowed := true }
def TextsUptoSaid : Prop := textsUptoRow.holds Tryd.pinned (OpenSpec.upto textsSpec)

/-- 'rerunlaw.Shortens', WHERE WHAT IT READS IS OF BULK AT MOST 1048576: true; the input reads as it did. -/
def shortensUptoRow : OpenClaim := { program := "ytklenjmfalljgaadoor", sum := "09d20e204b295ab631599c6614b278bc6e865d70883c567b34b516180f829eaf", func := "rerun/rerunlaw.Shortens", spec := "shortens", unfollowed := true, recurses := true, named := ["rerun/machine.shapes"], plainKeys := false, apart := false, laid := [("rerun/machine.shapes", laid_rerun_machine_shapes)], narrowed := true }
def ShortensUptoSaid : Prop := shortensUptoRow.holds Tryd.pinned (OpenSpec.upto shortensSpec)

/-- 'rerunkeep.Formed', WHERE WHAT IT READS IS OF BULK AT MOST 1048576: true; the input reads as it did. -/
def formedUptoRow : OpenClaim := { program := "ytklenjmfalljgaadoor", sum := "09d20e204b295ab631599c6614b278bc6e865d70883c567b34b516180f829eaf", func := "rerun/rerunkeep.Formed", spec := "formed", unfollowed := true, recurses := true, named := ["rerun/machine.shapes"], plainKeys := false, apart := false, laid := [("rerun/machine.shapes", laid_rerun_machine_shapes)], narrowed := true }
def FormedUptoSaid : Prop := formedUptoRow.holds Tryd.pinned (OpenSpec.upto formedSpec)

/-- 'rerunkeep.Commuted', WHERE WHAT IT READS IS OF BULK AT MOST 1048576: true; the input reads as it did. -/
def commutedUptoRow : OpenClaim := { program := "ytklenjmfalljgaadoor", sum := "09d20e204b295ab631599c6614b278bc6e865d70883c567b34b516180f829eaf", func := "rerun/rerunkeep.Commuted", spec := "commuted", unfollowed := true, recurses := true, named := ["rerun/machine.shapes"], plainKeys := false, apart := false, laid := [("rerun/machine.shapes", laid_rerun_machine_shapes)], narrowed := true }
def CommutedUptoSaid : Prop := commutedUptoRow.holds Tryd.pinned (OpenSpec.upto commutedSpec)

/-- 'rerunkeep.Enough', WHERE WHAT IT READS IS OF BULK AT MOST 1048576: true; the input reads as it did. -/
def enoughUptoRow : OpenClaim := { program := "ytklenjmfalljgaadoor", sum := "09d20e204b295ab631599c6614b278bc6e865d70883c567b34b516180f829eaf", func := "rerun/rerunkeep.Enough", spec := "enough", unfollowed := true, recurses := true, named := ["rerun/machine.shapes"], plainKeys := false, apart := false, laid := [("rerun/machine.shapes", laid_rerun_machine_shapes)], narrowed := true }
def EnoughUptoSaid : Prop := enoughUptoRow.holds Tryd.pinned (OpenSpec.upto enoughSpec)

end Rows
end Go.Proofs.YtklenjmfalljgaaDoor
