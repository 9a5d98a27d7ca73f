/-
  No cell of these rows narrows 'for every input' (looked for: loops, veiled, ifaces, maps, wideKeys, modest, calm, conditions, laid).
  DERIVED. THE GIVEN ROWS OF THIS SEAT. 12 by the template 'for every input the law returns true; each argument reads behind the call as it read before'; 0 by the template 'total and deterministic' (their statements: YtcefofgdbmnkdaaTotals.lean).
  GIVEN WITH THE SEED: the statements are not yours to turn. If you find one false, say at which input.
  Laid BY PROGRAM, IN A SANDBOX (cutbox-rows.mjs): the forced cells as the released guide's own fill.sh prints them over the translation a3616c74ede495b2… (all of the seat's roots in one cut). By AI agents, Wed Nov 11 2026. No macro, syntax, notation, axiom, sorry.
-/
import Derived.Test.YtcefofgdbmnkdaaChecked
import GoSem.Claim
import GoSem.ClaimJoined
import GoSem.ClaimMapViews
import Derived.JoinedTies
import Derived.KernelRfl
namespace Go.Proofs.Ytcefofgdbmnkdaa
/- THE CELL 'sum', in the pinned program and in every row, IS THE sha256 OF THE DUMP (.gsa) THAT YtcefofgdbmnkdaaProg.lean LOADS. Nothing in Lean hashes anything: it is a label: what it is worth is what the hold of that sum in a sandbox is worth. -/
noncomputable def Try.pinned : Pinned := { name := "ytcefofgdbmnkdaa", sum := "a3616c74ede495b2eead380af3c02f1773c0974366c2595fd5dcff2356c212d2", checked := Try.checked }
namespace Rows
def none {H : Type} : Left H := { results := [], args := [] }

/-- 'laws.FnCells': WHATEVER THE INPUT: true; the input reads as it did. -/
def fnCellsSpec : ChangeSpec := { name := "fnCells", fn := fun _ => fun
  | [d1, d2] => { results := [.lit (.bool true)], args := [d1, d2] }
  | _ => none }
def fnCellsRow : OpenClaim := { program := "ytcefofgdbmnkdaa", sum := "a3616c74ede495b2eead380af3c02f1773c0974366c2595fd5dcff2356c212d2", func := "loop.example/g00850/laws.FnCells", spec := "fnCells", inPlace := ["internal/bytealg.IndexByteString", "internal/bytealg.abigen_runtime_cmpstring", "slices.overlaps[loop.example/g00850/impl.Cell]"], unfollowed := true, recurses := true, apart := false }
def FnCellsSaid : Prop := fnCellsRow.holds Try.pinned (OpenSpec.ofChange fnCellsSpec)

/-- ITS FALSE NEIGHBOUR: 'it returns false'. Refute it at one input. -/
def fnCellsWrong : ChangeSpec := { name := "fnCells", fn := fun _ => fun
  | [d1, d2] => { results := [.lit (.bool false)], args := [d1, d2] }
  | _ => none }
def FnCellsWrongFalsely : Prop := fnCellsRow.holds Try.pinned (OpenSpec.ofChange fnCellsWrong)

/-- 'laws.FnTimes': WHATEVER THE INPUT: true; the input reads as it did. -/
def fnTimesSpec : ChangeSpec := { name := "fnTimes", fn := fun _ => fun
  | [d1, d2] => { results := [.lit (.bool true)], args := [d1, d2] }
  | _ => none }
def fnTimesRow : OpenClaim := { program := "ytcefofgdbmnkdaa", sum := "a3616c74ede495b2eead380af3c02f1773c0974366c2595fd5dcff2356c212d2", func := "loop.example/g00850/laws.FnTimes", spec := "fnTimes", inPlace := ["internal/bytealg.IndexByteString", "internal/bytealg.abigen_runtime_cmpstring"], unfollowed := true, recurses := true, apart := false }
def FnTimesSaid : Prop := fnTimesRow.holds Try.pinned (OpenSpec.ofChange fnTimesSpec)

/-- ITS FALSE NEIGHBOUR: 'it returns false'. Refute it at one input. -/
def fnTimesWrong : ChangeSpec := { name := "fnTimes", fn := fun _ => fun
  | [d1, d2] => { results := [.lit (.bool false)], args := [d1, d2] }
  | _ => none }
def FnTimesWrongFalsely : Prop := fnTimesRow.holds Try.pinned (OpenSpec.ofChange fnTimesWrong)

/-- 'laws.FnExactGoodKey': WHATEVER THE INPUT: true; the input reads as it did. -/
def fnExactGoodKeySpec : ChangeSpec := { name := "fnExactGoodKey", fn := fun _ => fun
  | [d] => { results := [.lit (.bool true)], args := [d] }
  | _ => none }
def fnExactGoodKeyRow : OpenClaim := { program := "ytcefofgdbmnkdaa", sum := "a3616c74ede495b2eead380af3c02f1773c0974366c2595fd5dcff2356c212d2", func := "loop.example/g00850/laws.FnExactGoodKey", spec := "fnExactGoodKey", inPlace := ["internal/bytealg.IndexByteString"], apart := false }
def FnExactGoodKeySaid : Prop := fnExactGoodKeyRow.holds Try.pinned (OpenSpec.ofChange fnExactGoodKeySpec)

/-- ITS FALSE NEIGHBOUR: 'it returns false'. Refute it at one input. -/
def fnExactGoodKeyWrong : ChangeSpec := { name := "fnExactGoodKey", fn := fun _ => fun
  | [d] => { results := [.lit (.bool false)], args := [d] }
  | _ => none }
def FnExactGoodKeyWrongFalsely : Prop := fnExactGoodKeyRow.holds Try.pinned (OpenSpec.ofChange fnExactGoodKeyWrong)

/-- 'laws.FnExactGoodVal': WHATEVER THE INPUT: true; the input reads as it did. -/
def fnExactGoodValSpec : ChangeSpec := { name := "fnExactGoodVal", fn := fun _ => fun
  | [d] => { results := [.lit (.bool true)], args := [d] }
  | _ => none }
def fnExactGoodValRow : OpenClaim := { program := "ytcefofgdbmnkdaa", sum := "a3616c74ede495b2eead380af3c02f1773c0974366c2595fd5dcff2356c212d2", func := "loop.example/g00850/laws.FnExactGoodVal", spec := "fnExactGoodVal", inPlace := ["internal/bytealg.IndexByteString"], apart := false }
def FnExactGoodValSaid : Prop := fnExactGoodValRow.holds Try.pinned (OpenSpec.ofChange fnExactGoodValSpec)

/-- ITS FALSE NEIGHBOUR: 'it returns false'. Refute it at one input. -/
def fnExactGoodValWrong : ChangeSpec := { name := "fnExactGoodVal", fn := fun _ => fun
  | [d] => { results := [.lit (.bool false)], args := [d] }
  | _ => none }
def FnExactGoodValWrongFalsely : Prop := fnExactGoodValRow.holds Try.pinned (OpenSpec.ofChange fnExactGoodValWrong)

/-- 'laws.FnExactGoodWrites': WHATEVER THE INPUT: true; the input reads as it did. -/
def fnExactGoodWritesSpec : ChangeSpec := { name := "fnExactGoodWrites", fn := fun _ => fun
  | [d] => { results := [.lit (.bool true)], args := [d] }
  | _ => none }
def fnExactGoodWritesRow : OpenClaim := { program := "ytcefofgdbmnkdaa", sum := "a3616c74ede495b2eead380af3c02f1773c0974366c2595fd5dcff2356c212d2", func := "loop.example/g00850/laws.FnExactGoodWrites", spec := "fnExactGoodWrites", inPlace := ["internal/bytealg.IndexByteString"], apart := false }
def FnExactGoodWritesSaid : Prop := fnExactGoodWritesRow.holds Try.pinned (OpenSpec.ofChange fnExactGoodWritesSpec)

/-- ITS FALSE NEIGHBOUR: 'it returns false'. Refute it at one input. -/
def fnExactGoodWritesWrong : ChangeSpec := { name := "fnExactGoodWrites", fn := fun _ => fun
  | [d] => { results := [.lit (.bool false)], args := [d] }
  | _ => none }
def FnExactGoodWritesWrongFalsely : Prop := fnExactGoodWritesRow.holds Try.pinned (OpenSpec.ofChange fnExactGoodWritesWrong)

/-- 'laws.FnExactGoodCells': WHATEVER THE INPUT: true; the input reads as it did. -/
def fnExactGoodCellsSpec : ChangeSpec := { name := "fnExactGoodCells", fn := fun _ => fun
  | [d] => { results := [.lit (.bool true)], args := [d] }
  | _ => none }
def fnExactGoodCellsRow : OpenClaim := { program := "ytcefofgdbmnkdaa", sum := "a3616c74ede495b2eead380af3c02f1773c0974366c2595fd5dcff2356c212d2", func := "loop.example/g00850/laws.FnExactGoodCells", spec := "fnExactGoodCells", inPlace := ["internal/bytealg.IndexByteString"], apart := false }
def FnExactGoodCellsSaid : Prop := fnExactGoodCellsRow.holds Try.pinned (OpenSpec.ofChange fnExactGoodCellsSpec)

/-- ITS FALSE NEIGHBOUR: 'it returns false'. Refute it at one input. -/
def fnExactGoodCellsWrong : ChangeSpec := { name := "fnExactGoodCells", fn := fun _ => fun
  | [d] => { results := [.lit (.bool false)], args := [d] }
  | _ => none }
def FnExactGoodCellsWrongFalsely : Prop := fnExactGoodCellsRow.holds Try.pinned (OpenSpec.ofChange fnExactGoodCellsWrong)

/-- 'laws.FnExactPutCells': WHATEVER THE INPUT: true; the input reads as it did. -/
def fnExactPutCellsSpec : ChangeSpec := { name := "fnExactPutCells", fn := fun _ => fun
  | [d1, d2, d3] => { results := [.lit (.bool true)], args := [d1, d2, d3] }
  | _ => none }
def fnExactPutCellsRow : OpenClaim := { program := "ytcefofgdbmnkdaa", sum := "a3616c74ede495b2eead380af3c02f1773c0974366c2595fd5dcff2356c212d2", func := "loop.example/g00850/laws.FnExactPutCells", spec := "fnExactPutCells", inPlace := ["internal/bytealg.IndexByteString", "internal/bytealg.abigen_runtime_cmpstring", "slices.overlaps[loop.example/g00850/impl.Cell]"], unfollowed := true, recurses := true, apart := false }
def FnExactPutCellsSaid : Prop := fnExactPutCellsRow.holds Try.pinned (OpenSpec.ofChange fnExactPutCellsSpec)

/-- ITS FALSE NEIGHBOUR: 'it returns false'. Refute it at one input. -/
def fnExactPutCellsWrong : ChangeSpec := { name := "fnExactPutCells", fn := fun _ => fun
  | [d1, d2, d3] => { results := [.lit (.bool false)], args := [d1, d2, d3] }
  | _ => none }
def FnExactPutCellsWrongFalsely : Prop := fnExactPutCellsRow.holds Try.pinned (OpenSpec.ofChange fnExactPutCellsWrong)

/-- 'laws.FnExactCellAt': WHATEVER THE INPUT: true; the input reads as it did. -/
def fnExactCellAtSpec : ChangeSpec := { name := "fnExactCellAt", fn := fun _ => fun
  | [d1, d2, d3] => { results := [.lit (.bool true)], args := [d1, d2, d3] }
  | _ => none }
def fnExactCellAtRow : OpenClaim := { program := "ytcefofgdbmnkdaa", sum := "a3616c74ede495b2eead380af3c02f1773c0974366c2595fd5dcff2356c212d2", func := "loop.example/g00850/laws.FnExactCellAt", spec := "fnExactCellAt", inPlace := ["internal/bytealg.IndexByteString", "internal/bytealg.abigen_runtime_cmpstring"], unfollowed := true, recurses := true, apart := false }
def FnExactCellAtSaid : Prop := fnExactCellAtRow.holds Try.pinned (OpenSpec.ofChange fnExactCellAtSpec)

/-- ITS FALSE NEIGHBOUR: 'it returns false'. Refute it at one input. -/
def fnExactCellAtWrong : ChangeSpec := { name := "fnExactCellAt", fn := fun _ => fun
  | [d1, d2, d3] => { results := [.lit (.bool false)], args := [d1, d2, d3] }
  | _ => none }
def FnExactCellAtWrongFalsely : Prop := fnExactCellAtRow.holds Try.pinned (OpenSpec.ofChange fnExactCellAtWrong)

/-- 'laws.FnExactCellsAt': WHATEVER THE INPUT: true; the input reads as it did. -/
def fnExactCellsAtSpec : ChangeSpec := { name := "fnExactCellsAt", fn := fun _ => fun
  | [d1, d2] => { results := [.lit (.bool true)], args := [d1, d2] }
  | _ => none }
def fnExactCellsAtRow : OpenClaim := { program := "ytcefofgdbmnkdaa", sum := "a3616c74ede495b2eead380af3c02f1773c0974366c2595fd5dcff2356c212d2", func := "loop.example/g00850/laws.FnExactCellsAt", spec := "fnExactCellsAt", inPlace := ["internal/bytealg.IndexByteString"], unfollowed := true, recurses := true, apart := false }
def FnExactCellsAtSaid : Prop := fnExactCellsAtRow.holds Try.pinned (OpenSpec.ofChange fnExactCellsAtSpec)

/-- ITS FALSE NEIGHBOUR: 'it returns false'. Refute it at one input. -/
def fnExactCellsAtWrong : ChangeSpec := { name := "fnExactCellsAt", fn := fun _ => fun
  | [d1, d2] => { results := [.lit (.bool false)], args := [d1, d2] }
  | _ => none }
def FnExactCellsAtWrongFalsely : Prop := fnExactCellsAtRow.holds Try.pinned (OpenSpec.ofChange fnExactCellsAtWrong)

/-- 'laws.FnExactTrimCells': WHATEVER THE INPUT: true; the input reads as it did. -/
def fnExactTrimCellsSpec : ChangeSpec := { name := "fnExactTrimCells", fn := fun _ => fun
  | [d1, d2] => { results := [.lit (.bool true)], args := [d1, d2] }
  | _ => none }
def fnExactTrimCellsRow : OpenClaim := { program := "ytcefofgdbmnkdaa", sum := "a3616c74ede495b2eead380af3c02f1773c0974366c2595fd5dcff2356c212d2", func := "loop.example/g00850/laws.FnExactTrimCells", spec := "fnExactTrimCells", inPlace := ["internal/bytealg.IndexByteString"], unfollowed := true, recurses := true, apart := false }
def FnExactTrimCellsSaid : Prop := fnExactTrimCellsRow.holds Try.pinned (OpenSpec.ofChange fnExactTrimCellsSpec)

/-- ITS FALSE NEIGHBOUR: 'it returns false'. Refute it at one input. -/
def fnExactTrimCellsWrong : ChangeSpec := { name := "fnExactTrimCells", fn := fun _ => fun
  | [d1, d2] => { results := [.lit (.bool false)], args := [d1, d2] }
  | _ => none }
def FnExactTrimCellsWrongFalsely : Prop := fnExactTrimCellsRow.holds Try.pinned (OpenSpec.ofChange fnExactTrimCellsWrong)

/-- 'laws.FnExactLastTime': WHATEVER THE INPUT: true; the input reads as it did. -/
def fnExactLastTimeSpec : ChangeSpec := { name := "fnExactLastTime", fn := fun _ => fun
  | [d1, d2] => { results := [.lit (.bool true)], args := [d1, d2] }
  | _ => none }
def fnExactLastTimeRow : OpenClaim := { program := "ytcefofgdbmnkdaa", sum := "a3616c74ede495b2eead380af3c02f1773c0974366c2595fd5dcff2356c212d2", func := "loop.example/g00850/laws.FnExactLastTime", spec := "fnExactLastTime", inPlace := ["internal/bytealg.IndexByteString", "internal/bytealg.abigen_runtime_cmpstring"], unfollowed := true, recurses := true, apart := false }
def FnExactLastTimeSaid : Prop := fnExactLastTimeRow.holds Try.pinned (OpenSpec.ofChange fnExactLastTimeSpec)

/-- ITS FALSE NEIGHBOUR: 'it returns false'. Refute it at one input. -/
def fnExactLastTimeWrong : ChangeSpec := { name := "fnExactLastTime", fn := fun _ => fun
  | [d1, d2] => { results := [.lit (.bool false)], args := [d1, d2] }
  | _ => none }
def FnExactLastTimeWrongFalsely : Prop := fnExactLastTimeRow.holds Try.pinned (OpenSpec.ofChange fnExactLastTimeWrong)

/-- 'laws.FnExactSameCells': WHATEVER THE INPUT: true; the input reads as it did. -/
def fnExactSameCellsSpec : ChangeSpec := { name := "fnExactSameCells", fn := fun _ => fun
  | [d1, d2] => { results := [.lit (.bool true)], args := [d1, d2] }
  | _ => none }
def fnExactSameCellsRow : OpenClaim := { program := "ytcefofgdbmnkdaa", sum := "a3616c74ede495b2eead380af3c02f1773c0974366c2595fd5dcff2356c212d2", func := "loop.example/g00850/laws.FnExactSameCells", spec := "fnExactSameCells", unfollowed := true, recurses := true, apart := false }
def FnExactSameCellsSaid : Prop := fnExactSameCellsRow.holds Try.pinned (OpenSpec.ofChange fnExactSameCellsSpec)

/-- ITS FALSE NEIGHBOUR: 'it returns false'. Refute it at one input. -/
def fnExactSameCellsWrong : ChangeSpec := { name := "fnExactSameCells", fn := fun _ => fun
  | [d1, d2] => { results := [.lit (.bool false)], args := [d1, d2] }
  | _ => none }
def FnExactSameCellsWrongFalsely : Prop := fnExactSameCellsRow.holds Try.pinned (OpenSpec.ofChange fnExactSameCellsWrong)

/- THE SECOND FORM. 'bulk': how many values and letters a reading holds, each counted each time it is reached (what is shared counts as often as it is met; a slice's spare places count too). A statement '..UptoSaid' is the law's where the arguments, and the package variables that the reading takes, are together of bulk at most 1048576: NARROWER than '..Said'. Prove '..Said' where nothing that the law and all that it calls make is longer than what came in: it says more and counts as full. Else prove '..UptoSaid'. A law counts once. -/
mutual
def uptoBulk {H : Type} : DataW H → Nat
  | .lit (.string bytes) => bytes.length + 1
  | .lit _ => 1
  | .nil => 1
  | .ptr d => uptoBulk d + 1
  | .slice elems spare => uptoBulkAll elems + uptoBulkAll spare + 1
  | .agg parts => uptoBulkAll parts + 1
  | .iface _ d => uptoBulk d + 1
  | .map entries => uptoBulkEntries entries + 1
  | .held _ => 1
def uptoBulkAll {H : Type} : List (DataW H) → Nat
  | [] => 0
  | d :: r => uptoBulk d + uptoBulkAll r
def uptoBulkEntries {H : Type} : List (Lit × DataW H) → Nat
  | [] => 0
  | x :: r => uptoBulkEntry x + uptoBulkEntries r
def uptoBulkEntry {H : Type} : Lit × DataW H → Nat
  | (.string bytes, d) => bytes.length + uptoBulk d + 1
  | (_, d) => uptoBulk d + 1
 end
def uptoSmall : (H : Type) → List (DataW H) → Bool := fun _ ds => decide (uptoBulkAll ds ≤ 1048576)
def OpenSpec.upto (s : _root_.Go.ChangeSpec) : _root_.Go.OpenSpec := { _root_.Go.OpenSpec.ofChange s with cond := some uptoSmall }

/-- 'laws.FnCells', WHERE WHAT IT READS IS OF BULK AT MOST 1048576: true; the input reads as it did. -/
def fnCellsUptoRow : OpenClaim := { program := "ytcefofgdbmnkdaa", sum := "a3616c74ede495b2eead380af3c02f1773c0974366c2595fd5dcff2356c212d2", func := "loop.example/g00850/laws.FnCells", spec := "fnCells", inPlace := ["internal/bytealg.IndexByteString", "internal/bytealg.abigen_runtime_cmpstring", "slices.overlaps[loop.example/g00850/impl.Cell]"], unfollowed := true, recurses := true, apart := false, narrowed := true }
def FnCellsUptoSaid : Prop := fnCellsUptoRow.holds Try.pinned (OpenSpec.upto fnCellsSpec)

/-- 'laws.FnTimes', WHERE WHAT IT READS IS OF BULK AT MOST 1048576: true; the input reads as it did. -/
def fnTimesUptoRow : OpenClaim := { program := "ytcefofgdbmnkdaa", sum := "a3616c74ede495b2eead380af3c02f1773c0974366c2595fd5dcff2356c212d2", func := "loop.example/g00850/laws.FnTimes", spec := "fnTimes", inPlace := ["internal/bytealg.IndexByteString", "internal/bytealg.abigen_runtime_cmpstring"], unfollowed := true, recurses := true, apart := false, narrowed := true }
def FnTimesUptoSaid : Prop := fnTimesUptoRow.holds Try.pinned (OpenSpec.upto fnTimesSpec)

/-- 'laws.FnExactGoodKey', WHERE WHAT IT READS IS OF BULK AT MOST 1048576: true; the input reads as it did. -/
def fnExactGoodKeyUptoRow : OpenClaim := { program := "ytcefofgdbmnkdaa", sum := "a3616c74ede495b2eead380af3c02f1773c0974366c2595fd5dcff2356c212d2", func := "loop.example/g00850/laws.FnExactGoodKey", spec := "fnExactGoodKey", inPlace := ["internal/bytealg.IndexByteString"], apart := false, narrowed := true }
def FnExactGoodKeyUptoSaid : Prop := fnExactGoodKeyUptoRow.holds Try.pinned (OpenSpec.upto fnExactGoodKeySpec)

/-- 'laws.FnExactGoodVal', WHERE WHAT IT READS IS OF BULK AT MOST 1048576: true; the input reads as it did. -/
def fnExactGoodValUptoRow : OpenClaim := { program := "ytcefofgdbmnkdaa", sum := "a3616c74ede495b2eead380af3c02f1773c0974366c2595fd5dcff2356c212d2", func := "loop.example/g00850/laws.FnExactGoodVal", spec := "fnExactGoodVal", inPlace := ["internal/bytealg.IndexByteString"], apart := false, narrowed := true }
def FnExactGoodValUptoSaid : Prop := fnExactGoodValUptoRow.holds Try.pinned (OpenSpec.upto fnExactGoodValSpec)

/-- 'laws.FnExactGoodWrites', WHERE WHAT IT READS IS OF BULK AT MOST 1048576: true; the input reads as it did. -/
def fnExactGoodWritesUptoRow : OpenClaim := { program := "ytcefofgdbmnkdaa", sum := "a3616c74ede495b2eead380af3c02f1773c0974366c2595fd5dcff2356c212d2", func := "loop.example/g00850/laws.FnExactGoodWrites", spec := "fnExactGoodWrites", inPlace := ["internal/bytealg.IndexByteString"], apart := false, narrowed := true }
def FnExactGoodWritesUptoSaid : Prop := fnExactGoodWritesUptoRow.holds Try.pinned (OpenSpec.upto fnExactGoodWritesSpec)

/-- 'laws.FnExactGoodCells', WHERE WHAT IT READS IS OF BULK AT MOST 1048576: true; the input reads as it did. -/
def fnExactGoodCellsUptoRow : OpenClaim := { program := "ytcefofgdbmnkdaa", sum := "a3616c74ede495b2eead380af3c02f1773c0974366c2595fd5dcff2356c212d2", func := "loop.example/g00850/laws.FnExactGoodCells", spec := "fnExactGoodCells", inPlace := ["internal/bytealg.IndexByteString"], apart := false, narrowed := true }
def FnExactGoodCellsUptoSaid : Prop := fnExactGoodCellsUptoRow.holds Try.pinned (OpenSpec.upto fnExactGoodCellsSpec)

/-- 'laws.FnExactPutCells', WHERE WHAT IT READS IS OF BULK AT MOST 1048576: true; the input reads as it did. -/
def fnExactPutCellsUptoRow : OpenClaim := { program := "ytcefofgdbmnkdaa", sum := "a3616c74ede495b2eead380af3c02f1773c0974366c2595fd5dcff2356c212d2", func := "loop.example/g00850/laws.FnExactPutCells", spec := "fnExactPutCells", inPlace := ["internal/bytealg.IndexByteString", "internal/bytealg.abigen_runtime_cmpstring", "slices.overlaps[loop.example/g00850/impl.Cell]"], unfollowed := true, recurses := true, apart := false, narrowed := true }
def FnExactPutCellsUptoSaid : Prop := fnExactPutCellsUptoRow.holds Try.pinned (OpenSpec.upto fnExactPutCellsSpec)

/-- 'laws.FnExactCellAt', WHERE WHAT IT READS IS OF BULK AT MOST 1048576: true; the input reads as it did. -/
def fnExactCellAtUptoRow : OpenClaim := { program := "ytcefofgdbmnkdaa", sum := "a3616c74ede495b2eead380af3c02f1773c0974366c2595fd5dcff2356c212d2", func := "loop.example/g00850/laws.FnExactCellAt", spec := "fnExactCellAt", inPlace := ["internal/bytealg.IndexByteString", "internal/bytealg.abigen_runtime_cmpstring"], unfollowed := true, recurses := true, apart := false, narrowed := true }
def FnExactCellAtUptoSaid : Prop := fnExactCellAtUptoRow.holds Try.pinned (OpenSpec.upto fnExactCellAtSpec)

/-- 'laws.FnExactCellsAt', WHERE WHAT IT READS IS OF BULK AT MOST 1048576: true; the input reads as it did. -/
def fnExactCellsAtUptoRow : OpenClaim := { program := "ytcefofgdbmnkdaa", sum := "a3616c74ede495b2eead380af3c02f1773c0974366c2595fd5dcff2356c212d2", func := "loop.example/g00850/laws.FnExactCellsAt", spec := "fnExactCellsAt", inPlace := ["internal/bytealg.IndexByteString"], unfollowed := true, recurses := true, apart := false, narrowed := true }
def FnExactCellsAtUptoSaid : Prop := fnExactCellsAtUptoRow.holds Try.pinned (OpenSpec.upto fnExactCellsAtSpec)

/-- 'laws.FnExactTrimCells', WHERE WHAT IT READS IS OF BULK AT MOST 1048576: true; the input reads as it did. -/
def fnExactTrimCellsUptoRow : OpenClaim := { program := "ytcefofgdbmnkdaa", sum := "a3616c74ede495b2eead380af3c02f1773c0974366c2595fd5dcff2356c212d2", func := "loop.example/g00850/laws.FnExactTrimCells", spec := "fnExactTrimCells", inPlace := ["internal/bytealg.IndexByteString"], unfollowed := true, recurses := true, apart := false, narrowed := true }
def FnExactTrimCellsUptoSaid : Prop := fnExactTrimCellsUptoRow.holds Try.pinned (OpenSpec.upto fnExactTrimCellsSpec)

/-- 'laws.FnExactLastTime', WHERE WHAT IT READS IS OF BULK AT MOST 1048576: true; the input reads as it did. -/
def fnExactLastTimeUptoRow : OpenClaim := { program := "ytcefofgdbmnkdaa", sum := "a3616c74ede495b2eead380af3c02f1773c0974366c2595fd5dcff2356c212d2", func := "loop.example/g00850/laws.FnExactLastTime", spec := "fnExactLastTime", inPlace := ["internal/bytealg.IndexByteString", "internal/bytealg.abigen_runtime_cmpstring"], unfollowed := true, recurses := true, apart := false, narrowed := true }
def FnExactLastTimeUptoSaid : Prop := fnExactLastTimeUptoRow.holds Try.pinned (OpenSpec.upto fnExactLastTimeSpec)

/-- 'laws.FnExactSameCells', WHERE WHAT IT READS IS OF BULK AT MOST 1048576: true; the input reads as it did. -/
def fnExactSameCellsUptoRow : OpenClaim := { program := "ytcefofgdbmnkdaa", sum := "a3616c74ede495b2eead380af3c02f1773c0974366c2595fd5dcff2356c212d2", func := "loop.example/g00850/laws.FnExactSameCells", spec := "fnExactSameCells", unfollowed := true, recurses := true, apart := false, narrowed := true }
def FnExactSameCellsUptoSaid : Prop := fnExactSameCellsUptoRow.holds Try.pinned (OpenSpec.upto fnExactSameCellsSpec)

end Rows
end Go.Proofs.Ytcefofgdbmnkdaa
