/-
  No cell of these rows narrows 'for every input' (looked for: loops, veiled, ifaces, maps, wideKeys, modest, calm, conditions, laid).
  DERIVED. THE GIVEN ROWS OF THIS SEAT. 8 by the template 'for every input the law returns true; each argument reads behind the call as it read before'; 0 by the template 'total and deterministic' (their statements: YtndmjeaafnbgaaaTotals.lean).
  GIVEN WITH THE SEED: the statements are not yours to turn. If you find one false, say at which input.
  Laid BY PROGRAM, IN A SANDBOX (cutbox-rows.mjs): the forced cells as the released guide's own fill.sh prints them over the translation b35372473148b999… (all of the seat's roots in one cut). By AI agents, Wed Nov 11 2026. No macro, syntax, notation, axiom, sorry.
-/
import Derived.Test.YtndmjeaafnbgaaaChecked
import GoSem.Claim
import GoSem.ClaimJoined
import GoSem.ClaimMapViews
import Derived.JoinedTies
import Derived.KernelRfl
namespace Go.Proofs.Ytndmjeaafnbgaaa
/- THE CELL 'sum', in the pinned program and in every row, IS THE sha256 OF THE DUMP (.gsa) THAT YtndmjeaafnbgaaaProg.lean LOADS. Nothing in Lean hashes anything: it is a label: what it is worth is what the hold of that sum in a sandbox is worth. -/
noncomputable def Try.pinned : Pinned := { name := "ytndmjeaafnbgaaa", sum := "b35372473148b999cd1af4eaacd5d7c73e1efafa44760b7fab29836650e8925c", checked := Try.checked }
namespace Rows
def none {H : Type} : Left H := { results := [], args := [] }

/-- 'laws.FnCells': WHATEVER THE INPUT: true; the input reads as it did. -/
def fnCellsSpec : ChangeSpec := { name := "fnCells", fn := fun _ => fun
  | [d1, d2] => { results := [.lit (.bool true)], args := [d1, d2] }
  | _ => none }
def fnCellsRow : OpenClaim := { program := "ytndmjeaafnbgaaa", sum := "b35372473148b999cd1af4eaacd5d7c73e1efafa44760b7fab29836650e8925c", func := "loop.example/g00850/laws.FnCells", spec := "fnCells", inPlace := ["internal/bytealg.IndexByteString", "internal/bytealg.abigen_runtime_cmpstring", "slices.overlaps[loop.example/g00850/impl.Cell]"], unfollowed := true, recurses := true, apart := false }
def FnCellsSaid : Prop := fnCellsRow.holds Try.pinned (OpenSpec.ofChange fnCellsSpec)

/-- ITS FALSE NEIGHBOUR: 'it returns false'. Refute it at one input. -/
def fnCellsWrong : ChangeSpec := { name := "fnCells", fn := fun _ => fun
  | [d1, d2] => { results := [.lit (.bool false)], args := [d1, d2] }
  | _ => none }
def FnCellsWrongFalsely : Prop := fnCellsRow.holds Try.pinned (OpenSpec.ofChange fnCellsWrong)

/-- 'laws.FnTimes': WHATEVER THE INPUT: true; the input reads as it did. -/
def fnTimesSpec : ChangeSpec := { name := "fnTimes", fn := fun _ => fun
  | [d1, d2] => { results := [.lit (.bool true)], args := [d1, d2] }
  | _ => none }
def fnTimesRow : OpenClaim := { program := "ytndmjeaafnbgaaa", sum := "b35372473148b999cd1af4eaacd5d7c73e1efafa44760b7fab29836650e8925c", func := "loop.example/g00850/laws.FnTimes", spec := "fnTimes", inPlace := ["internal/bytealg.IndexByteString", "internal/bytealg.abigen_runtime_cmpstring"], unfollowed := true, recurses := true, apart := false }
def FnTimesSaid : Prop := fnTimesRow.holds Try.pinned (OpenSpec.ofChange fnTimesSpec)

/-- ITS FALSE NEIGHBOUR: 'it returns false'. Refute it at one input. -/
def fnTimesWrong : ChangeSpec := { name := "fnTimes", fn := fun _ => fun
  | [d1, d2] => { results := [.lit (.bool false)], args := [d1, d2] }
  | _ => none }
def FnTimesWrongFalsely : Prop := fnTimesRow.holds Try.pinned (OpenSpec.ofChange fnTimesWrong)

/-- 'laws.FnExactPutCells': WHATEVER THE INPUT: true; the input reads as it did. -/
def fnExactPutCellsSpec : ChangeSpec := { name := "fnExactPutCells", fn := fun _ => fun
  | [d1, d2, d3] => { results := [.lit (.bool true)], args := [d1, d2, d3] }
  | _ => none }
def fnExactPutCellsRow : OpenClaim := { program := "ytndmjeaafnbgaaa", sum := "b35372473148b999cd1af4eaacd5d7c73e1efafa44760b7fab29836650e8925c", func := "loop.example/g00850/laws.FnExactPutCells", spec := "fnExactPutCells", inPlace := ["internal/bytealg.IndexByteString", "internal/bytealg.abigen_runtime_cmpstring", "slices.overlaps[loop.example/g00850/impl.Cell]"], unfollowed := true, recurses := true, apart := false }
def FnExactPutCellsSaid : Prop := fnExactPutCellsRow.holds Try.pinned (OpenSpec.ofChange fnExactPutCellsSpec)

/-- ITS FALSE NEIGHBOUR: 'it returns false'. Refute it at one input. -/
def fnExactPutCellsWrong : ChangeSpec := { name := "fnExactPutCells", fn := fun _ => fun
  | [d1, d2, d3] => { results := [.lit (.bool false)], args := [d1, d2, d3] }
  | _ => none }
def FnExactPutCellsWrongFalsely : Prop := fnExactPutCellsRow.holds Try.pinned (OpenSpec.ofChange fnExactPutCellsWrong)

/-- 'laws.FnExactGoodRec': WHATEVER THE INPUT: true; the input reads as it did. -/
def fnExactGoodRecSpec : ChangeSpec := { name := "fnExactGoodRec", fn := fun _ => fun
  | [d] => { results := [.lit (.bool true)], args := [d] }
  | _ => none }
def fnExactGoodRecRow : OpenClaim := { program := "ytndmjeaafnbgaaa", sum := "b35372473148b999cd1af4eaacd5d7c73e1efafa44760b7fab29836650e8925c", func := "loop.example/g00850/laws.FnExactGoodRec", spec := "fnExactGoodRec", inPlace := ["internal/bytealg.IndexByteString"], apart := false }
def FnExactGoodRecSaid : Prop := fnExactGoodRecRow.holds Try.pinned (OpenSpec.ofChange fnExactGoodRecSpec)

/-- ITS FALSE NEIGHBOUR: 'it returns false'. Refute it at one input. -/
def fnExactGoodRecWrong : ChangeSpec := { name := "fnExactGoodRec", fn := fun _ => fun
  | [d] => { results := [.lit (.bool false)], args := [d] }
  | _ => none }
def FnExactGoodRecWrongFalsely : Prop := fnExactGoodRecRow.holds Try.pinned (OpenSpec.ofChange fnExactGoodRecWrong)

/-- 'laws.FnExactSameRec': WHATEVER THE INPUT: true; the input reads as it did. -/
def fnExactSameRecSpec : ChangeSpec := { name := "fnExactSameRec", fn := fun _ => fun
  | [d1, d2] => { results := [.lit (.bool true)], args := [d1, d2] }
  | _ => none }
def fnExactSameRecRow : OpenClaim := { program := "ytndmjeaafnbgaaa", sum := "b35372473148b999cd1af4eaacd5d7c73e1efafa44760b7fab29836650e8925c", func := "loop.example/g00850/laws.FnExactSameRec", spec := "fnExactSameRec", apart := false }
def FnExactSameRecSaid : Prop := fnExactSameRecRow.holds Try.pinned (OpenSpec.ofChange fnExactSameRecSpec)

/-- ITS FALSE NEIGHBOUR: 'it returns false'. Refute it at one input. -/
def fnExactSameRecWrong : ChangeSpec := { name := "fnExactSameRec", fn := fun _ => fun
  | [d1, d2] => { results := [.lit (.bool false)], args := [d1, d2] }
  | _ => none }
def FnExactSameRecWrongFalsely : Prop := fnExactSameRecRow.holds Try.pinned (OpenSpec.ofChange fnExactSameRecWrong)

/-- 'laws.FnExactRecBytes': WHATEVER THE INPUT: true; the input reads as it did. -/
def fnExactRecBytesSpec : ChangeSpec := { name := "fnExactRecBytes", fn := fun _ => fun
  | [d] => { results := [.lit (.bool true)], args := [d] }
  | _ => none }
def fnExactRecBytesRow : OpenClaim := { program := "ytndmjeaafnbgaaa", sum := "b35372473148b999cd1af4eaacd5d7c73e1efafa44760b7fab29836650e8925c", func := "loop.example/g00850/laws.FnExactRecBytes", spec := "fnExactRecBytes", inPlace := ["internal/bytealg.IndexByteString"], apart := false }
def FnExactRecBytesSaid : Prop := fnExactRecBytesRow.holds Try.pinned (OpenSpec.ofChange fnExactRecBytesSpec)

/-- ITS FALSE NEIGHBOUR: 'it returns false'. Refute it at one input. -/
def fnExactRecBytesWrong : ChangeSpec := { name := "fnExactRecBytes", fn := fun _ => fun
  | [d] => { results := [.lit (.bool false)], args := [d] }
  | _ => none }
def FnExactRecBytesWrongFalsely : Prop := fnExactRecBytesRow.holds Try.pinned (OpenSpec.ofChange fnExactRecBytesWrong)

/-- 'laws.FnExactReadRec': WHATEVER THE INPUT: true; the input reads as it did. -/
def fnExactReadRecSpec : ChangeSpec := { name := "fnExactReadRec", fn := fun _ => fun
  | [d] => { results := [.lit (.bool true)], args := [d] }
  | _ => none }
def fnExactReadRecRow : OpenClaim := { program := "ytndmjeaafnbgaaa", sum := "b35372473148b999cd1af4eaacd5d7c73e1efafa44760b7fab29836650e8925c", func := "loop.example/g00850/laws.FnExactReadRec", spec := "fnExactReadRec", inPlace := ["internal/bytealg.IndexByteString"], unfollowed := true, recurses := true, apart := false }
def FnExactReadRecSaid : Prop := fnExactReadRecRow.holds Try.pinned (OpenSpec.ofChange fnExactReadRecSpec)

/-- ITS FALSE NEIGHBOUR: 'it returns false'. Refute it at one input. -/
def fnExactReadRecWrong : ChangeSpec := { name := "fnExactReadRec", fn := fun _ => fun
  | [d] => { results := [.lit (.bool false)], args := [d] }
  | _ => none }
def FnExactReadRecWrongFalsely : Prop := fnExactReadRecRow.holds Try.pinned (OpenSpec.ofChange fnExactReadRecWrong)

/-- 'laws.FnExactKeysOf': WHATEVER THE INPUT: true; the input reads as it did. -/
def fnExactKeysOfSpec : ChangeSpec := { name := "fnExactKeysOf", fn := fun _ => fun
  | [d] => { results := [.lit (.bool true)], args := [d] }
  | _ => none }
def fnExactKeysOfRow : OpenClaim := { program := "ytndmjeaafnbgaaa", sum := "b35372473148b999cd1af4eaacd5d7c73e1efafa44760b7fab29836650e8925c", func := "loop.example/g00850/laws.FnExactKeysOf", spec := "fnExactKeysOf", inPlace := ["internal/bytealg.IndexByteString"], recurses := true, apart := false }
def FnExactKeysOfSaid : Prop := fnExactKeysOfRow.holds Try.pinned (OpenSpec.ofChange fnExactKeysOfSpec)

/-- ITS FALSE NEIGHBOUR: 'it returns false'. Refute it at one input. -/
def fnExactKeysOfWrong : ChangeSpec := { name := "fnExactKeysOf", fn := fun _ => fun
  | [d] => { results := [.lit (.bool false)], args := [d] }
  | _ => none }
def FnExactKeysOfWrongFalsely : Prop := fnExactKeysOfRow.holds Try.pinned (OpenSpec.ofChange fnExactKeysOfWrong)

/- THE SECOND FORM. 'bulk': how many values and letters a reading holds, each counted each time it is reached (what is shared counts as often as it is met; a slice's spare places count too). A statement '..UptoSaid' is the law's where the arguments, and the package variables that the reading takes, are together of bulk at most 1048576: NARROWER than '..Said'. Prove '..Said' where nothing that the law and all that it calls make is longer than what came in: it says more and counts as full. Else prove '..UptoSaid'. A law counts once. -/
mutual
def uptoBulk {H : Type} : DataW H → Nat
  | .lit (.string bytes) => bytes.length + 1
  | .lit _ => 1
  | .nil => 1
  | .ptr d => uptoBulk d + 1
  | .slice elems spare => uptoBulkAll elems + uptoBulkAll spare + 1
  | .agg parts => uptoBulkAll parts + 1
  | .iface _ d => uptoBulk d + 1
  | .map entries => uptoBulkEntries entries + 1
  | .held _ => 1
def uptoBulkAll {H : Type} : List (DataW H) → Nat
  | [] => 0
  | d :: r => uptoBulk d + uptoBulkAll r
def uptoBulkEntries {H : Type} : List (Lit × DataW H) → Nat
  | [] => 0
  | x :: r => uptoBulkEntry x + uptoBulkEntries r
def uptoBulkEntry {H : Type} : Lit × DataW H → Nat
  | (.string bytes, d) => bytes.length + uptoBulk d + 1
  | (_, d) => uptoBulk d + 1
 end
def uptoSmall : (H : Type) → List (DataW H) → Bool := fun _ ds => decide (uptoBulkAll ds ≤ 1048576)
def OpenSpec.upto (s : _root_.Go.ChangeSpec) : _root_.Go.OpenSpec := { _root_.Go.OpenSpec.ofChange s with cond := some uptoSmall }

/-- 'laws.FnCells', WHERE WHAT IT READS IS OF BULK AT MOST 1048576: true; the input reads as it did. -/
def fnCellsUptoRow : OpenClaim := { program := "ytndmjeaafnbgaaa", sum := "b35372473148b999cd1af4eaacd5d7c73e1efafa44760b7fab29836650e8925c", func := "loop.example/g00850/laws.FnCells", spec := "fnCells", inPlace := ["internal/bytealg.IndexByteString", "internal/bytealg.abigen_runtime_cmpstring", "slices.overlaps[loop.example/g00850/impl.Cell]"], unfollowed := true, recurses := true, apart := false, narrowed := true }
def FnCellsUptoSaid : Prop := fnCellsUptoRow.holds Try.pinned (OpenSpec.upto fnCellsSpec)

/-- 'laws.FnTimes', WHERE WHAT IT READS IS OF BULK AT MOST 1048576: true; the input reads as it did. -/
def fnTimesUptoRow : OpenClaim := { program := "ytndmjeaafnbgaaa", sum := "b35372473148b999cd1af4eaacd5d7c73e1efafa44760b7fab29836650e8925c", func := "loop.example/g00850/laws.FnTimes", spec := "fnTimes", inPlace := ["internal/bytealg.IndexByteString", "internal/bytealg.abigen_runtime_cmpstring"], unfollowed := true, recurses := true, apart := false, narrowed := true }
def FnTimesUptoSaid : Prop := fnTimesUptoRow.holds Try.pinned (OpenSpec.upto fnTimesSpec)

/-- 'laws.FnExactPutCells', WHERE WHAT IT READS IS OF BULK AT MOST 1048576: true; the input reads as it did. -/
def fnExactPutCellsUptoRow : OpenClaim := { program := "ytndmjeaafnbgaaa", sum := "b35372473148b999cd1af4eaacd5d7c73e1efafa44760b7fab29836650e8925c", func := "loop.example/g00850/laws.FnExactPutCells", spec := "fnExactPutCells", inPlace := ["internal/bytealg.IndexByteString", "internal/bytealg.abigen_runtime_cmpstring", "slices.overlaps[loop.example/g00850/impl.Cell]"], unfollowed := true, recurses := true, apart := false, narrowed := true }
def FnExactPutCellsUptoSaid : Prop := fnExactPutCellsUptoRow.holds Try.pinned (OpenSpec.upto fnExactPutCellsSpec)

/-- 'laws.FnExactGoodRec', WHERE WHAT IT READS IS OF BULK AT MOST 1048576: true; the input reads as it did. -/
def fnExactGoodRecUptoRow : OpenClaim := { program := "ytndmjeaafnbgaaa", sum := "b35372473148b999cd1af4eaacd5d7c73e1efafa44760b7fab29836650e8925c", func := "loop.example/g00850/laws.FnExactGoodRec", spec := "fnExactGoodRec", inPlace := ["internal/bytealg.IndexByteString"], apart := false, narrowed := true }
def FnExactGoodRecUptoSaid : Prop := fnExactGoodRecUptoRow.holds Try.pinned (OpenSpec.upto fnExactGoodRecSpec)

/-- 'laws.FnExactSameRec', WHERE WHAT IT READS IS OF BULK AT MOST 1048576: true; the input reads as it did. -/
def fnExactSameRecUptoRow : OpenClaim := { program := "ytndmjeaafnbgaaa", sum := "b35372473148b999cd1af4eaacd5d7c73e1efafa44760b7fab29836650e8925c", func := "loop.example/g00850/laws.FnExactSameRec", spec := "fnExactSameRec", apart := false, narrowed := true }
def FnExactSameRecUptoSaid : Prop := fnExactSameRecUptoRow.holds Try.pinned (OpenSpec.upto fnExactSameRecSpec)

/-- 'laws.FnExactRecBytes', WHERE WHAT IT READS IS OF BULK AT MOST 1048576: true; the input reads as it did. -/
def fnExactRecBytesUptoRow : OpenClaim := { program := "ytndmjeaafnbgaaa", sum := "b35372473148b999cd1af4eaacd5d7c73e1efafa44760b7fab29836650e8925c", func := "loop.example/g00850/laws.FnExactRecBytes", spec := "fnExactRecBytes", inPlace := ["internal/bytealg.IndexByteString"], apart := false, narrowed := true }
def FnExactRecBytesUptoSaid : Prop := fnExactRecBytesUptoRow.holds Try.pinned (OpenSpec.upto fnExactRecBytesSpec)

/-- 'laws.FnExactReadRec', WHERE WHAT IT READS IS OF BULK AT MOST 1048576: true; the input reads as it did. -/
def fnExactReadRecUptoRow : OpenClaim := { program := "ytndmjeaafnbgaaa", sum := "b35372473148b999cd1af4eaacd5d7c73e1efafa44760b7fab29836650e8925c", func := "loop.example/g00850/laws.FnExactReadRec", spec := "fnExactReadRec", inPlace := ["internal/bytealg.IndexByteString"], unfollowed := true, recurses := true, apart := false, narrowed := true }
def FnExactReadRecUptoSaid : Prop := fnExactReadRecUptoRow.holds Try.pinned (OpenSpec.upto fnExactReadRecSpec)

/-- 'laws.FnExactKeysOf', WHERE WHAT IT READS IS OF BULK AT MOST 1048576: true; the input reads as it did. -/
def fnExactKeysOfUptoRow : OpenClaim := { program := "ytndmjeaafnbgaaa", sum := "b35372473148b999cd1af4eaacd5d7c73e1efafa44760b7fab29836650e8925c", func := "loop.example/g00850/laws.FnExactKeysOf", spec := "fnExactKeysOf", inPlace := ["internal/bytealg.IndexByteString"], recurses := true, apart := false, narrowed := true }
def FnExactKeysOfUptoSaid : Prop := fnExactKeysOfUptoRow.holds Try.pinned (OpenSpec.upto fnExactKeysOfSpec)

end Rows
end Go.Proofs.Ytndmjeaafnbgaaa
