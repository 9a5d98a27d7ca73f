/-
  No cell of these rows narrows 'for every input' (looked for: loops, veiled, ifaces, maps, wideKeys, modest, calm, conditions, laid).
  DERIVED. THE GIVEN ROWS OF THIS SEAT. 13 by the template 'for every input the law returns true; each argument reads behind the call as it read before'; 0 by the template 'total and deterministic' (their statements: YtcjejbnogghkcaaTotals.lean).
  GIVEN WITH THE SEED: the statements are not yours to turn. If you find one false, say at which input.
  Laid BY PROGRAM, IN A SANDBOX (cutbox-rows.mjs): the forced cells as the released guide's own fill.sh prints them over the translation 241e52c4972c7ec9… (all of the seat's roots in one cut). By AI agents, Wed Nov 11 2026. No macro, syntax, notation, axiom, sorry.
-/
import Derived.Test.YtcjejbnogghkcaaChecked
import GoSem.Claim
import GoSem.ClaimJoined
import GoSem.ClaimMapViews
import Derived.JoinedTies
import Derived.KernelRfl
namespace Go.Proofs.Ytcjejbnogghkcaa
/- THE CELL 'sum', in the pinned program and in every row, IS THE sha256 OF THE DUMP (.gsa) THAT YtcjejbnogghkcaaProg.lean LOADS. Nothing in Lean hashes anything: it is a label: what it is worth is what the hold of that sum in a sandbox is worth. -/
noncomputable def Try.pinned : Pinned := { name := "ytcjejbnogghkcaa", sum := "241e52c4972c7ec97da5ad8d6e7ff8a9c4b2e9b5125b9782b65ca3396015973a", checked := Try.checked }
namespace Rows
def none {H : Type} : Left H := { results := [], args := [] }

/-- 'laws.FnFrames': WHATEVER THE INPUT: true; the input reads as it did. -/
def fnFramesSpec : ChangeSpec := { name := "fnFrames", fn := fun _ => fun
  | [d] => { results := [.lit (.bool true)], args := [d] }
  | _ => none }
def fnFramesRow : OpenClaim := { program := "ytcjejbnogghkcaa", sum := "241e52c4972c7ec97da5ad8d6e7ff8a9c4b2e9b5125b9782b65ca3396015973a", func := "loop.example/g00850/laws.FnFrames", spec := "fnFrames", unfollowed := true, recurses := true, apart := false }
def FnFramesSaid : Prop := fnFramesRow.holds Try.pinned (OpenSpec.ofChange fnFramesSpec)

/-- ITS FALSE NEIGHBOUR: 'it returns false'. Refute it at one input. -/
def fnFramesWrong : ChangeSpec := { name := "fnFrames", fn := fun _ => fun
  | [d] => { results := [.lit (.bool false)], args := [d] }
  | _ => none }
def FnFramesWrongFalsely : Prop := fnFramesRow.holds Try.pinned (OpenSpec.ofChange fnFramesWrong)

/-- 'laws.FnFall': WHATEVER THE INPUT: true; the input reads as it did. -/
def fnFallSpec : ChangeSpec := { name := "fnFall", fn := fun _ => fun
  | [d] => { results := [.lit (.bool true)], args := [d] }
  | _ => none }
def fnFallRow : OpenClaim := { program := "ytcjejbnogghkcaa", sum := "241e52c4972c7ec97da5ad8d6e7ff8a9c4b2e9b5125b9782b65ca3396015973a", func := "loop.example/g00850/laws.FnFall", spec := "fnFall", unfollowed := true, recurses := true, apart := false }
def FnFallSaid : Prop := fnFallRow.holds Try.pinned (OpenSpec.ofChange fnFallSpec)

/-- ITS FALSE NEIGHBOUR: 'it returns false'. Refute it at one input. -/
def fnFallWrong : ChangeSpec := { name := "fnFall", fn := fun _ => fun
  | [d] => { results := [.lit (.bool false)], args := [d] }
  | _ => none }
def FnFallWrongFalsely : Prop := fnFallRow.holds Try.pinned (OpenSpec.ofChange fnFallWrong)

/-- 'laws.FnMend': WHATEVER THE INPUT: true; the input reads as it did. -/
def fnMendSpec : ChangeSpec := { name := "fnMend", fn := fun _ => fun
  | [d] => { results := [.lit (.bool true)], args := [d] }
  | _ => none }
def fnMendRow : OpenClaim := { program := "ytcjejbnogghkcaa", sum := "241e52c4972c7ec97da5ad8d6e7ff8a9c4b2e9b5125b9782b65ca3396015973a", func := "loop.example/g00850/laws.FnMend", spec := "fnMend", unfollowed := true, recurses := true, apart := false }
def FnMendSaid : Prop := fnMendRow.holds Try.pinned (OpenSpec.ofChange fnMendSpec)

/-- ITS FALSE NEIGHBOUR: 'it returns false'. Refute it at one input. -/
def fnMendWrong : ChangeSpec := { name := "fnMend", fn := fun _ => fun
  | [d] => { results := [.lit (.bool false)], args := [d] }
  | _ => none }
def FnMendWrongFalsely : Prop := fnMendRow.holds Try.pinned (OpenSpec.ofChange fnMendWrong)

/-- 'laws.FnCut': WHATEVER THE INPUT: true; the input reads as it did. -/
def fnCutSpec : ChangeSpec := { name := "fnCut", fn := fun _ => fun
  | [d] => { results := [.lit (.bool true)], args := [d] }
  | _ => none }
def fnCutRow : OpenClaim := { program := "ytcjejbnogghkcaa", sum := "241e52c4972c7ec97da5ad8d6e7ff8a9c4b2e9b5125b9782b65ca3396015973a", func := "loop.example/g00850/laws.FnCut", spec := "fnCut", unfollowed := true, recurses := true, apart := false }
def FnCutSaid : Prop := fnCutRow.holds Try.pinned (OpenSpec.ofChange fnCutSpec)

/-- ITS FALSE NEIGHBOUR: 'it returns false'. Refute it at one input. -/
def fnCutWrong : ChangeSpec := { name := "fnCut", fn := fun _ => fun
  | [d] => { results := [.lit (.bool false)], args := [d] }
  | _ => none }
def FnCutWrongFalsely : Prop := fnCutRow.holds Try.pinned (OpenSpec.ofChange fnCutWrong)

/-- 'laws.FnExactGoodDisk': WHATEVER THE INPUT: true; the input reads as it did. -/
def fnExactGoodDiskSpec : ChangeSpec := { name := "fnExactGoodDisk", fn := fun _ => fun
  | [d] => { results := [.lit (.bool true)], args := [d] }
  | _ => none }
def fnExactGoodDiskRow : OpenClaim := { program := "ytcjejbnogghkcaa", sum := "241e52c4972c7ec97da5ad8d6e7ff8a9c4b2e9b5125b9782b65ca3396015973a", func := "loop.example/g00850/laws.FnExactGoodDisk", spec := "fnExactGoodDisk", apart := false }
def FnExactGoodDiskSaid : Prop := fnExactGoodDiskRow.holds Try.pinned (OpenSpec.ofChange fnExactGoodDiskSpec)

/-- ITS FALSE NEIGHBOUR: 'it returns false'. Refute it at one input. -/
def fnExactGoodDiskWrong : ChangeSpec := { name := "fnExactGoodDisk", fn := fun _ => fun
  | [d] => { results := [.lit (.bool false)], args := [d] }
  | _ => none }
def FnExactGoodDiskWrongFalsely : Prop := fnExactGoodDiskRow.holds Try.pinned (OpenSpec.ofChange fnExactGoodDiskWrong)

/-- 'laws.FnExactFrameBytes': WHATEVER THE INPUT: true; the input reads as it did. -/
def fnExactFrameBytesSpec : ChangeSpec := { name := "fnExactFrameBytes", fn := fun _ => fun
  | [d] => { results := [.lit (.bool true)], args := [d] }
  | _ => none }
def fnExactFrameBytesRow : OpenClaim := { program := "ytcjejbnogghkcaa", sum := "241e52c4972c7ec97da5ad8d6e7ff8a9c4b2e9b5125b9782b65ca3396015973a", func := "loop.example/g00850/laws.FnExactFrameBytes", spec := "fnExactFrameBytes", apart := false }
def FnExactFrameBytesSaid : Prop := fnExactFrameBytesRow.holds Try.pinned (OpenSpec.ofChange fnExactFrameBytesSpec)

/-- ITS FALSE NEIGHBOUR: 'it returns false'. Refute it at one input. -/
def fnExactFrameBytesWrong : ChangeSpec := { name := "fnExactFrameBytes", fn := fun _ => fun
  | [d] => { results := [.lit (.bool false)], args := [d] }
  | _ => none }
def FnExactFrameBytesWrongFalsely : Prop := fnExactFrameBytesRow.holds Try.pinned (OpenSpec.ofChange fnExactFrameBytesWrong)

/-- 'laws.FnExactReadFrame': WHATEVER THE INPUT: true; the input reads as it did. -/
def fnExactReadFrameSpec : ChangeSpec := { name := "fnExactReadFrame", fn := fun _ => fun
  | [d1, d2] => { results := [.lit (.bool true)], args := [d1, d2] }
  | _ => none }
def fnExactReadFrameRow : OpenClaim := { program := "ytcjejbnogghkcaa", sum := "241e52c4972c7ec97da5ad8d6e7ff8a9c4b2e9b5125b9782b65ca3396015973a", func := "loop.example/g00850/laws.FnExactReadFrame", spec := "fnExactReadFrame", unfollowed := true, recurses := true, apart := false }
def FnExactReadFrameSaid : Prop := fnExactReadFrameRow.holds Try.pinned (OpenSpec.ofChange fnExactReadFrameSpec)

/-- ITS FALSE NEIGHBOUR: 'it returns false'. Refute it at one input. -/
def fnExactReadFrameWrong : ChangeSpec := { name := "fnExactReadFrame", fn := fun _ => fun
  | [d1, d2] => { results := [.lit (.bool false)], args := [d1, d2] }
  | _ => none }
def FnExactReadFrameWrongFalsely : Prop := fnExactReadFrameRow.holds Try.pinned (OpenSpec.ofChange fnExactReadFrameWrong)

/-- 'laws.FnExactWriteDisk': WHATEVER THE INPUT: true; the input reads as it did. -/
def fnExactWriteDiskSpec : ChangeSpec := { name := "fnExactWriteDisk", fn := fun _ => fun
  | [d1, d2] => { results := [.lit (.bool true)], args := [d1, d2] }
  | _ => none }
def fnExactWriteDiskRow : OpenClaim := { program := "ytcjejbnogghkcaa", sum := "241e52c4972c7ec97da5ad8d6e7ff8a9c4b2e9b5125b9782b65ca3396015973a", func := "loop.example/g00850/laws.FnExactWriteDisk", spec := "fnExactWriteDisk", apart := false }
def FnExactWriteDiskSaid : Prop := fnExactWriteDiskRow.holds Try.pinned (OpenSpec.ofChange fnExactWriteDiskSpec)

/-- ITS FALSE NEIGHBOUR: 'it returns false'. Refute it at one input. -/
def fnExactWriteDiskWrong : ChangeSpec := { name := "fnExactWriteDisk", fn := fun _ => fun
  | [d1, d2] => { results := [.lit (.bool false)], args := [d1, d2] }
  | _ => none }
def FnExactWriteDiskWrongFalsely : Prop := fnExactWriteDiskRow.holds Try.pinned (OpenSpec.ofChange fnExactWriteDiskWrong)

/-- 'laws.FnExactSyncDisk': WHATEVER THE INPUT: true; the input reads as it did. -/
def fnExactSyncDiskSpec : ChangeSpec := { name := "fnExactSyncDisk", fn := fun _ => fun
  | [d] => { results := [.lit (.bool true)], args := [d] }
  | _ => none }
def fnExactSyncDiskRow : OpenClaim := { program := "ytcjejbnogghkcaa", sum := "241e52c4972c7ec97da5ad8d6e7ff8a9c4b2e9b5125b9782b65ca3396015973a", func := "loop.example/g00850/laws.FnExactSyncDisk", spec := "fnExactSyncDisk", apart := false }
def FnExactSyncDiskSaid : Prop := fnExactSyncDiskRow.holds Try.pinned (OpenSpec.ofChange fnExactSyncDiskSpec)

/-- ITS FALSE NEIGHBOUR: 'it returns false'. Refute it at one input. -/
def fnExactSyncDiskWrong : ChangeSpec := { name := "fnExactSyncDisk", fn := fun _ => fun
  | [d] => { results := [.lit (.bool false)], args := [d] }
  | _ => none }
def FnExactSyncDiskWrongFalsely : Prop := fnExactSyncDiskRow.holds Try.pinned (OpenSpec.ofChange fnExactSyncDiskWrong)

/-- 'laws.FnExactFallDisk': WHATEVER THE INPUT: true; the input reads as it did. -/
def fnExactFallDiskSpec : ChangeSpec := { name := "fnExactFallDisk", fn := fun _ => fun
  | [d1, d2, d3] => { results := [.lit (.bool true)], args := [d1, d2, d3] }
  | _ => none }
def fnExactFallDiskRow : OpenClaim := { program := "ytcjejbnogghkcaa", sum := "241e52c4972c7ec97da5ad8d6e7ff8a9c4b2e9b5125b9782b65ca3396015973a", func := "loop.example/g00850/laws.FnExactFallDisk", spec := "fnExactFallDisk", unfollowed := true, recurses := true, apart := false }
def FnExactFallDiskSaid : Prop := fnExactFallDiskRow.holds Try.pinned (OpenSpec.ofChange fnExactFallDiskSpec)

/-- ITS FALSE NEIGHBOUR: 'it returns false'. Refute it at one input. -/
def fnExactFallDiskWrong : ChangeSpec := { name := "fnExactFallDisk", fn := fun _ => fun
  | [d1, d2, d3] => { results := [.lit (.bool false)], args := [d1, d2, d3] }
  | _ => none }
def FnExactFallDiskWrongFalsely : Prop := fnExactFallDiskRow.holds Try.pinned (OpenSpec.ofChange fnExactFallDiskWrong)

/-- 'laws.FnExactFramesOn': WHATEVER THE INPUT: true; the input reads as it did. -/
def fnExactFramesOnSpec : ChangeSpec := { name := "fnExactFramesOn", fn := fun _ => fun
  | [d] => { results := [.lit (.bool true)], args := [d] }
  | _ => none }
def fnExactFramesOnRow : OpenClaim := { program := "ytcjejbnogghkcaa", sum := "241e52c4972c7ec97da5ad8d6e7ff8a9c4b2e9b5125b9782b65ca3396015973a", func := "loop.example/g00850/laws.FnExactFramesOn", spec := "fnExactFramesOn", unfollowed := true, recurses := true, apart := false }
def FnExactFramesOnSaid : Prop := fnExactFramesOnRow.holds Try.pinned (OpenSpec.ofChange fnExactFramesOnSpec)

/-- ITS FALSE NEIGHBOUR: 'it returns false'. Refute it at one input. -/
def fnExactFramesOnWrong : ChangeSpec := { name := "fnExactFramesOn", fn := fun _ => fun
  | [d] => { results := [.lit (.bool false)], args := [d] }
  | _ => none }
def FnExactFramesOnWrongFalsely : Prop := fnExactFramesOnRow.holds Try.pinned (OpenSpec.ofChange fnExactFramesOnWrong)

/-- 'laws.FnExactMendDisk': WHATEVER THE INPUT: true; the input reads as it did. -/
def fnExactMendDiskSpec : ChangeSpec := { name := "fnExactMendDisk", fn := fun _ => fun
  | [d] => { results := [.lit (.bool true)], args := [d] }
  | _ => none }
def fnExactMendDiskRow : OpenClaim := { program := "ytcjejbnogghkcaa", sum := "241e52c4972c7ec97da5ad8d6e7ff8a9c4b2e9b5125b9782b65ca3396015973a", func := "loop.example/g00850/laws.FnExactMendDisk", spec := "fnExactMendDisk", unfollowed := true, recurses := true, apart := false }
def FnExactMendDiskSaid : Prop := fnExactMendDiskRow.holds Try.pinned (OpenSpec.ofChange fnExactMendDiskSpec)

/-- ITS FALSE NEIGHBOUR: 'it returns false'. Refute it at one input. -/
def fnExactMendDiskWrong : ChangeSpec := { name := "fnExactMendDisk", fn := fun _ => fun
  | [d] => { results := [.lit (.bool false)], args := [d] }
  | _ => none }
def FnExactMendDiskWrongFalsely : Prop := fnExactMendDiskRow.holds Try.pinned (OpenSpec.ofChange fnExactMendDiskWrong)

/-- 'laws.FnExactCutDisk': WHATEVER THE INPUT: true; the input reads as it did. -/
def fnExactCutDiskSpec : ChangeSpec := { name := "fnExactCutDisk", fn := fun _ => fun
  | [d1, d2] => { results := [.lit (.bool true)], args := [d1, d2] }
  | _ => none }
def fnExactCutDiskRow : OpenClaim := { program := "ytcjejbnogghkcaa", sum := "241e52c4972c7ec97da5ad8d6e7ff8a9c4b2e9b5125b9782b65ca3396015973a", func := "loop.example/g00850/laws.FnExactCutDisk", spec := "fnExactCutDisk", unfollowed := true, recurses := true, apart := false }
def FnExactCutDiskSaid : Prop := fnExactCutDiskRow.holds Try.pinned (OpenSpec.ofChange fnExactCutDiskSpec)

/-- ITS FALSE NEIGHBOUR: 'it returns false'. Refute it at one input. -/
def fnExactCutDiskWrong : ChangeSpec := { name := "fnExactCutDisk", fn := fun _ => fun
  | [d1, d2] => { results := [.lit (.bool false)], args := [d1, d2] }
  | _ => none }
def FnExactCutDiskWrongFalsely : Prop := fnExactCutDiskRow.holds Try.pinned (OpenSpec.ofChange fnExactCutDiskWrong)

/- THE SECOND FORM. 'bulk': how many values and letters a reading holds, each counted each time it is reached (what is shared counts as often as it is met; a slice's spare places count too). A statement '..UptoSaid' is the law's where the arguments, and the package variables that the reading takes, are together of bulk at most 1048576: NARROWER than '..Said'. Prove '..Said' where nothing that the law and all that it calls make is longer than what came in: it says more and counts as full. Else prove '..UptoSaid'. A law counts once. -/
mutual
def uptoBulk {H : Type} : DataW H → Nat
  | .lit (.string bytes) => bytes.length + 1
  | .lit _ => 1
  | .nil => 1
  | .ptr d => uptoBulk d + 1
  | .slice elems spare => uptoBulkAll elems + uptoBulkAll spare + 1
  | .agg parts => uptoBulkAll parts + 1
  | .iface _ d => uptoBulk d + 1
  | .map entries => uptoBulkEntries entries + 1
  | .held _ => 1
def uptoBulkAll {H : Type} : List (DataW H) → Nat
  | [] => 0
  | d :: r => uptoBulk d + uptoBulkAll r
def uptoBulkEntries {H : Type} : List (Lit × DataW H) → Nat
  | [] => 0
  | x :: r => uptoBulkEntry x + uptoBulkEntries r
def uptoBulkEntry {H : Type} : Lit × DataW H → Nat
  | (.string bytes, d) => bytes.length + uptoBulk d + 1
  | (_, d) => uptoBulk d + 1
 end
def uptoSmall : (H : Type) → List (DataW H) → Bool := fun _ ds => decide (uptoBulkAll ds ≤ 1048576)
def OpenSpec.upto (s : _root_.Go.ChangeSpec) : _root_.Go.OpenSpec := { _root_.Go.OpenSpec.ofChange s with cond := some uptoSmall }

/-- 'laws.FnFrames', WHERE WHAT IT READS IS OF BULK AT MOST 1048576: true; the input reads as it did. -/
def fnFramesUptoRow : OpenClaim := { program := "ytcjejbnogghkcaa", sum := "241e52c4972c7ec97da5ad8d6e7ff8a9c4b2e9b5125b9782b65ca3396015973a", func := "loop.example/g00850/laws.FnFrames", spec := "fnFrames", unfollowed := true, recurses := true, apart := false, narrowed := true }
def FnFramesUptoSaid : Prop := fnFramesUptoRow.holds Try.pinned (OpenSpec.upto fnFramesSpec)

/-- 'laws.FnFall', WHERE WHAT IT READS IS OF BULK AT MOST 1048576: true; the input reads as it did. -/
def fnFallUptoRow : OpenClaim := { program := "ytcjejbnogghkcaa", sum := "241e52c4972c7ec97da5ad8d6e7ff8a9c4b2e9b5125b9782b65ca3396015973a", func := "loop.example/g00850/laws.FnFall", spec := "fnFall", unfollowed := true, recurses := true, apart := false, narrowed := true }
def FnFallUptoSaid : Prop := fnFallUptoRow.holds Try.pinned (OpenSpec.upto fnFallSpec)

/-- 'laws.FnMend', WHERE WHAT IT READS IS OF BULK AT MOST 1048576: true; the input reads as it did. -/
def fnMendUptoRow : OpenClaim := { program := "ytcjejbnogghkcaa", sum := "241e52c4972c7ec97da5ad8d6e7ff8a9c4b2e9b5125b9782b65ca3396015973a", func := "loop.example/g00850/laws.FnMend", spec := "fnMend", unfollowed := true, recurses := true, apart := false, narrowed := true }
def FnMendUptoSaid : Prop := fnMendUptoRow.holds Try.pinned (OpenSpec.upto fnMendSpec)

/-- 'laws.FnCut', WHERE WHAT IT READS IS OF BULK AT MOST 1048576: true; the input reads as it did. -/
def fnCutUptoRow : OpenClaim := { program := "ytcjejbnogghkcaa", sum := "241e52c4972c7ec97da5ad8d6e7ff8a9c4b2e9b5125b9782b65ca3396015973a", func := "loop.example/g00850/laws.FnCut", spec := "fnCut", unfollowed := true, recurses := true, apart := false, narrowed := true }
def FnCutUptoSaid : Prop := fnCutUptoRow.holds Try.pinned (OpenSpec.upto fnCutSpec)

/-- 'laws.FnExactGoodDisk', WHERE WHAT IT READS IS OF BULK AT MOST 1048576: true; the input reads as it did. -/
def fnExactGoodDiskUptoRow : OpenClaim := { program := "ytcjejbnogghkcaa", sum := "241e52c4972c7ec97da5ad8d6e7ff8a9c4b2e9b5125b9782b65ca3396015973a", func := "loop.example/g00850/laws.FnExactGoodDisk", spec := "fnExactGoodDisk", apart := false, narrowed := true }
def FnExactGoodDiskUptoSaid : Prop := fnExactGoodDiskUptoRow.holds Try.pinned (OpenSpec.upto fnExactGoodDiskSpec)

/-- 'laws.FnExactFrameBytes', WHERE WHAT IT READS IS OF BULK AT MOST 1048576: true; the input reads as it did. -/
def fnExactFrameBytesUptoRow : OpenClaim := { program := "ytcjejbnogghkcaa", sum := "241e52c4972c7ec97da5ad8d6e7ff8a9c4b2e9b5125b9782b65ca3396015973a", func := "loop.example/g00850/laws.FnExactFrameBytes", spec := "fnExactFrameBytes", apart := false, narrowed := true }
def FnExactFrameBytesUptoSaid : Prop := fnExactFrameBytesUptoRow.holds Try.pinned (OpenSpec.upto fnExactFrameBytesSpec)

/-- 'laws.FnExactReadFrame', WHERE WHAT IT READS IS OF BULK AT MOST 1048576: true; the input reads as it did. -/
def fnExactReadFrameUptoRow : OpenClaim := { program := "ytcjejbnogghkcaa", sum := "241e52c4972c7ec97da5ad8d6e7ff8a9c4b2e9b5125b9782b65ca3396015973a", func := "loop.example/g00850/laws.FnExactReadFrame", spec := "fnExactReadFrame", unfollowed := true, recurses := true, apart := false, narrowed := true }
def FnExactReadFrameUptoSaid : Prop := fnExactReadFrameUptoRow.holds Try.pinned (OpenSpec.upto fnExactReadFrameSpec)

/-- 'laws.FnExactWriteDisk', WHERE WHAT IT READS IS OF BULK AT MOST 1048576: true; the input reads as it did. -/
def fnExactWriteDiskUptoRow : OpenClaim := { program := "ytcjejbnogghkcaa", sum := "241e52c4972c7ec97da5ad8d6e7ff8a9c4b2e9b5125b9782b65ca3396015973a", func := "loop.example/g00850/laws.FnExactWriteDisk", spec := "fnExactWriteDisk", apart := false, narrowed := true }
def FnExactWriteDiskUptoSaid : Prop := fnExactWriteDiskUptoRow.holds Try.pinned (OpenSpec.upto fnExactWriteDiskSpec)

/-- 'laws.FnExactSyncDisk', WHERE WHAT IT READS IS OF BULK AT MOST 1048576: true; the input reads as it did. -/
def fnExactSyncDiskUptoRow : OpenClaim := { program := "ytcjejbnogghkcaa", sum := "241e52c4972c7ec97da5ad8d6e7ff8a9c4b2e9b5125b9782b65ca3396015973a", func := "loop.example/g00850/laws.FnExactSyncDisk", spec := "fnExactSyncDisk", apart := false, narrowed := true }
def FnExactSyncDiskUptoSaid : Prop := fnExactSyncDiskUptoRow.holds Try.pinned (OpenSpec.upto fnExactSyncDiskSpec)

/-- 'laws.FnExactFallDisk', WHERE WHAT IT READS IS OF BULK AT MOST 1048576: true; the input reads as it did. -/
def fnExactFallDiskUptoRow : OpenClaim := { program := "ytcjejbnogghkcaa", sum := "241e52c4972c7ec97da5ad8d6e7ff8a9c4b2e9b5125b9782b65ca3396015973a", func := "loop.example/g00850/laws.FnExactFallDisk", spec := "fnExactFallDisk", unfollowed := true, recurses := true, apart := false, narrowed := true }
def FnExactFallDiskUptoSaid : Prop := fnExactFallDiskUptoRow.holds Try.pinned (OpenSpec.upto fnExactFallDiskSpec)

/-- 'laws.FnExactFramesOn', WHERE WHAT IT READS IS OF BULK AT MOST 1048576: true; the input reads as it did. -/
def fnExactFramesOnUptoRow : OpenClaim := { program := "ytcjejbnogghkcaa", sum := "241e52c4972c7ec97da5ad8d6e7ff8a9c4b2e9b5125b9782b65ca3396015973a", func := "loop.example/g00850/laws.FnExactFramesOn", spec := "fnExactFramesOn", unfollowed := true, recurses := true, apart := false, narrowed := true }
def FnExactFramesOnUptoSaid : Prop := fnExactFramesOnUptoRow.holds Try.pinned (OpenSpec.upto fnExactFramesOnSpec)

/-- 'laws.FnExactMendDisk', WHERE WHAT IT READS IS OF BULK AT MOST 1048576: true; the input reads as it did. -/
def fnExactMendDiskUptoRow : OpenClaim := { program := "ytcjejbnogghkcaa", sum := "241e52c4972c7ec97da5ad8d6e7ff8a9c4b2e9b5125b9782b65ca3396015973a", func := "loop.example/g00850/laws.FnExactMendDisk", spec := "fnExactMendDisk", unfollowed := true, recurses := true, apart := false, narrowed := true }
def FnExactMendDiskUptoSaid : Prop := fnExactMendDiskUptoRow.holds Try.pinned (OpenSpec.upto fnExactMendDiskSpec)

/-- 'laws.FnExactCutDisk', WHERE WHAT IT READS IS OF BULK AT MOST 1048576: true; the input reads as it did. -/
def fnExactCutDiskUptoRow : OpenClaim := { program := "ytcjejbnogghkcaa", sum := "241e52c4972c7ec97da5ad8d6e7ff8a9c4b2e9b5125b9782b65ca3396015973a", func := "loop.example/g00850/laws.FnExactCutDisk", spec := "fnExactCutDisk", unfollowed := true, recurses := true, apart := false, narrowed := true }
def FnExactCutDiskUptoSaid : Prop := fnExactCutDiskUptoRow.holds Try.pinned (OpenSpec.upto fnExactCutDiskSpec)

end Rows
end Go.Proofs.Ytcjejbnogghkcaa
