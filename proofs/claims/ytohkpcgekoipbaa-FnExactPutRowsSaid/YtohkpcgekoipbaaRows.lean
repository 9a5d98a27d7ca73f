/-
  No cell of these rows narrows 'for every input' (looked for: loops, veiled, ifaces, maps, wideKeys, modest, calm, conditions, laid).
  DERIVED. THE GIVEN ROWS OF THIS SEAT. 4 by the template 'for every input the law returns true; each argument reads behind the call as it read before'; 0 by the template 'total and deterministic' (their statements: YtohkpcgekoipbaaTotals.lean).
  GIVEN WITH THE SEED: the statements are not yours to turn. If you find one false, say at which input.
  Laid BY PROGRAM, IN A SANDBOX (cutbox-rows.mjs): the forced cells as the released guide's own fill.sh prints them over the translation 843a2247a7a58ce8… (all of the seat's roots in one cut). By AI agents, Wed Nov 11 2026. No macro, syntax, notation, axiom, sorry.
-/
import Derived.Test.YtohkpcgekoipbaaChecked
import GoSem.Claim
import GoSem.ClaimJoined
import GoSem.ClaimMapViews
import Derived.JoinedTies
import Derived.KernelRfl
namespace Go.Proofs.Ytohkpcgekoipbaa
/- THE CELL 'sum', in the pinned program and in every row, IS THE sha256 OF THE DUMP (.gsa) THAT YtohkpcgekoipbaaProg.lean LOADS. Nothing in Lean hashes anything: it is a label: what it is worth is what the hold of that sum in a sandbox is worth. -/
noncomputable def Try.pinned : Pinned := { name := "ytohkpcgekoipbaa", sum := "843a2247a7a58ce865baeb25ca97110fe640e95a88a8a9fb28e0c4481c4cf72e", checked := Try.checked }
namespace Rows
def none {H : Type} : Left H := { results := [], args := [] }

/-- 'laws.FnExactGoodOps': WHATEVER THE INPUT: true; the input reads as it did. -/
def fnExactGoodOpsSpec : ChangeSpec := { name := "fnExactGoodOps", fn := fun _ => fun
  | [d] => { results := [.lit (.bool true)], args := [d] }
  | _ => none }
def fnExactGoodOpsRow : OpenClaim := { program := "ytohkpcgekoipbaa", sum := "843a2247a7a58ce865baeb25ca97110fe640e95a88a8a9fb28e0c4481c4cf72e", func := "loop.example/g00850/laws.FnExactGoodOps", spec := "fnExactGoodOps", inPlace := ["internal/bytealg.IndexByteString"], apart := false }
def FnExactGoodOpsSaid : Prop := fnExactGoodOpsRow.holds Try.pinned (OpenSpec.ofChange fnExactGoodOpsSpec)

/-- ITS FALSE NEIGHBOUR: 'it returns false'. Refute it at one input. -/
def fnExactGoodOpsWrong : ChangeSpec := { name := "fnExactGoodOps", fn := fun _ => fun
  | [d] => { results := [.lit (.bool false)], args := [d] }
  | _ => none }
def FnExactGoodOpsWrongFalsely : Prop := fnExactGoodOpsRow.holds Try.pinned (OpenSpec.ofChange fnExactGoodOpsWrong)

/-- 'laws.FnExactNumberIn': WHATEVER THE INPUT: true; the input reads as it did. -/
def fnExactNumberInSpec : ChangeSpec := { name := "fnExactNumberIn", fn := fun _ => fun
  | [d] => { results := [.lit (.bool true)], args := [d] }
  | _ => none }
def fnExactNumberInRow : OpenClaim := { program := "ytohkpcgekoipbaa", sum := "843a2247a7a58ce865baeb25ca97110fe640e95a88a8a9fb28e0c4481c4cf72e", func := "loop.example/g00850/laws.FnExactNumberIn", spec := "fnExactNumberIn", apart := false }
def FnExactNumberInSaid : Prop := fnExactNumberInRow.holds Try.pinned (OpenSpec.ofChange fnExactNumberInSpec)

/-- ITS FALSE NEIGHBOUR: 'it returns false'. Refute it at one input. -/
def fnExactNumberInWrong : ChangeSpec := { name := "fnExactNumberIn", fn := fun _ => fun
  | [d] => { results := [.lit (.bool false)], args := [d] }
  | _ => none }
def FnExactNumberInWrongFalsely : Prop := fnExactNumberInRow.holds Try.pinned (OpenSpec.ofChange fnExactNumberInWrong)

/-- 'laws.FnExactKeysWritten': WHATEVER THE INPUT: true; the input reads as it did. -/
def fnExactKeysWrittenSpec : ChangeSpec := { name := "fnExactKeysWritten", fn := fun _ => fun
  | [d] => { results := [.lit (.bool true)], args := [d] }
  | _ => none }
def fnExactKeysWrittenRow : OpenClaim := { program := "ytohkpcgekoipbaa", sum := "843a2247a7a58ce865baeb25ca97110fe640e95a88a8a9fb28e0c4481c4cf72e", func := "loop.example/g00850/laws.FnExactKeysWritten", spec := "fnExactKeysWritten", inPlace := ["internal/bytealg.IndexByteString"], unfollowed := true, recurses := true, apart := false }
def FnExactKeysWrittenSaid : Prop := fnExactKeysWrittenRow.holds Try.pinned (OpenSpec.ofChange fnExactKeysWrittenSpec)

/-- ITS FALSE NEIGHBOUR: 'it returns false'. Refute it at one input. -/
def fnExactKeysWrittenWrong : ChangeSpec := { name := "fnExactKeysWritten", fn := fun _ => fun
  | [d] => { results := [.lit (.bool false)], args := [d] }
  | _ => none }
def FnExactKeysWrittenWrongFalsely : Prop := fnExactKeysWrittenRow.holds Try.pinned (OpenSpec.ofChange fnExactKeysWrittenWrong)

/-- 'laws.FnExactPutRows': WHATEVER THE INPUT: true; the input reads as it did. -/
def fnExactPutRowsSpec : ChangeSpec := { name := "fnExactPutRows", fn := fun _ => fun
  | [d1, d2] => { results := [.lit (.bool true)], args := [d1, d2] }
  | _ => none }
def fnExactPutRowsRow : OpenClaim := { program := "ytohkpcgekoipbaa", sum := "843a2247a7a58ce865baeb25ca97110fe640e95a88a8a9fb28e0c4481c4cf72e", func := "loop.example/g00850/laws.FnExactPutRows", spec := "fnExactPutRows", inPlace := ["internal/bytealg.IndexByteString", "internal/bytealg.abigen_runtime_cmpstring", "slices.overlaps[loop.example/g00850/impl.Write]"], unfollowed := true, recurses := true, apart := false }
def FnExactPutRowsSaid : Prop := fnExactPutRowsRow.holds Try.pinned (OpenSpec.ofChange fnExactPutRowsSpec)

/-- ITS FALSE NEIGHBOUR: 'it returns false'. Refute it at one input. -/
def fnExactPutRowsWrong : ChangeSpec := { name := "fnExactPutRows", fn := fun _ => fun
  | [d1, d2] => { results := [.lit (.bool false)], args := [d1, d2] }
  | _ => none }
def FnExactPutRowsWrongFalsely : Prop := fnExactPutRowsRow.holds Try.pinned (OpenSpec.ofChange fnExactPutRowsWrong)

/- THE SECOND FORM. 'bulk': how many values and letters a reading holds, each counted each time it is reached (what is shared counts as often as it is met; a slice's spare places count too). A statement '..UptoSaid' is the law's where the arguments, and the package variables that the reading takes, are together of bulk at most 1048576: NARROWER than '..Said'. Prove '..Said' where nothing that the law and all that it calls make is longer than what came in: it says more and counts as full. Else prove '..UptoSaid'. A law counts once. -/
mutual
def uptoBulk {H : Type} : DataW H → Nat
  | .lit (.string bytes) => bytes.length + 1
  | .lit _ => 1
  | .nil => 1
  | .ptr d => uptoBulk d + 1
  | .slice elems spare => uptoBulkAll elems + uptoBulkAll spare + 1
  | .agg parts => uptoBulkAll parts + 1
  | .iface _ d => uptoBulk d + 1
  | .map entries => uptoBulkEntries entries + 1
  | .held _ => 1
def uptoBulkAll {H : Type} : List (DataW H) → Nat
  | [] => 0
  | d :: r => uptoBulk d + uptoBulkAll r
def uptoBulkEntries {H : Type} : List (Lit × DataW H) → Nat
  | [] => 0
  | x :: r => uptoBulkEntry x + uptoBulkEntries r
def uptoBulkEntry {H : Type} : Lit × DataW H → Nat
  | (.string bytes, d) => bytes.length + uptoBulk d + 1
  | (_, d) => uptoBulk d + 1
 end
def uptoSmall : (H : Type) → List (DataW H) → Bool := fun _ ds => decide (uptoBulkAll ds ≤ 1048576)
def OpenSpec.upto (s : _root_.Go.ChangeSpec) : _root_.Go.OpenSpec := { _root_.Go.OpenSpec.ofChange s with cond := some uptoSmall }

/-- 'laws.FnExactGoodOps', WHERE WHAT IT READS IS OF BULK AT MOST 1048576: true; the input reads as it did. -/
def fnExactGoodOpsUptoRow : OpenClaim := { program := "ytohkpcgekoipbaa", sum := "843a2247a7a58ce865baeb25ca97110fe640e95a88a8a9fb28e0c4481c4cf72e", func := "loop.example/g00850/laws.FnExactGoodOps", spec := "fnExactGoodOps", inPlace := ["internal/bytealg.IndexByteString"], apart := false, narrowed := true }
def FnExactGoodOpsUptoSaid : Prop := fnExactGoodOpsUptoRow.holds Try.pinned (OpenSpec.upto fnExactGoodOpsSpec)

/-- 'laws.FnExactNumberIn', WHERE WHAT IT READS IS OF BULK AT MOST 1048576: true; the input reads as it did. -/
def fnExactNumberInUptoRow : OpenClaim := { program := "ytohkpcgekoipbaa", sum := "843a2247a7a58ce865baeb25ca97110fe640e95a88a8a9fb28e0c4481c4cf72e", func := "loop.example/g00850/laws.FnExactNumberIn", spec := "fnExactNumberIn", apart := false, narrowed := true }
def FnExactNumberInUptoSaid : Prop := fnExactNumberInUptoRow.holds Try.pinned (OpenSpec.upto fnExactNumberInSpec)

/-- 'laws.FnExactKeysWritten', WHERE WHAT IT READS IS OF BULK AT MOST 1048576: true; the input reads as it did. -/
def fnExactKeysWrittenUptoRow : OpenClaim := { program := "ytohkpcgekoipbaa", sum := "843a2247a7a58ce865baeb25ca97110fe640e95a88a8a9fb28e0c4481c4cf72e", func := "loop.example/g00850/laws.FnExactKeysWritten", spec := "fnExactKeysWritten", inPlace := ["internal/bytealg.IndexByteString"], unfollowed := true, recurses := true, apart := false, narrowed := true }
def FnExactKeysWrittenUptoSaid : Prop := fnExactKeysWrittenUptoRow.holds Try.pinned (OpenSpec.upto fnExactKeysWrittenSpec)

/-- 'laws.FnExactPutRows', WHERE WHAT IT READS IS OF BULK AT MOST 1048576: true; the input reads as it did. -/
def fnExactPutRowsUptoRow : OpenClaim := { program := "ytohkpcgekoipbaa", sum := "843a2247a7a58ce865baeb25ca97110fe640e95a88a8a9fb28e0c4481c4cf72e", func := "loop.example/g00850/laws.FnExactPutRows", spec := "fnExactPutRows", inPlace := ["internal/bytealg.IndexByteString", "internal/bytealg.abigen_runtime_cmpstring", "slices.overlaps[loop.example/g00850/impl.Write]"], unfollowed := true, recurses := true, apart := false, narrowed := true }
def FnExactPutRowsUptoSaid : Prop := fnExactPutRowsUptoRow.holds Try.pinned (OpenSpec.upto fnExactPutRowsSpec)

end Rows
end Go.Proofs.Ytohkpcgekoipbaa
