/-
  No cell of these rows narrows 'for every input' (looked for: loops, veiled, ifaces, maps, wideKeys, modest, calm, conditions, laid).
  DERIVED. THE GIVEN ROWS OF THIS SEAT. 10 by the template 'for every input the law returns true; each argument reads behind the call as it read before'; 0 by the template 'total and deterministic' (their statements: YtnmhigbnlpcedaaTotals.lean).
  GIVEN WITH THE SEED: the statements are not yours to turn. If you find one false, say at which input.
  Laid BY PROGRAM, IN A SANDBOX (cutbox-rows.mjs): the forced cells as the released guide's own fill.sh prints them over the translation f5f5fa1d235801af… (all of the seat's roots in one cut). By AI agents, Wed Nov 11 2026. No macro, syntax, notation, axiom, sorry.
-/
import Derived.Test.YtnmhigbnlpcedaaChecked
import GoSem.Claim
import GoSem.ClaimJoined
import GoSem.ClaimMapViews
import Derived.JoinedTies
import Derived.KernelRfl
namespace Go.Proofs.Ytnmhigbnlpcedaa
/- THE CELL 'sum', in the pinned program and in every row, IS THE sha256 OF THE DUMP (.gsa) THAT YtnmhigbnlpcedaaProg.lean LOADS. Nothing in Lean hashes anything: it is a label: what it is worth is what the hold of that sum in a sandbox is worth. -/
noncomputable def Try.pinned : Pinned := { name := "ytnmhigbnlpcedaa", sum := "f5f5fa1d235801af5878582cfa93988a504f6af7f52db0d851ac0fe4a361d926", checked := Try.checked }
namespace Rows
def none {H : Type} : Left H := { results := [], args := [] }

/-- 'laws.FnExactNewGroup': WHATEVER THE INPUT: true; the input reads as it did. -/
def fnExactNewGroupSpec : ChangeSpec := { name := "fnExactNewGroup", fn := fun _ => fun
  | [d] => { results := [.lit (.bool true)], args := [d] }
  | _ => none }
def fnExactNewGroupRow : OpenClaim := { program := "ytnmhigbnlpcedaa", sum := "f5f5fa1d235801af5878582cfa93988a504f6af7f52db0d851ac0fe4a361d926", func := "loop.example/g00850/laws.FnExactNewGroup", spec := "fnExactNewGroup", apart := false }
def FnExactNewGroupSaid : Prop := fnExactNewGroupRow.holds Try.pinned (OpenSpec.ofChange fnExactNewGroupSpec)

/-- ITS FALSE NEIGHBOUR: 'it returns false'. Refute it at one input. -/
def fnExactNewGroupWrong : ChangeSpec := { name := "fnExactNewGroup", fn := fun _ => fun
  | [d] => { results := [.lit (.bool false)], args := [d] }
  | _ => none }
def FnExactNewGroupWrongFalsely : Prop := fnExactNewGroupRow.holds Try.pinned (OpenSpec.ofChange fnExactNewGroupWrong)

/-- 'laws.FnExactGoodGroup': WHATEVER THE INPUT: true; the input reads as it did. -/
def fnExactGoodGroupSpec : ChangeSpec := { name := "fnExactGoodGroup", fn := fun _ => fun
  | [d] => { results := [.lit (.bool true)], args := [d] }
  | _ => none }
def fnExactGoodGroupRow : OpenClaim := { program := "ytnmhigbnlpcedaa", sum := "f5f5fa1d235801af5878582cfa93988a504f6af7f52db0d851ac0fe4a361d926", func := "loop.example/g00850/laws.FnExactGoodGroup", spec := "fnExactGoodGroup", inPlace := ["internal/bytealg.IndexByteString"], apart := false }
def FnExactGoodGroupSaid : Prop := fnExactGoodGroupRow.holds Try.pinned (OpenSpec.ofChange fnExactGoodGroupSpec)

/-- ITS FALSE NEIGHBOUR: 'it returns false'. Refute it at one input. -/
def fnExactGoodGroupWrong : ChangeSpec := { name := "fnExactGoodGroup", fn := fun _ => fun
  | [d] => { results := [.lit (.bool false)], args := [d] }
  | _ => none }
def FnExactGoodGroupWrongFalsely : Prop := fnExactGoodGroupRow.holds Try.pinned (OpenSpec.ofChange fnExactGoodGroupWrong)

/-- 'laws.FnExactCrashRep': WHATEVER THE INPUT: true; the input reads as it did. -/
def fnExactCrashRepSpec : ChangeSpec := { name := "fnExactCrashRep", fn := fun _ => fun
  | [d1, d2] => { results := [.lit (.bool true)], args := [d1, d2] }
  | _ => none }
def fnExactCrashRepRow : OpenClaim := { program := "ytnmhigbnlpcedaa", sum := "f5f5fa1d235801af5878582cfa93988a504f6af7f52db0d851ac0fe4a361d926", func := "loop.example/g00850/laws.FnExactCrashRep", spec := "fnExactCrashRep", inPlace := ["internal/bytealg.IndexByteString"], unfollowed := true, recurses := true, apart := false }
def FnExactCrashRepSaid : Prop := fnExactCrashRepRow.holds Try.pinned (OpenSpec.ofChange fnExactCrashRepSpec)

/-- ITS FALSE NEIGHBOUR: 'it returns false'. Refute it at one input. -/
def fnExactCrashRepWrong : ChangeSpec := { name := "fnExactCrashRep", fn := fun _ => fun
  | [d1, d2] => { results := [.lit (.bool false)], args := [d1, d2] }
  | _ => none }
def FnExactCrashRepWrongFalsely : Prop := fnExactCrashRepRow.holds Try.pinned (OpenSpec.ofChange fnExactCrashRepWrong)

/-- 'laws.FnExactStartRep': WHATEVER THE INPUT: true; the input reads as it did. -/
def fnExactStartRepSpec : ChangeSpec := { name := "fnExactStartRep", fn := fun _ => fun
  | [d1, d2] => { results := [.lit (.bool true)], args := [d1, d2] }
  | _ => none }
def fnExactStartRepRow : OpenClaim := { program := "ytnmhigbnlpcedaa", sum := "f5f5fa1d235801af5878582cfa93988a504f6af7f52db0d851ac0fe4a361d926", func := "loop.example/g00850/laws.FnExactStartRep", spec := "fnExactStartRep", inPlace := ["internal/bytealg.IndexByteString"], unfollowed := true, recurses := true, apart := false }
def FnExactStartRepSaid : Prop := fnExactStartRepRow.holds Try.pinned (OpenSpec.ofChange fnExactStartRepSpec)

/-- ITS FALSE NEIGHBOUR: 'it returns false'. Refute it at one input. -/
def fnExactStartRepWrong : ChangeSpec := { name := "fnExactStartRep", fn := fun _ => fun
  | [d1, d2] => { results := [.lit (.bool false)], args := [d1, d2] }
  | _ => none }
def FnExactStartRepWrongFalsely : Prop := fnExactStartRepRow.holds Try.pinned (OpenSpec.ofChange fnExactStartRepWrong)

/-- 'laws.FnExactElectRep': WHATEVER THE INPUT: true; the input reads as it did. -/
def fnExactElectRepSpec : ChangeSpec := { name := "fnExactElectRep", fn := fun _ => fun
  | [d1, d2] => { results := [.lit (.bool true)], args := [d1, d2] }
  | _ => none }
def fnExactElectRepRow : OpenClaim := { program := "ytnmhigbnlpcedaa", sum := "f5f5fa1d235801af5878582cfa93988a504f6af7f52db0d851ac0fe4a361d926", func := "loop.example/g00850/laws.FnExactElectRep", spec := "fnExactElectRep", inPlace := ["internal/bytealg.IndexByteString"], unfollowed := true, recurses := true, apart := false }
def FnExactElectRepSaid : Prop := fnExactElectRepRow.holds Try.pinned (OpenSpec.ofChange fnExactElectRepSpec)

/-- ITS FALSE NEIGHBOUR: 'it returns false'. Refute it at one input. -/
def fnExactElectRepWrong : ChangeSpec := { name := "fnExactElectRep", fn := fun _ => fun
  | [d1, d2] => { results := [.lit (.bool false)], args := [d1, d2] }
  | _ => none }
def FnExactElectRepWrongFalsely : Prop := fnExactElectRepRow.holds Try.pinned (OpenSpec.ofChange fnExactElectRepWrong)

/-- 'laws.FnExactPutEntry': WHATEVER THE INPUT: true; the input reads as it did. -/
def fnExactPutEntrySpec : ChangeSpec := { name := "fnExactPutEntry", fn := fun _ => fun
  | [d1, d2] => { results := [.lit (.bool true)], args := [d1, d2] }
  | _ => none }
def fnExactPutEntryRow : OpenClaim := { program := "ytnmhigbnlpcedaa", sum := "f5f5fa1d235801af5878582cfa93988a504f6af7f52db0d851ac0fe4a361d926", func := "loop.example/g00850/laws.FnExactPutEntry", spec := "fnExactPutEntry", inPlace := ["internal/bytealg.IndexByteString"], unfollowed := true, recurses := true, apart := false }
def FnExactPutEntrySaid : Prop := fnExactPutEntryRow.holds Try.pinned (OpenSpec.ofChange fnExactPutEntrySpec)

/-- ITS FALSE NEIGHBOUR: 'it returns false'. Refute it at one input. -/
def fnExactPutEntryWrong : ChangeSpec := { name := "fnExactPutEntry", fn := fun _ => fun
  | [d1, d2] => { results := [.lit (.bool false)], args := [d1, d2] }
  | _ => none }
def FnExactPutEntryWrongFalsely : Prop := fnExactPutEntryRow.holds Try.pinned (OpenSpec.ofChange fnExactPutEntryWrong)

/-- 'laws.FnExactCopyTo': WHATEVER THE INPUT: true; the input reads as it did. -/
def fnExactCopyToSpec : ChangeSpec := { name := "fnExactCopyTo", fn := fun _ => fun
  | [d1, d2] => { results := [.lit (.bool true)], args := [d1, d2] }
  | _ => none }
def fnExactCopyToRow : OpenClaim := { program := "ytnmhigbnlpcedaa", sum := "f5f5fa1d235801af5878582cfa93988a504f6af7f52db0d851ac0fe4a361d926", func := "loop.example/g00850/laws.FnExactCopyTo", spec := "fnExactCopyTo", inPlace := ["internal/bytealg.IndexByteString"], unfollowed := true, recurses := true, apart := false }
def FnExactCopyToSaid : Prop := fnExactCopyToRow.holds Try.pinned (OpenSpec.ofChange fnExactCopyToSpec)

/-- ITS FALSE NEIGHBOUR: 'it returns false'. Refute it at one input. -/
def fnExactCopyToWrong : ChangeSpec := { name := "fnExactCopyTo", fn := fun _ => fun
  | [d1, d2] => { results := [.lit (.bool false)], args := [d1, d2] }
  | _ => none }
def FnExactCopyToWrongFalsely : Prop := fnExactCopyToRow.holds Try.pinned (OpenSpec.ofChange fnExactCopyToWrong)

/-- 'laws.FnExactAdvance': WHATEVER THE INPUT: true; the input reads as it did. -/
def fnExactAdvanceSpec : ChangeSpec := { name := "fnExactAdvance", fn := fun _ => fun
  | [d] => { results := [.lit (.bool true)], args := [d] }
  | _ => none }
def fnExactAdvanceRow : OpenClaim := { program := "ytnmhigbnlpcedaa", sum := "f5f5fa1d235801af5878582cfa93988a504f6af7f52db0d851ac0fe4a361d926", func := "loop.example/g00850/laws.FnExactAdvance", spec := "fnExactAdvance", inPlace := ["internal/bytealg.IndexByteString"], unfollowed := true, recurses := true, apart := false }
def FnExactAdvanceSaid : Prop := fnExactAdvanceRow.holds Try.pinned (OpenSpec.ofChange fnExactAdvanceSpec)

/-- ITS FALSE NEIGHBOUR: 'it returns false'. Refute it at one input. -/
def fnExactAdvanceWrong : ChangeSpec := { name := "fnExactAdvance", fn := fun _ => fun
  | [d] => { results := [.lit (.bool false)], args := [d] }
  | _ => none }
def FnExactAdvanceWrongFalsely : Prop := fnExactAdvanceRow.holds Try.pinned (OpenSpec.ofChange fnExactAdvanceWrong)

/-- 'laws.FnExactSureLog': WHATEVER THE INPUT: true; the input reads as it did. -/
def fnExactSureLogSpec : ChangeSpec := { name := "fnExactSureLog", fn := fun _ => fun
  | [d] => { results := [.lit (.bool true)], args := [d] }
  | _ => none }
def fnExactSureLogRow : OpenClaim := { program := "ytnmhigbnlpcedaa", sum := "f5f5fa1d235801af5878582cfa93988a504f6af7f52db0d851ac0fe4a361d926", func := "loop.example/g00850/laws.FnExactSureLog", spec := "fnExactSureLog", inPlace := ["internal/bytealg.IndexByteString"], apart := false }
def FnExactSureLogSaid : Prop := fnExactSureLogRow.holds Try.pinned (OpenSpec.ofChange fnExactSureLogSpec)

/-- ITS FALSE NEIGHBOUR: 'it returns false'. Refute it at one input. -/
def fnExactSureLogWrong : ChangeSpec := { name := "fnExactSureLog", fn := fun _ => fun
  | [d] => { results := [.lit (.bool false)], args := [d] }
  | _ => none }
def FnExactSureLogWrongFalsely : Prop := fnExactSureLogRow.holds Try.pinned (OpenSpec.ofChange fnExactSureLogWrong)

/-- 'laws.FnExactIsSafe': WHATEVER THE INPUT: true; the input reads as it did. -/
def fnExactIsSafeSpec : ChangeSpec := { name := "fnExactIsSafe", fn := fun _ => fun
  | [d] => { results := [.lit (.bool true)], args := [d] }
  | _ => none }
def fnExactIsSafeRow : OpenClaim := { program := "ytnmhigbnlpcedaa", sum := "f5f5fa1d235801af5878582cfa93988a504f6af7f52db0d851ac0fe4a361d926", func := "loop.example/g00850/laws.FnExactIsSafe", spec := "fnExactIsSafe", inPlace := ["internal/bytealg.IndexByteString"], apart := false }
def FnExactIsSafeSaid : Prop := fnExactIsSafeRow.holds Try.pinned (OpenSpec.ofChange fnExactIsSafeSpec)

/-- ITS FALSE NEIGHBOUR: 'it returns false'. Refute it at one input. -/
def fnExactIsSafeWrong : ChangeSpec := { name := "fnExactIsSafe", fn := fun _ => fun
  | [d] => { results := [.lit (.bool false)], args := [d] }
  | _ => none }
def FnExactIsSafeWrongFalsely : Prop := fnExactIsSafeRow.holds Try.pinned (OpenSpec.ofChange fnExactIsSafeWrong)

/- THE SECOND FORM. 'bulk': how many values and letters a reading holds, each counted each time it is reached (what is shared counts as often as it is met; a slice's spare places count too). A statement '..UptoSaid' is the law's where the arguments, and the package variables that the reading takes, are together of bulk at most 1048576: NARROWER than '..Said'. Prove '..Said' where nothing that the law and all that it calls make is longer than what came in: it says more and counts as full. Else prove '..UptoSaid'. A law counts once. -/
mutual
def uptoBulk {H : Type} : DataW H → Nat
  | .lit (.string bytes) => bytes.length + 1
  | .lit _ => 1
  | .nil => 1
  | .ptr d => uptoBulk d + 1
  | .slice elems spare => uptoBulkAll elems + uptoBulkAll spare + 1
  | .agg parts => uptoBulkAll parts + 1
  | .iface _ d => uptoBulk d + 1
  | .map entries => uptoBulkEntries entries + 1
  | .held _ => 1
def uptoBulkAll {H : Type} : List (DataW H) → Nat
  | [] => 0
  | d :: r => uptoBulk d + uptoBulkAll r
def uptoBulkEntries {H : Type} : List (Lit × DataW H) → Nat
  | [] => 0
  | x :: r => uptoBulkEntry x + uptoBulkEntries r
def uptoBulkEntry {H : Type} : Lit × DataW H → Nat
  | (.string bytes, d) => bytes.length + uptoBulk d + 1
  | (_, d) => uptoBulk d + 1
 end
def uptoSmall : (H : Type) → List (DataW H) → Bool := fun _ ds => decide (uptoBulkAll ds ≤ 1048576)
def OpenSpec.upto (s : _root_.Go.ChangeSpec) : _root_.Go.OpenSpec := { _root_.Go.OpenSpec.ofChange s with cond := some uptoSmall }

/-- 'laws.FnExactNewGroup', WHERE WHAT IT READS IS OF BULK AT MOST 1048576: true; the input reads as it did. -/
def fnExactNewGroupUptoRow : OpenClaim := { program := "ytnmhigbnlpcedaa", sum := "f5f5fa1d235801af5878582cfa93988a504f6af7f52db0d851ac0fe4a361d926", func := "loop.example/g00850/laws.FnExactNewGroup", spec := "fnExactNewGroup", apart := false, narrowed := true }
def FnExactNewGroupUptoSaid : Prop := fnExactNewGroupUptoRow.holds Try.pinned (OpenSpec.upto fnExactNewGroupSpec)

/-- 'laws.FnExactGoodGroup', WHERE WHAT IT READS IS OF BULK AT MOST 1048576: true; the input reads as it did. -/
def fnExactGoodGroupUptoRow : OpenClaim := { program := "ytnmhigbnlpcedaa", sum := "f5f5fa1d235801af5878582cfa93988a504f6af7f52db0d851ac0fe4a361d926", func := "loop.example/g00850/laws.FnExactGoodGroup", spec := "fnExactGoodGroup", inPlace := ["internal/bytealg.IndexByteString"], apart := false, narrowed := true }
def FnExactGoodGroupUptoSaid : Prop := fnExactGoodGroupUptoRow.holds Try.pinned (OpenSpec.upto fnExactGoodGroupSpec)

/-- 'laws.FnExactCrashRep', WHERE WHAT IT READS IS OF BULK AT MOST 1048576: true; the input reads as it did. -/
def fnExactCrashRepUptoRow : OpenClaim := { program := "ytnmhigbnlpcedaa", sum := "f5f5fa1d235801af5878582cfa93988a504f6af7f52db0d851ac0fe4a361d926", func := "loop.example/g00850/laws.FnExactCrashRep", spec := "fnExactCrashRep", inPlace := ["internal/bytealg.IndexByteString"], unfollowed := true, recurses := true, apart := false, narrowed := true }
def FnExactCrashRepUptoSaid : Prop := fnExactCrashRepUptoRow.holds Try.pinned (OpenSpec.upto fnExactCrashRepSpec)

/-- 'laws.FnExactStartRep', WHERE WHAT IT READS IS OF BULK AT MOST 1048576: true; the input reads as it did. -/
def fnExactStartRepUptoRow : OpenClaim := { program := "ytnmhigbnlpcedaa", sum := "f5f5fa1d235801af5878582cfa93988a504f6af7f52db0d851ac0fe4a361d926", func := "loop.example/g00850/laws.FnExactStartRep", spec := "fnExactStartRep", inPlace := ["internal/bytealg.IndexByteString"], unfollowed := true, recurses := true, apart := false, narrowed := true }
def FnExactStartRepUptoSaid : Prop := fnExactStartRepUptoRow.holds Try.pinned (OpenSpec.upto fnExactStartRepSpec)

/-- 'laws.FnExactElectRep', WHERE WHAT IT READS IS OF BULK AT MOST 1048576: true; the input reads as it did. -/
def fnExactElectRepUptoRow : OpenClaim := { program := "ytnmhigbnlpcedaa", sum := "f5f5fa1d235801af5878582cfa93988a504f6af7f52db0d851ac0fe4a361d926", func := "loop.example/g00850/laws.FnExactElectRep", spec := "fnExactElectRep", inPlace := ["internal/bytealg.IndexByteString"], unfollowed := true, recurses := true, apart := false, narrowed := true }
def FnExactElectRepUptoSaid : Prop := fnExactElectRepUptoRow.holds Try.pinned (OpenSpec.upto fnExactElectRepSpec)

/-- 'laws.FnExactPutEntry', WHERE WHAT IT READS IS OF BULK AT MOST 1048576: true; the input reads as it did. -/
def fnExactPutEntryUptoRow : OpenClaim := { program := "ytnmhigbnlpcedaa", sum := "f5f5fa1d235801af5878582cfa93988a504f6af7f52db0d851ac0fe4a361d926", func := "loop.example/g00850/laws.FnExactPutEntry", spec := "fnExactPutEntry", inPlace := ["internal/bytealg.IndexByteString"], unfollowed := true, recurses := true, apart := false, narrowed := true }
def FnExactPutEntryUptoSaid : Prop := fnExactPutEntryUptoRow.holds Try.pinned (OpenSpec.upto fnExactPutEntrySpec)

/-- 'laws.FnExactCopyTo', WHERE WHAT IT READS IS OF BULK AT MOST 1048576: true; the input reads as it did. -/
def fnExactCopyToUptoRow : OpenClaim := { program := "ytnmhigbnlpcedaa", sum := "f5f5fa1d235801af5878582cfa93988a504f6af7f52db0d851ac0fe4a361d926", func := "loop.example/g00850/laws.FnExactCopyTo", spec := "fnExactCopyTo", inPlace := ["internal/bytealg.IndexByteString"], unfollowed := true, recurses := true, apart := false, narrowed := true }
def FnExactCopyToUptoSaid : Prop := fnExactCopyToUptoRow.holds Try.pinned (OpenSpec.upto fnExactCopyToSpec)

/-- 'laws.FnExactAdvance', WHERE WHAT IT READS IS OF BULK AT MOST 1048576: true; the input reads as it did. -/
def fnExactAdvanceUptoRow : OpenClaim := { program := "ytnmhigbnlpcedaa", sum := "f5f5fa1d235801af5878582cfa93988a504f6af7f52db0d851ac0fe4a361d926", func := "loop.example/g00850/laws.FnExactAdvance", spec := "fnExactAdvance", inPlace := ["internal/bytealg.IndexByteString"], unfollowed := true, recurses := true, apart := false, narrowed := true }
def FnExactAdvanceUptoSaid : Prop := fnExactAdvanceUptoRow.holds Try.pinned (OpenSpec.upto fnExactAdvanceSpec)

/-- 'laws.FnExactSureLog', WHERE WHAT IT READS IS OF BULK AT MOST 1048576: true; the input reads as it did. -/
def fnExactSureLogUptoRow : OpenClaim := { program := "ytnmhigbnlpcedaa", sum := "f5f5fa1d235801af5878582cfa93988a504f6af7f52db0d851ac0fe4a361d926", func := "loop.example/g00850/laws.FnExactSureLog", spec := "fnExactSureLog", inPlace := ["internal/bytealg.IndexByteString"], apart := false, narrowed := true }
def FnExactSureLogUptoSaid : Prop := fnExactSureLogUptoRow.holds Try.pinned (OpenSpec.upto fnExactSureLogSpec)

/-- 'laws.FnExactIsSafe', WHERE WHAT IT READS IS OF BULK AT MOST 1048576: true; the input reads as it did. -/
def fnExactIsSafeUptoRow : OpenClaim := { program := "ytnmhigbnlpcedaa", sum := "f5f5fa1d235801af5878582cfa93988a504f6af7f52db0d851ac0fe4a361d926", func := "loop.example/g00850/laws.FnExactIsSafe", spec := "fnExactIsSafe", inPlace := ["internal/bytealg.IndexByteString"], apart := false, narrowed := true }
def FnExactIsSafeUptoSaid : Prop := fnExactIsSafeUptoRow.holds Try.pinned (OpenSpec.upto fnExactIsSafeSpec)

end Rows
end Go.Proofs.Ytnmhigbnlpcedaa
