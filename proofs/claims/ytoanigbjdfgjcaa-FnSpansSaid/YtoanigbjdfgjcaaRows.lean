/-
  No cell of these rows narrows 'for every input' (looked for: loops, veiled, ifaces, maps, wideKeys, modest, calm, conditions, laid).
  DERIVED. THE GIVEN ROWS OF THIS SEAT. 16 by the template 'for every input the law returns true; each argument reads behind the call as it read before'; 0 by the template 'total and deterministic' (their statements: YtoanigbjdfgjcaaTotals.lean).
  GIVEN WITH THE SEED: the statements are not yours to turn. If you find one false, say at which input.
  Laid BY PROGRAM, IN A SANDBOX (cutbox-rows.mjs): the forced cells as the released guide's own fill.sh prints them over the translation ddac0fd2d7aaee8c… (all of the seat's roots in one cut). By AI agents, Wed Nov 11 2026. No macro, syntax, notation, axiom, sorry.
-/
import Derived.Test.YtoanigbjdfgjcaaChecked
import GoSem.Claim
import GoSem.ClaimJoined
import GoSem.ClaimMapViews
import Derived.JoinedTies
import Derived.KernelRfl
namespace Go.Proofs.Ytoanigbjdfgjcaa
/- THE CELL 'sum', in the pinned program and in every row, IS THE sha256 OF THE DUMP (.gsa) THAT YtoanigbjdfgjcaaProg.lean LOADS. Nothing in Lean hashes anything: it is a label: what it is worth is what the hold of that sum in a sandbox is worth. -/
noncomputable def Try.pinned : Pinned := { name := "ytoanigbjdfgjcaa", sum := "ddac0fd2d7aaee8cc7391b371ea56ef75e6f3ea7ec41d00f4c52debe79d97405", checked := Try.checked }
namespace Rows
def none {H : Type} : Left H := { results := [], args := [] }

/-- 'laws.FnExactGoodWatch': WHATEVER THE INPUT: true; the input reads as it did. -/
def fnExactGoodWatchSpec : ChangeSpec := { name := "fnExactGoodWatch", fn := fun _ => fun
  | [d] => { results := [.lit (.bool true)], args := [d] }
  | _ => none }
def fnExactGoodWatchRow : OpenClaim := { program := "ytoanigbjdfgjcaa", sum := "ddac0fd2d7aaee8cc7391b371ea56ef75e6f3ea7ec41d00f4c52debe79d97405", func := "loop.example/g00850/laws.FnExactGoodWatch", spec := "fnExactGoodWatch", apart := false }
def FnExactGoodWatchSaid : Prop := fnExactGoodWatchRow.holds Try.pinned (OpenSpec.ofChange fnExactGoodWatchSpec)

/-- ITS FALSE NEIGHBOUR: 'it returns false'. Refute it at one input. -/
def fnExactGoodWatchWrong : ChangeSpec := { name := "fnExactGoodWatch", fn := fun _ => fun
  | [d] => { results := [.lit (.bool false)], args := [d] }
  | _ => none }
def FnExactGoodWatchWrongFalsely : Prop := fnExactGoodWatchRow.holds Try.pinned (OpenSpec.ofChange fnExactGoodWatchWrong)

/-- 'laws.FnExactNewWatch': WHATEVER THE INPUT: true; the input reads as it did. -/
def fnExactNewWatchSpec : ChangeSpec := { name := "fnExactNewWatch", fn := fun _ => fun
  | [d] => { results := [.lit (.bool true)], args := [d] }
  | _ => none }
def fnExactNewWatchRow : OpenClaim := { program := "ytoanigbjdfgjcaa", sum := "ddac0fd2d7aaee8cc7391b371ea56ef75e6f3ea7ec41d00f4c52debe79d97405", func := "loop.example/g00850/laws.FnExactNewWatch", spec := "fnExactNewWatch", apart := false }
def FnExactNewWatchSaid : Prop := fnExactNewWatchRow.holds Try.pinned (OpenSpec.ofChange fnExactNewWatchSpec)

/-- ITS FALSE NEIGHBOUR: 'it returns false'. Refute it at one input. -/
def fnExactNewWatchWrong : ChangeSpec := { name := "fnExactNewWatch", fn := fun _ => fun
  | [d] => { results := [.lit (.bool false)], args := [d] }
  | _ => none }
def FnExactNewWatchWrongFalsely : Prop := fnExactNewWatchRow.holds Try.pinned (OpenSpec.ofChange fnExactNewWatchWrong)

/-- 'laws.FnExactPassTime': WHATEVER THE INPUT: true; the input reads as it did. -/
def fnExactPassTimeSpec : ChangeSpec := { name := "fnExactPassTime", fn := fun _ => fun
  | [d1, d2] => { results := [.lit (.bool true)], args := [d1, d2] }
  | _ => none }
def fnExactPassTimeRow : OpenClaim := { program := "ytoanigbjdfgjcaa", sum := "ddac0fd2d7aaee8cc7391b371ea56ef75e6f3ea7ec41d00f4c52debe79d97405", func := "loop.example/g00850/laws.FnExactPassTime", spec := "fnExactPassTime", apart := false }
def FnExactPassTimeSaid : Prop := fnExactPassTimeRow.holds Try.pinned (OpenSpec.ofChange fnExactPassTimeSpec)

/-- ITS FALSE NEIGHBOUR: 'it returns false'. Refute it at one input. -/
def fnExactPassTimeWrong : ChangeSpec := { name := "fnExactPassTime", fn := fun _ => fun
  | [d1, d2] => { results := [.lit (.bool false)], args := [d1, d2] }
  | _ => none }
def FnExactPassTimeWrongFalsely : Prop := fnExactPassTimeRow.holds Try.pinned (OpenSpec.ofChange fnExactPassTimeWrong)

/-- 'laws.FnExactDriftTo': WHATEVER THE INPUT: true; the input reads as it did. -/
def fnExactDriftToSpec : ChangeSpec := { name := "fnExactDriftTo", fn := fun _ => fun
  | [d1, d2, d3] => { results := [.lit (.bool true)], args := [d1, d2, d3] }
  | _ => none }
def fnExactDriftToRow : OpenClaim := { program := "ytoanigbjdfgjcaa", sum := "ddac0fd2d7aaee8cc7391b371ea56ef75e6f3ea7ec41d00f4c52debe79d97405", func := "loop.example/g00850/laws.FnExactDriftTo", spec := "fnExactDriftTo", apart := false }
def FnExactDriftToSaid : Prop := fnExactDriftToRow.holds Try.pinned (OpenSpec.ofChange fnExactDriftToSpec)

/-- ITS FALSE NEIGHBOUR: 'it returns false'. Refute it at one input. -/
def fnExactDriftToWrong : ChangeSpec := { name := "fnExactDriftTo", fn := fun _ => fun
  | [d1, d2, d3] => { results := [.lit (.bool false)], args := [d1, d2, d3] }
  | _ => none }
def FnExactDriftToWrongFalsely : Prop := fnExactDriftToRow.holds Try.pinned (OpenSpec.ofChange fnExactDriftToWrong)

/-- 'laws.FnExactAskLease': WHATEVER THE INPUT: true; the input reads as it did. -/
def fnExactAskLeaseSpec : ChangeSpec := { name := "fnExactAskLease", fn := fun _ => fun
  | [d1, d2, d3] => { results := [.lit (.bool true)], args := [d1, d2, d3] }
  | _ => none }
def fnExactAskLeaseRow : OpenClaim := { program := "ytoanigbjdfgjcaa", sum := "ddac0fd2d7aaee8cc7391b371ea56ef75e6f3ea7ec41d00f4c52debe79d97405", func := "loop.example/g00850/laws.FnExactAskLease", spec := "fnExactAskLease", apart := false }
def FnExactAskLeaseSaid : Prop := fnExactAskLeaseRow.holds Try.pinned (OpenSpec.ofChange fnExactAskLeaseSpec)

/-- ITS FALSE NEIGHBOUR: 'it returns false'. Refute it at one input. -/
def fnExactAskLeaseWrong : ChangeSpec := { name := "fnExactAskLease", fn := fun _ => fun
  | [d1, d2, d3] => { results := [.lit (.bool false)], args := [d1, d2, d3] }
  | _ => none }
def FnExactAskLeaseWrongFalsely : Prop := fnExactAskLeaseRow.holds Try.pinned (OpenSpec.ofChange fnExactAskLeaseWrong)

/-- 'laws.FnExactGiveBack': WHATEVER THE INPUT: true; the input reads as it did. -/
def fnExactGiveBackSpec : ChangeSpec := { name := "fnExactGiveBack", fn := fun _ => fun
  | [d1, d2] => { results := [.lit (.bool true)], args := [d1, d2] }
  | _ => none }
def fnExactGiveBackRow : OpenClaim := { program := "ytoanigbjdfgjcaa", sum := "ddac0fd2d7aaee8cc7391b371ea56ef75e6f3ea7ec41d00f4c52debe79d97405", func := "loop.example/g00850/laws.FnExactGiveBack", spec := "fnExactGiveBack", unfollowed := true, recurses := true, apart := false }
def FnExactGiveBackSaid : Prop := fnExactGiveBackRow.holds Try.pinned (OpenSpec.ofChange fnExactGiveBackSpec)

/-- ITS FALSE NEIGHBOUR: 'it returns false'. Refute it at one input. -/
def fnExactGiveBackWrong : ChangeSpec := { name := "fnExactGiveBack", fn := fun _ => fun
  | [d1, d2] => { results := [.lit (.bool false)], args := [d1, d2] }
  | _ => none }
def FnExactGiveBackWrongFalsely : Prop := fnExactGiveBackRow.holds Try.pinned (OpenSpec.ofChange fnExactGiveBackWrong)

/-- 'laws.FnExactHoldsLease': WHATEVER THE INPUT: true; the input reads as it did. -/
def fnExactHoldsLeaseSpec : ChangeSpec := { name := "fnExactHoldsLease", fn := fun _ => fun
  | [d1, d2] => { results := [.lit (.bool true)], args := [d1, d2] }
  | _ => none }
def fnExactHoldsLeaseRow : OpenClaim := { program := "ytoanigbjdfgjcaa", sum := "ddac0fd2d7aaee8cc7391b371ea56ef75e6f3ea7ec41d00f4c52debe79d97405", func := "loop.example/g00850/laws.FnExactHoldsLease", spec := "fnExactHoldsLease", unfollowed := true, recurses := true, apart := false }
def FnExactHoldsLeaseSaid : Prop := fnExactHoldsLeaseRow.holds Try.pinned (OpenSpec.ofChange fnExactHoldsLeaseSpec)

/-- ITS FALSE NEIGHBOUR: 'it returns false'. Refute it at one input. -/
def fnExactHoldsLeaseWrong : ChangeSpec := { name := "fnExactHoldsLease", fn := fun _ => fun
  | [d1, d2] => { results := [.lit (.bool false)], args := [d1, d2] }
  | _ => none }
def FnExactHoldsLeaseWrongFalsely : Prop := fnExactHoldsLeaseRow.holds Try.pinned (OpenSpec.ofChange fnExactHoldsLeaseWrong)

/-- 'laws.FnExactHoldersOf': WHATEVER THE INPUT: true; the input reads as it did. -/
def fnExactHoldersOfSpec : ChangeSpec := { name := "fnExactHoldersOf", fn := fun _ => fun
  | [d] => { results := [.lit (.bool true)], args := [d] }
  | _ => none }
def fnExactHoldersOfRow : OpenClaim := { program := "ytoanigbjdfgjcaa", sum := "ddac0fd2d7aaee8cc7391b371ea56ef75e6f3ea7ec41d00f4c52debe79d97405", func := "loop.example/g00850/laws.FnExactHoldersOf", spec := "fnExactHoldersOf", unfollowed := true, recurses := true, apart := false }
def FnExactHoldersOfSaid : Prop := fnExactHoldersOfRow.holds Try.pinned (OpenSpec.ofChange fnExactHoldersOfSpec)

/-- ITS FALSE NEIGHBOUR: 'it returns false'. Refute it at one input. -/
def fnExactHoldersOfWrong : ChangeSpec := { name := "fnExactHoldersOf", fn := fun _ => fun
  | [d] => { results := [.lit (.bool false)], args := [d] }
  | _ => none }
def FnExactHoldersOfWrongFalsely : Prop := fnExactHoldersOfRow.holds Try.pinned (OpenSpec.ofChange fnExactHoldersOfWrong)

/-- 'laws.FnExactWhenFree': WHATEVER THE INPUT: true; the input reads as it did. -/
def fnExactWhenFreeSpec : ChangeSpec := { name := "fnExactWhenFree", fn := fun _ => fun
  | [d1, d2] => { results := [.lit (.bool true)], args := [d1, d2] }
  | _ => none }
def fnExactWhenFreeRow : OpenClaim := { program := "ytoanigbjdfgjcaa", sum := "ddac0fd2d7aaee8cc7391b371ea56ef75e6f3ea7ec41d00f4c52debe79d97405", func := "loop.example/g00850/laws.FnExactWhenFree", spec := "fnExactWhenFree", apart := false }
def FnExactWhenFreeSaid : Prop := fnExactWhenFreeRow.holds Try.pinned (OpenSpec.ofChange fnExactWhenFreeSpec)

/-- ITS FALSE NEIGHBOUR: 'it returns false'. Refute it at one input. -/
def fnExactWhenFreeWrong : ChangeSpec := { name := "fnExactWhenFree", fn := fun _ => fun
  | [d1, d2] => { results := [.lit (.bool false)], args := [d1, d2] }
  | _ => none }
def FnExactWhenFreeWrongFalsely : Prop := fnExactWhenFreeRow.holds Try.pinned (OpenSpec.ofChange fnExactWhenFreeWrong)

/-- 'laws.FnExactPlayWatch': WHATEVER THE INPUT: true; the input reads as it did. -/
def fnExactPlayWatchSpec : ChangeSpec := { name := "fnExactPlayWatch", fn := fun _ => fun
  | [d1, d2] => { results := [.lit (.bool true)], args := [d1, d2] }
  | _ => none }
def fnExactPlayWatchRow : OpenClaim := { program := "ytoanigbjdfgjcaa", sum := "ddac0fd2d7aaee8cc7391b371ea56ef75e6f3ea7ec41d00f4c52debe79d97405", func := "loop.example/g00850/laws.FnExactPlayWatch", spec := "fnExactPlayWatch", unfollowed := true, recurses := true, apart := false }
def FnExactPlayWatchSaid : Prop := fnExactPlayWatchRow.holds Try.pinned (OpenSpec.ofChange fnExactPlayWatchSpec)

/-- ITS FALSE NEIGHBOUR: 'it returns false'. Refute it at one input. -/
def fnExactPlayWatchWrong : ChangeSpec := { name := "fnExactPlayWatch", fn := fun _ => fun
  | [d1, d2] => { results := [.lit (.bool false)], args := [d1, d2] }
  | _ => none }
def FnExactPlayWatchWrongFalsely : Prop := fnExactPlayWatchRow.holds Try.pinned (OpenSpec.ofChange fnExactPlayWatchWrong)

/-- 'laws.FnNoTwo': WHATEVER THE INPUT: true; the input reads as it did. -/
def fnNoTwoSpec : ChangeSpec := { name := "fnNoTwo", fn := fun _ => fun
  | [d] => { results := [.lit (.bool true)], args := [d] }
  | _ => none }
def fnNoTwoRow : OpenClaim := { program := "ytoanigbjdfgjcaa", sum := "ddac0fd2d7aaee8cc7391b371ea56ef75e6f3ea7ec41d00f4c52debe79d97405", func := "loop.example/g00850/laws.FnNoTwo", spec := "fnNoTwo", unfollowed := true, recurses := true, apart := false }
def FnNoTwoSaid : Prop := fnNoTwoRow.holds Try.pinned (OpenSpec.ofChange fnNoTwoSpec)

/-- ITS FALSE NEIGHBOUR: 'it returns false'. Refute it at one input. -/
def fnNoTwoWrong : ChangeSpec := { name := "fnNoTwo", fn := fun _ => fun
  | [d] => { results := [.lit (.bool false)], args := [d] }
  | _ => none }
def FnNoTwoWrongFalsely : Prop := fnNoTwoRow.holds Try.pinned (OpenSpec.ofChange fnNoTwoWrong)

/-- 'laws.FnFree': WHATEVER THE INPUT: true; the input reads as it did. -/
def fnFreeSpec : ChangeSpec := { name := "fnFree", fn := fun _ => fun
  | [d] => { results := [.lit (.bool true)], args := [d] }
  | _ => none }
def fnFreeRow : OpenClaim := { program := "ytoanigbjdfgjcaa", sum := "ddac0fd2d7aaee8cc7391b371ea56ef75e6f3ea7ec41d00f4c52debe79d97405", func := "loop.example/g00850/laws.FnFree", spec := "fnFree", apart := false }
def FnFreeSaid : Prop := fnFreeRow.holds Try.pinned (OpenSpec.ofChange fnFreeSpec)

/-- ITS FALSE NEIGHBOUR: 'it returns false'. Refute it at one input. -/
def fnFreeWrong : ChangeSpec := { name := "fnFree", fn := fun _ => fun
  | [d] => { results := [.lit (.bool false)], args := [d] }
  | _ => none }
def FnFreeWrongFalsely : Prop := fnFreeRow.holds Try.pinned (OpenSpec.ofChange fnFreeWrong)

/-- 'laws.FnGiven': WHATEVER THE INPUT: true; the input reads as it did. -/
def fnGivenSpec : ChangeSpec := { name := "fnGiven", fn := fun _ => fun
  | [d] => { results := [.lit (.bool true)], args := [d] }
  | _ => none }
def fnGivenRow : OpenClaim := { program := "ytoanigbjdfgjcaa", sum := "ddac0fd2d7aaee8cc7391b371ea56ef75e6f3ea7ec41d00f4c52debe79d97405", func := "loop.example/g00850/laws.FnGiven", spec := "fnGiven", unfollowed := true, recurses := true, apart := false }
def FnGivenSaid : Prop := fnGivenRow.holds Try.pinned (OpenSpec.ofChange fnGivenSpec)

/-- ITS FALSE NEIGHBOUR: 'it returns false'. Refute it at one input. -/
def fnGivenWrong : ChangeSpec := { name := "fnGiven", fn := fun _ => fun
  | [d] => { results := [.lit (.bool false)], args := [d] }
  | _ => none }
def FnGivenWrongFalsely : Prop := fnGivenRow.holds Try.pinned (OpenSpec.ofChange fnGivenWrong)

/-- 'laws.FnExactIsPast': WHATEVER THE INPUT: true; the input reads as it did. -/
def fnExactIsPastSpec : ChangeSpec := { name := "fnExactIsPast", fn := fun _ => fun
  | [d1, d2] => { results := [.lit (.bool true)], args := [d1, d2] }
  | _ => none }
def fnExactIsPastRow : OpenClaim := { program := "ytoanigbjdfgjcaa", sum := "ddac0fd2d7aaee8cc7391b371ea56ef75e6f3ea7ec41d00f4c52debe79d97405", func := "loop.example/g00850/laws.FnExactIsPast", spec := "fnExactIsPast", apart := false }
def FnExactIsPastSaid : Prop := fnExactIsPastRow.holds Try.pinned (OpenSpec.ofChange fnExactIsPastSpec)

/-- ITS FALSE NEIGHBOUR: 'it returns false'. Refute it at one input. -/
def fnExactIsPastWrong : ChangeSpec := { name := "fnExactIsPast", fn := fun _ => fun
  | [d1, d2] => { results := [.lit (.bool false)], args := [d1, d2] }
  | _ => none }
def FnExactIsPastWrongFalsely : Prop := fnExactIsPastRow.holds Try.pinned (OpenSpec.ofChange fnExactIsPastWrong)

/-- 'laws.FnExactWaitFor': WHATEVER THE INPUT: true; the input reads as it did. -/
def fnExactWaitForSpec : ChangeSpec := { name := "fnExactWaitFor", fn := fun _ => fun
  | [d1, d2, d3] => { results := [.lit (.bool true)], args := [d1, d2, d3] }
  | _ => none }
def fnExactWaitForRow : OpenClaim := { program := "ytoanigbjdfgjcaa", sum := "ddac0fd2d7aaee8cc7391b371ea56ef75e6f3ea7ec41d00f4c52debe79d97405", func := "loop.example/g00850/laws.FnExactWaitFor", spec := "fnExactWaitFor", apart := false }
def FnExactWaitForSaid : Prop := fnExactWaitForRow.holds Try.pinned (OpenSpec.ofChange fnExactWaitForSpec)

/-- ITS FALSE NEIGHBOUR: 'it returns false'. Refute it at one input. -/
def fnExactWaitForWrong : ChangeSpec := { name := "fnExactWaitFor", fn := fun _ => fun
  | [d1, d2, d3] => { results := [.lit (.bool false)], args := [d1, d2, d3] }
  | _ => none }
def FnExactWaitForWrongFalsely : Prop := fnExactWaitForRow.holds Try.pinned (OpenSpec.ofChange fnExactWaitForWrong)

/-- 'laws.FnSpans': WHATEVER THE INPUT: true; the input reads as it did. -/
def fnSpansSpec : ChangeSpec := { name := "fnSpans", fn := fun _ => fun
  | [d1, d2] => { results := [.lit (.bool true)], args := [d1, d2] }
  | _ => none }
def fnSpansRow : OpenClaim := { program := "ytoanigbjdfgjcaa", sum := "ddac0fd2d7aaee8cc7391b371ea56ef75e6f3ea7ec41d00f4c52debe79d97405", func := "loop.example/g00850/laws.FnSpans", spec := "fnSpans", apart := false }
def FnSpansSaid : Prop := fnSpansRow.holds Try.pinned (OpenSpec.ofChange fnSpansSpec)

/-- ITS FALSE NEIGHBOUR: 'it returns false'. Refute it at one input. -/
def fnSpansWrong : ChangeSpec := { name := "fnSpans", fn := fun _ => fun
  | [d1, d2] => { results := [.lit (.bool false)], args := [d1, d2] }
  | _ => none }
def FnSpansWrongFalsely : Prop := fnSpansRow.holds Try.pinned (OpenSpec.ofChange fnSpansWrong)

/- THE SECOND FORM. 'bulk': how many values and letters a reading holds, each counted each time it is reached (what is shared counts as often as it is met; a slice's spare places count too). A statement '..UptoSaid' is the law's where the arguments, and the package variables that the reading takes, are together of bulk at most 1048576: NARROWER than '..Said'. Prove '..Said' where nothing that the law and all that it calls make is longer than what came in: it says more and counts as full. Else prove '..UptoSaid'. A law counts once. -/
mutual
def uptoBulk {H : Type} : DataW H → Nat
  | .lit (.string bytes) => bytes.length + 1
  | .lit _ => 1
  | .nil => 1
  | .ptr d => uptoBulk d + 1
  | .slice elems spare => uptoBulkAll elems + uptoBulkAll spare + 1
  | .agg parts => uptoBulkAll parts + 1
  | .iface _ d => uptoBulk d + 1
  | .map entries => uptoBulkEntries entries + 1
  | .held _ => 1
def uptoBulkAll {H : Type} : List (DataW H) → Nat
  | [] => 0
  | d :: r => uptoBulk d + uptoBulkAll r
def uptoBulkEntries {H : Type} : List (Lit × DataW H) → Nat
  | [] => 0
  | x :: r => uptoBulkEntry x + uptoBulkEntries r
def uptoBulkEntry {H : Type} : Lit × DataW H → Nat
  | (.string bytes, d) => bytes.length + uptoBulk d + 1
  | (_, d) => uptoBulk d + 1
 end
def uptoSmall : (H : Type) → List (DataW H) → Bool := fun _ ds => decide (uptoBulkAll ds ≤ 1048576)
def OpenSpec.upto (s : _root_.Go.ChangeSpec) : _root_.Go.OpenSpec := { _root_.Go.OpenSpec.ofChange s with cond := some uptoSmall }

/-- 'laws.FnExactGoodWatch', WHERE WHAT IT READS IS OF BULK AT MOST 1048576: true; the input reads as it did. -/
def fnExactGoodWatchUptoRow : OpenClaim := { program := "ytoanigbjdfgjcaa", sum := "ddac0fd2d7aaee8cc7391b371ea56ef75e6f3ea7ec41d00f4c52debe79d97405", func := "loop.example/g00850/laws.FnExactGoodWatch", spec := "fnExactGoodWatch", apart := false, narrowed := true }
def FnExactGoodWatchUptoSaid : Prop := fnExactGoodWatchUptoRow.holds Try.pinned (OpenSpec.upto fnExactGoodWatchSpec)

/-- 'laws.FnExactNewWatch', WHERE WHAT IT READS IS OF BULK AT MOST 1048576: true; the input reads as it did. -/
def fnExactNewWatchUptoRow : OpenClaim := { program := "ytoanigbjdfgjcaa", sum := "ddac0fd2d7aaee8cc7391b371ea56ef75e6f3ea7ec41d00f4c52debe79d97405", func := "loop.example/g00850/laws.FnExactNewWatch", spec := "fnExactNewWatch", apart := false, narrowed := true }
def FnExactNewWatchUptoSaid : Prop := fnExactNewWatchUptoRow.holds Try.pinned (OpenSpec.upto fnExactNewWatchSpec)

/-- 'laws.FnExactPassTime', WHERE WHAT IT READS IS OF BULK AT MOST 1048576: true; the input reads as it did. -/
def fnExactPassTimeUptoRow : OpenClaim := { program := "ytoanigbjdfgjcaa", sum := "ddac0fd2d7aaee8cc7391b371ea56ef75e6f3ea7ec41d00f4c52debe79d97405", func := "loop.example/g00850/laws.FnExactPassTime", spec := "fnExactPassTime", apart := false, narrowed := true }
def FnExactPassTimeUptoSaid : Prop := fnExactPassTimeUptoRow.holds Try.pinned (OpenSpec.upto fnExactPassTimeSpec)

/-- 'laws.FnExactDriftTo', WHERE WHAT IT READS IS OF BULK AT MOST 1048576: true; the input reads as it did. -/
def fnExactDriftToUptoRow : OpenClaim := { program := "ytoanigbjdfgjcaa", sum := "ddac0fd2d7aaee8cc7391b371ea56ef75e6f3ea7ec41d00f4c52debe79d97405", func := "loop.example/g00850/laws.FnExactDriftTo", spec := "fnExactDriftTo", apart := false, narrowed := true }
def FnExactDriftToUptoSaid : Prop := fnExactDriftToUptoRow.holds Try.pinned (OpenSpec.upto fnExactDriftToSpec)

/-- 'laws.FnExactAskLease', WHERE WHAT IT READS IS OF BULK AT MOST 1048576: true; the input reads as it did. -/
def fnExactAskLeaseUptoRow : OpenClaim := { program := "ytoanigbjdfgjcaa", sum := "ddac0fd2d7aaee8cc7391b371ea56ef75e6f3ea7ec41d00f4c52debe79d97405", func := "loop.example/g00850/laws.FnExactAskLease", spec := "fnExactAskLease", apart := false, narrowed := true }
def FnExactAskLeaseUptoSaid : Prop := fnExactAskLeaseUptoRow.holds Try.pinned (OpenSpec.upto fnExactAskLeaseSpec)

/-- 'laws.FnExactGiveBack', WHERE WHAT IT READS IS OF BULK AT MOST 1048576: true; the input reads as it did. -/
def fnExactGiveBackUptoRow : OpenClaim := { program := "ytoanigbjdfgjcaa", sum := "ddac0fd2d7aaee8cc7391b371ea56ef75e6f3ea7ec41d00f4c52debe79d97405", func := "loop.example/g00850/laws.FnExactGiveBack", spec := "fnExactGiveBack", unfollowed := true, recurses := true, apart := false, narrowed := true }
def FnExactGiveBackUptoSaid : Prop := fnExactGiveBackUptoRow.holds Try.pinned (OpenSpec.upto fnExactGiveBackSpec)

/-- 'laws.FnExactHoldsLease', WHERE WHAT IT READS IS OF BULK AT MOST 1048576: true; the input reads as it did. -/
def fnExactHoldsLeaseUptoRow : OpenClaim := { program := "ytoanigbjdfgjcaa", sum := "ddac0fd2d7aaee8cc7391b371ea56ef75e6f3ea7ec41d00f4c52debe79d97405", func := "loop.example/g00850/laws.FnExactHoldsLease", spec := "fnExactHoldsLease", unfollowed := true, recurses := true, apart := false, narrowed := true }
def FnExactHoldsLeaseUptoSaid : Prop := fnExactHoldsLeaseUptoRow.holds Try.pinned (OpenSpec.upto fnExactHoldsLeaseSpec)

/-- 'laws.FnExactHoldersOf', WHERE WHAT IT READS IS OF BULK AT MOST 1048576: true; the input reads as it did. -/
def fnExactHoldersOfUptoRow : OpenClaim := { program := "ytoanigbjdfgjcaa", sum := "ddac0fd2d7aaee8cc7391b371ea56ef75e6f3ea7ec41d00f4c52debe79d97405", func := "loop.example/g00850/laws.FnExactHoldersOf", spec := "fnExactHoldersOf", unfollowed := true, recurses := true, apart := false, narrowed := true }
def FnExactHoldersOfUptoSaid : Prop := fnExactHoldersOfUptoRow.holds Try.pinned (OpenSpec.upto fnExactHoldersOfSpec)

/-- 'laws.FnExactWhenFree', WHERE WHAT IT READS IS OF BULK AT MOST 1048576: true; the input reads as it did. -/
def fnExactWhenFreeUptoRow : OpenClaim := { program := "ytoanigbjdfgjcaa", sum := "ddac0fd2d7aaee8cc7391b371ea56ef75e6f3ea7ec41d00f4c52debe79d97405", func := "loop.example/g00850/laws.FnExactWhenFree", spec := "fnExactWhenFree", apart := false, narrowed := true }
def FnExactWhenFreeUptoSaid : Prop := fnExactWhenFreeUptoRow.holds Try.pinned (OpenSpec.upto fnExactWhenFreeSpec)

/-- 'laws.FnExactPlayWatch', WHERE WHAT IT READS IS OF BULK AT MOST 1048576: true; the input reads as it did. -/
def fnExactPlayWatchUptoRow : OpenClaim := { program := "ytoanigbjdfgjcaa", sum := "ddac0fd2d7aaee8cc7391b371ea56ef75e6f3ea7ec41d00f4c52debe79d97405", func := "loop.example/g00850/laws.FnExactPlayWatch", spec := "fnExactPlayWatch", unfollowed := true, recurses := true, apart := false, narrowed := true }
def FnExactPlayWatchUptoSaid : Prop := fnExactPlayWatchUptoRow.holds Try.pinned (OpenSpec.upto fnExactPlayWatchSpec)

/-- 'laws.FnNoTwo', WHERE WHAT IT READS IS OF BULK AT MOST 1048576: true; the input reads as it did. -/
def fnNoTwoUptoRow : OpenClaim := { program := "ytoanigbjdfgjcaa", sum := "ddac0fd2d7aaee8cc7391b371ea56ef75e6f3ea7ec41d00f4c52debe79d97405", func := "loop.example/g00850/laws.FnNoTwo", spec := "fnNoTwo", unfollowed := true, recurses := true, apart := false, narrowed := true }
def FnNoTwoUptoSaid : Prop := fnNoTwoUptoRow.holds Try.pinned (OpenSpec.upto fnNoTwoSpec)

/-- 'laws.FnFree', WHERE WHAT IT READS IS OF BULK AT MOST 1048576: true; the input reads as it did. -/
def fnFreeUptoRow : OpenClaim := { program := "ytoanigbjdfgjcaa", sum := "ddac0fd2d7aaee8cc7391b371ea56ef75e6f3ea7ec41d00f4c52debe79d97405", func := "loop.example/g00850/laws.FnFree", spec := "fnFree", apart := false, narrowed := true }
def FnFreeUptoSaid : Prop := fnFreeUptoRow.holds Try.pinned (OpenSpec.upto fnFreeSpec)

/-- 'laws.FnGiven', WHERE WHAT IT READS IS OF BULK AT MOST 1048576: true; the input reads as it did. -/
def fnGivenUptoRow : OpenClaim := { program := "ytoanigbjdfgjcaa", sum := "ddac0fd2d7aaee8cc7391b371ea56ef75e6f3ea7ec41d00f4c52debe79d97405", func := "loop.example/g00850/laws.FnGiven", spec := "fnGiven", unfollowed := true, recurses := true, apart := false, narrowed := true }
def FnGivenUptoSaid : Prop := fnGivenUptoRow.holds Try.pinned (OpenSpec.upto fnGivenSpec)

/-- 'laws.FnExactIsPast', WHERE WHAT IT READS IS OF BULK AT MOST 1048576: true; the input reads as it did. -/
def fnExactIsPastUptoRow : OpenClaim := { program := "ytoanigbjdfgjcaa", sum := "ddac0fd2d7aaee8cc7391b371ea56ef75e6f3ea7ec41d00f4c52debe79d97405", func := "loop.example/g00850/laws.FnExactIsPast", spec := "fnExactIsPast", apart := false, narrowed := true }
def FnExactIsPastUptoSaid : Prop := fnExactIsPastUptoRow.holds Try.pinned (OpenSpec.upto fnExactIsPastSpec)

/-- 'laws.FnExactWaitFor', WHERE WHAT IT READS IS OF BULK AT MOST 1048576: true; the input reads as it did. -/
def fnExactWaitForUptoRow : OpenClaim := { program := "ytoanigbjdfgjcaa", sum := "ddac0fd2d7aaee8cc7391b371ea56ef75e6f3ea7ec41d00f4c52debe79d97405", func := "loop.example/g00850/laws.FnExactWaitFor", spec := "fnExactWaitFor", apart := false, narrowed := true }
def FnExactWaitForUptoSaid : Prop := fnExactWaitForUptoRow.holds Try.pinned (OpenSpec.upto fnExactWaitForSpec)

/-- 'laws.FnSpans', WHERE WHAT IT READS IS OF BULK AT MOST 1048576: true; the input reads as it did. -/
def fnSpansUptoRow : OpenClaim := { program := "ytoanigbjdfgjcaa", sum := "ddac0fd2d7aaee8cc7391b371ea56ef75e6f3ea7ec41d00f4c52debe79d97405", func := "loop.example/g00850/laws.FnSpans", spec := "fnSpans", apart := false, narrowed := true }
def FnSpansUptoSaid : Prop := fnSpansUptoRow.holds Try.pinned (OpenSpec.upto fnSpansSpec)

end Rows
end Go.Proofs.Ytoanigbjdfgjcaa
