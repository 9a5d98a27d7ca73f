/-
  No cell of these rows narrows 'for every input' (looked for: loops, veiled, ifaces, maps, wideKeys, modest, calm, conditions, laid).
  DERIVED. THE GIVEN ROWS OF THIS SEAT. 11 by the template 'for every input the law returns true; each argument reads behind the call as it read before'; 0 by the template 'total and deterministic' (their statements: YtkfphbbbidemcaaTotals.lean).
  GIVEN WITH THE SEED: the statements are not yours to turn. If you find one false, say at which input.
  Laid BY PROGRAM, IN A SANDBOX (cutbox-rows.mjs): the forced cells as the released guide's own fill.sh prints them over the translation 1884ea137703d215… (all of the seat's roots in one cut). By AI agents, Wed Nov 11 2026. No macro, syntax, notation, axiom, sorry.
-/
import Derived.Test.YtkfphbbbidemcaaChecked
import GoSem.Claim
import GoSem.ClaimJoined
import GoSem.ClaimMapViews
import Derived.JoinedTies
import Derived.KernelRfl
namespace Go.Proofs.Ytkfphbbbidemcaa
/- THE CELL 'sum', in the pinned program and in every row, IS THE sha256 OF THE DUMP (.gsa) THAT YtkfphbbbidemcaaProg.lean LOADS. Nothing in Lean hashes anything: it is a label: what it is worth is what the hold of that sum in a sandbox is worth. -/
noncomputable def Try.pinned : Pinned := { name := "ytkfphbbbidemcaa", sum := "1884ea137703d215128e1daf0c79d118485cfc351a62974369145cf9ef6bf672", checked := Try.checked }
namespace Rows
def none {H : Type} : Left H := { results := [], args := [] }

/-- 'laws.FnExactGoodNet': WHATEVER THE INPUT: true; the input reads as it did. -/
def fnExactGoodNetSpec : ChangeSpec := { name := "fnExactGoodNet", fn := fun _ => fun
  | [d] => { results := [.lit (.bool true)], args := [d] }
  | _ => none }
def fnExactGoodNetRow : OpenClaim := { program := "ytkfphbbbidemcaa", sum := "1884ea137703d215128e1daf0c79d118485cfc351a62974369145cf9ef6bf672", func := "loop.example/g00850/laws.FnExactGoodNet", spec := "fnExactGoodNet", apart := false }
def FnExactGoodNetSaid : Prop := fnExactGoodNetRow.holds Try.pinned (OpenSpec.ofChange fnExactGoodNetSpec)

/-- ITS FALSE NEIGHBOUR: 'it returns false'. Refute it at one input. -/
def fnExactGoodNetWrong : ChangeSpec := { name := "fnExactGoodNet", fn := fun _ => fun
  | [d] => { results := [.lit (.bool false)], args := [d] }
  | _ => none }
def FnExactGoodNetWrongFalsely : Prop := fnExactGoodNetRow.holds Try.pinned (OpenSpec.ofChange fnExactGoodNetWrong)

/-- 'laws.FnExactNewNet': WHATEVER THE INPUT: true; the input reads as it did. -/
def fnExactNewNetSpec : ChangeSpec := { name := "fnExactNewNet", fn := fun _ => fun
  | [d1, d2] => { results := [.lit (.bool true)], args := [d1, d2] }
  | _ => none }
def fnExactNewNetRow : OpenClaim := { program := "ytkfphbbbidemcaa", sum := "1884ea137703d215128e1daf0c79d118485cfc351a62974369145cf9ef6bf672", func := "loop.example/g00850/laws.FnExactNewNet", spec := "fnExactNewNet", apart := false }
def FnExactNewNetSaid : Prop := fnExactNewNetRow.holds Try.pinned (OpenSpec.ofChange fnExactNewNetSpec)

/-- ITS FALSE NEIGHBOUR: 'it returns false'. Refute it at one input. -/
def fnExactNewNetWrong : ChangeSpec := { name := "fnExactNewNet", fn := fun _ => fun
  | [d1, d2] => { results := [.lit (.bool false)], args := [d1, d2] }
  | _ => none }
def FnExactNewNetWrongFalsely : Prop := fnExactNewNetRow.holds Try.pinned (OpenSpec.ofChange fnExactNewNetWrong)

/-- 'laws.FnExactTripOf': WHATEVER THE INPUT: true; the input reads as it did. -/
def fnExactTripOfSpec : ChangeSpec := { name := "fnExactTripOf", fn := fun _ => fun
  | [d1, d2, d3] => { results := [.lit (.bool true)], args := [d1, d2, d3] }
  | _ => none }
def fnExactTripOfRow : OpenClaim := { program := "ytkfphbbbidemcaa", sum := "1884ea137703d215128e1daf0c79d118485cfc351a62974369145cf9ef6bf672", func := "loop.example/g00850/laws.FnExactTripOf", spec := "fnExactTripOf", apart := false }
def FnExactTripOfSaid : Prop := fnExactTripOfRow.holds Try.pinned (OpenSpec.ofChange fnExactTripOfSpec)

/-- ITS FALSE NEIGHBOUR: 'it returns false'. Refute it at one input. -/
def fnExactTripOfWrong : ChangeSpec := { name := "fnExactTripOf", fn := fun _ => fun
  | [d1, d2, d3] => { results := [.lit (.bool false)], args := [d1, d2, d3] }
  | _ => none }
def FnExactTripOfWrongFalsely : Prop := fnExactTripOfRow.holds Try.pinned (OpenSpec.ofChange fnExactTripOfWrong)

/-- 'laws.FnExactSendTo': WHATEVER THE INPUT: true; the input reads as it did. -/
def fnExactSendToSpec : ChangeSpec := { name := "fnExactSendTo", fn := fun _ => fun
  | [d1, d2, d3, d4] => { results := [.lit (.bool true)], args := [d1, d2, d3, d4] }
  | _ => none }
def fnExactSendToRow : OpenClaim := { program := "ytkfphbbbidemcaa", sum := "1884ea137703d215128e1daf0c79d118485cfc351a62974369145cf9ef6bf672", func := "loop.example/g00850/laws.FnExactSendTo", spec := "fnExactSendTo", inPlace := ["slices.overlaps[loop.example/g00850/impl.Letter]"], unfollowed := true, recurses := true, apart := false }
def FnExactSendToSaid : Prop := fnExactSendToRow.holds Try.pinned (OpenSpec.ofChange fnExactSendToSpec)

/-- ITS FALSE NEIGHBOUR: 'it returns false'. Refute it at one input. -/
def fnExactSendToWrong : ChangeSpec := { name := "fnExactSendTo", fn := fun _ => fun
  | [d1, d2, d3, d4] => { results := [.lit (.bool false)], args := [d1, d2, d3, d4] }
  | _ => none }
def FnExactSendToWrongFalsely : Prop := fnExactSendToRow.holds Try.pinned (OpenSpec.ofChange fnExactSendToWrong)

/-- 'laws.FnExactLoseOne': WHATEVER THE INPUT: true; the input reads as it did. -/
def fnExactLoseOneSpec : ChangeSpec := { name := "fnExactLoseOne", fn := fun _ => fun
  | [d1, d2] => { results := [.lit (.bool true)], args := [d1, d2] }
  | _ => none }
def fnExactLoseOneRow : OpenClaim := { program := "ytkfphbbbidemcaa", sum := "1884ea137703d215128e1daf0c79d118485cfc351a62974369145cf9ef6bf672", func := "loop.example/g00850/laws.FnExactLoseOne", spec := "fnExactLoseOne", apart := false }
def FnExactLoseOneSaid : Prop := fnExactLoseOneRow.holds Try.pinned (OpenSpec.ofChange fnExactLoseOneSpec)

/-- ITS FALSE NEIGHBOUR: 'it returns false'. Refute it at one input. -/
def fnExactLoseOneWrong : ChangeSpec := { name := "fnExactLoseOne", fn := fun _ => fun
  | [d1, d2] => { results := [.lit (.bool false)], args := [d1, d2] }
  | _ => none }
def FnExactLoseOneWrongFalsely : Prop := fnExactLoseOneRow.holds Try.pinned (OpenSpec.ofChange fnExactLoseOneWrong)

/-- 'laws.FnExactDoubleOne': WHATEVER THE INPUT: true; the input reads as it did. -/
def fnExactDoubleOneSpec : ChangeSpec := { name := "fnExactDoubleOne", fn := fun _ => fun
  | [d1, d2] => { results := [.lit (.bool true)], args := [d1, d2] }
  | _ => none }
def fnExactDoubleOneRow : OpenClaim := { program := "ytkfphbbbidemcaa", sum := "1884ea137703d215128e1daf0c79d118485cfc351a62974369145cf9ef6bf672", func := "loop.example/g00850/laws.FnExactDoubleOne", spec := "fnExactDoubleOne", inPlace := ["slices.overlaps[loop.example/g00850/impl.Letter]"], unfollowed := true, recurses := true, apart := false }
def FnExactDoubleOneSaid : Prop := fnExactDoubleOneRow.holds Try.pinned (OpenSpec.ofChange fnExactDoubleOneSpec)

/-- ITS FALSE NEIGHBOUR: 'it returns false'. Refute it at one input. -/
def fnExactDoubleOneWrong : ChangeSpec := { name := "fnExactDoubleOne", fn := fun _ => fun
  | [d1, d2] => { results := [.lit (.bool false)], args := [d1, d2] }
  | _ => none }
def FnExactDoubleOneWrongFalsely : Prop := fnExactDoubleOneRow.holds Try.pinned (OpenSpec.ofChange fnExactDoubleOneWrong)

/-- 'laws.FnExactDelayOne': WHATEVER THE INPUT: true; the input reads as it did. -/
def fnExactDelayOneSpec : ChangeSpec := { name := "fnExactDelayOne", fn := fun _ => fun
  | [d1, d2, d3] => { results := [.lit (.bool true)], args := [d1, d2, d3] }
  | _ => none }
def fnExactDelayOneRow : OpenClaim := { program := "ytkfphbbbidemcaa", sum := "1884ea137703d215128e1daf0c79d118485cfc351a62974369145cf9ef6bf672", func := "loop.example/g00850/laws.FnExactDelayOne", spec := "fnExactDelayOne", inPlace := ["slices.overlaps[loop.example/g00850/impl.Letter]"], unfollowed := true, recurses := true, apart := false }
def FnExactDelayOneSaid : Prop := fnExactDelayOneRow.holds Try.pinned (OpenSpec.ofChange fnExactDelayOneSpec)

/-- ITS FALSE NEIGHBOUR: 'it returns false'. Refute it at one input. -/
def fnExactDelayOneWrong : ChangeSpec := { name := "fnExactDelayOne", fn := fun _ => fun
  | [d1, d2, d3] => { results := [.lit (.bool false)], args := [d1, d2, d3] }
  | _ => none }
def FnExactDelayOneWrongFalsely : Prop := fnExactDelayOneRow.holds Try.pinned (OpenSpec.ofChange fnExactDelayOneWrong)

/-- 'laws.FnExactDeliver': WHATEVER THE INPUT: true; the input reads as it did. -/
def fnExactDeliverSpec : ChangeSpec := { name := "fnExactDeliver", fn := fun _ => fun
  | [d] => { results := [.lit (.bool true)], args := [d] }
  | _ => none }
def fnExactDeliverRow : OpenClaim := { program := "ytkfphbbbidemcaa", sum := "1884ea137703d215128e1daf0c79d118485cfc351a62974369145cf9ef6bf672", func := "loop.example/g00850/laws.FnExactDeliver", spec := "fnExactDeliver", unfollowed := true, recurses := true, apart := false }
def FnExactDeliverSaid : Prop := fnExactDeliverRow.holds Try.pinned (OpenSpec.ofChange fnExactDeliverSpec)

/-- ITS FALSE NEIGHBOUR: 'it returns false'. Refute it at one input. -/
def fnExactDeliverWrong : ChangeSpec := { name := "fnExactDeliver", fn := fun _ => fun
  | [d] => { results := [.lit (.bool false)], args := [d] }
  | _ => none }
def FnExactDeliverWrongFalsely : Prop := fnExactDeliverRow.holds Try.pinned (OpenSpec.ofChange fnExactDeliverWrong)

/-- 'laws.FnExactTickNet': WHATEVER THE INPUT: true; the input reads as it did. -/
def fnExactTickNetSpec : ChangeSpec := { name := "fnExactTickNet", fn := fun _ => fun
  | [d] => { results := [.lit (.bool true)], args := [d] }
  | _ => none }
def fnExactTickNetRow : OpenClaim := { program := "ytkfphbbbidemcaa", sum := "1884ea137703d215128e1daf0c79d118485cfc351a62974369145cf9ef6bf672", func := "loop.example/g00850/laws.FnExactTickNet", spec := "fnExactTickNet", apart := false }
def FnExactTickNetSaid : Prop := fnExactTickNetRow.holds Try.pinned (OpenSpec.ofChange fnExactTickNetSpec)

/-- ITS FALSE NEIGHBOUR: 'it returns false'. Refute it at one input. -/
def fnExactTickNetWrong : ChangeSpec := { name := "fnExactTickNet", fn := fun _ => fun
  | [d] => { results := [.lit (.bool false)], args := [d] }
  | _ => none }
def FnExactTickNetWrongFalsely : Prop := fnExactTickNetRow.holds Try.pinned (OpenSpec.ofChange fnExactTickNetWrong)

/-- 'laws.FnSent': WHATEVER THE INPUT: true; the input reads as it did. -/
def fnSentSpec : ChangeSpec := { name := "fnSent", fn := fun _ => fun
  | [d] => { results := [.lit (.bool true)], args := [d] }
  | _ => none }
def fnSentRow : OpenClaim := { program := "ytkfphbbbidemcaa", sum := "1884ea137703d215128e1daf0c79d118485cfc351a62974369145cf9ef6bf672", func := "loop.example/g00850/laws.FnSent", spec := "fnSent", inPlace := ["slices.overlaps[loop.example/g00850/impl.Letter]"], unfollowed := true, recurses := true, apart := false }
def FnSentSaid : Prop := fnSentRow.holds Try.pinned (OpenSpec.ofChange fnSentSpec)

/-- ITS FALSE NEIGHBOUR: 'it returns false'. Refute it at one input. -/
def fnSentWrong : ChangeSpec := { name := "fnSent", fn := fun _ => fun
  | [d] => { results := [.lit (.bool false)], args := [d] }
  | _ => none }
def FnSentWrongFalsely : Prop := fnSentRow.holds Try.pinned (OpenSpec.ofChange fnSentWrong)

/-- 'laws.FnLost': WHATEVER THE INPUT: true; the input reads as it did. -/
def fnLostSpec : ChangeSpec := { name := "fnLost", fn := fun _ => fun
  | [d] => { results := [.lit (.bool true)], args := [d] }
  | _ => none }
def fnLostRow : OpenClaim := { program := "ytkfphbbbidemcaa", sum := "1884ea137703d215128e1daf0c79d118485cfc351a62974369145cf9ef6bf672", func := "loop.example/g00850/laws.FnLost", spec := "fnLost", inPlace := ["slices.overlaps[loop.example/g00850/impl.Letter]"], unfollowed := true, recurses := true, apart := false }
def FnLostSaid : Prop := fnLostRow.holds Try.pinned (OpenSpec.ofChange fnLostSpec)

/-- ITS FALSE NEIGHBOUR: 'it returns false'. Refute it at one input. -/
def fnLostWrong : ChangeSpec := { name := "fnLost", fn := fun _ => fun
  | [d] => { results := [.lit (.bool false)], args := [d] }
  | _ => none }
def FnLostWrongFalsely : Prop := fnLostRow.holds Try.pinned (OpenSpec.ofChange fnLostWrong)

/- THE SECOND FORM. 'bulk': how many values and letters a reading holds, each counted each time it is reached (what is shared counts as often as it is met; a slice's spare places count too). A statement '..UptoSaid' is the law's where the arguments, and the package variables that the reading takes, are together of bulk at most 1048576: NARROWER than '..Said'. Prove '..Said' where nothing that the law and all that it calls make is longer than what came in: it says more and counts as full. Else prove '..UptoSaid'. A law counts once. -/
mutual
def uptoBulk {H : Type} : DataW H → Nat
  | .lit (.string bytes) => bytes.length + 1
  | .lit _ => 1
  | .nil => 1
  | .ptr d => uptoBulk d + 1
  | .slice elems spare => uptoBulkAll elems + uptoBulkAll spare + 1
  | .agg parts => uptoBulkAll parts + 1
  | .iface _ d => uptoBulk d + 1
  | .map entries => uptoBulkEntries entries + 1
  | .held _ => 1
def uptoBulkAll {H : Type} : List (DataW H) → Nat
  | [] => 0
  | d :: r => uptoBulk d + uptoBulkAll r
def uptoBulkEntries {H : Type} : List (Lit × DataW H) → Nat
  | [] => 0
  | x :: r => uptoBulkEntry x + uptoBulkEntries r
def uptoBulkEntry {H : Type} : Lit × DataW H → Nat
  | (.string bytes, d) => bytes.length + uptoBulk d + 1
  | (_, d) => uptoBulk d + 1
 end
def uptoSmall : (H : Type) → List (DataW H) → Bool := fun _ ds => decide (uptoBulkAll ds ≤ 1048576)
def OpenSpec.upto (s : _root_.Go.ChangeSpec) : _root_.Go.OpenSpec := { _root_.Go.OpenSpec.ofChange s with cond := some uptoSmall }

/-- 'laws.FnExactGoodNet', WHERE WHAT IT READS IS OF BULK AT MOST 1048576: true; the input reads as it did. -/
def fnExactGoodNetUptoRow : OpenClaim := { program := "ytkfphbbbidemcaa", sum := "1884ea137703d215128e1daf0c79d118485cfc351a62974369145cf9ef6bf672", func := "loop.example/g00850/laws.FnExactGoodNet", spec := "fnExactGoodNet", apart := false, narrowed := true }
def FnExactGoodNetUptoSaid : Prop := fnExactGoodNetUptoRow.holds Try.pinned (OpenSpec.upto fnExactGoodNetSpec)

/-- 'laws.FnExactNewNet', WHERE WHAT IT READS IS OF BULK AT MOST 1048576: true; the input reads as it did. -/
def fnExactNewNetUptoRow : OpenClaim := { program := "ytkfphbbbidemcaa", sum := "1884ea137703d215128e1daf0c79d118485cfc351a62974369145cf9ef6bf672", func := "loop.example/g00850/laws.FnExactNewNet", spec := "fnExactNewNet", apart := false, narrowed := true }
def FnExactNewNetUptoSaid : Prop := fnExactNewNetUptoRow.holds Try.pinned (OpenSpec.upto fnExactNewNetSpec)

/-- 'laws.FnExactTripOf', WHERE WHAT IT READS IS OF BULK AT MOST 1048576: true; the input reads as it did. -/
def fnExactTripOfUptoRow : OpenClaim := { program := "ytkfphbbbidemcaa", sum := "1884ea137703d215128e1daf0c79d118485cfc351a62974369145cf9ef6bf672", func := "loop.example/g00850/laws.FnExactTripOf", spec := "fnExactTripOf", apart := false, narrowed := true }
def FnExactTripOfUptoSaid : Prop := fnExactTripOfUptoRow.holds Try.pinned (OpenSpec.upto fnExactTripOfSpec)

/-- 'laws.FnExactSendTo', WHERE WHAT IT READS IS OF BULK AT MOST 1048576: true; the input reads as it did. -/
def fnExactSendToUptoRow : OpenClaim := { program := "ytkfphbbbidemcaa", sum := "1884ea137703d215128e1daf0c79d118485cfc351a62974369145cf9ef6bf672", func := "loop.example/g00850/laws.FnExactSendTo", spec := "fnExactSendTo", inPlace := ["slices.overlaps[loop.example/g00850/impl.Letter]"], unfollowed := true, recurses := true, apart := false, narrowed := true }
def FnExactSendToUptoSaid : Prop := fnExactSendToUptoRow.holds Try.pinned (OpenSpec.upto fnExactSendToSpec)

/-- 'laws.FnExactLoseOne', WHERE WHAT IT READS IS OF BULK AT MOST 1048576: true; the input reads as it did. -/
def fnExactLoseOneUptoRow : OpenClaim := { program := "ytkfphbbbidemcaa", sum := "1884ea137703d215128e1daf0c79d118485cfc351a62974369145cf9ef6bf672", func := "loop.example/g00850/laws.FnExactLoseOne", spec := "fnExactLoseOne", apart := false, narrowed := true }
def FnExactLoseOneUptoSaid : Prop := fnExactLoseOneUptoRow.holds Try.pinned (OpenSpec.upto fnExactLoseOneSpec)

/-- 'laws.FnExactDoubleOne', WHERE WHAT IT READS IS OF BULK AT MOST 1048576: true; the input reads as it did. -/
def fnExactDoubleOneUptoRow : OpenClaim := { program := "ytkfphbbbidemcaa", sum := "1884ea137703d215128e1daf0c79d118485cfc351a62974369145cf9ef6bf672", func := "loop.example/g00850/laws.FnExactDoubleOne", spec := "fnExactDoubleOne", inPlace := ["slices.overlaps[loop.example/g00850/impl.Letter]"], unfollowed := true, recurses := true, apart := false, narrowed := true }
def FnExactDoubleOneUptoSaid : Prop := fnExactDoubleOneUptoRow.holds Try.pinned (OpenSpec.upto fnExactDoubleOneSpec)

/-- 'laws.FnExactDelayOne', WHERE WHAT IT READS IS OF BULK AT MOST 1048576: true; the input reads as it did. -/
def fnExactDelayOneUptoRow : OpenClaim := { program := "ytkfphbbbidemcaa", sum := "1884ea137703d215128e1daf0c79d118485cfc351a62974369145cf9ef6bf672", func := "loop.example/g00850/laws.FnExactDelayOne", spec := "fnExactDelayOne", inPlace := ["slices.overlaps[loop.example/g00850/impl.Letter]"], unfollowed := true, recurses := true, apart := false, narrowed := true }
def FnExactDelayOneUptoSaid : Prop := fnExactDelayOneUptoRow.holds Try.pinned (OpenSpec.upto fnExactDelayOneSpec)

/-- 'laws.FnExactDeliver', WHERE WHAT IT READS IS OF BULK AT MOST 1048576: true; the input reads as it did. -/
def fnExactDeliverUptoRow : OpenClaim := { program := "ytkfphbbbidemcaa", sum := "1884ea137703d215128e1daf0c79d118485cfc351a62974369145cf9ef6bf672", func := "loop.example/g00850/laws.FnExactDeliver", spec := "fnExactDeliver", unfollowed := true, recurses := true, apart := false, narrowed := true }
def FnExactDeliverUptoSaid : Prop := fnExactDeliverUptoRow.holds Try.pinned (OpenSpec.upto fnExactDeliverSpec)

/-- 'laws.FnExactTickNet', WHERE WHAT IT READS IS OF BULK AT MOST 1048576: true; the input reads as it did. -/
def fnExactTickNetUptoRow : OpenClaim := { program := "ytkfphbbbidemcaa", sum := "1884ea137703d215128e1daf0c79d118485cfc351a62974369145cf9ef6bf672", func := "loop.example/g00850/laws.FnExactTickNet", spec := "fnExactTickNet", apart := false, narrowed := true }
def FnExactTickNetUptoSaid : Prop := fnExactTickNetUptoRow.holds Try.pinned (OpenSpec.upto fnExactTickNetSpec)

/-- 'laws.FnSent', WHERE WHAT IT READS IS OF BULK AT MOST 1048576: true; the input reads as it did. -/
def fnSentUptoRow : OpenClaim := { program := "ytkfphbbbidemcaa", sum := "1884ea137703d215128e1daf0c79d118485cfc351a62974369145cf9ef6bf672", func := "loop.example/g00850/laws.FnSent", spec := "fnSent", inPlace := ["slices.overlaps[loop.example/g00850/impl.Letter]"], unfollowed := true, recurses := true, apart := false, narrowed := true }
def FnSentUptoSaid : Prop := fnSentUptoRow.holds Try.pinned (OpenSpec.upto fnSentSpec)

/-- 'laws.FnLost', WHERE WHAT IT READS IS OF BULK AT MOST 1048576: true; the input reads as it did. -/
def fnLostUptoRow : OpenClaim := { program := "ytkfphbbbidemcaa", sum := "1884ea137703d215128e1daf0c79d118485cfc351a62974369145cf9ef6bf672", func := "loop.example/g00850/laws.FnLost", spec := "fnLost", inPlace := ["slices.overlaps[loop.example/g00850/impl.Letter]"], unfollowed := true, recurses := true, apart := false, narrowed := true }
def FnLostUptoSaid : Prop := fnLostUptoRow.holds Try.pinned (OpenSpec.upto fnLostSpec)

end Rows
end Go.Proofs.Ytkfphbbbidemcaa
