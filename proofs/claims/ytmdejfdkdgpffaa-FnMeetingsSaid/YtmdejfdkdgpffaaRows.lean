/-
  No cell of these rows narrows 'for every input' (looked for: loops, veiled, ifaces, maps, wideKeys, modest, calm, conditions, laid).
  DERIVED. THE GIVEN ROWS OF THIS SEAT. 11 by the template 'for every input the law returns true; each argument reads behind the call as it read before'; 0 by the template 'total and deterministic' (their statements: YtmdejfdkdgpffaaTotals.lean).
  GIVEN WITH THE SEED: the statements are not yours to turn. If you find one false, say at which input.
  Laid BY PROGRAM, IN A SANDBOX (cutbox-rows.mjs): the forced cells as the released guide's own fill.sh prints them over the translation ff01a599b0414559… (all of the seat's roots in one cut). By AI agents, Wed Nov 11 2026. No macro, syntax, notation, axiom, sorry.
-/
import Derived.Test.YtmdejfdkdgpffaaChecked
import GoSem.Claim
import GoSem.ClaimJoined
import GoSem.ClaimMapViews
import Derived.JoinedTies
import Derived.KernelRfl
namespace Go.Proofs.Ytmdejfdkdgpffaa
/- THE CELL 'sum', in the pinned program and in every row, IS THE sha256 OF THE DUMP (.gsa) THAT YtmdejfdkdgpffaaProg.lean LOADS. Nothing in Lean hashes anything: it is a label: what it is worth is what the hold of that sum in a sandbox is worth. -/
noncomputable def Try.pinned : Pinned := { name := "ytmdejfdkdgpffaa", sum := "ff01a599b04145596da243b007af11fe324ef55a861ec405ae11d48b7cca7e41", checked := Try.checked }
namespace Rows
def none {H : Type} : Left H := { results := [], args := [] }

/-- 'laws.FnSpans': WHATEVER THE INPUT: true; the input reads as it did. -/
def fnSpansSpec : ChangeSpec := { name := "fnSpans", fn := fun _ => fun
  | [d1, d2] => { results := [.lit (.bool true)], args := [d1, d2] }
  | _ => none }
def fnSpansRow : OpenClaim := { program := "ytmdejfdkdgpffaa", sum := "ff01a599b04145596da243b007af11fe324ef55a861ec405ae11d48b7cca7e41", func := "loop.example/g00850/laws.FnSpans", spec := "fnSpans", apart := false }
def FnSpansSaid : Prop := fnSpansRow.holds Try.pinned (OpenSpec.ofChange fnSpansSpec)

/-- ITS FALSE NEIGHBOUR: 'it returns false'. Refute it at one input. -/
def fnSpansWrong : ChangeSpec := { name := "fnSpans", fn := fun _ => fun
  | [d1, d2] => { results := [.lit (.bool false)], args := [d1, d2] }
  | _ => none }
def FnSpansWrongFalsely : Prop := fnSpansRow.holds Try.pinned (OpenSpec.ofChange fnSpansWrong)

/-- 'laws.FnMeetings': WHATEVER THE INPUT: true; the input reads as it did. -/
def fnMeetingsSpec : ChangeSpec := { name := "fnMeetings", fn := fun _ => fun
  | [d1, d2] => { results := [.lit (.bool true)], args := [d1, d2] }
  | _ => none }
def fnMeetingsRow : OpenClaim := { program := "ytmdejfdkdgpffaa", sum := "ff01a599b04145596da243b007af11fe324ef55a861ec405ae11d48b7cca7e41", func := "loop.example/g00850/laws.FnMeetings", spec := "fnMeetings", apart := false }
def FnMeetingsSaid : Prop := fnMeetingsRow.holds Try.pinned (OpenSpec.ofChange fnMeetingsSpec)

/-- ITS FALSE NEIGHBOUR: 'it returns false'. Refute it at one input. -/
def fnMeetingsWrong : ChangeSpec := { name := "fnMeetings", fn := fun _ => fun
  | [d1, d2] => { results := [.lit (.bool false)], args := [d1, d2] }
  | _ => none }
def FnMeetingsWrongFalsely : Prop := fnMeetingsRow.holds Try.pinned (OpenSpec.ofChange fnMeetingsWrong)

/-- 'laws.FnExactGoodSpan': WHATEVER THE INPUT: true; the input reads as it did. -/
def fnExactGoodSpanSpec : ChangeSpec := { name := "fnExactGoodSpan", fn := fun _ => fun
  | [d] => { results := [.lit (.bool true)], args := [d] }
  | _ => none }
def fnExactGoodSpanRow : OpenClaim := { program := "ytmdejfdkdgpffaa", sum := "ff01a599b04145596da243b007af11fe324ef55a861ec405ae11d48b7cca7e41", func := "loop.example/g00850/laws.FnExactGoodSpan", spec := "fnExactGoodSpan", apart := false }
def FnExactGoodSpanSaid : Prop := fnExactGoodSpanRow.holds Try.pinned (OpenSpec.ofChange fnExactGoodSpanSpec)

/-- ITS FALSE NEIGHBOUR: 'it returns false'. Refute it at one input. -/
def fnExactGoodSpanWrong : ChangeSpec := { name := "fnExactGoodSpan", fn := fun _ => fun
  | [d] => { results := [.lit (.bool false)], args := [d] }
  | _ => none }
def FnExactGoodSpanWrongFalsely : Prop := fnExactGoodSpanRow.holds Try.pinned (OpenSpec.ofChange fnExactGoodSpanWrong)

/-- 'laws.FnExactGoodClock': WHATEVER THE INPUT: true; the input reads as it did. -/
def fnExactGoodClockSpec : ChangeSpec := { name := "fnExactGoodClock", fn := fun _ => fun
  | [d] => { results := [.lit (.bool true)], args := [d] }
  | _ => none }
def fnExactGoodClockRow : OpenClaim := { program := "ytmdejfdkdgpffaa", sum := "ff01a599b04145596da243b007af11fe324ef55a861ec405ae11d48b7cca7e41", func := "loop.example/g00850/laws.FnExactGoodClock", spec := "fnExactGoodClock", apart := false }
def FnExactGoodClockSaid : Prop := fnExactGoodClockRow.holds Try.pinned (OpenSpec.ofChange fnExactGoodClockSpec)

/-- ITS FALSE NEIGHBOUR: 'it returns false'. Refute it at one input. -/
def fnExactGoodClockWrong : ChangeSpec := { name := "fnExactGoodClock", fn := fun _ => fun
  | [d] => { results := [.lit (.bool false)], args := [d] }
  | _ => none }
def FnExactGoodClockWrongFalsely : Prop := fnExactGoodClockRow.holds Try.pinned (OpenSpec.ofChange fnExactGoodClockWrong)

/-- 'laws.FnExactSpanAt': WHATEVER THE INPUT: true; the input reads as it did. -/
def fnExactSpanAtSpec : ChangeSpec := { name := "fnExactSpanAt", fn := fun _ => fun
  | [d1, d2] => { results := [.lit (.bool true)], args := [d1, d2] }
  | _ => none }
def fnExactSpanAtRow : OpenClaim := { program := "ytmdejfdkdgpffaa", sum := "ff01a599b04145596da243b007af11fe324ef55a861ec405ae11d48b7cca7e41", func := "loop.example/g00850/laws.FnExactSpanAt", spec := "fnExactSpanAt", apart := false }
def FnExactSpanAtSaid : Prop := fnExactSpanAtRow.holds Try.pinned (OpenSpec.ofChange fnExactSpanAtSpec)

/-- ITS FALSE NEIGHBOUR: 'it returns false'. Refute it at one input. -/
def fnExactSpanAtWrong : ChangeSpec := { name := "fnExactSpanAt", fn := fun _ => fun
  | [d1, d2] => { results := [.lit (.bool false)], args := [d1, d2] }
  | _ => none }
def FnExactSpanAtWrongFalsely : Prop := fnExactSpanAtRow.holds Try.pinned (OpenSpec.ofChange fnExactSpanAtWrong)

/-- 'laws.FnExactIsPast': WHATEVER THE INPUT: true; the input reads as it did. -/
def fnExactIsPastSpec : ChangeSpec := { name := "fnExactIsPast", fn := fun _ => fun
  | [d1, d2] => { results := [.lit (.bool true)], args := [d1, d2] }
  | _ => none }
def fnExactIsPastRow : OpenClaim := { program := "ytmdejfdkdgpffaa", sum := "ff01a599b04145596da243b007af11fe324ef55a861ec405ae11d48b7cca7e41", func := "loop.example/g00850/laws.FnExactIsPast", spec := "fnExactIsPast", apart := false }
def FnExactIsPastSaid : Prop := fnExactIsPastRow.holds Try.pinned (OpenSpec.ofChange fnExactIsPastSpec)

/-- ITS FALSE NEIGHBOUR: 'it returns false'. Refute it at one input. -/
def fnExactIsPastWrong : ChangeSpec := { name := "fnExactIsPast", fn := fun _ => fun
  | [d1, d2] => { results := [.lit (.bool false)], args := [d1, d2] }
  | _ => none }
def FnExactIsPastWrongFalsely : Prop := fnExactIsPastRow.holds Try.pinned (OpenSpec.ofChange fnExactIsPastWrong)

/-- 'laws.FnExactIsAhead': WHATEVER THE INPUT: true; the input reads as it did. -/
def fnExactIsAheadSpec : ChangeSpec := { name := "fnExactIsAhead", fn := fun _ => fun
  | [d1, d2] => { results := [.lit (.bool true)], args := [d1, d2] }
  | _ => none }
def fnExactIsAheadRow : OpenClaim := { program := "ytmdejfdkdgpffaa", sum := "ff01a599b04145596da243b007af11fe324ef55a861ec405ae11d48b7cca7e41", func := "loop.example/g00850/laws.FnExactIsAhead", spec := "fnExactIsAhead", apart := false }
def FnExactIsAheadSaid : Prop := fnExactIsAheadRow.holds Try.pinned (OpenSpec.ofChange fnExactIsAheadSpec)

/-- ITS FALSE NEIGHBOUR: 'it returns false'. Refute it at one input. -/
def fnExactIsAheadWrong : ChangeSpec := { name := "fnExactIsAhead", fn := fun _ => fun
  | [d1, d2] => { results := [.lit (.bool false)], args := [d1, d2] }
  | _ => none }
def FnExactIsAheadWrongFalsely : Prop := fnExactIsAheadRow.holds Try.pinned (OpenSpec.ofChange fnExactIsAheadWrong)

/-- 'laws.FnExactMeetSpans': WHATEVER THE INPUT: true; the input reads as it did. -/
def fnExactMeetSpansSpec : ChangeSpec := { name := "fnExactMeetSpans", fn := fun _ => fun
  | [d] => { results := [.lit (.bool true)], args := [d] }
  | _ => none }
def fnExactMeetSpansRow : OpenClaim := { program := "ytmdejfdkdgpffaa", sum := "ff01a599b04145596da243b007af11fe324ef55a861ec405ae11d48b7cca7e41", func := "loop.example/g00850/laws.FnExactMeetSpans", spec := "fnExactMeetSpans", apart := false }
def FnExactMeetSpansSaid : Prop := fnExactMeetSpansRow.holds Try.pinned (OpenSpec.ofChange fnExactMeetSpansSpec)

/-- ITS FALSE NEIGHBOUR: 'it returns false'. Refute it at one input. -/
def fnExactMeetSpansWrong : ChangeSpec := { name := "fnExactMeetSpans", fn := fun _ => fun
  | [d] => { results := [.lit (.bool false)], args := [d] }
  | _ => none }
def FnExactMeetSpansWrongFalsely : Prop := fnExactMeetSpansRow.holds Try.pinned (OpenSpec.ofChange fnExactMeetSpansWrong)

/-- 'laws.FnExactMoveSpan': WHATEVER THE INPUT: true; the input reads as it did. -/
def fnExactMoveSpanSpec : ChangeSpec := { name := "fnExactMoveSpan", fn := fun _ => fun
  | [d1, d2] => { results := [.lit (.bool true)], args := [d1, d2] }
  | _ => none }
def fnExactMoveSpanRow : OpenClaim := { program := "ytmdejfdkdgpffaa", sum := "ff01a599b04145596da243b007af11fe324ef55a861ec405ae11d48b7cca7e41", func := "loop.example/g00850/laws.FnExactMoveSpan", spec := "fnExactMoveSpan", apart := false }
def FnExactMoveSpanSaid : Prop := fnExactMoveSpanRow.holds Try.pinned (OpenSpec.ofChange fnExactMoveSpanSpec)

/-- ITS FALSE NEIGHBOUR: 'it returns false'. Refute it at one input. -/
def fnExactMoveSpanWrong : ChangeSpec := { name := "fnExactMoveSpan", fn := fun _ => fun
  | [d1, d2] => { results := [.lit (.bool false)], args := [d1, d2] }
  | _ => none }
def FnExactMoveSpanWrongFalsely : Prop := fnExactMoveSpanRow.holds Try.pinned (OpenSpec.ofChange fnExactMoveSpanWrong)

/-- 'laws.FnExactWaitFor': WHATEVER THE INPUT: true; the input reads as it did. -/
def fnExactWaitForSpec : ChangeSpec := { name := "fnExactWaitFor", fn := fun _ => fun
  | [d1, d2, d3] => { results := [.lit (.bool true)], args := [d1, d2, d3] }
  | _ => none }
def fnExactWaitForRow : OpenClaim := { program := "ytmdejfdkdgpffaa", sum := "ff01a599b04145596da243b007af11fe324ef55a861ec405ae11d48b7cca7e41", func := "loop.example/g00850/laws.FnExactWaitFor", spec := "fnExactWaitFor", apart := false }
def FnExactWaitForSaid : Prop := fnExactWaitForRow.holds Try.pinned (OpenSpec.ofChange fnExactWaitForSpec)

/-- ITS FALSE NEIGHBOUR: 'it returns false'. Refute it at one input. -/
def fnExactWaitForWrong : ChangeSpec := { name := "fnExactWaitFor", fn := fun _ => fun
  | [d1, d2, d3] => { results := [.lit (.bool false)], args := [d1, d2, d3] }
  | _ => none }
def FnExactWaitForWrongFalsely : Prop := fnExactWaitForRow.holds Try.pinned (OpenSpec.ofChange fnExactWaitForWrong)

/-- 'laws.FnExactSurelyAfter': WHATEVER THE INPUT: true; the input reads as it did. -/
def fnExactSurelyAfterSpec : ChangeSpec := { name := "fnExactSurelyAfter", fn := fun _ => fun
  | [d1, d2] => { results := [.lit (.bool true)], args := [d1, d2] }
  | _ => none }
def fnExactSurelyAfterRow : OpenClaim := { program := "ytmdejfdkdgpffaa", sum := "ff01a599b04145596da243b007af11fe324ef55a861ec405ae11d48b7cca7e41", func := "loop.example/g00850/laws.FnExactSurelyAfter", spec := "fnExactSurelyAfter", apart := false }
def FnExactSurelyAfterSaid : Prop := fnExactSurelyAfterRow.holds Try.pinned (OpenSpec.ofChange fnExactSurelyAfterSpec)

/-- ITS FALSE NEIGHBOUR: 'it returns false'. Refute it at one input. -/
def fnExactSurelyAfterWrong : ChangeSpec := { name := "fnExactSurelyAfter", fn := fun _ => fun
  | [d1, d2] => { results := [.lit (.bool false)], args := [d1, d2] }
  | _ => none }
def FnExactSurelyAfterWrongFalsely : Prop := fnExactSurelyAfterRow.holds Try.pinned (OpenSpec.ofChange fnExactSurelyAfterWrong)

/- THE SECOND FORM. 'bulk': how many values and letters a reading holds, each counted each time it is reached (what is shared counts as often as it is met; a slice's spare places count too). A statement '..UptoSaid' is the law's where the arguments, and the package variables that the reading takes, are together of bulk at most 1048576: NARROWER than '..Said'. Prove '..Said' where nothing that the law and all that it calls make is longer than what came in: it says more and counts as full. Else prove '..UptoSaid'. A law counts once. -/
mutual
def uptoBulk {H : Type} : DataW H → Nat
  | .lit (.string bytes) => bytes.length + 1
  | .lit _ => 1
  | .nil => 1
  | .ptr d => uptoBulk d + 1
  | .slice elems spare => uptoBulkAll elems + uptoBulkAll spare + 1
  | .agg parts => uptoBulkAll parts + 1
  | .iface _ d => uptoBulk d + 1
  | .map entries => uptoBulkEntries entries + 1
  | .held _ => 1
def uptoBulkAll {H : Type} : List (DataW H) → Nat
  | [] => 0
  | d :: r => uptoBulk d + uptoBulkAll r
def uptoBulkEntries {H : Type} : List (Lit × DataW H) → Nat
  | [] => 0
  | x :: r => uptoBulkEntry x + uptoBulkEntries r
def uptoBulkEntry {H : Type} : Lit × DataW H → Nat
  | (.string bytes, d) => bytes.length + uptoBulk d + 1
  | (_, d) => uptoBulk d + 1
 end
def uptoSmall : (H : Type) → List (DataW H) → Bool := fun _ ds => decide (uptoBulkAll ds ≤ 1048576)
def OpenSpec.upto (s : _root_.Go.ChangeSpec) : _root_.Go.OpenSpec := { _root_.Go.OpenSpec.ofChange s with cond := some uptoSmall }

/-- 'laws.FnSpans', WHERE WHAT IT READS IS OF BULK AT MOST 1048576: true; the input reads as it did. -/
def fnSpansUptoRow : OpenClaim := { program := "ytmdejfdkdgpffaa", sum := "ff01a599b04145596da243b007af11fe324ef55a861ec405ae11d48b7cca7e41", func := "loop.example/g00850/laws.FnSpans", spec := "fnSpans", apart := false, narrowed := true }
def FnSpansUptoSaid : Prop := fnSpansUptoRow.holds Try.pinned (OpenSpec.upto fnSpansSpec)

/-- 'laws.FnMeetings', WHERE WHAT IT READS IS OF BULK AT MOST 1048576: true; the input reads as it did. -/
def fnMeetingsUptoRow : OpenClaim := { program := "ytmdejfdkdgpffaa", sum := "ff01a599b04145596da243b007af11fe324ef55a861ec405ae11d48b7cca7e41", func := "loop.example/g00850/laws.FnMeetings", spec := "fnMeetings", apart := false, narrowed := true }
def FnMeetingsUptoSaid : Prop := fnMeetingsUptoRow.holds Try.pinned (OpenSpec.upto fnMeetingsSpec)

/-- 'laws.FnExactGoodSpan', WHERE WHAT IT READS IS OF BULK AT MOST 1048576: true; the input reads as it did. -/
def fnExactGoodSpanUptoRow : OpenClaim := { program := "ytmdejfdkdgpffaa", sum := "ff01a599b04145596da243b007af11fe324ef55a861ec405ae11d48b7cca7e41", func := "loop.example/g00850/laws.FnExactGoodSpan", spec := "fnExactGoodSpan", apart := false, narrowed := true }
def FnExactGoodSpanUptoSaid : Prop := fnExactGoodSpanUptoRow.holds Try.pinned (OpenSpec.upto fnExactGoodSpanSpec)

/-- 'laws.FnExactGoodClock', WHERE WHAT IT READS IS OF BULK AT MOST 1048576: true; the input reads as it did. -/
def fnExactGoodClockUptoRow : OpenClaim := { program := "ytmdejfdkdgpffaa", sum := "ff01a599b04145596da243b007af11fe324ef55a861ec405ae11d48b7cca7e41", func := "loop.example/g00850/laws.FnExactGoodClock", spec := "fnExactGoodClock", apart := false, narrowed := true }
def FnExactGoodClockUptoSaid : Prop := fnExactGoodClockUptoRow.holds Try.pinned (OpenSpec.upto fnExactGoodClockSpec)

/-- 'laws.FnExactSpanAt', WHERE WHAT IT READS IS OF BULK AT MOST 1048576: true; the input reads as it did. -/
def fnExactSpanAtUptoRow : OpenClaim := { program := "ytmdejfdkdgpffaa", sum := "ff01a599b04145596da243b007af11fe324ef55a861ec405ae11d48b7cca7e41", func := "loop.example/g00850/laws.FnExactSpanAt", spec := "fnExactSpanAt", apart := false, narrowed := true }
def FnExactSpanAtUptoSaid : Prop := fnExactSpanAtUptoRow.holds Try.pinned (OpenSpec.upto fnExactSpanAtSpec)

/-- 'laws.FnExactIsPast', WHERE WHAT IT READS IS OF BULK AT MOST 1048576: true; the input reads as it did. -/
def fnExactIsPastUptoRow : OpenClaim := { program := "ytmdejfdkdgpffaa", sum := "ff01a599b04145596da243b007af11fe324ef55a861ec405ae11d48b7cca7e41", func := "loop.example/g00850/laws.FnExactIsPast", spec := "fnExactIsPast", apart := false, narrowed := true }
def FnExactIsPastUptoSaid : Prop := fnExactIsPastUptoRow.holds Try.pinned (OpenSpec.upto fnExactIsPastSpec)

/-- 'laws.FnExactIsAhead', WHERE WHAT IT READS IS OF BULK AT MOST 1048576: true; the input reads as it did. -/
def fnExactIsAheadUptoRow : OpenClaim := { program := "ytmdejfdkdgpffaa", sum := "ff01a599b04145596da243b007af11fe324ef55a861ec405ae11d48b7cca7e41", func := "loop.example/g00850/laws.FnExactIsAhead", spec := "fnExactIsAhead", apart := false, narrowed := true }
def FnExactIsAheadUptoSaid : Prop := fnExactIsAheadUptoRow.holds Try.pinned (OpenSpec.upto fnExactIsAheadSpec)

/-- 'laws.FnExactMeetSpans', WHERE WHAT IT READS IS OF BULK AT MOST 1048576: true; the input reads as it did. -/
def fnExactMeetSpansUptoRow : OpenClaim := { program := "ytmdejfdkdgpffaa", sum := "ff01a599b04145596da243b007af11fe324ef55a861ec405ae11d48b7cca7e41", func := "loop.example/g00850/laws.FnExactMeetSpans", spec := "fnExactMeetSpans", apart := false, narrowed := true }
def FnExactMeetSpansUptoSaid : Prop := fnExactMeetSpansUptoRow.holds Try.pinned (OpenSpec.upto fnExactMeetSpansSpec)

/-- 'laws.FnExactMoveSpan', WHERE WHAT IT READS IS OF BULK AT MOST 1048576: true; the input reads as it did. -/
def fnExactMoveSpanUptoRow : OpenClaim := { program := "ytmdejfdkdgpffaa", sum := "ff01a599b04145596da243b007af11fe324ef55a861ec405ae11d48b7cca7e41", func := "loop.example/g00850/laws.FnExactMoveSpan", spec := "fnExactMoveSpan", apart := false, narrowed := true }
def FnExactMoveSpanUptoSaid : Prop := fnExactMoveSpanUptoRow.holds Try.pinned (OpenSpec.upto fnExactMoveSpanSpec)

/-- 'laws.FnExactWaitFor', WHERE WHAT IT READS IS OF BULK AT MOST 1048576: true; the input reads as it did. -/
def fnExactWaitForUptoRow : OpenClaim := { program := "ytmdejfdkdgpffaa", sum := "ff01a599b04145596da243b007af11fe324ef55a861ec405ae11d48b7cca7e41", func := "loop.example/g00850/laws.FnExactWaitFor", spec := "fnExactWaitFor", apart := false, narrowed := true }
def FnExactWaitForUptoSaid : Prop := fnExactWaitForUptoRow.holds Try.pinned (OpenSpec.upto fnExactWaitForSpec)

/-- 'laws.FnExactSurelyAfter', WHERE WHAT IT READS IS OF BULK AT MOST 1048576: true; the input reads as it did. -/
def fnExactSurelyAfterUptoRow : OpenClaim := { program := "ytmdejfdkdgpffaa", sum := "ff01a599b04145596da243b007af11fe324ef55a861ec405ae11d48b7cca7e41", func := "loop.example/g00850/laws.FnExactSurelyAfter", spec := "fnExactSurelyAfter", apart := false, narrowed := true }
def FnExactSurelyAfterUptoSaid : Prop := fnExactSurelyAfterUptoRow.holds Try.pinned (OpenSpec.upto fnExactSurelyAfterSpec)

end Rows
end Go.Proofs.Ytmdejfdkdgpffaa
