/-
  No cell of these rows narrows 'for every input' (looked for: loops, veiled, ifaces, maps, wideKeys, modest, calm, conditions, laid).
  DERIVED. THE GIVEN ROWS OF THIS SEAT. 7 by the template 'for every input the law returns true; each argument reads behind the call as it read before'; 0 by the template 'total and deterministic' (their statements: YtojplmjoipjabaaTotals.lean).
  GIVEN WITH THE SEED: the statements are not yours to turn. If you find one false, say at which input.
  Laid BY PROGRAM, IN A SANDBOX (cutbox-rows.mjs): the forced cells as the released guide's own fill.sh prints them over the translation ab87af7196200f80… (all of the seat's roots in one cut). By AI agents, Wed Nov 11 2026. No macro, syntax, notation, axiom, sorry.
-/
import Derived.Test.YtojplmjoipjabaaChecked
import GoSem.Claim
import GoSem.ClaimJoined
import GoSem.ClaimMapViews
import Derived.JoinedTies
import Derived.KernelRfl
namespace Go.Proofs.Ytojplmjoipjabaa
/- THE CELL 'sum', in the pinned program and in every row, IS THE sha256 OF THE DUMP (.gsa) THAT YtojplmjoipjabaaProg.lean LOADS. Nothing in Lean hashes anything: it is a label: what it is worth is what the hold of that sum in a sandbox is worth. -/
noncomputable def Try.pinned : Pinned := { name := "ytojplmjoipjabaa", sum := "ab87af7196200f80bc736074887050ae44006d64c80e37dfbb71bcb0264ddc6e", checked := Try.checked }
namespace Rows
def none {H : Type} : Left H := { results := [], args := [] }

/-- 'laws.FnExactGoodPoll': WHATEVER THE INPUT: true; the input reads as it did. -/
def fnExactGoodPollSpec : ChangeSpec := { name := "fnExactGoodPoll", fn := fun _ => fun
  | [d] => { results := [.lit (.bool true)], args := [d] }
  | _ => none }
def fnExactGoodPollRow : OpenClaim := { program := "ytojplmjoipjabaa", sum := "ab87af7196200f80bc736074887050ae44006d64c80e37dfbb71bcb0264ddc6e", func := "loop.example/g00850/laws.FnExactGoodPoll", spec := "fnExactGoodPoll", apart := false }
def FnExactGoodPollSaid : Prop := fnExactGoodPollRow.holds Try.pinned (OpenSpec.ofChange fnExactGoodPollSpec)

/-- ITS FALSE NEIGHBOUR: 'it returns false'. Refute it at one input. -/
def fnExactGoodPollWrong : ChangeSpec := { name := "fnExactGoodPoll", fn := fun _ => fun
  | [d] => { results := [.lit (.bool false)], args := [d] }
  | _ => none }
def FnExactGoodPollWrongFalsely : Prop := fnExactGoodPollRow.holds Try.pinned (OpenSpec.ofChange fnExactGoodPollWrong)

/-- 'laws.FnExactNewPoll': WHATEVER THE INPUT: true; the input reads as it did. -/
def fnExactNewPollSpec : ChangeSpec := { name := "fnExactNewPoll", fn := fun _ => fun
  | [d1, d2] => { results := [.lit (.bool true)], args := [d1, d2] }
  | _ => none }
def fnExactNewPollRow : OpenClaim := { program := "ytojplmjoipjabaa", sum := "ab87af7196200f80bc736074887050ae44006d64c80e37dfbb71bcb0264ddc6e", func := "loop.example/g00850/laws.FnExactNewPoll", spec := "fnExactNewPoll", apart := false }
def FnExactNewPollSaid : Prop := fnExactNewPollRow.holds Try.pinned (OpenSpec.ofChange fnExactNewPollSpec)

/-- ITS FALSE NEIGHBOUR: 'it returns false'. Refute it at one input. -/
def fnExactNewPollWrong : ChangeSpec := { name := "fnExactNewPoll", fn := fun _ => fun
  | [d1, d2] => { results := [.lit (.bool false)], args := [d1, d2] }
  | _ => none }
def FnExactNewPollWrongFalsely : Prop := fnExactNewPollRow.holds Try.pinned (OpenSpec.ofChange fnExactNewPollWrong)

/-- 'laws.FnExactFallVoter': WHATEVER THE INPUT: true; the input reads as it did. -/
def fnExactFallVoterSpec : ChangeSpec := { name := "fnExactFallVoter", fn := fun _ => fun
  | [d1, d2] => { results := [.lit (.bool true)], args := [d1, d2] }
  | _ => none }
def fnExactFallVoterRow : OpenClaim := { program := "ytojplmjoipjabaa", sum := "ab87af7196200f80bc736074887050ae44006d64c80e37dfbb71bcb0264ddc6e", func := "loop.example/g00850/laws.FnExactFallVoter", spec := "fnExactFallVoter", apart := false }
def FnExactFallVoterSaid : Prop := fnExactFallVoterRow.holds Try.pinned (OpenSpec.ofChange fnExactFallVoterSpec)

/-- ITS FALSE NEIGHBOUR: 'it returns false'. Refute it at one input. -/
def fnExactFallVoterWrong : ChangeSpec := { name := "fnExactFallVoter", fn := fun _ => fun
  | [d1, d2] => { results := [.lit (.bool false)], args := [d1, d2] }
  | _ => none }
def FnExactFallVoterWrongFalsely : Prop := fnExactFallVoterRow.holds Try.pinned (OpenSpec.ofChange fnExactFallVoterWrong)

/-- 'laws.FnExactLeaderOf': WHATEVER THE INPUT: true; the input reads as it did. -/
def fnExactLeaderOfSpec : ChangeSpec := { name := "fnExactLeaderOf", fn := fun _ => fun
  | [d1, d2] => { results := [.lit (.bool true)], args := [d1, d2] }
  | _ => none }
def fnExactLeaderOfRow : OpenClaim := { program := "ytojplmjoipjabaa", sum := "ab87af7196200f80bc736074887050ae44006d64c80e37dfbb71bcb0264ddc6e", func := "loop.example/g00850/laws.FnExactLeaderOf", spec := "fnExactLeaderOf", unfollowed := true, recurses := true, apart := false }
def FnExactLeaderOfSaid : Prop := fnExactLeaderOfRow.holds Try.pinned (OpenSpec.ofChange fnExactLeaderOfSpec)

/-- ITS FALSE NEIGHBOUR: 'it returns false'. Refute it at one input. -/
def fnExactLeaderOfWrong : ChangeSpec := { name := "fnExactLeaderOf", fn := fun _ => fun
  | [d1, d2] => { results := [.lit (.bool false)], args := [d1, d2] }
  | _ => none }
def FnExactLeaderOfWrongFalsely : Prop := fnExactLeaderOfRow.holds Try.pinned (OpenSpec.ofChange fnExactLeaderOfWrong)

/-- 'laws.FnExactIsFair': WHATEVER THE INPUT: true; the input reads as it did. -/
def fnExactIsFairSpec : ChangeSpec := { name := "fnExactIsFair", fn := fun _ => fun
  | [d] => { results := [.lit (.bool true)], args := [d] }
  | _ => none }
def fnExactIsFairRow : OpenClaim := { program := "ytojplmjoipjabaa", sum := "ab87af7196200f80bc736074887050ae44006d64c80e37dfbb71bcb0264ddc6e", func := "loop.example/g00850/laws.FnExactIsFair", spec := "fnExactIsFair", unfollowed := true, recurses := true, apart := false }
def FnExactIsFairSaid : Prop := fnExactIsFairRow.holds Try.pinned (OpenSpec.ofChange fnExactIsFairSpec)

/-- ITS FALSE NEIGHBOUR: 'it returns false'. Refute it at one input. -/
def fnExactIsFairWrong : ChangeSpec := { name := "fnExactIsFair", fn := fun _ => fun
  | [d] => { results := [.lit (.bool false)], args := [d] }
  | _ => none }
def FnExactIsFairWrongFalsely : Prop := fnExactIsFairRow.holds Try.pinned (OpenSpec.ofChange fnExactIsFairWrong)

/-- 'laws.FnSent': WHATEVER THE INPUT: true; the input reads as it did. -/
def fnSentSpec : ChangeSpec := { name := "fnSent", fn := fun _ => fun
  | [d] => { results := [.lit (.bool true)], args := [d] }
  | _ => none }
def fnSentRow : OpenClaim := { program := "ytojplmjoipjabaa", sum := "ab87af7196200f80bc736074887050ae44006d64c80e37dfbb71bcb0264ddc6e", func := "loop.example/g00850/laws.FnSent", spec := "fnSent", inPlace := ["slices.overlaps[loop.example/g00850/impl.Letter]"], unfollowed := true, recurses := true, apart := false }
def FnSentSaid : Prop := fnSentRow.holds Try.pinned (OpenSpec.ofChange fnSentSpec)

/-- ITS FALSE NEIGHBOUR: 'it returns false'. Refute it at one input. -/
def fnSentWrong : ChangeSpec := { name := "fnSent", fn := fun _ => fun
  | [d] => { results := [.lit (.bool false)], args := [d] }
  | _ => none }
def FnSentWrongFalsely : Prop := fnSentRow.holds Try.pinned (OpenSpec.ofChange fnSentWrong)

/-- 'laws.FnLost': WHATEVER THE INPUT: true; the input reads as it did. -/
def fnLostSpec : ChangeSpec := { name := "fnLost", fn := fun _ => fun
  | [d] => { results := [.lit (.bool true)], args := [d] }
  | _ => none }
def fnLostRow : OpenClaim := { program := "ytojplmjoipjabaa", sum := "ab87af7196200f80bc736074887050ae44006d64c80e37dfbb71bcb0264ddc6e", func := "loop.example/g00850/laws.FnLost", spec := "fnLost", inPlace := ["slices.overlaps[loop.example/g00850/impl.Letter]"], unfollowed := true, recurses := true, apart := false }
def FnLostSaid : Prop := fnLostRow.holds Try.pinned (OpenSpec.ofChange fnLostSpec)

/-- ITS FALSE NEIGHBOUR: 'it returns false'. Refute it at one input. -/
def fnLostWrong : ChangeSpec := { name := "fnLost", fn := fun _ => fun
  | [d] => { results := [.lit (.bool false)], args := [d] }
  | _ => none }
def FnLostWrongFalsely : Prop := fnLostRow.holds Try.pinned (OpenSpec.ofChange fnLostWrong)

/- THE SECOND FORM. 'bulk': how many values and letters a reading holds, each counted each time it is reached (what is shared counts as often as it is met; a slice's spare places count too). A statement '..UptoSaid' is the law's where the arguments, and the package variables that the reading takes, are together of bulk at most 1048576: NARROWER than '..Said'. Prove '..Said' where nothing that the law and all that it calls make is longer than what came in: it says more and counts as full. Else prove '..UptoSaid'. A law counts once. -/
mutual
def uptoBulk {H : Type} : DataW H → Nat
  | .lit (.string bytes) => bytes.length + 1
  | .lit _ => 1
  | .nil => 1
  | .ptr d => uptoBulk d + 1
  | .slice elems spare => uptoBulkAll elems + uptoBulkAll spare + 1
  | .agg parts => uptoBulkAll parts + 1
  | .iface _ d => uptoBulk d + 1
  | .map entries => uptoBulkEntries entries + 1
  | .held _ => 1
def uptoBulkAll {H : Type} : List (DataW H) → Nat
  | [] => 0
  | d :: r => uptoBulk d + uptoBulkAll r
def uptoBulkEntries {H : Type} : List (Lit × DataW H) → Nat
  | [] => 0
  | x :: r => uptoBulkEntry x + uptoBulkEntries r
def uptoBulkEntry {H : Type} : Lit × DataW H → Nat
  | (.string bytes, d) => bytes.length + uptoBulk d + 1
  | (_, d) => uptoBulk d + 1
 end
def uptoSmall : (H : Type) → List (DataW H) → Bool := fun _ ds => decide (uptoBulkAll ds ≤ 1048576)
def OpenSpec.upto (s : _root_.Go.ChangeSpec) : _root_.Go.OpenSpec := { _root_.Go.OpenSpec.ofChange s with cond := some uptoSmall }

/-- 'laws.FnExactGoodPoll', WHERE WHAT IT READS IS OF BULK AT MOST 1048576: true; the input reads as it did. -/
def fnExactGoodPollUptoRow : OpenClaim := { program := "ytojplmjoipjabaa", sum := "ab87af7196200f80bc736074887050ae44006d64c80e37dfbb71bcb0264ddc6e", func := "loop.example/g00850/laws.FnExactGoodPoll", spec := "fnExactGoodPoll", apart := false, narrowed := true }
def FnExactGoodPollUptoSaid : Prop := fnExactGoodPollUptoRow.holds Try.pinned (OpenSpec.upto fnExactGoodPollSpec)

/-- 'laws.FnExactNewPoll', WHERE WHAT IT READS IS OF BULK AT MOST 1048576: true; the input reads as it did. -/
def fnExactNewPollUptoRow : OpenClaim := { program := "ytojplmjoipjabaa", sum := "ab87af7196200f80bc736074887050ae44006d64c80e37dfbb71bcb0264ddc6e", func := "loop.example/g00850/laws.FnExactNewPoll", spec := "fnExactNewPoll", apart := false, narrowed := true }
def FnExactNewPollUptoSaid : Prop := fnExactNewPollUptoRow.holds Try.pinned (OpenSpec.upto fnExactNewPollSpec)

/-- 'laws.FnExactFallVoter', WHERE WHAT IT READS IS OF BULK AT MOST 1048576: true; the input reads as it did. -/
def fnExactFallVoterUptoRow : OpenClaim := { program := "ytojplmjoipjabaa", sum := "ab87af7196200f80bc736074887050ae44006d64c80e37dfbb71bcb0264ddc6e", func := "loop.example/g00850/laws.FnExactFallVoter", spec := "fnExactFallVoter", apart := false, narrowed := true }
def FnExactFallVoterUptoSaid : Prop := fnExactFallVoterUptoRow.holds Try.pinned (OpenSpec.upto fnExactFallVoterSpec)

/-- 'laws.FnExactLeaderOf', WHERE WHAT IT READS IS OF BULK AT MOST 1048576: true; the input reads as it did. -/
def fnExactLeaderOfUptoRow : OpenClaim := { program := "ytojplmjoipjabaa", sum := "ab87af7196200f80bc736074887050ae44006d64c80e37dfbb71bcb0264ddc6e", func := "loop.example/g00850/laws.FnExactLeaderOf", spec := "fnExactLeaderOf", unfollowed := true, recurses := true, apart := false, narrowed := true }
def FnExactLeaderOfUptoSaid : Prop := fnExactLeaderOfUptoRow.holds Try.pinned (OpenSpec.upto fnExactLeaderOfSpec)

/-- 'laws.FnExactIsFair', WHERE WHAT IT READS IS OF BULK AT MOST 1048576: true; the input reads as it did. -/
def fnExactIsFairUptoRow : OpenClaim := { program := "ytojplmjoipjabaa", sum := "ab87af7196200f80bc736074887050ae44006d64c80e37dfbb71bcb0264ddc6e", func := "loop.example/g00850/laws.FnExactIsFair", spec := "fnExactIsFair", unfollowed := true, recurses := true, apart := false, narrowed := true }
def FnExactIsFairUptoSaid : Prop := fnExactIsFairUptoRow.holds Try.pinned (OpenSpec.upto fnExactIsFairSpec)

/-- 'laws.FnSent', WHERE WHAT IT READS IS OF BULK AT MOST 1048576: true; the input reads as it did. -/
def fnSentUptoRow : OpenClaim := { program := "ytojplmjoipjabaa", sum := "ab87af7196200f80bc736074887050ae44006d64c80e37dfbb71bcb0264ddc6e", func := "loop.example/g00850/laws.FnSent", spec := "fnSent", inPlace := ["slices.overlaps[loop.example/g00850/impl.Letter]"], unfollowed := true, recurses := true, apart := false, narrowed := true }
def FnSentUptoSaid : Prop := fnSentUptoRow.holds Try.pinned (OpenSpec.upto fnSentSpec)

/-- 'laws.FnLost', WHERE WHAT IT READS IS OF BULK AT MOST 1048576: true; the input reads as it did. -/
def fnLostUptoRow : OpenClaim := { program := "ytojplmjoipjabaa", sum := "ab87af7196200f80bc736074887050ae44006d64c80e37dfbb71bcb0264ddc6e", func := "loop.example/g00850/laws.FnLost", spec := "fnLost", inPlace := ["slices.overlaps[loop.example/g00850/impl.Letter]"], unfollowed := true, recurses := true, apart := false, narrowed := true }
def FnLostUptoSaid : Prop := fnLostUptoRow.holds Try.pinned (OpenSpec.upto fnLostSpec)

end Rows
end Go.Proofs.Ytojplmjoipjabaa
