/-
  Plain mathematics of locks: what is valid, what conflicts, who waits. Nothing of the program.
-/
import Derived.Test.YtlfdefjkfacngaaPre
import Derived.Test.YtlfdefjkfacngaaLeaf
namespace Go.Proofs.Ytlfdefjkfacngaa.Lk
open Go CM
set_option linter.unusedVariables false

/-- A lock: key, transaction, for writing. -/
abbrev LK := ByteArray × Int × Bool
def lkB (x : LK) : Bool := keyB x.1 && inB x.2.1 1 60
def heldB (x y : LK) : Bool := decide (x.1 = y.1) && decide (x.2.1 = y.2.1)
def clashB (x y : LK) : Bool := decide (x.1 = y.1) && (!decide (x.2.1 = y.2.1) && (x.2.2 || y.2.2))
def exclB (x y : LK) : Bool := heldB x y || clashB x y
/-- No lock excludes one behind it. -/
def freeB : List LK → Bool
  | [] => true
  | x :: l => !l.any (exclB x) && freeB l
def goodB (l : List LK) : Bool := decide (l.length ≤ 60) && (l.all lkB && freeB l)
def insI (x : Int) : List Int → List Int
  | [] => [x]
  | y :: l => if y < x then y :: insI x l else if y = x then y :: l else x :: y :: l
def txnsL (l : List LK) (x : LK) : List Int := (l.filter (clashB x)).map fun y => y.2.1
end Go.Proofs.Ytlfdefjkfacngaa.Lk
