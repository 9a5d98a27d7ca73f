/-
  What the walks of the exact laws over nets share.
-/
import Derived.Test.YtojplmjoipjabaaNtSz
import Derived.Test.YtojplmjoipjabaaNtTo
import Derived.Test.YtojplmjoipjabaaNtEq
import Derived.Test.YtojplmjoipjabaaNtMk2
import Derived.Test.YtojplmjoipjabaaNtF2
namespace Go.Proofs.Ytojplmjoipjabaa.Nt
open Go.RowKit
set_option linter.unusedVariables false
set_option linter.unusedSimpArgs false

theorem szNetW_any (now far : Int) (A A' : Option Addr) (n c n' c' : Nat) (ls : List (Int × Int × Int × ByteArray)) (B : Nat) (w : World) (hn : n ≤ maxLen) (hn' : ls.length = n') (h : LetsB w B A' ls) (hB : B ≤ w.heap.size) (hm : LMax ls) :
    Calls Try.prog 46 #[.agg #[.int .i64 now, .slice A n c, .int .i64 far, .slice A' n' c'], .int .i64 1048576] w fun e w' => e = .returned (.int .i64 (remI (n + szLs ls) 1048576)) ∧ Below w.heap.size w w' :=
  szNet_any now far A A' n c n' c' ls w hn hn' (h.mono hB) hm
theorem ifA_small {now far : Int} {is : List Int} {ls : List (Int × Int × Int × ByteArray)} : (ifA now is far ls).2.1.length ≤ 1048576 ∧ (ifA now is far ls).2.2.2.1.length ≤ 2000000 := by
  unfold ifA
  split
  · rename_i h
    obtain ⟨_, gh, _, gl, _⟩ := netB_true h
    obtain ⟨_, g5, _⟩ := homesB_true gh
    constructor <;> simp only <;> omega
  · exact ⟨by simp [noA], by simp [noA]⟩
theorem NAPost_un (an af : Int) (ai : List Int) (al : List (Int × Int × Int × ByteArray)) (ok : Bool) (w : World) : NAPost (an, ai, af, al, ok) w = fun e w' => ∃ A c A' c', e = .returned (.tuple #[.agg #[.int .i64 an, .slice A ai.length c, .int .i64 af, .slice A' al.length c'], .bool ok]) ∧ OwnI w' w.heap.size w'.heap.size A c ai ∧ OwnL w' w.heap.size w'.heap.size A' c' al ∧ Below w.heap.size w w' := rfl
theorem noA_small : noA.2.1.length ≤ 1048576 ∧ noA.2.2.2.1.length ≤ 2000000 := ⟨by simp [noA], by simp [noA]⟩
theorem sendA_small {now far a b : Int} {is : List Int} {ls : List (Int × Int × Int × ByteArray)} {s : ByteArray} : (sendA now is far ls a b s).2.1.length ≤ 1048576 ∧ (sendA now is far ls a b s).2.2.2.1.length ≤ 2000000 := by
  unfold sendA; split; exact ifA_small; exact noA_small
theorem dblA_small {now far i : Int} {is : List Int} {ls : List (Int × Int × Int × ByteArray)} : (dblA now is far ls i).2.1.length ≤ 1048576 ∧ (dblA now is far ls i).2.2.2.1.length ≤ 2000000 := by
  unfold dblA; split; exact ifA_small; exact noA_small
theorem dlyA_small {now far i by1 : Int} {is : List Int} {ls : List (Int × Int × Int × ByteArray)} : (dlyA now is far ls i by1).2.1.length ≤ 1048576 ∧ (dlyA now is far ls i by1).2.2.2.1.length ≤ 2000000 := by
  unfold dlyA; split; exact ifA_small; exact noA_small
theorem tickA_small {now far : Int} {is : List Int} {ls : List (Int × Int × Int × ByteArray)} : (tickA now is far ls).2.1.length ≤ 1048576 ∧ (tickA now is far ls).2.2.2.1.length ≤ 2000000 := by
  unfold tickA; split; exact ifA_small; exact noA_small
theorem loseA_small {now far i : Int} {is : List Int} {ls : List (Int × Int × Int × ByteArray)} (h1 : is.length ≤ 1048576) (h2 : ls.length ≤ 1048576) : (loseA now is far ls i).2.1.length ≤ 1048576 ∧ (loseA now is far ls i).2.2.2.1.length ≤ 2000000 := by
  unfold loseA; split
  · refine ⟨h1, ?_⟩
    simp only [outL, List.length_append, List.length_take, List.length_drop]
    omega
  · exact noA_small
end Go.Proofs.Ytojplmjoipjabaa.Nt
