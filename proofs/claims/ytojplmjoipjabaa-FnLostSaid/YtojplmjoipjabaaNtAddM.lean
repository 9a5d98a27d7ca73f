/-
  What putting a letter into a net's queue through a pointer leaves.
-/
import Derived.Test.YtojplmjoipjabaaNtDue
namespace Go.Proofs.Ytojplmjoipjabaa.Nt
open Go.RowKit
set_option linter.unusedVariables false
set_option linter.unusedSimpArgs false

/-- Only block g and the block of A are written; new ones may come. -/
def TwoA (g : Nat) (A : Option Addr) (w w' : World) : Prop :=
  w'.os = w.os ∧ w'.tape = w.tape ∧ w'.output = w.output ∧ w.heap.size ≤ w'.heap.size ∧ ∀ b, b < w.heap.size → b ≠ g → (∀ x, A = some x → x.block ≠ b) → w'.heap[b]? = w.heap[b]?
theorem TwoA.below {g B : Nat} {A : Option Addr} {w w' : World} (h : TwoA g A w w') (hg : B ≤ g) (hA : ∀ x, A = some x → B ≤ x.block) (hB : B ≤ w.heap.size) : Below B w w' :=
  ⟨h.1, h.2.1, h.2.2.1, h.2.2.2.1, fun k hk => h.2.2.2.2 k (by omega) (by omega) (fun x hx e => by have := hA x hx; omega)⟩
theorem TwoA.ints {g lo hi lo' hi' cap cap' : Nat} {A C : Option Addr} {w w' : World} {is : List Int} {ls : List (Int × Int × Int × ByteArray)} (h : TwoA g A w w') (ho : OwnI w lo hi C cap is) (hl : OwnL w lo' hi' A cap' ls) (hg : hi ≤ g) : OwnI w' lo hi C cap is := by
  rcases ho with ho | ⟨q, cur, hA, h1, h2, h3, h4⟩
  · exact .inl ho
  · refine .inr ⟨q, cur, hA, h1, h2, (h.2.2.2.2 q (lt_blk h3) (by omega) (fun x hx e => ?_)).trans h3, h4⟩
    obtain ⟨_, _, cu, hcu⟩ := Own.block hl x hx
    rw [e, h3] at hcu
    simp at hcu
theorem TwoA.blk {g b : Nat} {A : Option Addr} {w w' : World} {o : Obj} (h : TwoA g A w w') (hb : w.heap[b]? = some o) (hg : b ≠ g) (hA : ∀ x, A = some x → x.block ≠ b) : w'.heap[b]? = some o := (h.2.2.2.2 b (lt_blk hb) hg hA).trans hb

theorem flat_cut (ls : List (Int × Int × Int × ByteArray)) (k : Nat) (hk : k ≤ ls.length) : ((ls.map ltCs).flatten).take (k * 4) = ((ls.take k).map ltCs).flatten ∧ ((ls.map ltCs).flatten).drop (k * 4) = ((ls.drop k).map ltCs).flatten := by
  have e : (ls.map ltCs).flatten = ((ls.take k).map ltCs).flatten ++ ((ls.drop k).map ltCs).flatten := by rw [← flat_split, List.take_append_drop]
  have hl : k * 4 = (((ls.take k).map ltCs).flatten).length := by rw [flat_len4 (ls.take k) k (by rw [List.length_take]; omega)]
  rw [e]
  exact ⟨take_self_append _ _ _ hl, drop_self_append _ _ _ hl⟩
theorem flat_ins (ls : List (Int × Int × Int × ByteArray)) (x : (Int × Int × Int × ByteArray)) : ((ls.map ltCs).flatten).take (dueK ls x.2.2.1 * 4) ++ ltCs x ++ ((ls.map ltCs).flatten).drop (dueK ls x.2.2.1 * 4) = ((insL ls x).map ltCs).flatten := by
  obtain ⟨h1, h2⟩ := flat_cut ls (dueK ls x.2.2.1) (dueK_le _ _)
  rw [h1, h2]
  unfold insL
  rw [flat_split]
  simp

/-- What putting a letter in leaves. -/
def AddPost (g : Nat) (A : Option Addr) (lo : Nat) (v0 v1 v2 : Value) (us : List (Int × Int × Int × ByteArray)) (w : World) (e : Ending) (w' : World) : Prop :=
  ∃ A2 c2, e = .returned (.tuple #[]) ∧ w'.heap[g]? = some (.cells #[v0, v1, v2, .slice A2 us.length c2] 35 (0, 0)) ∧ OwnL w' lo w'.heap.size A2 c2 us ∧ TwoA g A w w'

end Go.Proofs.Ytojplmjoipjabaa.Nt
