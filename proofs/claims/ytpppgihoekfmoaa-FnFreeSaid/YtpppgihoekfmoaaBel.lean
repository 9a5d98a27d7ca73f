/-
  Regions that draw their order, whose operations only read, and whose callees leave all that was there as it was: walked once, in the text's order. The class of worlds: those in which nothing below the heap's size has changed.
-/
import Derived.Test.YtpppgihoekfmoaaRow
import Derived.Deep.Quiet
import Derived.BigQuiet
namespace Go.Proofs.Ytpppgihoekfmoaa
open Go.RowKit
set_option linter.unusedVariables false

/-- The worlds behind w: what was there is as it was. -/
def BelT (w : World) : Type := { w' : World // Below w.heap.size w w' }
def BelT.w {w : World} (p : BelT w) : World := p.val
instance (w : World) : Nonempty (BelT w) := ⟨⟨w, Below.refl _ _⟩⟩
theorem BelT.below {w : World} (p : BelT w) : Below w.heap.size w p.w := p.property
theorem BelT.sz {w : World} (p : BelT w) : w.heap.size ≤ p.w.heap.size := p.below.size
theorem bel_region {P : Program} {id : Nat} {Q : Exit → Act → World → Prop} {a : Act} {w : World} {l : List Oper} (hm : P.follows .mixedOrders = true) (hB : Region.lexB .any l.toArray = true)
    (h : wpQuiet P l.toArray (fun w' => ∃ p : BelT w, w' = p.w) (fun a' => ∀ p : BelT w, Q .normal a' p.w) l a) : (Code.region id l.toArray true).wp P Q a w :=
  wp_region_quiet (C := fun w' => ∃ p : BelT w, w' = p.w) hm hB ⟨⟨w.drew, (Below.refl _ _).drew⟩, rfl⟩ (by
    have e : (fun a' => ∀ w', (∃ p : BelT w, w' = p.w) → Q .normal a' w') = fun a' => ∀ p : BelT w, Q .normal a' p.w := by
      funext a'
      exact propext ⟨fun h p => h _ ⟨p, rfl⟩, fun h w' ⟨p, hp⟩ => by subst hp; exact h p⟩
    simp only [e]
    exact h)
/-- A cell of an old block, in every world of the class. -/
theorem bel_cell {w : World} {b o : Nat} {v : Value} (h : w.cell? ⟨b, o, none⟩ = some v) (hb : b < w.heap.size) (p : BelT w) : p.w.cell? ⟨b, o, none⟩ = some v := (p.below.cell (p := ⟨b, o, none⟩) hb).trans h
/-- A callee's contract, met in a world of the class. -/
theorem bel_call {P : Program} {f : FuncId} {args : Array Value} {w : World} {p : BelT w} {v : Value} (h : Calls P f args p.w fun e w' => e = .returned v ∧ Below p.w.heap.size p.w w') :
    Calls P f args p.w fun e w'' => e = .returned v ∧ ∃ q : BelT w, w'' = q.w :=
  h.mono fun _ w'' ⟨he, hb⟩ => ⟨he, ⟨⟨w'', p.below.trans (hb.mono p.below.size)⟩, rfl⟩⟩
theorem bel_quiet {P : Program} {f : FuncId} {args : Array Value} {w : World} {p : BelT w} {v : Value} (h : Calls P f args p.w fun e w' => e = .returned v ∧ ∃ n, w' = p.w.drewN n) :
    Calls P f args p.w fun e w'' => e = .returned v ∧ ∃ q : BelT w, w'' = q.w :=
  h.mono fun _ w'' ⟨he, n, hn⟩ => ⟨he, ⟨⟨w'', by rw [hn]; exact below_drewN p.below n⟩, rfl⟩⟩
theorem bel_same {P : Program} {f : FuncId} {args : Array Value} {w : World} {p : BelT w} {v : Value} (h : Calls P f args p.w fun e w' => e = .returned v ∧ p.w = w') :
    Calls P f args p.w fun e w'' => e = .returned v ∧ ∃ q : BelT w, w'' = q.w :=
  h.mono fun _ w'' ⟨he, hn⟩ => ⟨he, p, hn.symm⟩
end Go.Proofs.Ytpppgihoekfmoaa
