/-
  What slices.Insert rests on, for elements of any number of cells: the builtin copy as an equation, and what two copies make of a row. Nothing of the program.
-/
import Derived.Test.YtkhndofplebcaaaApp
import Derived.Laws.CopyOwn
import Derived.Lib.AppendZerosOnto
import Derived.Lib.Overlaps
namespace Go.Proofs.Ytkhndofplebcaaa
open Go Go.RowKit
set_option linter.unusedVariables false

section
variable {P : Program}
/-- The builtin copy onto part of a known block, elements of s cells. -/
theorem run_copy_at (w : World) (dT sT ty elem : TypeId) (g o dLen dCap s : Nat) (a : Addr) (sLen sCap : Nat) (cur : List Value) (t : TypeId) (cs : List Value)
    (hu : P.underlying dT = some (.slice elem)) (hs : (P.info? elem).map (·.size) = some s)
    (hg : w.heap[g]? = some (.cells cur.toArray t (0, 0))) (hn : cs.length = Nat.min sLen dLen * s)
    (hsrc : ∀ j v, cs[j]? = some v → w.cell? (a.add j) = some v) (hfit : o + cs.length ≤ cur.length) (h1 : ∀ v ∈ cs, v.oneCell' = true) :
    (Builtin.copy_ #[dT, sT] ty #[.slice (some ⟨g, o, none⟩) dLen dCap, .slice (some a) sLen sCap]).run P w =
      .ok (goInt (Nat.min sLen dLen)) (w.setRow g (cur.take o ++ cs ++ cur.drop (o + cs.length)).toArray) := by
  have hl := run_loadCells_list (P := P) w a cs hsrc
  have hst := run_storeCells_at P g o t cs 0 cur.toArray w hg (by simpa using hfit) h1
  cases hq : P.info? elem with
  | none => simp [hq] at hs
  | some i =>
    have hi : i.size = s := by simpa [hq] using hs
    simp [Builtin.copy_, run_underlying hu, Builtin.lenOf, Builtin.firstCells, sizeOf, typeInfo, hq, hi, ← hn, hl, hst]
/-- The builtin copy in a walk, its run told by an equation. -/
theorem wpList_copy_told {w : World} {ops : Array Oper} {rest : List Oper} {o : Oper} {a : Act} {Q : Exit → Act → World → Prop} (hgd : o.guard = none) (d s : Operand) (dT sT : TypeId)
    (ho : o.op = .call { callee := .builtin .copy, args := #[d, s], argTypes := #[dT, sT] }) (vd vs : Value) (hd : a.eval d = vd) (hs : a.eval s = vs) {v' : Value} {w' : World}
    (hr : (Builtin.copy_ #[dT, sT] o.type #[vd, vs]).run P w = .ok v' w') (h : wpList P ops Q rest (a.put o.dst v') w') : wpList P ops Q (o :: rest) a w := by
  refine wpList_plain hgd fun K hK => ?_
  unfold Oper.wp
  simp [execOp, ho, resolve, invoke, builtin, hd, hs, hr, Result.andThen]
  exact hK _ _ h
/-- The same as a step of a region that draws. -/
theorem step_copy_told {ops : Array Oper} {o : Oper} {a : Act} {w : World} {K : Act → World → Prop} {Q : Exit → Act → World → Prop} {E : Prop} (hgd : o.guard = none) (d s : Operand) (dT sT : TypeId)
    (ho : o.op = .call { callee := .builtin .copy, args := #[d, s], argTypes := #[dT, sT] }) (vd vs : Value) (hd : a.eval d = vd) (hs : a.eval s = vs) {v' : Value} {w' : World}
    (hr : (Builtin.copy_ #[dT, sT] o.type #[vd, vs]).run P w = .ok v' w') (h : K (a.put o.dst v') w') :
    if Region.wanted o (yielded ops a.tmps) = true then Oper.wp P o a w K Q else E := by
  have hw : Region.wanted o (yielded ops a.tmps) = true := by simp [Region.wanted, hgd]
  rw [if_pos hw]
  unfold Oper.wp
  simp [execOp, ho, resolve, invoke, builtin, hd, hs, hr, Result.andThen]
  exact h
end
/-! ### Lists -/
def spl (l : List Value) (o : Nat) (x : List Value) : List Value := l.take o ++ x ++ l.drop (o + x.length)
theorem spl_len {l x : List Value} {o : Nat} (h : o + x.length ≤ l.length) : (spl l o x).length = l.length := by
  unfold spl; simp only [List.length_append, List.length_take, List.length_drop]; omega
theorem take_self_append {α : Type} (a b : List α) (n : Nat) (h : n = a.length) : (a ++ b).take n = a := by
  subst h; simp
theorem drop_self_append {α : Type} (a b : List α) (n : Nat) (h : n = a.length) : (a ++ b).drop n = b := by
  subst h; simp
/-- What stands from p on is moved, then x is laid in its place. -/
theorem spl_shift {F cur x : List Value} {p q m : Nat} (hF : cur.take (p + m) = F) (hFl : F.length = p + m) (hx : x.length = q) (hc : p + q + m ≤ cur.length) :
    (spl (spl cur (p + q) (F.drop p)) p x).take (p + q + m) = F.take p ++ x ++ F.drop p := by
  have hd : (F.drop p).length = m := by rw [List.length_drop]; omega
  have h1 : (cur.take (p + q)).length = p + q := by rw [List.length_take]; omega
  have e1 : (spl cur (p + q) (F.drop p)).take p = F.take p := by
    unfold spl
    rw [List.append_assoc, List.take_append_of_le_length (by omega), List.take_take, ← hF, List.take_take, Nat.min_eq_left (by omega), Nat.min_eq_left (by omega)]
  have e2 : (spl cur (p + q) (F.drop p)).drop (p + q) = F.drop p ++ cur.drop (p + q + m) := by
    unfold spl
    rw [List.append_assoc, drop_self_append _ _ _ h1.symm, hd]
  generalize spl cur (p + q) (F.drop p) = c1 at e1 e2 ⊢
  unfold spl
  rw [e1, hx, e2, ← List.append_assoc]
  exact take_self_append _ _ _ (by simp only [List.length_append, List.length_take, hx, hd]; omega)
/-- On a new row: x is laid, then what stood from p on. -/
theorem spl_grow {F cur x : List Value} {p q m : Nat} (hF : cur.take p = F.take p) (hFl : F.length = p + m) (hx : x.length = q) (hc : p + q + m ≤ cur.length) :
    (spl (spl cur p x) (p + q) (F.drop p)).take (p + q + m) = F.take p ++ x ++ F.drop p := by
  have hd : (F.drop p).length = m := by rw [List.length_drop]; omega
  have hp : (F.take p).length = p := by rw [List.length_take]; omega
  have e1 : (spl cur p x).take (p + q) = F.take p ++ x := by
    unfold spl
    rw [hF]
    exact take_self_append _ _ _ (by simp only [List.length_append, hp, hx])
  generalize spl cur p x = c1 at e1 ⊢
  unfold spl
  rw [e1]
  exact take_self_append _ _ _ (by simp only [List.length_append, hp, hx, hd])
/-! ### Worlds -/
theorem ins_setRow {w w' : World} {g : Nat} (h : w.grownBy w' (some g)) (cs : Array Value) : w.grownBy (w'.setRow g cs) (some g) :=
  ⟨h.os, h.tape, h.output, by rw [setRow_size]; exact h.size, fun k hk hne => (setRow_other w' g k cs (fun e => hne (by rw [e]))).trans (h.block k hk hne)⟩
theorem ins_setNew {w w' : World} {g : Nat} {row : Option Nat} (h : w.grownBy w' row) (hg : w.heap.size ≤ g) (cs : Array Value) : w.grownBy (w'.setRow g cs) row :=
  ⟨h.os, h.tape, h.output, by rw [setRow_size]; exact h.size, fun k hk hne => (setRow_other w' g k cs (by omega)).trans (h.block k hk hne)⟩
theorem ins_alloc {w w' : World} {row : Option Nat} (h : w.grownBy w' row) (o : Obj) : w.grownBy (w'.alloc o) row :=
  ⟨h.os, h.tape, h.output, Nat.le_trans h.size (by simp), fun k hk hne => (Below.heap_alloc w' o k (Nat.lt_of_lt_of_le hk h.size)).trans (h.block k hk hne)⟩
theorem ins_drew {w w' : World} {row : Option Nat} (h : w.grownBy w' row) : w.grownBy w'.drew row := ⟨h.os, h.tape, h.output, h.size, h.block⟩
/-- What putting an element into a row gives back. -/
def InsPost (base : Nat) (t : TypeId) (sz n : Nat) (v : Value) (ys : List Value) (w : World) (e : Ending) (w' : World) : Prop :=
  ∃ v', e = .returned v' ∧ w'.ownsRow base t sz v' (n + 1) ys ∧ w.grownBy w' v.ownBlock ∧ (v'.ownBlock = v.ownBlock ∨ v'.ownBlock = some w.heap.size)
end Go.Proofs.Ytkhndofplebcaaa
