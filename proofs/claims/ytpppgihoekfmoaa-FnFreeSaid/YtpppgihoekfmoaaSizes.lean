/-
  Plain facts on lists of versions, writes and cells: how much they hold; what is small. Nothing of the program.
-/
import Derived.Test.YtpppgihoekfmoaaCellMath
import Derived.WalkKit
namespace Go.Proofs.Ytpppgihoekfmoaa
open Go
set_option linter.unusedVariables false

/-- A cell as data: its key and its versions. -/
def dat (h : (ByteArray × Option Addr × Nat × List (Int × ByteArray × Bool))) : (ByteArray × List (Int × ByteArray × Bool)) := (h.1, h.2.2.2)
def szVs (vs : List (Int × ByteArray × Bool)) : Nat := vs.length + (vs.map fun v => v.2.1.size).sum
def szWs (ws : List (ByteArray × ByteArray × Bool)) : Nat := ws.length + (ws.map fun x => x.1.size + x.2.1.size).sum
def szHs (hs : List (ByteArray × Option Addr × Nat × List (Int × ByteArray × Bool))) : Nat := hs.length + (hs.map fun h => h.1.size + szVs h.2.2.2).sum

theorem sum_take_succ {α : Type} (f : α → Nat) (l : List α) (k : Nat) (h : k < l.length) : ((l.take (k + 1)).map f).sum = ((l.take k).map f).sum + f l[k] := by
  rw [List.take_succ_eq_append_getElem h, List.map_append, List.sum_append]
  simp
theorem sum_take_le {α : Type} (f : α → Nat) (l : List α) (k : Nat) : ((l.take k).map f).sum ≤ (l.map f).sum := by
  induction l generalizing k with
  | nil => simp
  | cons a l ih =>
    cases k with
    | zero => simp
    | succ k => simp only [List.take_succ_cons, List.map_cons, List.sum_cons]; have := ih k; omega
theorem le_sum {α : Type} (f : α → Nat) (l : List α) (a : α) (h : a ∈ l) : f a ≤ (l.map f).sum := by
  induction l with
  | nil => simp at h
  | cons b l ih =>
    simp only [List.map_cons, List.sum_cons]
    rcases List.mem_cons.1 h with rfl | h
    · omega
    · have := ih h; omega

/-- Lists whose lengths and strings are at most 2^20. -/
def VSmall (vs : List (Int × ByteArray × Bool)) : Prop := vs.length ≤ 1048576 ∧ ∀ v ∈ vs, v.2.1.size ≤ 1048576
def WSmall (ws : List (ByteArray × ByteArray × Bool)) : Prop := ws.length ≤ 1048576 ∧ ∀ x ∈ ws, x.1.size ≤ 1048576 ∧ x.2.1.size ≤ 1048576
def HSmall (hs : List (ByteArray × Option Addr × Nat × List (Int × ByteArray × Bool))) : Prop := hs.length ≤ 1048576 ∧ ∀ h ∈ hs, h.1.size ≤ 1048576 ∧ VSmall h.2.2.2
theorem vsmall_of {vs : List (Int × ByteArray × Bool)} (h : szVs vs ≤ 1048576) : VSmall vs := by
  unfold szVs at h
  exact ⟨by omega, fun v hv => by have := le_sum (fun v : (Int × ByteArray × Bool) => v.2.1.size) vs v hv; omega⟩
theorem wsmall_of {ws : List (ByteArray × ByteArray × Bool)} (h : szWs ws ≤ 1048576) : WSmall ws := by
  unfold szWs at h
  exact ⟨by omega, fun v hv => by have := le_sum (fun x : (ByteArray × ByteArray × Bool) => x.1.size + x.2.1.size) ws v hv; omega⟩
theorem hsmall_of {hs : List (ByteArray × Option Addr × Nat × List (Int × ByteArray × Bool))} (h : szHs hs ≤ 1048576) : HSmall hs := by
  unfold szHs at h
  refine ⟨by omega, fun v hv => ?_⟩
  have := le_sum (fun h : (ByteArray × Option Addr × Nat × List (Int × ByteArray × Bool)) => h.1.size + szVs h.2.2.2) hs v hv
  exact ⟨by omega, vsmall_of (by omega)⟩

/-- Lists that a law can be handed. -/
def VMax (vs : List (Int × ByteArray × Bool)) : Prop := vs.length ≤ maxLen ∧ ∀ v ∈ vs, v.2.1.size ≤ maxLen
def WMax (ws : List (ByteArray × ByteArray × Bool)) : Prop := ws.length ≤ maxLen ∧ ∀ x ∈ ws, x.1.size ≤ maxLen ∧ x.2.1.size ≤ maxLen
def HMax (hs : List (ByteArray × Option Addr × Nat × List (Int × ByteArray × Bool))) : Prop := hs.length ≤ maxLen ∧ ∀ h ∈ hs, h.1.size ≤ maxLen ∧ VMax h.2.2.2
/-- What is left of l when t is taken. -/
def remI (t l : Nat) : Int := if t ≤ l then (l : Int) - t else -1
theorem remI_yes {t l : Nat} (h : t ≤ l) : remI t l = (l : Int) - t := if_pos h
theorem remI_no {t l : Nat} (h : l < t) : remI t l = -1 := if_neg (by omega)

/-- The lists that the laws count: the same data, the same sizes. -/
theorem dats_len {hs gs : List (ByteArray × Option Addr × Nat × List (Int × ByteArray × Bool))} (h : gs.map dat = hs.map dat) : gs.length = hs.length := by
  have := congrArg List.length h
  simpa using this
theorem dats_at {hs gs : List (ByteArray × Option Addr × Nat × List (Int × ByteArray × Bool))} (h : gs.map dat = hs.map dat) (k : Nat) (h1 : k < gs.length) (h2 : k < hs.length) : gs[k].1 = hs[k].1 ∧ gs[k].2.2.2 = hs[k].2.2.2 := by
  have e : (gs.map dat)[k]'(by simpa using h1) = (hs.map dat)[k]'(by simpa using h2) := by simp only [h]
  simp only [List.getElem_map, dat, Prod.mk.injEq] at e
  exact e
theorem dats_small {hs gs : List (ByteArray × Option Addr × Nat × List (Int × ByteArray × Bool))} (h : gs.map dat = hs.map dat) (hh : HSmall hs) : HSmall gs := by
  refine ⟨by rw [dats_len h]; exact hh.1, fun g hg => ?_⟩
  obtain ⟨k, hk, rfl⟩ := List.mem_iff_getElem.1 hg
  have hk2 : k < hs.length := by rw [← dats_len h]; exact hk
  obtain ⟨e1, e2⟩ := dats_at h k hk hk2
  rw [e1, e2]
  exact hh.2 _ (List.getElem_mem hk2)
theorem szHs_eq {hs gs : List (ByteArray × Option Addr × Nat × List (Int × ByteArray × Bool))} (h : gs.map dat = hs.map dat) : szHs gs = szHs hs := by
  have e : ∀ l : List (ByteArray × Option Addr × Nat × List (Int × ByteArray × Bool)), szHs l = l.length + ((l.map dat).map fun c => c.1.size + szVs c.2).sum := fun l => by
    unfold szHs
    rw [List.map_map]
    rfl
  rw [e, e, h, dats_len h]
/-- A list of data given addresses. -/
theorem take_dats {hs gs : List (ByteArray × Option Addr × Nat × List (Int × ByteArray × Bool))} {k : Nat} (h : gs.map dat = (hs.map dat).take k) (hk : k < hs.length) (a : Option Addr) (c : Nat) : (gs ++ [(hs[k].1, a, c, hs[k].2.2.2)]).map dat = (hs.map dat).take (k + 1) := by
  rw [List.take_succ_eq_append_getElem (by simpa using hk), List.map_append, h]
  simp [dat]
end Go.Proofs.Ytpppgihoekfmoaa
