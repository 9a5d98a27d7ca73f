/-
  Contracts for the laws' helpers that copy what a law is handed: toVerS, toWriteS, toCellS.
-/
import Derived.Test.YtpppgihoekfmoaaMem
namespace Go.Proofs.Ytpppgihoekfmoaa
open Go.RowKit
set_option linter.unusedVariables false

section
variable {w : World} {g n k : Nat} {t : TypeId}
theorem Fill.snocV {vs : List (Int × ByteArray × Bool)} (h : Fill w g n 3 t ((vs.take k).map verCs) k) (hk : k < vs.length) (hn : k < n) :
    Fill (((w.setCell ⟨g, k * 3, none⟩ (.int .i64 vs[k].1)).setCell ⟨g, k * 3 + 1, none⟩ (.string vs[k].2.1)).setCell ⟨g, k * 3 + 2, none⟩ (.bool vs[k].2.2)) g n 3 t ((vs.take (k + 1)).map verCs) (k + 1) := by
  have hl : ((vs.take k).map verCs).length = k := by simp; omega
  have e : (vs.take (k + 1)).map verCs = (vs.take k).map verCs ++ [[.int .i64 vs[k].1, .string vs[k].2.1, .bool vs[k].2.2]] := by
    rw [List.take_succ_eq_append_getElem hk, List.map_append]
    rfl
  have h1 := Fill.snoc3 (u := .int .i64 vs[k].1) (v := .string vs[k].2.1) (x := .bool vs[k].2.2) (L := (vs.take k).map verCs) (by rw [hl]; exact h) (by omega)
  rw [hl] at h1
  rw [e]
  have hl2 : ((vs.take k).map verCs ++ [[Value.int .i64 vs[k].1, .string vs[k].2.1, .bool vs[k].2.2]]).length = k + 1 := by rw [List.length_append, hl]; rfl
  rw [hl2] at h1
  exact h1
theorem Fill.snocW {vs : List (ByteArray × ByteArray × Bool)} (h : Fill w g n 3 t ((vs.take k).map wrCs) k) (hk : k < vs.length) (hn : k < n) :
    Fill (((w.setCell ⟨g, k * 3, none⟩ (.string vs[k].1)).setCell ⟨g, k * 3 + 1, none⟩ (.string vs[k].2.1)).setCell ⟨g, k * 3 + 2, none⟩ (.bool vs[k].2.2)) g n 3 t ((vs.take (k + 1)).map wrCs) (k + 1) := by
  have hl : ((vs.take k).map wrCs).length = k := by simp; omega
  have e : (vs.take (k + 1)).map wrCs = (vs.take k).map wrCs ++ [[.string vs[k].1, .string vs[k].2.1, .bool vs[k].2.2]] := by
    rw [List.take_succ_eq_append_getElem hk, List.map_append]
    rfl
  have h1 := Fill.snoc3 (u := .string vs[k].1) (v := .string vs[k].2.1) (x := .bool vs[k].2.2) (L := (vs.take k).map wrCs) (by rw [hl]; exact h) (by omega)
  rw [hl] at h1
  rw [e]
  have hl2 : ((vs.take k).map wrCs ++ [[Value.string vs[k].1, .string vs[k].2.1, .bool vs[k].2.2]]).length = k + 1 := by rw [List.length_append, hl]; rfl
  rw [hl2] at h1
  exact h1
theorem Fill.snocC {gs : List (ByteArray × Option Addr × Nat × List (Int × ByteArray × Bool))} (h : Fill w g n 2 t (gs.map cellCs) k) (hk : gs.length = k) (hn : k < n) (key : ByteArray) (A : Option Addr) (c : Nat) (vs : List (Int × ByteArray × Bool)) :
    Fill ((w.setCell ⟨g, k * 2, none⟩ (.string key)).setCell ⟨g, k * 2 + 1, none⟩ (.slice A vs.length c)) g n 2 t ((gs ++ [(key, A, c, vs)]).map cellCs) (k + 1) := by
  have hl : (gs.map cellCs).length = k := by simpa using hk
  have h1 := Fill.snoc2 (u := .string key) (v := .slice A vs.length c) (L := gs.map cellCs) (by rw [hl]; exact h) (by omega)
  rw [hl] at h1
  have hl2 : (gs.map cellCs ++ [[Value.string key, .slice A vs.length c]]).length = k + 1 := by rw [List.length_append, hl]; rfl
  rw [hl2] at h1
  rw [List.map_append]
  exact h1
end

end Go.Proofs.Ytpppgihoekfmoaa
