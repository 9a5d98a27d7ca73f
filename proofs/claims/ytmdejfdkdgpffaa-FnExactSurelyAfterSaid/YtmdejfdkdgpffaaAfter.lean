/-
  The walk of the exact law of SurelyAfter: two regions, each of three calls beside two loads.
-/
import Derived.Test.YtmdejfdkdgpffaaWait
namespace Go.Proofs.Ytmdejfdkdgpffaa
open Go.RowKit
set_option linter.unusedVariables false

set_option maxRecDepth 100000 in
set_option maxHeartbeats 2000000 in
theorem surelyAfter_walk (a b c d : Int) (w : World) :
    Calls Try.prog 13 #[.agg #[.int .i64 a, .int .i64 b], .agg #[.int .i64 c, .int .i64 d]] w fun e w' => e = .returned (.bool true) ∧ Below w.heap.size w w' := by
  obtain ⟨o1, ho1⟩ : ∃ o, o = Obj.cells #[.int .i64 a, .int .i64 b] 51 := ⟨_, rfl⟩
  obtain ⟨o2, ho2⟩ : ∃ o, o = Obj.cells #[.int .i64 c, .int .i64 d] 51 := ⟨_, rfl⟩
  have hbel := below2 w o1 o2
  have hlt : w.heap.size + 1 < ((w.alloc o1).alloc o2).heap.size := by simp
  have c0 : ((w.alloc o1).alloc o2).cell? ⟨w.heap.size, 0, none⟩ = some (.int .i64 a) := by rw [ho1, ho2]; go_simp
  have c1 : ((w.alloc o1).alloc o2).cell? ⟨w.heap.size, 1, none⟩ = some (.int .i64 b) := by rw [ho1, ho2]; go_simp
  have d0 : ((w.alloc o1).alloc o2).cell? ⟨w.heap.size + 1, 0, none⟩ = some (.int .i64 c) := by rw [ho1, ho2]; go_simp
  have d1 : ((w.alloc o1).alloc o2).cell? ⟨w.heap.size + 1, 1, none⟩ = some (.int .i64 d) := by rw [ho1, ho2]; go_simp
  have HO1 := Lib.hid ho1
  have HO2 := Lib.hid ho2
  clear ho1 ho2
  go_enter Try.func13, Try.ntmps13
  go_wp2_with fail
  rw [← HO1.out, ← HO2.out]
  generalize (w.alloc o1).alloc o2 = W at *
  obtain ⟨g, hg⟩ : ∃ g, g = w.heap.size := ⟨_, rfl⟩
  rw [← hg] at c0 c1 d0 d1 hlt hbel ⊢
  have HG := Lib.hid hg
  clear hg HO1 HO2
  go_region_held3 (fun w' => w'.cell? ⟨g, 0, none⟩ = some (.int .i64 a) ∧ w'.cell? ⟨g, 1, none⟩ = some (.int .i64 b) ∧ w'.cell? ⟨g + 1, 0, none⟩ = some (.int .i64 c) ∧ w'.cell? ⟨g + 1, 1, none⟩ = some (.int .i64 d) ∧ Below g w w' ∧ g + 1 < w'.heap.size)
    (first | exact ⟨c0, c1, d0, d1, hbel.drew, hlt⟩ | (go_split_ands; exact ⟨kept2 hb (by assumption) (by omega), kept2 hb (by assumption) (by omega), kept2 hb (by assumption) (by omega), kept2 hb (by assumption) (by omega), Below.trans (by assumption) (hb.mono (by omega)), by have := hb.size; omega⟩))
    (first | (go_at_call 37; (with_reducible refine (toSpan_any _ _ _).mono ?_); rintro e w4 ⟨rfl, hb⟩) | (go_at_call 33; (with_reducible refine (specSurelyAfter_any _ _ _ _ _).mono ?_); rintro e w4 ⟨rfl, hb⟩))
  all_goals
    rename_i hh
    clear c0 c1 d0 d1 hbel hlt
    obtain ⟨c0, c1, d0, d1, hbel, hlt⟩ := hh
    clear hb
    go_wp2_with fail
    go_region_held3 (fun w' => w'.cell? ⟨g, 0, none⟩ = some (.int .i64 a) ∧ w'.cell? ⟨g, 1, none⟩ = some (.int .i64 b) ∧ w'.cell? ⟨g + 1, 0, none⟩ = some (.int .i64 c) ∧ w'.cell? ⟨g + 1, 1, none⟩ = some (.int .i64 d) ∧ Below g w w' ∧ g + 1 < w'.heap.size)
      (first | exact ⟨c0, c1, d0, d1, hbel.drew, hlt⟩ | (go_split_ands; exact ⟨kept2 hb (by assumption) (by omega), kept2 hb (by assumption) (by omega), kept2 hb (by assumption) (by omega), kept2 hb (by assumption) (by omega), Below.trans (by assumption) (hb.mono (by omega)), by have := hb.size; omega⟩))
      (first | (go_at_call 37; (with_reducible refine (toSpan_any _ _ _).mono ?_); rintro e w4 ⟨rfl, hb⟩) | (go_at_call 28; (with_reducible refine (surelyAfter_any _ _ _ _ _).mono ?_); rintro e w4 ⟨rfl, hb⟩))
    all_goals
      rename_i hh
      obtain ⟨_, _, _, _, hlast, _⟩ := hh
      have HL := Lib.hid hlast
      clear hlast hb
      go_wp2
      go_ret
      exact ⟨rfl, by have h := HL.out; rw [HG.out] at h; exact h⟩
end Go.Proofs.Ytmdejfdkdgpffaa
