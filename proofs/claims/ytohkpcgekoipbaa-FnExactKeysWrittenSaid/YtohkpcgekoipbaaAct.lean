/-
  Contracts for the program's operations as actions (actionOf), and for what writes (l5Writes).
-/
import Derived.Test.YtohkpcgekoipbaaGoodO
import Derived.Handy
namespace Go.Proofs.Ytohkpcgekoipbaa
open Go.RowKit CM
set_option linter.unusedVariables false

/-- The action of an operation of a valid kind. -/
def actV (kd : Int) (k v : ByteArray) (bi : Int) : Value :=
  if kd = 2 then .iface 62 (.agg #[.string k, .string v, .bool false])
  else if kd = 3 then .iface 62 (.agg #[.string k, .string ⟨#[]⟩, .bool true])
  else if kd = 4 then .iface 65 (.agg #[.string k, .int .i64 bi])
  else if kd = 5 then .iface 83 (.agg #[.string k, .int .i64 bi])
  else if kd = 6 then .iface 85 (.agg #[.string k])
  else if kd = 7 then .iface 87 (.agg #[.string k, .string v])
  else .iface 88 (.agg #[.string k])
set_option maxHeartbeats 4000000 in
theorem actionOf_any (kd : Int) (k v : ByteArray) (bi : Int) (w : World) :
    Calls Try.prog 37 #[.agg #[.int .i64 kd, .string k, .string v, .int .i64 bi]] w fun e w' => e = .returned (actV kd k v bi) ∧ Below w.heap.size w w' := by
  by_cases h2 : kd = 2
  · subst h2
    go_enter Try.func37, Try.ntmps37
    go_wp2
    go_ret
    exact ⟨rfl, below1 _ _⟩
  · by_cases h3 : kd = 3
    · subst h3
      go_enter Try.func37, Try.ntmps37
      go_wp2
      go_ret
      exact ⟨rfl, below1 _ _⟩
    · by_cases h4 : kd = 4
      · subst h4
        go_enter Try.func37, Try.ntmps37
        go_wp2
        go_ret
        exact ⟨rfl, below1 _ _⟩
      · by_cases h5 : kd = 5
        · subst h5
          go_enter Try.func37, Try.ntmps37
          go_wp2
          go_ret
          exact ⟨rfl, below1 _ _⟩
        · by_cases h6 : kd = 6
          · subst h6
            go_enter Try.func37, Try.ntmps37
            go_wp2
            go_ret
            exact ⟨rfl, below1 _ _⟩
          · by_cases h7 : kd = 7
            · subst h7
              go_enter Try.func37, Try.ntmps37
              go_wp2
              go_ret
              exact ⟨rfl, below1 _ _⟩
            · have HA := Lib.hid (show actV kd k v bi = .iface 88 (.agg #[.string k]) by simp [actV, h2, h3, h4, h5, h6, h7])
              rw [HA.out]
              go_enter Try.func37, Try.ntmps37
              go_wp2
              go_ret
              exact ⟨rfl, below1 _ _⟩

theorem actV_2 (k v : ByteArray) (bi : Int) : actV 2 k v bi = .iface 62 (.agg #[.string k, .string v, .bool false]) := rfl
theorem actV_3 (k v : ByteArray) (bi : Int) : actV 3 k v bi = .iface 62 (.agg #[.string k, .string ⟨#[]⟩, .bool true]) := rfl
theorem actV_4 (k v : ByteArray) (bi : Int) : actV 4 k v bi = .iface 65 (.agg #[.string k, .int .i64 bi]) := rfl
theorem actV_5 (k v : ByteArray) (bi : Int) : actV 5 k v bi = .iface 83 (.agg #[.string k, .int .i64 bi]) := rfl
theorem actV_6 (k v : ByteArray) (bi : Int) : actV 6 k v bi = .iface 85 (.agg #[.string k]) := rfl
theorem actV_7 (k v : ByteArray) (bi : Int) : actV 7 k v bi = .iface 87 (.agg #[.string k, .string v]) := rfl
theorem actV_1 (kd : Int) (k v : ByteArray) (bi : Int) (h2 : kd ≠ 2) (h3 : kd ≠ 3) (h4 : kd ≠ 4) (h5 : kd ≠ 5) (h6 : kd ≠ 6) (h7 : kd ≠ 7) : actV kd k v bi = .iface 88 (.agg #[.string k]) := by simp [actV, h2, h3, h4, h5, h6, h7]

theorem setKey_any (k v : ByteArray) (g : Bool) (w : World) : Calls Try.prog 121 #[.agg #[.string k, .string v, .bool g]] w fun e w' => e = .returned (.string k) ∧ Below w.heap.size w w' := by
  go_enter Try.func121, Try.ntmps121
  go_wp2
  go_ret
  exact ⟨rfl, below1 _ _⟩
theorem onKey_any (k : ByteArray) (w : World) : Calls Try.prog 122 #[.string k] w fun e w' => e = .returned (.string k) ∧ w = w' := by
  go_enter Try.func122, Try.ntmps122
  go_wp2
  go_ret
  exact ⟨rfl, rfl⟩

/-! ### Asking for an action's own type -/
theorem run_assert_hit {P : Program} {t xT : TypeId} {v : Value} {d : TypeDesc} (hu : P.underlying t = some d) (hd : ∀ want, d ≠ .interface want) (w : World) : (Instr.typeAssert (.iface t v) xT t true).run P w = .ok (.tuple #[v, .bool true]) w := by
  unfold Instr.typeAssert
  cases d <;> first | exact absurd rfl (hd _) | simp [run_underlying hu]
theorem run_assert_miss {P : Program} {t xT T : TypeId} {v z : Value} {d : TypeDesc} (hu : P.underlying T = some d) (hd : ∀ want, d ≠ .interface want) (hne : t ≠ T) (hz : ∀ w, (zeroValue T).run P w = .ok z w) (w : World) : (Instr.typeAssert (.iface t v) xT T true).run P w = .ok (.tuple #[z, .bool false]) w := by
  unfold Instr.typeAssert
  cases d <;> first | exact absurd rfl (hd _) | simp [run_underlying hu, hne, hz]
theorem set_set (v : Value) (xT : TypeId) (w : World) : (Instr.typeAssert (.iface 62 v) xT 62 true).run Try.prog w = .ok (.tuple #[v, .bool true]) w := run_assert_hit Try.underlying62 (by intro _ h; cases h) w
theorem add_add (v : Value) (xT : TypeId) (w : World) : (Instr.typeAssert (.iface 65 v) xT 65 true).run Try.prog w = .ok (.tuple #[v, .bool true]) w := run_assert_hit Try.underlying65 (by intro _ h; cases h) w
theorem set_add (v : Value) (xT : TypeId) (w : World) : (Instr.typeAssert (.iface 62 v) xT 65 true).run Try.prog w = .ok (.tuple #[.agg #[.string ⟨#[]⟩, .int .i64 0], .bool false]) w := run_assert_miss Try.underlying65 (by intro _ h; cases h) (by decide) (fun w => by first | exact Try.zeroValue65 w | exact Try.zeroValue65) w
theorem add_set (v : Value) (xT : TypeId) (w : World) : (Instr.typeAssert (.iface 65 v) xT 62 true).run Try.prog w = .ok (.tuple #[.agg #[.string ⟨#[]⟩, .string ⟨#[]⟩, .bool false], .bool false]) w := run_assert_miss Try.underlying62 (by intro _ h; cases h) (by decide) (fun w => by first | exact Try.zeroValue62 w | exact Try.zeroValue62) w
theorem nee_set (v : Value) (xT : TypeId) (w : World) : (Instr.typeAssert (.iface 83 v) xT 62 true).run Try.prog w = .ok (.tuple #[.agg #[.string ⟨#[]⟩, .string ⟨#[]⟩, .bool false], .bool false]) w := run_assert_miss Try.underlying62 (by intro _ h; cases h) (by decide) (fun w => by first | exact Try.zeroValue62 w | exact Try.zeroValue62) w
theorem nee_add (v : Value) (xT : TypeId) (w : World) : (Instr.typeAssert (.iface 83 v) xT 65 true).run Try.prog w = .ok (.tuple #[.agg #[.string ⟨#[]⟩, .int .i64 0], .bool false]) w := run_assert_miss Try.underlying65 (by intro _ h; cases h) (by decide) (fun w => by first | exact Try.zeroValue65 w | exact Try.zeroValue65) w
theorem lac_set (v : Value) (xT : TypeId) (w : World) : (Instr.typeAssert (.iface 85 v) xT 62 true).run Try.prog w = .ok (.tuple #[.agg #[.string ⟨#[]⟩, .string ⟨#[]⟩, .bool false], .bool false]) w := run_assert_miss Try.underlying62 (by intro _ h; cases h) (by decide) (fun w => by first | exact Try.zeroValue62 w | exact Try.zeroValue62) w
theorem lac_add (v : Value) (xT : TypeId) (w : World) : (Instr.typeAssert (.iface 85 v) xT 65 true).run Try.prog w = .ok (.tuple #[.agg #[.string ⟨#[]⟩, .int .i64 0], .bool false]) w := run_assert_miss Try.underlying65 (by intro _ h; cases h) (by decide) (fun w => by first | exact Try.zeroValue65 w | exact Try.zeroValue65) w
theorem mat_set (v : Value) (xT : TypeId) (w : World) : (Instr.typeAssert (.iface 87 v) xT 62 true).run Try.prog w = .ok (.tuple #[.agg #[.string ⟨#[]⟩, .string ⟨#[]⟩, .bool false], .bool false]) w := run_assert_miss Try.underlying62 (by intro _ h; cases h) (by decide) (fun w => by first | exact Try.zeroValue62 w | exact Try.zeroValue62) w
theorem mat_add (v : Value) (xT : TypeId) (w : World) : (Instr.typeAssert (.iface 87 v) xT 65 true).run Try.prog w = .ok (.tuple #[.agg #[.string ⟨#[]⟩, .int .i64 0], .bool false]) w := run_assert_miss Try.underlying65 (by intro _ h; cases h) (by decide) (fun w => by first | exact Try.zeroValue65 w | exact Try.zeroValue65) w
theorem rea_set (v : Value) (xT : TypeId) (w : World) : (Instr.typeAssert (.iface 88 v) xT 62 true).run Try.prog w = .ok (.tuple #[.agg #[.string ⟨#[]⟩, .string ⟨#[]⟩, .bool false], .bool false]) w := run_assert_miss Try.underlying62 (by intro _ h; cases h) (by decide) (fun w => by first | exact Try.zeroValue62 w | exact Try.zeroValue62) w
theorem rea_add (v : Value) (xT : TypeId) (w : World) : (Instr.typeAssert (.iface 88 v) xT 65 true).run Try.prog w = .ok (.tuple #[.agg #[.string ⟨#[]⟩, .int .i64 0], .bool false]) w := run_assert_miss Try.underlying65 (by intro _ h; cases h) (by decide) (fun w => by first | exact Try.zeroValue65 w | exact Try.zeroValue65) w

/-- Which kinds write. -/
def wkB (kd : Int) : Bool := decide (kd = 2 ∨ kd = 3 ∨ kd = 4)
theorem l5Writes_yes (kd : Int) (h : wkB kd = true) (w : World) : Calls Try.prog 35 #[.int .i64 kd] w fun e w' => e = .returned (.bool true) ∧ w = w' := by
  unfold wkB at h
  rcases of_decide_eq_true h with rfl | rfl | rfl <;>
  · clear h
    go_enter Try.func35, Try.ntmps35
    go_wp2
    go_ret
    exact ⟨rfl, rfl⟩
theorem l5Writes_no (kd : Int) (h : wkB kd = false) (w : World) : Calls Try.prog 35 #[.int .i64 kd] w fun e w' => e = .returned (.bool false) ∧ w = w' := by
  unfold wkB at h
  have h' := of_decide_eq_false h
  have e1 : (kd == 2) = false := beq_eq_false_iff_ne.2 (fun e => h' (.inl e))
  have e2 : (kd == 3) = false := beq_eq_false_iff_ne.2 (fun e => h' (.inr (.inl e)))
  have e3 : (kd == 4) = false := beq_eq_false_iff_ne.2 (fun e => h' (.inr (.inr e)))
  clear h h'
  go_enter Try.func35, Try.ntmps35
  go_wp2
  go_ret
  exact ⟨by first | rfl | rw [e3], rfl⟩

/-- The keys that a program writes, as its operations name them. -/
def kwL (l : List (Int × ByteArray × ByteArray × Int)) : List ByteArray := (l.filter fun x => wkB x.1).map fun x => x.2.1
theorem kwL_succ {l : List (Int × ByteArray × ByteArray × Int)} {k : Nat} (h : k < l.length) : kwL (l.take (k + 1)) = kwL (l.take k) ++ (if wkB l[k].1 then [l[k].2.1] else []) := by
  unfold kwL
  rw [List.take_succ_eq_append_getElem h, List.filter_append, List.map_append]
  cases hg : wkB l[k].1 <;> simp [hg]
theorem kwL_len (l : List (Int × ByteArray × ByteArray × Int)) : (kwL l).length ≤ l.length := by
  unfold kwL
  rw [List.length_map]
  exact List.length_filter_le _ _
theorem osB_len {l : List (Int × ByteArray × ByteArray × Int)} (h : osB l = true) : l.length ≤ 8 := by
  simp only [osB, Bool.and_eq_true, decide_eq_true_eq] at h
  exact h.2
end Go.Proofs.Ytohkpcgekoipbaa
